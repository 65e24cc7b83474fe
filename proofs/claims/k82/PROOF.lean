import PyProof.Rows.All
import Wide.All
import OpenK.AllK
import PySem.Challenge.RW_whyrows_k82_no_text
set_option Elab.async false
set_option linter.all false
set_option maxRecDepth 100000
set_option maxHeartbeats 4000000
namespace Tim
open PySem PyProof.Rows
section
variable {M : Model} {A : Around} {E : Value → Shared → Prop} {s : Shared} {kd : SortKind} {S : Keyed → Prop} {rk : Keyed → Int} {n : Nat}
end
end Tim
namespace Tim
section
variable {α : Type} {rk : α → Int} {as bs out : List α} {ia ib : Nat}
end
end Tim
namespace Tim
open PySem PyProof.Rows
section
variable {M : Model} {A : Around} {E : Value → Shared → Prop} {s : Shared} {kd : SortKind} {S : Keyed → Prop} {rk : Keyed → Int}
end
end Tim
namespace Tim
open PySem PyProof.Rows
section
variable {rk : Keyed → Int} {a b o : Array Keyed} {x y : Nat}
end
section
variable {S : Keyed → Prop} {rk : Keyed → Int} {a b o : Array Keyed} {x y : Nat}
end
section
variable {M : Model} {A : Around} {E : Value → Shared → Prop} {s : Shared} {kd : SortKind} {S : Keyed → Prop} {rk : Keyed → Int} {a b : Array Keyed} {st : SortSt}
end
end Tim
namespace Tim
open PySem PyProof.Rows
section
variable {rk : Keyed → Int} {a b o : Array Keyed} {x y : Nat}
end
section
variable {S : Keyed → Prop} {rk : Keyed → Int} {a b o : Array Keyed} {x y : Nat}
end
section
variable {M : Model} {A : Around} {E : Value → Shared → Prop} {s : Shared} {kd : SortKind} {S : Keyed → Prop} {rk : Keyed → Int} {a b : Array Keyed} {st : SortSt}
end
end Tim
namespace Tim
open PySem PyProof.Rows
section
variable {rk : Keyed → Int} {xs ys : Array Keyed}
end
section
variable {M : Model} {A : Around} {E : Value → Shared → Prop} {s : Shared} {kd : SortKind} {S : Keyed → Prop} {rk : Keyed → Int} {n : Nat}
end
end Tim
namespace Tim
open PySem PyProof.Rows
section
variable {M : Model} {A : Around} {E : Value → Shared → Prop} {s : Shared} {kd : SortKind} {S : Keyed → Prop} {rk : Keyed → Int} {n : Nat}
end
end Tim
namespace Tim
open PySem PyProof.Rows
section
variable {α : Type}
end
section
variable {prog : Program} {w : World} {A : Around} {E : Value → Shared → Prop} {s : Shared}
end
end Tim
namespace Tim
section
variable {α β : Type}
end
end Tim
namespace L2
open PySem PySem.Spec PyProof.Rows
abbrev Key := Sum Int Str
def keyIs : Key → Value → Bool
  | .inl k, v => Value.isInt k v
  | .inr x, v => Value.isStrOf x v
def keyH (w : World) : Key → Int
  | .inl k => hashInt k
  | .inr x => hashStr w x
theorem keyIs_shape : ∀ {k : Key} {v : Value}, keyIs k v = true → (∃ i t, k = Sum.inl i ∧ v = Value.int i t) ∨ (∃ x t, k = Sum.inr x ∧ v = Value.str x t)
  | .inl i, v, h => by
    obtain ⟨t, e⟩ := Value.isInt_shape (k := i) (v := v) h
    exact .inl ⟨i, t, rfl, e⟩
  | .inr x, v, h => by
    obtain ⟨t, e⟩ := Value.isStrOf_shape (x := x) (v := v) h
    exact .inr ⟨x, t, rfl, e⟩
theorem key_ll (a b : Int) : decide ((Sum.inl a : Key) = Sum.inl b) = (a == b) := by
  by_cases e : a = b
  · subst e; simp
  · have h : ¬ (Sum.inl a : Key) = Sum.inl b := fun q => e (Sum.inl.inj q)
    rw [decide_eq_false h]
    exact (beq_eq_false_iff_ne.mpr e).symm
theorem key_rr (a b : Str) : decide ((Sum.inr a : Key) = Sum.inr b) = decide (a = b) := by
  by_cases e : a = b
  · subst e; simp
  · have h : ¬ (Sum.inr a : Key) = Sum.inr b := fun q => e (Sum.inr.inj q)
    rw [decide_eq_false h, decide_eq_false e]
theorem key_lr (a : Int) (b : Str) : decide ((Sum.inl a : Key) = Sum.inr b) = false := decide_eq_false (fun q => nomatch q)
theorem key_rl (a : Str) (b : Int) : decide ((Sum.inr a : Key) = Sum.inl b) = false := decide_eq_false (fun q => nomatch q)
def mixKind (prog : Program) (w : World) : PySem.KeyKind prog w Key where
  is := keyIs
  hash := keyH w
  inj := fun v a b ha hb => by
    rcases keyIs_shape ha with ⟨i, t, rfl, rfl⟩ | ⟨x, t, rfl, rfl⟩
    · rcases keyIs_shape hb with ⟨j, u, rfl, e⟩ | ⟨y, u, rfl, e⟩
      · injection e with e1 _; rw [e1]
      · exact nomatch e
    · rcases keyIs_shape hb with ⟨j, u, rfl, e⟩ | ⟨y, u, rfl, e⟩
      · exact nomatch e
      · injection e with e1 _; rw [e1]
  byValue := fun k v h => by
    rcases keyIs_shape h with ⟨i, t, rfl, rfl⟩ | ⟨x, t, rfl, rfl⟩ <;> rfl
  pyHash := fun hv h => by
    rcases keyIs_shape hv with ⟨i, t, rfl, rfl⟩ | ⟨x, t, rfl, rfl⟩
    · exact wpAny_pyHash_int h
    · exact wpAny_pyHash_str h
  eqBool := fun hu hv h => by
    rcases keyIs_shape hu with ⟨i, t, rfl, rfl⟩ | ⟨x, t, rfl, rfl⟩
    · rcases keyIs_shape hv with ⟨j, u, rfl, rfl⟩ | ⟨y, u, rfl, rfl⟩
      · rw [key_ll] at h; exact wpAny_eqBool_int h
      · rw [key_lr] at h; exact SeqAt.EqAt.int_str i t y u _ _ _ _ h
    · rcases keyIs_shape hv with ⟨j, u, rfl, rfl⟩ | ⟨y, u, rfl, rfl⟩
      · rw [key_rl] at h; exact SeqAt.EqAt.str_int x t j u _ _ _ _ h
      · rw [key_rr] at h; exact wpAny_eqBool_str h
  «strs» := fun k x t v h => by
    rcases keyIs_shape h with ⟨i, u, rfl, e⟩ | ⟨y, u, rfl, e⟩
    · exact nomatch e
    · injection e with e1 _
      subst e1
      cases v <;> rfl
end L2
namespace L2
open PySem PySem.Spec PyProof.Rows
inductive V where
  | non | bl (b : Bool) | int (i : Int) | str (x : Str) | byt (b : Array UInt8) | flt (b : UInt64) | ref (a : Addr) | ty (n : String)
  deriving DecidableEq
def RelV : V → Value → Prop
  | .non, u => u = Value.none
  | .bl b, u => u = Value.bool b
  | .int i, u => ∃ t, u = Value.int i t
  | .str x, u => ∃ t, u = Value.str x t
  | .byt b, u => ∃ t, u = Value.bytes b t
  | .flt b, u => ∃ t, u = Value.float b t
  | .ref a, u => u = Value.ref a
  | .ty n, u => u = Value.type n
abbrev Vals : List V → List Value → Prop := Paired RelV
theorem Vals.length {xs : List V} {us : List Value} (r : Vals xs us) : xs.length = us.length := Paired.length r
theorem Vals.get : ∀ {xs : List V} {us : List Value} {i : Nat} {x : V}, Vals xs us → xs[i]? = some x → ∃ u, us[i]? = some u ∧ RelV x u
  | _, _, _, _, .nil, e => by simp at e
  | _, _, 0, _, .cons r _, e => by simp at e; subst e; exact ⟨_, rfl, r⟩
  | _, _, i + 1, x, .cons _ t, e => by
    obtain ⟨u, h1, h2⟩ := Vals.get (i := i) (x := x) t (by simpa using e)
    exact ⟨u, by simpa using h1, h2⟩
theorem Vals.append : ∀ {xs ys : List V} {us ws : List Value}, Vals xs us → Vals ys ws → Vals (xs ++ ys) (us ++ ws)
  | _, _, _, _, .nil, s => s
  | _, _, _, _, .cons r t, s => .cons r (Vals.append t s)
theorem Vals.take : ∀ {xs : List V} {us : List Value} (n : Nat), Vals xs us → Vals (xs.take n) (us.take n)
  | _, _, 0, _ => .nil
  | _, _, _ + 1, .nil => .nil
  | _, _, n + 1, .cons r t => .cons r (Vals.take n t)
theorem Vals.drop : ∀ {xs : List V} {us : List Value} (n : Nat), Vals xs us → Vals (xs.drop n) (us.drop n)
  | _, _, 0, r => r
  | _, _, _ + 1, .nil => .nil
  | _, _, n + 1, .cons _ t => Vals.drop n t
def RelO : Option V → Option Value → Prop
  | some v, some u => RelV v u
  | none, none => True
  | _, _ => False
def KV {κ : Type} : List (κ × V) → List (κ × Value) → Prop := Paired fun (p : κ × V) (q : κ × Value) => p.1 = q.1 ∧ RelV p.2 q.2
def kV : Key → V
  | .inl i => .int i
  | .inr x => .str x
inductive HO where
  /-- a list -/
  | lst (xs : List V)
  /-- a tuple (never changes) -/
  | tup (xs : List V)
  /-- a dict whose keys are ints and texts; one whose keys are tuples of ints and texts (the empty one is both) -/
  | dK (kvs : List (Key × V)) | dT (kvs : List (List Key × V))
  /-- a set of ints: its members, its size -/
  | set (S : Int → Bool) (n : Nat)
  /-- an instance of the class at C, its dict at dx, its attributes -/
  | ins (C dx : Addr) (fs : List (Str × V))
  /-- the dict of the instance at x -/
  | own (x : Addr)
  /-- the dict of an exception -/
  | xd (fs : List (Str × V))
  /-- a bound method, f of x -/
  | met (f x : Addr)
  /-- a range object lo, lo + 1, .. below hi -/
  | rng (lo hi : Int)
  /-- a thing that is known to the object (the script; a dict while a loop walks it): read, never written while it is so -/
  | frz (o : Obj) (u : HO)
  /-- a code object's table -/
  | tbl (ps : Array Value)
  /-- any other thing, by what is true of its one object (a def of one's own: SetO a S n := HO.ext fun h => ..) -/
  | ext (φ : Heap → Prop)
abbrev Hp := Addr → Option HO
def upd (H : Hp) (a : Addr) (o : HO) : Hp := fun b => if b = a then some o else H b
theorem upd_same {H : Hp} {a : Addr} {o : HO} : upd H a o a = some o := by unfold upd; rw [if_pos rfl]
theorem upd_ne {H : Hp} {a b : Addr} {o : HO} (h : b ≠ a) : upd H a o b = H b := by unfold upd; rw [if_neg h]
theorem upd_upd {H : Hp} {a : Addr} {o u : HO} : upd (upd H a o) a u = upd H a u := by
  funext b; unfold upd; split <;> rfl
theorem ne_of_none {H : Hp} {a b : Addr} {o : HO} (h : H a = some o) (h' : H b = none) : a ≠ b := by
  intro e; subst e; rw [h] at h'; cases h'
section
variable (P : Program) (w : World)
def ObjOk (H : Hp) (h : Heap) (a : Addr) : HO → Prop
  | .lst xs => xs.length ≤ sizeLine ∧ ∃ (its : List Value) (n : Nat), Vals xs its ∧ h.get? a = some { cls := .type "list", data := .seq its.toArray n }
  | .tup xs => xs.length ≤ sizeLine ∧ ∃ its : List Value, Vals xs its ∧ IsTup h a its.toArray
  | .dK kvs => kvs.length ≤ sizeLine ∧ (a == sysModules) = false ∧ ∃ vs, KV kvs vs ∧ h.DictOf (mixKind P w) a vs
  | .dT kvs => kvs.length ≤ sizeLine ∧ (a == sysModules) = false ∧ ∃ xs : List (List Key × Addr × Value),
      Paired (fun (p : List Key × V) (q : List Key × Addr × Value) => p.1 = q.1 ∧ H q.2.1 = some (.tup (p.1.map kV)) ∧ RelV p.2 q.2.2) kvs xs ∧
      ∃ o es ep, h.get? a = some o ∧ o.ExactDict ∧ o.data = .dict es ep ∧ es.toList = xs.map (entryOfKey (tupleKind (mixKind P w))) ∧ (xs.map (·.1)).Nodup
  | .set S n => h.SetOf (intKind P w) a S n
  | .ins C dx fs => H dx = some (.own a) ∧ fs.length ≤ 1000 ∧ dx ≠ a ∧ h.get? a = some (PySem.W.instObj C dx) ∧
      ∃ mA, h.Ns1 dx mA ∧ (∀ f, RelO (fs.lookup f) (mA f)) ∧ PySem.Within mA (fs.map (·.1))
  | .own _ => ∃ o, h.get? a = some o
  | .xd fs => ∃ mA, h.Ns1 a mA ∧ ∀ f, RelO (fs.lookup f) (mA f)
  | .rng lo hi => ∃ t u v, h.get? a = some { cls := .type "range", data := .fields #[.int lo t, .int hi u, .int 1 v] }
  | .frz o u => h.get? a = some o ∧ ObjOk H h a u
  | .tbl ps => h.get? a = some { cls := .none, data := .fields ps }
  | .met f x => h.get? a = some (PySem.W.methodObj (.ref f) (.ref x))
  | .ext φ => φ h ∧ (∃ o, h.get? a = some o) ∧ ∀ h1 h2 : Heap, φ h1 → (∀ o, h1.get? a = some o → h2.get? a = some o) → φ h2
def HOk (H : Hp) (h : Heap) : Prop := ∀ a o, H a = some o → ObjOk P w H h a o
end
section
variable {P : Program} {w : World} {H H' : Hp} {h h' : Heap} {a : Addr} {o : HO}
theorem ObjOk.lt (x : ObjOk P w H h a o) : a < h.objs.size := by
  cases o with
  | lst xs => obtain ⟨_, _, _, _, e⟩ := x; exact Heap.lt_size e
  | tup xs => obtain ⟨_, _, _, p⟩ := x; exact p.lt
  | dK kvs => obtain ⟨_, _, _, _, o, _, _, e, _⟩ := x; exact Heap.lt_size e
  | dT kvs => obtain ⟨_, _, _, _, o, _, _, e, _⟩ := x; exact Heap.lt_size e
  | set S n => obtain ⟨o, _, _, _, e, _⟩ := x; exact Heap.lt_size e
  | ins C dx fs => obtain ⟨_, _, _, e, _⟩ := x; exact Heap.lt_size e
  | own y => obtain ⟨_, e⟩ := x; exact Heap.lt_size e
  | xd fs => obtain ⟨_, ⟨_, _, _, e, _⟩, _⟩ := x; exact Heap.lt_size e
  | rng lo hi => obtain ⟨_, _, _, e⟩ := x; exact Heap.lt_size e
  | frz ob u => obtain ⟨e, _⟩ := x; exact Heap.lt_size e
  | tbl ps => exact Heap.lt_size (show h.get? a = some _ from x)
  | met f y => exact Heap.lt_size (show h.get? a = some _ from x)
  | ext φ => obtain ⟨_, ⟨_, e⟩, _⟩ := x; exact Heap.lt_size e
theorem Paired.mapP {α β : Type} {F G : α → β → Prop} : ∀ {l₁ : List α} {l₂ : List β}, Paired F l₁ l₂ → (∀ a b, F a b → G a b) → Paired G l₁ l₂
  | _, _, .nil, _ => .nil
  | _, _, .cons r t, f => .cons (f _ _ r) (Paired.mapP t f)
theorem ObjOk.stay (x : ObjOk P w H h a o) (k : ∀ b u, (b = a ∨ H b = some (.own a)) → h.get? b = some u → h'.get? b = some u)
    (ho : ∀ b, H b = some (.own a) → H' b = some (.own a)) (ht : ∀ b xs, H b = some (.tup xs) → H' b = some (.tup xs)) : ObjOk P w H' h' a o := by
  induction o with
  | lst xs => obtain ⟨z, its, n, r, e⟩ := x; exact ⟨z, its, n, r, k _ _ (.inl rfl) e⟩
  | tup xs => obtain ⟨z, its, r, ob, e, c⟩ := x; exact ⟨z, its, r, ob, k _ _ (.inl rfl) e, c⟩
  | dK kvs => obtain ⟨z, y, vs, r, ob, es, ep, e, c⟩ := x; exact ⟨z, y, vs, r, ob, es, ep, k _ _ (.inl rfl) e, c⟩
  | dT kvs =>
    obtain ⟨z, y, xs, r, ob, es, ep, e, c⟩ := x
    exact ⟨z, y, xs, Paired.mapP r fun p q z => ⟨z.1, ht _ _ z.2.1, z.2.2⟩, ob, es, ep, k _ _ (.inl rfl) e, c⟩
  | set S n => obtain ⟨ob, es, ep, t, e, c⟩ := x; exact ⟨ob, es, ep, t, k _ _ (.inl rfl) e, c⟩
  | ins C dx fs =>
    obtain ⟨d, z, ne, e, mA, ⟨od, es, ep, e2, c⟩, r⟩ := x
    exact ⟨ho _ d, z, ne, k _ _ (.inl rfl) e, mA, ⟨od, es, ep, k _ _ (.inr d) e2, c⟩, r⟩
  | own y => obtain ⟨ob, e⟩ := x; exact ⟨ob, k _ _ (.inl rfl) e⟩
  | xd fs => obtain ⟨mA, ⟨od, es, ep, e, c⟩, r⟩ := x; exact ⟨mA, ⟨od, es, ep, k _ _ (.inl rfl) e, c⟩, r⟩
  | rng lo hi => obtain ⟨t, u, v, e⟩ := x; exact ⟨t, u, v, k _ _ (.inl rfl) e⟩
  | frz ob u ih => obtain ⟨e, q⟩ := x; exact ⟨k _ _ (.inl rfl) e, ih q⟩
  | tbl ps =>
    have e : h.get? a = some { cls := .none, data := .fields ps } := x
    show h'.get? a = some { cls := .none, data := .fields ps }
    exact k a _ (.inl rfl) e
  | met f y =>
    have e : h.get? a = some (PySem.W.methodObj (.ref f) (.ref y)) := x
    show h'.get? a = some (PySem.W.methodObj (.ref f) (.ref y))
    exact k a _ (.inl rfl) e
  | ext φ => obtain ⟨p, ⟨o, e⟩, st⟩ := x; exact ⟨st _ _ p fun o q => k _ _ (.inl rfl) q, ⟨o, k _ _ (.inl rfl) e⟩, st⟩
theorem HOk.lt (x : HOk P w H h) (e : H a = some o) : a < h.objs.size := (x a o e).lt
theorem HOk.fresh (x : HOk P w H h) (e : h.objs.size ≤ a) : H a = none := by
  cases q : H a with
  | none => rfl
  | some u => exact absurd (Nat.lt_of_lt_of_le (x.lt q) e) (Nat.lt_irrefl _)
theorem HOk.kept (x : HOk P w H h) (k : ∀ b u, h.get? b = some u → h'.get? b = some u) : HOk P w H h' := fun a o e =>
  (x a o e).stay (fun b u _ q => k b u q) (fun _ q => q) fun _ _ q => q
theorem HOk.laid (x : HOk P w H h) (k : ∀ b u, h.get? b = some u → h'.get? b = some u) (hp : h.objs.size ≤ a) (new : ObjOk P w (upd H a o) h' a o) : HOk P w (upd H a o) h' := fun b u e => by
  have hn := x.fresh hp
  by_cases hb : b = a
  · subst hb; rw [upd_same] at e; cases e; exact new
  · rw [upd_ne hb] at e
    exact (x b u e).stay (fun c v _ q => k c v q) (fun c q => by rw [upd_ne (ne_of_none q hn)]; exact q) fun c xs q => by rw [upd_ne (ne_of_none q hn)]; exact q
end
def Rd (H : Hp) (a : Addr) (u : HO) : Prop := H a = some u ∨ ∃ o, H a = some (.frz o u)
theorem Rd.ok {P : Program} {w : World} {H : Hp} {h : Heap} {a : Addr} {u : HO} (r : Rd H a u) (x : HOk P w H h) : ObjOk P w H h a u := by
  rcases r with r | ⟨o, r⟩
  · exact x a u r
  · obtain ⟨_, q⟩ := x a _ r
    exact q
def Mut : Option HO → Prop
  | some (.lst _) => True
  | some (.dK _) => True
  | some (.dT _) => True
  | some (.set _ _) => True
  | some (.ins _ _ _) => True
  | some (.ext _) => True
  | _ => False
section
variable {P : Program} {w : World} {H : Hp} {h h' : Heap} {x e : Addr} {o' : HO}
theorem HOk.write (ok : HOk P w H h) (mu : Mut (H x)) (he : e = x ∨ H e = some (.own x)) (k : ∀ b u, b ≠ e → h.get? b = some u → h'.get? b = some u) (heo : ∃ u, h'.get? e = some u)
    (new : ObjOk P w (upd H x o') h' x o') : HOk P w (upd H x o') h' := fun b u q => by
  have nown : ∀ c y, H c = some (.own y) → c ≠ x := fun c y r z => by subst z; rw [r] at mu; exact mu
  have ntup : ∀ c xs, H c = some (.tup xs) → c ≠ x := fun c xs r z => by subst z; rw [r] at mu; exact mu
  by_cases hb : b = x
  · subst hb; rw [upd_same] at q; cases q; exact new
  · rw [upd_ne hb] at q
    by_cases hbe : b = e
    · have q' : H b = some (.own x) := by
        rcases he with z | z
        · exact absurd (hbe.trans z) hb
        · rw [hbe]; exact z
      rw [q] at q'; cases q'
      obtain ⟨v, hv⟩ := heo
      exact ⟨v, by rw [hbe]; exact hv⟩
    · refine (ok b u q).stay (fun c v hc r => k c v ?_ r) (fun c r => by rw [upd_ne (nown c b r)]; exact r) fun c xs r => by rw [upd_ne (ntup c xs r)]; exact r
      rcases hc with rfl | hc
      · exact hbe
      · rintro rfl
        rcases he with z | z
        · exact nown c b hc z
        · rw [hc] at z; cases z; exact hb rfl
end
structure Un (fs ex : List Addr) (H H' : Hp) (h h' : Heap) : Prop where
  keep : ∀ b o, h.get? b = some o → H b = none → b ∉ fs → b ∉ ex → h'.get? b = some o
  slot : ∀ b o, h.get? b = some o → H b = none → b ∈ fs → b ∉ ex → ∃ sl, h'.get? b = some { o with slots := sl }
  free : ∀ b o, h.get? b = some o → H b = none → b ∉ ex → H' b = none
  there : ∀ b o, h.get? b = some o → b ∉ ex → ∃ o', h'.get? b = some o'
  tups : ∀ b xs, H b = some (.tup xs) → H' b = some (.tup xs)
  frzs : ∀ b o u, H b = some (.frz o u) → H' b = some (.frz o u)
  tbls : ∀ b ps, H b = some (.tbl ps) → ∃ more, H' b = some (.tbl (ps ++ more))
section
variable {fs fs' ex ex' : List Addr} {H H1 H2 : Hp} {h h1 h2 h' : Heap} {a x e : Addr} {o : HO}
theorem Un.any (u : Un fs ex H H1 h h1) {b : Addr} {ob : Obj} (q : h.get? b = some ob) (n : H b = none) (hx : b ∉ ex) : ∃ sl, h1.get? b = some { ob with slots := sl } := by
  by_cases hb : b ∈ fs
  · exact u.slot b ob q n hb hx
  · exact ⟨ob.slots, u.keep b ob q n hb hx⟩
theorem Un.kept (k : ∀ b u, h.get? b = some u → h'.get? b = some u) : Un fs ex H H h h' :=
  ⟨fun b ob q _ _ _ => k b ob q, fun b ob q _ _ _ => ⟨ob.slots, k b ob q⟩, fun _ _ _ n _ => n, fun b ob q _ => ⟨ob, k b ob q⟩, fun _ _ q => q, fun _ _ _ q => q, fun _ ps q => ⟨#[], by rw [q]; simp⟩⟩
theorem Un.refl : Un fs ex H H h h := Un.kept fun _ _ q => q
theorem Un.laid (k : ∀ b u, h.get? b = some u → h'.get? b = some u) (hp : h.objs.size ≤ a) (hn : H a = none) : Un fs ex H (upd H a o) h h' where
  keep := fun b u q _ _ _ => k b u q
  slot := fun b u q _ _ _ => ⟨u.slots, k b u q⟩
  free := fun b u q n _ => by rw [upd_ne (Nat.ne_of_lt (Nat.lt_of_lt_of_le (Heap.lt_size q) hp))]; exact n
  there := fun b u q _ => ⟨u, k b u q⟩
  tups := fun b xs q => by rw [upd_ne (ne_of_none q hn)]; exact q
  frzs := fun b u xs q => by rw [upd_ne (ne_of_none q hn)]; exact q
  tbls := fun b ps q => ⟨#[], by rw [upd_ne (ne_of_none q hn), q]; simp⟩
theorem Un.write (mu : Mut (H x)) (he : e = x ∨ H e = some (.own x)) (k : ∀ b u, b ≠ e → h.get? b = some u → h'.get? b = some u) (heo : ∃ u, h'.get? e = some u) : Un fs ex H (upd H x o) h h' := by
  have hx : ∀ b, H b = none → b ≠ x := fun b n z => by subst z; rw [n] at mu; exact mu
  have hb : ∀ b, H b = none → b ≠ e := fun b n z => by
    subst z
    rcases he with r | r
    · exact hx b n r
    · rw [n] at r; cases r
  have hm : ∀ b u, H b = some u → ¬ Mut (some u) → b ≠ x := fun b u q nm z => by subst z; rw [q] at mu; exact nm mu
  refine ⟨fun b u q n _ _ => k b u (hb b n) q, fun b u q n _ _ => ⟨u.slots, k b u (hb b n) q⟩, fun b u q n _ => by rw [upd_ne (hx b n)]; exact n, fun b u q _ => ?_,
    fun b xs q => by rw [upd_ne (hm b _ q fun z => z)]; exact q, fun b u xs q => by rw [upd_ne (hm b _ q fun z => z)]; exact q, fun b ps q => ⟨#[], by rw [upd_ne (hm b _ q fun z => z), q]; simp⟩⟩
  by_cases hbe : b = e
  · subst hbe; exact heo
  · exact ⟨u, k b u hbe q⟩
end
def trk (h : Heap) (H : Hp) : List Addr := (List.range h.objs.size).filter fun a => (H a).isSome
def hidT (h : Heap) (H : Hp) : Heap := PySem.W.hideAll h (trk h H)
theorem hidT_size (h : Heap) (H : Hp) : (hidT h H).objs.size = h.objs.size := PySem.W.hideAll_size _ _
theorem hidT_get {h : Heap} {H : Hp} {b : Addr} {o : Obj} (e : h.get? b = some o) (n : H b = none) : (hidT h H).get? b = some o :=
  PySem.W.hideAll_get _ e fun hm => by
    have q : (H b).isSome = true := (List.mem_filter.mp hm).2
    rw [n] at q; simp at q
theorem of_hidT {h : Heap} {H : Hp} {b : Addr} {o : Obj} (e : (hidT h H).get? b = some o) : h.get? b = some o ∧ H b = none := by
  have e' : h.get? b = some o := PySem.W.of_hideAll (trk h H) e
  refine ⟨e', ?_⟩
  cases q : H b with
  | none => rfl
  | some x =>
    have hm : b ∈ trk h H := List.mem_filter.mpr ⟨List.mem_range.mpr (Heap.lt_size e'), by simp [q]⟩
    have z : (hidT h H).get? b = none := PySem.W.hideAll_none (trk h H) hm
    rw [z] at e; cases e
end L2
namespace L2
open PySem PySem.Spec PyProof.Rows
structure Mod (K : PySem.W.Frag) (mg : Str → Option Value) (base : Heap) : Prop where
  kin : K.In base
  glob : base.Ns mainGlobals mg
  blt : ∃ mb, base.Ns builtinsNs mb ∧ ∀ x : Str, x ≠ "__name__" → mb x = bootBuiltins x
  nolimit : base.NoLimit
structure Cx where
  prog : Program
  w : World
  K : PySem.W.Frag
  mg : Str → Option Value
  base : Heap
  A : Around
  N : List Str
  s₀ : Shared
  H₀ : Hp
  env : Env
  outer : List Env
  stack : List Env
  ex : List Addr
  fn : Str → Bool
  calm : Bool
  pn : List (Addr × Obj)
  xe : Value → Shared → Prop
def frs (l : List Env) : List Addr := l.filterMap (·.frame)
abbrev Cx.fs (X : Cx) : List Addr := frs X.outer
def Vis (sc : Scope) (x : Str) : Prop := sc.names.lookup x = some .local ∨ sc.names.lookup x = some .cell ∨ sc.names.lookup x = some .free
def Loc (sc : Scope) (x : Str) : Prop := sc.names.lookup x = some .local ∨ sc.names.lookup x = some .cell
def Look (env : Env) (h : Heap) (m : Str → Option Value) (x : Str) (u : Value) : Prop :=
  (env.kindOf x = some .local ∧ m x = some u) ∨ ((env.kindOf x = some .cell ∨ env.kindOf x = some .free) ∧ ∃ c, env.cells.lookup x = some c ∧ h.IsCell c (some u))
structure Cx.Ok (X : Cx) : Prop where
  mod : Mod X.K X.mg X.base
  kind : X.env.scope.kind = .function
  glob : X.env.globals = mainGlobals
  blt : X.env.builtins = builtinsNs
  above : X.s₀.heap.objs.size ≤ X.env.locals
  inj : ∀ x y c, X.env.cells.lookup x = some c → X.env.cells.lookup y = some c → x = y
  has : ∀ x, (X.env.kindOf x = some .cell ∨ X.env.kindOf x = some .free) → ∃ c, X.env.cells.lookup x = some c
  cab : ∀ x c, X.fn x = true → X.env.cells.lookup x = some c → X.s₀.heap.objs.size ≤ c
  hd : X.calm = true → X.A.handled = none
  frames : X.A.frames = some X.stack
  stk : X.stack = X.outer ∨ (X.stack = X.env :: X.outer ∧ X.env.frame = some X.env.locals)
  exf : ∀ b ∈ X.ex, b ≠ X.env.locals ∧ ∀ x c, X.env.cells.lookup x = some c → c ≠ b
  bs : ∀ b o, X.base.get? b = some o → X.s₀.heap.get? b = some o ∧ X.H₀ b = none
  bsz : X.base.objs.size ≤ X.s₀.heap.objs.size
  noex : ∀ b o, X.base.get? b = some o → b ∉ X.ex
  exfs : ∀ b ∈ X.ex, b ∉ X.fs
  funs : X.s₀.heap.FunFrames X.base X.outer
  frf : ∀ b ∈ X.fs, X.H₀ b = none
structure Inv (X : Cx) (pins : List (Addr × Obj)) (σ : List (Option V)) (H : Hp) (s : Shared) : Prop where
  ok : X.Ok
  os : s.os = X.s₀.os
  bare : AllBare s.gens
  base : Un X.fs X.ex X.H₀ H X.s₀.heap s.heap
  loc : ∃ m, s.heap.Ns X.env.locals m ∧ ∀ (i : Nat) (x : Str) (v : V), X.N[i]? = some x → σ[i]? = some (some v) → Vis X.env.scope x → ∃ u, RelV v u ∧ Look X.env s.heap m x u
  cell : ∀ x c, X.env.cells.lookup x = some c → ∃ v, s.heap.IsCell c v
  free : H X.env.locals = none
  freeC : ∀ x c, X.env.cells.lookup x = some c → H c = none
  pin : ∀ p ∈ X.pn ++ pins, s.heap.get? p.1 = some p.2 ∧ H p.1 = none ∧ p.1 ≠ X.env.locals ∧ p.1 ∉ X.fs ∧ ∀ v, p.2.data ≠ .cell v
  hok : HOk X.prog X.w H s.heap
  len : σ.length = X.N.length
section
variable {X : Cx} {pins : List (Addr × Obj)} {σ : List (Option V)} {H H' : Hp} {s : Shared} {h' : Heap}
theorem Cx.Ok.nofr (ok : X.Ok) {b : Addr} {o : Obj} (e : X.base.get? b = some o) : b ∉ X.fs := fun hb => by
  have := (ok.funs.mem hb).1
  rw [e] at this; cases this
theorem Inv.bs (I : Inv X pins σ H s) : ∀ b o, X.base.get? b = some o → s.heap.get? b = some o ∧ H b = none := fun b o e =>
  ⟨I.base.keep b o (I.ok.bs b o e).1 (I.ok.bs b o e).2 (I.ok.nofr e) (I.ok.noex b o e), I.base.free b o (I.ok.bs b o e).1 (I.ok.bs b o e).2 (I.ok.noex b o e)⟩
theorem Inv.bk (I : Inv X pins σ H s) : ∀ b o, X.base.get? b = some o → s.heap.get? b = some o := fun b o e => (I.bs b o e).1
theorem Inv.mod (I : Inv X pins σ H s) : Mod X.K X.mg X.base := I.ok.mod
theorem Inv.kIn (I : Inv X pins σ H s) : X.K.In s.heap := I.ok.mod.kin.keeps I.bk
theorem Inv.lt (I : Inv X pins σ H s) : X.env.locals < s.heap.objs.size := let ⟨_, hn, _⟩ := I.loc; hn.lt
theorem Inv.sz (I : Inv X pins σ H s) : X.s₀.heap.objs.size ≤ s.heap.objs.size := Nat.le_trans I.ok.above (Nat.le_of_lt I.lt)
theorem Inv.nofs (I : Inv X pins σ H s) {a : Addr} (h : s.heap.objs.size ≤ a) : a ∉ X.fs := fun hb => by
  obtain ⟨_, o, ho, _⟩ := I.ok.funs.mem hb
  exact absurd (Nat.lt_of_lt_of_le (Heap.lt_size ho) (Nat.le_trans I.sz h)) (Nat.lt_irrefl _)
theorem Inv.cne (I : Inv X pins σ H s) : ∀ x c, X.env.cells.lookup x = some c → c ≠ X.env.locals := fun x c e z => by
  obtain ⟨v, o, ho, hd⟩ := I.cell x c e
  obtain ⟨m, ⟨o', es, ep, ho', hd', _⟩, _⟩ := I.loc
  rw [z, ho'] at ho; cases ho; rw [hd'] at hd; cases hd
theorem Inv.funs (I : Inv X pins σ H s) : s.heap.FunFrames X.base X.outer := by
  have all : ∀ (l : List Env), (∀ b ∈ frs l, b ∈ X.fs) → X.s₀.heap.FunFrames X.base l → s.heap.FunFrames X.base l := by
    intro l
    induction l with
    | nil => intro _ _; trivial
    | cons env r ih =>
      intro hs hl
      obtain ⟨hk, ⟨L, o, hf, hn, ho, hd⟩, hr⟩ := hl
      have hL : L ∈ X.fs := hs L (by unfold frs; rw [List.filterMap_cons, hf]; exact List.mem_cons_self)
      obtain ⟨sl, e⟩ := I.base.slot L o ho (I.ok.frf L hL) hL fun z => I.ok.exfs L z hL
      exact ⟨hk, ⟨L, _, hf, hn, e, hd⟩, ih (fun b hb => hs b (by unfold frs; rw [List.filterMap_cons, hf]; exact List.mem_cons_of_mem _ hb)) hr⟩
  exact all X.outer (fun _ hb => hb) I.ok.funs
theorem Inv.stack (I : Inv X pins σ H s) : s.heap.FunFrames X.base X.stack := by
  rcases I.ok.stk with e | ⟨e, hf⟩
  · rw [e]; exact I.funs
  · rw [e]
    obtain ⟨m, hn, _⟩ := I.loc
    refine .cons (by rw [I.ok.kind]; decide) hf hn ?_ I.funs
    exact Heap.get?_none_of_le (Nat.le_trans I.ok.bsz I.ok.above)
theorem Inv.stkSub (I : Inv X pins σ H s) : ∀ b ∈ frs X.stack, b ∈ X.env.locals :: X.fs := fun b hb => by
  rcases I.ok.stk with e | ⟨e, hf⟩
  · rw [e] at hb; exact List.mem_cons_of_mem _ hb
  · rw [e] at hb
    unfold frs at hb
    rw [List.filterMap_cons, hf] at hb
    exact hb
theorem Inv.stkFree (I : Inv X pins σ H s) : ∀ b ∈ frs X.stack, H b = none := fun b hb => by
  rcases List.mem_cons.mp (I.stkSub b hb) with e | hb
  · rw [e]; exact I.free
  · obtain ⟨_, o, ho, _⟩ := I.ok.funs.mem hb
    exact I.base.free b o ho (I.ok.frf b hb) fun z => I.ok.exfs b z hb
theorem Inv.step {g' : Array GenState} {t' : Nat} {d' : Drawn} {ch : List Addr} (I : Inv X pins σ H s)
    (hch : ∀ b ∈ ch, (b ∈ X.ex ∨ X.s₀.heap.objs.size ≤ b) ∧ b ≠ X.env.locals ∧ (∀ x c, X.env.cells.lookup x = some c → c ≠ b) ∧ ∀ p ∈ X.pn ++ pins, p.1 ≠ b)
    (keep : ∀ b o, b ≠ X.env.locals → b ∉ X.fs → b ∉ ch → s.heap.get? b = some o → H b = none → h'.get? b = some o)
    (slot : ∀ b o, b ≠ X.env.locals → b ∈ X.fs → b ∉ ch → s.heap.get? b = some o → H b = none → ∃ sl, h'.get? b = some { o with slots := sl }) (free : ∀ b o, b ∉ ch → s.heap.get? b = some o → H b = none → H' b = none)
    (there : ∀ b o, b ∉ ch → s.heap.get? b = some o → ∃ o', h'.get? b = some o')
    (tups : ∀ b xs, H b = some (.tup xs) → H' b = some (.tup xs)) (frzs : ∀ b o u, H b = some (.frz o u) → H' b = some (.frz o u)) (tbls : ∀ b ps, H b = some (.tbl ps) → ∃ more, H' b = some (.tbl (ps ++ more)))
    (ns : ∀ m, s.heap.Ns X.env.locals m → h'.Ns X.env.locals m) (hok : HOk X.prog X.w H' h') (hg : AllBare g') :
    Inv X pins σ H' { s with heap := h', gens := g', drawn := d', toks := t' } := by
  have neL : ∀ b o, X.s₀.heap.get? b = some o → b ≠ X.env.locals := fun b o e => Nat.ne_of_lt (Nat.lt_of_lt_of_le (Heap.lt_size e) I.ok.above)
  have neC : ∀ b o, X.s₀.heap.get? b = some o → b ∉ X.ex → b ∉ ch := fun b o e hx hb => by
    rcases (hch b hb).1 with z | z
    · exact hx z
    · exact absurd (Nat.lt_of_lt_of_le (Heap.lt_size e) z) (Nat.lt_irrefl _)
  have cellK : ∀ x c, X.env.cells.lookup x = some c → ∀ v, s.heap.IsCell c v → h'.IsCell c v := fun x c e v ⟨o, ho, hd⟩ => by
    have nch : c ∉ ch := fun z => (hch c z).2.2.1 x c e rfl
    by_cases hc : c ∈ X.fs
    · obtain ⟨sl, q⟩ := slot c o (I.cne x c e) hc nch ho (I.freeC x c e)
      exact ⟨_, q, hd⟩
    · exact ⟨o, keep c o (I.cne x c e) hc nch ho (I.freeC x c e), hd⟩
  refine ⟨I.ok, I.os, hg, ⟨fun b o e n hb hx => ?_, fun b o e n hb hx => ?_, fun b o e n hx => ?_, fun b o e hx => ?_, fun b xs e => tups b xs (I.base.tups b xs e), fun b o xs e => frzs b o xs (I.base.frzs b o xs e), fun b ps e => ?_⟩, ?_, fun x c e => ?_, ?_, fun x c e => ?_, fun p hp => ?_, hok, I.len⟩
  · exact keep b o (neL b o e) hb (neC b o e hx) (I.base.keep b o e n hb hx) (I.base.free b o e n hx)
  · obtain ⟨sl, e1⟩ := I.base.slot b o e n hb hx
    obtain ⟨sl', e2⟩ := slot b _ (neL b o e) hb (neC b o e hx) e1 (I.base.free b o e n hx)
    exact ⟨sl', e2⟩
  · obtain ⟨o', e1⟩ := I.base.there b o e hx
    exact free b o' (neC b o e hx) e1 (I.base.free b o e n hx)
  · obtain ⟨o', e1⟩ := I.base.there b o e hx
    exact there b o' (neC b o e hx) e1
  · obtain ⟨m1, e1⟩ := I.base.tbls b ps e
    obtain ⟨m2, e2⟩ := tbls b _ e1
    exact ⟨m1 ++ m2, by rw [e2, Array.append_assoc]⟩
  · obtain ⟨m, hn, hl⟩ := I.loc
    refine ⟨m, ns m hn, fun i x v e1 e2 e3 => ?_⟩
    obtain ⟨u, r, l⟩ := hl i x v e1 e2 e3
    refine ⟨u, r, ?_⟩
    rcases l with l | ⟨k, c, e, z⟩
    · exact .inl l
    · exact .inr ⟨k, c, e, cellK x c e _ z⟩
  · obtain ⟨v, z⟩ := I.cell x c e
    exact ⟨v, cellK x c e v z⟩
  · obtain ⟨m, ⟨o, _, _, ho, _⟩, _⟩ := I.loc
    exact free _ o (fun z => (hch _ z).2.1 rfl) ho I.free
  · obtain ⟨v, o, ho, hd⟩ := I.cell x c e
    exact free c o (fun z => (hch c z).2.2.1 x c e rfl) ho (I.freeC x c e)
  · obtain ⟨e, n, ne, nf, d⟩ := I.pin p hp
    have nch : p.1 ∉ ch := fun z => (hch p.1 z).2.2.2 p hp rfl
    exact ⟨keep p.1 p.2 ne nf nch e n, free p.1 p.2 nch e n, ne, nf, d⟩
theorem Inv.un {t' : Nat} (I : Inv X pins σ H s) (u : Un X.fs [] H H' s.heap h') (hok : HOk X.prog X.w H' h') : Inv X pins σ H' { s with heap := h', toks := t' } := by
  obtain ⟨m, ⟨o, es, ep, ho, r⟩, _⟩ := id I.loc
  obtain ⟨sl, hL⟩ := u.any ho I.free (by simp)
  exact I.step (g' := s.gens) (d' := s.drawn) (ch := []) (fun _ z => nomatch z) (fun b o _ hb _ e n => u.keep b o e n hb (by simp)) (fun b o _ hb _ e n => u.slot b o e n hb (by simp)) (fun b o _ e n => u.free b o e n (by simp)) (fun b o _ e => u.there b o e (by simp)) u.tups u.frzs u.tbls (fun m' hm => by
    obtain ⟨o', es', ep', ho', r'⟩ := hm
    rw [ho] at ho'; cases ho'
    exact ⟨_, es', ep', hL, r'⟩) hok I.bare
theorem Inv.call {g' : Array GenState} {t' : Nat} {d' : Drawn} {ch : List Addr} (I : Inv X pins σ H s) (u : Un (frs X.stack) ch H H' s.heap h') (hok : HOk X.prog X.w H' h') (hg : AllBare g')
    (hch : ∀ b ∈ ch, (b ∈ X.ex ∨ X.s₀.heap.objs.size ≤ b) ∧ b ≠ X.env.locals ∧ (∀ x c, X.env.cells.lookup x = some c → c ≠ b) ∧ ∀ p ∈ X.pn ++ pins, p.1 ≠ b) :
    Inv X pins σ H' { s with heap := h', gens := g', drawn := d', toks := t' } := by
  obtain ⟨m, ⟨o, es, ep, ho, r⟩, _⟩ := id I.loc
  obtain ⟨sl, hL⟩ := u.any ho I.free fun z => (hch _ z).2.1 rfl
  exact I.step (ch := ch) hch (fun b o hL hb hc e n => u.keep b o e n (fun z => (List.mem_cons.mp (I.stkSub b z)).elim hL hb) hc) (fun b o _ _ hc e n => u.any e n hc) (fun b o hc e n => u.free b o e n hc) (fun b o hc e => u.there b o e hc) u.tups u.frzs u.tbls (fun m' hm => by
    obtain ⟨o', es', ep', ho', r'⟩ := hm
    rw [ho] at ho'; cases ho'
    exact ⟨_, es', ep', hL, r'⟩) hok hg
theorem Inv.turned {t' : Nat} {it : Addr} (I : Inv X pins σ H s) (k : ∀ b o, b ≠ it → s.heap.get? b = some o → h'.get? b = some o) (hn : H it = none) (hL : it ≠ X.env.locals)
    (h1 : it ∈ X.ex ∨ X.s₀.heap.objs.size ≤ it) (h2 : ∀ x c, X.env.cells.lookup x = some c → c ≠ it) (h3 : ∀ p ∈ X.pn ++ pins, p.1 ≠ it) : Inv X pins σ H { s with heap := h', toks := t' } := by
  have nit : ∀ b u, H b = some u → b ≠ it := fun b u e z => by rw [z, hn] at e; cases e
  refine I.step (g' := s.gens) (d' := s.drawn) (ch := [it]) (fun b hb => ?_) (fun b o _ _ hc e _ => k b o (fun z => hc (by simp [z])) e) (fun b o _ _ hc e _ => ⟨o.slots, k b o (fun z => hc (by simp [z])) e⟩) (fun _ _ _ _ n => n)
    (fun b o hc e => ⟨o, k b o (fun z => hc (by simp [z])) e⟩) (fun _ _ e => e) (fun _ _ _ e => e) (fun b ps e => ⟨#[], by rw [e]; simp⟩) (fun m hm => ?_) (fun b u e => ?_) I.bare
  · have e : b = it := by simpa using hb
    subst e
    exact ⟨h1, hL, h2, h3⟩
  · obtain ⟨o, es, ep, ho, r⟩ := hm
    exact ⟨o, es, ep, k _ o (Ne.symm hL) ho, r⟩
  · refine (I.hok b u e).stay (fun c v hc q => k c v ?_ q) (fun _ q => q) fun _ _ q => q
    rcases hc with z | z
    · rw [z]; exact nit b u e
    · exact nit c _ z
theorem Inv.tok (I : Inv X pins σ H s) (t : Nat) : Inv X pins σ H { s with toks := t } := I.un (h' := s.heap) (t' := t) Un.refl I.hok
theorem Inv.kept {t' : Nat} (I : Inv X pins σ H s) (k : ∀ b u, s.heap.get? b = some u → h'.get? b = some u) : Inv X pins σ H { s with heap := h', toks := t' } := I.un (Un.kept k) (I.hok.kept k)
theorem Inv.laid {a : Addr} {o : HO} {t' : Nat} (I : Inv X pins σ H s) (k : ∀ b u, s.heap.get? b = some u → h'.get? b = some u) (hp : s.heap.objs.size ≤ a) (new : ObjOk X.prog X.w (upd H a o) h' a o) :
    Inv X pins σ (upd H a o) { s with heap := h', toks := t' } := I.un (Un.laid k hp (I.hok.fresh hp)) (I.hok.laid k hp new)
theorem Inv.write {x e : Addr} {o : HO} {t' : Nat} (I : Inv X pins σ H s) (mu : Mut (H x)) (he : e = x ∨ H e = some (.own x)) (k : ∀ b u, b ≠ e → s.heap.get? b = some u → h'.get? b = some u) (heo : ∃ u, h'.get? e = some u)
    (new : ObjOk X.prog X.w (upd H x o) h' x o) : Inv X pins σ (upd H x o) { s with heap := h', toks := t' } := I.un (Un.write mu he k heo) (I.hok.write mu he k heo new)
theorem Inv.pins_of {pins' : List (Addr × Obj)} (I : Inv X pins σ H s) (h : ∀ p ∈ pins', s.heap.get? p.1 = some p.2 ∧ H p.1 = none ∧ p.1 ≠ X.env.locals ∧ p.1 ∉ X.fs ∧ ∀ v, p.2.data ≠ .cell v) : Inv X pins' σ H s :=
  ⟨I.ok, I.os, I.bare, I.base, I.loc, I.cell, I.free, I.freeC, fun p hp => (List.mem_append.mp hp).elim (fun z => I.pin p (List.mem_append_left _ z)) (h p), I.hok, I.len⟩
theorem nodup_ix {N : List Str} (hN : N.Nodup) {i j : Nat} {x : Str} (a : N[i]? = some x) (b : N[j]? = some x) : i = j := by
  obtain ⟨h1, e1⟩ := List.getElem?_eq_some_iff.mp a
  obtain ⟨h2, e2⟩ := List.getElem?_eq_some_iff.mp b
  exact (List.getElem_inj hN).mp (e1.trans e2.symm)
theorem store_ok2 {M : Model} {A : Around} {E : Value → Shared → Prop} {i : Nat} {x : Str} {v : V} {u : Value} {Q : Unit → Shared → Prop} (I : Inv X pins σ H s) (hN : X.N.Nodup) (hi : X.N[i]? = some x) (hx : Loc X.env.scope x) (r : RelV v u)
    (h : ∀ s', Inv X pins (σ.set i (some v)) H s' → (∃ a, Heap.SameBut a s.heap s'.heap ∧ (a = X.env.locals ∨ X.env.cells.lookup x = some a)) → Q () s') (hf : X.fn x = true ∨ X.env.scope.names.lookup x = some .local := by first | exact .inl rfl | exact .inr rfl | assumption) : wpAny M A (storeName X.env x u) Q E s := by
  obtain ⟨m, hn, hl⟩ := id I.loc
  have hcls : (X.env.scope.kind == .class || (X.env.scope.kind == .module && X.env.locals != X.env.globals)) = false := by rw [I.ok.kind]; rfl
  have hiσ : i < σ.length := by rw [I.len]; exact (List.getElem?_eq_some_iff.mp hi).1
  have cne := I.cne
  have tracked : ∀ {a : Addr} {h' : Heap}, (∃ o, s.heap.get? a = some o ∧ H a = none) → Heap.SameBut a s.heap h' → HOk X.prog X.w H h' := fun {a h'} ha hs b ob e => by
    obtain ⟨_, _, hfree⟩ := ha
    refine (I.hok b ob e).stay (fun c w' hc q => (hs.2 c ?_).trans q) (fun _ q => q) fun _ _ q => q
    rintro rfl
    rcases hc with rfl | hc
    · rw [hfree] at e; cases e
    · rw [hfree] at hc; cases hc
  rcases hx with hk | hk
  · refine wpAny_storeName_local hk hn (fun h' hn' hs => ?_) hcls
    obtain ⟨oL, _, _, hoL, _⟩ := id hn
    refine h _ ⟨I.ok, I.os, I.bare, ⟨fun b o e n hb hx => ?_, fun b o e n hb hx => ?_, I.base.free, fun b o e hx => ?_, I.base.tups, I.base.frzs, I.base.tbls⟩, ⟨_, hn', fun j y v' e1 e2 e3 => ?_⟩, fun y c e => ?_, I.free, I.freeC, fun p hp => ?_, tracked ⟨oL, hoL, I.free⟩ hs, by simpa using I.len⟩ ⟨_, hs, .inl rfl⟩
    · exact (hs.2 b (Nat.ne_of_lt (Nat.lt_of_lt_of_le (Heap.lt_size e) I.ok.above))).trans (I.base.keep b o e n hb hx)
    · obtain ⟨sl, e1⟩ := I.base.slot b o e n hb hx
      exact ⟨sl, (hs.2 b (Nat.ne_of_lt (Nat.lt_of_lt_of_le (Heap.lt_size e) I.ok.above))).trans e1⟩
    · obtain ⟨o', e1⟩ := I.base.there b o e hx
      exact ⟨o', (hs.2 b (Nat.ne_of_lt (Nat.lt_of_lt_of_le (Heap.lt_size e) I.ok.above))).trans e1⟩
    · by_cases hj : j = i
      · subst hj
        rw [hi] at e1; cases e1
        rw [List.getElem?_set_self hiσ] at e2
        cases e2
        exact ⟨u, r, .inl ⟨hk, by simp⟩⟩
      · rw [List.getElem?_set_ne (Ne.symm hj)] at e2
        obtain ⟨u', r', q⟩ := hl j y v' e1 e2 e3
        refine ⟨u', r', ?_⟩
        rcases q with ⟨k, e⟩ | ⟨k, c, e, z⟩
        · refine .inl ⟨k, ?_⟩
          have : y ≠ x := fun e => hj (nodup_ix hN e1 (e ▸ hi))
          simp [this, e]
        · exact .inr ⟨k, c, e, z.sameBut hs (cne y c e)⟩
    · obtain ⟨w', z⟩ := I.cell y c e
      exact ⟨w', z.sameBut hs (cne y c e)⟩
    · obtain ⟨e, n, ne, nf, d⟩ := I.pin p hp
      exact ⟨(hs.2 p.1 ne).trans e, n, ne, nf, d⟩
  · have hfn : X.fn x = true := by
      rcases hf with z | z
      · exact z
      · rw [z] at hk; cases hk
    obtain ⟨c, hc⟩ := I.ok.has x (.inl hk)
    obtain ⟨w', z⟩ := I.cell x c hc
    refine wpAny_storeName_cell I.ok.kind hk hc z (fun h' hc' hs => ?_)
    obtain ⟨oc, hoc, hocd⟩ := id z
    refine h { s with heap := h' } ⟨I.ok, I.os, I.bare, ⟨fun b o e n hb hx => ?_, fun b o e n hb hx => ?_, I.base.free, fun b o e hx => ?_, I.base.tups, I.base.frzs, I.base.tbls⟩, ⟨m, hn.sameBut hs (Ne.symm (cne x c hc)), fun j y v' e1 e2 e3 => ?_⟩, fun y c' e => ?_, I.free, I.freeC, fun p hp => ?_, tracked ⟨oc, hoc, I.freeC x c hc⟩ hs, by simpa using I.len⟩ ⟨c, hs, .inr hc⟩
    · exact (hs.2 b (Nat.ne_of_lt (Nat.lt_of_lt_of_le (Heap.lt_size e) (I.ok.cab x c hfn hc)))).trans (I.base.keep b o e n hb hx)
    · obtain ⟨sl, e1⟩ := I.base.slot b o e n hb hx
      exact ⟨sl, (hs.2 b (Nat.ne_of_lt (Nat.lt_of_lt_of_le (Heap.lt_size e) (I.ok.cab x c hfn hc)))).trans e1⟩
    · obtain ⟨o', e1⟩ := I.base.there b o e hx
      exact ⟨o', (hs.2 b (Nat.ne_of_lt (Nat.lt_of_lt_of_le (Heap.lt_size e) (I.ok.cab x c hfn hc)))).trans e1⟩
    · by_cases hj : j = i
      · subst hj
        rw [hi] at e1; cases e1
        rw [List.getElem?_set_self hiσ] at e2
        cases e2
        exact ⟨u, r, .inr ⟨.inl hk, c, hc, hc'⟩⟩
      · rw [List.getElem?_set_ne (Ne.symm hj)] at e2
        obtain ⟨u', r', q⟩ := hl j y v' e1 e2 e3
        refine ⟨u', r', ?_⟩
        rcases q with q | ⟨k, c', e, z'⟩
        · exact .inl q
        · refine .inr ⟨k, c', e, z'.sameBut hs ?_⟩
          rintro rfl
          exact hj (nodup_ix hN e1 (I.ok.inj _ _ _ e hc ▸ hi))
    · by_cases hcc : c' = c
      · subst hcc; exact ⟨_, hc'⟩
      · obtain ⟨w2, z2⟩ := I.cell y c' e
        exact ⟨w2, z2.sameBut hs hcc⟩
    · obtain ⟨e, n, ne, nf, d⟩ := I.pin p hp
      refine ⟨(hs.2 p.1 ?_).trans e, n, ne, nf, d⟩
      intro q
      rw [q, hoc] at e
      have q' : oc = p.2 := Option.some.inj e
      exact d w' (by rw [← q']; exact hocd)
theorem store_ok {M : Model} {A : Around} {E : Value → Shared → Prop} {i : Nat} {x : Str} {v : V} {u : Value} {Q : Unit → Shared → Prop} (I : Inv X pins σ H s) (hN : X.N.Nodup) (hi : X.N[i]? = some x) (hx : Loc X.env.scope x) (r : RelV v u)
    (h : ∀ s', Inv X pins (σ.set i (some v)) H s' → Q () s') (hf : X.fn x = true ∨ X.env.scope.names.lookup x = some .local := by first | exact .inl rfl | exact .inr rfl | assumption) : wpAny M A (storeName X.env x u) Q E s :=
  store_ok2 I hN hi hx r (fun s' I' _ => h s' I') hf
theorem Inv.call' {s' : Shared} {ch : List Addr} (I : Inv X pins σ H s) (ho : s'.os = s.os) (u : Un (frs X.stack) ch H H' s.heap s'.heap) (hok : HOk X.prog X.w H' s'.heap) (hg : AllBare s'.gens)
    (hch : ∀ b ∈ ch, (b ∈ X.ex ∨ X.s₀.heap.objs.size ≤ b) ∧ b ≠ X.env.locals ∧ (∀ x c, X.env.cells.lookup x = some c → c ≠ b) ∧ ∀ p ∈ X.pn ++ pins, p.1 ≠ b) : Inv X pins σ H' s' := by
  obtain ⟨h', g', d', t', o'⟩ := s'
  have e : o' = s.os := ho
  subst e
  exact I.call (g' := g') (t' := t') (d' := d') u hok hg hch
end
abbrev XK := Value → Option Addr → Hp → Prop
abbrev St := List (Option V)
abbrev VK := V → Hp → Prop
abbrev TE := St → Hp → VK → Prop
abbrev TT := St → Hp → (Bool → Hp → Prop) → Prop
abbrev TA := St → Hp → (List V → Hp → Prop) → Prop
structure Ends where
  nx : St → Hp → Prop
  rt : VK
  bk : St → Hp → Prop := fun _ _ => False
  ct : St → Hp → Prop := fun _ _ => False
abbrev TS := Ends → St → Hp → Prop
def EP (X : Cx) (pins : List (Addr × Obj)) (σ : St) (Q : VK) (u : Value) (s' : Shared) : Prop := ∃ v H', Inv X pins σ H' s' ∧ RelV v u ∧ Q v H'
def TP (X : Cx) (pins : List (Addr × Obj)) (σ : St) (Q : Bool → Hp → Prop) (b : Bool) (s' : Shared) : Prop := ∃ H', Inv X pins σ H' s' ∧ Q b H'
def AP (X : Cx) (pins : List (Addr × Obj)) (σ : St) (Q : List V → Hp → Prop) (us : List Value) (s' : Shared) : Prop := ∃ vs H', Inv X pins σ H' s' ∧ Vals vs us ∧ Q vs H'
def SP (X : Cx) (pins : List (Addr × Obj)) (D : Ends) (f : Flow) (s' : Shared) : Prop :=
  match f with
  | .next => ∃ σ' H', Inv X pins σ' H' s' ∧ D.nx σ' H'
  | .brk => ∃ σ' H', Inv X pins σ' H' s' ∧ D.bk σ' H'
  | .cont => ∃ σ' H', Inv X pins σ' H' s' ∧ D.ct σ' H'
  | .ret u => ∃ v σ' H', Inv X pins σ' H' s' ∧ RelV v u ∧ D.rt v H'
def PE (X : Cx) (e : Expr) (t : TE) : Prop :=
  ∀ (pins : List (Addr × Obj)) (s : Shared) (σ : St) (H : Hp) (Q : VK), Inv X pins σ H s → t σ H Q → wpAny (model X.prog X.w) X.A (eval e X.env) (EP X pins σ Q) X.xe s
def PT (X : Cx) (e : Expr) (t : TT) : Prop :=
  ∀ (pins : List (Addr × Obj)) (s : Shared) (σ : St) (H : Hp) (Q : Bool → Hp → Prop), Inv X pins σ H s → t σ H Q → wpAny (model X.prog X.w) X.A (isTrue e X.env (eval e X.env)) (TP X pins σ Q) X.xe s
def PW (X : Cx) (e : Expr) (t : TT) : Prop :=
  ∀ (whole : Sem Value) (pins : List (Addr × Obj)) (s : Shared) (σ : St) (H : Hp) (Q : Bool → Hp → Prop), Inv X pins σ H s → t σ H Q → wpAny (model X.prog X.w) X.A (isTrue e X.env whole) (TP X pins σ Q) X.xe s
theorem PW.pt {X : Cx} {e : Expr} {t : TT} (h : PW X e t) : PT X e t := h _
def PA (X : Cx) (es : List Expr) (t : TA) : Prop :=
  ∀ (pos : Pos) (pins : List (Addr × Obj)) (s : Shared) (σ : St) (H : Hp) (Q : List V → Hp → Prop), Inv X pins σ H s → t σ H Q → wpAny (model X.prog X.w) X.A (spliced (backTo pos (starEach es X.env))) (AP X pins σ Q) X.xe s
def PS (X : Cx) (st : Stmt) (t : TS) : Prop :=
  ∀ (pins : List (Addr × Obj)) (s : Shared) (σ : St) (H : Hp) (D : Ends), Inv X pins σ H s → t D σ H → wpAny (model X.prog X.w) X.A (exec st X.env) (SP X pins D) X.xe s
def PSs (X : Cx) (st : List Stmt) (t : TS) : Prop :=
  ∀ (pins : List (Addr × Obj)) (s : Shared) (σ : St) (H : Hp) (D : Ends), Inv X pins σ H s → t D σ H → wpAny (model X.prog X.w) X.A (execs st X.env) (SP X pins D) X.xe s
theorem thn {α : Type} {t : Sem α} {Q Q' : α → Shared → Prop} {M : Model} {A : Around} {E : Value → Shared → Prop} {s : Shared} (h : wpAny M A t Q E s) (hQ : ∀ a s, Q a s → Q' a s) : wpAny M A t Q' E s := wpAny_mono h hQ fun _ _ x => x
end L2
namespace L2
open PySem PySem.Spec PyProof.Rows
section
variable {X : Cx}
def tVar (i : Nat) : TE := fun σ H Q => ∃ v, σ[i]? = some (some v) ∧ Q v H
def tC (v : V) : TE := fun _ H Q => Q v H
theorem pe_var {i : Nat} {x : Str} {pos : Pos} (hN : X.N[i]? = some x) (hv : Vis X.env.scope x) (hd : (x == ("__debug__" : Str)) = false := by decide) (hcd : (x == ("__classdict__" : Str)) = false := by decide) : PE X (.Name x pos) (tVar i) := by
  intro pins s σ H Q I h
  obtain ⟨v, e, h⟩ := h
  obtain ⟨m, hn, hl⟩ := I.loc
  obtain ⟨u, r, l⟩ := hl i x v hN e hv
  have fin : EP X pins σ Q u s := ⟨v, H, I, r, h⟩
  rcases l with ⟨hk, hm⟩ | ⟨hk, c, hc, hcell⟩
  · exact wpAny_Name (wpAny_loadName_local I.ok.kind hk hn hm fin) hd
  · rcases hk with hk | hk
    · exact wpAny_Name (wpAny_loadName_cell I.ok.kind hk hc hcell fin) hd
    · exact wpAny_Name (wpAny_loadName_free I.ok.kind hk hc hcell fin hcd) hd
theorem pe_int {i j pos} : PE X (.Constant (.int i) j pos) (tC (.int i)) := fun _ _ _ H _ I h => wpAny_Constant_int ⟨.int i, H, I.tok _, ⟨_, rfl⟩, h⟩
theorem pe_bl {b j pos} : PE X (.Constant (.bool b) j pos) (tC (.bl b)) := fun _ _ _ H _ I h => Constant_bool ⟨.bl b, H, I, rfl, h⟩
theorem pe_non {j pos} : PE X (.Constant .none j pos) (tC .non) := fun _ _ _ H _ I h => Constant_none ⟨.non, H, I, rfl, h⟩
theorem pe_str {x j pos} : PE X (.Constant (.str x) j pos) (tC (.str x)) := fun _ _ _ H _ I h => Calls.Constant_str ⟨.str x, H, I.tok _, ⟨_, rfl⟩, h⟩
def Gl (X : Cx) (x : Str) : Prop := X.env.kindOf x = some .globalImplicit
theorem ld_glob {E : Value → Shared → Prop} {pins : List (Addr × Obj)} {s : Shared} {σ : St} {H : Hp} {x : Str} {u : Value} {pos : Pos} {Q : Value → Shared → Prop} (I : Inv X pins σ H s) (hg : Gl X x) (hm : X.mg x = some u) (h : Q u s)
    (hd : (x == ("__debug__" : Str)) = false := by decide) : wpAny (model X.prog X.w) X.A (eval (.Name x pos) X.env) Q E s :=
  Calls.Name_function_global I.ok.kind hg (Calls.loadGlobal_global (by rw [I.ok.glob]; exact I.mod.glob.keeps I.bk) hm h) hd
theorem ld_blt {E : Value → Shared → Prop} {pins : List (Addr × Obj)} {s : Shared} {σ : St} {H : Hp} {x : Str} {u : Value} {pos : Pos} {Q : Value → Shared → Prop} (I : Inv X pins σ H s) (hg : Gl X x) (hm : X.mg x = none) (hv : bootBuiltins x = some u) (h : Q u s)
    (hn : x ≠ "__name__" := by decide) (hd : (x == ("__debug__" : Str)) = false := by decide) : wpAny (model X.prog X.w) X.A (eval (.Name x pos) X.env) Q E s := by
  obtain ⟨mb, h1, h2⟩ := I.mod.blt
  exact Calls.Name_function_global I.ok.kind hg (Calls.loadGlobal_builtin (by rw [I.ok.glob]; exact I.mod.glob.keeps I.bk) hm (by rw [I.ok.blt]; exact h1.keeps I.bk) ((h2 x hn).trans hv) h) hd
theorem pe_glob {x : Str} {v : V} {u : Value} {pos : Pos} (hg : Gl X x) (hm : X.mg x = some u) (r : RelV v u) (hd : (x == ("__debug__" : Str)) = false := by decide) : PE X (.Name x pos) (tC v) :=
  fun _ _ _ H _ I h => ld_glob I hg hm ⟨v, H, I, r, h⟩ hd
theorem pe_bltn {x : Str} {v : V} {u : Value} {pos : Pos} (hg : Gl X x) (hm : X.mg x = none) (hv : bootBuiltins x = some u) (r : RelV v u) (hn : x ≠ "__name__" := by decide) (hd : (x == ("__debug__" : Str)) = false := by decide) : PE X (.Name x pos) (tC v) :=
  fun _ _ _ H _ I h => ld_blt I hg hm hv ⟨v, H, I, r, h⟩ hn hd
variable {a b : Expr} {ta tb : TE} {pos : Pos}
def tB (t : TE) : TT := fun σ H Q => t σ H fun x H1 => ∃ c, x = .bl c ∧ Q c H1
theorem pt_val {e : Expr} {t : TE} (h : PE X e t) (he : ∀ whole, isTrue e X.env whole = (do let v ← whole; standAt e.pos; holding [v] (truthy v)) := by intro _; rfl) : PT X e (tB t) := by
  intro pins s σ H Q I hw
  refine isTrue_plain (thn (h pins s σ H _ I hw) fun v s1 ⟨x, H1, I1, r1, q1⟩ => ?_) (he _)
  obtain ⟨d, rfl, q⟩ := q1
  cases r1
  exact wpAny_truthy_bool ⟨H1, I1, q⟩
variable {tA tB' : TT} {rest : List Expr}
def tAnd (t u : TT) : TT := fun σ H Q => t σ H fun c H1 => if c = true then u σ H1 Q else Q false H1
def tOr (t u : TT) : TT := fun σ H Q => t σ H fun c H1 => if c = true then Q true H1 else u σ H1 Q
def tNot (t : TT) : TT := fun σ H Q => t σ H fun c H1 => Q (!c) H1
theorem pw_and1 (ha : PT X a tA) : PW X (.BoolOp .And [a] pos) tA := by
  intro wh pins s σ H Q I h
  refine isTrue_and (thn (ha pins s σ H Q I h) fun c s1 e => ?_)
  cases c with
  | true => exact isTrue_and_nil e
  | false => exact e
theorem pw_or1 (ha : PT X a tA) : PW X (.BoolOp .Or [a] pos) tA := by
  intro wh pins s σ H Q I h
  refine isTrue_or (thn (ha pins s σ H Q I h) fun c s1 e => ?_)
  cases c with
  | false => exact isTrue_or_nil e
  | true => exact e
theorem pw_and (ha : PT X a tA) (hb : PW X (.BoolOp .And (b :: rest) pos) tB') : PW X (.BoolOp .And (a :: b :: rest) pos) (tAnd tA tB') := by
  intro wh pins s σ H Q I h
  refine isTrue_and (thn (ha pins s σ H _ I h) fun c s1 ⟨H1, I1, q1⟩ => ?_)
  cases c with
  | true => exact hb wh pins s1 σ H1 Q I1 q1
  | false => exact ⟨H1, I1, q1⟩
theorem pw_or (ha : PT X a tA) (hb : PW X (.BoolOp .Or (b :: rest) pos) tB') : PW X (.BoolOp .Or (a :: b :: rest) pos) (tOr tA tB') := by
  intro wh pins s σ H Q I h
  refine isTrue_or (thn (ha pins s σ H _ I h) fun c s1 ⟨H1, I1, q1⟩ => ?_)
  cases c with
  | true => exact ⟨H1, I1, q1⟩
  | false => exact hb wh pins s1 σ H1 Q I1 q1
theorem pt_not (ha : PT X a tA) : PT X (.UnaryOp .Not a pos) (tNot tA) := by
  intro pins s σ H Q I h
  exact isTrue_not (ha pins s σ H (fun c H1 => Q (!c) H1) I h)
def tAndV (ta tb : TE) : TE := fun σ H Q => ta σ H fun x H1 => ∃ c, x = .bl c ∧ if c = true then tb σ H1 Q else Q (.bl false) H1
def tOrV (ta tb : TE) : TE := fun σ H Q => ta σ H fun x H1 => ∃ c, x = .bl c ∧ if c = true then Q (.bl true) H1 else tb σ H1 Q
def tNotV (ta : TE) : TE := fun σ H Q => ta σ H fun x H1 => ∃ c, x = .bl c ∧ Q (.bl (!c)) H1
theorem pe_one {op} {t : TE} (h : PE X a t) : PE X (.BoolOp op [a] pos) t := fun pins s σ H Q I hw => BoolOp_one (h pins s σ H Q I hw)
theorem pe_and (ha : PE X a ta) (hb : PE X (.BoolOp .And (b :: rest) pos) tb) : PE X (.BoolOp .And (a :: b :: rest) pos) (tAndV ta tb) := by
  intro pins s σ H Q I h
  refine BoolOp_and (thn (ha pins s σ H _ I h) fun v s1 ⟨x, H1, I1, r1, q1⟩ => ?_)
  obtain ⟨c, rfl, q1⟩ := q1
  cases r1
  refine wpAny_truthy_bool ?_
  cases c with
  | true => exact hb pins s1 σ H1 Q I1 q1
  | false => exact ⟨.bl false, H1, I1, rfl, q1⟩
theorem pe_or (ha : PE X a ta) (hb : PE X (.BoolOp .Or (b :: rest) pos) tb) : PE X (.BoolOp .Or (a :: b :: rest) pos) (tOrV ta tb) := by
  intro pins s σ H Q I h
  refine BoolOp_or (thn (ha pins s σ H _ I h) fun v s1 ⟨x, H1, I1, r1, q1⟩ => ?_)
  obtain ⟨c, rfl, q1⟩ := q1
  cases r1
  refine wpAny_truthy_bool ?_
  cases c with
  | false => exact hb pins s1 σ H1 Q I1 q1
  | true => exact ⟨.bl true, H1, I1, rfl, q1⟩
theorem pe_not (ha : PE X a ta) : PE X (.UnaryOp .Not a pos) (tNotV ta) := by
  intro pins s σ H Q I h
  refine UnaryOp_ (thn (ha pins s σ H _ I h) fun v s1 ⟨x, H1, I1, r1, q1⟩ => ?_)
  obtain ⟨c, rfl, q1⟩ := q1
  cases r1
  exact not_of (wpAny_truthy_bool ⟨.bl (!c), H1, I1, rfl, q1⟩)
def tIf (t : TT) (ta tb : TE) : TE := fun σ H Q => t σ H fun c H1 => if c = true then ta σ H1 Q else tb σ H1 Q
theorem pe_ifExp {c : Expr} (hc : PT X c tA) (ha : PE X a ta) (hb : PE X b tb) : PE X (.IfExp c a b pos) (tIf tA ta tb) := by
  intro pins s σ H Q I h
  refine wpAny_IfExp (thn (hc pins s σ H _ I h) fun d s1 ⟨H1, I1, q1⟩ => ?_)
  cases d with
  | true => exact ha pins s1 σ H1 Q I1 q1
  | false => exact hb pins s1 σ H1 Q I1 q1
end
end L2
namespace L2
open PySem PySem.Spec PyProof.Rows
def SqL (K : PySem.W.Frag) (H : Hp) (a : Addr) (xs : List V) : Prop :=
  Rd H a (.lst xs) ∨
    ∃ (o : Obj) (its : Array Value) (n : Nat), K.lookup a = some o ∧ o.cls = .type "list" ∧ o.dict = none ∧ o.data = .seq its n ∧ its.size ≤ sizeLine ∧ Vals xs its.toList
def SqT (K : PySem.W.Frag) (H : Hp) (a : Addr) (xs : List V) : Prop :=
  Rd H a (.tup xs) ∨
    ∃ (o : Obj) (its : Array Value) (n : Nat), K.lookup a = some o ∧ o.cls = .type "tuple" ∧ o.data = .seq its n ∧ its.size ≤ sizeLine ∧ Vals xs its.toList
def absV : Value → Option V
  | .none => some .non
  | .bool b => some (.bl b)
  | .int i _ => some (.int i)
  | .str x _ => some (.str x)
  | .bytes b _ => some (.byt b)
  | .float b _ => some (.flt b)
  | .ref a => some (.ref a)
  | .type n => some (.ty n)
  | _ => none
theorem RelV.abs {x : V} {u : Value} (r : RelV x u) : absV u = some x := by
  cases x with
  | non => cases r; rfl
  | bl _ => cases r; rfl
  | int _ => obtain ⟨t, rfl⟩ := r; rfl
  | str _ => obtain ⟨t, rfl⟩ := r; rfl
  | byt _ => obtain ⟨t, rfl⟩ := r; rfl
  | flt _ => obtain ⟨t, rfl⟩ := r; rfl
  | ref _ => cases r; rfl
  | ty _ => cases r; rfl
theorem RelV.inj {x y : V} {u : Value} (r : RelV x u) (q : RelV y u) : x = y := Option.some.inj (r.abs.symm.trans q.abs)
theorem Vals.inj : ∀ {xs ys : List V} {us : List Value}, Vals xs us → Vals ys us → xs = ys
  | _, _, _, .nil, .nil => rfl
  | _, _, _, .cons r t, .cons r' t' => by rw [r.inj r', Vals.inj t t']
section
variable {X : Cx} {pins : List (Addr × Obj)} {σ : St} {H : Hp} {s : Shared} {a : Addr} {xs ys : List V}
theorem SqL.of {K : PySem.W.Frag} (h : H a = some (.lst xs)) : SqL K H a xs := .inl (.inl h)
theorem SqT.of {K : PySem.W.Frag} (h : H a = some (.tup xs)) : SqT K H a xs := .inl (.inl h)
theorem Inv.list (I : Inv X pins σ H s) (h : SqL X.K H a xs) : ∃ its : List Value, Vals xs its ∧ PlainL s.heap a its.toArray ∧ xs.length ≤ sizeLine := by
  rcases h with h | ⟨o, its, n, hk, hc, hd, hs, hz, r⟩
  · obtain ⟨z, its, n, r, e⟩ := h.ok I.hok
    exact ⟨its, r, ⟨_, n, e, rfl, rfl, rfl⟩, z⟩
  · refine ⟨its.toList, r, ⟨o, n, I.kIn a o hk, hc, hd, by simpa using hs⟩, ?_⟩
    have e := r.length
    simp only [Array.length_toList] at e
    omega
theorem Inv.tuple (I : Inv X pins σ H s) (h : SqT X.K H a xs) : ∃ its : List Value, Vals xs its ∧ IsTup s.heap a its.toArray ∧ xs.length ≤ sizeLine := by
  rcases h with h | ⟨o, its, n, hk, hc, hs, hz, r⟩
  · obtain ⟨z, its, r, p⟩ := h.ok I.hok
    exact ⟨its, r, p, z⟩
  · refine ⟨its.toList, r, ⟨o, I.kIn a o hk, hc, n, by simpa using hs⟩, ?_⟩
    have e := r.length
    simp only [Array.length_toList] at e
    omega
theorem Inv.list_inj (I : Inv X pins σ H s) (h : SqL X.K H a xs) (h' : SqL X.K H a ys) : xs = ys := by
  obtain ⟨its, r, ⟨o, n, e, _, _, d⟩, _⟩ := I.list h
  obtain ⟨its', r', ⟨o', n', e', _, _, d'⟩, _⟩ := I.list h'
  rw [e] at e'; cases e'
  rw [d] at d'
  injection d' with d1 _
  have : its = its' := by simpa using congrArg Array.toList d1
  subst this
  exact r.inj r'
theorem Inv.tuple_inj (I : Inv X pins σ H s) (h : SqT X.K H a xs) (h' : SqT X.K H a ys) : xs = ys := by
  obtain ⟨its, r, ⟨o, e, _, n, d⟩, _⟩ := I.tuple h
  obtain ⟨its', r', ⟨o', e', _, n', d'⟩, _⟩ := I.tuple h'
  rw [e] at e'; cases e'
  rw [d] at d'
  injection d' with d1 _
  have : its = its' := by simpa using congrArg Array.toList d1
  subst this
  exact r.inj r'
end
abbrev Cx.wish (X : Cx) (E : Value → Shared → Prop) : Cx := { X with xe := E }
abbrev Cx.nox (X : Cx) : Cx := X.wish fun _ _ => False
theorem Cx.Ok.wish {X : Cx} (ok : X.Ok) (E : Value → Shared → Prop) : (X.wish E).Ok :=
  ⟨ok.mod, ok.kind, ok.glob, ok.blt, ok.above, ok.inj, ok.has, ok.cab, ok.hd, ok.frames, ok.stk, ok.exf, ok.bs, ok.bsz, ok.noex, ok.exfs, ok.funs, ok.frf⟩
theorem Cx.Ok.unwish {X : Cx} {E : Value → Shared → Prop} (ok : (X.wish E).Ok) : X.Ok :=
  ⟨ok.mod, ok.kind, ok.glob, ok.blt, ok.above, ok.inj, ok.has, ok.cab, ok.hd, ok.frames, ok.stk, ok.exf, ok.bs, ok.bsz, ok.noex, ok.exfs, ok.funs, ok.frf⟩
section
variable {X : Cx} {pins : List (Addr × Obj)} {σ : St} {H : Hp} {s : Shared} {E : Value → Shared → Prop}
theorem Inv.wish (I : Inv X pins σ H s) (E : Value → Shared → Prop) : Inv (X.wish E) pins σ H s := ⟨I.ok.wish E, I.os, I.bare, I.base, I.loc, I.cell, I.free, I.freeC, I.pin, I.hok, I.len⟩
theorem Inv.unwish (I : Inv (X.wish E) pins σ H s) : Inv X pins σ H s := ⟨I.ok.unwish, I.os, I.bare, I.base, I.loc, I.cell, I.free, I.freeC, I.pin, I.hok, I.len⟩
theorem SP.unwish {D : Ends} {f : Flow} {s' : Shared} (h : SP (X.wish E) pins D f s') : SP X pins D f s' := by
  cases f with
  | next => obtain ⟨σ', H', I, q⟩ := h; exact ⟨σ', H', I.unwish, q⟩
  | brk => obtain ⟨σ', H', I, q⟩ := h; exact ⟨σ', H', I.unwish, q⟩
  | cont => obtain ⟨σ', H', I, q⟩ := h; exact ⟨σ', H', I.unwish, q⟩
  | ret u => obtain ⟨v, σ', H', I, r, q⟩ := h; exact ⟨v, σ', H', I.unwish, r, q⟩
theorem PSs.nox {st : List Stmt} {t : TS} (h : PSs X.nox st t) : PSs X st t := fun pins s σ H D I hw =>
  wpAny_mono (h pins s σ H D (I.wish _) hw) (fun _ _ q => q.unwish) fun _ _ z => False.elim z
end
section
variable {X : Cx} {st : Stmt} {rest : List Stmt} {t u : TS} {e : Expr} {te : TE} {pos : Pos}
def tNext : TS := fun D σ H => D.nx σ H
def tSeq (t u : TS) : TS := fun D σ H => t { D with nx := u D } σ H
theorem pss_nil : PSs X [] tNext := fun _ _ σ H _ I h => wpAny_execs_nil ⟨σ, H, I, h⟩
theorem pss_cons (h1 : PS X st t) (h2 : PSs X rest u) : PSs X (st :: rest) (tSeq t u) := by
  intro pins s σ H D I h
  refine wpAny_execs_cons (thn (h1 pins s σ H { D with nx := u D } I h) fun f s1 q => ?_)
  cases f with
  | next =>
    obtain ⟨σ', H', I', q⟩ := q
    exact h2 pins s1 σ' H' D I' q
  | ret v => exact q
  | brk => exact q
  | cont => exact q
theorem pss_one (h1 : PS X st t) : PSs X [st] t := by
  intro pins s σ H D I h
  refine wpAny_execs_cons (thn (h1 pins s σ H D I h) fun f s1 q => ?_)
  cases f with
  | next => exact wpAny_execs_nil q
  | ret v => exact q
  | brk => exact q
  | cont => exact q
theorem Inv.quiet {pins : List (Addr × Obj)} {σ : St} {H : Hp} {s : Shared} (I : Inv X pins σ H s) : interactive X.env = false := by simp [interactive, I.ok.kind]
def tDrop (te : TE) : TS := fun D σ H => te σ H fun _ H1 => D.nx σ H1
theorem ps_expr (he : PE X e te) (hs : swapsWith e none pos.line X.env = pure false := by rfl) : PS X (.Expr e pos) (tDrop te) := by
  intro pins s σ H D I h
  exact wpAny_Expr_any (thn (he pins s σ H _ I h) fun v s1 ⟨x, H1, I1, r1, q1⟩ => ⟨σ, H1, I1, q1⟩) I.quiet hs
def tRet (te : TE) : TS := fun D σ H => te σ H D.rt
theorem ps_ret (he : PE X e te) : PS X (.Return (some e) pos) (tRet te) := by
  intro pins s σ H D I h
  exact wpAny_Return_some (thn (he pins s σ H _ I h) fun v s1 ⟨x, H1, I1, r1, q1⟩ => ⟨x, σ, H1, I1, r1, q1⟩)
def tIfS (c : TT) (t u : TS) : TS := fun D σ H => c σ H fun b H1 => if b = true then t D σ H1 else u D σ H1
theorem ps_if {c : Expr} {a b : List Stmt} {tc : TT} (hc : PT X c tc) (ha : PSs X a t) (hb : PSs X b u) : PS X (.If c a b pos) (tIfS tc t u) := by
  intro pins s σ H D I h
  refine wpAny_If (thn (hc pins s σ H _ I h) fun d s1 ⟨H1, I1, q1⟩ => ?_)
  cases d with
  | true => exact ha pins s1 σ H1 D I1 q1
  | false => exact hb pins s1 σ H1 D I1 q1
end
abbrev TG := V → St → Hp → (St → Hp → Prop) → Prop
abbrev TGs := List V → St → Hp → (St → Hp → Prop) → Prop
def PG (X : Cx) (target : Expr) (t : TG) : Prop :=
  ∀ (pins : List (Addr × Obj)) (s : Shared) (σ : St) (H : Hp) (v : V) (u : Value) (Q : St → Hp → Prop), Inv X pins σ H s → RelV v u → t v σ H Q →
    wpAny (model X.prog X.w) X.A (assign target X.env u) (fun _ s' => ∃ σ' H', Inv X pins σ' H' s' ∧ Q σ' H') X.xe s
def PGs (X : Cx) (ts : List Expr) (t : TGs) : Prop :=
  ∀ (pins : List (Addr × Obj)) (s : Shared) (σ : St) (H : Hp) (vs : List V) (us : List Value) (Q : St → Hp → Prop), Inv X pins σ H s → Vals vs us → t vs σ H Q →
    wpAny (model X.prog X.w) X.A (assignInOrder ((assignEach ts X.env).map (·.2)) us) (fun _ s' => ∃ σ' H', Inv X pins σ' H' s' ∧ Q σ' H') X.xe s
section
variable {X : Cx} {pos : Pos}
def gName (i : Nat) : TG := fun v σ H Q => Q (σ.set i (some v)) H
theorem pg_name {i : Nat} {x : Str} (hN : X.N.Nodup) (hi : X.N[i]? = some x) (hx : Loc X.env.scope x) (hf : X.fn x = true ∨ X.env.scope.names.lookup x = some .local := by first | exact .inl rfl | exact .inr rfl | assumption) : PG X (.Name x pos) (gName i) := by
  intro pins s σ H v u Q I r h
  exact wpAny_assign_Name (store_ok I hN hi hx r (fun s' I' => ⟨_, H, I', h⟩) hf)
def gNil : TGs := fun vs σ H Q => vs = [] ∧ Q σ H
def gCons (t : TG) (u : TGs) : TGs := fun vs σ H Q => ∃ v r, vs = v :: r ∧ t v σ H fun σ' H' => u r σ' H' Q
theorem pgs_nil : PGs X [] gNil := by
  intro pins s σ H vs us Q I r h
  obtain ⟨e, h⟩ := h
  subst e
  cases r
  exact assignInOrder_nil ⟨σ, H, I, h⟩
theorem pgs_cons {e : Expr} {es : List Expr} {t : TG} {u : TGs} (h1 : PG X e t) (h2 : PGs X es u)
    (hs : (assignEach (e :: es) X.env).map (·.2) = assign e X.env :: (assignEach es X.env).map (·.2) := by rfl) : PGs X (e :: es) (gCons t u) := by
  intro pins s σ H vs us Q I r h
  obtain ⟨v, vr, e1, h⟩ := h
  subst e1
  cases r with
  | cons r rr =>
    rw [hs]
    refine assignInOrder_cons (thn (h1 pins s σ H _ _ _ I r h) fun _ s1 ⟨σ1, H1, I1, q1⟩ => ?_)
    exact h2 pins s1 σ1 H1 _ _ Q I1 rr q1
def gTup (K : PySem.W.Frag) (n : Nat) (t : TGs) : TG := fun v σ H Q => ∃ a xs, v = .ref a ∧ SqT K H a xs ∧ xs.length = n ∧ t xs σ H Q
theorem pg_tup {es : List Expr} {k : Nat} {t : TGs} {n : Nat} (hc : X.calm = true) (h : PGs X es t)
    (hn : (assignEach es X.env).length = n := by rfl) (hst : (assignEach es X.env).findIdx? (·.1) = none := by rfl) : PG X (.Tuple es k pos) (gTup X.K n t) := by
  intro pins s σ H v u Q I r hw
  obtain ⟨a, xs, e1, hq, hl, hw⟩ := hw
  subst e1
  cases r
  obtain ⟨its, rv, ht, hz⟩ := I.tuple hq
  refine assign_Tuple_tuple (I.ok.hd hc) ht (by simp [hn, ← hl, rv.length]) hst fun h' hx => ?_
  have I1 : Inv X pins σ H { s with heap := h' } := I.kept (t' := s.toks) fun b o e => hx b o (Nat.ne_of_lt (Heap.lt_size e)) e
  exact h pins _ σ H xs _ Q I1 (by simpa using rv) hw
def tAsg (te : TE) (g : TG) : TS := fun D σ H => te σ H fun x H1 => g x σ H1 D.nx
theorem ps_set {i : Nat} {x : Str} {e : Expr} {te : TE} {pos' : Pos} (hN : X.N.Nodup) (hi : X.N[i]? = some x) (hx : Loc X.env.scope x) (he : PE X e te) (hs : swapsWith e (some (.Name x pos')) pos.line X.env = pure false := by rfl) (hf : X.fn x = true ∨ X.env.scope.names.lookup x = some .local := by first | exact .inl rfl | exact .inr rfl | assumption) :
    PS X (.Assign [.Name x pos'] e pos) (tAsg te (gName i)) := by
  intro pins s σ H D I h
  refine wpAny_Assign_Name (thn (he pins s σ H _ I h) fun v s1 ⟨y, H1, I1, r1, q1⟩ => ?_) hs
  exact store_ok I1 hN hi hx r1 (fun s2 I2 => ⟨_, H1, I2, q1⟩) hf
end
section
variable {X : Cx} {pos : Pos}
def tWhile (c : TT) (tb : TS) : TS := fun D σ H => ∃ W : Nat → St → Hp → Prop, (∃ m, W m σ H) ∧ ∀ m σ H, W m σ H →
  c σ H fun b H1 => if b = true then ∃ N : St → Hp → Prop, (∀ σ' H', N σ' H' → ∃ m', m' < m ∧ W m' σ' H') ∧ tb { D with nx := N, ct := N, bk := D.nx } σ H1 else D.nx σ H1
theorem ps_while {c : Expr} {body : List Stmt} {tc : TT} {tb : TS} (hp : PassesOwn (model X.prog X.w) X.A X.env X.xe) (hc : PT X c tc) (hb : PSs X body tb) : PS X (.While c body [] pos) (tWhile tc tb) := by
  intro pins s σ H D I h
  obtain ⟨W, ⟨m0, w0⟩, turn⟩ := h
  refine wpAny_While (codeAny_whileLoop (fun n s' => ∃ σ' H', Inv X pins σ' H' s' ∧ W n σ' H') ?_ m0 ⟨σ, H, I, w0⟩)
  rintro n s1 ⟨σ1, H1, I1, w1⟩
  refine wpAny_passesOwn hp (thn (hc pins s1 σ1 H1 _ I1 (turn n σ1 H1 w1)) fun b s2 ⟨H2, I2, q2⟩ => ?_)
  cases b with
  | true =>
    obtain ⟨N, hN, q2⟩ := q2
    rw [if_pos rfl]
    refine wpAny_passesOwn hp (thn (hb pins s2 σ1 H2 _ I2 q2) fun f s3 q3 => ?_)
    cases f with
    | next =>
      obtain ⟨σ3, H3, I3, n3⟩ := q3
      obtain ⟨m', hm, w3⟩ := hN σ3 H3 n3
      exact ⟨m', hm, σ3, H3, I3, w3⟩
    | cont =>
      obtain ⟨σ3, H3, I3, n3⟩ := q3
      obtain ⟨m', hm, w3⟩ := hN σ3 H3 n3
      exact ⟨m', hm, σ3, H3, I3, w3⟩
    | brk => exact q3
    | ret v => exact q3
  | false =>
    rw [if_neg Bool.false_ne_true]
    exact wpAny_execs_nil ⟨σ1, H2, I2, q2⟩
end
structure It where
  go : Nat → Hp → Prop
  yld : Nat → Hp → V → Hp → Prop
  stop : Nat → Hp → Prop
def FpOk (X : Cx) (pins : List (Addr × Obj)) (H : Hp) (b : Addr) : Prop :=
  H b = none ∧ b ≠ X.env.locals ∧ b ∉ X.fs ∧ (b ∈ X.ex ∨ X.s₀.heap.objs.size ≤ b) ∧ (∀ x c, X.env.cells.lookup x = some c → c ≠ b) ∧ ∀ p ∈ X.pn ++ pins, p.1 ≠ b
theorem Inv.fpOk {X : Cx} {pins : List (Addr × Obj)} {σ : St} {H H' : Hp} {s : Shared} {b : Addr} (I : Inv X pins σ H s) (hb : s.heap.objs.size ≤ b) (hn : H' b = none) : FpOk X pins H' b := by
  refine ⟨hn, Nat.ne_of_gt (Nat.lt_of_lt_of_le I.lt hb), I.nofs hb, .inr (Nat.le_trans I.sz hb), fun x c e z => ?_, fun p hp z => ?_⟩
  · obtain ⟨v, q⟩ := I.cell x c e
    exact absurd (Nat.lt_of_lt_of_le q.lt (by rw [z]; exact hb)) (Nat.lt_irrefl _)
  · exact absurd (Nat.lt_of_lt_of_le (Heap.lt_size (I.pin p hp).1) (by rw [z]; exact hb)) (Nat.lt_irrefl _)
structure Turn (P : Program) (w : World) (K : PySem.W.Frag) (tg : Expr) (J : It) (fp : List Addr) (it : Addr) (tn : Nat → Heap → Prop) : Prop where
  mem : it ∈ fp
  obj : ∀ i h, tn i h → ∀ b ∈ fp, ∃ o, h.get? b = some o ∧ ∀ v, o.data ≠ .cell v
  keep : ∀ i h h', tn i h → (∀ b ∈ fp, ∀ o, h.get? b = some o → h'.get? b = some o) → tn i h'
  item : ∀ (X : Cx), X.prog = P → X.w = w → X.K = K → X.calm = true → ∀ (i : Nat) (pins : List (Addr × Obj)) (s : Shared) (σ : St) (H : Hp) (E : Value → Shared → Prop), Inv X pins σ H s → (∀ b ∈ fp, FpOk X pins H b) → tn i s.heap → J.go i H →
    wpAny (model P w) X.A (pyNext (.ref it)) (fun r s1 => ∃ u, r = some u ∧
      wpAny (model P w) X.A (letOwnedTupleGo tg (.ref it) u) (fun _ s2 => ∃ x H', Inv X pins σ H' s2 ∧ RelV x u ∧ J.yld i H x H' ∧ tn (i + 1) s2.heap ∧ ∀ b ∈ fp, H' b = none) E s1) E s
  done : ∀ (X : Cx), X.prog = P → X.w = w → X.K = K → X.calm = true → ∀ (i : Nat) (pins : List (Addr × Obj)) (s : Shared) (σ : St) (H : Hp) (E : Value → Shared → Prop), Inv X pins σ H s → (∀ b ∈ fp, FpOk X pins H b) → tn i s.heap → J.stop i H →
    wpAny (model P w) X.A (pyNext (.ref it)) (fun r s1 => r = none ∧ Inv X pins σ H s1) E s
  self : ∀ (A : Around) (i : Nat) (s : Shared) (Q : Value → Shared → Prop) (E : Value → Shared → Prop), tn i s.heap → Q (.ref it) s → wpAny (model P w) A (pyIter (.ref it)) Q E s
abbrev TI := St → Hp → (It → Hp → Prop) → Prop
def PIE (X : Cx) (pins : List (Addr × Obj)) (σ : St) (tg : Expr) (R : It → Hp → Prop) (itv : Value) (s2 : Shared) : Prop :=
  ∃ (it : Addr) (fp : List Addr) (tn : Nat → Heap → Prop) (J : It) (H' : Hp), itv = .ref it ∧ Inv X pins σ H' s2 ∧ Turn X.prog X.w X.K tg J fp it tn ∧ tn 0 s2.heap ∧ (∀ b ∈ fp, FpOk X pins H' b) ∧ R J H'
def PI (X : Cx) (tg iter : Expr) (wi : TI) : Prop :=
  ∀ (pins : List (Addr × Obj)) (s : Shared) (σ : St) (H : Hp) (R : It → Hp → Prop), Inv X pins σ H s → wi σ H R →
    wpAny (model X.prog X.w) X.A (eval iter X.env) (fun v s1 => wpAny (model X.prog X.w) X.A (pyIter v) (PIE X pins σ tg R) X.xe s1) X.xe s
theorem go_of {M : Model} {A : Around} {E : Value → Shared → Prop} {s : Shared} {tg : Expr} {it : Addr} {u : Value} {o : Obj} {n : String} {vs : Array Value} {Q : Unit → Shared → Prop} (ho : s.heap.get? it = some o) (hc : o.cls = .type n) (hd : o.data = .fields vs)
    (hn : ["enumerate", "zip", "dict_itemiterator", "dict_reverseitemiterator", "odict_iterator", "itertools.zip_longest", "itertools.pairwise"].contains n = false) (hQ : Q () s) : wpAny M A (letOwnedTupleGo tg (.ref it) u) Q E s := by
  unfold letOwnedTupleGo
  cases tg <;> first
    | exact wpAny_pure hQ
    | (cases u <;> first
        | exact wpAny_pure hQ
        | (refine wpAny_bind (wpAny_load ho ?_)
           rw [hc, hd]
           show wpAny M A (if (["enumerate", "zip", "dict_itemiterator", "dict_reverseitemiterator", "odict_iterator", "itertools.zip_longest", "itertools.pairwise"].contains n && vs[0]? == some (rawInt _)) = true then _ else _) Q E s
           rw [if_neg (by intro h; rw [hn, Bool.false_and] at h; cases h)]
           exact wpAny_pure hQ))
def Itl (K : PySem.W.Frag) (a : Addr) : It :=
  ⟨fun i H => ∃ xs x, SqL K H a xs ∧ xs[i]? = some x, fun i H x H' => H' = H ∧ ∀ xs, SqL K H a xs → xs[i]? = some x, fun i H => ∃ xs, SqL K H a xs ∧ xs.length ≤ i⟩
def Itt (K : PySem.W.Frag) (a : Addr) : It :=
  ⟨fun i H => ∃ xs x, SqT K H a xs ∧ xs[i]? = some x, fun i H x H' => H' = H ∧ ∀ xs, SqT K H a xs → xs[i]? = some x, fun i H => ∃ xs, SqT K H a xs ∧ xs.length ≤ i⟩
def Itr (lo : Int) (n : Nat) : It := ⟨fun i _ => i < n, fun i H x H' => H' = H ∧ x = .int (lo + i), fun i _ => n ≤ i⟩
theorem turn_list {P : Program} {w : World} {K : PySem.W.Frag} {tg : Expr} (a it : Addr) : Turn P w K tg (Itl K a) [it] it (fun i h => h.IsListIter it a i) where
  mem := by simp
  obj := fun i h st b hb => by
    have e : b = it := by simpa using hb
    subst e
    obtain ⟨o, e, c, d⟩ := st
    exact ⟨o, e, fun v z => by rw [d] at z; cases z⟩
  keep := fun i h h' st k => st.at fun o e => k it (by simp) o e
  item := by
    intro X hP hw hK hc i pins s σ H E I hf st hg
    subst hP hw hK
    obtain ⟨xs, x, hq, hx⟩ := hg
    obtain ⟨its, rv, p, hz⟩ := I.list hq
    obtain ⟨u, hu, ru⟩ := rv.get hx
    obtain ⟨f0, f1, f2, f3, f4, f5⟩ := hf it (by simp)
    refine wpAny_pyNext_list_item st p.isList (x := u) (by simpa using hu) fun h' st' sb => ?_
    have I1 : Inv X pins σ H { s with heap := h' } := I.turned (t' := s.toks) (fun b o hb e => (sb.2 b hb).trans e) f0 f1 f3 f4 f5
    obtain ⟨o, e, c, d⟩ := id st'
    exact ⟨u, rfl, go_of (s := { s with heap := h' }) e c d (by decide) ⟨x, H, I1, ru, ⟨rfl, fun ys hy => by rw [I.list_inj hy hq]; exact hx⟩, st', fun b hb => (hf b hb).1⟩⟩
  done := by
    intro X hP hw hK hc i pins s σ H E I hf st hg
    subst hP hw hK
    obtain ⟨xs, hq, hx⟩ := hg
    obtain ⟨its, rv, p, hz⟩ := I.list hq
    obtain ⟨f0, f1, f2, f3, f4, f5⟩ := hf it (by simp)
    have hl := rv.length
    exact wpAny_pyNext_list_end (I.ok.hd hc) st p.isList (by simp; omega) fun h' eb => ⟨rfl, I.turned (t' := s.toks) (fun b o hb e => eb b o hb e) f0 f1 f3 f4 f5⟩
  self := fun _ _ _ _ _ st h => wpAny_pyIter_listiter st h
theorem turn_tuple {P : Program} {w : World} {K : PySem.W.Frag} {tg : Expr} (a it : Addr) : Turn P w K tg (Itt K a) [it] it (fun i h => h.IsTupleIter it a i) where
  mem := by simp
  obj := fun i h st b hb => by
    have e : b = it := by simpa using hb
    subst e
    obtain ⟨o, e, c, d⟩ := st
    exact ⟨o, e, fun v z => by rw [d] at z; cases z⟩
  keep := fun i h h' st k => st.at fun o e => k it (by simp) o e
  item := by
    intro X hP hw hK hc i pins s σ H E I hf st hg
    subst hP hw hK
    obtain ⟨xs, x, hq, hx⟩ := hg
    obtain ⟨its, rv, p, hz⟩ := I.tuple hq
    obtain ⟨u, hu, ru⟩ := rv.get hx
    obtain ⟨f0, f1, f2, f3, f4, f5⟩ := hf it (by simp)
    refine wpAny_pyNext_tuple_item st (show s.heap.IsTuple a its.toArray from p) (x := u) (by simpa using hu) fun h' st' sb => ?_
    have I1 : Inv X pins σ H { s with heap := h' } := I.turned (t' := s.toks) (fun b o hb e => (sb.2 b hb).trans e) f0 f1 f3 f4 f5
    obtain ⟨o, e, c, d⟩ := id st'
    exact ⟨u, rfl, go_of (s := { s with heap := h' }) e c d (by decide) ⟨x, H, I1, ru, ⟨rfl, fun ys hy => by rw [I.tuple_inj hy hq]; exact hx⟩, st', fun b hb => (hf b hb).1⟩⟩
  done := by
    intro X hP hw hK hc i pins s σ H E I hf st hg
    subst hP hw hK
    obtain ⟨xs, hq, hx⟩ := hg
    obtain ⟨its, rv, p, hz⟩ := I.tuple hq
    obtain ⟨f0, f1, f2, f3, f4, f5⟩ := hf it (by simp)
    have hl := rv.length
    exact wpAny_pyNext_tuple_end (I.ok.hd hc) st (show s.heap.IsTuple a its.toArray from p) (by simp; omega) fun h' eb => ⟨rfl, I.turned (t' := s.toks) (fun b o hb e => eb b o hb e) f0 f1 f3 f4 f5⟩
  self := fun _ _ _ _ _ st h => wpAny_pyIter_tupleiter st h
theorem turn_range {P : Program} {w : World} {K : PySem.W.Frag} {tg : Expr} (it : Addr) (lo : Int) (n : Nat) : Turn P w K tg (Itr lo n) [it] it (fun i h => IsRangeIter h it (lo + (i : Nat) * 1) ((n : Int) - (i : Nat)) 1) where
  mem := by simp
  obj := fun i h st b hb => by
    have e : b = it := by simpa using hb
    subst e
    exact ⟨_, st, fun v z => by
      have z' : Data.fields _ = Data.cell v := z
      cases z'⟩
  keep := fun i h h' st k => k it (by simp) _ st
  item := by
    intro X hP hw hK hc i pins s σ H E I hf st hg
    subst hP hw hK
    obtain ⟨f0, f1, f2, f3, f4, f5⟩ := hf it (by simp)
    have W := Walks.range (prog := X.prog) (w := X.w) (I.ok.hd hc) it lo 1 n
    refine W.item i s _ _ hg st fun v h' tk hv st' kk => ?_
    obtain ⟨t, rfl⟩ := hv
    have I1 : Inv X pins σ H { s with heap := h', toks := tk } := I.turned (fun b o hb e => kk b o (by simpa using hb) e) f0 f1 f3 f4 f5
    refine ⟨_, rfl, go_of (s := { s with heap := h', toks := tk }) (n := "range_iterator") st' rfl rfl (by decide) ⟨.int (lo + i), H, I1, ⟨t, ?_⟩, ⟨rfl, rfl⟩, st', fun b hb => (hf b hb).1⟩⟩
    rw [Int.mul_one]
  done := by
    intro X hP hw hK hc i pins s σ H E I hf st hg
    subst hP hw hK
    obtain ⟨f0, f1, f2, f3, f4, f5⟩ := hf it (by simp)
    exact wpAny_pyNext_range_end (I.ok.hd hc) st (by have : n ≤ i := hg; omega) fun h' eb => ⟨rfl, I.turned (t' := s.toks) (fun b o hb e => eb b o hb e) f0 f1 f3 f4 f5⟩
  self := fun _ _ _ _ _ st h => wpAny_pyIter_rangeiter st h
end L2
namespace L2
open PySem PySem.Spec PyProof.Rows
section
variable {X : Cx} {tg : Expr}
def iList (K : PySem.W.Frag) (tl : TE) : TI := fun σ H R => tl σ H fun x H1 => ∃ a, x = .ref a ∧ (∃ xs, SqL K H1 a xs) ∧ R (Itl K a) H1
def iTup (K : PySem.W.Frag) (tl : TE) : TI := fun σ H R => tl σ H fun x H1 => ∃ a, x = .ref a ∧ (∃ xs, SqT K H1 a xs) ∧ R (Itt K a) H1
theorem pi_list {l : Expr} {tl : TE} (hl : PE X l tl) : PI X tg l (iList X.K tl) := by
  intro pins s σ H R I h
  refine thn (hl pins s σ H _ I h) fun v s1 ⟨x, H1, I1, r1, q1⟩ => ?_
  obtain ⟨a, e, ⟨xs, hq⟩, q⟩ := q1
  subst e
  cases r1
  obtain ⟨its, rv, p, hz⟩ := I1.list hq
  refine wpAny_pyIter_list p.isList ?_
  refine ⟨s1.heap.objs.size, [s1.heap.objs.size], _, _, H1, rfl, I1.kept (t' := s1.toks) fun b o e => Heap.get?_push_of_some _ e, turn_list a _, ⟨_, Heap.get?_push_size _ rfl, rfl, rfl⟩, fun b hb => ?_, q⟩
  have e : b = s1.heap.objs.size := by simpa using hb
  subst e
  exact I1.fpOk (Nat.le_refl _) (I1.hok.fresh (Nat.le_refl _))
theorem pi_tup {l : Expr} {tl : TE} (hl : PE X l tl) : PI X tg l (iTup X.K tl) := by
  intro pins s σ H R I h
  refine thn (hl pins s σ H _ I h) fun v s1 ⟨x, H1, I1, r1, q1⟩ => ?_
  obtain ⟨a, e, ⟨xs, hq⟩, q⟩ := q1
  subst e
  cases r1
  obtain ⟨its, rv, p, hz⟩ := I1.tuple hq
  refine wpAny_pyIter_tuple (show s1.heap.IsTuple a its.toArray from p) ?_
  refine ⟨s1.heap.objs.size, [s1.heap.objs.size], _, _, H1, rfl, I1.kept (t' := s1.toks) fun b o e => Heap.get?_push_of_some _ e, turn_tuple a _, ⟨_, Heap.get?_push_size _ rfl, rfl, rfl⟩, fun b hb => ?_, q⟩
  have e : b = s1.heap.objs.size := by simpa using hb
  subst e
  exact I1.fpOk (Nat.le_refl _) (I1.hok.fresh (Nat.le_refl _))
theorem range_it {pins : List (Addr × Obj)} {σ : St} {H : Hp} {s : Shared} {R : It → Hp → Prop} {E : Value → Shared → Prop} {lo hi : Int} {t u v : Tok} {tk : Nat} (I : Inv X pins σ H s) (h1 : -(2 ^ 62) ≤ lo) (h2 : lo < 2 ^ 62) (h3 : -(2 ^ 62) ≤ hi) (h4 : hi < 2 ^ 62)
    (q : R (Itr lo (hi - lo).toNat) H) : wpAny (model X.prog X.w) X.A (pyIter (.ref s.heap.objs.size)) (PIE X pins σ tg R) E { s with heap := s.heap.push { cls := .type "range", data := .fields #[.int lo t, .int hi u, .int 1 v] }, toks := tk } := by
  refine wpAny_pyIter_range (IsRange.new ..) (small_one h1 h2 h3 h4) ?_
  have I1 : Inv X pins σ H { s with heap := s.heap.push { cls := .type "range", data := .fields #[.int lo t, .int hi u, .int 1 v] }, toks := tk } := I.kept fun b o e => Heap.get?_push_of_some _ e
  refine ⟨(s.heap.push { cls := .type "range", data := .fields #[.int lo t, .int hi u, .int 1 v] }).objs.size, [(s.heap.push { cls := .type "range", data := .fields #[.int lo t, .int hi u, .int 1 v] }).objs.size], _, _, H, rfl,
    I1.kept (t' := tk) fun b o e => Heap.get?_push_of_some _ e, turn_range _ lo (hi - lo).toNat, ?_, fun b hb => ?_, q⟩
  · have e1 : lo + ((0 : Nat) : Int) * 1 = lo := by simp
    have e2 : (((hi - lo).toNat : Nat) : Int) - ((0 : Nat) : Int) = Builtin.Range.rangeSize lo hi 1 := by rw [rangeSize_one]; split <;> omega
    show IsRangeIter _ _ (lo + ((0 : Nat) : Int) * 1) ((((hi - lo).toNat : Nat) : Int) - ((0 : Nat) : Int)) 1
    rw [e1, e2]
    exact Heap.get?_push_size _ rfl
  · have e : b = (s.heap.push { cls := .type "range", data := .fields #[.int lo t, .int hi u, .int 1 v] }).objs.size := by simpa using hb
    subst e
    exact I1.fpOk (Nat.le_refl _) (I1.hok.fresh (Nat.le_refl _))
def iRng1 (ta : TA) : TI := fun σ H R => ta σ H fun vs H1 => ∃ j : Int, vs = [.int j] ∧ -(2 ^ 62) ≤ j ∧ j < 2 ^ 62 ∧ R (Itr 0 j.toNat) H1
theorem pi_range1 {a : Expr} {ta : TA} {p pos : Pos} (hg : Gl X "range") (hm : X.mg "range" = none) (ha : PA X [a] ta) (hs : starEach [a] X.env = [(false, eval a X.env)] := by rfl) : PI X tg (.Call (.Name "range" p) [a] [] pos) (iRng1 ta) := by
  intro pins s σ H R I h
  refine Call_ (ld_blt I hg hm boot_range (PyProof.Rows.callWith_type1 (thn (ha pos pins s σ H _ I h) fun us s1 ⟨vs, H1, I1, r1, q1⟩ => ?_) hs rfl))
  obtain ⟨j, e, q1, q2, q⟩ := q1
  subst e
  cases r1 with
  | cons r rr =>
    cases rr
    obtain ⟨t, rfl⟩ := r
    exact call_range_1 (range_it I1 (by omega) (by omega) q1 q2 (by simpa using q))
def tFor (wi : TI) (g : TG) (tb : TS) : TS := fun D σ H => wi σ H fun J H1 => ∃ W : Nat → Nat → St → Hp → Prop, (∃ m, W 0 m σ H1) ∧ ∀ i m σ H, W i m σ H →
  (J.stop i H ∧ D.nx σ H) ∨ (J.go i H ∧ ∃ N : St → Hp → Prop, (∀ σ' H', N σ' H' → ∃ m', m' < m ∧ W (i + 1) m' σ' H') ∧ ∀ x H', J.yld i H x H' → g x σ H' fun σ2 H2 => tb { D with nx := N, ct := N, bk := D.nx } σ2 H2)
def pinsAt (fp : List Addr) (h : Heap) : List (Addr × Obj) := fp.filterMap fun b => (h.get? b).map fun o => (b, o)
theorem mem_pinsAt {fp : List Addr} {h : Heap} {b : Addr} {o : Obj} (hb : b ∈ fp) (e : h.get? b = some o) : (b, o) ∈ pinsAt fp h := List.mem_filterMap.mpr ⟨b, hb, by rw [e]; rfl⟩
theorem of_pinsAt {fp : List Addr} {h : Heap} {p : Addr × Obj} (hp : p ∈ pinsAt fp h) : p.1 ∈ fp ∧ h.get? p.1 = some p.2 := by
  obtain ⟨b, hb, e⟩ := List.mem_filterMap.mp hp
  cases q : h.get? b with
  | none => rw [q] at e; cases e
  | some o =>
    rw [q] at e
    have e' : (b, o) = p := Option.some.inj e
    subst e'
    exact ⟨hb, q⟩
theorem Inv.pinned {pins : List (Addr × Obj)} {σ : St} {H : Hp} {s : Shared} {fp : List Addr} (I : Inv X pins σ H s) (hf : ∀ b ∈ fp, FpOk X pins H b) (ho : ∀ b ∈ fp, ∃ o, s.heap.get? b = some o ∧ ∀ v, o.data ≠ .cell v) : Inv X (pins ++ pinsAt fp s.heap) σ H s :=
  I.pins_of fun p hp => (List.mem_append.mp hp).elim (fun z => I.pin p (List.mem_append_right _ z)) fun z => by
    obtain ⟨hb, e⟩ := of_pinsAt z
    obtain ⟨f0, f1, f2, _⟩ := hf p.1 hb
    obtain ⟨o, e', d⟩ := ho p.1 hb
    rw [e] at e'; cases e'
    exact ⟨e, f0, f1, f2, d⟩
theorem Inv.unpinned {pins pl : List (Addr × Obj)} {σ : St} {H : Hp} {s : Shared} (I : Inv X (pins ++ pl) σ H s) : Inv X pins σ H s := I.pins_of fun p hp => I.pin p (List.mem_append_right _ (List.mem_append_left _ hp))
theorem ps_for {iter : Expr} {body : List Stmt} {wi : TI} {g : TG} {tb : TS} {pos : Pos} (hp : PassesOwn (model X.prog X.w) X.A X.env X.xe) (hc : X.calm = true) (hi : PI X tg iter wi) (hg : PG X tg g) (hb : PSs X body tb)
    (hs : ∀ x, foldedSetIterable iter X.env x = pure x := by intro _; rfl) : PS X (.For tg iter body [] pos) (tFor wi g tb) := by
  intro pins s σ H D I h
  refine wpAny_For (thn (hi pins s σ H _ I h) fun v s1 h1 => thn h1 fun itv s2 h2 => ?_) hs
  obtain ⟨it, fp, tn, J, H2, e, I2, T, st2, f2, W, ⟨m0, w0⟩, turn⟩ := h2
  subst e
  have stat : ∀ {H' : Hp}, (∀ b ∈ fp, H' b = none) → ∀ b ∈ fp, FpOk X pins H' b := fun hn b hb => ⟨hn b hb, (f2 b hb).2⟩
  refine codeAny_forLoop_any (fun n s' => ∃ i σ' H', Inv X pins σ' H' s' ∧ tn i s'.heap ∧ (∀ b ∈ fp, H' b = none) ∧ W i n σ' H') ?_ m0 ⟨0, σ, H2, I2, st2, fun b hb => (f2 b hb).1, w0⟩
  rintro n s3 ⟨i, σ3, H3, I3, st3, fr3, w3⟩
  rcases turn i n σ3 H3 w3 with ⟨stop, qn⟩ | ⟨go, N, hN, step⟩
  · refine wpAny_passesOwn hp (thn (T.done X rfl rfl rfl hc i pins s3 σ3 H3 X.xe I3 (stat fr3) st3 stop) fun r s4 ⟨hr, I4⟩ => ?_)
    subst hr
    exact wpAny_execs_nil ⟨σ3, H3, I4, qn⟩
  · refine wpAny_passesOwn hp (thn (T.item X rfl rfl rfl hc i pins s3 σ3 H3 X.xe I3 (stat fr3) st3 go) fun r s4 ⟨u, hr, h4⟩ => ?_)
    subst hr
    refine wpAny_passesOwn hp (thn h4 fun _ s5 ⟨x, H5, I5, r5, y5, st5, fr5⟩ => ?_)
    have I5' := I5.pinned (stat fr5) (T.obj _ _ st5)
    refine wpAny_passesOwn hp (thn (hg _ s5 σ3 H5 x u _ I5' r5 (step x H5 y5)) fun _ s6 ⟨σ6, H6, I6, q6⟩ => ?_)
    refine wpAny_passesOwn hp (thn (hb _ s6 σ6 H6 _ I6 q6) fun f s7 q7 => ?_)
    have again : ∀ {σ7 : St} {H7 : Hp}, Inv X (pins ++ pinsAt fp s5.heap) σ7 H7 s7 → N σ7 H7 → ∃ m, m < n ∧ ∃ i σ' H', Inv X pins σ' H' s7 ∧ tn i s7.heap ∧ (∀ b ∈ fp, H' b = none) ∧ W i m σ' H' := fun {σ7 H7} I7 n7 => by
      obtain ⟨m', hm, w7⟩ := hN σ7 H7 n7
      refine ⟨m', hm, i + 1, σ7, H7, I7.unpinned, T.keep _ _ _ st5 fun b hb o e => (I7.pin (b, o) (List.mem_append_right _ (List.mem_append_right _ (mem_pinsAt hb e)))).1, fun b hb => ?_, w7⟩
      obtain ⟨o, e, d⟩ := T.obj _ _ st5 b hb
      exact (I7.pin (b, o) (List.mem_append_right _ (List.mem_append_right _ (mem_pinsAt hb e)))).2.1
    cases f with
    | next => obtain ⟨σ7, H7, I7, n7⟩ := q7; exact again I7 n7
    | cont => obtain ⟨σ7, H7, I7, n7⟩ := q7; exact again I7 n7
    | brk => obtain ⟨σ7, H7, I7, q7⟩ := q7; exact ⟨σ7, H7, I7.unpinned, q7⟩
    | ret v => obtain ⟨x7, σ7, H7, I7, r7, q7⟩ := q7; exact ⟨x7, σ7, H7, I7.unpinned, r7, q7⟩
end
theorem for_list {K : PySem.W.Frag} {a : Addr} {xs : List V} {g : TG} {tb : TS} {D : Ends} {σ : St} {H : Hp} (Pv : Nat → St → Hp → Prop) (h0 : Pv 0 σ H) (hl : ∀ i σ H, i ≤ xs.length → Pv i σ H → SqL K H a xs)
    (hs : ∀ i x σ H, xs[i]? = some x → Pv i σ H → g x σ H fun σ2 H2 => tb { D with nx := Pv (i + 1), ct := Pv (i + 1), bk := D.nx } σ2 H2) (hd : ∀ σ H, Pv xs.length σ H → D.nx σ H) :
    ∃ W : Nat → Nat → St → Hp → Prop, (∃ m, W 0 m σ H) ∧ ∀ i m σ H, W i m σ H →
      ((Itl K a).stop i H ∧ D.nx σ H) ∨ ((Itl K a).go i H ∧ ∃ N : St → Hp → Prop, (∀ σ' H', N σ' H' → ∃ m', m' < m ∧ W (i + 1) m' σ' H') ∧ ∀ x H', (Itl K a).yld i H x H' → g x σ H' fun σ2 H2 => tb { D with nx := N, ct := N, bk := D.nx } σ2 H2) := by
  refine ⟨fun i m σ H => m = xs.length - i ∧ i ≤ xs.length ∧ Pv i σ H, ⟨xs.length, by simp, Nat.zero_le _, h0⟩, ?_⟩
  rintro i m σ H ⟨rfl, hi, p⟩
  have q := hl i σ H hi p
  by_cases hlt : i < xs.length
  · refine .inr ⟨⟨xs, xs[i], q, by simp [hlt]⟩, Pv (i + 1), fun σ' H' p' => ⟨xs.length - (i + 1), by omega, rfl, hlt, p'⟩, fun x H' y => ?_⟩
    obtain ⟨e, y⟩ := y
    subst e
    exact hs i x σ _ (y xs q) p
  · have e : i = xs.length := by omega
    subst e
    exact .inl ⟨⟨xs, q, Nat.le_refl _⟩, hd σ H p⟩
theorem for_tup {K : PySem.W.Frag} {a : Addr} {xs : List V} {g : TG} {tb : TS} {D : Ends} {σ : St} {H : Hp} (Pv : Nat → St → Hp → Prop) (h0 : Pv 0 σ H) (hl : ∀ i σ H, i ≤ xs.length → Pv i σ H → SqT K H a xs)
    (hs : ∀ i x σ H, xs[i]? = some x → Pv i σ H → g x σ H fun σ2 H2 => tb { D with nx := Pv (i + 1), ct := Pv (i + 1), bk := D.nx } σ2 H2) (hd : ∀ σ H, Pv xs.length σ H → D.nx σ H) :
    ∃ W : Nat → Nat → St → Hp → Prop, (∃ m, W 0 m σ H) ∧ ∀ i m σ H, W i m σ H →
      ((Itt K a).stop i H ∧ D.nx σ H) ∨ ((Itt K a).go i H ∧ ∃ N : St → Hp → Prop, (∀ σ' H', N σ' H' → ∃ m', m' < m ∧ W (i + 1) m' σ' H') ∧ ∀ x H', (Itt K a).yld i H x H' → g x σ H' fun σ2 H2 => tb { D with nx := N, ct := N, bk := D.nx } σ2 H2) := by
  refine ⟨fun i m σ H => m = xs.length - i ∧ i ≤ xs.length ∧ Pv i σ H, ⟨xs.length, by simp, Nat.zero_le _, h0⟩, ?_⟩
  rintro i m σ H ⟨rfl, hi, p⟩
  have q := hl i σ H hi p
  by_cases hlt : i < xs.length
  · refine .inr ⟨⟨xs, xs[i], q, by simp [hlt]⟩, Pv (i + 1), fun σ' H' p' => ⟨xs.length - (i + 1), by omega, rfl, hlt, p'⟩, fun x H' y => ?_⟩
    obtain ⟨e, y⟩ := y
    subst e
    exact hs i x σ _ (y xs q) p
  · have e : i = xs.length := by omega
    subst e
    exact .inl ⟨⟨xs, q, Nat.le_refl _⟩, hd σ H p⟩
theorem for_range {lo : Int} {n : Nat} {g : TG} {tb : TS} {D : Ends} {σ : St} {H : Hp} (Pv : Nat → St → Hp → Prop) (h0 : Pv 0 σ H)
    (hs : ∀ i σ H, i < n → Pv i σ H → g (.int (lo + i)) σ H fun σ2 H2 => tb { D with nx := Pv (i + 1), ct := Pv (i + 1), bk := D.nx } σ2 H2) (hd : ∀ σ H, Pv n σ H → D.nx σ H) :
    ∃ W : Nat → Nat → St → Hp → Prop, (∃ m, W 0 m σ H) ∧ ∀ i m σ H, W i m σ H →
      ((Itr lo n).stop i H ∧ D.nx σ H) ∨ ((Itr lo n).go i H ∧ ∃ N : St → Hp → Prop, (∀ σ' H', N σ' H' → ∃ m', m' < m ∧ W (i + 1) m' σ' H') ∧ ∀ x H', (Itr lo n).yld i H x H' → g x σ H' fun σ2 H2 => tb { D with nx := N, ct := N, bk := D.nx } σ2 H2) := by
  refine ⟨fun i m σ H => m = n - i ∧ i ≤ n ∧ Pv i σ H, ⟨n, by simp, Nat.zero_le _, h0⟩, ?_⟩
  rintro i m σ H ⟨rfl, hi, p⟩
  by_cases hlt : i < n
  · refine .inr ⟨hlt, Pv (i + 1), fun σ' H' p' => ⟨n - (i + 1), by omega, rfl, hlt, p'⟩, fun x H' y => ?_⟩
    obtain ⟨e, y⟩ := y
    subst e y
    exact hs i σ _ hlt p
  · have e : i = n := by omega
    subst e
    exact .inl ⟨Nat.le_refl _, hd σ H p⟩
end L2
namespace L2
open PySem PySem.Spec PyProof.Rows
abbrev R2 := V → V → Hp → VK → Prop
def OpR (X : Cx) (f : Value → Value → Sem Value) (r : R2) : Prop :=
  ∀ (pins : List (Addr × Obj)) (s : Shared) (σ : St) (H : Hp) (x y : V) (v u : Value) (Q : VK), Inv X pins σ H s → RelV x v → RelV y u → r x y H Q →
    wpAny (model X.prog X.w) X.A (f v u) (EP X pins σ Q) X.xe s
def UnR (X : Cx) (f : Value → Sem Value) (r : V → Hp → VK → Prop) : Prop :=
  ∀ (pins : List (Addr × Obj)) (s : Shared) (σ : St) (H : Hp) (x : V) (v : Value) (Q : VK), Inv X pins σ H s → RelV x v → r x H Q →
    wpAny (model X.prog X.w) X.A (f v) (EP X pins σ Q) X.xe s
def CallR (X : Cx) (f : Value) (r : List V → Hp → VK → Prop) : Prop :=
  ∀ (pins : List (Addr × Obj)) (s : Shared) (σ : St) (H : Hp) (xs : List V) (us : List Value) (Q : VK), Inv X pins σ H s → Vals xs us → r xs H Q →
    wpAny (model X.prog X.w) X.A (call f us) (EP X pins σ Q) X.xe s
def tOp (r : R2) (ta tb : TE) : TE := fun σ H Q => ta σ H fun x H1 => tb σ H1 fun y H2 => r x y H2 Q
def tUn (r : V → Hp → VK → Prop) (ta : TE) : TE := fun σ H Q => ta σ H fun x H1 => r x H1 Q
def rI (C : Int → Int → Prop) (g : Int → Int → V) : R2 := fun x y H Q => ∃ i j, x = .int i ∧ y = .int j ∧ C i j ∧ Q (g i j) H
def rI0 (g : Int → Int → V) : R2 := fun x y H Q => ∃ i j, x = .int i ∧ y = .int j ∧ Q (g i j) H
def rU (g : Int → V) : V → Hp → VK → Prop := fun x H Q => ∃ i, x = .int i ∧ Q (g i) H
section
variable {X : Cx} {a b c : Expr} {ta tb tc : TE} {pos : Pos}
theorem binT (ha : PE X a ta) (hb : PE X b tb) {pins : List (Addr × Obj)} {s : Shared} {σ : St} {H : Hp} {R : V → V → Hp → Prop} (I : Inv X pins σ H s)
    (h : ta σ H fun x H1 => tb σ H1 fun y H2 => R x y H2) {Q : Value → Shared → Prop} {f : Value → Value → Sem Value}
    (hf : ∀ v u s2 x y H2, Inv X pins σ H2 s2 → RelV x v → RelV y u → R x y H2 → wpAny (model X.prog X.w) X.A (f v u) Q X.xe s2) :
    wpAny (model X.prog X.w) X.A (eval a X.env) (fun v s₁ => wpAny (model X.prog X.w) X.A (eval b X.env) (fun u s₂ => wpAny (model X.prog X.w) X.A (f v u) Q X.xe s₂) X.xe s₁) X.xe s := by
  refine thn (ha pins s σ H _ I h) fun v s1 ⟨x, H1, I1, r1, q1⟩ => ?_
  refine thn (hb pins s1 σ H1 _ I1 q1) fun u s2 ⟨y, H2, I2, r2, q2⟩ => ?_
  exact hf v u s2 x y H2 I2 r1 r2 q2
theorem pe_op {op : Operator} {r : R2} (ho : OpR X (binaryOp op) r) (ha : PE X a ta) (hb : PE X b tb) : PE X (.BinOp a op b pos) (tOp r ta tb) := by
  intro pins s σ H Q I h
  exact wpAny_BinOp (binT ha hb I h fun v u s2 x y H2 I2 rx ry q => ho pins s2 σ H2 x y v u Q I2 rx ry q)
theorem pe_un {op : UnaryOp} {r : V → Hp → VK → Prop} (ho : UnR X (unaryOp op) r) (ha : PE X a ta) : PE X (.UnaryOp op a pos) (tUn r ta) := by
  intro pins s σ H Q I h
  exact UnaryOp_ (thn (ha pins s σ H _ I h) fun v s1 ⟨x, H1, I1, r1, q1⟩ => ho pins s1 σ H1 x v Q I1 r1 q1)
theorem opI {f : Value → Value → Sem Value} {C : Int → Int → Prop} {g : Int → Int → Int}
    (rule : ∀ (i j : Int) (t u : Tok) (s : Shared) (Q : Value → Shared → Prop) (E : Value → Shared → Prop), C i j → Q (.int (g i j) s.toks) { s with toks := s.toks + 1 } → wpAny (model X.prog X.w) X.A (f (.int i t) (.int j u)) Q E s) :
    OpR X f (rI C fun i j => .int (g i j)) := by
  intro pins s σ H x y v u Q I rx ry h
  obtain ⟨i, j, rfl, rfl, hc, q⟩ := h
  obtain ⟨t, rfl⟩ := rx
  obtain ⟨t', rfl⟩ := ry
  exact rule i j t t' s _ _ hc ⟨.int (g i j), H, I.tok _, ⟨_, rfl⟩, q⟩
theorem opI0 {f : Value → Value → Sem Value} {g : Int → Int → Int}
    (rule : ∀ (i j : Int) (t u : Tok) (s : Shared) (Q : Value → Shared → Prop) (E : Value → Shared → Prop), Q (.int (g i j) s.toks) { s with toks := s.toks + 1 } → wpAny (model X.prog X.w) X.A (f (.int i t) (.int j u)) Q E s) :
    OpR X f (rI0 fun i j => .int (g i j)) := by
  intro pins s σ H x y v u Q I rx ry h
  obtain ⟨i, j, rfl, rfl, q⟩ := h
  obtain ⟨t, rfl⟩ := rx
  obtain ⟨t', rfl⟩ := ry
  exact rule i j t t' s _ _ ⟨.int (g i j), H, I.tok _, ⟨_, rfl⟩, q⟩
theorem opB0 {f : Value → Value → Sem Value} {g : Int → Int → Bool}
    (rule : ∀ (i j : Int) (t u : Tok) (s : Shared) (Q : Value → Shared → Prop) (E : Value → Shared → Prop), Q (.bool (g i j)) s → wpAny (model X.prog X.w) X.A (f (.int i t) (.int j u)) Q E s) :
    OpR X f (rI0 fun i j => .bl (g i j)) := by
  intro pins s σ H x y v u Q I rx ry h
  obtain ⟨i, j, rfl, rfl, q⟩ := h
  obtain ⟨t, rfl⟩ := rx
  obtain ⟨t', rfl⟩ := ry
  exact rule i j t t' s _ _ ⟨.bl (g i j), H, I, rfl, q⟩
def CDiv (i j : Int) : Prop := 0 < j ∧ j < 1073741824
def CPow (i j : Int) : Prop := 0 ≤ j ∧ j ≤ 1000000 ∧ i.natAbs < 2 ^ 64
def CMul (i j : Int) : Prop := (-(2 ^ 64) < i ∧ i < 2 ^ 64) ∨ (-(2 ^ 64) < j ∧ j < 2 ^ 64)
theorem CMul.ok {i j : Int} (h : CMul i j) : IntMulOk i j := by
  rcases h with ⟨h1, h2⟩ | ⟨h1, h2⟩
  · exact .of_left (intBits_le_64 h1 h2)
  · exact .of_right (intBits_le_64 h1 h2)
theorem op_add : OpR X (binaryOp .Add) (rI0 fun i j => .int (i + j)) := opI0 fun _ _ _ _ _ _ _ q => add_int q
theorem op_sub : OpR X (binaryOp .Sub) (rI0 fun i j => .int (i - j)) := opI0 fun _ _ _ _ _ _ _ q => sub_int q
theorem op_mul : OpR X (binaryOp .Mult) (rI CMul fun i j => .int (i * j)) := opI fun _ _ _ _ _ _ _ hc q => mul_int q hc.ok
theorem op_fdiv : OpR X (binaryOp .FloorDiv) (rI CDiv fun i j => .int (i / j)) := opI fun i j _ _ _ _ _ hc q => by
  have h1 : (0 : Int) < j := hc.1
  have h2 : j < 1073741824 := hc.2
  exact floordiv_int (by omega) (by rw [Int.fdiv_eq_ediv_of_nonneg i (by omega)]; exact q) (.inl (PyProof.noPylong_small (by omega)))
theorem op_mod : OpR X (binaryOp .Mod) (rI (fun _ j => 0 < j) fun i j => .int (i % j)) := opI fun i j _ _ _ _ _ hc q => by
  have h1 : (0 : Int) < j := hc
  exact mod_int' (by omega) (by rw [Int.fmod_eq_emod_of_nonneg i (by omega)]; exact q)
theorem op_pow : OpR X (binaryOp .Pow) (rI CPow fun i j => .int (i ^ j.toNat)) := opI fun _ _ _ _ _ _ _ hc q => pow_int_small hc.1 hc.2.1 hc.2.2 q
theorem unI {f : Value → Sem Value} {g : Int → Int}
    (rule : ∀ (i : Int) (t : Tok) (s : Shared) (Q : Value → Shared → Prop) (E : Value → Shared → Prop), Q (.int (g i) s.toks) { s with toks := s.toks + 1 } → wpAny (model X.prog X.w) X.A (f (.int i t)) Q E s) :
    UnR X f (rU fun i => .int (g i)) := by
  intro pins s σ H x v Q I rx h
  obtain ⟨i, rfl, q⟩ := h
  obtain ⟨t, rfl⟩ := rx
  exact rule i t s _ _ ⟨.int (g i), H, I.tok _, ⟨_, rfl⟩, q⟩
theorem un_neg : UnR X (unaryOp .USub) (rU fun i => .int (-i)) := unI fun _ _ _ _ _ q => neg_int q
end
def scal : V → V → Bool
  | .non, .non => true | .non, .int _ => true | .int _, .non => true | .non, .bl _ => true | .bl _, .non => true | .non, .str _ => true | .str _, .non => true
  | .int _, .int _ => true | .bl _, .bl _ => true | .str _, .str _ => true | .byt _, .byt _ => true
  | .int _, .str _ => true | .str _, .int _ => true | .bl _, .str _ => true | .str _, .bl _ => true
  | _, _ => false
def rEq : R2 := fun x y H Q => scal x y = true ∧ Q (.bl (decide (x = y))) H
def rNe : R2 := fun x y H Q => scal x y = true ∧ Q (.bl (!decide (x = y))) H
theorem dec_int {i j : Int} : decide (V.int i = V.int j) = (i == j) := by
  rw [Bool.eq_iff_iff]
  simp
theorem dec_bl {i j : Bool} : decide (V.bl i = V.bl j) = (i == j) := by
  rw [Bool.eq_iff_iff]
  simp
theorem dec_str {i j : Str} : decide (V.str i = V.str j) = (i == j) := by
  rw [Bool.eq_iff_iff]
  simp
theorem dec_byt {i j : Array UInt8} : decide (V.byt i = V.byt j) = (i.toList == j.toList) := by
  rw [Bool.eq_iff_iff]
  cases i
  cases j
  simp
section
variable {X : Cx} {a b c : Expr} {ta tb tc : TE} {pos : Pos}
theorem fin_bl {pins : List (Addr × Obj)} {σ : St} {H : Hp} {s : Shared} {Q : VK} {k k' : Bool} (I : Inv X pins σ H s) (q : Q (.bl k) H) (e : k = k') : EP X pins σ Q (.bool k') s := by
  subst e
  exact ⟨.bl k, H, I, rfl, q⟩
theorem op_eq : OpR X (compareOp .Eq) rEq := by
  intro pins s σ H x y v u Q I rx ry h
  obtain ⟨hs, q⟩ := h
  cases x with
  | non =>
    cases rx
    cases y with
    | non => cases ry; exact PySem.EqNone.eq_none_none (fin_bl I q (by simp))
    | bl j => cases ry; exact PySem.EqNone.eq_none_bool (fin_bl I q (by simp))
    | int j => obtain ⟨t', rfl⟩ := ry; exact PySem.EqNone.eq_none_int (fin_bl I q (by simp))
    | str j => obtain ⟨t', rfl⟩ := ry; exact PySem.EqNone.eq_none_str (fin_bl I q (by simp))
    | _ => exact absurd (show false = true from hs) Bool.false_ne_true
  | bl i =>
    cases rx
    cases y with
    | non => cases ry; exact PySem.EqNone.eq_bool_none (fin_bl I q (by simp))
    | bl j => cases ry; exact eq_bool (fin_bl I q dec_bl)
    | str j => obtain ⟨t', rfl⟩ := ry; exact PySem.EqMixed.eq_bool_str (fin_bl I q (by simp))
    | _ => exact absurd (show false = true from hs) Bool.false_ne_true
  | int i =>
    obtain ⟨t, rfl⟩ := rx
    cases y with
    | non => cases ry; exact PySem.EqNone.eq_int_none (fin_bl I q (by simp))
    | int j => obtain ⟨t', rfl⟩ := ry; exact eq_int (fin_bl I q dec_int)
    | str j => obtain ⟨t', rfl⟩ := ry; exact PySem.EqMixed.eq_int_str (fin_bl I q (by simp))
    | _ => exact absurd (show false = true from hs) Bool.false_ne_true
  | str i =>
    obtain ⟨t, rfl⟩ := rx
    cases y with
    | non => cases ry; exact PySem.EqNone.eq_str_none (fin_bl I q (by simp))
    | bl j => cases ry; exact PySem.EqMixed.eq_str_bool (fin_bl I q (by simp))
    | int j => obtain ⟨t', rfl⟩ := ry; exact PySem.EqMixed.eq_str_int (fin_bl I q (by simp))
    | str j => obtain ⟨t', rfl⟩ := ry; exact eq_str (fin_bl I q dec_str)
    | _ => exact absurd (show false = true from hs) Bool.false_ne_true
  | byt i =>
    obtain ⟨t, rfl⟩ := rx
    cases y with
    | byt j => obtain ⟨t', rfl⟩ := ry; exact PySem.W.eq_bytes (fin_bl I q dec_byt)
    | _ => exact absurd (show false = true from hs) Bool.false_ne_true
  | _ => cases y <;> exact absurd (show false = true from hs) Bool.false_ne_true
theorem op_ne : OpR X (compareOp .NotEq) rNe := by
  intro pins s σ H x y v u Q I rx ry h
  obtain ⟨hs, q⟩ := h
  cases x with
  | non =>
    cases rx
    cases y with
    | non => cases ry; exact PySem.EqNone.ne_none_none (fin_bl I q (by simp))
    | bl j => cases ry; exact PySem.EqNone.ne_none_bool (fin_bl I q (by simp))
    | int j => obtain ⟨t', rfl⟩ := ry; exact PySem.EqNone.ne_none_int (fin_bl I q (by simp))
    | str j => obtain ⟨t', rfl⟩ := ry; exact PySem.EqNone.ne_none_str (fin_bl I q (by simp))
    | _ => exact absurd (show false = true from hs) Bool.false_ne_true
  | bl i =>
    cases rx
    cases y with
    | non => cases ry; exact PySem.EqNone.ne_bool_none (fin_bl I q (by simp))
    | bl j => cases ry; exact ne_bool (fin_bl I q (congrArg not dec_bl))
    | str j => obtain ⟨t', rfl⟩ := ry; exact PySem.EqMixed.ne_bool_str (fin_bl I q (by simp))
    | _ => exact absurd (show false = true from hs) Bool.false_ne_true
  | int i =>
    obtain ⟨t, rfl⟩ := rx
    cases y with
    | non => cases ry; exact PySem.EqNone.ne_int_none (fin_bl I q (by simp))
    | int j => obtain ⟨t', rfl⟩ := ry; exact ne_int (fin_bl I q (congrArg not dec_int))
    | str j => obtain ⟨t', rfl⟩ := ry; exact PySem.EqMixed.ne_int_str (fin_bl I q (by simp))
    | _ => exact absurd (show false = true from hs) Bool.false_ne_true
  | str i =>
    obtain ⟨t, rfl⟩ := rx
    cases y with
    | non => cases ry; exact PySem.EqNone.ne_str_none (fin_bl I q (by simp))
    | bl j => cases ry; exact PySem.EqMixed.ne_str_bool (fin_bl I q (by simp))
    | int j => obtain ⟨t', rfl⟩ := ry; exact PySem.EqMixed.ne_str_int (fin_bl I q (by simp))
    | str j => obtain ⟨t', rfl⟩ := ry; exact ne_str (fin_bl I q (congrArg not dec_str))
    | _ => exact absurd (show false = true from hs) Bool.false_ne_true
  | byt i =>
    obtain ⟨t, rfl⟩ := rx
    cases y with
    | byt j => obtain ⟨t', rfl⟩ := ry; exact PySem.W.ne_bytes (fin_bl I q (congrArg not dec_byt))
    | _ => exact absurd (show false = true from hs) Bool.false_ne_true
  | _ => cases y <;> exact absurd (show false = true from hs) Bool.false_ne_true
theorem op_lt : OpR X (compareOp .Lt) (rI0 fun i j => .bl (decide (i < j))) := opB0 fun _ _ _ _ _ _ _ q => lt_int q
theorem op_le : OpR X (compareOp .LtE) (rI0 fun i j => .bl (decide (i ≤ j))) := opB0 fun _ _ _ _ _ _ _ q => le_int q
theorem op_gt : OpR X (compareOp .Gt) (rI0 fun i j => .bl (decide (j < i))) := opB0 fun _ _ _ _ _ _ _ q => gt_int q
theorem op_in_str : OpR X (compareOp .In) (fun x y H Q => ∃ i j, x = .str i ∧ y = .str j ∧ Q (.bl (!(Builtin.Str.occurrences j i 0 j.length 1).isEmpty)) H) := by
  intro pins s σ H x y v u Q I rx ry h
  obtain ⟨i, j, rfl, rfl, q⟩ := h
  obtain ⟨t, rfl⟩ := rx
  obtain ⟨t', rfl⟩ := ry
  exact in_str (fin_bl I q rfl)
theorem nomark (b : Expr) {op : CmpOp} (h : op ≠ .In := by decide) (h2 : op ≠ .NotIn := by decide) : behindInMarks op b = false := by
  have e1 : (op == CmpOp.In) = false := by cases op <;> first | rfl | exact absurd rfl h
  have e2 : (op == CmpOp.NotIn) = false := by cases op <;> first | rfl | exact absurd rfl h2
  cases b <;> simp [behindInMarks, e1, e2]
theorem pe_cmpR {op : CmpOp} {r : R2} (ho : OpR X (compareOp op) r) (ha : PE X a ta) (hb : PE X b tb) (hm : behindInMarks op b = false) : PE X (.Compare a [op] [b] pos) (tOp r ta tb) := by
  intro pins s σ H Q I h
  exact wpAny_Compare1 (binT ha hb I h fun v u s2 x y H2 I2 rx ry q => ho pins s2 σ H2 x y v u Q I2 rx ry q) hm
def tTest (t : TE) : TT := fun σ H Q => t σ H fun x H' => ∃ k, x = .bl k ∧ Q k H'
theorem pt_cmpR {op : CmpOp} {r : R2} (ho : OpR X (compareOp op) r) (ha : PE X a ta) (hb : PE X b tb) (hm : behindInMarks op b = false) : PT X (.Compare a [op] [b] pos) (tTest (tOp r ta tb)) := by
  intro pins s σ H Q I h
  refine wpAny_isTrue_Compare1 (thn (ha pins s σ H _ I h) fun v s1 ⟨x, H1, I1, r1, q1⟩ => thn (hb pins s1 σ H1 _ I1 q1) fun u s2 ⟨y, H2, I2, r2, q2⟩ =>
    thn (ho pins s2 σ H2 x y v u _ I2 r1 r2 q2) fun c s3 ⟨z, H3, I3, r3, k, e, q3⟩ => ?_) hm
  subst e
  cases r3
  exact wpAny_truthy_bool ⟨H3, I3, q3⟩
def tChain (r r' : R2) (ta tb tc : TE) : TE := fun σ H Q => ta σ H fun x H1 => tb σ H1 fun y H2 => r x y H2 fun z H3 => ∃ k, z = .bl k ∧
  (if k = true then tc σ H3 fun w' H4 => r' y w' H4 Q else Q (.bl false) H3)
theorem pe_chain {op op' : CmpOp} {r r' : R2} (ho : OpR X (compareOp op) r) (ho' : OpR X (compareOp op') r') (ha : PE X a ta) (hb : PE X b tb) (hc : PE X c tc)
    (hm : lastMarks [op, op'] [b, c] = false := by with_unfolding_all rfl) : PE X (.Compare a [op, op'] [b, c] pos) (tChain r r' ta tb tc) := by
  intro pins s σ H Q I h
  refine Compare_chain (thn (ha pins s σ H _ I h) fun v s1 ⟨x, H1, I1, r1, q1⟩ => chain_link (thn (hb pins s1 σ H1 _ I1 q1) fun u s2 ⟨y, H2, I2, r2, q2⟩ =>
    thn (ho pins s2 σ H2 x y v u _ I2 r1 r2 q2) fun d s3 ⟨z, H3, I3, r3, k, e, q3⟩ => ?_)) hm
  subst e
  cases r3
  refine wpAny_truthy_bool ?_
  cases k with
  | false => exact ite_ff ⟨.bl false, H3, I3, rfl, q3⟩
  | true => exact ite_tt (chain_last (thn (hc pins s3 σ H3 _ I3 q3) fun w' s4 ⟨z', H4, I4, r4, q4⟩ => ho' pins s4 σ H4 y z' u w' Q I4 r2 r4 q4))
theorem pt_chain {op op' : CmpOp} {r r' : R2} (ho : OpR X (compareOp op) r) (ho' : OpR X (compareOp op') r') (ha : PE X a ta) (hb : PE X b tb) (hc : PE X c tc)
    (hm : lastMarks [op, op'] [b, c] = false := by with_unfolding_all rfl) : PT X (.Compare a [op, op'] [b, c] pos) (tTest (tChain r r' ta tb tc)) := by
  intro pins s σ H Q I h
  refine isTrue_chain (thn (ha pins s σ H _ I h) fun v s1 ⟨x, H1, I1, r1, q1⟩ => test_link (thn (hb pins s1 σ H1 _ I1 q1) fun u s2 ⟨y, H2, I2, r2, q2⟩ =>
    thn (ho pins s2 σ H2 x y v u _ I2 r1 r2 q2) fun d s3 ⟨z, H3, I3, r3, k, e, q3⟩ => ?_)) hm
  subst e
  cases r3
  refine wpAny_truthy_bool ?_
  cases k with
  | false =>
    obtain ⟨k', e', q'⟩ := q3
    cases e'
    exact ite_ff ⟨H3, I3, q'⟩
  | true =>
    refine ite_tt (test_last (thn (hc pins s3 σ H3 _ I3 q3) fun w' s4 ⟨z', H4, I4, r4, q4⟩ => thn (ho' pins s4 σ H4 y z' u w' _ I4 r2 r4 q4) fun d' s5 ⟨z2, H5, I5, r5, k2, e2, q5⟩ => ?_))
    subst e2
    cases r5
    exact wpAny_truthy_bool ⟨H5, I5, q5⟩
theorem line63 : (sizeLine : Nat) < 2 ^ 63 := by rw [sizeLine_eq]; decide
theorem op_add_str : OpR X (binaryOp .Add) (fun x y H Q => ∃ i j, x = .str i ∧ y = .str j ∧ i.length + j.length ≤ sizeLine ∧ Q (.str (i ++ j)) H) := by
  intro pins s σ H x y v u Q I rx ry h
  obtain ⟨i, j, rfl, rfl, hz, q⟩ := h
  obtain ⟨t, rfl⟩ := rx
  obtain ⟨t', rfl⟩ := ry
  exact add_str (fun t' tk => ⟨.str (i ++ j), H, I.tok _, ⟨_, rfl⟩, q⟩) hz
theorem vals1 {x : V} {us : List Value} (r : Vals [x] us) : ∃ u, us = [u] ∧ RelV x u := by
  cases r with
  | cons r1 r2 => cases r2; exact ⟨_, rfl, r1⟩
theorem vals2 {x y : V} {us : List Value} (r : Vals [x, y] us) : ∃ u w', us = [u, w'] ∧ RelV x u ∧ RelV y w' := by
  cases r with
  | cons r1 r2 =>
    cases r2 with
    | cons r3 r4 => cases r4; exact ⟨_, _, rfl, r1, r3⟩
def LenV (K : PySem.W.Frag) (x : V) (H : Hp) (n : Nat) : Prop :=
  match x with
  | .str y => y.length ≤ sizeLine ∧ n = y.length
  | .byt y => y.size ≤ sizeLine ∧ n = y.size
  | .ref p => (∃ xs, SqL K H p xs ∧ n = xs.length) ∨ ∃ xs, SqT K H p xs ∧ n = xs.length
  | _ => False
theorem call_len : CallR X (.builtin "len") (fun xs H Q => ∃ x n, xs = [x] ∧ LenV X.K x H n ∧ Q (.int n) H) := by
  intro pins s σ H xs us Q I r h
  obtain ⟨x, n, rfl, e, q⟩ := h
  obtain ⟨u, rfl, rx⟩ := vals1 r
  have hl := line63
  have hs : sizeLine = 16777216 := sizeLine_eq
  cases x with
  | str y =>
    obtain ⟨t, rfl⟩ := rx
    obtain ⟨hy, e'⟩ : y.length ≤ sizeLine ∧ n = y.length := e
    subst e'
    exact len_str (by omega) ⟨.int _, H, I.tok _, ⟨_, rfl⟩, q⟩
  | byt y =>
    obtain ⟨t, rfl⟩ := rx
    obtain ⟨hy, e'⟩ : y.size ≤ sizeLine ∧ n = y.size := e
    subst e'
    exact PySem.W.len_bytes (by omega) ⟨.int _, H, I.tok _, ⟨_, rfl⟩, q⟩
  | ref p =>
    cases rx
    have e' : (∃ xs, SqL X.K H p xs ∧ n = xs.length) ∨ ∃ xs, SqT X.K H p xs ∧ n = xs.length := e
    rcases e' with ⟨xs, hx, e'⟩ | ⟨xs, hx, e'⟩
    · subst e'
      obtain ⟨its, r', pl, hz⟩ := I.list hx
      have hlen := r'.length
      exact Calls.call_len_list pl.isList (by simp only [List.size_toArray]; omega) ⟨.int xs.length, H, I.tok _, ⟨_, by simp only [List.size_toArray]; rw [hlen]⟩, q⟩
    · subst e'
      obtain ⟨its, r', pl, hz⟩ := I.tuple hx
      have hlen := r'.length
      exact len_tuple pl (by simp only [List.size_toArray]; omega) ⟨.int xs.length, H, I.tok _, ⟨_, by simp only [List.size_toArray]; rw [hlen]⟩, q⟩
  | _ => exact (show False from e).elim
end
end L2
namespace L2
open PySem PySem.Spec PyProof.Rows
structure ObjM (h : Heap) (x dx C : Addr) (mA : Str → Option Value) : Prop where
  obj : h.get? x = some (PySem.W.instObj C dx)
  ns : h.Ns1 dx mA
  ne : dx ≠ x
theorem lookIn_ns {h : Heap} {dx : Addr} {mA : Str → Option Value} (n : h.Ns1 dx mA) : ∃ od, h.get? dx = some od ∧ ∀ name, PySem.W.lookIn name od = some (mA name) := by
  obtain ⟨o, es, ep, ho, hd, hk, _, hm⟩ := n
  refine ⟨o, ho, fun name => ?_⟩
  have e := hm name
  unfold nsFind findBy at e
  rw [← Array.find?_toList] at e
  unfold PySem.W.lookIn
  rw [hd]
  dsimp only
  split
  · rename_i y q
    rw [q] at e
    exact congrArg some e
  · rename_i q
    rw [q] at e
    have a : es.toList.any (·.refKey) = false := by
      rw [List.any_eq_false]
      intro y hy
      obtain ⟨z, t, hkey⟩ := hk y (Array.mem_toList_iff.mp hy)
      simp [DictEntry.refKey, hkey]
    have a' : ¬ es.toList.any (·.refKey) = true := by rw [a]; exact Bool.false_ne_true
    rw [if_neg a']
    exact congrArg some e
theorem ObjM.look {h : Heap} {x dx C : Addr} {mA : Str → Option Value} (I : ObjM h x dx C mA) : ∃ od, PySem.W.InstAt h x (PySem.W.instObj C dx) C (some od) ∧ ∀ name, PySem.W.lookIn name od = some (mA name) :=
  let ⟨od, ho, hl⟩ := lookIn_ns I.ns
  ⟨od, ⟨I.obj, rfl, rfl, ho⟩, hl⟩
section
variable {prog : Program} {w : World} {A : Around} {E : Value → Shared → Prop} {s : Shared} {K : PySem.W.Frag} {x dx C f : Addr} {mA : Str → Option Value} {name : Str} {v : Value}
end
section
variable {P : Program} {w : World} {H H' : Hp} {h h' : Heap} {a C dx : Addr} {fs fs' : List (Str × V)}
theorem ins_get (hok : HOk P w H h) (e : H a = some (.ins C dx fs)) : ∃ mA, ObjM h a dx C mA ∧ (∀ f, RelO (fs.lookup f) (mA f)) ∧ PySem.Within mA (fs.map (·.1)) ∧ fs.length ≤ 1000 ∧ H dx = some (.own a) := by
  obtain ⟨d, z, ne, ob, mA, n, r, q⟩ := (show ObjOk P w H h a (.ins C dx fs) from hok a _ e)
  exact ⟨mA, ⟨ob, n, ne⟩, r, q, z, d⟩
end
structure Cls (K : PySem.W.Frag) (C : Addr) : Prop where
  pg : PySem.W.plainGet K C Str.empty = true
  hd : PySem.W.hasDictIn K C = true
  po : PySem.W.plainOver K C = true
  sa : PySem.W.findIn K (.ref C) "__setattr__" = some (some (.builtin "object.__setattr__"))
theorem Cls.get {K : PySem.W.Frag} {C : Addr} (c : Cls K C) (f : Str) : PySem.W.plainGet K C f = true := c.pg
section
variable {X : Cx} {pins : List (Addr × Obj)} {σ : St} {H : Hp} {s : Shared} {a C dx : Addr} {fs : List (Str × V)} {f : Str} {v : V} {A : Around} {E : Value → Shared → Prop}
end
section
variable {X : Cx} {o e value : Expr} {f : Str} {pos pos' tpos : Pos} {ta tv : TE}
end
section
variable {X : Cx} {pins : List (Addr × Obj)} {σ : St} {H : Hp} {s : Shared} {A : Around} {E : Value → Shared → Prop} {Q : Value → Shared → Prop} {c : Value} {b : Bool}
inductive TyOf (K : PySem.W.Frag) (H : Hp) : V → Value → Prop where
  | non : TyOf K H .non (.type "NoneType")
  | bl (x : Bool) : TyOf K H (.bl x) (.type "bool")
  | int (i : Int) : TyOf K H (.int i) (.type "int")
  | str (x : Str) : TyOf K H (.str x) (.type "str")
  | flt (x : UInt64) : TyOf K H (.flt x) (.type "float")
  | lst {a : Addr} {xs : List V} (e : H a = some (.lst xs)) : TyOf K H (.ref a) (.type "list")
  | frz {a : Addr} {o : Obj} {xs : List V} (e : H a = some (.frz o (.lst xs))) : TyOf K H (.ref a) (.type "list")
  | tup {a : Addr} {xs : List V} (e : H a = some (.tup xs)) : TyOf K H (.ref a) (.type "tuple")
  | dK {a : Addr} {kvs : List (Key × V)} (e : H a = some (.dK kvs)) : TyOf K H (.ref a) (.type "dict")
  | dT {a : Addr} {kvs : List (List Key × V)} (e : H a = some (.dT kvs)) : TyOf K H (.ref a) (.type "dict")
  | ins {a C dx : Addr} {fs : List (Str × V)} (e : H a = some (.ins C dx fs)) (cl : Cls K C) (ha : PySem.W.findIn K (.ref C) "__class__" = some (some (.builtin "object.__class__")))
      (hn : PySem.W.specialIn K (.builtin "object.__class__") "__get__" = some (some (.builtin "getset_descriptor.__get__"))) (htk : PySem.W.takesIn K (.builtin "object.__class__") = some true)
      (hm : PySem.W.mroIn K C (.type "object") = some true) : TyOf K H (.ref a) (.ref C)
theorem isinst_ok {x : V} {u t : Value} (I : Inv X pins σ H s) (rx : RelV x u) (ty : TyOf X.K H x t) (e : PySem.W.kitOne X.K t c = some b) (h : ∀ tk, Q (.bool b) { s with toks := tk }) :
    wpAny (model X.prog X.w) A (call (.builtin "isinstance") [u, c]) Q E s := by
  cases ty with
  | non => cases (show u = Value.none from rx); exact PySem.W.kia_one PySem.W.kitx_none I.kIn True.intro e (fun z => nomatch z) h
  | bl y => cases (show u = Value.bool y from rx); exact PySem.W.kia_one PySem.W.kitx_bool I.kIn True.intro e (fun z => nomatch z) h
  | int i => obtain ⟨t, q⟩ := (show ∃ t, u = Value.int i t from rx); cases q; exact PySem.W.kia_one PySem.W.kitx_int I.kIn True.intro e (fun z => nomatch z) h
  | str y => obtain ⟨t, q⟩ := (show ∃ t, u = Value.str y t from rx); cases q; exact PySem.W.kia_one PySem.W.kitx_str I.kIn True.intro e (fun z => nomatch z) h
  | flt y => obtain ⟨t, q⟩ := (show ∃ t, u = Value.float y t from rx); cases q; exact PySem.W.kia_one PySem.W.kitx_float I.kIn True.intro e (fun z => nomatch z) h
  | @lst a xs ea =>
    cases (show u = Value.ref a from rx)
    obtain ⟨_, _, n, _, h1⟩ := (show ObjOk X.prog X.w H s.heap a (.lst xs) from I.hok a _ ea)
    exact PySem.W.kia_one PySem.W.kitx_list I.kIn ⟨_, h1, rfl⟩ e (fun z => nomatch z) h
  | @frz a ob xs ea =>
    cases (show u = Value.ref a from rx)
    obtain ⟨_, _, _, n, _, h1⟩ := (show ObjOk X.prog X.w H s.heap a (.frz ob (.lst xs)) from I.hok a _ ea)
    exact PySem.W.kia_one PySem.W.kitx_list I.kIn ⟨_, h1, rfl⟩ e (fun z => nomatch z) h
  | @tup a xs ea =>
    cases (show u = Value.ref a from rx)
    obtain ⟨_, _, _, p⟩ := (show ObjOk X.prog X.w H s.heap a (.tup xs) from I.hok a _ ea)
    obtain ⟨o, h1, h2, _⟩ := p
    exact PySem.W.kia_one PySem.W.kitx_tuple I.kIn ⟨o, h1, h2⟩ e (fun z => nomatch z) h
  | @dK a kvs ea =>
    cases (show u = Value.ref a from rx)
    obtain ⟨_, _, vs, _, p⟩ := (show ObjOk X.prog X.w H s.heap a (.dK kvs) from I.hok a _ ea)
    obtain ⟨o, es, ep, h1, h2, _⟩ := p
    exact PySem.W.kia_one PySem.W.kitx_dict I.kIn ⟨o, h1, h2.1⟩ e (fun z => nomatch z) h
  | @dT a kvs ea =>
    cases (show u = Value.ref a from rx)
    obtain ⟨_, _, xs, _, o, es, ep, h1, h2, _⟩ := (show ObjOk X.prog X.w H s.heap a (.dT kvs) from I.hok a _ ea)
    exact PySem.W.kia_one PySem.W.kitx_dict I.kIn ⟨o, h1, h2.1⟩ e (fun z => nomatch z) h
  | @ins a C dx fs ea cl ha hn htk hm =>
    cases (show u = Value.ref a from rx)
    obtain ⟨mA, O, _⟩ := ins_get I.hok ea
    obtain ⟨od, J, _⟩ := O.look
    exact PySem.W.kia_one (PySem.W.kitx_own (cl.get _) cl.hd ha hn htk hm) I.kIn J e (fun z => nomatch z) h
end
end L2
namespace L2
open PySem PySem.Spec PyProof.Rows
structure Room (k : Nat) (A : Around) : Prop where
  hd : A.handled = none
  dp : A.depth + 3 * k + 5 < recursionLimit
  un : A.units + 16 * k + 200 < cLine
theorem Room.mono {j k : Nat} {A : Around} (r : Room k A) (h : j ≤ k) : Room j A := ⟨r.hd, by have := r.dp; omega, by have := r.un; omega⟩
theorem Room.deeper {k : Nat} {A : Around} (r : Room (k + 1) A) (env : Env) : Room k (A.deeper env) :=
  ⟨r.hd, by have := r.dp; show A.depth + 1 + 3 * k + 5 < _; omega, by have := r.un; show A.units + 3 + 16 * k + 200 < _; omega⟩
theorem Room.depth {k : Nat} {A : Around} (r : Room k A) : A.depth < recursionLimit := by have := r.dp; omega
theorem Room.units {k : Nat} {A : Around} (r : Room k A) : A.units + 64 < cLine := by have := r.un; omega
def tNil : TA := fun _ H Q => Q [] H
def tCons (ta : TE) (tr : TA) : TA := fun σ H Q => ta σ H fun x H1 => tr σ H1 fun xs H2 => Q (x :: xs) H2
section
variable {X : Cx} {e : Expr} {es : List Expr} {te : TE} {t : TA} {pos : Pos}
theorem pa_nil : PA X [] tNil := fun _ _ _ _ H Q I h => Calls.spliced_nil ⟨[], H, I, .nil, h⟩
theorem pa_cons (ha : PE X e te) (hr : PA X es t) (hs : starEach (e :: es) X.env = (false, eval e X.env) :: starEach es X.env := by rfl) : PA X (e :: es) (tCons te t) := by
  intro pos pins s σ H Q I h
  rw [hs]
  show wpAny _ _ (spliced ((false, eval e X.env) :: backTo pos (starEach es X.env))) _ _ s
  refine Calls.spliced_cons (thn (ha pins s σ H _ I h) fun u s1 ⟨x, H1, I1, r1, q1⟩ => ?_)
  exact thn (hr pos pins s1 σ H1 _ I1 q1) fun us s2 ⟨xs, H2, I2, r2, q2⟩ => ⟨x :: xs, H2, I2, .cons r1 r2, q2⟩
def tTup (t : TA) : TE := fun σ H Q => t σ H fun xs H1 => xs.length ≤ sizeLine ∧ ∀ p, H1 p = none → Q (.ref p) (upd H1 p (.tup xs))
def tLst (t : TA) : TE := fun σ H Q => t σ H fun xs H1 => xs.length ≤ sizeLine ∧ ∀ p, H1 p = none → Q (.ref p) (upd H1 p (.lst xs))
theorem pe_tup {x1} (h : PA X es t) : PE X (.Tuple es x1 pos) (tTup t) := by
  intro pins s σ H Q I hq
  refine wpAny_Tuple_spliced (thn (h pos pins s σ H _ I hq) fun us s1 ⟨xs, H1, I1, r, z, q⟩ => ⟨by rw [← r.length]; exact z, ?_⟩)
  have hf : H1 s1.heap.objs.size = none := I1.hok.fresh (Nat.le_refl _)
  refine ⟨.ref s1.heap.objs.size, upd H1 s1.heap.objs.size (.tup xs), I1.laid (t' := s1.toks) (fun b u e => Heap.get?_push_of_some _ e) (Nat.le_refl _) ?_, rfl, q _ hf⟩
  exact ⟨z, us, r, ⟨_, Heap.get?_push_size _ rfl, rfl, _, rfl⟩⟩
theorem pe_lst (h : PA X es t) : PE X (.List es pos) (tLst t) := by
  intro pins s σ H Q I hq
  refine wpAny_List_spliced (thn (h pos pins s σ H _ I hq) fun us s1 ⟨xs, H1, I1, r, z, q⟩ => ⟨by rw [← r.length]; exact z, ?_⟩)
  have hf : H1 s1.heap.objs.size = none := I1.hok.fresh (Nat.le_refl _)
  refine ⟨.ref s1.heap.objs.size, upd H1 s1.heap.objs.size (.lst xs), I1.laid (t' := s1.toks) (fun b u e => Heap.get?_push_of_some _ e) (Nat.le_refl _) ?_, rfl, q _ hf⟩
  exact ⟨z, us, 0, r, Heap.get?_push_size _ rfl⟩
end
abbrev Sp := List V → Hp → VK → XK → Prop
abbrev CXT := List Env → Hp → Shared → XK → Value → Shared → Prop
structure Env0 (P : Program) (w : World) (K : PySem.W.Frag) (mg : Str → Option Value) (base : Heap) (A : Around) (outer : List Env) (s : Shared) (H : Hp) : Prop where
  frames : A.frames = some outer
  mod : Mod K mg base
  bs : ∀ b o, base.get? b = some o → s.heap.get? b = some o ∧ H b = none
  bsz : base.objs.size ≤ s.heap.objs.size
  funs : s.heap.FunFrames base outer
  frf : ∀ b ∈ frs outer, H b = none
  hok : HOk P w H s.heap
  bare : AllBare s.gens
def CE (outer : List Env) (P : Program) (w : World) (H : Hp) (s : Shared) (Q : VK) (u : Value) (s' : Shared) : Prop :=
  ∃ v H', s'.os = s.os ∧ AllBare s'.gens ∧ Un (frs outer) [] H H' s.heap s'.heap ∧ HOk P w H' s'.heap ∧ RelV v u ∧ Q v H'
def CR (CX : CXT) (outer : List Env) (P : Program) (w : World) (H : Hp) (s : Shared) (Q : VK) (E : XK) (r : Result) (s' : Shared) : Prop :=
  match r with
  | .ok (.ret u) => CE outer P w H s Q u s'
  | .ok _ => False
  | .error e => CX outer H s E e s'
structure FnOk (P : Program) (w : World) (K : PySem.W.Frag) (mg : Str → Option Value) (base : Heap) (CX : CXT) (k : Nat) (f : Addr) (fd : FuncData) (ps : List Str) (sp : Sp) : Prop where
  len : ∀ vs H Q E, sp vs H Q E → vs.length = ps.length
  run : ∀ (A : Around) (outer : List Env) (s : Shared) (H : Hp) (args : Args) (us : List Value) (vs : List V) (Q : VK) (E : XK), Room k A → Env0 P w K mg base A outer s H → BindsTo s fd args (ps.zip us) → Vals vs us → sp vs H Q E →
    codeAny (model P w) A (.call (.ref f) args) (CR CX outer P w H s Q E) s
theorem FnOk.imp {P : Program} {w : World} {K : PySem.W.Frag} {mg : Str → Option Value} {base : Heap} {CX : CXT} {k : Nat} {f : Addr} {fd : FuncData} {ps : List Str} {sp sp' : Sp} (F : FnOk P w K mg base CX k f fd ps sp)
    (h : ∀ vs H Q E, sp' vs H Q E → sp vs H Q E) : FnOk P w K mg base CX k f fd ps sp' :=
  ⟨fun vs H Q E q => F.len vs H Q E (h _ _ _ _ q), fun A outer s H args us vs Q E hr he hb hv hs => F.run A outer s H args us vs Q E hr he hb hv (h _ _ _ _ hs)⟩
section
variable {X : Cx} {pins : List (Addr × Obj)} {σ : St} {H : Hp} {s s' : Shared}
theorem Inv.env0 (I : Inv X pins σ H s) : Env0 X.prog X.w X.K X.mg X.base X.A X.stack s H :=
  ⟨I.ok.frames, I.ok.mod, I.bs, Nat.le_trans I.ok.bsz I.sz, I.stack, I.stkFree, I.hok, I.bare⟩
theorem Inv.after {Q : VK} {u : Value} (I : Inv X pins σ H s) (h : CE X.stack X.prog X.w H s Q u s') : EP X pins σ Q u s' := by
  obtain ⟨v, H', os, bare, un, hok, r, q⟩ := h
  obtain ⟨hh, g, d, t, os'⟩ := s'
  obtain rfl : os' = s.os := os
  exact ⟨v, H', I.call (h' := hh) (g' := g) (d' := d) (t' := t) (ch := []) un hok bare (fun b z => absurd z (by simp)), r, q⟩
end
def tCall (sp : Sp) (dvs : List V) (E : XK) (t : TA) : TE := fun σ H Q => t σ H fun vs H1 => sp (vs ++ dvs) H1 Q E
def Binds (K : PySem.W.Frag) (fd : FuncData) (ps : List Str) (ds : List Value) : Prop :=
  ∀ (s : Shared) (us : List Value), K.In s.heap → (us ++ ds).length = ps.length → BindsTo s fd ⟨us, []⟩ (ps.zip (us ++ ds))
theorem Binds.all {K : PySem.W.Frag} {fd : FuncData} {ps : List Str} (h : ∀ us : List Value, us.length = ps.length → bindArgs fd ⟨us, []⟩ = pure (ps.zip us)) : Binds K fd ps [] := fun s us _ hl => by
  rw [List.append_nil] at hl ⊢
  exact .of_eq (h us hl)
def Passes (CX : CXT) (X : Cx) (E : XK) : Prop := ∀ (pins : List (Addr × Obj)) (σ : St) (H : Hp) (s : Shared) (e : Value) (s' : Shared), Inv X pins σ H s → CX X.stack H s E e s' → X.xe e s'
section
variable {X : Cx} {CX : CXT} {k : Nat} {f C : Addr} {fd : FuncData} {ps : List Str} {sp : Sp} {dvs : List V} {ds : List Value} {E : XK} {x m : Str} {p pos apos : Pos} {e o : Expr} {es : List Expr} {ta : TE} {t : TA}
theorem run_fn {pins : List (Addr × Obj)} {σ : St} {H : Hp} {s : Shared} {Q : VK} {us : List Value} {vs : List V} (F : FnOk X.prog X.w X.K X.mg X.base CX k f fd ps sp) (hr : Room k X.A) (hb : Binds X.K fd ps ds) (hd : Vals dvs ds) (hx : Passes CX X E)
    (I : Inv X pins σ H s) (r : Vals vs us) (h : sp (vs ++ dvs) H Q E) : wpAny (model X.prog X.w) X.A (call (.ref f) us) (EP X pins σ Q) X.xe s := by
  have r2 : Vals (vs ++ dvs) (us ++ ds) := r.append hd
  have hl : (us ++ ds).length = ps.length := by rw [← r2.length]; exact F.len _ _ _ _ h
  refine wpAny_call (codeAny_mono (F.run X.A X.stack s H ⟨us, []⟩ (us ++ ds) (vs ++ dvs) Q E hr I.env0 (hb s us I.kIn hl) r2 h) fun r s' hq => ?_)
  cases r with
  | error e => exact hx pins σ H s e s' I hq
  | ok fl =>
    cases fl with
    | ret u => exact I.after hq
    | next => exact False.elim hq
    | brk => exact False.elim hq
    | cont => exact False.elim hq
theorem pe_call (F : FnOk X.prog X.w X.K X.mg X.base CX k f fd ps sp) (hr : Room k X.A) (hg : Gl X x) (hm : X.mg x = some (.ref f)) (hk : PySem.W.keepIn X.K (.ref f) = true) (hb : Binds X.K fd ps ds) (hd : Vals dvs ds) (hx : Passes CX X E)
    (ha : PA X (e :: es) t) (hdb : (x == ("__debug__" : Str)) = false := by decide) (he : starEach (e :: es) X.env = (false, eval e X.env) :: starEach es X.env := by rfl) (hpl : (backTo pos (starEach es X.env)).any (·.1) = false := by rfl) :
    PE X (.Call (.Name x p) (e :: es) [] pos) (tCall sp dvs E t) := by
  intro pins s σ H Q I h
  refine wpAny_Call_Name_kw (ld_glob I hg hm ?_ hdb)
  refine PySem.W.callWith_K (h₀ := X.base) I.ok.mod.kin hk (thn (ha pos pins s σ H _ I h) fun us s1 ⟨vs, H1, I1, r, q⟩ => ⟨I1.kIn, ?_⟩) he hpl
  exact run_fn F hr hb hd hx I1 r q
end
section
variable {X : Cx} {CX : CXT} {k : Nat} {f C : Addr} {fd : FuncData} {ps ks : List Str} {sp : Sp} {E : XK} {x m : Str} {p pos apos kpos : Pos} {e o : Expr} {es : List Expr} {kws : List Keyword} {te ta : TE} {t tk : TA} {nm : Option Str}
variable {g : List Value → List Value → List Value} {gV : List V → List V → List V}
end
structure FnScope (N P : List Str) (sc : Scope) : Prop where
  kind : sc.kind = .function
  co : sc.isCoroutine = false
  gen : sc.isGenerator = false
  nd : N.Nodup
  pre : N.take P.length = P
  par : ∀ x ∈ P, sc.names.lookup x = some .local ∨ sc.names.lookup x = some .cell
  nofree : ∀ y ∈ sc.names, y.2 ≠ .free
theorem bindL_out {kindOf : Str → Option NameKind} {x : Str} : ∀ {binds : List (Str × Value)} {m : Str → Option Value}, (∀ v, (x, v) ∉ binds) → bindL kindOf binds m x = m x
  | [], _, _ => rfl
  | (n, v) :: r, m, h => by
    unfold bindL
    rw [bindL_out fun w hw => h w (List.mem_cons_of_mem _ hw)]
    split
    · have : x ≠ n := by rintro rfl; exact h v List.mem_cons_self
      simp [this]
    · rfl
theorem bindC_out {kindOf : Str → Option NameKind} {x : Str} : ∀ {binds : List (Str × Value)} {m : Str → Option Value}, (∀ v, (x, v) ∉ binds) → bindC kindOf binds m x = m x
  | [], _, _ => rfl
  | (n, v) :: r, m, h => by
    unfold bindC
    rw [bindC_out fun w hw => h w (List.mem_cons_of_mem _ hw)]
    split
    · rfl
    · have : x ≠ n := by rintro rfl; exact h v List.mem_cons_self
      simp [this]
theorem bindL_get {kindOf : Str → Option NameKind} {x : Str} {v : Value} : ∀ {P : List Str} {vs : List Value} {i : Nat} {m : Str → Option Value}, P.Nodup → P[i]? = some x → vs[i]? = some v → kindOf x = some .local →
    bindL kindOf (P.zip vs) m x = some v
  | [], _, _, _, _, h, _, _ => by simp at h
  | _ :: _, [], _, _, _, _, h, _ => by simp at h
  | p :: P, w :: vs, 0, m, nd, h1, h2, hk => by
    simp at h1 h2; subst h1; subst h2
    show bindL kindOf ((p, w) :: P.zip vs) m p = _
    unfold bindL
    rw [bindL_out fun v hv => (List.nodup_cons.mp nd).1 (List.of_mem_zip hv).1, if_pos hk]
    simp
  | p :: P, w :: vs, i + 1, m, nd, h1, h2, hk => by
    show bindL kindOf ((p, w) :: P.zip vs) m x = _
    unfold bindL
    exact bindL_get (i := i) (List.nodup_cons.mp nd).2 (by simpa using h1) (by simpa using h2) hk
theorem bindC_get {kindOf : Str → Option NameKind} {x : Str} {v : Value} : ∀ {P : List Str} {vs : List Value} {i : Nat} {m : Str → Option Value}, P.Nodup → P[i]? = some x → vs[i]? = some v → kindOf x ≠ some .local →
    bindC kindOf (P.zip vs) m x = some v
  | [], _, _, _, _, h, _, _ => by simp at h
  | _ :: _, [], _, _, _, _, h, _ => by simp at h
  | p :: P, w :: vs, 0, m, nd, h1, h2, hk => by
    simp at h1 h2; subst h1; subst h2
    show bindC kindOf ((p, w) :: P.zip vs) m p = _
    unfold bindC
    rw [bindC_out fun v hv => (List.nodup_cons.mp nd).1 (List.of_mem_zip hv).1, if_neg hk]
    simp
  | p :: P, w :: vs, i + 1, m, nd, h1, h2, hk => by
    show bindC kindOf ((p, w) :: P.zip vs) m x = _
    unfold bindC
    exact bindC_get (i := i) (List.nodup_cons.mp nd).2 (by simpa using h1) (by simpa using h2) hk
def start (N : List Str) (vs : List V) : St := vs.map some ++ List.replicate (N.length - vs.length) none
def cxOf (CX : CXT) (P : Program) (w : World) (K : PySem.W.Frag) (mg : Str → Option Value) (base : Heap) (N : List Str) (qual : Str) (scope : Scope) (f : Addr) (cd : Value) (A : Around) (outer : List Env) (s : Shared) (H : Hp) (E : XK) : Cx where
  prog := P
  w := w
  K := K
  mg := mg
  base := base
  A := A.deeper (envOfC qual scope s.heap.objs.size f cd)
  N := N
  s₀ := s
  H₀ := H
  env := envOfC qual scope s.heap.objs.size f cd
  outer := outer
  stack := envOfC qual scope s.heap.objs.size f cd :: outer
  ex := []
  calm := true
  fn := fun _ => true
  pn := []
  xe := fun e s' => wpAny (model P w) (A.deeper (envOfC qual scope s.heap.objs.size f cd)) (leaving (envOfC qual scope s.heap.objs.size f cd) e) (fun _ s'' => CX outer H s E e s'') (fun e' s'' => CX outer H s E e' s'') s'
theorem cell_has {sc : Scope} {n : Nat} {x : Str} (h : sc.names.lookup x = some .cell) : ∃ c, (cellsFrom n sc.names []).lookup x = some c := by
  have q := PySem.W.cellsFrom_some sc.names n [] (.inl h)
  exact Option.isSome_iff_exists.mp q
theorem inv_start {CX : CXT} {P : Program} {w : World} {K : PySem.W.Frag} {mg : Str → Option Value} {base : Heap} {N ps : List Str} {qual : Str} {scope : Scope} {f : Addr} {cd : Value} {A : Around} {outer : List Env} {s s1 : Shared} {H : Hp} {E : XK} {us : List Value} {vs : List V}
    (S : FnScope N ps scope) (hd : A.handled = none) (e0 : Env0 P w K mg base A outer s H) (hl : vs.length = ps.length) (r : Vals vs us)
    (x : InCallC s s.heap.objs.size (bindL (envOfC qual scope s.heap.objs.size f cd).kindOf (ps.zip us) fun _ => none) (cellsFrom (s.heap.objs.size + 1) scope.names []) (bindC (envOfC qual scope s.heap.objs.size f cd).kindOf (ps.zip us) fun _ => none) s1) :
    Inv (cxOf CX P w K mg base N qual scope f cd A outer s H E) [] (start N vs) H s1 := by
  have hpl : ps.length ≤ N.length := by have := congrArg List.length S.pre; rw [List.length_take] at this; omega
  obtain ⟨h1, tk, rfl, hk⟩ := x.done
  have noA : ∀ b : Addr, b ∉ (cxOf CX P w K mg base N qual scope f cd A outer s H E).ex := fun b z => absurd (show b ∈ ([] : List Addr) from z) (by simp)
  refine ⟨⟨e0.mod, S.kind, rfl, rfl, Nat.le_refl _, fun y z c h1 h2 => ?_, fun y hy => ?_, fun y c _ h => ?_, fun _ => hd, Around.frames_deeper e0.frames, .inr ⟨rfl, rfl⟩, fun b z => absurd z (noA b), e0.bs, e0.bsz, fun b _ _ => noA b, fun b z => absurd z (noA b), e0.funs, e0.frf⟩,
    rfl, e0.bare, Un.kept hk, ⟨_, x.toInCall.ns, fun i y v h1 h2 h3 => ?_⟩, fun y c h => ⟨_, x.cell y c h⟩, e0.hok.fresh (Nat.le_refl _), fun y c h => ?_, fun p hp => absurd (show p ∈ ([] : List (Addr × Obj)) from hp) (by simp), e0.hok.kept hk, ?_⟩
  · exact name_of_addr x.apart (PySem.mem_of_lookup h1) (PySem.mem_of_lookup h2)
  · have hy : scope.names.lookup y = some .cell ∨ scope.names.lookup y = some .free := hy
    rcases hy with hy | hy
    · exact cell_has hy
    · exact absurd rfl (S.nofree _ (PySem.mem_of_lookup hy))
  · exact Nat.le_of_lt (x.above y c (PySem.mem_of_lookup h))
  · have hi : i < vs.length := by
      unfold start at h2
      by_cases hi : i < vs.length
      · exact hi
      · rw [List.getElem?_append_right (by simpa using hi)] at h2
        rw [List.getElem?_replicate] at h2
        split at h2 <;> cases h2
    have ha : vs[i]? = some v := by
      unfold start at h2
      rw [List.getElem?_append_left (by simpa using hi), List.getElem?_map] at h2
      cases e : vs[i]? with
      | none => rw [e] at h2; cases h2
      | some a => rw [e] at h2; cases h2; rfl
    obtain ⟨u, hu, rv⟩ := r.get ha
    have hp : ps[i]? = some y := by
      rw [← S.pre, List.getElem?_take_of_lt (by omega)]; exact h1
    have ndP : ps.Nodup := by rw [← S.pre]; exact S.nd.sublist (List.take_sublist _ _)
    refine ⟨u, rv, ?_⟩
    rcases S.par y (List.mem_of_getElem? hp) with k | k
    · exact .inl ⟨k, bindL_get ndP hp hu k⟩
    · obtain ⟨c, e⟩ := cell_has (n := s.heap.objs.size + 1) k
      refine .inr ⟨.inl k, c, e, ?_⟩
      have q := x.cell y c e
      rw [bindC_get ndP hp hu (by show scope.names.lookup y ≠ _; rw [k]; decide)] at q
      exact q
  · exact e0.hok.fresh (Nat.le_of_lt (x.above y c (PySem.mem_of_lookup h)))
  · unfold start
    show _ = N.length
    rw [List.length_append, List.length_map, List.length_replicate]
    omega
theorem fn_of {CX : CXT} {P : Program} {w : World} {K : PySem.W.Frag} {mg : Str → Option Value} {base : Heap} {k : Nat} {f : Addr} {name qual : Str} {params : Arguments} {body : List Stmt} {scope : Scope} {dV kV doc pm cdv ct oc : Value} {an od : Option Addr}
    {osl : Array (Option Value)} {N ps : List Str} {sp : Sp} (lk : K.lookup f = some ⟨oc, od, .func (PySem.W.fnOf name qual params body scope dV kV doc pm an cdv ct), osl⟩) (hcd : PySem.W.codeIn K cdv qual = true) (S : FnScope N ps scope)
    (len : ∀ vs H Q E, sp vs H Q E → vs.length = ps.length)
    (hbody : ∀ (A : Around) (outer : List Env) (s : Shared) (H : Hp) (vs : List V) (Q : VK) (E : XK), Room k (A.deeper (envOfC qual scope s.heap.objs.size f cdv)) → sp vs H Q E →
      ∃ t, PSs (cxOf CX P w K mg base N qual scope f cdv A outer s H E) body t ∧ t { nx := fun _ H' => Q .non H', rt := Q } (start N vs) H) :
    FnOk P w K mg base CX (k + 1) f (PySem.W.fnOf name qual params body scope dV kV doc pm an cdv ct) ps sp := by
  refine ⟨len, fun A outer s H args us vs Q E hr e0 hb r hsp => ?_⟩
  have hl := len _ _ _ _ hsp
  have KX : K.In s.heap := e0.mod.kin.keeps fun b o e => (e0.bs b o e).1
  have lim : s.heap.NoLimit := e0.mod.nolimit.keeps fun b o e => (e0.bs b o e).1
  have hkind : ∀ y ∈ ps.zip us, scope.names.lookup y.1 = some .local ∨ (scope.names.lookup y.1 = some .cell ∧ ((cellsFrom (s.heap.objs.size + 1) scope.names []).lookup y.1).isSome = true) := fun ⟨n, v⟩ hy => by
    rcases S.par n (List.of_mem_zip hy).1 with q | q
    · exact .inl q
    · exact .inr ⟨q, PySem.W.cellsFrom_some _ _ _ (.inl q)⟩
  refine codeAny_call_function hr.depth (KX _ _ lk) rfl S.co S.gen rfl (PySem.W.codeRec_of KX hcd) (hb _ _ _ _ ?_)
  refine wpAny_newFunctionEnv_cells S.kind hkind fun env he s1 x => ?_
  subst he
  refine ⟨lim.keeps x.toInCall.keep, codeAny_func ?_⟩
  obtain ⟨t, ht, hq⟩ := hbody A outer s H vs Q E (hr.deeper _) hsp
  have I : Inv (cxOf CX P w K mg base N qual scope f cdv A outer s H E) [] (start N vs) H s1 := inv_start S hr.hd e0 hl r x
  refine wpAny_mono (ht [] s1 (start N vs) H _ I hq) (fun fl s' hs => ?_) fun e s' hs => hs
  have fin : ∀ {σ' : St} {H' : Hp} {v : V} {u : Value}, Inv (cxOf CX P w K mg base N qual scope f cdv A outer s H E) [] σ' H' s' → RelV v u → Q v H' → CE outer P w H s Q u s' :=
    fun {σ' H' v u} J rv q => ⟨v, H', J.os, J.bare, J.base, J.hok, rv, q⟩
  cases fl with
  | ret u =>
    obtain ⟨v, σ', H', J, rv, q⟩ := hs
    exact fin J rv q
  | next =>
    obtain ⟨σ', H', J, q⟩ := hs
    exact fin (v := V.non) (u := Value.none) J rfl q
  | brk =>
    obtain ⟨_, _, _, q⟩ := hs
    exact False.elim q
  | cont =>
    obtain ⟨_, _, _, q⟩ := hs
    exact False.elim q
end L2
namespace L2
open PySem PySem.Spec PyProof.Rows
section
variable {X : Cx} {x : Str} {p pos : Pos} {e : Expr} {es : List Expr} {t : TA} {id T : String} {r : List V → Hp → VK → Prop}
def tCB (r : List V → Hp → VK → Prop) (t : TA) : TE := fun σ H Q => t σ H fun vs H1 => r vs H1 Q
theorem pe_callB (hc : CallR X (.builtin id) r) (hg : Gl X x) (hm : X.mg x = none) (hv : bootBuiltins x = some (.builtin id)) (ha : PA X (e :: es) t) (hn : x ≠ "__name__" := by decide) (hdb : (x == ("__debug__" : Str)) = false := by decide)
    (he : starEach (e :: es) X.env = (false, eval e X.env) :: starEach es X.env := by rfl) (hpl : (backTo pos (starEach es X.env)).any (·.1) = false := by rfl) : PE X (.Call (.Name x p) (e :: es) [] pos) (tCB r t) := by
  intro pins s σ H Q I h
  refine wpAny_Call_Name_kw (ld_blt I hg hm hv ?_ hn hdb)
  exact PyProof.Rows.callWith_builtin1 (thn (ha pos pins s σ H _ I h) fun us s1 ⟨vs, H1, I1, r1, q1⟩ => hc pins s1 σ H1 vs us Q I1 r1 q1) he hpl
theorem pe_callTy (hc : CallR X (.type T) r) (hg : Gl X x) (hm : X.mg x = none) (hv : bootBuiltins x = some (.type T)) (ha : PA X (e :: es) t) (hn : x ≠ "__name__" := by decide) (hdb : (x == ("__debug__" : Str)) = false := by decide)
    (he : starEach (e :: es) X.env = (false, eval e X.env) :: starEach es X.env := by rfl) (hpl : (backTo pos (starEach es X.env)).any (·.1) = false := by rfl) : PE X (.Call (.Name x p) (e :: es) [] pos) (tCB r t) := by
  intro pins s σ H Q I h
  refine wpAny_Call_Name_kw (ld_blt I hg hm hv ?_ hn hdb)
  exact PyProof.Rows.callWith_type1 (thn (ha pos pins s σ H _ I h) fun us s1 ⟨vs, H1, I1, r1, q1⟩ => hc pins s1 σ H1 vs us Q I1 r1 q1) he hpl
end
end L2
namespace HT
open PySem PyProof.Rows
section
open PySem.SeqAt
open PySem.AutoSeq1 (wpAny_loadPart')
open PySem.MeetsSeq PySem.MeetsSeq2 PySem.MeetsSeq3
end
section
variable {prog : Program} {w : World} {A : Around} {E : Value → Shared → Prop} {s : Shared}
theorem cat_tup {t b : Addr} {vs ws : List Value} {Q : Value → Shared → Prop} (ht : IsTup s.heap t vs.toArray) (hb : IsTup s.heap b ws.toArray) (hv : vs ≠ [])
    (h1 : ws = [] → Q (.ref t) s) (h2 : ws ≠ [] → Q (.ref s.heap.objs.size) { s with heap := s.heap.push { cls := .type "tuple", data := .seq (vs ++ ws).toArray } })
    (hsz : vs.length + ws.length ≤ sizeLine) : wpAny (model prog w) A (binaryOp .Add (.ref t) (.ref b)) Q E s := by
  obtain ⟨⟨cls, dd, data, sl⟩, ho, hc, n, hd⟩ := id ht
  obtain ⟨⟨cls2, dd2, data2, sl2⟩, ho2, hc2, n2, hd2⟩ := id hb
  simp only at hc hd hc2 hd2
  subst hc hd hc2 hd2
  have e : vs.toArray ++ ws.toArray = (vs ++ ws).toArray := by simp
  by_cases hw : ws = []
  · exact concat_meets ⟨_, ho, rfl⟩ ⟨_, ho2, rfl⟩ noFill_tuple_add seq_tuple_add PySem.F.slot_tuple_add PySem.F.entry_tuple_add (PySem.F.args_tuple_add_2 _ _)
      (tuple_addW1 t b vs.toArray ws.toArray n n2 dd dd2 sl sl2 (by simpa using hv) (by simp [hw])) ⟨ho, ho2, h1 hw⟩
  · refine concat_meets ⟨_, ho, rfl⟩ ⟨_, ho2, rfl⟩ noFill_tuple_add seq_tuple_add PySem.F.slot_tuple_add PySem.F.entry_tuple_add (PySem.F.args_tuple_add_2 _ _)
      (tuple_addW2 t b vs.toArray ws.toArray n n2 dd dd2 sl sl2 (by simpa using hv) (by simpa using hw) (by rw [List.size_toArray, List.size_toArray]; exact hsz)) ⟨ho, ho2, ?_⟩
    rw [e]
    exact h2 hw
def sIx (n d : Nat) : Option Int → Nat
  | none => d
  | some v => if v < 0 then (v + (n : Int)).toNat else min v.toNat n
theorem sIx_none (n d : Nat) : sIx n d none = d := rfl
theorem sIx_nat (n d k : Nat) : sIx n d (some (k : Int)) = min k n := by
  show (if (k : Int) < 0 then ((k : Int) + (n : Int)).toNat else min (k : Int).toNat n) = min k n
  rw [if_neg (by omega), Int.toNat_natCast]
theorem sIx_le (n d : Nat) (hd : d ≤ n) (o : Option Int) : sIx n d o ≤ n := by
  cases o with
  | none => exact hd
  | some v =>
    show (if v < 0 then (v + (n : Int)).toNat else min v.toNat n) ≤ n
    by_cases hv : v < 0
    · rw [if_pos hv]; omega
    · rw [if_neg hv]; exact Nat.min_le_right _ _
theorem clip_eq (v : Int) (n d : Nat) : (if v < 0 then max (v + (n : Int)) 0 else min v (n : Int)) = ((sIx n d (some v) : Nat) : Int) := by
  show (if v < 0 then max (v + (n : Int)) 0 else min v (n : Int)) = (((if v < 0 then (v + (n : Int)).toNat else min v.toNat n) : Nat) : Int)
  by_cases hv : v < 0
  · simp only [if_pos hv]; omega
  · simp only [if_neg hv]; omega
theorem adjust_gen (lo hi : Option Int) (n : Nat) : Builtin.Slice.sliceAdjust lo hi 1 (n : Int) = (((sIx n 0 lo : Nat) : Int), ((sIx n n hi : Nat) : Int)) := by
  have h1 : ¬ ((1 : Int) < 0) := by omega
  unfold Builtin.Slice.sliceAdjust
  simp only [h1, if_false]
  refine Prod.ext ?_ ?_
  · cases lo with
    | none => rfl
    | some v => exact clip_eq v n 0
  · cases hi with
    | none => rfl
    | some v => exact clip_eq v n n
theorem places_gen (i j : Nat) : Builtin.Slice.slicePlaces (i : Int) (j : Int) 1 = j - i := by
  unfold Builtin.Slice.slicePlaces
  have h1 : (1 : Int) > 0 := by omega
  simp only [h1, if_true, Int.ediv_one]
  split <;> omega
theorem slicePart_ {v : Value} {o : Option Int} {Q : Option Int → Shared → Prop} (p : IsPart v o) (h : Q o s) : wpAny (model prog w) A (Builtin.Slice.slicePartIndex v) Q E s := by
  cases p with
  | none => exact slicePart_none h
  | int i t => exact slicePart_int h
theorem sliceApplied_gen {sl : Addr} {vl vu : Value} {lo hi : Option Int} {n : Nat} {Q : Int × Int × Nat → Shared → Prop} (hs : s.heap.IsSliceOf sl vl vu .none) (pl : IsPart vl lo) (pu : IsPart vu hi)
    (h : Q (((sIx n 0 lo : Nat) : Int), 1, sIx n n hi - sIx n 0 lo) s) : wpAny (model prog w) A (Builtin.Slice.sliceApplied (.ref sl) (pure (n : Int))) Q E s := by
  obtain ⟨os, hos, hcs, hds⟩ := id hs
  unfold Builtin.Slice.sliceApplied Builtin.Slice.sliceFields
  refine wpAny_bind (wpAny_bind (wpAny_field hos hds (x := vl) rfl (wpAny_bind (wpAny_field hos hds (x := vu) rfl (wpAny_bind (wpAny_field hos hds (x := .none) rfl (wpAny_pure ?_)))))))
  refine wpAny_bind (slicePart_none ?_)
  show wpAny _ _ (if ((1 : Int) == 0) = true then _ else _) _ _ s
  rw [if_neg (by decide)]
  refine wpAny_bind (slicePart_ pl (wpAny_bind (slicePart_ pu (wpAny_bind (wpAny_pure ?_)))))
  show wpAny _ _ (match Builtin.Slice.sliceAdjust lo hi 1 (n : Int) with | (lo, hi) => pure (lo, (1 : Int), Builtin.Slice.slicePlaces lo hi 1)) _ _ s
  rw [adjust_gen lo hi n]
  show wpAny _ _ (pure (((sIx n 0 lo : Nat) : Int), (1 : Int), Builtin.Slice.slicePlaces ((sIx n 0 lo : Nat) : Int) ((sIx n n hi : Nat) : Int) 1)) _ _ s
  rw [places_gen]
  exact wpAny_pure h
theorem pick_gen (xs : Array Value) (i k : Nat) : ((List.range k).filterMap fun (m : Nat) => xs[((i : Int) + (m : Int) * 1).toNat]?).toArray = ((xs.toList.drop i).take k).toArray := by
  have e : (fun (m : Nat) => xs[((i : Int) + (m : Int) * 1).toNat]?) = fun m => xs[i + m]? := by
    funext m
    have : ((i : Int) + (m : Int) * 1).toNat = i + m := by omega
    rw [this]
  rw [e]
  have := pick_run xs i k
  rw [List.filterMap_map] at this
  have e2 : ((fun x => xs[x]?) ∘ fun x => i + x) = fun m => xs[i + m]? := rfl
  rw [e2] at this
  rw [this]
theorem getItem_tuple_cut {t sl : Addr} {items : Array Value} {vl vu : Value} {lo hi : Option Int} {Q : Value → Shared → Prop} (ht : IsTup s.heap t items) (hs : s.heap.IsSliceOf sl vl vu .none) (pl : IsPart vl lo) (pu : IsPart vu hi)
    (hw : ¬ (sIx items.size 0 lo = 0 ∧ sIx items.size items.size hi = items.size))
    (h : Q (.ref s.heap.objs.size) { s with heap := s.heap.push { cls := .type "tuple", data := .seq ((items.toList.drop (sIx items.size 0 lo)).take (sIx items.size items.size hi - sIx items.size 0 lo)).toArray } })
    (hsz : items.size ≤ sizeLine) : wpAny (model prog w) A (getItem (.ref t) (.ref sl)) Q E s := by
  have htake : sizeOk (.seq ((items.toList.drop (sIx items.size 0 lo)).take (sIx items.size items.size hi - sIx items.size 0 lo)).toArray) := by
    show ((items.toList.drop (sIx items.size 0 lo)).take (sIx items.size items.size hi - sIx items.size 0 lo)).toArray.size ≤ sizeLine
    rw [List.size_toArray, List.length_take, List.length_drop, Array.length_toList]
    omega
  have hj : sIx items.size items.size hi ≤ items.size := sIx_le _ _ (Nat.le_refl _) hi
  obtain ⟨os, hos, hcs, hds⟩ := id hs
  have hTs : s.TypeIs (.ref sl) "slice" := ⟨os, hos, hcs⟩
  unfold getItem
  try with_reducible refine wpAny_holding ?_
  first | refine wpAny_bind (wpAny_pure ?_) | skip
  refine wpAny_bind (wpAny_sequenceKey ht.typeIs (by decide) ?_)
  refine wpAny_bind (wpAny_callSpecial?_slot (name := Str.ofString "__getitem__") ht.typeIs PyProof.Rows.slot_tuple_getitem
    (wpAny_call_entry PyProof.Rows.slot_tuple_getitem ht.typeIs entry_tuple_getitem ?_ (args_tuple_getitem _ _)))
  show wpAny _ _ (Builtin.Tuple.tupleItemsOf (.ref t) >>= _) _ _ s
  refine wpAny_bind (tupleItemsOf_ ht ?_)
  refine wpAny_bind (wpAny_typeOf hTs ?_)
  rw [if_pos (by decide)]
  refine wpAny_bind (sliceApplied_gen hs pl pu ?_)
  have hno : ¬ ((((sIx items.size 0 lo : Nat) : Int) == 0 && (1 : Int) == 1 && (sIx items.size items.size hi - sIx items.size 0 lo) == items.size) = true) := by
    intro q
    rw [Bool.and_eq_true, Bool.and_eq_true] at q
    have q1 : ((sIx items.size 0 lo : Nat) : Int) = 0 := eq_of_beq q.1.1
    have q2 : sIx items.size items.size hi - sIx items.size 0 lo = items.size := eq_of_beq q.2
    exact hw ⟨by omega, by omega⟩
  show wpAny _ _ (if (((sIx items.size 0 lo : Nat) : Int) == 0 && (1 : Int) == 1 && (sIx items.size items.size hi - sIx items.size 0 lo) == items.size) = true then _ else _) _ _ s
  rw [if_neg hno, pick_gen]
  first
    | exact wpAny_bind (m := Builtin.Tuple.tupleExact _) (wpAny_newObj_type (wpAny_pure ⟨_, rfl, wpAny_pure h⟩) htake)
    | exact wpAny_bind (m := Builtin.Tuple.tupleExact _) (wpAny_newObj_type (wpAny_bind (wpAny_pure (wpAny_pure ⟨_, rfl, wpAny_pure h⟩))) htake)
    | exact wpAny_bind (wpAny_bind (m := Builtin.Tuple.tupleExact _) (wpAny_newObj_type (wpAny_pure (wpAny_pure ⟨_, rfl, wpAny_pure h⟩)) htake))
    | exact wpAny_bind (wpAny_bind (m := Builtin.Tuple.tupleExact _) (wpAny_newObj_type (wpAny_pure ⟨_, rfl, wpAny_pure h⟩) htake))
end
end HT
namespace L2
open PySem PySem.Spec PyProof.Rows
abbrev TO := St → Hp → (Option Int → Hp → Prop) → Prop
def PO (X : Cx) (e : Option Expr) (t : TO) : Prop :=
  ∀ (pins : List (Addr × Obj)) (s : Shared) (σ : St) (H : Hp) (Q : Option Int → Hp → Prop), Inv X pins σ H s → t σ H Q →
    wpAny (model X.prog X.w) X.A (evalPart e X.env) (fun u s' => ∃ o H', Inv X pins σ H' s' ∧ IsPart u o ∧ Q o H') X.xe s
def tNoPart : TO := fun _ H Q => Q none H
def tPart (t : TE) : TO := fun σ H Q => t σ H fun x H1 => ∃ i, x = .int i ∧ Q (some i) H1
section
variable {X : Cx} {e : Expr} {te : TE} {lo hi : Option Expr} {tl th : TO} {pos p2 : Pos}
theorem po_none : PO X none tNoPart := by
  intro pins s σ H Q I h
  rw [evalPart_none]
  exact wpAny_pure ⟨none, H, I, .none, h⟩
theorem po_some (h : PE X e te) : PO X (some e) (tPart te) := by
  intro pins s σ H Q I hw
  rw [evalPart_some]
  refine thn (h pins s σ H _ I hw) fun u s1 ⟨x, H1, I1, r1, q1⟩ => ?_
  obtain ⟨i, rfl, q⟩ := q1
  obtain ⟨t, rfl⟩ := r1
  exact ⟨some i, H1, I1, .int i t, q⟩
def SlR (X : Cx) (r : V → Option Int → Option Int → Hp → VK → Prop) : Prop :=
  ∀ (pins : List (Addr × Obj)) (s : Shared) (σ : St) (H : Hp) (x : V) (v vl vu : Value) (lo hi : Option Int) (sl : Addr) (Q : VK), Inv X pins σ H s → RelV x v → s.heap.IsSliceOf sl vl vu .none → IsPart vl lo → IsPart vu hi → r x lo hi H Q →
    ∃ T id, typeLookup (.type T) "__getitem__" = pure (some (.builtin id)) ∧ s.TypeIs v T ∧ wpAny (model X.prog X.w) X.A (getItem v (.ref sl)) (EP X pins σ Q) X.xe s
def tSl (r : V → Option Int → Option Int → Hp → VK → Prop) (te : TE) (tl th : TO) : TE := fun σ H Q => te σ H fun x H1 => tl σ H1 fun l H2 => th σ H2 fun u H3 => r x l u H3 Q
theorem pe_slice {r : V → Option Int → Option Int → Hp → VK → Prop} (hr : SlR X r) (he : PE X e te) (hl : PO X lo tl) (hu : PO X hi th) : PE X (.Subscript e (.Slice lo hi none p2) pos) (tSl r te tl th) := by
  intro pins s σ H Q I h
  refine Subscript_ (thn (he pins s σ H _ I h) fun v s1 ⟨x, H1, I1, r1, q1⟩ => ?_)
  refine wpAny_Slice (thn (hl pins s1 σ H1 _ I1 q1) fun vl s2 ⟨l, H2, I2, pl, q2⟩ => thn (hu pins s2 σ H2 _ I2 q2) fun vu s3 ⟨u, H3, I3, pu, q3⟩ => ?_)
  rw [evalPart_none]
  refine wpAny_pure ?_
  have I4 : Inv X pins σ H3 { s3 with heap := s3.heap.push { cls := .type "slice", data := .fields #[vl, vu, .none] } } := I3.kept (t' := s3.toks) fun b ob q => Heap.get?_push_of_some _ q
  obtain ⟨T, id, hT, ht, hg⟩ := hr pins { s3 with heap := s3.heap.push { cls := .type "slice", data := .fields #[vl, vu, .none] } } σ H3 x v vl vu l u s3.heap.objs.size Q I4 r1 (Heap.IsSliceOf.new ..) pl pu q3
  show wpAny (model X.prog X.w) X.A (subscriptTail e (.Slice lo hi none p2) v (.ref s3.heap.objs.size)) (EP X pins σ Q) X.xe { s3 with heap := s3.heap.push { cls := .type "slice", data := .fields #[vl, vu, .none] } }
  exact tail_any (ops := [.ref s3.heap.objs.size, v]) ht hT hg (by with_unfolding_all rfl)
def cutV (xs : List V) (lo hi : Option Int) : List V := (xs.drop (HT.sIx xs.length 0 lo)).take (HT.sIx xs.length xs.length hi - HT.sIx xs.length 0 lo)
theorem cutV_length (xs : List V) (lo hi : Option Int) : (cutV xs lo hi).length ≤ xs.length := by
  unfold cutV
  rw [List.length_take, List.length_drop]
  omega
def rSlT (K : PySem.W.Frag) : V → Option Int → Option Int → Hp → VK → Prop := fun x lo hi H Q => ∃ a xs, x = .ref a ∧ SqT K H a xs ∧
  ¬ (HT.sIx xs.length 0 lo = 0 ∧ HT.sIx xs.length xs.length hi = xs.length) ∧ ∀ p, H p = none → Q (.ref p) (upd H p (.tup (cutV xs lo hi)))
theorem sl_tup : SlR X (rSlT X.K) := by
  intro pins s σ H x v vl vu lo hi sl Q I rx hs pl pu h
  obtain ⟨a, xs, rfl, hx, hw, q⟩ := h
  cases rx
  obtain ⟨its, r, ht, hz⟩ := I.tuple hx
  have hlen : its.toArray.size = xs.length := by rw [List.size_toArray]; exact r.length.symm
  refine ⟨"tuple", _, PyProof.Rows.slot_tuple_getitem.lookup, ht.typeIs, ?_⟩
  refine HT.getItem_tuple_cut ht hs pl pu (by rw [hlen]; exact hw) ?_ (by rw [hlen]; exact hz)
  rw [hlen]
  refine ⟨.ref s.heap.objs.size, _, I.laid (t' := s.toks) (o := .tup (cutV xs lo hi)) (fun b ob q => Heap.get?_push_of_some _ q) (Nat.le_refl _) ?_, rfl, q _ (I.hok.fresh (Nat.le_refl _))⟩
  exact ⟨Nat.le_trans (cutV_length xs lo hi) hz, _, (r.drop (HT.sIx xs.length 0 lo)).take (HT.sIx xs.length xs.length hi - HT.sIx xs.length 0 lo), IsTup.new _ _⟩
def rCatT (K : PySem.W.Frag) : R2 := fun x y H Q => ∃ a b xs ys, x = .ref a ∧ y = .ref b ∧ SqT K H a xs ∧ SqT K H b ys ∧ xs ≠ [] ∧ xs.length + ys.length ≤ sizeLine ∧
  (ys = [] → Q (.ref a) H) ∧ (ys ≠ [] → ∀ p, H p = none → Q (.ref p) (upd H p (.tup (xs ++ ys))))
theorem Vals.nil_iff {xs : List V} {us : List Value} (r : Vals xs us) : us = [] ↔ xs = [] := by
  cases r with
  | nil => simp
  | cons _ _ => simp
theorem op_catT : OpR X (binaryOp .Add) (rCatT X.K) := by
  intro pins s σ H x y v u Q I rx ry h
  obtain ⟨a, b, xs, ys, rfl, rfl, ha, hb, hx, hz, q1, q2⟩ := h
  cases rx
  cases ry
  obtain ⟨its, r1, p1, _⟩ := I.tuple ha
  obtain ⟨its2, r2, p2, _⟩ := I.tuple hb
  refine HT.cat_tup p1 p2 (fun z => hx (r1.nil_iff.mp z)) (fun z => ⟨.ref a, H, I, rfl, q1 (r2.nil_iff.mp z)⟩) (fun z => ?_) (by rw [← r1.length, ← r2.length]; exact hz)
  refine ⟨.ref s.heap.objs.size, _, I.laid (t' := s.toks) (o := .tup (xs ++ ys)) (fun b ob q => Heap.get?_push_of_some _ q) (Nat.le_refl _) ?_, rfl, q2 (fun w => z (r2.nil_iff.mpr w)) _ (I.hok.fresh (Nat.le_refl _))⟩
  exact ⟨by rw [List.length_append]; exact hz, _, r1.append r2, IsTup.new _ _⟩
end
end L2
namespace L2
open PySem PySem.Spec PyProof.Rows
def ixN (n : Nat) (i : Int) : Option Nat := if 0 ≤ i then (if i < n then some i.toNat else none) else if -(n : Int) ≤ i then some (i + n).toNat else none
def atI {α : Type} (xs : List α) (i : Int) : Option α := (ixN xs.length i).bind fun j => xs[j]?
theorem ixN_seq {n : Nat} {i : Int} {j : Nat} (h : ixN n i = some j) : seqIndex? i n = some j ∧ j < n ∧ -(n : Int) ≤ i ∧ i < n := by
  unfold ixN at h
  by_cases h0 : 0 ≤ i
  · rw [if_pos h0] at h
    by_cases h1 : i < n
    · rw [if_pos h1] at h
      have e : i.toNat = j := Option.some.inj h
      exact ⟨by rw [seqIndex_of h0 h1, e], by omega, by omega, h1⟩
    · rw [if_neg h1] at h; cases h
  · rw [if_neg h0] at h
    by_cases h1 : -(n : Int) ≤ i
    · rw [if_pos h1] at h
      have e : (i + n).toNat = j := Option.some.inj h
      exact ⟨by rw [seqIndex_neg (by omega) h1, e], by omega, h1, by omega⟩
    · rw [if_neg h1] at h; cases h
theorem atI_get {α : Type} {xs : List α} {i : Int} {v : α} (h : atI xs i = some v) : ∃ j, seqIndex? i xs.length = some j ∧ xs[j]? = some v ∧ j < xs.length ∧ -(xs.length : Int) ≤ i ∧ i < xs.length := by
  unfold atI at h
  cases e : ixN xs.length i with
  | none => rw [e] at h; cases h
  | some j =>
    rw [e] at h
    obtain ⟨h1, h2, h3, h4⟩ := ixN_seq e
    exact ⟨j, h1, h, h2, h3, h4⟩
theorem atI_nat {α : Type} {xs : List α} {j : Nat} {v : α} (h : xs[j]? = some v) : atI xs (j : Int) = some v := by
  have hj : j < xs.length := (List.getElem?_eq_some_iff.mp h).1
  have e : ixN xs.length (j : Int) = some j := by
    unfold ixN
    rw [if_pos (by omega), if_pos (by omega)]; simp
  unfold atI; rw [e]; exact h
def PlainIx (b : Expr) : Prop := ∀ o i, subscripted b false o i = operate [o, i] (getItem o i)
def IxR (X : Cx) (r : R2) : Prop :=
  ∀ (value slice : Expr) (pins : List (Addr × Obj)) (s : Shared) (σ : St) (H : Hp) (x y : V) (v u : Value) (Q : VK), Inv X pins σ H s → RelV x v → RelV y u → r x y H Q →
    subscripted slice false v u = operate [v, u] (getItem v u) → wpAny (model X.prog X.w) X.A (subscriptTail value slice v u) (EP X pins σ Q) X.xe s
def MtR (X : Cx) (id : String) (r : V → List V → Hp → VK → Prop) : Prop :=
  ∀ (pins : List (Addr × Obj)) (s : Shared) (σ : St) (H : Hp) (x : V) (xs : List V) (v : Value) (us : List Value) (Q : VK), Inv X pins σ H s → RelV x v → Vals xs us → r x xs H Q →
    wpAny (model X.prog X.w) X.A (call (.builtin id) (v :: us)) (EP X pins σ Q) X.xe s
section
variable {X : Cx} {a b : Expr} {ta tb : TE} {pos : Pos}
theorem pe_ix {r : R2} (hr : IxR X r) (ha : PE X a ta) (hb : PE X b tb) (hs : PlainIx b) : PE X (.Subscript a b pos) (tOp r ta tb) := by
  intro pins s σ H Q I h
  exact Subscript_ (binT ha hb I h fun v u s2 x y H2 I2 rx ry q => hr a b pins s2 σ H2 x y v u Q I2 rx ry q (hs _ _))
def rIxL (K : PySem.W.Frag) : R2 := fun x y H Q => ∃ p xs i v, x = .ref p ∧ y = .int i ∧ SqL K H p xs ∧ atI xs i = some v ∧ Q v H
def rIxT (K : PySem.W.Frag) : R2 := fun x y H Q => ∃ p xs i v, x = .ref p ∧ y = .int i ∧ SqT K H p xs ∧ atI xs i = some v ∧ Q v H
def rIxS : R2 := fun x y H Q => ∃ z i c, x = .str z ∧ y = .int i ∧ z.length ≤ sizeLine ∧ atI z.cps.toList i = some c ∧ Q (.str ⟨#[c]⟩) H
theorem ix_list : IxR X (rIxL X.K) := by
  intro value slice pins s σ H x y v u Q I rx ry h hs
  obtain ⟨p, xs, i, z, rfl, rfl, hq, he, q⟩ := h
  cases rx
  obtain ⟨t, rfl⟩ := ry
  obtain ⟨its, r, pl, hz⟩ := I.list hq
  obtain ⟨j, h1, h2, h3, h4, h5⟩ := atI_get he
  obtain ⟨w, ew, rw'⟩ := r.get h2
  have hl := r.length
  have hn := line63
  have fin : EP X pins σ Q w s := ⟨z, H, I, rw', q⟩
  by_cases h0 : 0 ≤ i
  · have hj : i.toNat = j := by
      rw [seqIndex_of h0 h5] at h1
      exact Option.some.inj h1
    exact item_listR pl.isList h0 (by omega) (by rw [hj]; simpa using ew) fin hs
  · have hj : (i + (its.toArray.size : Int)).toNat = j := by
      rw [seqIndex_neg (by omega) h4] at h1
      rw [List.size_toArray, ← hl]
      exact Option.some.inj h1
    exact subscriptTail_builtinR (x := w) pl.isList.typeIs slot_list_getitem.lookup
      (wpAny_getItem_list_neg (Q := fun r s' => r = w ∧ EP X pins σ Q r s') pl.isList (by omega) (by rw [List.size_toArray] <;> omega) (by omega) (by rw [hj]; simpa using ew) ⟨rfl, fin⟩) hs
theorem ix_tup : IxR X (rIxT X.K) := by
  intro value slice pins s σ H x y v u Q I rx ry h hs
  obtain ⟨p, xs, i, z, rfl, rfl, hq, he, q⟩ := h
  cases rx
  obtain ⟨t, rfl⟩ := ry
  obtain ⟨its, r, pl, hz⟩ := I.tuple hq
  obtain ⟨j, h1, h2, h3, h4, h5⟩ := atI_get he
  obtain ⟨w, ew, rw'⟩ := r.get h2
  have hl := r.length
  have hn := line63
  have fin : EP X pins σ Q w s := ⟨z, H, I, rw', q⟩
  exact subscriptTail_builtinR (x := w) pl.typeIs slot_tuple_getitem.lookup
    (getItem_tuple (j := j) (Q := fun r s' => r = w ∧ EP X pins σ Q r s') pl (by omega) (by omega) (by rw [List.size_toArray, ← hl]; exact h1) (by simpa using ew) ⟨rfl, fin⟩) hs
theorem ix_str : IxR X rIxS := by
  intro value slice pins s σ H x y v u Q I rx ry h hs
  obtain ⟨z, i, c, rfl, rfl, hz, he, q⟩ := h
  obtain ⟨t, rfl⟩ := rx
  obtain ⟨t', rfl⟩ := ry
  obtain ⟨j, h1, h2, h3, h4, h5⟩ := atI_get he
  have hl : z.cps.toList.length = z.length := by simp [Str.length]
  rw [hl] at h1 h4 h5
  have hn := line63
  exact tail_any (typeIs_str s z t) slot_str_getitem.lookup (getItem_str (c := c) (by
    have e1 : decide (i < -(2 ^ 63 : Int)) = false := decide_eq_false (by omega)
    have e2 : decide (i ≥ 2 ^ 63) = false := decide_eq_false (by omega)
    rw [e1, e2, Bool.or_false]) (by rw [h1]; simpa using h2) ⟨.str ⟨#[c]⟩, H, I.tok _, ⟨_, rfl⟩, q⟩) hs
theorem slice_bounds (lo hi : Option Int) (n : Nat) : (sliceBounds lo hi none n).1 = ((HT.sIx n 0 lo : Nat) : Int) ∧ (sliceBounds lo hi none n).2.1 = ((HT.sIx n n hi : Nat) : Int) ∧ (sliceBounds lo hi none n).2.2 = 1 := by
  refine ⟨?_, ?_, rfl⟩
  · cases lo with
    | none => simp [sliceBounds, HT.sIx]
    | some i =>
      simp only [sliceBounds, HT.sIx, Option.getD_none, show (1 : Int) > 0 by decide, if_true]
      by_cases h : i < 0
      · simp only [h, if_true] <;> omega
      · simp only [h, if_false] <;> omega
  · cases hi with
    | none => simp [sliceBounds, HT.sIx]
    | some i =>
      simp only [sliceBounds, HT.sIx, Option.getD_none, show (1 : Int) > 0 by decide, if_true]
      by_cases h : i < 0
      · simp only [h, if_true] <;> omega
      · simp only [h, if_false] <;> omega
theorem slicePick_cut (its : List Value) (lo hi : Option Int) : slicePick its.toArray lo hi none = ((its.drop (HT.sIx its.length 0 lo)).take (HT.sIx its.length its.length hi - HT.sIx its.length 0 lo)).toArray := by
  obtain ⟨h1, h2, h3⟩ := slice_bounds lo hi its.toArray.size
  unfold slicePick
  rw [h1, h2, h3]
  simp only [sliceRange_one, pick_run, List.size_toArray] <;> rfl
def rSlL (K : PySem.W.Frag) : V → Option Int → Option Int → Hp → VK → Prop := fun x lo hi H Q => ∃ a xs, x = .ref a ∧ SqL K H a xs ∧ ∀ p, H p = none → Q (.ref p) (upd H p (.lst (cutV xs lo hi)))
theorem sl_list : SlR X (rSlL X.K) := by
  intro pins s σ H x v vl vu lo hi sl Q I rx hs pl pu h
  obtain ⟨a, xs, rfl, hx, q⟩ := h
  cases rx
  obtain ⟨its, r, ht, hz⟩ := I.list hx
  have hlen := r.length
  refine ⟨"list", _, slot_list_getitem.lookup, ht.isList.typeIs, ?_⟩
  refine wpAny_getItem_list_slice ht.isList hs pl pu .none (by simp) ?_ (by rw [List.size_toArray] <;> omega)
  rw [slicePick_cut, ← hlen]
  refine ⟨.ref s.heap.objs.size, _, I.laid (t' := s.toks) (o := .lst (cutV xs lo hi)) (fun b ob q => Heap.get?_push_of_some _ q) (Nat.le_refl _) ?_, rfl, q _ (I.hok.fresh (Nat.le_refl _))⟩
  exact ⟨Nat.le_trans (cutV_length xs lo hi) hz, _, 0, (r.drop (HT.sIx xs.length 0 lo)).take (HT.sIx xs.length xs.length hi - HT.sIx xs.length 0 lo), Heap.get?_push_size _ rfl⟩
def flatV : V → Bool
  | .non => true
  | .bl _ => true
  | .int _ => true
  | .str _ => true
  | _ => false
def eqV : V → V → Bool
  | .non, .non => true
  | .bl a, .bl b => a == b
  | .bl a, .int b => (if a then 1 else 0) == b
  | .int a, .bl b => a == (if b then 1 else 0)
  | .int a, .int b => a == b
  | .str a, .str b => a == b
  | _, _ => false
theorem eqAt_V {A : Around} {s : Shared} {y x : V} {u v : Value} (ry : RelV y u) (rx : RelV x v) (fy : flatV y = true) (fx : flatV x = true) : SeqAt.EqAt A s u v (eqV y x) := by
  cases y with
  | non =>
    cases ry
    cases x with
    | non => cases rx; exact SeqAt.EqAt.same _
    | bl b => cases rx; exact SeqAt.EqAt.none_bool b
    | int b => obtain ⟨t, rfl⟩ := rx; exact SeqAt.EqAt.none_int b t
    | str b => obtain ⟨t, rfl⟩ := rx; exact SeqAt.EqAt.none_str b t
    | _ => exact absurd (show false = true from fx) Bool.false_ne_true
  | bl a =>
    cases ry
    cases x with
    | non => cases rx; exact SeqAt.EqAt.bool_none a
    | bl b => cases rx; exact SeqAt.EqAt.bool_bool a b
    | int b => obtain ⟨t, rfl⟩ := rx; exact SeqAt.EqAt.bool_int a b t
    | str b => obtain ⟨t, rfl⟩ := rx; exact SeqAt.EqAt.bool_str a b t
    | _ => exact absurd (show false = true from fx) Bool.false_ne_true
  | int a =>
    obtain ⟨t', rfl⟩ := ry
    cases x with
    | non => cases rx; exact SeqAt.EqAt.int_none a t'
    | bl b => cases rx; exact SeqAt.EqAt.int_bool a t' b
    | int b => obtain ⟨t, rfl⟩ := rx; exact SeqAt.EqAt.int_int a t' b t
    | str b => obtain ⟨t, rfl⟩ := rx; exact SeqAt.EqAt.int_str a t' b t
    | _ => exact absurd (show false = true from fx) Bool.false_ne_true
  | str a =>
    obtain ⟨t', rfl⟩ := ry
    cases x with
    | non => cases rx; exact SeqAt.EqAt.str_none a t'
    | bl b => cases rx; exact SeqAt.EqAt.str_bool a t' b
    | int b => obtain ⟨t, rfl⟩ := rx; exact SeqAt.EqAt.str_int a t' b t
    | str b => obtain ⟨t, rfl⟩ := rx; exact SeqAt.EqAt.str_str a t' b t
    | _ => exact absurd (show false = true from fx) Bool.false_ne_true
  | _ => exact absurd (show false = true from fy) Bool.false_ne_true
def eqU (x : V) (u : Value) : Bool := match u with
  | .none => eqV .non x
  | .bool b => eqV (.bl b) x
  | .int i _ => eqV (.int i) x
  | .str z _ => eqV (.str z) x
  | _ => false
theorem eqU_of {x y : V} {u : Value} (r : RelV y u) (f : flatV y = true) : eqU x u = eqV y x := by
  cases y with
  | non => cases r; rfl
  | bl b => cases r; rfl
  | int i => obtain ⟨t, rfl⟩ := r; rfl
  | str z => obtain ⟨t, rfl⟩ := r; rfl
  | _ => exact absurd (show false = true from f) Bool.false_ne_true
theorem any_eqU {x : V} : ∀ {xs : List V} {us : List Value}, Vals xs us → xs.all flatV = true → us.any (eqU x) = xs.any fun y => eqV y x
  | _, _, .nil, _ => rfl
  | y :: xs, u :: us, .cons r t, f => by
    rw [List.all_cons, Bool.and_eq_true] at f
    rw [List.any_cons, List.any_cons, eqU_of r f.1, any_eqU t f.2]
theorem mem_eqAt {A : Around} {s : Shared} {x : V} {v : Value} (rx : RelV x v) (fx : flatV x = true) : ∀ {xs : List V} {us : List Value}, Vals xs us → xs.all flatV = true → ∀ u ∈ us, SeqAt.EqAt A s u v (eqU x u)
  | _, _, .nil, _ => fun u hu => by cases hu
  | y :: xs, u :: us, .cons r t, f => fun u' hu => by
    rw [List.all_cons, Bool.and_eq_true] at f
    rcases List.mem_cons.mp hu with rfl | hu
    · rw [eqU_of r f.1]; exact eqAt_V r rx f.1 fx
    · exact mem_eqAt rx fx t f.2 u' hu
def inV (x : V) (xs : List V) : Bool := xs.any fun y => eqV y x
def rIn (K : PySem.W.Frag) (neg : Bool) : R2 := fun x y H Q => ∃ p xs, y = .ref p ∧ (SqL K H p xs ∨ SqT K H p xs) ∧ flatV x = true ∧ xs.all flatV = true ∧ Q (.bl (if neg then !inV x xs else inV x xs)) H
theorem op_notIn_seq : OpR X (compareOp .NotIn) (rIn X.K true) := by
  intro pins s σ H x y v u Q I rx ry h
  obtain ⟨p, xs, rfl, hq, fx, fs, q⟩ := h
  cases ry
  rcases hq with hq | hq
  · obtain ⟨its, r, pl, hz⟩ := I.list hq
    refine SeqAt.notIn_listAt (eqU x) pl.isList (fun w hw => mem_eqAt rx fx r fs w (by simpa using hw)) ⟨.bl _, H, I, rfl, ?_⟩
    rw [show its.toArray.any (eqU x) = its.any (eqU x) by simp, any_eqU r fs]
    exact q
  · obtain ⟨its, r, pl, hz⟩ := I.tuple hq
    refine SeqAt.notIn_tupleAt (eqU x) pl (fun w hw => mem_eqAt rx fx r fs w (by simpa using hw)) ⟨.bl _, H, I, rfl, ?_⟩
    rw [show its.toArray.any (eqU x) = its.any (eqU x) by simp, any_eqU r fs]
    exact q
theorem call_tuple_of : CallR X (.type "tuple") (fun xs H Q => ∃ p ys, xs = [.ref p] ∧ ((SqL X.K H p ys ∧ ∀ l, H l = none → Q (.ref l) (upd H l (.tup ys))) ∨ (SqT X.K H p ys ∧ Q (.ref p) H))) := by
  intro pins s σ H xs us Q I r h
  obtain ⟨p, ys, rfl, h⟩ := h
  obtain ⟨u, rfl, rx⟩ := vals1 r
  cases rx
  rcases h with ⟨hq, q⟩ | ⟨hq, q⟩
  · obtain ⟨its, r', pl, hz⟩ := I.list hq
    have hlen := r'.length
    refine call_tuple_list pl.isList (fun h' kp => ?_) (by simp only [List.size_toArray] <;> omega)
    have I1 : Inv X pins σ H { s with heap := h' } := I.kept (t' := s.toks) kp
    have I2 : Inv X pins σ (upd H h'.objs.size (.tup ys)) { s with heap := h'.push { cls := .type "tuple", data := .seq its.toArray } } :=
      I1.laid (t' := s.toks) (fun b o e => Heap.get?_push_of_some _ e) (Nat.le_refl _) (show ObjOk X.prog X.w _ _ _ (.tup ys) from ⟨hz, its, r', IsTup.new _ _⟩)
    exact ⟨.ref h'.objs.size, _, I2, rfl, q _ (I1.hok.fresh (Nat.le_refl _))⟩
  · obtain ⟨its, r', pl, hz⟩ := I.tuple hq
    exact call_tuple_same pl ⟨.ref p, H, I, rfl, q⟩
def tyV (K : PySem.W.Frag) (T : String) (x : V) (H : Hp) : Prop := match x with
  | .str _ => T = "str"
  | .int _ => T = "int"
  | .ref p => (T = "list" ∧ ∃ xs, SqL K H p xs) ∨ (T = "tuple" ∧ ∃ o, K.lookup p = some o ∧ o.cls = .type "tuple" ∧ o.dict = none) ∨
      (T = "dict" ∧ ((∃ kvs, H p = some (.dK kvs)) ∨ ∃ kvs, H p = some (.dT kvs))) ∨ (T = "set" ∧ ∃ S n, H p = some (.set S n))
  | _ => False
theorem tyV_is {pins : List (Addr × Obj)} {σ : St} {H : Hp} {s : Shared} {T : String} {x : V} {v : Value} (I : Inv X pins σ H s) (r : RelV x v) (ty : tyV X.K T x H) :
    s.TypeIs v T ∧ ∀ a, v = .ref a → ∃ ob, s.heap.get? a = some ob ∧ ob.dict = none := by
  cases x with
  | str z =>
    obtain ⟨t, rfl⟩ := r
    cases (show T = "str" from ty)
    exact ⟨typeIs_str s z t, fun _ e => nomatch e⟩
  | int i =>
    obtain ⟨t, rfl⟩ := r
    cases (show T = "int" from ty)
    exact ⟨typeIs_int s i t, fun _ e => nomatch e⟩
  | ref p =>
    cases r
    rcases ty with ⟨rfl, xs, hq⟩ | ⟨rfl, o, hk, hc, hd⟩ | ⟨rfl, hk⟩ | ⟨rfl, S, n, hk⟩
    · obtain ⟨its, _, pl, _⟩ := I.list hq
      refine ⟨pl.isList.typeIs, fun a e => ?_⟩
      cases e
      obtain ⟨o, n, e, c, hd, _⟩ := pl
      exact ⟨o, e, hd⟩
    · refine ⟨⟨o, I.kIn p o hk, hc⟩, fun a e => ?_⟩
      cases e
      exact ⟨o, I.kIn _ o hk, hd⟩
    · have z : ∃ o, s.heap.get? p = some o ∧ o.ExactDict := by
        rcases hk with ⟨kvs, hk⟩ | ⟨kvs, hk⟩
        · obtain ⟨_, _, _, _, o, _, _, e, ex, _⟩ := I.hok p _ hk
          exact ⟨o, e, ex⟩
        · obtain ⟨_, _, _, _, o, _, _, e, ex, _⟩ := I.hok p _ hk
          exact ⟨o, e, ex⟩
      obtain ⟨o, e, ex⟩ := z
      refine ⟨⟨o, e, ex.1⟩, fun a e2 => ?_⟩
      cases e2
      exact ⟨o, e, ex.2.1⟩
    · obtain ⟨o, _, _, _, e, ex, _⟩ := I.hok p _ hk
      refine ⟨⟨o, e, ex.1⟩, fun a e2 => ?_⟩
      cases e2
      exact ⟨o, e, ex.2.1⟩
  | _ => exact False.elim ty
def tBM0 (K : PySem.W.Frag) (T : String) (r : V → List V → Hp → VK → Prop) (to : TE) : TE := fun σ H Q => to σ H fun x H1 => tyV K T x H1 ∧ r x [] H1 Q
def tBM (K : PySem.W.Frag) (T : String) (r : V → List V → Hp → VK → Prop) (to : TE) (t : TA) : TE := fun σ H Q => to σ H fun x H1 => tyV K T x H1 ∧ t σ H1 fun xs H2 => r x xs H2 Q
variable {o e : Expr} {es : List Expr} {to : TE} {t : TA} {name : Str} {apos cpos : Pos} {T id : String} {r : V → List V → Hp → VK → Prop}
theorem pe_bm0 (pa : PlainAttrs T) (slot : Slot T name id) (hty : typeOf (.builtin id) = pure (.type "method_descriptor")) (hm : MtR X id r) (ho : PE X o to)
    (hbase : attributeBase o name X.env (eval o X.env) = eval o X.env := by rfl) (hline : (apos.endLine == cpos.line) = true := by rfl) : PE X (.Call (.Attribute o name apos) [] [] cpos) (tBM0 X.K T r to) := by
  intro pins s σ H Q I h
  refine wpAny_Call_method0_late hbase hline (thn (ho pins s σ H _ I h) fun v s1 ⟨x, H1, I1, r1, ty, q1⟩ => ?_)
  obtain ⟨h1, h2⟩ := tyV_is I1 r1 ty
  exact ⟨T, id, pa, slot, hty, h1, h2, Calls.callWith_builtin rfl (PySem.evalArgs_none (hm pins s1 σ H1 x [] v [] Q I1 r1 .nil q1))⟩
theorem pe_bm (pa : PlainAttrs T) (slot : Slot T name id) (hty : typeOf (.builtin id) = pure (.type "method_descriptor")) (hm : MtR X id r) (ho : PE X o to) (ha : PA X (e :: es) t)
    (hbase : attributeBase o name X.env (eval o X.env) = eval o X.env := by rfl)
    (hfew : ((backTo cpos (starEach (e :: es) X.env)).all (fun x => !x.1) && (backToKw cpos (keywordEach [] X.env)).all (fun x => x.1.isSome)
      && decide ((e :: es).length + ([] : List Keyword).length + (if ([] : List Keyword).isEmpty then 0 else 1) < 30)) = true := by rfl)
    (hline : (apos.endLine == cpos.line) = true := by rfl) (hs : starEach (e :: es) X.env = (false, eval e X.env) :: starEach es X.env := by rfl) (hplain : (backTo cpos (starEach es X.env)).any (·.1) = false := by rfl) :
    PE X (.Call (.Attribute o name apos) (e :: es) [] cpos) (tBM X.K T r to t) := by
  intro pins s σ H Q I h
  refine wpAny_Call_method_late hbase hfew hline rfl (thn (ho pins s σ H _ I h) fun v s1 ⟨x, H1, I1, r1, ty, q1⟩ => ?_)
  obtain ⟨h1, h2⟩ := tyV_is I1 r1 ty
  refine ⟨T, id, pa, slot, hty, h1, h2, ?_⟩
  have hA := ha cpos pins s1 σ H1 _ I1 q1
  rw [hs] at hA ⊢
  refine Calls.callWith_builtin (by show (false || (backTo cpos (starEach es X.env)).any (·.1)) = false; rw [hplain] <;> rfl) (Calls.evalArgs_plain ?_)
  exact thn hA fun us s2 ⟨vs, H2, I2, r2, q2⟩ => hm pins s2 σ H2 x vs v us Q I2 r1 r2 q2
/- xs.append(e), list.index on a module's tuple .. are MtR facts of 06m -/
end
end L2
namespace L2
open PySem PySem.Spec PyProof.Rows
def MtM (X : Cx) (id : String) (r : V → List V → Hp → VK → Prop) : Prop :=
  ∀ (pins : List (Addr × Obj)) (s : Shared) (σ : St) (H : Hp) (x : V) (xs : List V) (v : Value) (us : List Value) (Q : VK), Inv X pins σ H s → RelV x v → Vals xs us → r x xs H Q →
    wpAny (model X.prog X.w) X.A (call (.builtin id) (v :: us)) (EP X pins σ Q) X.xe s
theorem Vals.one : ∀ {x : V} {us : List Value}, Vals [x] us → ∃ u, us = [u] ∧ RelV x u
  | _, _, .cons r .nil => ⟨_, rfl, r⟩
theorem Vals.zero : ∀ {us : List Value}, Vals [] us → us = []
  | _, .nil => rfl
section
variable {X : Cx} {pins : List (Addr × Obj)} {σ : St} {H : Hp} {s : Shared} {l b : Addr} {xs ys zs : List V}
theorem Inv.lset {its its' : List Value} {n : Nat} {f : Array Value → Array Value} {t' : Nat} (I : Inv X pins σ H s) (hH : H l = some (.lst xs))
    (e : s.heap.get? l = some { cls := .type "list", data := .seq its.toArray n }) (hf : f its.toArray = its'.toArray) (hv : Vals ys its') (hz : ys.length ≤ sizeLine) :
    Inv X pins σ (upd H l (.lst ys)) { s with heap := s.heap.update l (Obj.mapSeq f), toks := t' } := by
  have q := PySem.IsL.update e f
  rw [hf] at q
  refine I.write (x := l) (e := l) (by rw [hH]; exact trivial) (.inl rfl) (fun b' u hb hu => (Heap.get?_update_other s.heap (Obj.mapSeq f) (Ne.symm hb)).trans hu) ⟨_, q⟩ ?_
  exact ⟨hz, its', _, hv, q⟩
theorem Inv.lnew {its : List Value} {t' : Nat} (I : Inv X pins σ H s) (hv : Vals ys its) (hz : ys.length ≤ sizeLine) :
    Inv X pins σ (upd H s.heap.objs.size (.lst ys)) { s with heap := s.heap.push { cls := .type "list", data := .seq its.toArray }, toks := t' } :=
  I.laid (fun _ _ q => Heap.get?_push_of_some _ q) (Nat.le_refl _) ⟨hz, its, 0, hv, Heap.get?_push_size _ rfl⟩
theorem Inv.fresh (I : Inv X pins σ H s) : H s.heap.objs.size = none := I.hok.fresh (Nat.le_refl _)
theorem Inv.lstM (I : Inv X pins σ H s) (hH : H l = some (.lst xs)) : xs.length ≤ sizeLine ∧ ∃ (its : List Value) (n : Nat), Vals xs its ∧ xs.length = its.length ∧ s.heap.get? l = some { cls := .type "list", data := .seq its.toArray n } := by
  obtain ⟨z, its, n, r, e⟩ := I.hok l _ hH
  exact ⟨z, its, n, r, r.length, e⟩
theorem notLongL {n : Nat} (h : n ≤ sizeLine) : Builtin.List.listTooLong n = false := by
  unfold Builtin.List.listTooLong
  exact decide_eq_false (by omega)
end
section
variable {X : Cx}
def rAppend : V → List V → Hp → VK → Prop := fun x vs H Q => ∃ l xs y, x = .ref l ∧ vs = [y] ∧ H l = some (.lst xs) ∧ xs.length < sizeLine ∧ Q .non (upd H l (.lst (xs ++ [y])))
theorem mt_append : MtM X "list.append" rAppend := by
  intro pins s σ H x vs v us Q I rx rv h
  obtain ⟨l, xs, y, rfl, rfl, hH, hz, q⟩ := h
  cases rx
  obtain ⟨u, rfl, ru⟩ := rv.one
  obtain ⟨z, its, n, r, hl, e⟩ := I.lstM hH
  refine call_meets F.slot_list_append ⟨_, e, rfl⟩ F.entry_list_append (F.args_list_append_2 _ _) (PySem.list_append l its.toArray n u (by rw [List.size_toArray]; omega)) ⟨e, ?_⟩
  refine ⟨.non, _, I.lset (its' := its ++ [u]) hH e (by simp) (r.append (.cons ru .nil)) ?_, rfl, q⟩
  rw [List.length_append, List.length_singleton]
  omega
def rExtend : V → List V → Hp → VK → Prop := fun x vs H Q => ∃ l b xs zs, x = .ref l ∧ vs = [.ref b] ∧ H l = some (.lst xs) ∧ H b = some (.lst zs) ∧ xs.length + zs.length ≤ sizeLine ∧ Q .non (upd H l (.lst (xs ++ zs)))
theorem mt_extend : MtM X "list.extend" rExtend := by
  intro pins s σ H x vs v us Q I rx rv h
  obtain ⟨l, b, xs, zs, rfl, rfl, hH, hB, hz, q⟩ := h
  cases rx
  obtain ⟨u, rfl, ru⟩ := rv.one
  cases ru
  obtain ⟨z, its, n, r, hl, e⟩ := I.lstM hH
  obtain ⟨z2, its2, n2, r2, hl2, e2⟩ := I.lstM hB
  have hsz : its.toArray.size + its2.toArray.size ≤ sizeLine := by rw [List.size_toArray, List.size_toArray]; omega
  have hlong : ¬ (!its.toArray.isEmpty && Builtin.List.listTooLong (its.toArray.size + its2.toArray.size)) = true := by
    rw [notLongL hsz, Bool.and_false]
    exact Bool.false_ne_true
  refine call_meets F.slot_list_extend ⟨_, e, rfl⟩ F.entry_list_extend (F.args_list_extend_2 _ _)
    (AutoSeq1.list_extend_list_list_0 l its.toArray n b its2.toArray n2 hlong (by rw [List.size_toArray]; omega) (by omega)) ⟨e, e2, ?_⟩
  refine ⟨.non, _, I.lset (its' := its ++ its2) hH e (by simp) (r.append r2) ?_, rfl, q⟩
  rw [List.length_append]
  omega
def rCat : R2 := fun x y H Q => ∃ l b xs zs, x = .ref l ∧ y = .ref b ∧ H l = some (.lst xs) ∧ H b = some (.lst zs) ∧ xs.length + zs.length ≤ sizeLine ∧ ∀ p, H p = none → Q (.ref p) (upd H p (.lst (xs ++ zs)))
theorem op_cat : OpR X (binaryOp .Add) rCat := by
  intro pins s σ H x y v u Q I rx ry h
  obtain ⟨l, b, xs, zs, rfl, rfl, hH, hB, hz, q⟩ := h
  cases rx
  cases ry
  obtain ⟨z, its, n, r, hl, e⟩ := I.lstM hH
  obtain ⟨z2, its2, n2, r2, hl2, e2⟩ := I.lstM hB
  refine PySem.P.add_list e e2 ?_ (by rw [List.size_toArray, List.size_toArray]; omega)
  have ea : its.toArray ++ its2.toArray = (its ++ its2).toArray := by simp
  rw [ea]
  exact ⟨.ref _, _, I.lnew (t' := s.toks) (r.append r2) (by rw [List.length_append]; omega), rfl, q _ I.fresh⟩
end
section
variable {prog : Program} {w : World} {A : Around} {E : Value → Shared → Prop} {s : Shared}
end
section
variable {X : Cx}
end
end L2
namespace L2
open PySem PySem.Spec PyProof.Rows
section
variable {κ : Type} [DecidableEq κ]
end
section
variable {P : Program} {w : World} {H : Hp} {h : Heap} {a : Addr}
end
section
variable {X : Cx} {pins : List (Addr × Obj)} {σ : St} {H : Hp} {s : Shared} {a : Addr} {y v : V} {u r : Value} {o : Option V} {A : Around} {E : Value → Shared → Prop}
end
section
variable {X : Cx} {pins : List (Addr × Obj)} {σ : St} {H : Hp} {s : Shared} {a : Addr} {kvs : List (Key × V)} {k : Key} {u : Value} {A : Around} {E : Value → Shared → Prop}
end
section
variable {X : Cx} {o i e value : Expr} {pos pos' tpos : Pos} {td ty tv : TE}
end
section
variable {X : Cx} {pos : Pos}
end
section
variable {X : Cx} {pins : List (Addr × Obj)} {σ : St} {H : Hp} {s : Shared} {a : Addr} {y d : V} {u r : Value} {o : Option V} {A : Around} {E : Value → Shared → Prop}
end
section
variable {X : Cx} {o e f : Expr} {apos cpos : Pos} {td ty tx : TE}
end
section
variable {X : Cx} {pins : List (Addr × Obj)} {σ : St} {H : Hp} {s : Shared} {a : Addr} {kvs : List (Key × V)} {A : Around} {E : Value → Shared → Prop}
end
section
variable {X : Cx} {pins : List (Addr × Obj)} {σ : St} {H : Hp} {s : Shared} {a : Addr} {y : V} {u : Value} {A : Around} {E : Value → Shared → Prop}
end
end L2
namespace Att
open PySem PySem.W PySem.Calls PyProof.Rows
theorem ints_of_wellAll {P : Params} {h : Heap} : ∀ (ns : List Int) (vs : List Value), WellAll P h vs (ns.map WData.int) → IntsAre vs ns := by
  intro ns
  induction ns with
  | nil =>
    intro vs w
    rw [List.map_nil] at w
    cases w
    exact .nil
  | cons n ns ih =>
    intro vs w
    rw [List.map_cons] at w
    cases w with
    | cons a b =>
      cases a
      exact .cons _ _ (ih _ b)
theorem script_of {l : OpenLaw} {n : Nat} (hn : l.most = some n) {P : Params} {h : Heap} {args : List WData} {vals : List Value}
    (hpre : l.row.toRowW.claim.pre args = true) (hwl : WellAll P h vals args) :
    ∃ a vs ns, vals = [Value.ref a] ∧ args = [WData.list (ns.map WData.int)] ∧ h.get? a = some { cls := .type "list", data := .seq vs.toArray } ∧ IntsAre vs ns ∧ ns.length ≤ n := by
  have hsh : WShape.hasAll [] args [.list .int] = true := (pre_splitW hpre).1
  have hc : l.pre.holds [] { args := args } = true := (pre_splitW hpre).2
  obtain ⟨d, r, rfl, h1, h2⟩ := hasAllW_cons hsh
  obtain rfl := hasAllW_nil h2
  obtain ⟨xs, rfl, h3⟩ := hasW_list h1
  obtain ⟨ns, rfl⟩ := items_int h3
  have hlen : ns.length ≤ n := by
    unfold OpenLaw.pre at hc
    have h4 : (WTm.not (.lt (.lit (.int (n : Int))) (.len (.arg 0)))).holds [] { args := [.list (ns.map .int)] } = true := by
      have h4 := (holds_andW hc).1
      rw [hn] at h4
      exact h4
    have h5 := condW_of h4 (w_not (w_lt w_lit (w_len_list (w_arg rfl))))
    rw [List.length_map] at h5
    refine Nat.le_of_not_lt fun q => ?_
    have q' : (n : Int) < ((ns.length : Nat) : Int) := by omega
    first
      | (rw [decide_eq_true q'] at h5; exact absurd h5 (by decide))
      | (simp at h5; omega)
  cases hwl with
  | cons w1 w2 =>
    cases w2
    cases w1 with
    | list ho hall => exact ⟨_, _, ns, rfl, rfl, ho, ints_of_wellAll ns _ hall, hlen⟩
theorem post_true (l : OpenLaw) (args : List WData) : l.row.toRowW.claim.post args (.bool true) args = true :=
  postW_of (r := l.row.toRowW) (X := (true == true))
    (show WShape.has [] (.bool true) .bool = true by first | rfl | decide | simp [WShape.has, WShape.arms, WShape.armsAll])
    (show (WTm.eq .res (.lit (.bool true))).value [] { args := args, res := some (.bool true), after := args } = some (.bool (true == true)) from w_eq_bool (w_res rfl) w_lit) rfl
theorem attach_call {l : OpenLaw} {n : Nat} {q : Program} {loose : List Str} {XP : (Str → Option Value) → Heap → Prop} {YP : World → Heap → Prop} {d : DefRec}
    (hn : l.most = some n) (hdf : d.params.defaults = [])
    (call : ∀ (w : World) (s₀ s₁ : Shared) (mg mb : Str → Option Value) (fa : Addr) (o : Obj) (pm cd doc : Value) (a : Addr) (vs : List Value) (ns : List Int),
      Ground q loose [] XP w s₀ mg mb s₁.heap → YP w s₁.heap →
      s₁.heap.get? fa = some o → o.data = .func (docDef d.name d.params d.body d.scope pm cd doc) → s₁.heap.CodeRec cd d.name → mg d.name = some (.ref fa) →
      s₁.heap.get? a = some { cls := .type "list", data := .seq vs.toArray } → IntsAre vs ns → ns.length ≤ n → s₁.gens = #[] →
      codeAny (model l.prog w) callerA (.call (.ref fa) ⟨[.ref a], []⟩) (fun r s' => r = .ok (.ret (.bool true)) ∧ OldK s₁.heap s'.heap ∧ s'.os = s₁.os ∧ AllBare s'.gens) s₁) :
    WalkO q loose XP YP l.row.toRowW d [] (fun f vs => PySem.call f vs) := by
  intro w s₀ s₁ mg mb G Y fa o pm cd doc dV kV ho hd hcd hD hmg hg args vals as hpre hlay hrd hwl hlo
  obtain rfl : dV = .none := Dflts.none hD hdf
  obtain rfl : kV = .none := Dflts.noKw hD
  obtain ⟨a, vs, ns, rfl, rfl, hobj, hints, hlen⟩ := script_of hn hpre hwl
  refine enter_call (codeAny_mono (call w s₀ s₁ mg mb fa o pm cd doc a vs ns G Y ho (fd_plain hd) hcd hmg hobj hints hlen hg) fun r s' hq => ?_)
  obtain ⟨rfl, h2, h3, h4⟩ := hq
  exact ⟨.inl ⟨.bool true, .bool true, [], rfl, fun _ => rfl, .bool true, post_true l _, fun _ => ⟨List.Pairwise.nil, fun _ hm => (nomatch hm)⟩⟩, h2, h3, h4⟩
section
variable {prog : Program} {w : World} {A : Around} {E : Value → Shared → Prop} {s : Shared} {K : Frag}
end
end Att
namespace L2
open PySem PySem.Spec PyProof.Rows
theorem vals_ints : ∀ {vs : List Value} {ns : List Int}, IntsAre vs ns → Vals (ns.map V.int) vs
  | _, _, .nil => .nil
  | _, _, .cons n t h => .cons ⟨t, rfl⟩ (vals_ints h)
def Only (H : Hp) : Prop := ∀ b, H b = none ∨ ∃ o xs, H b = some (.frz o (.lst xs))
theorem law_call {P : Program} {w : World} {K : PySem.W.Frag} {mg mb : Str → Option Value} {CX : CXT} {k : Nat} {fa a : Addr} {fd : FuncData} {x : Str} {sp : Sp} {s₁ : Shared} {vs : List Value} {ns : List Int}
    (KX : K.In s₁.heap) (hns : s₁.heap.Ns mainGlobals mg) (hb : s₁.heap.Ns builtinsNs mb) (hbb : ∀ x : Str, x ≠ "__name__" → mb x = bootBuiltins x) (hlim : s₁.heap.NoLimit) (hg : s₁.gens = #[])
    (ha : s₁.heap.get? a = some { cls := .type "list", data := .seq vs.toArray }) (hi : IntsAre vs ns) (hl : ns.length ≤ sizeLine) (hr : Room k callerA)
    (F : ∀ base : Heap, K.In base → base.Ns mainGlobals mg → FnOk P w K mg base CX k fa fd [x] sp) (hbind : ∀ (s : Shared) (u : Value), BindsTo s fd ⟨[u], []⟩ [(x, u)])
    (hsp : ∀ H : Hp, Only H → SqL K H a (ns.map V.int) → sp [.ref a] H (fun v _ => v = .bl true) fun _ _ _ => False)
    (hCX : ∀ H e s', CX [] H s₁ (fun _ _ _ => False) e s' → False) :
    codeAny (model P w) callerA (.call (.ref fa) ⟨[.ref a], []⟩) (fun r s' => r = .ok (.ret (.bool true)) ∧ OldK s₁.heap s'.heap ∧ s'.os = s₁.os ∧ AllBare s'.gens) s₁ := by
  have rv := vals_ints hi
  have lenV := hi.length
  have core : ∀ H : Hp, Only H → SqL K H a (ns.map V.int) → HOk P w H s₁.heap → (∀ b, H b ≠ none → b = a) → (H a ≠ none → K.lookup a = none) →
      codeAny (model P w) callerA (.call (.ref fa) ⟨[.ref a], []⟩) (fun r s' => r = .ok (.ret (.bool true)) ∧ OldK s₁.heap s'.heap ∧ s'.os = s₁.os ∧ AllBare s'.gens) s₁ := by
    intro H hO hS hok hA hK
    have base_of : ∀ {b : Addr} {o : Obj}, s₁.heap.get? b = some o → H b = none → (hidT s₁.heap H).get? b = some o := fun e n => hidT_get e n
    have noA : ∀ {b : Addr} {o : Obj} {es : Array DictEntry} {ep : Nat}, s₁.heap.get? b = some o → o.data = .dict es ep → H b = none := fun {b o es ep} e d => by
      cases q : H b with
      | none => rfl
      | some u =>
        have e' : b = a := hA b (by rw [q]; simp)
        subst e'
        rw [ha] at e; cases e
        have d' : Data.seq vs.toArray _ = Data.dict es ep := d
        cases d'
    have nsK : ∀ {b : Addr} {m : Str → Option Value}, s₁.heap.Ns b m → (hidT s₁.heap H).Ns b m := fun {b m} ⟨o, es, ep, e, d, r⟩ => ⟨o, es, ep, base_of e (noA e d), d, r⟩
    have hKb : K.In (hidT s₁.heap H) := fun b o e => base_of (KX b o e) (by
      cases q : H b with
      | none => rfl
      | some u =>
        have e' : b = a := hA b (by rw [q]; simp)
        subst e'
        rw [hK (by rw [q]; simp)] at e; cases e)
    have hM : Mod K mg (hidT s₁.heap H) := ⟨hKb, nsK hns, ⟨mb, nsK hb, hbb⟩, let ⟨mc, h1, h2⟩ := hlim; ⟨mc, nsK h1, h2⟩⟩
    have e0 : Env0 P w K mg (hidT s₁.heap H) callerA [] s₁ H := ⟨rfl, hM, fun b o e => of_hidT e, Nat.le_of_eq (hidT_size _ _), trivial, fun b hb => absurd (show b ∈ ([] : List Addr) from hb) (by simp), hok, .of_eq hg⟩
    refine codeAny_mono ((F _ hKb (nsK hns)).run callerA [] s₁ H ⟨[.ref a], []⟩ [.ref a] [.ref a] _ _ hr e0 (hbind s₁ (.ref a)) (.cons rfl .nil) (hsp H hO hS)) fun r s' h => ?_
    cases r with
    | error e => exact (hCX H e s' h).elim
    | ok fl =>
      cases fl with
      | next => exact False.elim h
      | brk => exact False.elim h
      | cont => exact False.elim h
      | ret u =>
        obtain ⟨v, H', os, bare, un, hok', r', q⟩ := h
        have q' : v = .bl true := q
        subst q'
        obtain rfl : u = Value.bool true := r'
        refine ⟨rfl, OldK.of_keep fun b o e => ?_, os, bare⟩
        cases q : H b with
        | none => exact un.keep b o e q (by intro z; exact absurd (show b ∈ ([] : List Addr) from z) (by simp)) (by simp)
        | some u =>
          rcases hO b with z | ⟨ob, xs, z⟩
          · rw [q] at z; cases z
          · have z2 := un.frzs b ob _ z
            obtain ⟨e1, _⟩ := hok b _ z
            obtain ⟨e2, _⟩ := hok' b _ z2
            rw [e] at e1; cases e1
            exact e2
  cases hk : K.lookup a with
  | some o =>
    have e := KX a o hk
    rw [ha] at e
    cases e
    refine core (fun _ => none) (fun _ => .inl rfl) (.inr ⟨_, vs.toArray, _, hk, rfl, rfl, rfl, by rw [List.size_toArray, lenV]; exact hl, by simpa using rv⟩) (fun b u z => by have z' : (none : Option HO) = some u := z; cases z') (fun b z => absurd rfl z) fun z => absurd rfl z
  | none =>
    refine core (fun b => if b = a then some (.frz { cls := .type "list", data := .seq vs.toArray } (.lst (ns.map V.int))) else none) (fun b => ?_) (.inl (.inr ⟨{ cls := .type "list", data := .seq vs.toArray }, if_pos rfl⟩)) (fun b u z => ?_) (fun b z => ?_) fun _ => hk
    · by_cases hb : b = a
      · exact .inr ⟨_, _, if_pos hb⟩
      · exact .inl (if_neg hb)
    · by_cases hb : b = a
      · have z' := (if_pos hb).symm.trans z
        cases z'
        subst hb
        exact ⟨ha, by rw [List.length_map]; exact hl, vs, _, rv, ha⟩
      · have z' := (if_neg hb).symm.trans z
        cases z'
    · by_cases hb : b = a
      · exact hb
      · exact absurd (if_neg hb) z
end L2
namespace L2
open PySem PySem.Spec PyProof.Rows
abbrev KOf {K : PySem.W.Frag} {h : Heap} (_ : K.In h) : PySem.W.Frag := K
theorem walk_of {l : PySem.W.OpenLaw} {n k : Nat} {q : Program} {loose : List Str} {XP : (Str → Option Value) → Heap → Prop} {YP : World → Heap → Prop} {d : DefRec} {K : Params → PySem.W.Frag} {CX : World → CXT} {sp : World → Sp} {x : Str}
    (hn : l.most = some n) (hn2 : n ≤ sizeLine) (hdf : d.params.defaults = []) (hr : Room k callerA)
    (hY : ∀ (w : World) (h : Heap), YP w h → (K w.params).In h)
    (F : ∀ (w : World) (mg : Str → Option Value) (fa : Addr) (h : Heap), (K w.params).In h → h.Ns mainGlobals mg → mg d.name = some (.ref fa) →
      ∃ fd : FuncData, (∀ (s : Shared) (u : Value), BindsTo s fd ⟨[u], []⟩ [(x, u)]) ∧
        ∀ base : Heap, (K w.params).In base → base.Ns mainGlobals mg → FnOk l.prog w (K w.params) mg base (CX w) k fa fd [x] (sp w))
    (hsp : ∀ (w : World) (H : Hp) (a : Addr) (ns : List Int), ns.length ≤ n → Only H → SqL (K w.params) H a (ns.map V.int) → sp w [.ref a] H (fun v _ => v = .bl true) fun _ _ _ => False)
    (hCX : ∀ (w : World) (H : Hp) (s : Shared) (e : Value) (s' : Shared), CX w [] H s (fun _ _ _ => False) e s' → False) :
    PySem.W.WalkO q loose XP YP l.row.toRowW d [] (fun f vs => PySem.call f vs) := by
  refine Att.attach_call hn hdf fun w s₀ s₁ mg mb fa o pm cd doc a vs ns G Y ho hd hcd hmg hobj hints hlen hg => ?_
  have KX := hY w _ Y
  obtain ⟨fd, hb, hF⟩ := F w mg fa _ KX G.T.g hmg
  exact law_call KX G.T.g G.T.b G.T.builtins G.T.nolimit hg hobj hints (Nat.le_trans hlen hn2) hr hF hb (fun H hO hS => hsp w H a ns hlen hO hS) fun H e s' => hCX w H s₁ e s'
theorem walk_ofK {l : PySem.W.OpenLaw} {n k : Nat} {q : Program} {loose : List Str} {XP : (Str → Option Value) → Heap → Prop} {YP : World → Heap → Prop} {d : DefRec} {K : Params → PySem.W.Frag} {CX : CXT} {sp : PySem.W.Frag → Sp} {x : Str}
    (hn : l.most = some n) (hn2 : n ≤ sizeLine) (hdf : d.params.defaults = []) (hr : Room k callerA)
    (hY : ∀ (w : World) (h : Heap), YP w h → (K w.params).In h)
    (F : ∀ (w : World) (mg : Str → Option Value) (fa : Addr) (h : Heap), (K w.params).In h → h.Ns mainGlobals mg → mg d.name = some (.ref fa) →
      ∃ fd : FuncData, (∀ (s : Shared) (u : Value), BindsTo s fd ⟨[u], []⟩ [(x, u)]) ∧
        ∀ base : Heap, (K w.params).In base → base.Ns mainGlobals mg → FnOk l.prog w (K w.params) mg base CX k fa fd [x] (sp (K w.params)))
    (hsp : ∀ (K : PySem.W.Frag) (H : Hp) (a : Addr) (ns : List Int), ns.length ≤ n → Only H → SqL K H a (ns.map V.int) → sp K [.ref a] H (fun v _ => v = .bl true) fun _ _ _ => False)
    (hCX : ∀ (H : Hp) (s : Shared) (e : Value) (s' : Shared), CX [] H s (fun _ _ _ => False) e s' → False) :
    PySem.W.WalkO q loose XP YP l.row.toRowW d [] (fun f vs => PySem.call f vs) :=
  walk_of (K := K) (CX := fun _ => CX) (sp := fun w => sp (K w.params)) hn hn2 hdf hr hY F (fun w H a ns h1 h2 h3 => hsp (K w.params) H a ns h1 h2 h3) fun _ H s e s' => hCX H s e s'
end L2
/- THE LAST THEOREM (shape; LID, My.* are yours):
   My.Adr: a structure of the addresses that your layer names (classes, functions); My.Txt K t: a structure (Prop) of the equations over K;
   My.txt_mk : {K} {implicit addresses ..} (e1 : nsIn K mainGlobals "law" = some (some (.ref f))) (e2 : K.lookup f = some ⟨oc, od, .func (fnOf "law" "law" params body scope dV kV doc pm an cdv ct), sl⟩) (e3 : codeIn K cdv "law" = true) .. : ∃ t, My.Txt K t
set_option maxRecDepth 100000 in
set_option maxHeartbeats 0 in
theorem PySem.Challenge.cw_LID_holds : PySem.Challenge.rw_LID.Holds := by
  w_on; o_law; k_head; (case hw => w_witness2)
  k_fill
  refine L2.walk_of (l := PySem.Challenge.rw_LID) (n := 63) (k := 40) (x := "script") (CX := fun w => ..) (sp := fun _ => My.sp_law) rfl (by decide) rfl ⟨rfl, by decide, by decide⟩ (fun w h Y => PySem.W.kIn_of Y) ?F ?S ?C
  case F =>
    intro w mg fa h KX G hmg
    have T : ∃ t, My.Txt (L2.KOf KX) t := by
      dsimp only [L2.KOf]                          -- K must stand as «<heap const> w.params» for k_is
      refine' My.txt_mk ?e1 ?e2 ?e3 ..
      (case e1 => PySem.W.k_is)                    -- in the order: a name -> its address -> its object -> its parts
      (case e2 => PySem.W.k_is)
      ..
    obtain ⟨t, T⟩ := T
    have e0 := hmg.symm.trans (PySem.W.mg_of KX G T.law)
    cases e0                                       -- fa is the law's own address
    exact ⟨_, fun s u => .of_eq rfl, fun base kb nb => My.law_fn T kb nb⟩     -- if «.of_eq rfl» comes too early: refine' ⟨_, ?b, fun base kb nb => My.law_fn T kb nb⟩; exact fun s u => .of_eq rfl
  case S => exact fun w H a ns hl hO hS => ..
  case C => exact ..
(the tactic k_is has no namespace: write k_is) -/
namespace L2
open PySem PySem.Spec PyProof.Rows
def defArgs (s : Stmt) : Arguments := match s with
  | .FunctionDef _ a _ _ _ _ _ _ _ _ => a
  | _ => { posonlyargs := [], args := [], vararg := none, kwonlyargs := [], kw_defaults := [], kwarg := none, defaults := [] }
def defBody (s : Stmt) : List Stmt := match s with
  | .FunctionDef _ _ b _ _ _ _ _ _ _ => b
  | _ => []
def defScope (s : Stmt) : Scope := match s with
  | .FunctionDef _ _ _ _ _ _ sc _ _ _ => sc
  | _ => { kind := .function, names := [], isGenerator := false, isCoroutine := false }
abbrev CX0 : CXT := fun _ _ _ _ _ _ => False
abbrev E0 : XK := fun _ _ _ => False
theorem pass0 {X : Cx} : Passes CX0 X E0 := fun _ _ _ _ _ _ _ h => h.elim
structure Fun (K : PySem.W.Frag) (x qual : Str) (st : Stmt) (f : Addr) (fd : FuncData) : Prop where
  ex : ∃ (oc : Value) (od : Option Addr) (kV doc pm : Value) (an : Option Addr) (cdv ct : Value) (osl : Array (Option Value)),
    fd = PySem.W.fnOf x qual (defArgs st) (defBody st) (defScope st) .none kV doc pm an cdv ct ∧ K.lookup f = some ⟨oc, od, .func fd, osl⟩ ∧ PySem.W.codeIn K cdv qual = true
  kp : PySem.W.keepIn K (.ref f) = true
section
variable {P : Program} {w : World} {K : PySem.W.Frag} {mg : Str → Option Value} {base : Heap}
theorem Fun.ok {x qual : Str} {st : Stmt} {f : Addr} {fd : FuncData} {N ps : List Str} {k : Nat} {sp : Sp} (F : Fun K x qual st f fd) (S : FnScope N ps (defScope st)) (len : ∀ vs H Q E, sp vs H Q E → vs.length = ps.length)
    (hbody : ∀ (cdv : Value) (A : Around) (outer : List Env) (s : Shared) (H : Hp) (vs : List V) (Q : VK) (E : XK), Room k (A.deeper (envOfC qual (defScope st) s.heap.objs.size f cdv)) → sp vs H Q E →
      ∃ t, PSs (cxOf CX0 P w K mg base N qual (defScope st) f cdv A outer s H E).nox (defBody st) t ∧ t { nx := fun _ H' => Q .non H', rt := Q } (start N vs) H) : FnOk P w K mg base CX0 (k + 1) f fd ps sp := by
  obtain ⟨oc, od, kV, doc, pm, an, cdv, ct, osl, rfl, lk, hcd⟩ := F.ex
  refine fn_of lk hcd S len fun A outer s H vs Q E hr hsp => ?_
  obtain ⟨t, h, q⟩ := hbody cdv A outer s H vs Q E hr hsp
  exact ⟨t, h.nox, q⟩
theorem fun_mk {x qual : Str} {st : Stmt} {f : Addr} {oc : Value} {od an : Option Addr} {osl : Array (Option Value)} {kV doc pm cdv ct : Value} (l : K.lookup f = some ⟨oc, od, .func (PySem.W.fnOf x qual (defArgs st) (defBody st) (defScope st) .none kV doc pm an cdv ct), osl⟩)
    (c : PySem.W.codeIn K cdv qual = true) (k : PySem.W.keepIn K (.ref f) = true) : Fun K x qual st f (PySem.W.fnOf x qual (defArgs st) (defBody st) (defScope st) .none kV doc pm an cdv ct) := ⟨⟨oc, od, kV, doc, pm, an, cdv, ct, osl, rfl, l, c⟩, k⟩
end
theorem small1000 {n : Nat} (h : n ≤ 1000) : n < sizeLine := Nat.lt_of_le_of_lt h (by decide)
section
variable {X : Cx}
theorem pv (i : Nat) {x : Str} {pos : Pos} (hN : X.N[i]? = some x := by rfl) (hv : Vis X.env.scope x := by first | exact Or.inl rfl | exact Or.inr (Or.inl rfl) | exact Or.inr (Or.inr rfl)) (hd : (x == ("__debug__" : Str)) = false := by decide)
    (hcd : (x == ("__classdict__" : Str)) = false := by decide) : PE X (.Name x pos) (tVar i) := pe_var hN hv hd hcd
end
theorem iteF {A B : Prop} (h : B) : if false = true then A else B := by
  rw [if_neg Bool.false_ne_true]
  exact h
theorem iteT {A B : Prop} (h : A) : if true = true then A else B := by
  rw [if_pos rfl]
  exact h
theorem ite2 {c A B : Prop} [Decidable c] (h1 : c → A) (h2 : ¬ c → B) : if c then A else B := by
  by_cases h : c
  · rw [if_pos h]
    exact h1 h
  · rw [if_neg h]
    exact h2 h
def Same (H H' : Hp) : Prop := ∀ b o, H b = some o → H' b = some o
theorem Same.refl (H : Hp) : Same H H := fun _ _ h => h
theorem Same.trans {H H1 H2 : Hp} (a : Same H H1) (b : Same H1 H2) : Same H H2 := fun c o h => b c o (a c o h)
theorem Same.free {H H' : Hp} (e : Same H H') {l : Addr} (h : H' l = Option.none) : H l = Option.none := by
  cases q : H l with
  | none => rfl
  | some o =>
    rw [e l o q] at h
    cases h
theorem Same.seq {K : PySem.W.Frag} {H H' : Hp} {a : Addr} {xs : List V} (e : Same H H') (h : SqL K H a xs) : SqL K H' a xs := by
  rcases h with (h | ⟨o, h⟩) | h
  · exact .inl (.inl (e _ _ h))
  · exact .inl (.inr ⟨o, e _ _ h⟩)
  · exact .inr h
section
variable {X : Cx}
end
section
variable {κ : Type} [DecidableEq κ]
end
end L2
namespace L2
open PySem PySem.Spec PyProof.Rows
theorem lookup_cons_or {β : Type} {x n : Str} {b c : β} {l : List (Str × β)} (h : ((n, b) :: l).lookup x = some c) : (x = n ∧ b = c) ∨ l.lookup x = some c := by
  rw [List.lookup_cons] at h
  cases e : x == n with
  | true =>
    rw [e] at h
    exact .inl ⟨eq_of_beq e, Option.some.inj h⟩
  | false =>
    rw [e] at h
    exact .inr h
theorem lookup_cons_some {β : Type} {x n : Str} {b : β} {l : List (Str × β)} (h : x = n ∨ ∃ c, l.lookup x = some c) : ∃ c, ((n, b) :: l).lookup x = some c := by
  rw [List.lookup_cons]
  cases e : x == n with
  | true => exact ⟨b, rfl⟩
  | false =>
    rcases h with h | h
    · subst h
      simp at e
    · exact h
theorem closFor_go {env : Env} : ∀ (names : List (Str × NameKind)) (acc : List (Str × Addr)), (∀ y ∈ names, y.2 = .free → ∃ c, env.cells.lookup y.1 = some c) →
    (∀ x c, acc.lookup x = some c → env.cells.lookup x = some c) →
    ∃ cl, (forIn names acc (fun x r => if (x.2 == NameKind.free) = true then (cellOf env x.1 >>= fun c => pure (ForInStep.yield ((x.1, c) :: r))) else pure (ForInStep.yield r)) : Sem (List (Str × Addr))) = pure cl ∧
      (∀ x c, cl.lookup x = some c → env.cells.lookup x = some c) ∧ (∀ y ∈ names, y.2 = .free → ∃ c, cl.lookup y.1 = some c) ∧ (∀ x c, acc.lookup x = some c → ∃ c', cl.lookup x = some c')
  | [], acc, _, h => ⟨acc, rfl, h, (fun _ z => nomatch z), fun x c e => ⟨c, e⟩⟩
  | (n, k) :: r, acc, hn, h => by
    rw [List.forIn_cons]
    by_cases hk : k = .free
    · subst hk
      obtain ⟨c, hc⟩ := hn (n, .free) List.mem_cons_self rfl
      have e1 : (cellOf env n : Sem Addr) = pure c := by
        have hc' : env.cells.lookup n = some c := hc
        unfold cellOf
        rw [hc']
      obtain ⟨cl, e, h1, h2, h3⟩ := closFor_go r ((n, c) :: acc) (fun y hy => hn y (List.mem_cons_of_mem _ hy)) (fun x c' e => by
        rcases lookup_cons_or e with ⟨e1, e2⟩ | e
        · subst e1; subst e2; exact hc
        · exact h x c' e)
      refine ⟨cl, ?_, h1, ?_, fun x c' e => ?_⟩
      · show ((if ((n, NameKind.free).2 == NameKind.free) = true then (cellOf env n >>= fun c => pure (ForInStep.yield ((n, c) :: acc))) else pure (ForInStep.yield acc)) >>= _) = _
        rw [if_pos (show ((n, NameKind.free).2 == NameKind.free) = true from rfl), e1]
        exact e
      · intro y hy hf
        rcases List.mem_cons.mp hy with rfl | hy
        · exact h3 n c (by simp)
        · exact h2 y hy hf
      · obtain ⟨c2, e2⟩ := lookup_cons_some (n := n) (b := c) (.inr ⟨c', e⟩)
        exact h3 x c2 e2
    · obtain ⟨cl, e, h1, h2, h3⟩ := closFor_go r acc (fun y hy => hn y (List.mem_cons_of_mem _ hy)) h
      refine ⟨cl, ?_, h1, ?_, h3⟩
      · show ((if ((n, k).2 == NameKind.free) = true then (cellOf env n >>= fun c => pure (ForInStep.yield ((n, c) :: acc))) else pure (ForInStep.yield acc)) >>= _) = _
        rw [if_neg (by simpa using hk)]
        exact e
      · intro y hy hf
        rcases List.mem_cons.mp hy with rfl | hy
        · exact absurd hf hk
        · exact h2 y hy hf
theorem closFor {scope : Scope} {env : Env} (h : ∀ y ∈ scope.names, y.2 = .free → ∃ c, env.cells.lookup y.1 = some c) :
    ∃ cl, closureFor scope env = pure cl ∧ (∀ x c, cl.lookup x = some c → env.cells.lookup x = some c) ∧ (∀ y ∈ scope.names, y.2 = .free → ∃ c, cl.lookup y.1 = some c) := by
  obtain ⟨cl, e, h1, h2, _⟩ := closFor_go scope.names [] h (fun x c e => by simp at e)
  refine ⟨cl, ?_, h1, h2⟩
  unfold closureFor
  show ((forIn scope.names [] (fun x r => if (x.2 == NameKind.free) = true then (cellOf env x.1 >>= fun c => pure (ForInStep.yield ((x.1, c) :: r))) else pure (ForInStep.yield r)) : Sem (List (Str × Addr))) >>= fun r => pure r) = _
  rw [e]
  rfl
def relK (env : Env) (x : Str) (k : NameKind) : NameKind := if (k == .free && env.scope.kind == .function && env.kindOf x == some .cell) = true then .cell else k
theorem lookup_relabel {env : Env} {x : Str} : ∀ (names : List (Str × NameKind)),
    (names.map fun (n, k) => if (k == NameKind.free && env.scope.kind == .function && env.kindOf n == some .cell) = true then (n, NameKind.cell) else (n, k)).lookup x = (names.lookup x).map (relK env x)
  | [] => rfl
  | (n, k) :: r => by
    have ih := lookup_relabel (env := env) (x := x) r
    have e : (if (k == NameKind.free && env.scope.kind == .function && env.kindOf n == some .cell) = true then (n, NameKind.cell) else (n, k)) = (n, relK env n k) := by
      unfold relK
      split <;> rfl
    show List.lookup x ((if (k == NameKind.free && env.scope.kind == .function && env.kindOf n == some .cell) = true then (n, NameKind.cell) else (n, k)) :: _) = _
    rw [e, List.lookup_cons, List.lookup_cons]
    cases hx : x == n with
    | true =>
      have := eq_of_beq hx
      subst this
      rfl
    | false => exact ih
theorem kindOf_comp {scope : Scope} {cl : List (Str × Addr)} {C : Addr} {env : Env} {x : Str} : (compEnvC scope cl C env).kindOf x = (scope.names.lookup x).map (relK env x) := lookup_relabel (env := env) (x := x) scope.names
theorem relK_free {env : Env} {x : Str} : relK env x .free = .cell ∨ relK env x .free = .free := by
  unfold relK
  split
  · exact .inl rfl
  · exact .inr rfl
theorem relK_of {env : Env} {x : Str} {k : NameKind} (h : relK env x k = .cell ∨ relK env x k = .free) : k = .cell ∨ k = .free := by
  unfold relK at h
  split at h
  · rename_i z
    simp only [Bool.and_eq_true, beq_iff_eq] at z
    exact .inr z.1.1
  · exact h
def capt (caps : List (Option Nat)) (σ : St) : St := caps.map fun o => match o with
  | none => none
  | some j => (σ[j]?).join
def compOk (oN : List Str) (osc : Scope) (N : List Str) (caps : List (Option Nat)) (sc : Scope) : Bool :=
  (sc.kind == .function) && decide N.Nodup && (N.length == caps.length) && sc.names.all (fun y => !(y.2 == .cell)) &&
  sc.names.all (fun y => !(y.2 == .local) || sc.names.lookup y.1 == some .local) &&
  sc.names.all (fun y => !(y.2 == .free) || (osc.names.lookup y.1 == some .cell || osc.names.lookup y.1 == some .free)) &&
  (N.zip caps).all (fun p => match p.2 with
    | none => true
    | some j => oN[j]? == some p.1 && sc.names.lookup p.1 == some .free)
structure CompOk (oN : List Str) (osc : Scope) (N : List Str) (caps : List (Option Nat)) (sc : Scope) : Prop where
  kind : sc.kind = .function
  nd : N.Nodup
  len : N.length = caps.length
  nocell : ∀ y ∈ sc.names, y.2 ≠ .cell
  loc : ∀ y ∈ sc.names, y.2 = .local → sc.names.lookup y.1 = some .local
  fr : ∀ y ∈ sc.names, y.2 = .free → osc.names.lookup y.1 = some .cell ∨ osc.names.lookup y.1 = some .free
  cap : ∀ (i j : Nat) (x : Str), N[i]? = some x → caps[i]? = some (some j) → oN[j]? = some x ∧ sc.names.lookup x = some .free
theorem compOk_of {oN : List Str} {osc : Scope} {N : List Str} {caps : List (Option Nat)} {sc : Scope} (h : compOk oN osc N caps sc = true) : CompOk oN osc N caps sc := by
  unfold compOk at h
  simp only [Bool.and_eq_true, List.all_eq_true, decide_eq_true_eq, beq_iff_eq, Bool.or_eq_true, Bool.not_eq_true', beq_eq_false_iff_ne, ne_eq] at h
  obtain ⟨⟨⟨⟨⟨⟨h1, h2⟩, h3⟩, h4⟩, h5⟩, h6⟩, h7⟩ := h
  refine ⟨h1, h2, h3, h4, fun y hy e => ?_, fun y hy e => ?_, fun i j x hi hj => ?_⟩
  · rcases h5 y hy with z | z
    · exact absurd e z
    · exact z
  · rcases h6 y hy with z | z
    · exact absurd e z
    · exact z
  · have hm : (x, some j) ∈ N.zip caps := by
      refine List.mem_of_getElem? (i := i) ?_
      rw [List.getElem?_zip_eq_some]
      exact ⟨hi, hj⟩
    have := h7 _ hm
    simpa using this
def cxComp (X : Cx) (N : List Str) (scope : Scope) (cl : List (Str × Addr)) (C : Addr) (fp : List Addr) (s : Shared) (H : Hp) : Cx :=
  { X with N := N, s₀ := s, H₀ := H, env := compEnvC scope cl C X.env, outer := X.stack, ex := fp, fn := fun _ => false, pn := [], xe := fun _ _ => False }
section
variable {X : Cx} {pins : List (Addr × Obj)} {σ : St} {H : Hp} {s : Shared} {N : List Str} {caps : List (Option Nat)} {scope : Scope} {cl : List (Str × Addr)} {fp : List Addr}
theorem inv_comp (I : Inv X pins σ H s) (hf : ∀ b ∈ fp, FpOk X pins H b) (ho : ∀ b ∈ fp, ∃ o, s.heap.get? b = some o) (S : CompOk X.N X.env.scope N caps scope)
    (c1 : ∀ x c, cl.lookup x = some c → X.env.cells.lookup x = some c) (c2 : ∀ y ∈ scope.names, y.2 = .free → ∃ c, cl.lookup y.1 = some c)
    {h' : Heap} {m : Str → Option Value} {tk : Nat} (hn : h'.Ns s.heap.objs.size m) (hk : ∀ b u, s.heap.get? b = some u → h'.get? b = some u) :
    Inv (cxComp X N scope cl s.heap.objs.size fp s H) [] (capt caps σ) H { s with heap := h', toks := tk } := by
  have noS : ∀ b ∈ fp, b ∉ frs X.stack := fun b hb z => by
    obtain ⟨_, f1, f2, _⟩ := hf b hb
    rcases List.mem_cons.mp (I.stkSub b z) with e | e
    · exact f1 e
    · exact f2 e
  have frOf : ∀ x, scope.names.lookup x = some .free → ∃ c, cl.lookup x = some c := fun x e => c2 (x, .free) (PySem.mem_of_lookup e) rfl
  refine ⟨⟨I.ok.mod, S.kind, I.ok.glob, I.ok.blt, Nat.le_refl _, fun x y c e1 e2 => I.ok.inj x y c (c1 x c e1) (c1 y c e2), fun x hx => ?_, fun x c z _ => absurd (show false = true from z) (by decide), I.ok.hd, I.ok.frames, .inl rfl,
    fun b hb => ⟨?_, fun x c e => (hf b hb).2.2.2.2.1 x c (c1 x c e)⟩, I.bs, Nat.le_trans I.ok.bsz I.sz, fun b o e hb => ?_, noS, I.stack, I.stkFree⟩,
    rfl, I.bare, Un.kept hk, ⟨m, hn, fun i x v e1 e2 e3 => ?_⟩, fun x c e => ?_, I.hok.fresh (Nat.le_refl _), fun x c e => I.freeC x c (c1 x c e), fun p hp => absurd (show p ∈ ([] : List (Addr × Obj)) from hp) (by simp), I.hok.kept hk, ?_⟩
  · have hx' : (scope.names.lookup x).map (relK X.env x) = some .cell ∨ (scope.names.lookup x).map (relK X.env x) = some .free := by
      rw [← kindOf_comp (cl := cl) (C := s.heap.objs.size)]
      exact hx
    cases e : scope.names.lookup x with
    | none =>
      rw [e] at hx'
      rcases hx' with z | z <;> cases z
    | some k =>
      rw [e] at hx'
      have z : relK X.env x k = .cell ∨ relK X.env x k = .free := by
        rcases hx' with z | z
        · exact .inl (Option.some.inj z)
        · exact .inr (Option.some.inj z)
      rcases relK_of z with z | z
      · subst z
        exact absurd rfl (S.nocell _ (PySem.mem_of_lookup e))
      · subst z
        exact frOf x e
  · obtain ⟨o, e⟩ := ho b hb
    exact Nat.ne_of_lt (Heap.lt_size e)
  · obtain ⟨_, _, _, f3, _⟩ := hf b hb
    rcases f3 with z | z
    · exact I.ok.noex b o e z
    · exact absurd (Nat.lt_of_lt_of_le (Heap.lt_size e) (Nat.le_trans I.ok.bsz z)) (Nat.lt_irrefl _)
  · have hi : i < caps.length := by
      unfold capt at e2
      obtain ⟨h1, _⟩ := List.getElem?_eq_some_iff.mp e2
      simpa using h1
    have ec : (capt caps σ)[i]? = (caps[i]?).map fun o => match o with
        | none => none
        | some j => (σ[j]?).join := by
      unfold capt
      rw [List.getElem?_map]
    rw [e2] at ec
    cases q : caps[i]? with
    | none =>
      rw [q] at ec
      cases ec
    | some o =>
      rw [q] at ec
      cases o with
      | none =>
        cases (Option.some.inj ec)
      | some j =>
        have ej : σ[j]? = some (some v) := by
          have z : some v = (σ[j]?).join := Option.some.inj ec
          cases q2 : σ[j]? with
          | none => rw [q2] at z; cases z
          | some w => rw [q2] at z; exact congrArg some z.symm
        obtain ⟨n1, n2⟩ := S.cap i j x e1 q
        have vis : X.env.kindOf x = some .cell ∨ X.env.kindOf x = some .free := S.fr (x, .free) (PySem.mem_of_lookup n2) rfl
        obtain ⟨m0, _, hl⟩ := I.loc
        obtain ⟨u, r, l⟩ := hl j x v n1 ej (.inr vis)
        refine ⟨u, r, ?_⟩
        rcases l with ⟨k, _⟩ | ⟨_, c, ec, z⟩
        · rw [k] at vis
          rcases vis with z | z <;> cases z
        · obtain ⟨c', e'⟩ := frOf x n2
          have : c' = c := Option.some.inj ((c1 x c' e').symm.trans ec)
          subst this
          refine .inr ⟨?_, c', e', ?_⟩
          · have kk : (compEnvC scope cl s.heap.objs.size X.env).kindOf x = some (relK X.env x .free) := by rw [kindOf_comp, n2]; rfl
            rcases relK_free (env := X.env) (x := x) with z | z
            · rw [z] at kk; exact .inl kk
            · rw [z] at kk; exact .inr kk
          · obtain ⟨o, ho1, ho2⟩ := z
            exact ⟨o, hk _ _ ho1, ho2⟩
  · obtain ⟨v, o, ho1, ho2⟩ := I.cell x c (c1 x c e)
    exact ⟨v, o, hk _ _ ho1, ho2⟩
  · show (capt caps σ).length = N.length
    unfold capt
    rw [List.length_map]
    exact S.len.symm
end
end L2
namespace L2
open PySem PySem.Spec PyProof.Rows
def PF (X : Cx) (ifs : List Expr) (t : TT) : Prop :=
  ∀ (pins : List (Addr × Obj)) (s : Shared) (σ : St) (H : Hp) (Q : Bool → Hp → Prop), Inv X pins σ H s → t σ H Q →
    wpAny (model X.prog X.w) X.A (forIn ifs true fun c r => if r = true then do let ok ← isTrue c X.env (eval c X.env); pure (ForInStep.yield ok) else pure (ForInStep.yield r)) (TP X pins σ Q) X.xe s
def tYes : TT := fun _ H Q => Q true H
section
variable {X : Cx}
theorem pf_nil : PF X [] tYes := fun _ _ _ H _ I h => wpAny_pure ⟨H, I, h⟩
theorem pf_one {c : Expr} {t : TT} (hc : PT X c t) : PF X [c] t := by
  intro pins s σ H Q I h
  rw [List.forIn_cons]
  refine wpAny_bind ?_
  rw [if_pos rfl]
  refine wpAny_bind (thn (hc pins s σ H Q I h) fun ok s1 q => wpAny_pure ?_)
  exact wpAny_pure q
end
theorem compLoop_any {prog : Program} {w : World} {A : Around} {R : Result → Shared → Prop} {s : Shared} {elt target iter : Expr} {ifs : List Expr} {scope : Scope} {pos : Pos} {it acc : Value} {env : Env} (I : Nat → Shared → Prop)
    (turn : ∀ n s, I n s → wpAny (model prog w) A (pyNext it) (fun r s₁ => match r with
      | none => R (.ok .next) s₁
      | some v => wpAny (model prog w) A (letOwnedTupleGo target it v) (fun _ s₁' => wpAny (model prog w) A (assign target env v) (fun _ s₂ =>
          wpAny (model prog w) A (forIn ifs true fun c r => if r = true then do let ok ← isTrue c env (eval c env); pure (ForInStep.yield ok) else pure (ForInStep.yield r)) (fun ok s₃ =>
            if ok = true then wpAny (model prog w) A (eval elt env) (fun x s₄ =>
              wpAny (model prog w) A (call (.builtin "list.append") [acc, x]) (fun _ s₅ => ∃ m, m < n ∧ I m s₅) (fun _ _ => False) s₄) (fun _ _ => False) s₃
            else ∃ m, m < n ∧ I m s₃) (fun _ _ => False) s₂) (fun _ _ => False) s₁') (fun _ _ => False) s₁) (fun _ _ => False) s)
    (n : Nat) (h : I n s) :
    codeAny (model prog w) A (.compLoop (.ListComp elt [⟨target, iter, ifs, 0⟩] scope pos) 0 it acc env) R s := by
  refine codeAny_loop rfl I (fun n s hI => ?_) n h
  show wpAny _ A ((compTurn (.ListComp elt [⟨target, iter, ifs, 0⟩] scope pos) 0 it acc env).onRaise (fun x => do noteFrame x env; theTreesLotGoes x)) _ _ s
  refine wpAny_noted ?_
  rw [compTurn_list]
  refine wpAny_bind (wpAny_standAt (wpAny_bind (wpAny_mono (turn n s hI) (fun r s₁ h₁ => ?_) fun _ _ z => False.elim z)))
  cases r with
  | none => exact wpAny_pure h₁
  | some v =>
    refine wpAny_bind (wpAny_mono h₁ (fun _ s₁' h₁' => ?_) fun _ _ z => False.elim z)
    refine wpAny_bind (wpAny_mono h₁' (fun _ s₂ h₂ => wpAny_bind (wpAny_mono h₂ (fun ok s₃ h₃ => ?_) fun _ _ z => False.elim z)) fun _ _ z => False.elim z)
    cases ok with
    | false => exact wpAny_pure ⟨rfl, h₃⟩
    | true =>
      exact wpAny_bind (wpAny_bind (wpAny_mono h₃ (fun x s₄ h₄ => wpAny_bind (wpAny_mono h₄ (fun _ s₅ h₅ => wpAny_pure (wpAny_pure ⟨rfl, h₅⟩)) fun _ _ z => False.elim z)) fun _ _ z => False.elim z))
def CompW (J : It) (g : TG) (tf : TT) (te : TE) (D : Addr) (QE : Hp → Prop) (W : Nat → Nat → St → Hp → Prop) : Prop := ∀ i m σ H, W i m σ H →
  (J.stop i H ∧ QE H) ∨ (J.go i H ∧ ∃ N : St → Hp → Prop, (∀ σ' H', N σ' H' → ∃ m', m' < m ∧ W (i + 1) m' σ' H') ∧ ∀ x H', J.yld i H x H' → g x σ H' fun σ2 H2 => tf σ2 H2 fun b H3 =>
    if b = true then te σ2 H3 fun v H4 => ∃ xs, H4 D = some (.lst xs) ∧ xs.length < sizeLine ∧ N σ2 (upd H4 D (.lst (xs ++ [v]))) else N σ2 H3)
def tComp (caps : List (Option Nat)) (wi : TI) (g : TG) (tf : TT) (te : TE) : TE := fun σ H Q => wi σ H fun J H1 => ∀ D, H1 D = none →
  ∃ W : Nat → Nat → St → Hp → Prop, (∃ m, W 0 m (capt caps σ) (upd H1 D (.lst []))) ∧ CompW J g tf te D (fun H' => Q (.ref D) H') W
section
variable {X : Cx} {pins : List (Addr × Obj)} {σ : St} {H : Hp} {s : Shared} {N : List Str} {caps : List (Option Nat)} {scope : Scope} {elt tg iter : Expr} {ifs : List Expr} {wi : TI} {g : TG} {tf : TT} {te : TE} {pos : Pos}
theorem comp_core {RR : Value → Addr → Result → Shared → Prop} {cl : List (Str × Addr)} {Q : VK} (hc : X.calm = true) (S : CompOk X.N X.env.scope N caps scope) (hi : PI X tg iter wi)
    (hg : ∀ cl C fp s H, PG (cxComp X N scope cl C fp s H) tg g) (hf : ∀ cl C fp s H, PF (cxComp X N scope cl C fp s H) ifs tf) (he : ∀ cl C fp s H, PE (cxComp X N scope cl C fp s H) elt te)
    (c1 : ∀ x c, cl.lookup x = some c → X.env.cells.lookup x = some c) (c2 : ∀ y ∈ scope.names, y.2 = .free → ∃ c, cl.lookup y.1 = some c)
    (I : Inv X pins σ H s) (h : tComp caps wi g tf te σ H Q)
    (fin : ∀ (D C : Addr) (m : Str → Option Value) (H5 : Hp) (s5 : Shared), Inv X pins σ H5 s5 → s5.heap.Ns C m → FpOk X pins H5 C → Q (.ref D) H5 → RR (.ref D) C (.ok .next) s5) :
    wpAny (model X.prog X.w) X.A (eval iter X.env) (fun x s₁ => wpAny (model X.prog X.w) X.A (pyIter x) (fun it s₂ => wpAny (model X.prog X.w) X.A (newList []) (fun acc s₃ =>
      wpAny (model X.prog X.w) X.A (newFunctionEnv scope X.env.globals cl [] X.env.qual none .none (some X.env)) (fun cenv s₄ =>
        codeAny (model X.prog X.w) X.A (.compStart (.ListComp elt [⟨tg, iter, ifs, 0⟩] scope pos) 0 it acc { cenv with scope := relabel scope X.env }) (RR acc cenv.locals) s₄) X.xe s₃) X.xe s₂) X.xe s₁) X.xe s := by
  refine thn (hi pins s σ H _ I h) fun v s1 h1 => thn h1 fun itv s2 h2 => ?_
  obtain ⟨it, fp, tn, J, H2, e, I2, T, st2, f2, q⟩ := h2
  subst e
  have nD : H2 s2.heap.objs.size = none := I2.hok.fresh (Nat.le_refl _)
  obtain ⟨W, ⟨m0, w0⟩, turn⟩ := q s2.heap.objs.size nD
  refine wpAny_newObj_type ?_
  have I3 : Inv X pins σ (upd H2 s2.heap.objs.size (.lst [])) { s2 with heap := s2.heap.push { cls := .type "list", data := .seq ([] : List Value).toArray } } :=
    I2.laid (t' := s2.toks) (o := .lst []) (fun b ob e => Heap.get?_push_of_some _ e) (Nat.le_refl _) ⟨Nat.zero_le _, [], 0, .nil, Heap.get?_push_size _ rfl⟩
  have ob2 : ∀ b ∈ fp, ∃ o, s2.heap.get? b = some o := fun b hb => let ⟨o, e, _⟩ := T.obj 0 s2.heap st2 b hb; ⟨o, e⟩
  have nfD : ∀ b ∈ fp, b ≠ s2.heap.objs.size := fun b hb => let ⟨o, e⟩ := ob2 b hb; Nat.ne_of_lt (Heap.lt_size e)
  generalize hs3 : ({ s2 with heap := s2.heap.push { cls := .type "list", data := .seq ([] : List Value).toArray } } : Shared) = s3 at I3
  have eh : s3.heap = s2.heap.push { cls := .type "list", data := .seq ([] : List Value).toArray } := by rw [← hs3]
  generalize hD : s2.heap.objs.size = D at *
  generalize hH3 : upd H2 D (.lst []) = H3 at I3 w0
  have f3 : ∀ b ∈ fp, FpOk X pins H3 b := fun b hb => ⟨by rw [← hH3, upd_ne (nfD b hb)]; exact (f2 b hb).1, (f2 b hb).2⟩
  have ob3 : ∀ b ∈ fp, ∃ o, s3.heap.get? b = some o := fun b hb => let ⟨o, e⟩ := ob2 b hb; ⟨o, by rw [eh]; exact Heap.get?_push_of_some _ e⟩
  have st3 : tn 0 s3.heap := T.keep 0 _ _ st2 fun b hb o e => by rw [eh]; exact Heap.get?_push_of_some _ e
  show wpAny (model X.prog X.w) X.A (newFunctionEnv scope X.env.globals cl [] X.env.qual none .none (some X.env)) _ X.xe s3
  refine wpAny_newFunctionEnv S.nocell (by intro y hy; simp at hy) (fun h₁ hns₁ hsb₁ => ?_) S.kind
  have k1 : ∀ b u, s3.heap.get? b = some u → h₁.get? b = some u := fun b u e => hsb₁.extBut b u (Nat.ne_of_lt (Heap.lt_size e)) (Heap.get?_push_of_some _ e)
  have J0 := inv_comp (tk := s3.toks + ([] : List (Str × Value)).length) I3 f3 ob3 S c1 c2 hns₁ k1
  generalize hC : s3.heap.objs.size = C at *
  generalize hX' : cxComp X N scope cl C fp s3 H3 = X' at J0
  have st4 : tn 0 h₁ := T.keep 0 _ _ st3 fun b hb o e => k1 b o e
  have stat : ∀ {H' : Hp}, (∀ b ∈ fp, H' b = none) → ∀ b ∈ fp, FpOk X' [] H' b := fun {H'} hn b hb => by
    subst hX'
    exact ⟨hn b hb, (J0.ok.exf b hb).1, J0.ok.exfs b hb, .inl hb, (J0.ok.exf b hb).2, fun p hp => absurd (show p ∈ ([] : List (Addr × Obj)) from hp) (by simp)⟩
  have loop : ∀ s4 : Shared, s4 = { s3 with heap := h₁, toks := s3.toks + ([] : List (Str × Value)).length } →
      codeAny (model X.prog X.w) X.A (.compLoop (.ListComp elt [⟨tg, iter, ifs, 0⟩] scope pos) 0 (.ref it) (.ref D) (compEnvC scope cl C X.env)) (RR (.ref D) C) s4 := by
    rintro s4 rfl
    refine compLoop_any (fun n s' => ∃ i σ' H', Inv X' [] σ' H' s' ∧ tn i s'.heap ∧ (∀ b ∈ fp, H' b = none) ∧ W i n σ' H') ?_ m0 ⟨0, _, H3, J0, st4, fun b hb => (f3 b hb).1, w0⟩
    rintro n s4 ⟨i, σ4, H4, J4, st4, fr4, w4⟩
    rcases turn i n σ4 H4 w4 with ⟨stop, qn⟩ | ⟨go, Nn, hNn, step⟩
    · have d := T.done X' (by subst hX'; rfl) (by subst hX'; rfl) (by subst hX'; rfl) (by subst hX'; exact hc) i [] s4 σ4 H4 (fun _ _ => False) J4 (stat fr4) st4 stop
      have eA : X'.A = X.A := by subst hX'; rfl
      rw [eA] at d
      refine wpAny_mono d (fun r s5 hr => ?_) fun _ _ z => z
      obtain ⟨hr, J5⟩ := hr
      subst hr
      have I5 : Inv X pins σ H4 s5 := by
        subst hX'
        exact I3.call' J5.os J5.base J5.hok J5.bare fun b hb => ⟨(f3 b hb).2.2.2.1, (f3 b hb).2.1, (f3 b hb).2.2.2.2.1, (f3 b hb).2.2.2.2.2⟩
      obtain ⟨m, hn, _⟩ := J5.loc
      have fr := J5.free
      subst hX'
      exact fin D C m H4 s5 I5 hn (I3.fpOk (b := C) (Nat.le_of_eq hC) fr) qn
    · have d := T.item X' (by subst hX'; rfl) (by subst hX'; rfl) (by subst hX'; rfl) (by subst hX'; exact hc) i [] s4 σ4 H4 (fun _ _ => False) J4 (stat fr4) st4 go
      have eA : X'.A = X.A := by subst hX'; rfl
      rw [eA] at d
      refine wpAny_mono d (fun r s5 hr => ?_) fun _ _ z => z
      obtain ⟨u, hr, h5⟩ := hr
      subst hr
      refine wpAny_mono h5 (fun _ s6 q6 => ?_) fun _ _ z => z
      obtain ⟨x, H6, J6, r6, y6, st6, fr6⟩ := q6
      have J6' := J6.pinned (stat fr6) (T.obj _ _ st6)
      have again : ∀ {H9 : Hp} {s9 : Shared} {σ9 : St}, Inv X' ([] ++ pinsAt fp s6.heap) σ9 H9 s9 → Nn σ9 H9 → ∃ m, m < n ∧ ∃ i σ' H', Inv X' [] σ' H' s9 ∧ tn i s9.heap ∧ (∀ b ∈ fp, H' b = none) ∧ W i m σ' H' := fun {H9 s9 σ9} J9 q9 => by
        obtain ⟨m', hm, w9⟩ := hNn σ9 H9 q9
        refine ⟨m', hm, i + 1, σ9, H9, J9.unpinned, T.keep _ _ _ st6 fun b hb o e => (J9.pin (b, o) (List.mem_append_right _ (List.mem_append_right _ (mem_pinsAt hb e)))).1, fun b hb => ?_, w9⟩
        obtain ⟨o, e, d⟩ := T.obj _ _ st6 b hb
        exact (J9.pin (b, o) (List.mem_append_right _ (List.mem_append_right _ (mem_pinsAt hb e)))).2.1
      subst hX'
      refine wpAny_mono (hg cl C fp s3 H3 _ s6 σ4 H6 x u _ J6' r6 (step x H6 y6)) (fun _ s7 q7 => ?_) fun _ _ z => z
      obtain ⟨σ7, H7, J7, q7⟩ := q7
      refine wpAny_mono (hf cl C fp s3 H3 _ s7 σ7 H7 _ J7 q7) (fun ok s8 q8 => ?_) fun _ _ z => z
      obtain ⟨H8, J8, q8⟩ := q8
      cases ok with
      | false =>
        rw [if_neg (by decide)] at q8
        rw [if_neg (by decide)]
        exact again J8 q8
      | true =>
        rw [if_pos rfl] at q8
        rw [if_pos rfl]
        refine wpAny_mono (he cl C fp s3 H3 _ s8 σ7 H8 _ J8 q8) (fun v9 s9 q9 => ?_) fun _ _ z => z
        obtain ⟨y, H9, J9, r9, xs, hD9, hz, q9⟩ := q9
        refine wpAny_mono (mt_append (X := cxComp X N scope cl C fp s3 H3) _ s9 σ7 H9 (.ref D) [y] (.ref D) [v9] (fun _ H' => Nn σ7 H') J9 rfl (.cons r9 .nil) ⟨D, xs, y, rfl, rfl, hD9, hz, q9⟩) (fun _ s10 q10 => ?_) fun _ _ z => z
        obtain ⟨_, H10, J10, _, q10⟩ := q10
        exact again J10 q10
  exact codeAny_compStart_list (loop _ rfl) (T.self _ 0 _ _ _ st4 (loop _ rfl))
theorem pe_comp (hc : X.calm = true) (ho : compOk X.N X.env.scope N caps scope = true) (hi : PI X tg iter wi)
    (hg : ∀ cl C fp s H, PG (cxComp X N scope cl C fp s H) tg g) (hf : ∀ cl C fp s H, PF (cxComp X N scope cl C fp s H) ifs tf) (he : ∀ cl C fp s H, PE (cxComp X N scope cl C fp s H) elt te)
    (hs : ∀ x, foldedSetIterable iter X.env x = pure x := by intro _; rfl) : PE X (.ListComp elt [⟨tg, iter, ifs, 0⟩] scope pos) (tComp caps wi g tf te) := by
  intro pins s σ H Q I h
  have S := compOk_of ho
  obtain ⟨cl, hcl, c1, c2⟩ := closFor (scope := scope) (env := X.env) (fun y hy e => I.ok.has y.1 (S.fr y hy e))
  rw [eval_ListComp]
  refine wpAny_comprehension_free (use := none) rfl hs hcl S.kind S.loc (comp_core (RR := fun acc C => compPost (model X.prog X.w) X.A X.xe none (EP X pins σ Q) acc C) hc S hi hg hf he c1 c2 I h ?_)
  intro D C m H5 s5 I5 hn fC q
  exact ⟨m, hn, fun h' sb => ⟨.ref D, H5, I5.turned (t' := s5.toks) (fun b o hb e => (sb.2 b hb).trans e) fC.1 fC.2.1 fC.2.2.2.1 fC.2.2.2.2.1 fC.2.2.2.2.2, rfl, q⟩⟩
theorem ps_setComp {i : Nat} {x : Str} {px spos : Pos} (hN : X.N.Nodup) (hix : X.N[i]? = some x) (hx : X.env.scope.names.lookup x = some .local) (hc : X.calm = true) (ho : compOk X.N X.env.scope N caps scope = true) (hi : PI X tg iter wi)
    (hg : ∀ cl C fp s H, PG (cxComp X N scope cl C fp s H) tg g) (hf : ∀ cl C fp s H, PF (cxComp X N scope cl C fp s H) ifs tf) (he : ∀ cl C fp s H, PE (cxComp X N scope cl C fp s H) elt te)
    (hsw : swapsWith (.ListComp elt [⟨tg, iter, ifs, 0⟩] scope pos) (some (.Name x px)) spos.line X.env = pure true := by rfl)
    (hs : ∀ x, foldedSetIterable iter X.env x = pure x := by intro _; rfl) : PS X (.Assign [.Name x px] (.ListComp elt [⟨tg, iter, ifs, 0⟩] scope pos) spos) (tAsg (tComp caps wi g tf te) (gName i)) := by
  intro pins s σ H D I h
  have S := compOk_of ho
  obtain ⟨cl, hcl, c1, c2⟩ := closFor (scope := scope) (env := X.env) (fun y hy e => I.ok.has y.1 (S.fr y hy e))
  rw [exec_Assign_Name_used _ _ _ _ hsw]
  refine wpAny_bind (wpAny_standAt (wpAny_bind ?_))
  show wpAny _ X.A (do let _ ← comprehension (.ListComp elt [⟨tg, iter, ifs, 0⟩] scope pos) scope X.env _ (newList []) false (eval iter X.env) (some (assign (.Name x px) X.env))) _ _ s
  refine wpAny_bind (wpAny_mono (wpAny_comprehension_free (use := some (assign (.Name x px) X.env)) (Q := fun _ s' => SP X pins D .next s') rfl hs hcl S.kind S.loc
    (comp_core (RR := fun acc C => compPost (model X.prog X.w) X.A X.xe (some (assign (.Name x px) X.env)) (fun _ s' => SP X pins D .next s') acc C) hc S hi hg hf he c1 c2 I h ?_)) (fun _ s' hq => wpAny_pure (wpAny_pure hq)) fun _ _ e => e)
  intro Da C m H5 s5 I5 hn fC q
  obtain ⟨oC, es, ep, hoC, hd, hrest⟩ := id hn
  have I5' := I5.pinned (fp := [C]) (fun b hb => by
    have e : b = C := by simpa using hb
    subst e; exact fC) (fun b hb => by
    have e : b = C := by simpa using hb
    subst e; exact ⟨oC, hoC, fun v z => by rw [hd] at z; cases z⟩)
  show wpAny _ X.A (assign (.Name x px) X.env (.ref Da)) _ _ _
  refine wpAny_assign_Name (store_ok I5' hN hix (.inl hx) (v := .ref Da) rfl (fun s6 I6 => ?_) (.inr hx))
  have pC := I6.pin (C, oC) (List.mem_append_right _ (List.mem_append_right _ (mem_pinsAt (by simp) hoC)))
  refine ⟨m, ⟨oC, es, ep, pC.1, hd, hrest⟩, fun h' sb => ?_⟩
  exact ⟨_, H5, I6.unpinned.turned (t' := s6.toks) (fun b o hb e => (sb.2 b hb).trans e) fC.1 fC.2.1 fC.2.2.2.1 fC.2.2.2.2.1 fC.2.2.2.2.2, q⟩
end
end L2
namespace L2
open PySem PySem.Spec PyProof.Rows
theorem comp_by {J : It} {g : TG} {tf : TT} {te : TE} {D : Addr} {QE : Hp → Prop} {σ : St} {H : Hp} (n : Nat) (Pv : Nat → St → Hp → Prop) (h0 : Pv 0 σ H) (hgo : ∀ i σ H, i < n → Pv i σ H → J.go i H) (hst : ∀ σ H, Pv n σ H → J.stop n H ∧ QE H)
    (hs : ∀ i σ H, i < n → Pv i σ H → ∀ x H', J.yld i H x H' → g x σ H' fun σ2 H2 => tf σ2 H2 fun b H3 => if b = true then te σ2 H3 fun v H4 => ∃ xs, H4 D = some (.lst xs) ∧ xs.length < sizeLine ∧ Pv (i + 1) σ2 (upd H4 D (.lst (xs ++ [v]))) else Pv (i + 1) σ2 H3) :
    ∃ W : Nat → Nat → St → Hp → Prop, (∃ m, W 0 m σ H) ∧ CompW J g tf te D QE W := by
  refine ⟨fun i m σ H => m = n - i ∧ i ≤ n ∧ Pv i σ H, ⟨n, by simp, Nat.zero_le _, h0⟩, ?_⟩
  rintro i m σ H ⟨rfl, hi, p⟩
  by_cases hlt : i < n
  · exact .inr ⟨hgo i σ H hlt p, Pv (i + 1), fun σ' H' p' => ⟨n - (i + 1), by omega, rfl, hlt, p'⟩, hs i σ H hlt p⟩
  · have e : i = n := by omega
    subst e
    exact .inl (hst σ H p)
def Its (z : Str) : It := ⟨fun i _ => i < z.cps.size, fun i H x H' => H' = H ∧ ∃ c, z.cps[i]? = some c ∧ x = .str ⟨#[c]⟩, fun i _ => i = z.cps.size⟩
theorem go_str {M : Model} {A : Around} {E : Value → Shared → Prop} {s : Shared} {tg : Expr} {it : Addr} {x : Str} {t : Tok} {Q : Unit → Shared → Prop} (hQ : Q () s) : wpAny M A (letOwnedTupleGo tg (.ref it) (.str x t)) Q E s := by
  unfold letOwnedTupleGo
  cases tg <;> exact wpAny_pure hQ
theorem turn_str {P : Program} {w : World} {K : PySem.W.Frag} {tg : Expr} (it : Addr) (z : Str) (t : Tok) (ty : String) (hty : ty = "str_ascii_iterator" ∨ ty = "str_iterator") :
    Turn P w K tg (Its z) [it] it (fun i h => h.IsStrIter it ty z t i) where
  mem := by simp
  obj := fun i h st b hb => by
    have e : b = it := by simpa using hb
    subst e
    obtain ⟨o, e, c, d⟩ := st
    exact ⟨o, e, fun v z => by rw [d] at z; cases z⟩
  keep := fun i h h' st k => let ⟨o, ho, r⟩ := st; ⟨o, k it (by simp) o ho, r⟩
  item := by
    intro X hP hw hK hc i pins s σ H E I hf st hg
    subst hP hw hK
    obtain ⟨f0, f1, f2, f3, f4, f5⟩ := hf it (by simp)
    have W : Walks X.prog X.w X.A it [it] [it] z.cps.size (SignAt z) (fun i h => h.IsStrIter it ty z t i) := by
      rcases hty with rfl | rfl
      · exact Walks.strAscii (I.ok.hd hc) it z t
      · exact Walks.strWide (I.ok.hd hc) it z t
    refine W.item i s _ _ hg st fun v h' tk hv st' kk => ?_
    obtain ⟨c, u, hx, rfl⟩ := hv
    have I1 : Inv X pins σ H { s with heap := h', toks := tk } := I.turned (fun b o hb e => kk b o (by simpa using hb) e) f0 f1 f3 f4 f5
    exact ⟨_, rfl, go_str ⟨.str ⟨#[c]⟩, H, I1, ⟨u, rfl⟩, ⟨rfl, c, hx, rfl⟩, st', fun b hb => (hf b hb).1⟩⟩
  done := by
    intro X hP hw hK hc i pins s σ H E I hf st hg
    subst hP hw hK
    obtain ⟨f0, f1, f2, f3, f4, f5⟩ := hf it (by simp)
    have W : Walks X.prog X.w X.A it [it] [it] z.cps.size (SignAt z) (fun i h => h.IsStrIter it ty z t i) := by
      rcases hty with rfl | rfl
      · exact Walks.strAscii (I.ok.hd hc) it z t
      · exact Walks.strWide (I.ok.hd hc) it z t
    have e : i = z.cps.size := hg
    subst e
    exact W.done s _ _ st fun h' tk kk => ⟨rfl, I.turned (fun b o hb e => kk b o (by simpa using hb) e) f0 f1 f3 f4 f5⟩
  self := fun _ _ _ _ _ st h => by
    rcases hty with rfl | rfl
    · exact wpAny_pyIter_striter_ascii st h
    · exact wpAny_pyIter_striter_wide st h
section
variable {X : Cx} {tg : Expr}
def iStr (tl : TE) : TI := fun σ H R => tl σ H fun x H1 => ∃ z, x = .str z ∧ R (Its z) H1
theorem pi_str {l : Expr} {tl : TE} (hl : PE X l tl) : PI X tg l (iStr tl) := by
  intro pins s σ H R I h
  refine thn (hl pins s σ H _ I h) fun v s1 ⟨x, H1, I1, r1, q1⟩ => ?_
  obtain ⟨z, e, q⟩ := q1
  subst e
  obtain ⟨t, rfl⟩ := r1
  have fin : ∀ ty, (ty = "str_ascii_iterator" ∨ ty = "str_iterator") → PIE X pins σ tg R (.ref s1.heap.objs.size) { s1 with heap := s1.heap.push { cls := .type ty, data := .fields #[.str z t, .int 0 0] } } := fun ty hty => by
    refine ⟨s1.heap.objs.size, [s1.heap.objs.size], _, _, H1, rfl, I1.kept (t' := s1.toks) fun b o e => Heap.get?_push_of_some _ e, turn_str _ z t ty hty, ⟨_, Heap.get?_push_size _ rfl, rfl, rfl⟩, fun b hb => ?_, q⟩
    have e : b = s1.heap.objs.size := by simpa using hb
    subst e
    exact I1.fpOk (Nat.le_refl _) (I1.hok.fresh (Nat.le_refl _))
  cases ha : z.cps.all (· < 128)
  · exact wpAny_pyIter_wide ha (fin _ (.inr rfl))
  · exact wpAny_pyIter_ascii ha (fin _ (.inl rfl))
end
def cutS (z : Str) (lo hi : Option Int) : Str := ⟨((z.cps.toList.drop (HT.sIx z.length 0 lo)).take (HT.sIx z.length z.length hi - HT.sIx z.length 0 lo)).toArray⟩
theorem strSlice_pick (lo hi : Option Int) (n : Nat) : Builtin.Str.strSliceIndices lo hi 1 n = (List.range (HT.sIx n n hi - HT.sIx n 0 lo)).map (HT.sIx n 0 lo + ·) := by
  have h : Builtin.Str.strSliceIndices lo hi 1 n = sliceRange ((HT.sIx n 0 lo : Nat) : Int) ((HT.sIx n n hi : Nat) : Int) 1 := by
    unfold Builtin.Str.strSliceIndices
    simp only [show (1 : Int) > 0 by decide, if_true]
    congr 1
    · cases lo with
      | none => rfl
      | some i =>
        rw [← HT.clip_eq i n 0]
        show max 0 (min (if i < 0 then i + (n : Int) else i) (n : Int)) = _
        split <;> omega
    · cases hi with
      | none => rfl
      | some i =>
        rw [← HT.clip_eq i n n]
        show max 0 (min (if i < 0 then i + (n : Int) else i) (n : Int)) = _
        split <;> omega
  rw [h]
  unfold sliceRange
  simp only [show (1 : Int) > 0 by decide, if_true]
  have e2 : (if ((HT.sIx n 0 lo : Nat) : Int) < ((HT.sIx n n hi : Nat) : Int) then (((HT.sIx n n hi : Nat) : Int) - ((HT.sIx n 0 lo : Nat) : Int) + 1 - 1) / 1 else 0).toNat = HT.sIx n n hi - HT.sIx n 0 lo := by
    split
    · rw [Int.ediv_one]; omega
    · omega
  rw [e2]
  apply List.map_congr_left
  intro k _
  omega
theorem pick_signs (xs : Array Nat) (i k : Nat) : (((List.range k).map (i + ·)).filterMap (xs[·]?)) = (xs.toList.drop i).take k := by
  induction k with
  | zero => simp
  | succ k ih =>
    rw [List.range_succ, List.map_append, List.filterMap_append, ih, List.take_succ]
    congr 1
    simp only [List.map_cons, List.map_nil, List.getElem?_drop, Array.getElem?_toList]
    cases h : xs[i + k]? <;> simp [h]
theorem cutS_length (z : Str) (lo hi : Option Int) : (cutS z lo hi).length ≤ z.length := by
  show ((z.cps.toList.drop _).take _).toArray.size ≤ z.length
  rw [List.size_toArray, List.length_take, List.length_drop]
  have : z.cps.toList.length = z.length := by simp [Str.length]
  omega
section
variable {X : Cx}
def rSlS : V → Option Int → Option Int → Hp → VK → Prop := fun x lo hi H Q => ∃ z, x = .str z ∧ z.length ≤ sizeLine ∧ Q (.str (cutS z lo hi)) H
theorem sl_str : SlR X rSlS := by
  intro pins s σ H x v vl vu lo hi sl Q I rx hs pl pu h
  obtain ⟨z, rfl, hzl, q⟩ := h
  obtain ⟨t, rfl⟩ := rx
  refine ⟨"str", _, F.slot_str_getitem.lookup, typeIs_str s z t, ?_⟩
  obtain ⟨l, rfl, el⟩ : ∃ l : Option (Int × Tok), vl = partValue l ∧ l.map (·.1) = lo := by
    cases pl with
    | none => exact ⟨none, rfl, rfl⟩
    | int i t => exact ⟨some (i, t), rfl, rfl⟩
  obtain ⟨u, rfl, eu⟩ : ∃ u : Option (Int × Tok), vu = partValue u ∧ u.map (·.1) = hi := by
    cases pu with
    | none => exact ⟨none, rfl, rfl⟩
    | int i t => exact ⟨some (i, t), rfl, rfl⟩
  refine wpAny_getItem_str_slice (l := l) (u := u) (st := none) hs rfl ?_
  have ep : slicePicked z l u none = (List.range (HT.sIx z.length z.length hi - HT.sIx z.length 0 lo)).map (HT.sIx z.length 0 lo + ·) := by
    unfold slicePicked
    rw [el, eu]
    exact strSlice_pick lo hi z.length
  have ec : (slicePicked z l u none).filterMap (z.cps[·]?) = (z.cps.toList.drop (HT.sIx z.length 0 lo)).take (HT.sIx z.length z.length hi - HT.sIx z.length 0 lo) := by
    rw [ep, pick_signs]
  unfold sliceMade
  split
  · rename_i hw
    have hlen : (slicePicked z l u none).length = z.length := by simpa using hw
    have e : cutS z lo hi = z := by
      have hl : z.cps.toList.length = z.length := by simp [Str.length]
      rw [ep, List.length_map, List.length_range] at hlen
      have h1 := HT.sIx_le z.length z.length (Nat.le_refl _) hi
      have a0 : HT.sIx z.length 0 lo = 0 ∨ z.length = 0 := by omega
      unfold cutS
      rcases a0 with a0 | a0
      · rw [hlen, a0, List.drop_zero, List.take_of_length_le (by omega)]
      · have z0 : z.cps.toList = [] := List.eq_nil_of_length_eq_zero (by omega)
        rw [z0, List.drop_nil, List.take_nil]
        cases z with
        | mk cps =>
          congr 1
          exact (Array.toList_inj.mp z0).symm
    rw [e] at q
    exact ⟨.str z, H, I, ⟨t, rfl⟩, q⟩
  · have e : (⟨((slicePicked z l u none).filterMap (z.cps[·]?)).toArray⟩ : Str) = cutS z lo hi := by
      unfold cutS
      rw [ec]
    rw [e]
    exact ⟨Nat.le_trans (cutS_length z lo hi) hzl, .str (cutS z lo hi), H, I.tok _, ⟨_, rfl⟩, q⟩
end
end L2
namespace L2
open PySem PySem.Spec PyProof.Rows
theorem all_range (bs : List Bool) : (List.range bs.length).all (fun i => (bs[i]?).getD true) = bs.all id := by
  rw [Bool.eq_iff_iff, List.all_eq_true, List.all_eq_true]
  constructor
  · intro h b hb
    obtain ⟨i, hi, e⟩ := List.mem_iff_getElem.mp hb
    have := h i (List.mem_range.mpr hi)
    rw [List.getElem?_eq_getElem hi, e] at this
    exact this
  · intro h i hi
    have hi' := List.mem_range.mp hi
    rw [List.getElem?_eq_getElem hi']
    exact h _ (List.getElem_mem hi')
theorem vals_bl {bs : List Bool} {us : List Value} (r : Vals (bs.map V.bl) us) {i : Nat} {v : Value} (h : us[i]? = some v) : ∃ b, bs[i]? = some b ∧ v = .bool b := by
  have hl := r.length
  obtain ⟨hi, _⟩ := List.getElem?_eq_some_iff.mp h
  rw [← hl, List.length_map] at hi
  have e : (bs.map V.bl)[i]? = some (V.bl bs[i]) := by rw [List.getElem?_map, List.getElem?_eq_getElem hi]; rfl
  obtain ⟨u, hu, ru⟩ := r.get e
  rw [h] at hu
  cases hu
  exact ⟨bs[i], List.getElem?_eq_getElem hi, ru⟩
section
variable {X : Cx}
theorem call_allL (hc : X.calm = true) (K : PySem.W.Frag) (hK : X.K = K := by rfl) : CallR X (.builtin "all") (fun xs H Q => ∃ (p : Addr) (bs : List Bool), xs = [.ref p] ∧ SqL K H p (bs.map V.bl) ∧ Q (.bl (bs.all id)) H) := by
  subst hK
  intro pins s σ H xs us Q I r h
  obtain ⟨p, bs, rfl, hp, q⟩ := h
  obtain ⟨u, rfl, ru⟩ := vals1 r
  cases ru
  obtain ⟨its, rv, pl, hz⟩ := I.list hp
  have hl : its.toArray.size = bs.length := by
    have := rv.length
    rw [List.length_map] at this
    rw [List.size_toArray]
    exact this.symm
  have hh : X.A.in1.handled = none := I.ok.hd hc
  have hne : p ≠ s.heap.objs.size := fun e => by
    obtain ⟨o, n, e1, _⟩ := pl
    exact absurd (Heap.lt_size e1) (by rw [e]; exact Nat.lt_irrefl _)
  refine call_all_walk (wpAny_pyIter_list pl.isList ?_)
  refine ⟨s.heap.objs.size, _, _, _, _, _, fun i => (bs[i]?).getD true, rfl, Walks.list hh _ p hne its.toArray, ⟨⟨_, Heap.get?_push_size _ rfl, rfl, rfl⟩, pl.isList.at fun o e => Heap.get?_push_of_some _ e⟩, ?_, fun h' tk kk => ?_⟩
  · intro i v s' Q' E' hv hq
    have hv' : its[i]? = some v := by simpa using hv
    obtain ⟨b, e, rfl⟩ := vals_bl rv hv'
    have hq' : Q' ((bs[i]?).getD true) s' := hq
    rw [e] at hq'
    exact wpAny_truthy_bool hq'
  · rw [hl, all_range]
    exact ⟨.bl _, H, I.kept fun b o e => kk b o (by simp; exact Nat.ne_of_lt (Heap.lt_size e)) (Heap.get?_push_of_some _ e), rfl, q⟩
def tyTs : List String := ["NoneType", "bool", "int", "str", "list", "tuple", "dict"]
def tyNs : List String := ["bool", "int", "str", "list", "tuple", "dict"]
def tyIs (T n : String) : Bool := T == n || (T == "bool" && n == "int")
theorem kit_tab : ∀ T ∈ tyTs, ∀ n ∈ tyNs, PySem.W.kitMeta n = true ∧ (PySem.fastBuiltinMro T).map (·.contains (Value.type n)) = some (tyIs T n) := by decide +kernel
theorem kit_one {K : PySem.W.Frag} {T n : String} (hT : T ∈ tyTs) (hn : n ∈ tyNs) : PySem.W.kitOne K (.type T) (.type n) = some (tyIs T n) := by
  obtain ⟨h1, h2⟩ := kit_tab T hT n hn
  unfold PySem.W.kitOne
  split
  · rename_i e
    have e' := eq_of_beq e
    injection e' with e''
    subst e''
    simp [tyIs]
  · unfold PySem.W.kitCls
    show (if PySem.W.kitMeta n = true then PySem.W.subIn K (.type T) (.type n) else none) = _
    rw [if_pos h1]
    exact h2
theorem call_isi (K : PySem.W.Frag) (hK : X.K = K := by rfl) : CallR X (.builtin "isinstance") (fun xs H Q => ∃ x n T, xs = [x, .ty n] ∧ TyOf K H x (.type T) ∧ T ∈ tyTs ∧ n ∈ tyNs ∧ Q (.bl (tyIs T n)) H) := by
  subst hK
  intro pins s σ H xs us Q I r h
  obtain ⟨x, n, T, rfl, ty, hT, hn, q⟩ := h
  obtain ⟨u, c, rfl, ru, rc⟩ := vals2 r
  cases rc
  exact isinst_ok I ru ty (kit_one hT hn) fun tk => ⟨.bl _, H, I.tok tk, rfl, q⟩
theorem pe_gI {x : Str} {i : Int} {pos : Pos} (hg : Gl X x) (hm : ∃ t, X.mg x = some (.int i t)) (hd : (x == ("__debug__" : Str)) = false := by decide) : PE X (.Name x pos) (tC (.int i)) := by
  obtain ⟨t, e⟩ := hm
  exact pe_glob hg e ⟨t, rfl⟩ hd
theorem pe_gS {x z : Str} {pos : Pos} (hg : Gl X x) (hm : ∃ t, X.mg x = some (.str z t)) (hd : (x == ("__debug__" : Str)) = false := by decide) : PE X (.Name x pos) (tC (.str z)) := by
  obtain ⟨t, e⟩ := hm
  exact pe_glob hg e ⟨t, rfl⟩ hd
theorem pe_ty {x : Str} {n : String} {pos : Pos} (hg : Gl X x) (hm : X.mg x = none) (hv : bootBuiltins x = some (.type n)) (hn : x ≠ "__name__" := by decide) (hd : (x == ("__debug__" : Str)) = false := by decide) : PE X (.Name x pos) (tC (.ty n)) :=
  pe_bltn hg hm hv rfl hn hd
end
structure Top (K : PySem.W.Frag) (mg : Str → Option Value) (x : Str) (st : Stmt) (ps : List Str) : Prop where
  ex : ∃ f fd, Fun K x x st f fd ∧ mg x = some (.ref f) ∧ ∀ us : List Value, us.length = ps.length → bindArgs fd ⟨us, []⟩ = pure (ps.zip us)
theorem top_mk {K : PySem.W.Frag} {h : Heap} {mg : Str → Option Value} {x : Str} {st : Stmt} {ps : List Str} {f : Addr} {oc : Value} {od an : Option Addr} {osl : Array (Option Value)} {kV doc pm cdv ct : Value} (X : K.In h) (G : h.Ns mainGlobals mg)
    (b : ∀ (kV doc pm : Value) (an : Option Addr) (cdv ct : Value) (us : List Value), us.length = ps.length → bindArgs (PySem.W.fnOf x x (defArgs st) (defBody st) (defScope st) .none kV doc pm an cdv ct) ⟨us, []⟩ = pure (ps.zip us))
    (a : PySem.W.nsIn K mainGlobals x = some (some (.ref f)))
    (l : K.lookup f = some ⟨oc, od, .func (PySem.W.fnOf x x (defArgs st) (defBody st) (defScope st) .none kV doc pm an cdv ct), osl⟩) (c : PySem.W.codeIn K cdv x = true) (k : PySem.W.keepIn K (.ref f) = true) : Top K mg x st ps := by
  have F := fun_mk (st := st) l c k
  exact ⟨f, _, F, PySem.W.mg_of X G a, b kV doc pm an cdv ct⟩
structure Def (P : Program) (w : World) (K : PySem.W.Frag) (mg : Str → Option Value) (base : Heap) (k : Nat) (x : Str) (ps : List Str) (sp : Sp) : Prop where
  ex : ∃ f fd, FnOk P w K mg base CX0 k f fd ps sp ∧ mg x = some (.ref f) ∧ PySem.W.keepIn K (.ref f) = true ∧ Binds K fd ps []
theorem Top.ok {P : Program} {w : World} {K : PySem.W.Frag} {mg : Str → Option Value} {base : Heap} {x : Str} {st : Stmt} {N ps : List Str} {k : Nat} {sp : Sp} (T : Top K mg x st ps) (S : FnScope N ps (defScope st)) (len : ∀ vs H Q E, sp vs H Q E → vs.length = ps.length)
    (hbody : ∀ (f : Addr) (cdv : Value) (A : Around) (outer : List Env) (s : Shared) (H : Hp) (vs : List V) (Q : VK) (E : XK), Room k (A.deeper (envOfC x (defScope st) s.heap.objs.size f cdv)) → sp vs H Q E →
      ∃ t, PSs (cxOf CX0 P w K mg base N x (defScope st) f cdv A outer s H E).nox (defBody st) t ∧ t { nx := fun _ H' => Q .non H', rt := Q } (start N vs) H) : Def P w K mg base (k + 1) x ps sp := by
  obtain ⟨f, fd, F, hm, hb⟩ := T.ex
  exact ⟨f, fd, F.ok S len (hbody f), hm, F.kp, Binds.all hb⟩
theorem Top.fin {l : PySem.W.OpenLaw} {w : World} {K : PySem.W.Frag} {mg : Str → Option Value} {fa : Addr} {x : Str} {st : Stmt} {N : List Str} {k : Nat} {sp : Sp} (T : Top K mg "law" st [x]) (hfa : mg "law" = some (.ref fa)) (S : FnScope N [x] (defScope st))
    (len : ∀ vs H Q E, sp vs H Q E → vs.length = [x].length)
    (hbody : ∀ (base : Heap) (f : Addr) (cdv : Value) (A : Around) (outer : List Env) (s : Shared) (H : Hp) (vs : List V) (Q : VK) (E : XK), Room k (A.deeper (envOfC "law" (defScope st) s.heap.objs.size f cdv)) → sp vs H Q E →
      ∃ t, PSs (cxOf CX0 l.prog w K mg base N "law" (defScope st) f cdv A outer s H E).nox (defBody st) t ∧ t { nx := fun _ H' => Q .non H', rt := Q } (start N vs) H) :
    ∃ fd : FuncData, (∀ (s : Shared) (v : Value), BindsTo s fd ⟨[v], []⟩ [(x, v)]) ∧ ∀ base : Heap, K.In base → base.Ns mainGlobals mg → FnOk l.prog w K mg base CX0 (k + 1) fa fd [x] sp := by
  obtain ⟨f, fd, F, hm, hb⟩ := T.ex
  have e := hfa.symm.trans hm
  injection e with e
  injection e with e
  subst e
  exact ⟨fd, fun s v => .of_eq (hb [v] rfl), fun base _ _ => F.ok S len (hbody base fa)⟩
section
variable {X : Cx} {k k' : Nat} {x : Str} {ps : List Str} {sp : Sp} {p pos : Pos} {e : Expr} {es : List Expr} {t : TA}
theorem pe_def (D : Def X.prog X.w X.K X.mg X.base k x ps sp) (hr : Room k' X.A) (hg : Gl X x) (ha : PA X (e :: es) t) (hkk : k ≤ k' := by decide)
    (hdb : (x == ("__debug__" : Str)) = false := by decide) (he : starEach (e :: es) X.env = (false, eval e X.env) :: starEach es X.env := by rfl) (hpl : (backTo pos (starEach es X.env)).any (·.1) = false := by rfl) :
    PE X (.Call (.Name x p) (e :: es) [] pos) (tCall sp [] E0 t) := by
  obtain ⟨f, fd, F, hm, hk, hb⟩ := D.ex
  exact pe_call F (hr.mono hkk) hg hm hk hb .nil pass0 ha hdb he hpl
end
end L2
namespace L2
open PySem PySem.Spec PyProof.Rows
section
variable {X : Cx} {tg : Expr}
theorem call_lenK (K : PySem.W.Frag) (hK : X.K = K := by rfl) : CallR X (.builtin "len") (fun xs H Q => ∃ x n, xs = [x] ∧ LenV K x H n ∧ Q (.int n) H) := by subst hK; exact call_len
theorem ix_listK (K : PySem.W.Frag) (hK : X.K = K := by rfl) : IxR X (rIxL K) := by subst hK; exact ix_list
theorem ix_tupK (K : PySem.W.Frag) (hK : X.K = K := by rfl) : IxR X (rIxT K) := by subst hK; exact ix_tup
theorem sl_listK (K : PySem.W.Frag) (hK : X.K = K := by rfl) : SlR X (rSlL K) := by subst hK; exact sl_list
theorem pi_listK (K : PySem.W.Frag) {l : Expr} {tl : TE} (hl : PE X l tl) (hK : X.K = K := by rfl) : PI X tg l (iList K tl) := by subst hK; exact pi_list hl
theorem pi_tupK (K : PySem.W.Frag) {l : Expr} {tl : TE} (hl : PE X l tl) (hK : X.K = K := by rfl) : PI X tg l (iTup K tl) := by subst hK; exact pi_tup hl
theorem op_notInK (K : PySem.W.Frag) (hK : X.K = K := by rfl) : OpR X (compareOp .NotIn) (rIn K true) := by subst hK; exact op_notIn_seq
theorem op_catTK (K : PySem.W.Frag) (hK : X.K = K := by rfl) : OpR X (binaryOp .Add) (rCatT K) := by subst hK; exact op_catT
theorem call_tupleK (K : PySem.W.Frag) (hK : X.K = K := by rfl) : CallR X (.type "tuple") (fun xs H Q => ∃ p ys, xs = [.ref p] ∧ ((SqL K H p ys ∧ ∀ l, H l = none → Q (.ref l) (upd H l (.tup ys))) ∨ (SqT K H p ys ∧ Q (.ref p) H))) := by subst hK; exact call_tuple_of
end
theorem atI_in {α : Type} {xs : List α} {i : Int} (h0 : 0 ≤ i) (h1 : i < xs.length) : ∃ v, atI xs i = some v ∧ v ∈ xs := by
  have hlt : i.toNat < xs.length := by omega
  refine ⟨xs[i.toNat], ?_, List.getElem_mem hlt⟩
  unfold atI ixN
  rw [if_pos h0, if_pos h1]
  show xs[i.toNat]? = _
  exact List.getElem?_eq_getElem hlt
theorem atI_lt {α : Type} {xs : List α} {i : Int} (h0 : 0 ≤ i) (h1 : i < xs.length) : atI xs i = xs[i.toNat]? := by
  unfold atI ixN
  rw [if_pos h0, if_pos h1]
  rfl
theorem same_upd {H : Hp} {a : Addr} {o : HO} (h : H a = none) : Same H (upd H a o) := fun b u e => by
  rw [upd_ne (ne_of_none e h)]
  exact e
theorem Same.set {H H' : Hp} {a : Addr} {o : HO} (h : Same H H') (n : H a = none) : Same H (upd H' a o) := fun b u e => by
  rw [upd_ne (ne_of_none e n)]
  exact h b u e
theorem Same.seqT {K : PySem.W.Frag} {H H' : Hp} {a : Addr} {xs : List V} (e : Same H H') (h : SqT K H a xs) : SqT K H' a xs := by
  rcases h with (h | ⟨o, h⟩) | h
  · exact .inl (.inl (e _ _ h))
  · exact .inl (.inr ⟨o, e _ _ h⟩)
  · exact .inr h
theorem TyOf.same {K : PySem.W.Frag} {H H' : Hp} {x : V} {t : Value} (s : Same H H') (h : TyOf K H x t) : TyOf K H' x t := by
  cases h with
  | non => exact .non
  | bl b => exact .bl b
  | int i => exact .int i
  | str x => exact .str x
  | flt x => exact .flt x
  | lst e => exact .lst (s _ _ e)
  | frz e => exact .frz (s _ _ e)
  | tup e => exact .tup (s _ _ e)
  | dK e => exact .dK (s _ _ e)
  | dT e => exact .dT (s _ _ e)
  | ins e cl ha hn ht hm => exact .ins (s _ _ e) cl ha hn ht hm
def notStar : Expr → Bool
  | .Starred _ _ => false
  | _ => true
theorem starEach_cons {e : Expr} {es : List Expr} {env : Env} (h : notStar e = true) : starEach (e :: es) env = (false, eval e env) :: starEach es env := by
  cases e <;> first
    | rfl
    | cases h
theorem pa_con {X : Cx} {e : Expr} {es : List Expr} {te : TE} {t : TA} (ha : PE X e te) (hr : PA X es t) (hs : notStar e = true := by rfl) : PA X (e :: es) (tCons te t) := pa_cons ha hr (starEach_cons hs)
theorem bt_len : bootBuiltins "len" = some (.builtin "len") := by decide +kernel
theorem bt_isinstance : bootBuiltins "isinstance" = some (.builtin "isinstance") := by decide +kernel
theorem bt_all : bootBuiltins "all" = some (.builtin "all") := by decide +kernel
theorem bt_zip : bootBuiltins "zip" = some (.type "zip") := by decide +kernel
theorem bt_str : bootBuiltins "str" = some (.type "str") := by decide +kernel
theorem bt_int : bootBuiltins "int" = some (.type "int") := by decide +kernel
theorem bt_bool : bootBuiltins "bool" = some (.type "bool") := by decide +kernel
theorem bt_tuple : bootBuiltins "tuple" = some (.type "tuple") := by decide +kernel
theorem getD_lt {α : Type} {l : List α} {i : Nat} {d : α} (h : i < l.length) : l.getD i d = l[i] := by
  rw [List.getD_eq_getElem?_getD, List.getElem?_eq_getElem h]
  rfl
theorem getD_ge {α : Type} {l : List α} {i : Nat} {d : α} (h : l.length ≤ i) : l.getD i d = d := by
  rw [List.getD_eq_getElem?_getD, List.getElem?_eq_none_iff.mpr h]
  rfl
theorem pa_1 {X : Cx} {e0 : Expr} {t0 : TE} (h0 : PE X e0 t0) (hs0 : notStar e0 = true := by rfl) : PA X [e0] (tCons t0 tNil) := (pa_con h0 pa_nil hs0)
theorem pa_2 {X : Cx} {e0 e1 : Expr} {t0 t1 : TE} (h0 : PE X e0 t0) (h1 : PE X e1 t1) (hs0 : notStar e0 = true := by rfl) (hs1 : notStar e1 = true := by rfl) : PA X [e0, e1] (tCons t0 (tCons t1 tNil)) := (pa_con h0 (pa_con h1 pa_nil hs1) hs0)
theorem pa_3 {X : Cx} {e0 e1 e2 : Expr} {t0 t1 t2 : TE} (h0 : PE X e0 t0) (h1 : PE X e1 t1) (h2 : PE X e2 t2) (hs0 : notStar e0 = true := by rfl) (hs1 : notStar e1 = true := by rfl) (hs2 : notStar e2 = true := by rfl) : PA X [e0, e1, e2] (tCons t0 (tCons t1 (tCons t2 tNil))) := (pa_con h0 (pa_con h1 (pa_con h2 pa_nil hs2) hs1) hs0)
theorem pa_4 {X : Cx} {e0 e1 e2 e3 : Expr} {t0 t1 t2 t3 : TE} (h0 : PE X e0 t0) (h1 : PE X e1 t1) (h2 : PE X e2 t2) (h3 : PE X e3 t3) (hs0 : notStar e0 = true := by rfl) (hs1 : notStar e1 = true := by rfl) (hs2 : notStar e2 = true := by rfl) (hs3 : notStar e3 = true := by rfl) : PA X [e0, e1, e2, e3] (tCons t0 (tCons t1 (tCons t2 (tCons t3 tNil)))) := (pa_con h0 (pa_con h1 (pa_con h2 (pa_con h3 pa_nil hs3) hs2) hs1) hs0)
theorem pa_5 {X : Cx} {e0 e1 e2 e3 e4 : Expr} {t0 t1 t2 t3 t4 : TE} (h0 : PE X e0 t0) (h1 : PE X e1 t1) (h2 : PE X e2 t2) (h3 : PE X e3 t3) (h4 : PE X e4 t4) (hs0 : notStar e0 = true := by rfl) (hs1 : notStar e1 = true := by rfl) (hs2 : notStar e2 = true := by rfl) (hs3 : notStar e3 = true := by rfl) (hs4 : notStar e4 = true := by rfl) : PA X [e0, e1, e2, e3, e4] (tCons t0 (tCons t1 (tCons t2 (tCons t3 (tCons t4 tNil))))) := (pa_con h0 (pa_con h1 (pa_con h2 (pa_con h3 (pa_con h4 pa_nil hs4) hs3) hs2) hs1) hs0)
theorem pa_6 {X : Cx} {e0 e1 e2 e3 e4 e5 : Expr} {t0 t1 t2 t3 t4 t5 : TE} (h0 : PE X e0 t0) (h1 : PE X e1 t1) (h2 : PE X e2 t2) (h3 : PE X e3 t3) (h4 : PE X e4 t4) (h5 : PE X e5 t5) (hs0 : notStar e0 = true := by rfl) (hs1 : notStar e1 = true := by rfl) (hs2 : notStar e2 = true := by rfl) (hs3 : notStar e3 = true := by rfl) (hs4 : notStar e4 = true := by rfl) (hs5 : notStar e5 = true := by rfl) : PA X [e0, e1, e2, e3, e4, e5] (tCons t0 (tCons t1 (tCons t2 (tCons t3 (tCons t4 (tCons t5 tNil)))))) := (pa_con h0 (pa_con h1 (pa_con h2 (pa_con h3 (pa_con h4 (pa_con h5 pa_nil hs5) hs4) hs3) hs2) hs1) hs0)
theorem pa_7 {X : Cx} {e0 e1 e2 e3 e4 e5 e6 : Expr} {t0 t1 t2 t3 t4 t5 t6 : TE} (h0 : PE X e0 t0) (h1 : PE X e1 t1) (h2 : PE X e2 t2) (h3 : PE X e3 t3) (h4 : PE X e4 t4) (h5 : PE X e5 t5) (h6 : PE X e6 t6) (hs0 : notStar e0 = true := by rfl) (hs1 : notStar e1 = true := by rfl) (hs2 : notStar e2 = true := by rfl) (hs3 : notStar e3 = true := by rfl) (hs4 : notStar e4 = true := by rfl) (hs5 : notStar e5 = true := by rfl) (hs6 : notStar e6 = true := by rfl) : PA X [e0, e1, e2, e3, e4, e5, e6] (tCons t0 (tCons t1 (tCons t2 (tCons t3 (tCons t4 (tCons t5 (tCons t6 tNil))))))) := (pa_con h0 (pa_con h1 (pa_con h2 (pa_con h3 (pa_con h4 (pa_con h5 (pa_con h6 pa_nil hs6) hs5) hs4) hs3) hs2) hs1) hs0)
theorem pss_2 {X : Cx} {s0 s1 : Stmt} {t0 t1 : TS} (h0 : PS X s0 t0) (h1 : PS X s1 t1) : PSs X [s0, s1] (tSeq t0 t1) := (pss_cons h0 (pss_one h1))
theorem pss_3 {X : Cx} {s0 s1 s2 : Stmt} {t0 t1 t2 : TS} (h0 : PS X s0 t0) (h1 : PS X s1 t1) (h2 : PS X s2 t2) : PSs X [s0, s1, s2] (tSeq t0 (tSeq t1 t2)) := (pss_cons h0 (pss_cons h1 (pss_one h2)))
theorem pss_4 {X : Cx} {s0 s1 s2 s3 : Stmt} {t0 t1 t2 t3 : TS} (h0 : PS X s0 t0) (h1 : PS X s1 t1) (h2 : PS X s2 t2) (h3 : PS X s3 t3) : PSs X [s0, s1, s2, s3] (tSeq t0 (tSeq t1 (tSeq t2 t3))) := (pss_cons h0 (pss_cons h1 (pss_cons h2 (pss_one h3))))
theorem pss_5 {X : Cx} {s0 s1 s2 s3 s4 : Stmt} {t0 t1 t2 t3 t4 : TS} (h0 : PS X s0 t0) (h1 : PS X s1 t1) (h2 : PS X s2 t2) (h3 : PS X s3 t3) (h4 : PS X s4 t4) : PSs X [s0, s1, s2, s3, s4] (tSeq t0 (tSeq t1 (tSeq t2 (tSeq t3 t4)))) := (pss_cons h0 (pss_cons h1 (pss_cons h2 (pss_cons h3 (pss_one h4)))))
theorem pss_6 {X : Cx} {s0 s1 s2 s3 s4 s5 : Stmt} {t0 t1 t2 t3 t4 t5 : TS} (h0 : PS X s0 t0) (h1 : PS X s1 t1) (h2 : PS X s2 t2) (h3 : PS X s3 t3) (h4 : PS X s4 t4) (h5 : PS X s5 t5) : PSs X [s0, s1, s2, s3, s4, s5] (tSeq t0 (tSeq t1 (tSeq t2 (tSeq t3 (tSeq t4 t5))))) := (pss_cons h0 (pss_cons h1 (pss_cons h2 (pss_cons h3 (pss_cons h4 (pss_one h5))))))
theorem pss_8 {X : Cx} {s0 s1 s2 s3 s4 s5 s6 s7 : Stmt} {t0 t1 t2 t3 t4 t5 t6 t7 : TS} (h0 : PS X s0 t0) (h1 : PS X s1 t1) (h2 : PS X s2 t2) (h3 : PS X s3 t3) (h4 : PS X s4 t4) (h5 : PS X s5 t5) (h6 : PS X s6 t6) (h7 : PS X s7 t7) : PSs X [s0, s1, s2, s3, s4, s5, s6, s7] (tSeq t0 (tSeq t1 (tSeq t2 (tSeq t3 (tSeq t4 (tSeq t5 (tSeq t6 t7))))))) := (pss_cons h0 (pss_cons h1 (pss_cons h2 (pss_cons h3 (pss_cons h4 (pss_cons h5 (pss_cons h6 (pss_one h7))))))))
theorem pss_10 {X : Cx} {s0 s1 s2 s3 s4 s5 s6 s7 s8 s9 : Stmt} {t0 t1 t2 t3 t4 t5 t6 t7 t8 t9 : TS} (h0 : PS X s0 t0) (h1 : PS X s1 t1) (h2 : PS X s2 t2) (h3 : PS X s3 t3) (h4 : PS X s4 t4) (h5 : PS X s5 t5) (h6 : PS X s6 t6) (h7 : PS X s7 t7) (h8 : PS X s8 t8) (h9 : PS X s9 t9) : PSs X [s0, s1, s2, s3, s4, s5, s6, s7, s8, s9] (tSeq t0 (tSeq t1 (tSeq t2 (tSeq t3 (tSeq t4 (tSeq t5 (tSeq t6 (tSeq t7 (tSeq t8 t9))))))))) := (pss_cons h0 (pss_cons h1 (pss_cons h2 (pss_cons h3 (pss_cons h4 (pss_cons h5 (pss_cons h6 (pss_cons h7 (pss_cons h8 (pss_one h9))))))))))
theorem psr_1 {X : Cx} {s0 : Stmt} {ss : List Stmt} {t0 u : TS} (h0 : PS X s0 t0) (hu : PSs X ss u) : PSs X (s0 :: ss) (tSeq t0 u) := (pss_cons h0 hu)
theorem psr_2 {X : Cx} {s0 s1 : Stmt} {ss : List Stmt} {t0 t1 u : TS} (h0 : PS X s0 t0) (h1 : PS X s1 t1) (hu : PSs X ss u) : PSs X (s0 :: s1 :: ss) (tSeq t0 (tSeq t1 u)) := (pss_cons h0 (pss_cons h1 hu))
theorem psr_3 {X : Cx} {s0 s1 s2 : Stmt} {ss : List Stmt} {t0 t1 t2 u : TS} (h0 : PS X s0 t0) (h1 : PS X s1 t1) (h2 : PS X s2 t2) (hu : PSs X ss u) : PSs X (s0 :: s1 :: s2 :: ss) (tSeq t0 (tSeq t1 (tSeq t2 u))) := (pss_cons h0 (pss_cons h1 (pss_cons h2 hu)))
theorem psr_7 {X : Cx} {s0 s1 s2 s3 s4 s5 s6 : Stmt} {ss : List Stmt} {t0 t1 t2 t3 t4 t5 t6 u : TS} (h0 : PS X s0 t0) (h1 : PS X s1 t1) (h2 : PS X s2 t2) (h3 : PS X s3 t3) (h4 : PS X s4 t4) (h5 : PS X s5 t5) (h6 : PS X s6 t6) (hu : PSs X ss u) : PSs X (s0 :: s1 :: s2 :: s3 :: s4 :: s5 :: s6 :: ss) (tSeq t0 (tSeq t1 (tSeq t2 (tSeq t3 (tSeq t4 (tSeq t5 (tSeq t6 u))))))) := (pss_cons h0 (pss_cons h1 (pss_cons h2 (pss_cons h3 (pss_cons h4 (pss_cons h5 (pss_cons h6 hu)))))))
theorem psr_9 {X : Cx} {s0 s1 s2 s3 s4 s5 s6 s7 s8 : Stmt} {ss : List Stmt} {t0 t1 t2 t3 t4 t5 t6 t7 t8 u : TS} (h0 : PS X s0 t0) (h1 : PS X s1 t1) (h2 : PS X s2 t2) (h3 : PS X s3 t3) (h4 : PS X s4 t4) (h5 : PS X s5 t5) (h6 : PS X s6 t6) (h7 : PS X s7 t7) (h8 : PS X s8 t8) (hu : PSs X ss u) : PSs X (s0 :: s1 :: s2 :: s3 :: s4 :: s5 :: s6 :: s7 :: s8 :: ss) (tSeq t0 (tSeq t1 (tSeq t2 (tSeq t3 (tSeq t4 (tSeq t5 (tSeq t6 (tSeq t7 (tSeq t8 u))))))))) := (pss_cons h0 (pss_cons h1 (pss_cons h2 (pss_cons h3 (pss_cons h4 (pss_cons h5 (pss_cons h6 (pss_cons h7 (pss_cons h8 hu)))))))))
theorem join_at {X : Cx} {body : List Stmt} {D : Ends} {σ : St} {H : Hp} (n : Nat) (C : St → Hp → Prop) (rest : ∃ u, PSs X (body.drop n) u ∧ ∀ σ H, C σ H → u D σ H)
    (first : ∀ u, PSs X (body.drop n) u → (∀ σ H, C σ H → u D σ H) → ∃ t, PSs X body t ∧ t D σ H) : ∃ t, PSs X body t ∧ t D σ H :=
  let ⟨u, h1, h2⟩ := rest
  first u h1 h2
theorem join_more {X : Cx} {body : List Stmt} {D : Ends} {C0 : St → Hp → Prop} (n : Nat) (C : St → Hp → Prop) (rest : ∃ u, PSs X (body.drop n) u ∧ ∀ σ H, C σ H → u D σ H)
    (first : ∀ u, PSs X (body.drop n) u → (∀ σ H, C σ H → u D σ H) → ∃ t, PSs X body t ∧ ∀ σ H, C0 σ H → t D σ H) : ∃ t, PSs X body t ∧ ∀ σ H, C0 σ H → t D σ H :=
  let ⟨u, h1, h2⟩ := rest
  first u h1 h2
end L2
namespace L2
open PySem PySem.Spec PyProof.Rows
mutual
inductive Dat (K : PySem.W.Frag) (H : Hp) : PyData → V → Prop
  | non : Dat K H .none .non
  | bl (b : Bool) : Dat K H (.bool b) (.bl b)
  | int (i : Int) : Dat K H (.int i) (.int i)
  | str (x : Str) (h : PyData.strOk x = true) : Dat K H (.str x) (.str x)
  | lst {a : Addr} {xs : List V} {ds : List PyData} : SqL K H a xs → Dats K H ds xs → Dat K H (.list ds) (.ref a)
  | tup {a : Addr} {xs : List V} {ds : List PyData} : SqT K H a xs → Dats K H ds xs → Dat K H (.tuple ds) (.ref a)
inductive Dats (K : PySem.W.Frag) (H : Hp) : List PyData → List V → Prop
  | nil : Dats K H [] []
  | cons {d : PyData} {x : V} {ds : List PyData} {xs : List V} : Dat K H d x → Dats K H ds xs → Dats K H (d :: ds) (x :: xs)
end
section
variable {K : PySem.W.Frag} {H H' : Hp}
mutual
theorem Dat.same (s : Same H H') : ∀ (d : PyData) (x : V), Dat K H d x → Dat K H' d x
  | _, _, .non => .non
  | _, _, .bl b => .bl b
  | _, _, .int i => .int i
  | _, _, .str x h => .str x h
  | _, _, .lst h r => .lst (s.seq h) (Dats.same s _ _ r)
  | _, _, .tup h r => .tup (s.seqT h) (Dats.same s _ _ r)
theorem Dats.same (s : Same H H') : ∀ (ds : List PyData) (xs : List V), Dats K H ds xs → Dats K H' ds xs
  | _, _, .nil => .nil
  | _, _, .cons a b => .cons (Dat.same s _ _ a) (Dats.same s _ _ b)
end
mutual
theorem Dat.lay : ∀ (d : PyData) (x : V), Dat K H d x → d.canLay0 = true
  | _, _, .non => rfl
  | _, _, .bl _ => rfl
  | _, _, .int _ => rfl
  | _, _, .str _ h => h
  | _, _, .lst _ r => Dats.lay _ _ r
  | _, _, .tup _ r => Dats.lay _ _ r
theorem Dats.lay : ∀ (ds : List PyData) (xs : List V), Dats K H ds xs → PyData.canLayAll0 ds = true
  | _, _, .nil => rfl
  | _, _, .cons a b => by rw [PyData.canLayAll0, Dat.lay _ _ a, Dats.lay _ _ b]; rfl
end
end
section
variable {X : Cx} {pins : List (Addr × Obj)} {σ : St} {H : Hp} {s : Shared}
mutual
theorem Dat.reads (I : Inv X pins σ H s) : ∀ (d : PyData) (x : V) (u : Value), Dat X.K H d x → RelV x u → ∃ as, Reads s.heap u d as
  | _, _, _, .non, r => by cases r; exact ⟨_, .none⟩
  | _, _, _, .bl b, r => by cases r; exact ⟨_, .bool b⟩
  | _, _, _, .int i, r => by obtain ⟨t, rfl⟩ := r; exact ⟨_, .int i t⟩
  | _, _, _, .str x _, r => by obtain ⟨t, rfl⟩ := r; exact ⟨_, .str x t⟩
  | _, _, _, .lst h q, r => by
    cases r
    obtain ⟨its, rv, ⟨o, n, e, c, _, d⟩, _⟩ := I.list h
    obtain ⟨as, ra⟩ := Dats.reads I _ _ _ q rv
    exact ⟨_, .list e c d (by simpa using ra)⟩
  | _, _, _, .tup h q, r => by
    cases r
    obtain ⟨its, rv, ⟨o, e, c, n, d⟩, _⟩ := I.tuple h
    obtain ⟨as, ra⟩ := Dats.reads I _ _ _ q rv
    exact ⟨_, .tuple e c d (by simpa using ra)⟩
theorem Dats.reads (I : Inv X pins σ H s) : ∀ (ds : List PyData) (xs : List V) (us : List Value), Dats X.K H ds xs → Vals xs us → ∃ as, ReadsAll s.heap us ds as
  | _, _, _, .nil, r => by cases r; exact ⟨_, .nil⟩
  | _, _, _, .cons a b, r => by
    cases r with
    | cons r1 r2 =>
      obtain ⟨as, h1⟩ := Dat.reads I _ _ _ a r1
      obtain ⟨bs, h2⟩ := Dats.reads I _ _ _ b r2
      exact ⟨_, .cons h1 h2⟩
end
end
section
variable {X : Cx}
theorem units_of {u d e : Nat} (hu : u + 64 < cLine) (hd : d ≤ 60) : u + min d e < cLine := by
  have : min d e ≤ d := Nat.min_le_left _ _
  omega
def rEqD (K : PySem.W.Frag) : R2 := fun x y H Q => ∃ d e, Dat K H d x ∧ Dat K H e y ∧ d.depth ≤ 60 ∧ Q (.bl (PyData.eqv d e)) H
theorem op_eqD (hu : X.A.units + 64 < cLine) (K : PySem.W.Frag) (hK : X.K = K := by rfl) : OpR X (compareOp .Eq) (rEqD K) := by
  subst hK
  intro pins s σ H x y v u Q I rx ry h
  obtain ⟨d, e, hd, he, hz, q⟩ := h
  obtain ⟨as, ra⟩ := Dat.reads I _ _ _ hd rx
  obtain ⟨bs, rb⟩ := Dat.reads I _ _ _ he ry
  exact SeqAt.rcAt_reads ra rb (Dat.lay _ _ hd) (Dat.lay _ _ he) (units_of hu hz) X.prog X.w X.xe _ (fin_bl I q rfl)
end
section
open PySem.SeqAt
open PySem.AutoSeq1 (wpAny_loadPart')
open PySem.MeetsSeq PySem.MeetsSeq2 PySem.MeetsSeq3
end
section
variable {X : Cx}
end
end L2
namespace L2
open PySem PySem.Spec PyProof.Rows
def tyD : PyData → String
  | .none => "NoneType"
  | .bool _ => "bool"
  | .int _ => "int"
  | .str _ => "str"
  | .list _ => "list"
  | .tuple _ => "tuple"
  | .dict _ => "dict"
theorem tyD_in (d : PyData) : tyD d ∈ tyTs := by
  cases d <;> simp [tyD, tyTs]
section
variable {X : Cx}
theorem call_isiD (K : PySem.W.Frag) (hK : X.K = K := by rfl) : CallR X (.builtin "isinstance") (fun xs H Q => ∃ x n d, xs = [x, .ty n] ∧ Dat K H d x ∧ n ∈ tyNs ∧ Q (.bl (tyIs (tyD d) n)) H) := by
  subst hK
  intro pins s σ H xs us Q I r h
  obtain ⟨x, n, d, rfl, hd, hn, q⟩ := h
  obtain ⟨u, c, rfl, ru, rc⟩ := vals2 r
  cases rc
  have e := kit_one (K := X.K) (tyD_in d) hn
  have fin : ∀ tk, EP X pins σ Q (.bool (tyIs (tyD d) n)) { s with toks := tk } := fun tk => ⟨.bl _, H, I.tok tk, rfl, q⟩
  cases hd with
  | non => cases ru; exact PySem.W.kia_one PySem.W.kitx_none I.kIn True.intro e (fun z => nomatch z) fin
  | bl b => cases ru; exact PySem.W.kia_one PySem.W.kitx_bool I.kIn True.intro e (fun z => nomatch z) fin
  | int i => obtain ⟨t, rfl⟩ := ru; exact PySem.W.kia_one PySem.W.kitx_int I.kIn True.intro e (fun z => nomatch z) fin
  | str z h => obtain ⟨t, rfl⟩ := ru; exact PySem.W.kia_one PySem.W.kitx_str I.kIn True.intro e (fun z => nomatch z) fin
  | lst hq _ =>
    cases ru
    obtain ⟨its, _, ⟨o, m, e1, c, _, _⟩, _⟩ := I.list hq
    exact PySem.W.kia_one PySem.W.kitx_list I.kIn ⟨o, e1, c⟩ e (fun z => nomatch z) fin
  | tup hq _ =>
    cases ru
    obtain ⟨its, _, ⟨o, e1, c, _⟩, _⟩ := I.tuple hq
    exact PySem.W.kia_one PySem.W.kitx_tuple I.kIn ⟨o, e1, c⟩ e (fun z => nomatch z) fin
def rNeD (K : PySem.W.Frag) : R2 := fun x y H Q => ∃ d e, Dat K H d x ∧ Dat K H e y ∧ d.depth ≤ 60 ∧ Q (.bl (!PyData.eqv d e)) H
theorem op_neD (hu : X.A.units + 64 < cLine) (K : PySem.W.Frag) (hK : X.K = K := by rfl) : OpR X (compareOp .NotEq) (rNeD K) := by
  subst hK
  intro pins s σ H x y v u Q I rx ry h
  obtain ⟨d, e, hd, he, hz, q⟩ := h
  obtain ⟨as, ra⟩ := Dat.reads I _ _ _ hd rx
  obtain ⟨bs, rb⟩ := Dat.reads I _ _ _ he ry
  exact SeqAt.compareNe_reads ra rb (Dat.lay _ _ hd) (Dat.lay _ _ he) (units_of hu hz) (fin_bl I q rfl)
theorem len_upper (z : Str) : (Txt.upper z).length ≤ 3 * z.length := by
  show (placed z fun _ c => Unicode.upperOf c).size ≤ 3 * z.cps.size
  exact StrLaws.placedRaw_le3 z.cps _ fun _ c => StrLaws.upperOf_le3 c
def rUpper : V → List V → Hp → VK → Prop := fun x xs H Q => ∃ z, x = .str z ∧ xs = [] ∧ z.length ≤ 100 ∧ Q (.str (Txt.upper z)) H
theorem mt_upper : MtR X "str.upper" rUpper := by
  intro pins s σ H x xs v us Q I rx rv h
  obtain ⟨z, rfl, rfl, hz, q⟩ := h
  obtain ⟨t, rfl⟩ := rx
  cases rv.zero
  have hl : (Txt.upper z).length ≤ 300 := Nat.le_trans (len_upper z) (by omega)
  have hfit : Builtin.Str.tooLong (Txt.upper z).length = false := by
    unfold Builtin.Str.tooLong
    simp
    exact Nat.le_trans hl (by decide)
  exact call_gives F.slot_str_upper (typeIs_str _ _ _) F.entry_str_upper (F.args_str_upper_1 _) (gives_str_upper z t hfit) ⟨Nat.le_trans hl (by decide), .str (Txt.upper z), H, I.tok _, ⟨_, rfl⟩, q⟩
end
end L2
namespace L2
open PySem PySem.Spec PyProof.Rows PySem.W
section
variable {prog : Program} {w : World} {A : Around} {E : Value → Shared → Prop} {s : Shared} {d it : Addr} {es : Array DictEntry} {ep i : Nat}
end
end L2
namespace Tim
section
variable {α : Type}
end
section
open PySem
end
end Tim
namespace L2
open PySem PySem.Spec PyProof.Rows PySem.W
def sOf : Value → Str
  | .str x _ => x
  | _ => ""
theorem vals_str {ws : List Str} : ∀ {us : List Value}, Vals (ws.map V.str) us → us.map sOf = ws ∧ (∀ u ∈ us, ∃ x t, u = .str x t) ∧ StrsAre us ws := by
  induction ws with
  | nil =>
    intro us r
    cases r
    exact ⟨rfl, (fun _ z => nomatch z), .nil⟩
  | cons x ws ih =>
    intro us r
    cases r with
    | cons r1 rr =>
      obtain ⟨t, rfl⟩ := r1
      obtain ⟨a, b, c⟩ := ih rr
      refine ⟨by rw [List.map_cons, a]; rfl, fun u hu => ?_, .cons x t c⟩
      rcases List.mem_cons.mp hu with rfl | hu
      · exact ⟨x, t, rfl⟩
      · exact b u hu
section
variable {prog : Program} {w : World} {A : Around} {s : Shared} {a : Addr}
end
section
variable {X : Cx}
end
section
variable {prog : Program} {w : World} {A : Around} {E : Value → Shared → Prop} {s : Shared} {a : Addr}
end
section
variable {X : Cx}
end
end L2
namespace L2
open PySem PySem.Spec PyProof.Rows
section
variable {X : Cx}
theorem pg_tupK (K : PySem.W.Frag) {es : List Expr} {k : Nat} {t : TGs} {n : Nat} {pos : Pos} (hc : X.calm = true) (h : PGs X es t) (hK : X.K = K := by rfl)
    (hn : (assignEach es X.env).length = n := by rfl) (hst : (assignEach es X.env).findIdx? (·.1) = none := by rfl) : PG X (.Tuple es k pos) (gTup K n t) := by
  subst hK
  exact pg_tup hc h hn hst
end
end L2
namespace L2
open PySem PySem.Spec PyProof.Rows
section
variable {X : Cx} {e : Expr} {lo hi : Option Expr} {se : Expr} {te : TE} {tl th ts : TO} {p2 pos : Pos}
end
end L2
namespace L2
open PySem PySem.Spec PyProof.Rows
section
variable {X : Cx}
end
end L2
namespace L2
open PySem PySem.Spec PyProof.Rows
section
variable {X : Cx}
end
section
variable {prog : Program} {w : World} {A : Around} {R : Result → Shared → Prop} {I : Addr} {fp wr : List Addr} {n : Nat} {P : Nat → Value → Prop} {St : Nat → Heap → Prop}
end
section
variable {X : Cx} {e d : Expr} {t tk : TA} {p pos kpos : Pos}
end
end L2
namespace L2
open PySem PySem.Spec PyProof.Rows
section
variable {prog : Program} {w : World} {A : Around} {E : Value → Shared → Prop} {s : Shared}
end
section
variable {prog : Program} {w : World} {A : Around} {R : Result → Shared → Prop} {I : Addr} {fp wr : List Addr} {n : Nat} {P : Nat → Value → Prop} {St : Nat → Heap → Prop}
end
section
variable {X : Cx}
end
end L2
namespace L2
open PySem PySem.Spec PyProof.Rows
section
variable {X : Cx} {tg : Expr}
end
section
variable {X : Cx} {e : Expr} {lo hi : Option Expr} {se : Expr} {te : TE} {tl th ts : TO} {p2 pos : Pos}
end
end L2
namespace L2
open PySem PySem.Spec PyProof.Rows
section
variable {prog : Program} {w : World} {A : Around} {E : Value → Shared → Prop} {s : Shared}
end
section
variable {X : Cx}
end
end L2
namespace L2
open PySem PySem.Spec PyProof.Rows
def cA (mg : Str → Option Value) (x : Str) : Addr := match mg x with
  | some (.ref a) => a
  | _ => 0
theorem cA_of {mg : Str → Option Value} {x : Str} {C : Addr} (h : mg x = some (.ref C)) : cA mg x = C := by
  unfold cA
  rw [h]
section
variable {X : Cx} {k k' : Nat} {C : Addr} {ps ks : List Str} {sp : Sp} {x m : Str} {p pos apos : Pos} {e o : Expr} {es : List Expr} {ta : TE} {t tk : TA} {kws : List Keyword}
variable {y : Str} {dv : V}
end
end L2
namespace L2
open PySem PySem.Spec PyProof.Rows PySem.W
section
variable {prog : Program} {w : World} {A : Around} {s : Shared} {a : Addr}
end
section
variable {X : Cx}
end
end L2
namespace L2
open PySem PySem.Spec PyProof.Rows
section
variable {X : Cx} {pins : List (Addr × Obj)} {σ : St} {H : Hp} {s : Shared} {a : Addr} {kvs : List (Key × V)} {k : Key} {z : V} {u r : Value} {A : Around} {E : Value → Shared → Prop}
end
section
variable {X : Cx} {o e f : Expr} {apos cpos : Pos} {td ty tx : TE}
end
end L2
namespace L2
open PySem PySem.Spec PyProof.Rows PySem.W
section
variable {P : Program} {w : World} {A : Around} {E : Value → Shared → Prop} {s : Shared} {a : Addr} {xs : List Str}
end
section
variable {prog : Program} {w : World} {A : Around} {R : Result → Shared → Prop} {I : Addr} {fp wr : List Addr} {G : Array GenState → Array GenState → Prop} {n : Nat} {P : Nat → Value → Prop} {St : Nat → Shared → Prop}
end
section
variable {prog : Program} {w : World} {A : Around} {E : Value → Shared → Prop} {s : Shared}
end
section
variable {prog : Program} {w : World} {A : Around} {E : Value → Shared → Prop} {s : Shared}
end
end L2
namespace L2
open PySem PySem.Spec PyProof.Rows PySem.W
section
variable {M : Model} {A : Around} {E : Value → Shared → Prop}
end
section
variable {prog : Program} {w : World} {A : Around} {E : Value → Shared → Prop} {s : Shared} {a : Addr}
end
end L2
namespace L2
open PySem PySem.Spec PyProof.Rows PySem.W
section
variable {prog : Program} {w : World} {A : Around} {E : Value → Shared → Prop} {s : Shared} {a I : Addr} {es : Array (Int × Value)} {ep : Nat} {t : SetTable}
end
end L2
namespace L2
open PySem PySem.Spec PyProof.Rows PySem.W
section
variable {prog : Program} {w : World} {A : Around} {E : Value → Shared → Prop} {s : Shared} {a I T : Addr} {es : Array (Int × Value)} {ep i : Nat} {t : SetTable} {o : Obj}
end
end L2
namespace L2
open PySem PySem.Spec PyProof.Rows PySem.W
section
variable {prog : Program} {w : World} {A : Around} {E : Value → Shared → Prop} {s : Shared} {a I T : Addr} {es : Array (Int × Value)} {ep : Nat} {t : SetTable} {o : Obj}
end
end L2
namespace L2
open PySem PySem.Spec PyProof.Rows PySem.W
section
variable {prog : Program} {w : World} {A : Around} {E : Value → Shared → Prop} {s : Shared} {a : Addr} {xs : List Str}
end
end L2
namespace L2
open PySem PySem.Spec PyProof.Rows PySem.W
section
variable {prog : Program} {w : World} {A : Around} {E : Value → Shared → Prop} {s : Shared} {a : Addr} {xs : List Str}
end
end L2
namespace L2
open PySem PySem.Spec PyProof.Rows PySem.W
section
variable {X : Cx} {pins : List (Addr × Obj)} {σ : St} {H : Hp} {s : Shared}
end
end L2
namespace L2
open PySem PySem.Spec PyProof.Rows PySem.W
section
variable {X : Cx}
end
end L2
namespace L2
open PySem PySem.Spec PyProof.Rows PySem.W
section
variable {X : Cx}
end
end L2
namespace L2
open PySem PySem.Spec PyProof.Rows PySem.W
section
variable {X : Cx}
end
end L2
namespace L2
open PySem PySem.Spec PyProof.Rows PySem.W
section
variable {X : Cx} {tg : Expr}
end
end L2
namespace L2
open PySem PySem.Spec PyProof.Rows
section
variable {X : Cx}
end
end L2
namespace L2
open PySem PySem.Spec PyProof.Rows
section
variable {prog : Program} {w : World} {A : Around} {E : Value → Shared → Prop} {s : Shared}
theorem getItem_tuple_whole {t sl : Addr} {items : Array Value} {vl vu : Value} {lo hi : Option Int} {Q : Value → Shared → Prop} (ht : IsTup s.heap t items) (hs : s.heap.IsSliceOf sl vl vu .none) (pl : IsPart vl lo) (pu : IsPart vu hi)
    (hw : HT.sIx items.size 0 lo = 0 ∧ HT.sIx items.size items.size hi = items.size) (h : Q (.ref t) s) : wpAny (model prog w) A (getItem (.ref t) (.ref sl)) Q E s := by
  obtain ⟨os, hos, hcs, hds⟩ := id hs
  have hTs : s.TypeIs (.ref sl) "slice" := ⟨os, hos, hcs⟩
  unfold getItem
  try with_reducible refine wpAny_holding ?_
  first | refine wpAny_bind (wpAny_pure ?_) | skip
  refine wpAny_bind (wpAny_sequenceKey ht.typeIs (by decide) ?_)
  refine wpAny_bind (wpAny_callSpecial?_slot (name := Str.ofString "__getitem__") ht.typeIs PyProof.Rows.slot_tuple_getitem
    (wpAny_call_entry PyProof.Rows.slot_tuple_getitem ht.typeIs entry_tuple_getitem ?_ (args_tuple_getitem _ _)))
  show wpAny _ _ (Builtin.Tuple.tupleItemsOf (.ref t) >>= _) _ _ s
  refine wpAny_bind (tupleItemsOf_ ht ?_)
  refine wpAny_bind (wpAny_typeOf hTs ?_)
  rw [if_pos (by decide)]
  refine wpAny_bind (HT.sliceApplied_gen hs pl pu ?_)
  have hyes : (((HT.sIx items.size 0 lo : Nat) : Int) == 0 && (1 : Int) == 1 && (HT.sIx items.size items.size hi - HT.sIx items.size 0 lo) == items.size) = true := by
    rw [hw.1, hw.2]
    simp
  show wpAny _ _ (if (((HT.sIx items.size 0 lo : Nat) : Int) == 0 && (1 : Int) == 1 && (HT.sIx items.size items.size hi - HT.sIx items.size 0 lo) == items.size) = true then _ else _) _ _ s
  rw [if_pos hyes]
  refine wpAny_bind (m := Builtin.Tuple.tupleIsExact (.ref t)) (wpAny_bind (m := typeOf (.ref t)) (wpAny_typeOf ht.typeIs (wpAny_pure ?_)))
  rw [if_pos (by decide)]
  first
    | exact wpAny_bind (wpAny_rule (wpAny_pure ⟨_, rfl, wpAny_pure h⟩))
    | exact wpAny_rule (wpAny_pure ⟨_, rfl, wpAny_pure h⟩)
    | exact wpAny_rule (wpAny_bind (wpAny_pure (wpAny_pure ⟨_, rfl, wpAny_pure h⟩)))
    | exact wpAny_bind (wpAny_rule (wpAny_bind (wpAny_pure (wpAny_pure ⟨_, rfl, wpAny_pure h⟩))))
    | skip
end
section
variable {X : Cx}
def rSlA (K : PySem.W.Frag) : V → Option Int → Option Int → Hp → VK → Prop := fun x lo hi H Q => ∃ a xs, x = .ref a ∧ SqT K H a xs ∧ ∀ p H', Same H H' → SqT K H' p (cutV xs lo hi) → Q (.ref p) H'
theorem sl_tupA (K : PySem.W.Frag) (hK : X.K = K := by rfl) : SlR X (rSlA K) := by
  subst hK
  intro pins s σ H x v vl vu lo hi sl Q I rx hs pl pu h
  obtain ⟨a, xs, rfl, hx, q⟩ := h
  by_cases hw : HT.sIx xs.length 0 lo = 0 ∧ HT.sIx xs.length xs.length hi = xs.length
  · cases rx
    obtain ⟨its, r, ht, hz⟩ := I.tuple hx
    have hlen : its.toArray.size = xs.length := by rw [List.size_toArray]; exact r.length.symm
    refine ⟨"tuple", _, PyProof.Rows.slot_tuple_getitem.lookup, ht.typeIs, ?_⟩
    refine getItem_tuple_whole ht hs pl pu (by rw [hlen]; exact hw) ⟨.ref a, H, I, rfl, q a H (Same.refl H) ?_⟩
    have : cutV xs lo hi = xs := by
      unfold cutV
      rw [hw.1, hw.2, List.drop_zero, Nat.sub_zero, List.take_length]
    rw [this]
    exact hx
  · exact sl_tup pins s σ H _ v vl vu lo hi sl Q I rx hs pl pu ⟨a, xs, rfl, hx, hw, fun p hp => q p _ (same_upd hp) (SqT.of upd_same)⟩
end
end L2
namespace L2
open PySem PySem.Spec PyProof.Rows
section
variable {X : Cx}
end
end L2
namespace L2
open PySem PySem.Spec PyProof.Rows
section
variable {prog : Program} {w : World} {A : Around} {E : Value → Shared → Prop} {s : Shared}
theorem nextOf_tuple_item {it t : Addr} {i : Nat} {items : Array Value} {x : Value} {Q : Value → Shared → Prop} (hit : s.heap.IsTupleIter it t i) (ht : s.heap.IsTuple t items) (hx : items[i]? = some x)
    (hQ : ∀ h', h'.IsTupleIter it t (i + 1) → Heap.SameBut it s.heap h' → Q x { s with heap := h' }) :
    wpAny (model prog w) A (Builtin.SmallTypes.nextOf (.ref it)) Q E s := by
  obtain ⟨o, ho, hc, hd⟩ := id hit
  obtain ⟨ol, hol, _, nl, hdl⟩ := ht
  unfold Builtin.SmallTypes.nextOf
  refine wpAny_bind (wpAny_callSpecial?_slot (name := Str.ofString "__next__") hit.typeIs F.slot_tuple_iterator_next
    (wpAny_call_entry F.slot_tuple_iterator_next hit.typeIs F.entry_tuple_iterator_next ?_ (F.args_tuple_iterator_next_1 _)))
  show wpAny _ _ (field (.ref it) 0 >>= _) _ _ s
  refine wpAny_bind (wpAny_field ho hd (x := .ref t) rfl ?_)
  show wpAny _ _ (if (Value.ref t == Value.none) = true then _ else _) _ _ s
  rw [if_neg (show ¬ ((Value.ref t == Value.none) = true) from Bool.false_ne_true)]
  show wpAny _ _ (field (.ref it) 1 >>= _) _ _ s
  refine wpAny_bind (wpAny_field ho hd (x := .int i 0) rfl ?_)
  show wpAny _ _ (seqItems? (.ref t) >>= _) _ _ s
  refine wpAny_bind (wpAny_seqItems hol hdl ?_)
  simp only [Int.toNat_natCast, hx]
  refine wpAny_bind (wpAny_setField ho hd (by simp) (wpAny_pure ⟨x, rfl, wpAny_pure (hQ _ ?_ (Heap.SameBut.update ..))⟩))
  exact ⟨_, Heap.get?_update_self _ ho (Obj.isFreed_of_fields (Obj.data_mapFields hd _)), (Obj.cls_mapFields ..).trans hc, by
    rw [Obj.data_mapFields hd]; simp [rawInt]⟩
theorem nextOf_tuple_end {it t : Addr} {i : Nat} {items : Array Value} {Q : Value → Shared → Prop} (hh : A.handled = none) (hit : s.heap.IsTupleIter it t i) (ht : s.heap.IsTuple t items) (hx : items[i]? = none)
    (hE : ∀ h' e, Heap.ExtBut it s.heap h' → (∃ o, h'.get? e = some o ∧ o.cls = .type "StopIteration") → E (.ref e) { s with heap := h' }) :
    wpAny (model prog w) A (Builtin.SmallTypes.nextOf (.ref it)) Q E s := by
  obtain ⟨o, ho, hc, hd⟩ := id hit
  obtain ⟨ol, hol, _, nl, hdl⟩ := ht
  unfold Builtin.SmallTypes.nextOf
  refine wpAny_bind (wpAny_callSpecial?_slot (name := Str.ofString "__next__") hit.typeIs F.slot_tuple_iterator_next
    (wpAny_call_entry F.slot_tuple_iterator_next hit.typeIs F.entry_tuple_iterator_next ?_ (F.args_tuple_iterator_next_1 _)))
  show wpAny _ _ (field (.ref it) 0 >>= _) _ _ s
  refine wpAny_bind (wpAny_field ho hd (x := .ref t) rfl ?_)
  show wpAny _ _ (if (Value.ref t == Value.none) = true then _ else _) _ _ s
  rw [if_neg (show ¬ ((Value.ref t == Value.none) = true) from Bool.false_ne_true)]
  show wpAny _ _ (field (.ref it) 1 >>= _) _ _ s
  refine wpAny_bind (wpAny_field ho hd (x := .int i 0) rfl ?_)
  show wpAny _ _ (seqItems? (.ref t) >>= _) _ _ s
  refine wpAny_bind (wpAny_seqItems hol hdl ?_)
  simp only [Int.toNat_natCast, hx]
  refine wpAny_bind (wpAny_rule (wpAny_bind (wpAny_setField ho hd (by simp) ?_)))
  show wpAny _ _ (newExc (.type "StopIteration") [] >>= _) _ _ _
  refine wpAny_bind ?_
  simp only [newExc, newTuple]
  refine wpAny_bind (wpAny_newObj_type ?_ (by size_fits))
  refine wpAny_bind (m := firstArgMember _ _) (wpAny_of_eq (a := Value.none) (by first | rfl | (simp only [firstArgMember]; rfl)) ?_)
  refine wpAny_newObj_type ?_ (by size_fits)
  simp only [raiseNew]
  refine wpAny_bind (wpAny_handled ?_)
  first | rw [show A.in1.handled = none from hh] | rw [hh]
  refine wpAny_bind (wpAny_pure (wpAny_throw ?_))
  exact hE _ _ (((Heap.SameBut.update ..).extBut.push _).push _) ⟨_, Heap.get?_push_size _ rfl, rfl⟩
theorem draws_tuple (hh : A.handled = none) (it t : Addr) (hne : t ≠ it) (items : Array Value) :
    Draws prog w A it [it, t] items.size (fun i v => items[i]? = some v) (fun i h => h.IsTupleIter it t i ∧ h.IsTuple t items) where
  live := fun _ _ st => let ⟨o, ho, _⟩ := st.1; ⟨o, ho⟩
  frame := fun _ _ _ st hk => ⟨st.1.at fun o e => hk it (by simp) o e, let ⟨o, e, r⟩ := st.2; ⟨o, hk t (by simp) o e, r⟩⟩
  item := fun i s Q E hi st hQ => by
    refine nextOf_tuple_item st.1 st.2 (x := items[i]) (by simp [hi]) fun h' hit' hs' => ?_
    exact hQ _ h' s.toks (by simp [hi]) ⟨hit', st.2.extBut hs'.extBut hne⟩ hs'
  done := fun s Q E st hE => nextOf_tuple_end hh st.1 st.2 (by simp) hE
structure ZAp (z TI TO i1 i2 : Addr) (f1 f2 : List Addr) : Prop where
  TIz : TI ≠ z
  TOz : TO ≠ z
  i1z : i1 ≠ z
  i2z : i2 ≠ z
  TITO : TI ≠ TO
  TIi1 : TI ≠ i1
  TIi2 : TI ≠ i2
  TOi1 : TO ≠ i1
  TOi2 : TO ≠ i2
  i12 : i1 ≠ i2
  z1 : z ∉ f1
  TO1 : TO ∉ f1
  i21 : i2 ∉ f1
  z2 : z ∉ f2
  TO2 : TO ∉ f2
  i1f : i1 ∉ f2
theorem extOf {it : Addr} {h h' : Heap} {f : List Addr} (x : Heap.ExtBut it h h') (n : it ∉ f) : ∀ b ∈ f, ∀ o, h.get? b = some o → h'.get? b = some o := fun b hb o e => x b o (fun z => n (z ▸ hb)) e
theorem zip_item {z TI TO i1 i2 : Addr} {f1 f2 : List Addr} {n1 n2 k1 k2 : Nat} {P1 P2 : Nat → Value → Prop} {S1 S2 : Nat → Heap → Prop} {a b : Value} {Q : Value → Shared → Prop} (D : ZAp z TI TO i1 i2 f1 f2)
    (D1 : Draws prog w A i1 f1 n1 P1 S1) (D2 : Draws prog w A i2 f2 n2 P2 S2)
    (hz : IsZip s.heap z TI TO .none) (hTI : IsPair s.heap TI (.ref i1) (.ref i2)) (hTO : IsPair s.heap TO a b)
    (h1 : S1 k1 s.heap) (h2 : S2 k2 s.heap) (hx : k1 < n1) (hy : k2 < n2)
    (hQ : ∀ x y h' tk, P1 k1 x → P2 k2 y → IsZip h' z TI TO (rawInt s.heap.objs.size) → IsPair h' TO x y → S1 (k1 + 1) h' → S2 (k2 + 1) h' → IsPair h' s.heap.objs.size x y → h'.objs.size = s.heap.objs.size + 1 →
      (∀ c o, c ≠ z → c ≠ TO → c ≠ i1 → c ≠ i2 → s.heap.get? c = some o → h'.get? c = some o) → Q (.ref s.heap.objs.size) { s with heap := h', toks := tk }) :
    wpAny (model prog w) A (Builtin.«zip.__next__» ⟨[.ref z], []⟩) (fun fin s' => ∃ v, fin = .done (.ret v) ∧ Q v s') E s := by
  obtain ⟨hp, g, d, tk₀, os⟩ := s
  show wpAny _ _ (field (.ref z) 2 >>= _) _ _ _
  refine wpAny_bind (wpAny_field hz rfl (x := .bool false) rfl ?_)
  show wpAny _ _ (field (.ref z) 3 >>= _) _ _ _
  refine wpAny_bind (wpAny_field hz rfl (x := .ref TI) rfl ?_)
  refine wpAny_bind (wpAny_seqItems hTI rfl ?_)
  show wpAny _ _ (Builtin.SmallTypes.ownedTupleIsFree (.ref z) >>= _) _ _ _
  refine wpAny_bind ?_
  unfold Builtin.SmallTypes.ownedTupleIsFree
  refine wpAny_bind (wpAny_field hz rfl (x := .none) rfl (wpAny_pure ?_))
  simp only [if_true]
  refine wpAny_bind (wpAny_rule ?_)
  refine wpAny_bind (wpAny_field hz rfl (x := .ref TO) rfl ?_)
  refine wpAny_bind (wpAny_setField_rec hz (by simp) fun h₁ hz₁ hs₁ => ?_)
  replace hz₁ : IsZip h₁ z TI TO .ellipsis := hz₁
  refine wpAny_bind ?_
  simp only [List.zipIdx_cons, List.zipIdx_nil, List.forIn_cons, List.forIn_nil]
  refine wpAny_bind (wpAny_bind (wpAny_onRaise ?_))
  show wpAny _ _ (Builtin.SmallTypes.nextOf (.ref i1) >>= _) _ _ _
  have h1₁ : S1 k1 h₁ := D1.frame _ _ _ h1 (extOf hs₁.extBut D.z1)
  refine wpAny_bind (D1.item k1 _ _ _ hx h1₁ fun x h₂ tk₂ hPx h1₂ hs₂ => wpAny_pure ?_)
  have hTO₂ : IsPair h₂ TO a b := hs₂.extBut _ _ D.TOi1 (hs₁.extBut _ _ D.TOz hTO)
  refine wpAny_bind (wpAny_seqItems hTO₂ rfl ?_)
  refine wpAny_bind (wpAny_updateSeq_pair hTO₂ fun h₃ hTO₃ hs₃ => ?_)
  replace hTO₃ : IsPair h₃ TO x b := hTO₃
  refine wpAny_bind (wpAny_letGo (wpAny_pure ?_))
  refine wpAny_bind (wpAny_bind (wpAny_onRaise ?_))
  show wpAny _ _ (Builtin.SmallTypes.nextOf (.ref i2) >>= _) _ _ _
  have h2₃ : S2 k2 h₃ := D2.frame _ _ _ (D2.frame _ _ _ (D2.frame _ _ _ h2 (extOf hs₁.extBut D.z2)) (extOf hs₂.extBut D.i1f)) (extOf hs₃.extBut D.TO2)
  refine wpAny_bind (D2.item k2 _ _ _ hy h2₃ fun y h₄ tk₄ hPy h2₄ hs₄ => wpAny_pure ?_)
  have hTO₄ : IsPair h₄ TO x b := hs₄.extBut _ _ D.TOi2 hTO₃
  refine wpAny_bind (wpAny_seqItems hTO₄ rfl ?_)
  refine wpAny_bind (wpAny_updateSeq_pair hTO₄ fun h₅ hTO₅ hs₅ => ?_)
  replace hTO₅ : IsPair h₅ TO x y := hTO₅
  refine wpAny_bind (wpAny_letGo (wpAny_pure (wpAny_pure ?_)))
  refine wpAny_bind (wpAny_seqItems hTO₅ rfl ?_)
  refine wpAny_bind (wpAny_newTuple ?_)
  have hsz : h₅.objs.size = hp.objs.size := by rw [hs₅.1, hs₄.1, hs₃.1, hs₂.1, hs₁.1]
  have hz₅ : IsZip h₅ z TI TO .ellipsis := hs₅.extBut _ _ D.TOz.symm (hs₄.extBut _ _ D.i2z.symm (hs₃.extBut _ _ D.TOz.symm (hs₂.extBut _ _ D.i1z.symm hz₁)))
  have hk₅ : ∀ c o, c ≠ z → c ≠ TO → c ≠ i1 → c ≠ i2 → hp.get? c = some o → h₅.get? c = some o := fun c o c1 c2 c3 c4 e =>
    hs₅.extBut _ _ c2 (hs₄.extBut _ _ c4 (hs₃.extBut _ _ c2 (hs₂.extBut _ _ c3 (hs₁.extBut _ _ c1 e))))
  have h1₅ : S1 (k1 + 1) h₅ := D1.frame _ _ _ (D1.frame _ _ _ (D1.frame _ _ _ h1₂ (extOf hs₃.extBut D.TO1)) (extOf hs₄.extBut D.i21)) (extOf hs₅.extBut D.TO1)
  have h2₅ : S2 (k2 + 1) h₅ := D2.frame _ _ _ h2₄ (extOf hs₅.extBut D.TO2)
  have hzlt : z < h₅.objs.size := Heap.lt_size hz₅
  show wpAny _ _ (Builtin.SmallTypes.ownedTupleHandOut (.ref z) (.ref h₅.objs.size) >>= _) _ _ _
  refine wpAny_bind ?_
  unfold Builtin.SmallTypes.ownedTupleHandOut
  have hz₆ : IsZip (h₅.push { cls := .type "tuple", data := .seq #[x, y] }) z TI TO .ellipsis := Heap.get?_push_of_some _ hz₅
  refine wpAny_bind (wpAny_setField_rec hz₆ (by simp) fun h₇ hz₇ hs₇ => ?_)
  replace hz₇ : IsZip h₇ z TI TO (rawInt h₅.objs.size) := hz₇
  refine wpAny_setField_rec hz₇ (by simp) fun h₈ hz₈ hs₈ => ?_
  replace hz₈ : IsZip h₈ z TI TO (rawInt h₅.objs.size) := hz₈
  have up : ∀ c o, c ≠ z → h₅.get? c = some o → h₈.get? c = some o := fun c o c1 e => hs₈.extBut _ _ c1 (hs₇.extBut _ _ c1 (Heap.get?_push_of_some _ e))
  have hT₈ : IsPair h₈ h₅.objs.size x y := hs₈.extBut _ _ (Nat.ne_of_gt hzlt) (hs₇.extBut _ _ (Nat.ne_of_gt hzlt) (Heap.get?_push_size _ rfl))
  have hz8 : h₈.objs.size = h₅.objs.size + 1 := by rw [hs₈.1, hs₇.1, Heap.size_push]
  rw [hsz] at hz₈ hT₈ hz8
  refine wpAny_pure ⟨_, rfl, ?_⟩
  show Q (.ref h₅.objs.size) _
  rw [hsz]
  exact hQ x y h₈ _ hPx hPy hz₈ (up _ _ D.TOz hTO₅) (D1.frame _ _ _ h1₅ fun b hb o e => up b o (fun q => D.z1 (q ▸ hb)) e) (D2.frame _ _ _ h2₅ fun b hb o e => up b o (fun q => D.z2 (q ▸ hb)) e) hT₈ hz8 fun c o c1 c2 c3 c4 e => up c o c1 (hk₅ c o c1 c2 c3 c4 e)
theorem zip_end {z TI TO i1 i2 : Addr} {f1 f2 : List Addr} {n1 n2 k1 k2 : Nat} {P1 P2 : Nat → Value → Prop} {S1 S2 : Nat → Heap → Prop} {a b : Value} {Q : Fin → Shared → Prop} (D : ZAp z TI TO i1 i2 f1 f2)
    (D1 : Draws prog w A i1 f1 n1 P1 S1) (D2 : Draws prog w A i2 f2 n2 P2 S2)
    (hz : IsZip s.heap z TI TO .none) (hTI : IsPair s.heap TI (.ref i1) (.ref i2)) (hTO : IsPair s.heap TO a b)
    (h1 : S1 k1 s.heap) (h2 : S2 k2 s.heap) (hend : k1 = n1 ∨ (k1 < n1 ∧ k2 = n2))
    (hE : ∀ h' tk e, (∀ c o, c ≠ z → c ≠ TO → c ≠ i1 → c ≠ i2 → s.heap.get? c = some o → h'.get? c = some o) → (∃ o, h'.get? e = some o ∧ o.cls = .type "StopIteration") → E (.ref e) { s with heap := h', toks := tk }) :
    wpAny (model prog w) A (Builtin.«zip.__next__» ⟨[.ref z], []⟩) Q E s := by
  obtain ⟨hp, g, d, tk₀, os⟩ := s
  show wpAny _ _ (field (.ref z) 2 >>= _) _ _ _
  refine wpAny_bind (wpAny_field hz rfl (x := .bool false) rfl ?_)
  show wpAny _ _ (field (.ref z) 3 >>= _) _ _ _
  refine wpAny_bind (wpAny_field hz rfl (x := .ref TI) rfl ?_)
  refine wpAny_bind (wpAny_seqItems hTI rfl ?_)
  show wpAny _ _ (Builtin.SmallTypes.ownedTupleIsFree (.ref z) >>= _) _ _ _
  refine wpAny_bind ?_
  unfold Builtin.SmallTypes.ownedTupleIsFree
  refine wpAny_bind (wpAny_field hz rfl (x := .none) rfl (wpAny_pure ?_))
  simp only [if_true]
  refine wpAny_bind (wpAny_rule ?_)
  refine wpAny_bind (wpAny_field hz rfl (x := .ref TO) rfl ?_)
  refine wpAny_bind (wpAny_setField_rec hz (by simp) fun h₁ hz₁ hs₁ => ?_)
  replace hz₁ : IsZip h₁ z TI TO .ellipsis := hz₁
  refine wpAny_bind ?_
  simp only [List.zipIdx_cons, List.zipIdx_nil, List.forIn_cons, List.forIn_nil]
  refine wpAny_bind (wpAny_bind (wpAny_onRaise ?_))
  show wpAny _ _ (Builtin.SmallTypes.nextOf (.ref i1) >>= _) _ _ _
  have h1₁ : S1 k1 h₁ := D1.frame _ _ _ h1 (extOf hs₁.extBut D.z1)
  rcases hend with hx | ⟨hx, hy⟩
  · subst hx
    refine wpAny_bind (D1.done _ _ _ h1₁ fun h₂ e hs₂ he => ?_)
    obtain ⟨oe, hoe, hce⟩ := he
    have hz₂ : IsZip h₂ z TI TO .ellipsis := hs₂ _ _ D.i1z.symm hz₁
    have hez : e ≠ z := fun x => by subst x; rw [hz₂] at hoe; cases hoe; simp at hce
    refine wpAny_setField_rec hz₂ (by simp) fun h₃ _ hs₃ => hE h₃ _ e (fun c o c1 _ c3 _ x => hs₃.extBut _ _ c1 (hs₂ _ _ c3 (hs₁.extBut _ _ c1 x))) ⟨oe, hs₃.extBut _ _ hez hoe, hce⟩
  · subst hy
    refine wpAny_bind (D1.item k1 _ _ _ hx h1₁ fun x h₂ tk₂ hPx h1₂ hs₂ => wpAny_pure ?_)
    have hTO₂ : IsPair h₂ TO a b := hs₂.extBut _ _ D.TOi1 (hs₁.extBut _ _ D.TOz hTO)
    refine wpAny_bind (wpAny_seqItems hTO₂ rfl ?_)
    refine wpAny_bind (wpAny_updateSeq_pair hTO₂ fun h₃ hTO₃ hs₃ => ?_)
    refine wpAny_bind (wpAny_letGo (wpAny_pure ?_))
    refine wpAny_bind (wpAny_bind (wpAny_onRaise ?_))
    show wpAny _ _ (Builtin.SmallTypes.nextOf (.ref i2) >>= _) _ _ _
    have h2₃ : S2 k2 h₃ := D2.frame _ _ _ (D2.frame _ _ _ (D2.frame _ _ _ h2 (extOf hs₁.extBut D.z2)) (extOf hs₂.extBut D.i1f)) (extOf hs₃.extBut D.TO2)
    refine wpAny_bind (D2.done _ _ _ h2₃ fun h₄ e hs₄ he => ?_)
    obtain ⟨oe, hoe, hce⟩ := he
    have hz₄ : IsZip h₄ z TI TO .ellipsis := hs₄ _ _ D.i2z.symm (hs₃.extBut _ _ D.TOz.symm (hs₂.extBut _ _ D.i1z.symm hz₁))
    have hez : e ≠ z := fun x => by subst x; rw [hz₄] at hoe; cases hoe; simp at hce
    refine wpAny_setField_rec hz₄ (by simp) fun h₅ _ hs₅ => hE h₅ _ e (fun c o c1 c2 c3 c4 x => hs₅.extBut _ _ c1 (hs₄ _ _ c4 (hs₃.extBut _ _ c2 (hs₂.extBut _ _ c3 (hs₁.extBut _ _ c1 x))))) ⟨oe, hs₅.extBut _ _ hez hoe, hce⟩
theorem pyNext_zipD {z TI TO i1 i2 : Addr} {f1 f2 : List Addr} {n1 n2 k1 k2 : Nat} {P1 P2 : Nat → Value → Prop} {S1 S2 : Nat → Heap → Prop} {a b : Value} {Q : Option Value → Shared → Prop} (hh : A.handled = none) (D : ZAp z TI TO i1 i2 f1 f2)
    (D1 : ∀ A : Around, A.handled = none → Draws prog w A i1 f1 n1 P1 S1) (D2 : ∀ A : Around, A.handled = none → Draws prog w A i2 f2 n2 P2 S2)
    (hz : IsZip s.heap z TI TO .none) (hTI : IsPair s.heap TI (.ref i1) (.ref i2)) (hTO : IsPair s.heap TO a b)
    (h1 : S1 k1 s.heap) (h2 : S2 k2 s.heap) (hx : k1 < n1) (hy : k2 < n2)
    (hQ : ∀ x y h' tk, P1 k1 x → P2 k2 y → IsZip h' z TI TO (rawInt s.heap.objs.size) → IsPair h' TO x y → S1 (k1 + 1) h' → S2 (k2 + 1) h' → IsPair h' s.heap.objs.size x y → h'.objs.size = s.heap.objs.size + 1 →
      (∀ c o, c ≠ z → c ≠ TO → c ≠ i1 → c ≠ i2 → s.heap.get? c = some o → h'.get? c = some o) → Q (some (.ref s.heap.objs.size)) { s with heap := h', toks := tk }) :
    wpAny (model prog w) A (pyNext (.ref z)) Q E s := by
  have hT : s.TypeIs (.ref z) "zip" := ⟨_, hz, rfl⟩
  unfold pyNext
  exact wpAny_bind (wpAny_attempt (wpAny_callSpecial?_slot (name := Str.ofString "__next__") hT F.slot_zip_next
    (wpAny_call_entry F.slot_zip_next hT F.entry_zip_next
      (zip_item D (D1 _ hh) (D2 _ hh) hz hTI hTO h1 h2 hx hy fun x y h' tk a1 a2 a3 a4 a5 a6 a7 a8 a9 => wpAny_pure (hQ x y h' tk a1 a2 a3 a4 a5 a6 a7 a8 a9)) (F.args_zip_next_1 _))))
theorem pyNext_zipD_end {z TI TO i1 i2 : Addr} {f1 f2 : List Addr} {n1 n2 k1 k2 : Nat} {P1 P2 : Nat → Value → Prop} {S1 S2 : Nat → Heap → Prop} {a b : Value} {Q : Option Value → Shared → Prop} (hh : A.handled = none) (D : ZAp z TI TO i1 i2 f1 f2)
    (D1 : ∀ A : Around, A.handled = none → Draws prog w A i1 f1 n1 P1 S1) (D2 : ∀ A : Around, A.handled = none → Draws prog w A i2 f2 n2 P2 S2)
    (hz : IsZip s.heap z TI TO .none) (hTI : IsPair s.heap TI (.ref i1) (.ref i2)) (hTO : IsPair s.heap TO a b)
    (h1 : S1 k1 s.heap) (h2 : S2 k2 s.heap) (hend : k1 = n1 ∨ (k1 < n1 ∧ k2 = n2))
    (hQ : ∀ h' tk, (∀ c o, c ≠ z → c ≠ TO → c ≠ i1 → c ≠ i2 → s.heap.get? c = some o → h'.get? c = some o) → Q none { s with heap := h', toks := tk }) : wpAny (model prog w) A (pyNext (.ref z)) Q E s := by
  have hT : s.TypeIs (.ref z) "zip" := ⟨_, hz, rfl⟩
  unfold pyNext
  refine wpAny_bind (wpAny_attempt (wpAny_callSpecial?_slot (name := Str.ofString "__next__") hT F.slot_zip_next
    (wpAny_call_entry F.slot_zip_next hT F.entry_zip_next (zip_end D (D1 _ hh) (D2 _ hh) hz hTI hTO h1 h2 hend fun h' tk e hk he => ?_) (F.args_zip_next_1 _))))
  obtain ⟨o, ho, hc⟩ := he
  refine wpAny_bind (wpAny_isInstance (T := "StopIteration") (b := true) ⟨o, ho, hc⟩ isSubtype_stop ?_)
  exact wpAny_pure (hQ _ _ hk)
end
end L2
namespace L2
open PySem PySem.Spec PyProof.Rows
section
variable {X : Cx} {pins : List (Addr × Obj)} {σ : St} {H : Hp} {s : Shared} {h' : Heap}
theorem FpOk.ch {fp : List Addr} (hf : ∀ b ∈ fp, FpOk X pins H b) : ∀ b ∈ fp, (b ∈ X.ex ∨ X.s₀.heap.objs.size ≤ b) ∧ b ≠ X.env.locals ∧ (∀ x c, X.env.cells.lookup x = some c → c ≠ b) ∧ ∀ p ∈ X.pn ++ pins, p.1 ≠ b := fun b hb =>
  let ⟨_, f1, _, f3, f4, f5⟩ := hf b hb; ⟨f3, f1, f4, f5⟩
theorem inv_turnedL {fp : List Addr} {t' : Nat} (I : Inv X pins σ H s) (hf : ∀ b ∈ fp, FpOk X pins H b) (k : ∀ b o, b ∉ fp → s.heap.get? b = some o → h'.get? b = some o) : Inv X pins σ H { s with heap := h', toks := t' } := by
  have nit : ∀ b u, H b = some u → b ∉ fp := fun b u e z => by rw [(hf b z).1] at e; cases e
  refine I.step (g' := s.gens) (d' := s.drawn) (ch := fp) (FpOk.ch hf) (fun b o _ _ hc e _ => k b o hc e) (fun b o _ _ hc e _ => ⟨o.slots, k b o hc e⟩) (fun _ _ _ _ n => n)
    (fun b o hc e => ⟨o, k b o hc e⟩) (fun _ _ e => e) (fun _ _ _ e => e) (fun b ps e => ⟨#[], by rw [e]; simp⟩) (fun m hm => ?_) (fun b u e => ?_) I.bare
  · obtain ⟨o, es, ep, ho, r⟩ := hm
    exact ⟨o, es, ep, k _ o (fun z => (hf _ z).2.1 rfl) ho, r⟩
  · refine (I.hok b u e).stay (fun c v hc q => k c v ?_ q) (fun _ q => q) fun _ _ q => q
    rcases hc with z | z
    · rw [z]; exact nit b u e
    · exact nit c _ z
theorem inv_turnedN {fp : List Addr} {t' : Nat} {a : Addr} {o : HO} (I : Inv X pins σ H s) (hf : ∀ b ∈ fp, FpOk X pins H b) (k : ∀ b o, b ∉ fp → s.heap.get? b = some o → h'.get? b = some o) (hp : s.heap.objs.size ≤ a)
    (new : ObjOk X.prog X.w (upd H a o) h' a o) : Inv X pins σ (upd H a o) { s with heap := h', toks := t' } := by
  have hn : H a = none := I.hok.fresh hp
  have nit : ∀ b u, H b = some u → b ∉ fp := fun b u e z => by rw [(hf b z).1] at e; cases e
  have old : ∀ {b u}, H b = some u → upd H a o b = some u := fun {b u} q => by rw [upd_ne (ne_of_none q hn)]; exact q
  refine I.step (g' := s.gens) (d' := s.drawn) (ch := fp) (FpOk.ch hf) (fun b o _ _ hc e _ => k b o hc e) (fun b o _ _ hc e _ => ⟨o.slots, k b o hc e⟩)
    (fun b u hc e n => by rw [upd_ne (Nat.ne_of_lt (Nat.lt_of_lt_of_le (Heap.lt_size e) hp))]; exact n)
    (fun b o hc e => ⟨o, k b o hc e⟩) (fun b xs e => old e) (fun b o u e => old e) (fun b ps e => ⟨#[], by rw [old e]; simp⟩) (fun m hm => ?_) (fun b u e => ?_) I.bare
  · obtain ⟨o, es, ep, ho, r⟩ := hm
    exact ⟨o, es, ep, k _ o (fun z => (hf _ z).2.1 rfl) ho, r⟩
  · by_cases hb : b = a
    · subst hb
      rw [upd_same] at e
      cases e
      exact new
    · rw [upd_ne hb] at e
      refine (I.hok b u e).stay (fun c v hc q => k c v ?_ q) (fun c q => old q) fun c xs q => old q
      rcases hc with z | z
      · rw [z]; exact nit b u e
      · exact nit c _ z
end
def Itz (K : PySem.W.Frag) (a b : Addr) : It :=
  ⟨fun i H => ∃ xs ys x y, SqT K H a xs ∧ SqT K H b ys ∧ xs[i]? = some x ∧ ys[i]? = some y,
   fun i H v H' => ∃ p x y, v = .ref p ∧ H p = none ∧ H' = upd H p (.tup [x, y]) ∧ ∀ xs ys, SqT K H a xs → SqT K H b ys → xs[i]? = some x ∧ ys[i]? = some y,
   fun i H => ∃ xs ys, SqT K H a xs ∧ SqT K H b ys ∧ i = min xs.length ys.length⟩
theorem turn_zip {P : Program} {w : World} {K : PySem.W.Frag} {elts : List Expr} {kk} {pos : Pos} (z TI TO i1 i2 a b : Addr) (D : ZAp z TI TO i1 i2 [i1, a] [i2, b]) (ha : a ≠ i1) (hb : b ≠ i2) :
    Turn P w K (.Tuple elts kk pos) (Itz K a b) [z, TI, TO, i1, i2] z
      (fun i h => IsZip h z TI TO .none ∧ IsPair h TI (.ref i1) (.ref i2) ∧ (∃ u v, IsPair h TO u v) ∧ h.IsTupleIter i1 a i ∧ h.IsTupleIter i2 b i) where
  mem := by simp
  obj := fun i h st c hc => by
    obtain ⟨hz, hTI, ⟨u, v, hTO⟩, ⟨o1, e1, _, d1⟩, ⟨o2, e2, _, d2⟩⟩ := st
    simp only [List.mem_cons, List.not_mem_nil, or_false] at hc
    rcases hc with rfl | rfl | rfl | rfl | rfl
    · exact ⟨_, hz, fun _ q => by cases q⟩
    · exact ⟨_, hTI, fun _ q => by cases q⟩
    · exact ⟨_, hTO, fun _ q => by cases q⟩
    · exact ⟨_, e1, fun _ q => by rw [d1] at q; cases q⟩
    · exact ⟨_, e2, fun _ q => by rw [d2] at q; cases q⟩
  keep := fun i h h' st k => by
    obtain ⟨hz, hTI, ⟨u, v, hTO⟩, h1, h2⟩ := st
    exact ⟨k z (by simp) _ hz, k TI (by simp) _ hTI, ⟨u, v, k TO (by simp) _ hTO⟩, h1.at fun o e => k i1 (by simp) o e, h2.at fun o e => k i2 (by simp) o e⟩
  item := by
    intro X hP hw hK hc i pins s σ H E I hf st hg
    subst hP hw hK
    obtain ⟨xs, ys, x, y, hqa, hqb, hx, hy⟩ := hg
    obtain ⟨its, ra, pa, _⟩ := I.tuple hqa
    obtain ⟨jts, rb, pb, _⟩ := I.tuple hqb
    obtain ⟨u, hu, ru⟩ := ra.get hx
    obtain ⟨v, hv, rv⟩ := rb.get hy
    obtain ⟨hz, hTI, ⟨u0, v0, hTO⟩, h1, h2⟩ := st
    have hl1 : i < its.toArray.size := by
      have := (List.getElem?_eq_some_iff.mp hu).1
      simpa using this
    have hl2 : i < jts.toArray.size := by
      have := (List.getElem?_eq_some_iff.mp hv).1
      simpa using this
    refine pyNext_zipD (I.ok.hd hc) D (fun A hA => draws_tuple hA i1 a ha its.toArray) (fun A hA => draws_tuple hA i2 b hb jts.toArray) hz hTI hTO ⟨h1, pa⟩ ⟨h2, pb⟩ hl1 hl2 fun u' v' h' tk e1 e2 hz' hTO' s1' s2' hT hsz hk => ?_
    have e1' : u' = u := by simpa [hu] using e1.symm
    have e2' : v' = v := by simpa [hv] using e2.symm
    subst e1' e2'
    refine ⟨_, rfl, wpAny_letOwnedTupleGo_zip hz' fun h2 hz2 hs2 => ?_⟩
    have zlt : z < s.heap.objs.size := Heap.lt_size hz
    have hT2 : IsPair h2 s.heap.objs.size u' v' := hs2.extBut _ _ (Nat.ne_of_gt zlt) hT
    have I2 : Inv X pins σ (upd H s.heap.objs.size (.tup [x, y])) { s with heap := h2, toks := tk } := by
      refine inv_turnedN (s := s) (fp := [z, TI, TO, i1, i2]) I hf (fun c o hc e => ?_) (Nat.le_refl _) ?_
      · simp only [List.mem_cons, List.not_mem_nil, or_false, not_or] at hc
        exact hs2.extBut _ _ hc.1 (hk c o hc.1 hc.2.2.1 hc.2.2.2.1 hc.2.2.2.2 e)
      · exact ⟨by show 2 ≤ sizeLine; decide, [u', v'], .cons ru (.cons rv .nil), _, hT2, rfl, _, rfl⟩
    refine ⟨.ref s.heap.objs.size, upd H s.heap.objs.size (.tup [x, y]), I2, rfl, ⟨_, x, y, rfl, I.fresh, rfl, fun xs' ys' q1 q2 => ?_⟩, ⟨hz2, ?_, ⟨_, _, hs2.extBut _ _ D.TOz hTO'⟩, s1'.1.extBut hs2.extBut D.i1z, s2'.1.extBut hs2.extBut D.i2z⟩, fun c hc => ?_⟩
    · rw [I.tuple_inj q1 hqa, I.tuple_inj q2 hqb]
      exact ⟨hx, hy⟩
    · exact hs2.extBut _ _ D.TIz (hk _ _ D.TIz D.TITO D.TIi1 D.TIi2 hTI)
    · rw [upd_ne]
      · exact (hf c hc).1
      · simp only [List.mem_cons, List.not_mem_nil, or_false] at hc
        obtain ⟨o1, g1, _⟩ := h1
        obtain ⟨o2, g2, _⟩ := ‹s.heap.IsTupleIter i2 b i›
        rcases hc with rfl | rfl | rfl | rfl | rfl
        · exact Nat.ne_of_lt (Heap.lt_size hz)
        · exact Nat.ne_of_lt (Heap.lt_size hTI)
        · exact Nat.ne_of_lt (Heap.lt_size hTO)
        · exact Nat.ne_of_lt (Heap.lt_size g1)
        · exact Nat.ne_of_lt (Heap.lt_size g2)
  done := by
    intro X hP hw hK hc i pins s σ H E I hf st hg
    subst hP hw hK
    obtain ⟨xs, ys, hqa, hqb, hi⟩ := hg
    obtain ⟨its, ra, pa, _⟩ := I.tuple hqa
    obtain ⟨jts, rb, pb, _⟩ := I.tuple hqb
    obtain ⟨hz, hTI, ⟨u0, v0, hTO⟩, h1, h2⟩ := st
    have l1 : its.toArray.size = xs.length := by rw [List.size_toArray]; exact ra.length.symm
    have l2 : jts.toArray.size = ys.length := by rw [List.size_toArray]; exact rb.length.symm
    refine pyNext_zipD_end (I.ok.hd hc) D (fun A hA => draws_tuple hA i1 a ha its.toArray) (fun A hA => draws_tuple hA i2 b hb jts.toArray) hz hTI hTO ⟨h1, pa⟩ ⟨h2, pb⟩ ?_ fun h' tk hk => ⟨rfl, inv_turnedL I hf fun c o hc e => ?_⟩
    · rw [l1, l2]; omega
    · simp only [List.mem_cons, List.not_mem_nil, or_false, not_or] at hc
      exact hk c o hc.1 hc.2.2.1 hc.2.2.2.1 hc.2.2.2.2 e
  self := fun _ _ _ _ _ st h => wpAny_pyIter_zip st.1 h
abbrev zpH1 (h : Heap) (l1 : Addr) : Heap := h.push { cls := .type "tuple_iterator", data := .fields #[.ref l1, .int 0 0] }
abbrev zpH2 (h : Heap) (l1 l2 : Addr) : Heap := (zpH1 h l1).push { cls := .type "tuple_iterator", data := .fields #[.ref l2, .int 0 0] }
abbrev zpH3 (h : Heap) (l1 l2 : Addr) : Heap := (zpH2 h l1 l2).push { cls := .type "tuple", data := .seq #[.ref h.objs.size, .ref (zpH1 h l1).objs.size] }
abbrev zpH4 (h : Heap) (l1 l2 : Addr) : Heap := (zpH3 h l1 l2).push { cls := .type "tuple", data := .seq #[.none, .none] }
abbrev zpH5 (h : Heap) (l1 l2 : Addr) : Heap := (zpH4 h l1 l2).push { cls := .type "zip", data := .fields #[.none, .bool false, .bool false, .ref (zpH2 h l1 l2).objs.size, .ref (zpH3 h l1 l2).objs.size] }
theorem meets_zipT (l1 l2 : Addr) (xs ys : Array Value) :
    Meets (Builtin.«zip.__new__» ⟨[.type "zip", .ref l1, .ref l2], []⟩) (fun _ R s => s.heap.IsTuple l1 xs ∧ s.heap.IsTuple l2 ys ∧
      R (.ok (.ret (.ref (zpH4 s.heap l1 l2).objs.size))) { s with heap := zpH5 s.heap l1 l2 }) :=
  .of_wp fun prog w A R s h => by
    obtain ⟨hp, g, d, tk, os⟩ := s; obtain ⟨hl1, hl2, h⟩ := h
    have hsub := sub_zip
    have hL1 : Heap.IsTuple (Shared.heap ⟨hp, g, d, tk, os⟩) l1 xs := hl1
    have hL2 : Heap.IsTuple (Shared.heap ⟨hp.push { cls := .type "tuple_iterator", data := .fields #[.ref l1, .int 0 0] }, g, d, tk, os⟩) l2 ys := Heap.IsTuple.push hl2 _
    wp_walk using wpAny_pyIter_tuple hL1, wpAny_pyIter_tuple hL2
    exact ⟨_, rfl, h⟩
section
variable {prog : Program} {w : World} {A : Around} {E : Value → Shared → Prop} {s : Shared}
theorem call_zipT {l1 l2 : Addr} {xs ys : Array Value} {Q : Value → Shared → Prop} (hl1 : s.heap.IsTuple l1 xs) (hl2 : s.heap.IsTuple l2 ys)
    (h : ∀ h', IsZip h' (s.heap.objs.size + 4) (s.heap.objs.size + 2) (s.heap.objs.size + 3) .none → IsPair h' (s.heap.objs.size + 2) (.ref s.heap.objs.size) (.ref (s.heap.objs.size + 1)) →
      IsPair h' (s.heap.objs.size + 3) .none .none → h'.IsTupleIter s.heap.objs.size l1 0 → h'.IsTupleIter (s.heap.objs.size + 1) l2 0 → h'.objs.size = s.heap.objs.size + 5 →
      (∀ c o, s.heap.get? c = some o → h'.get? c = some o) → Q (.ref (s.heap.objs.size + 4)) { s with heap := h' }) :
    wpAny (model prog w) A (call (.type "zip") [.ref l1, .ref l2]) Q E s := by
  refine callType_new F.called_zip (by decide) (F.typeCall_zip_2 _ _) (F.newCall_zip_2 _ _) (fun obj => F.args_object_init_3 obj _ _) F.entry_zip_new
    (meets_zipT l1 l2 xs ys) ⟨hl1, hl2, ?_⟩
  have z1 : (zpH1 s.heap l1).objs.size = s.heap.objs.size + 1 := Heap.size_push ..
  have z2 : (zpH2 s.heap l1 l2).objs.size = s.heap.objs.size + 2 := by rw [Heap.size_push, z1]
  have z3 : (zpH3 s.heap l1 l2).objs.size = s.heap.objs.size + 3 := by rw [Heap.size_push, z2]
  have z4 : (zpH4 s.heap l1 l2).objs.size = s.heap.objs.size + 4 := by rw [Heap.size_push, z3]
  have z5 : (zpH5 s.heap l1 l2).objs.size = s.heap.objs.size + 5 := by rw [Heap.size_push, z4]
  have g5 : (zpH5 s.heap l1 l2).get? (zpH4 s.heap l1 l2).objs.size = some _ := Heap.get?_push_size _ rfl
  have g4 : (zpH5 s.heap l1 l2).get? (zpH3 s.heap l1 l2).objs.size = some _ := Heap.get?_push_of_some _ (Heap.get?_push_size _ rfl)
  have g3 : (zpH5 s.heap l1 l2).get? (zpH2 s.heap l1 l2).objs.size = some _ := Heap.get?_push_of_some _ (Heap.get?_push_of_some _ (Heap.get?_push_size _ rfl))
  have g2 : (zpH5 s.heap l1 l2).get? (zpH1 s.heap l1).objs.size = some _ := Heap.get?_push_of_some _ (Heap.get?_push_of_some _ (Heap.get?_push_of_some _ (Heap.get?_push_size _ rfl)))
  have g1 : (zpH5 s.heap l1 l2).get? s.heap.objs.size = some _ := Heap.get?_push_of_some _ (Heap.get?_push_of_some _ (Heap.get?_push_of_some _ (Heap.get?_push_of_some _ (Heap.get?_push_size _ rfl))))
  show _ ∧ _
  rw [z2, z3, z4] at g5
  rw [z1, z2] at g3
  rw [z3] at g4
  rw [z1] at g2
  rw [z4]
  exact ⟨⟨_, g5, rfl⟩, h _ g5 g3 g4 ⟨_, g1, rfl, rfl⟩ ⟨_, g2, rfl, rfl⟩ z5 fun c o x =>
    Heap.get?_push_of_some _ (Heap.get?_push_of_some _ (Heap.get?_push_of_some _ (Heap.get?_push_of_some _ (Heap.get?_push_of_some _ x))))⟩
end
theorem zAp_new {n a b : Addr} (h1 : a < n) (h2 : b < n) : ZAp (n + 4) (n + 2) (n + 3) n (n + 1) [n, a] [n + 1, b] :=
  have D := PyProof.Rows.zipApart_new (n := n) (l1 := a) (l2 := b) h1 h2
  have no : ∀ {x y z : Addr}, y ≠ x → z ≠ x → x ∉ [y, z] := fun {x y z} p q h => by
    simp only [List.mem_cons, List.not_mem_nil, or_false] at h
    rcases h with h | h
    · exact p h.symm
    · exact q h.symm
  ⟨D.TIz, D.TOz, D.i1z, D.i2z, D.TITO, D.TIi1, D.TIi2, D.TOi1, D.TOi2, D.i12, no D.i1z D.l1z, no D.TOi1.symm D.l1TO, no D.i12 D.l1i2, no D.i2z D.l2z, no D.TOi2.symm D.l2TO, no D.i12.symm D.l2i1⟩
section
variable {X : Cx} {elts : List Expr} {pt : Pos}
def iZip (K : PySem.W.Frag) (ta : TA) : TI := fun σ H R => ta σ H fun vs H1 => ∃ a b, vs = [.ref a, .ref b] ∧ (∃ xs, SqT K H1 a xs) ∧ (∃ ys, SqT K H1 b ys) ∧ R (Itz K a b) H1
theorem pi_zip (K : PySem.W.Frag) {kk} {a b : Expr} {ta : TA} {p pos : Pos} (hg : Gl X "zip") (hm : X.mg "zip" = none) (ha : PA X [a, b] ta) (hs : starEach [a, b] X.env = [(false, eval a X.env), (false, eval b X.env)] := by rfl) (hs2 : starEach [b] X.env = [(false, eval b X.env)] := by rfl) (hK : X.K = K := by rfl) :
    PI X (.Tuple elts kk pt) (.Call (.Name "zip" p) [a, b] [] pos) (iZip K ta) := by
  subst hK
  intro pins s σ H R I h
  refine Call_ (ld_blt I hg hm bt_zip (PyProof.Rows.callWith_type1 (thn (ha pos pins s σ H _ I h) fun us s1 ⟨vs, H1, I1, r1, q1⟩ => ?_) (by rw [hs, hs2]) (by rw [hs2]; rfl)))
  obtain ⟨x, y, e, ⟨xs, hx⟩, ⟨ys, hy⟩, q⟩ := q1
  subst e
  cases r1 with
  | cons r rr =>
    cases rr with
    | cons r' rr =>
      cases rr
      cases r
      cases r'
      obtain ⟨its, ra, pa, _⟩ := I1.tuple hx
      obtain ⟨jts, rb, pb, _⟩ := I1.tuple hy
      have la : x < s1.heap.objs.size := by obtain ⟨_, e, _⟩ := id pa; exact Heap.lt_size e
      have lb : y < s1.heap.objs.size := by obtain ⟨_, e, _⟩ := id pb; exact Heap.lt_size e
      refine call_zipT pa pb fun h' hz hTI hTO g1 g2 hsz hk => wpAny_pyIter_zip hz ?_
      refine ⟨_, _, _, _, H1, rfl, I1.kept (t' := s1.toks) hk, turn_zip (s1.heap.objs.size + 4) (s1.heap.objs.size + 2) (s1.heap.objs.size + 3) s1.heap.objs.size (s1.heap.objs.size + 1) x y (zAp_new la lb) (Nat.ne_of_lt la) (Nat.ne_of_lt (Nat.lt_succ_of_lt lb)), ⟨hz, hTI, ⟨_, _, hTO⟩, g1, g2⟩, fun c hc => ?_, q⟩
      have le : s1.heap.objs.size ≤ c := by
        simp only [List.mem_cons, List.not_mem_nil, or_false] at hc
        rcases hc with rfl | rfl | rfl | rfl | rfl
        · exact Nat.le_add_right _ 4
        · exact Nat.le_add_right _ 2
        · exact Nat.le_add_right _ 3
        · exact Nat.le_refl _
        · exact Nat.le_add_right _ 1
      exact I1.fpOk le (I1.hok.fresh le)
end
end L2
namespace L2
open PySem PySem.Spec PyProof.Rows
section
variable {X : Cx}
end
end L2
namespace L2
open PySem PySem.Spec PyProof.Rows
section
variable {X : Cx} {k k' : Nat} {ι : Type} {cls : ι → Addr} {ps : List Str} {sp : ι → Sp} {x m : Str} {p pos apos : Pos} {e o : Expr} {es : List Expr} {ta : TE} {t : TA}
theorem pe_globR {C : Addr} (hg : Gl X x) (hm : X.mg x = some (.ref C)) (hd : (x == ("__debug__" : Str)) = false := by decide) : PE X (.Name x pos) (tC (.ref C)) := pe_glob hg hm rfl hd
end
end L2
namespace L2
open PySem PySem.Spec PyProof.Rows
section
open PySem.AutoSeq1
end
section
variable {X : Cx}
end
end L2
namespace L2
open PySem PySem.Spec PyProof.Rows
section
variable {prog : Program} {w : World} {A : Around} {E : Value → Shared → Prop} {s : Shared}
end
section
variable {X : Cx} {elts : List Expr} {pt : Pos}
end
end L2
namespace L2
open PySem PySem.Spec PyProof.Rows
section
variable {X : Cx}
end
end L2
namespace L2
open PySem PySem.Spec PyProof.Rows PySem.W
section
variable {prog : Program} {w : World} {A : Around} {E : Value → Shared → Prop} {s : Shared}
end
section
variable {X : Cx}
section
variable {pins : List (Addr × Obj)} {σ : St} {H : Hp} {s : Shared} {a kS : Addr} {vs ks : List Value} {rk : Value → Int} {e e1 : Nat} {P : PySem.Fin → Shared → Prop} {E : Value → Shared → Prop} {A : Around}
end
end
theorem paired_at {α β : Type} {F : α → β → Prop} : ∀ {l : List α} {k : List β} {i : Nat} {x : α}, Paired F l k → l[i]? = some x → ∃ y, k[i]? = some y ∧ F x y
  | _, _, 0, x, .cons a b, h => by
    cases h
    exact ⟨_, rfl, a⟩
  | _, _, i + 1, x, .cons a b, h => by
    obtain ⟨d, e, r⟩ := paired_at (i := i) (x := x) b (by simpa using h)
    exact ⟨d, by simpa using e, r⟩
section
variable {X : Cx} {k k' : Nat} {x p1 : Str} {sp : Sp} {e : Expr} {t : TA} {p pos kpos xp : Pos}
end
end L2
namespace L2
open PySem PySem.Spec PyProof.Rows
section
variable {X : Cx}
def rInTD (K : PySem.W.Frag) : R2 := fun x y H Q => ∃ d ds, Dat K H d x ∧ Dat K H (.tuple ds) y ∧ PyData.depthAll ds ≤ 60 ∧ Q (.bl (ds.any fun y => PyData.eqv y d)) H
theorem op_inTD (hu : X.A.units + 64 < cLine) (K : PySem.W.Frag) (hK : X.K = K := by rfl) : OpR X (compareOp .In) (rInTD K) := by
  subst hK
  intro pins s σ H x y v u Q I rx ry h
  obtain ⟨d, ds, hd, he, hz, q⟩ := h
  obtain ⟨as, ra⟩ := Dat.reads I _ _ _ hd rx
  obtain ⟨bs, rb⟩ := Dat.reads I _ _ _ he ry
  exact SeqAt.in_tuple_reads rb ra (Dat.lay _ _ he) (Dat.lay _ _ hd) (by have : min (PyData.depthAll ds) d.depth ≤ PyData.depthAll ds := Nat.min_le_left _ _; omega) (fin_bl I q rfl)
def rInLD (K : PySem.W.Frag) : R2 := fun x y H Q => ∃ d ds, Dat K H d x ∧ Dat K H (.list ds) y ∧ PyData.depthAll ds ≤ 60 ∧ Q (.bl (ds.any fun y => PyData.eqv y d)) H
theorem op_inLD (hu : X.A.units + 64 < cLine) (K : PySem.W.Frag) (hK : X.K = K := by rfl) : OpR X (compareOp .In) (rInLD K) := by
  subst hK
  intro pins s σ H x y v u Q I rx ry h
  obtain ⟨d, ds, hd, he, hz, q⟩ := h
  obtain ⟨as, ra⟩ := Dat.reads I _ _ _ hd rx
  obtain ⟨bs, rb⟩ := Dat.reads I _ _ _ he ry
  exact SeqAt.in_list_reads rb ra (Dat.lay _ _ he) (Dat.lay _ _ hd) (by have : min (PyData.depthAll ds) d.depth ≤ PyData.depthAll ds := Nat.min_le_left _ _; omega) (fin_bl I q rfl)
end
def TupC (K : PySem.W.Frag) (a : Addr) (xs : List V) : Prop := ∃ (o : Obj) (its : Array Value) (n : Nat), K.lookup a = some o ∧ o.cls = .type "tuple" ∧ o.data = .seq its n ∧ its.size ≤ sizeLine ∧ Vals xs its.toList
theorem TupC.sq {K : PySem.W.Frag} {a : Addr} {xs : List V} (h : TupC K a xs) (H : Hp) : SqT K H a xs := .inr h
theorem tupC_mk {K : PySem.W.Frag} {a : Addr} {xs : List V} {od : Option Addr} {its : Array Value} {n : Nat} {sl : Array (Option Value)} (l : K.lookup a = some ⟨.type "tuple", od, .seq its n, sl⟩) (z : its.size ≤ sizeLine) (v : Vals xs its.toList) : TupC K a xs := ⟨_, its, n, l, rfl, rfl, z, v⟩
end L2
namespace L2
open PySem PySem.Spec PyProof.Rows
section
variable {prog : Program} {w : World} {A : Around} {E : Value → Shared → Prop} {s : Shared}
end
section
variable {X : Cx} {elts : List Expr} {pt : Pos}
end
section
variable {prog : Program} {w : World} {A : Around} {E : Value → Shared → Prop} {s : Shared}
end
section
variable {X : Cx} {elts : List Expr} {pt : Pos}
end
section
variable {X : Cx} {k k' : Nat} {C : Addr} {ps : List Str} {sp : Sp} {x : Str} {p pos : Pos} {e : Expr} {es : List Expr} {t : TA}
end
end L2
namespace PySem
section
variable {prog : Program} {w : World} {K : Type} [DecidableEq K] {knd : HeapKind prog w K} {A : Around} {E : Value → Shared → Prop} {s : Shared} {d a : Addr} {k : K} {xs : List (K × Addr × Value)}
end
end PySem
namespace L2
open PySem PySem.Spec PyProof.Rows
section
variable {X : Cx} {pins : List (Addr × Obj)} {σ : St} {H : Hp} {s : Shared} {a b : Addr} {kvs : List (List Key × V)} {k : List Key} {z : V} {r : Value} {A : Around} {E : Value → Shared → Prop}
end
section
variable {X : Cx} {o e f : Expr} {apos cpos : Pos} {td ty tx : TE}
end
end L2
namespace L2
open PySem PySem.Spec PyProof.Rows PySem.W
section
variable {X : Cx} {tg : Expr}
theorem ps_no {st : Stmt} : PS X st (fun _ _ _ => False) := fun _ _ _ _ _ _ h => h.elim
end
end L2
open PySem PySem.W PyProof.Rows
namespace L2
theorem us0 {p : List Value → Prop} (h : p []) : ∀ us : List Value, us.length = 0 → p us := fun _ e => (List.length_eq_zero_iff.mp e).symm ▸ h
theorem us1 {p : List Value → Prop} (h : ∀ a : Value, p [a]) : ∀ us : List Value, us.length = 1 → p us
  | [], e => absurd e (by decide)
  | a :: t, e => us0 (p := fun us => p (a :: us)) (h a) t (Nat.succ.inj e)
theorem us2 {p : List Value → Prop} (h : ∀ a b : Value, p [a, b]) : ∀ us : List Value, us.length = 2 → p us
  | [], e => absurd e (by decide)
  | a :: t, e => us1 (p := fun us => p (a :: us)) (h a) t (Nat.succ.inj e)
theorem us3 {p : List Value → Prop} (h : ∀ a b c : Value, p [a, b, c]) : ∀ us : List Value, us.length = 3 → p us
  | [], e => absurd e (by decide)
  | a :: t, e => us2 (p := fun us => p (a :: us)) (h a) t (Nat.succ.inj e)
theorem us4 {p : List Value → Prop} (h : ∀ a b c d : Value, p [a, b, c, d]) : ∀ us : List Value, us.length = 4 → p us
  | [], e => absurd e (by decide)
  | a :: t, e => us3 (p := fun us => p (a :: us)) (h a) t (Nat.succ.inj e)
theorem us5 {p : List Value → Prop} (h : ∀ a b c d e : Value, p [a, b, c, d, e]) : ∀ us : List Value, us.length = 5 → p us
  | [], e => absurd e (by decide)
  | a :: t, e => us4 (p := fun us => p (a :: us)) (h a) t (Nat.succ.inj e)
structure FiK (K : PySem.W.Frag) (x : Str) (st : Stmt) : Prop where
  ex : ∃ (f : Addr) (oc : Value) (od an : Option Addr) (osl : Array (Option Value)) (kV doc pm cdv ct : Value), PySem.W.nsIn K mainGlobals x = some (some (.ref f)) ∧
    K.lookup f = some ⟨oc, od, .func (PySem.W.fnOf x x (defArgs st) (defBody st) (defScope st) .none kV doc pm an cdv ct), osl⟩ ∧ PySem.W.codeIn K cdv x = true ∧ PySem.W.keepIn K (.ref f) = true
theorem fiK {K : PySem.W.Frag} {x : Str} {st : Stmt} {f : Addr} {oc : Value} {od an : Option Addr} {osl : Array (Option Value)} {kV doc pm cdv ct : Value} (a : PySem.W.nsIn K mainGlobals x = some (some (.ref f)))
    (l : K.lookup f = some ⟨oc, od, .func (PySem.W.fnOf x x (defArgs st) (defBody st) (defScope st) .none kV doc pm an cdv ct), osl⟩) (c : PySem.W.codeIn K cdv x = true) (k : PySem.W.keepIn K (.ref f) = true) : FiK K x st :=
  ⟨f, oc, od, an, osl, kV, doc, pm, cdv, ct, a, l, c, k⟩
theorem FiK.top {K : PySem.W.Frag} {h : Heap} {mg : Str → Option Value} {x : Str} {st : Stmt} {ps : List Str} (F : FiK K x st) (X : K.In h) (G : h.Ns mainGlobals mg)
    (b : ∀ (kV doc pm : Value) (an : Option Addr) (cdv ct : Value) (us : List Value), us.length = ps.length → bindArgs (PySem.W.fnOf x x (defArgs st) (defBody st) (defScope st) .none kV doc pm an cdv ct) ⟨us, []⟩ = pure (ps.zip us)) : Top K mg x st ps := by
  obtain ⟨f, oc, od, an, osl, kV, doc, pm, cdv, ct, a, l, c, k⟩ := F.ex
  exact top_mk X G b a l c k
section
variable {K : PySem.W.Frag} {h : Heap} {mg : Str → Option Value} {x a : Str} {v : Option (Option Value)}
end
end L2
namespace L2
open PySem PySem.Spec PyProof.Rows PySem.Builtin.Str
def shownK : Key → Str
  | .inl i => Str.ofString (toString i)
  | .inr z => z
theorem vals_strs : ∀ (ws : List Str) (k : Nat), Vals (ws.map V.str) (strsFrom k ws)
  | [], _ => .nil
  | w :: ws, k => .cons ⟨_, rfl⟩ (vals_strs ws (k + 1))
section
variable {X : Cx}
theorem call_strK : CallR X (.type "str") (fun xs H Q => ∃ k : Key, xs = [kV k] ∧ (∀ i, k = .inl i → i.natAbs < 2 ^ 1900) ∧ Q (.str (shownK k)) H) := by
  intro pins s σ H xs us Q I r h
  obtain ⟨k, rfl, hb, q⟩ := h
  obtain ⟨u, rfl, ru⟩ := vals1 r
  cases k with
  | inl i =>
    obtain ⟨t, rfl⟩ := ru
    have h1 : i.natAbs.log2 < 1920 := by
      have := hb i rfl
      by_cases h0 : i.natAbs = 0
      · rw [h0]; decide
      · exact Nat.lt_of_lt_of_le ((Nat.log2_lt h0).mpr this) (by decide)
    exact P.str_of_int h1 ⟨.str (Str.ofString (toString i)), H, I.tok _, ⟨_, rfl⟩, q⟩
  | inr z =>
    obtain ⟨t, rfl⟩ := ru
    exact P.str_of_str ⟨.str z, H, I, ⟨_, rfl⟩, q⟩
theorem call_intT : CallR X (.type "int") (fun xs H Q => ∃ (z : Str) (n : Int), xs = [.str z] ∧ z.length ≤ 640 ∧ PySem.intText? z = some n ∧ Q (.int n) H) := by
  intro pins s σ H xs us Q I r h
  obtain ⟨z, n, rfl, hl, hn, q⟩ := h
  obtain ⟨u, rfl, t, rfl⟩ := vals1 r
  exact PySem.W.KIN.call_text hn hl ⟨.int n, H, I.tok _, ⟨_, rfl⟩, q⟩
def startB (z y : Str) : Bool := decide (0 + y.length ≤ z.length) && subAt z y 0
def endB (z y : Str) : Bool := decide (0 + y.length ≤ z.length) && subAt z y (z.length - y.length)
theorem mt_startswith : MtR X "str.startswith" (fun x xs H Q => ∃ z y, x = .str z ∧ xs = [.str y] ∧ Q (.bl (startB z y)) H) := by
  intro pins s σ H x xs v us Q I rx rv h
  obtain ⟨z, y, rfl, rfl, q⟩ := h
  obtain ⟨t, rfl⟩ := rx
  obtain ⟨u, rfl, t', rfl⟩ := rv.one
  exact call_gives F.slot_str_startswith (typeIs_str _ _ _) F.entry_str_startswith (F.args_str_startswith_2 _ _) (gives_str_startswith z y t t') ⟨.bl (startB z y), H, I, rfl, q⟩
theorem mt_endswith : MtR X "str.endswith" (fun x xs H Q => ∃ z y, x = .str z ∧ xs = [.str y] ∧ Q (.bl (endB z y)) H) := by
  intro pins s σ H x xs v us Q I rx rv h
  obtain ⟨z, y, rfl, rfl, q⟩ := h
  obtain ⟨t, rfl⟩ := rx
  obtain ⟨u, rfl, t', rfl⟩ := rv.one
  exact call_gives F.slot_str_endswith (typeIs_str _ _ _) F.entry_str_endswith (F.args_str_endswith_2 _ _) (gives_str_endswith z y t t') ⟨.bl (endB z y), H, I, rfl, q⟩
def partS (x y : Str) : List Str :=
  match occurrences x y 0 x.length 1 with
  | i :: _ => [strSub x 0 i, y, strSub x (i + y.length) x.length]
  | [] => [x, Str.empty, Str.empty]
theorem mt_partition : MtR X "str.partition" (fun x xs H Q => ∃ z y, x = .str z ∧ xs = [.str y] ∧ (y.length == 0) = false ∧ z.length ≤ sizeLine ∧ ∀ p, H p = none → Q (.ref p) (upd H p (.tup ((partS z y).map V.str)))) := by
  intro pins s σ H x xs v us Q I rx rv h
  obtain ⟨z, y, rfl, rfl, hy, hz, q⟩ := h
  obtain ⟨t, rfl⟩ := rx
  obtain ⟨u, rfl, t', rfl⟩ := rv.one
  refine call_meets F.slot_str_partition (typeIs_str _ _ _) F.entry_str_partition (F.args_str_partition_2 _ _) (meets_str_partition z y t t' hy hz) ?_
  have q := q s.heap.objs.size (I.hok.fresh (Nat.le_refl _))
  unfold partS at q
  cases e : occurrences z y 0 z.length 1 with
  | nil =>
    rw [e] at q
    refine ⟨.ref _, _, I.laid (fun b ob q => Heap.get?_push_of_some _ q) (Nat.le_refl _) (o := .tup ([z, Str.empty, Str.empty].map V.str)) ?_, rfl, q⟩
    exact ⟨by show 3 ≤ sizeLine; decide, _, .cons ⟨_, rfl⟩ (.cons ⟨_, rfl⟩ (.cons ⟨_, rfl⟩ .nil)), _, Heap.get?_push_size _ rfl, rfl, _, rfl⟩
  | cons i r =>
    rw [e] at q
    refine ⟨.ref _, _, I.laid (fun b ob q => Heap.get?_push_of_some _ q) (Nat.le_refl _) (o := .tup ([strSub z 0 i, y, strSub z (i + y.length) z.length].map V.str)) ?_, rfl, q⟩
    exact ⟨by show 3 ≤ sizeLine; decide, _, .cons ⟨_, rfl⟩ (.cons ⟨_, rfl⟩ (.cons ⟨_, rfl⟩ .nil)), _, Heap.get?_push_size _ rfl, rfl, _, rfl⟩
def cutsS (x y : Str) : List Str := Txt.split x y
theorem mt_split : MtR X "str.split" (fun x xs H Q => ∃ z y, x = .str z ∧ xs = [.str y] ∧ (y.length == 0) = false ∧ z.length ≤ sizeLine ∧ (cutsS z y).length ≤ sizeLine ∧ ∀ p, H p = none → Q (.ref p) (upd H p (.lst ((cutsS z y).map V.str)))) := by
  intro pins s σ H x xs v us Q I rx rv h
  obtain ⟨z, y, rfl, rfl, hy, hz, hn, q⟩ := h
  obtain ⟨t, rfl⟩ := rx
  obtain ⟨u, rfl, t', rfl⟩ := rv.one
  have q := q s.heap.objs.size (I.hok.fresh (Nat.le_refl _))
  unfold cutsS Txt.split at q hn
  cases h1 : (decide (z.length < y.length) || decide (strKind z < strKind y)) with
  | true =>
    rw [if_pos h1] at q
    refine call_meets F.slot_str_split (typeIs_str _ _ _) F.entry_str_split (F.args_str_split_2 _ _) (meets_str_split_cannot_occur z y t t' h1) ?_
    refine ⟨.ref _, _, I.laid (fun b ob q => Heap.get?_push_of_some _ q) (Nat.le_refl _) (o := .lst ([z].map V.str)) ?_, rfl, q⟩
    exact ⟨by show 1 ≤ sizeLine; decide, _, 0, .cons ⟨_, rfl⟩ .nil, Heap.get?_push_size _ rfl⟩
  | false =>
    rw [h1, if_neg Bool.false_ne_true] at q hn
    cases h2 : (occurrences z y 0 z.length (z.length + 1)).isEmpty with
    | true =>
      rw [if_pos h2] at q
      refine call_meets F.slot_str_split (typeIs_str _ _ _) F.entry_str_split (F.args_str_split_2 _ _) (meets_str_split_not_found z y t t' h1 hy h2) ?_
      refine ⟨.ref _, _, I.laid (fun b ob q => Heap.get?_push_of_some _ q) (Nat.le_refl _) (o := .lst ([z].map V.str)) ?_, rfl, q⟩
      exact ⟨by show 1 ≤ sizeLine; decide, _, 0, .cons ⟨_, rfl⟩ .nil, Heap.get?_push_size _ rfl⟩
    | false =>
      rw [h2, if_neg Bool.false_ne_true] at q hn
      refine call_meets F.slot_str_split (typeIs_str _ _ _) F.entry_str_split (F.args_str_split_2 _ _) (meets_str_split_sep z y t t' h1 hy h2 hz hn) ?_
      refine ⟨.ref _, _, I.laid (fun b ob q => Heap.get?_push_of_some _ q) (Nat.le_refl _) (o := .lst ((partsBetween z (occurrences z y 0 z.length (z.length + 1)) y.length).map V.str)) ?_, rfl, q⟩
      exact ⟨by rw [List.length_map]; exact hn, _, 0, vals_strs _ _, Heap.get?_push_size _ rfl⟩
theorem mt_joinS (K : PySem.W.Frag) (hK : X.K = K := by rfl) : MtR X "str.join" (fun x xs H Q => ∃ a ws y, x = .str y ∧ xs = [.ref a] ∧ SqL K H a (ws.map V.str) ∧ (ws.map (·.length)).sum + ws.length * y.length ≤ 16777216 ∧ Q (.str (Str.join y ws)) H) := by
  subst hK
  intro pins s σ H x xs v us Q I rx rv h
  obtain ⟨a, ws, y, rfl, rfl, hs, hl, q⟩ := h
  obtain ⟨t, rfl⟩ := rx
  obtain ⟨u, rfl, ru⟩ := rv.one
  cases ru
  obtain ⟨its, r, pl, _⟩ := I.list hs
  obtain ⟨_, _, e3⟩ := vals_str r
  have e : Txt.join y ws = Str.join y ws := by
    show Builtin.Str.glued y ws = _
    rw [StrLaws.glued_eq_join]
  refine join_list (ys := ws) pl.isList (by rw [List.toList_toArray]; exact e3) hl fun t' k => ?_
  exact ⟨.str (Str.join y ws), H, I.tok _, ⟨t', by rw [← e]⟩, q⟩
variable {v1 v2 v3 e : Expr} {t1 t2 t3 te : TE} {pos : Pos}
end
end L2
namespace L2
open PySem PySem.Spec PyProof.Rows PySem.Builtin.Str PySem.StrLaws PySem.NumText
theorem str_ext {a b : Str} (h : a.cps.toList = b.cps.toList) : a = b := Str.ext' (Array.toList_inj.mp h)
theorem str_app (a b : Str) : (a ++ b).cps.toList = a.cps.toList ++ b.cps.toList := by
  rw [Str.cps_append, Array.toList_append]
theorem str_len (z : Str) : z.cps.toList.length = z.length := by simp [Str.length]
theorem at_iff {x y : Str} {i : Nat} : At x y x.length i ↔ i + y.length ≤ x.length ∧ (x.cps.toList.drop i).take y.length = y.cps.toList := by
  unfold At
  rw [subAt_eq, beq_iff_eq]
theorem at_sign {x y : Str} {c : Nat} {t : List Nat} (hy : y.cps.toList = c :: t) {i : Nat} (h : At x y x.length i) : x.cps.toList[i]? = some c := by
  have h2 := (at_iff.mp h).2
  rw [hy] at h2
  have e : ((x.cps.toList.drop i).take y.length)[0]? = some c := by rw [h2]; rfl
  rw [List.getElem?_take] at e
  split at e
  · rwa [List.getElem?_drop, Nat.add_zero] at e
  · cases e
theorem at_mid {x y : Str} {a : Nat} {w r : List Nat} (ha : a ≤ x.length) (h : x.cps.toList.drop a = w ++ (y.cps.toList ++ r)) : At x y x.length (a + w.length) := by
  have hl := str_len x
  have hy := str_len y
  have e1 : (x.cps.toList.drop a).length = x.length - a := by rw [List.length_drop, hl]
  rw [h, List.length_append, List.length_append, hy] at e1
  refine at_iff.mpr ⟨by omega, ?_⟩
  rw [← List.drop_drop, h, List.drop_append_of_le_length (Nat.le_refl _), List.drop_length, List.nil_append, ← hy, List.take_append_of_le_length (Nat.le_refl _), List.take_length]
theorem join_cons2 (y a b : Str) (r : List Str) : Str.join y (a :: b :: r) = a ++ y ++ Str.join y (b :: r) := rfl
theorem chain_parts {x y : Str} {c : Nat} {t : List Nat} (hy : y.cps.toList = c :: t) : ∀ (ws : List Str) (a : Nat) (cuts : List Nat) (f : Nat), ws ≠ [] → (∀ w ∈ ws, c ∉ w.cps.toList) → a ≤ x.length →
    x.cps.toList.drop a = (Str.join y ws).cps.toList → ChainG x y x.length a cuts f → (∀ k, f ≤ k → ¬ At x y x.length k) → partsFrom x y.length a cuts = ws
  | [], _, _, _, h, _, _, _, _, _ => absurd rfl h
  | [w], a, [], f, _, hw, ha, e, hg, hn => by
    show [strSub x a x.length] = [w]
    rw [show strSub x a x.length = w from str_ext (by rw [strSub_toList, e, List.take_of_length_le]; rfl; rw [← e, List.length_drop, str_len]; exact Nat.le_refl _)]
  | [w], a, d :: r, f, _, hw, ha, e, hg, hn => by
    exfalso
    have h1 := at_sign hy hg.2.1
    have h2 : (x.cps.toList.drop a)[d - a]? = some c := by
      rw [List.getElem?_drop, show a + (d - a) = d from by have := hg.1; omega]
      exact h1
    rw [e] at h2
    exact hw w (List.mem_singleton.mpr rfl) (List.mem_of_getElem? h2)
  | w :: w' :: ws, a, cuts, f, _, hw, ha, e, hg, hn => by
    rw [join_cons2, str_app, str_app, List.append_assoc] at e
    have hA := at_mid ha e
    have hlen := (at_iff.mp hA).1
    have inw : ∀ d, a ≤ d → d < a + w.cps.toList.length → ¬ At x y x.length d := fun d h1 h2 h3 => by
      have h4 := at_sign hy h3
      have h5 : (x.cps.toList.drop a)[d - a]? = some c := by
        rw [List.getElem?_drop, show a + (d - a) = d from by omega]
        exact h4
      rw [e, List.getElem?_append_left (by omega)] at h5
      exact hw w (List.mem_cons_self ..) (List.mem_of_getElem? h5)
    cases cuts with
    | nil =>
      have e0 : f = a := hg
      exact absurd hA (hn _ (by omega))
    | cons d r =>
      obtain ⟨g1, g2, g3, g4⟩ := hg
      have ed : d = a + w.cps.toList.length := by
        rcases Nat.lt_trichotomy d (a + w.cps.toList.length) with h | h | h
        · exact absurd g2 (inw d g1 h)
        · exact h
        · exact absurd hA (g3 _ (by omega) h)
      subst ed
      show strSub x a (a + w.cps.toList.length) :: partsFrom x y.length (a + w.cps.toList.length + y.length) r = _
      rw [chain_parts hy (w' :: ws) _ r f (by simp) (fun z hz => hw z (List.mem_cons_of_mem _ hz)) hlen ?_ g4 hn]
      · congr 1
        refine str_ext ?_
        rw [strSub_toList, e, show a + w.cps.toList.length - a = w.cps.toList.length from by omega, List.take_append_of_le_length (Nat.le_refl _), List.take_length]
      · rw [← List.drop_drop, ← List.drop_drop, e, List.drop_append_of_le_length (Nat.le_refl _), List.drop_length, List.nil_append, ← str_len y, List.drop_append_of_le_length (Nat.le_refl _), List.drop_length, List.nil_append]
theorem split_join {y : Str} {c : Nat} {t : List Nat} (hy : y.cps.toList = c :: t) (hk : Builtin.Str.strKind y = 1) {ws : List Str} (ne : ws ≠ []) (hw : ∀ w ∈ ws, c ∉ w.cps.toList) : Txt.split (Str.join y ws) y = ws := by
  have hw1 : 1 ≤ y.length := by rw [← str_len, hy]; simp
  obtain ⟨f, hG, hn⟩ := occ_tight (Str.join y ws) y hw1
  have main := chain_parts hy ws 0 _ f ne hw (Nat.zero_le _) (by rw [List.drop_zero]) hG hn
  have one : ∀ x : Str, 1 ≤ Builtin.Str.strKind x := fun x => by
    unfold Builtin.Str.strKind
    split
    · decide
    · split <;> decide
  unfold Txt.split
  split
  · rename_i h
    rw [Bool.or_eq_true, decide_eq_true_eq, decide_eq_true_eq] at h
    match ws, ne with
    | [w], _ => rfl
    | w :: w' :: r, _ =>
      exfalso
      rcases h with h | h
      · rw [join_cons2, Str.length_append, Str.length_append] at h
        omega
      · have := one (Str.join y (w :: w' :: r))
        omega
  · split
    · rename_i h
      rw [List.isEmpty_iff.mp h] at main
      rw [show partsFrom (Str.join y ws) y.length 0 [] = [strSub (Str.join y ws) 0 (Str.join y ws).length] from rfl, sub_whole] at main
      exact main
    · rw [partsBetween_eq]
      exact main
theorem part_at {a y b : Str} {c : Nat} {t : List Nat} (hy : y.cps.toList = c :: t) (ha : c ∉ a.cps.toList) : partS (a ++ y ++ b) y = [a, y, b] := by
  have ex : (a ++ y ++ b).cps.toList = a.cps.toList ++ (y.cps.toList ++ b.cps.toList) := by rw [str_app, str_app, List.append_assoc]
  have hA : At (a ++ y ++ b) y (a ++ y ++ b).length (0 + a.cps.toList.length) := at_mid (Nat.zero_le _) (by rw [List.drop_zero]; exact ex)
  unfold partS
  rcases occ_head (a ++ y ++ b) y 1 (Nat.le_refl _) with ⟨_, h⟩ | ⟨i, r, e, h1, h2⟩
  · exact absurd hA (h _)
  · rw [e]
    have ei : i = a.cps.toList.length := by
      rcases Nat.lt_trichotomy i a.cps.toList.length with h | h | h
      · have h4 := at_sign hy h1
        rw [ex, List.getElem?_append_left h] at h4
        exact absurd (List.mem_of_getElem? h4) ha
      · exact h
      · exact absurd hA (h2 _ (by omega))
    subst ei
    show [strSub _ 0 _, y, strSub _ _ _] = _
    rw [show strSub (a ++ y ++ b) 0 a.cps.toList.length = a from str_ext (by rw [strSub_toList, ex, List.drop_zero, Nat.sub_zero, List.take_append_of_le_length (Nat.le_refl _), List.take_length]),
      show strSub (a ++ y ++ b) (a.cps.toList.length + y.length) (a ++ y ++ b).length = b from str_ext (by
        rw [strSub_toList, ex, ← List.drop_drop, List.drop_append_of_le_length (Nat.le_refl _), List.drop_length, List.nil_append, ← str_len y, List.drop_append_of_le_length (Nat.le_refl _), List.drop_length, List.nil_append, List.take_of_length_le]
        rw [Str.length_append, Str.length_append, str_len, str_len, str_len]
        omega)]
theorem start_one (z : Str) (c : Nat) : startB z ⟨#[c]⟩ = decide (z.cps.toList.head? = some c) := by
  have hl := str_len z
  unfold startB
  rw [subAt_eq, List.drop_zero]
  show (decide (0 + 1 ≤ z.length) && (z.cps.toList.take 1 == [c])) = _
  cases e : z.cps.toList with
  | nil =>
    rw [e] at hl
    rw [decide_eq_false (by have : z.length = 0 := hl.symm; omega)]
    simp
  | cons d r =>
    rw [e] at hl
    rw [decide_eq_true (by rw [List.length_cons] at hl; omega)]
    show (true && ([d] == [c])) = decide (some d = some c)
    by_cases h : d = c
    · subst h; simp
    · simp [h]
theorem end_one (a : Str) (c : Nat) : endB (a ++ ⟨#[c]⟩) ⟨#[c]⟩ = true := by
  have hl : (a ++ (⟨#[c]⟩ : Str)).length = a.length + 1 := Str.length_append _ _
  unfold endB
  rw [subAt_eq, hl]
  show (decide (0 + 1 ≤ a.length + 1) && (((a ++ (⟨#[c]⟩ : Str)).cps.toList.drop (a.length + 1 - 1)).take 1 == [c])) = true
  rw [str_app, Nat.add_sub_cancel, ← str_len a, List.drop_append_of_le_length (Nat.le_refl _), List.drop_length, decide_eq_true (by omega)]
  show (true && ([c] == [c])) = true
  simp
theorem num_signs (m : Nat) : (shownK (.inl (m : Int))).cps.toList = (Nat.toDigits 10 m).map Char.toNat := PySem.W.KIN.signs_num m
theorem neg_signs (m : Nat) (h : 1 ≤ m) : (shownK (.inl (-(m : Int)))).cps.toList = 45 :: (Nat.toDigits 10 m).map Char.toNat := by
  obtain ⟨k, rfl⟩ : ∃ k, m = k + 1 := ⟨m - 1, by omega⟩
  show (Str.ofString (toString (Int.negSucc k))).cps.toList = _
  rw [signs_ofString]
  show (("-" ++ Nat.repr (k + 1)) : String).toList.map Char.toNat = _
  rw [String.toList_append, List.map_append, Nat.toList_repr]
  rfl
theorem digits_split {m : Nat} (h : ¬ m < 10) : Nat.toDigits 10 m = Nat.toDigits 10 (m / 10) ++ [Nat.digitChar (m % 10)] := by
  have hm : m % 10 < 10 := Nat.mod_lt m (by decide)
  have t : Nat.toDigits 10 (m / 10) ++ Nat.toDigits 10 (m % 10) = Nat.toDigits 10 (10 * (m / 10) + m % 10) := Nat.toDigits_append_toDigits (by decide) (by omega) hm
  rw [Nat.div_add_mod, Nat.toDigits_of_lt_base hm] at t
  exact t.symm
theorem digits_len : ∀ (k m : Nat), m < 10 ^ (k + 1) → (Nat.toDigits 10 m).length ≤ k + 1
  | 0, m, h => by
    rw [Nat.toDigits_of_lt_base (by simpa using h)]
    exact Nat.le_refl _
  | k + 1, m, h => by
    by_cases h1 : m < 10
    · rw [Nat.toDigits_of_lt_base h1]
      show 1 ≤ _
      omega
    · rw [digits_split h1, List.length_append]
      have := digits_len k (m / 10) (by rw [Nat.pow_succ] at h; omega)
      show _ + 1 ≤ _
      omega
theorem digits_head (m : Nat) (h : 1 ≤ m) : ∃ d r, (Nat.toDigits 10 m).map Char.toNat = d :: r ∧ d ≠ 48 := by
  induction m using Nat.strongRecOn with
  | _ m ih =>
    by_cases h1 : m < 10
    · rw [Nat.toDigits_of_lt_base h1]
      refine ⟨_, [], rfl, ?_⟩
      have : ∀ d : Nat, d < 10 → 1 ≤ d → (Nat.digitChar d).toNat ≠ 48 := by decide
      exact this m h1 h
    · rw [digits_split h1, List.map_append]
      obtain ⟨d, r, e, hd⟩ := ih (m / 10) (by omega) (by omega)
      rw [e]
      exact ⟨d, _, rfl, hd⟩
theorem digits_all (m : Nat) : PySem.NumText.AllDigits ((Nat.toDigits 10 m).map Char.toNat) := by
  intro c hc
  obtain ⟨ch, hch, e⟩ := List.mem_map.mp hc
  have r := digit_range (Nat.isDigit_of_mem_toDigits (by decide) (by decide) hch)
  rw [← e]
  exact r
theorem digits_ne (m : Nat) : (Nat.toDigits 10 m).map Char.toNat ≠ [] := by
  by_cases h : 1 ≤ m
  · obtain ⟨d, r, e, _⟩ := digits_head m h
    rw [e]
    simp
  · have : m = 0 := by omega
    subst this
    decide
theorem num_two (i : Int) : (∃ m : Nat, i = m ∧ (shownK (.inl i)).cps.toList = (Nat.toDigits 10 m).map Char.toNat) ∨ ∃ m : Nat, 1 ≤ m ∧ i = -(m : Int) ∧ (shownK (.inl i)).cps.toList = 45 :: (Nat.toDigits 10 m).map Char.toNat := by
  rcases Int.lt_or_le i 0 with h | h
  · obtain ⟨m, hm⟩ := Int.eq_ofNat_of_zero_le (show 0 ≤ -i by omega)
    have e : i = -(m : Int) := by omega
    refine .inr ⟨m, by omega, e, ?_⟩
    rw [e]
    exact neg_signs m (by omega)
  · obtain ⟨m, rfl⟩ := Int.eq_ofNat_of_zero_le h
    exact .inl ⟨m, rfl, num_signs m⟩
theorem num_len {i : Int} (h : i.natAbs < 10 ^ 60) : (shownK (.inl i)).length ≤ 61 ∧ 1 ≤ (shownK (.inl i)).length := by
  rw [← str_len]
  rcases num_two i with ⟨m, e, q⟩ | ⟨m, h1, e, q⟩
  · have := digits_len 59 m (by omega)
    rw [q, List.length_map]
    refine ⟨by omega, ?_⟩
    have := digits_ne m
    cases z : Nat.toDigits 10 m with
    | nil => rw [z] at this; exact absurd rfl this
    | cons a b => simp
  · have := digits_len 59 m (by omega)
    rw [q, List.length_cons, List.length_map]
    omega
theorem num_reads {i : Int} (h : i.natAbs < 10 ^ 60) : PySem.intText? (shownK (.inl i)) = some i := by
  have hl := (num_len h).1
  rcases num_two i with ⟨m, e, q⟩ | ⟨m, h1, e, q⟩
  · have r := intText_digits (x := shownK (.inl i)) (by rw [q]; exact digits_all m) (by rw [q]; exact digits_ne m) (Nat.le_trans hl (by decide))
    rw [r, q, PySem.W.KIN.val_back, e]
  · have r := intText_neg (x := shownK (.inl i)) q (digits_all m) (digits_ne m) (Nat.le_trans hl (by decide))
    rw [r, PySem.W.KIN.val_back, e]
theorem comp_zip {K : PySem.W.Frag} {a b : Addr} {xs ys : List V} {g : TG} {tf : TT} {te : TE} {D : Addr} {QE : Hp → Prop} {σ : St} {H : Hp} (Pv : Nat → St → Hp → Prop) (h0 : Pv 0 σ H) (hl : ∀ i σ H, i ≤ min xs.length ys.length → Pv i σ H → SqT K H a xs ∧ SqT K H b ys)
    (hst : ∀ σ H, Pv (min xs.length ys.length) σ H → QE H)
    (hs : ∀ i x y p σ H, xs[i]? = some x → ys[i]? = some y → H p = none → Pv i σ H → g (.ref p) σ (upd H p (.tup [x, y])) fun σ2 H2 => tf σ2 H2 fun b H3 => if b = true then te σ2 H3 fun v H4 => ∃ xs, H4 D = some (.lst xs) ∧ xs.length < sizeLine ∧ Pv (i + 1) σ2 (upd H4 D (.lst (xs ++ [v]))) else Pv (i + 1) σ2 H3) :
    ∃ W : Nat → Nat → St → Hp → Prop, (∃ m, W 0 m σ H) ∧ CompW (Itz K a b) g tf te D QE W := by
  refine comp_by (min xs.length ys.length) Pv h0 (fun i σ H hi p => ?_) (fun σ H p => ⟨⟨xs, ys, (hl _ σ H (Nat.le_refl _) p).1, (hl _ σ H (Nat.le_refl _) p).2, rfl⟩, hst σ H p⟩) fun i σ H hi p x H' y => ?_
  · obtain ⟨q1, q2⟩ := hl i σ H (Nat.le_of_lt hi) p
    have l1 : i < xs.length := by omega
    have l2 : i < ys.length := by omega
    exact ⟨xs, ys, xs[i], ys[i], q1, q2, List.getElem?_eq_getElem l1, List.getElem?_eq_getElem l2⟩
  · obtain ⟨q1, q2⟩ := hl i σ H (Nat.le_of_lt hi) p
    obtain ⟨c, x', y', rfl, hc, rfl, hq⟩ := y
    obtain ⟨e1, e2⟩ := hq xs ys q1 q2
    exact hs i x' y' c σ H e1 e2 hc p
end L2
namespace L2
open PySem PySem.Spec PyProof.Rows
def CXE (P : Program) (w : World) : CXT := fun outer H s E e s' =>
  ∃ (ea : Addr) (cls : Value) (t : Addr) (H' : Hp) (B : Heap), e = .ref ea ∧ s'.os = s.os ∧ AllBare s'.gens ∧ Un (frs outer) [] H H' s.heap s'.heap ∧ HOk P w H' s'.heap ∧
    Heap.FlyingW B outer ea cls (.ref t) s'.heap ∧ (∀ b u, H' b = some u → ∃ o, B.get? b = some o) ∧ (∀ b o, s.heap.get? b = some o → b ∉ frs outer → ∃ o', B.get? b = some o') ∧ E cls none H'
theorem ObjOk.there {P : Program} {w : World} {H : Hp} {h : Heap} {a : Addr} {o : HO} (x : ObjOk P w H h a o) : ∃ u, h.get? a = some u := by
  cases o with
  | lst xs => obtain ⟨_, _, _, _, e⟩ := x; exact ⟨_, e⟩
  | tup xs => obtain ⟨_, _, _, u, e, _⟩ := x; exact ⟨u, e⟩
  | dK kvs => obtain ⟨_, _, _, _, o, _, _, e, _⟩ := x; exact ⟨o, e⟩
  | dT kvs => obtain ⟨_, _, _, _, o, _, _, e, _⟩ := x; exact ⟨o, e⟩
  | set S n => obtain ⟨o, _, _, _, e, _⟩ := x; exact ⟨o, e⟩
  | ins C dx fs => obtain ⟨_, _, _, e, _⟩ := x; exact ⟨_, e⟩
  | own y => obtain ⟨o, e⟩ := x; exact ⟨o, e⟩
  | xd fs => obtain ⟨_, ⟨o, _, _, e, _⟩, _⟩ := x; exact ⟨o, e⟩
  | rng lo hi => obtain ⟨_, _, _, e⟩ := x; exact ⟨_, e⟩
  | frz ob u => obtain ⟨e, _⟩ := x; exact ⟨_, e⟩
  | tbl ps => exact ⟨_, (show h.get? a = some _ from x)⟩
  | met f y => exact ⟨_, (show h.get? a = some _ from x)⟩
  | ext φ => obtain ⟨_, ⟨o, e⟩, _⟩ := x; exact ⟨o, e⟩
section
variable {X : Cx} {pins : List (Addr × Obj)} {σ : St} {H : Hp} {s : Shared} {E : XK} {B h' : Heap} {ea t : Addr} {cls : Value}
theorem fly_hok {P : Program} {w : World} {h : Heap} (ok : HOk P w H h) (st : B.StaysIn h) (b1 : ∀ b u, H b = some u → ∃ o, B.get? b = some o) (k : B.StaysIn h') : HOk P w H h' := fun a u e =>
  (ok a u e).stay (fun b v hb q => by
    have hb' : ∃ u', H b = some u' := by
      rcases hb with rfl | hb
      · exact ⟨_, e⟩
      · exact ⟨_, hb⟩
    obtain ⟨u', eu⟩ := hb'
    obtain ⟨o, eo⟩ := b1 b u' eu
    have z := st b o eo
    rw [q] at z
    cases z
    exact k b _ eo) (fun _ q => q) fun _ _ q => q
theorem fly_un {l : List Env} {H H' : Hp} {h h1 h2 : Heap} (un : Un (frs l) [] H H' h h1) (st : B.StaysIn h1) (ff : h1.FunFrames B l) (b2 : ∀ b o, h.get? b = some o → b ∉ frs l → ∃ o', B.get? b = some o') (k : B.StaysIn h2) (ff2 : h2.FunFrames B l) (up : h1.UpToSlots h2) :
    Un (frs l) [] H H' h h2 := by
  refine ⟨fun b o q n hb hx => ?_, fun b o q n hb hx => ?_, un.free, fun b o q _ => ?_, un.tups, un.frzs, un.tbls⟩
  · have e1 := un.keep b o q n hb hx
    obtain ⟨o', e2⟩ := b2 b o q hb
    have e3 := st b o' e2
    rw [e1] at e3
    cases e3
    exact k b _ e2
  · obtain ⟨sl, e1⟩ := un.slot b o q n hb hx
    obtain ⟨_, o1, e3, nf⟩ := ff.mem hb
    rw [e1] at e3
    cases e3
    obtain ⟨sl', e4⟩ := up b _ e1 nf
    exact ⟨sl', e4⟩
  · by_cases hb : b ∈ frs l
    · obtain ⟨_, o1, e3, _⟩ := ff2.mem hb
      exact ⟨o1, e3⟩
    · obtain ⟨o', e2⟩ := b2 b o q hb
      exact ⟨o', k b _ e2⟩
theorem ff_of {base h : Heap} {l : List Env} (f : h.FunFrames base l) (st : B.StaysIn h) {h2 : Heap} (f2 : h2.FunFrames B l) : h.FunFrames B l := by
  induction l with
  | nil => trivial
  | cons env r ih =>
    obtain ⟨a1, ⟨L, o, a2, a3, a4⟩, a5⟩ := f
    obtain ⟨c1, ⟨L', o', c2, c3, c4⟩, c5⟩ := f2
    rw [a2] at c2
    cases c2
    exact ⟨a1, ⟨L, o, a2, c3, a4⟩, ih a5 c5⟩
theorem fly_close (I : Inv X pins σ H s) (hex : X.ex = []) (st : B.StaysIn s.heap) (b1 : ∀ b u, H b = some u → ∃ o, B.get? b = some o) (b2 : ∀ b o, X.s₀.heap.get? b = some o → b ∉ frs X.outer → ∃ o', B.get? b = some o')
    (fl : Heap.FlyingW B X.outer ea cls (.ref t) h') (up : s.heap.UpToSlots h') (he : E cls none H) : CXE X.prog X.w X.outer X.H₀ X.s₀ E (.ref ea) { s with heap := h' } := by
  have u0 := I.base
  rw [hex] at u0
  exact ⟨ea, cls, t, H, B, rfl, I.os, I.bare, fly_un u0 st (ff_of I.funs st fl.2.2.1) b2 fl.1 fl.2.2.1 up, fly_hok I.hok st b1 fl.1, fl, b1, b2, he⟩
structure Leav (X : Cx) (E : XK) : Prop where
  ex : X.ex = []
  st : X.stack = X.env :: X.outer
  fr : X.env.frame = some X.env.locals
  xe : X.xe = fun e s' => wpAny (model X.prog X.w) X.A (leaving X.env e) (fun _ s'' => CXE X.prog X.w X.outer X.H₀ X.s₀ E e s'') (fun e' s'' => CXE X.prog X.w X.outer X.H₀ X.s₀ E e' s'') s'
theorem leav_cx {P : Program} {w : World} {K : PySem.W.Frag} {mg : Str → Option Value} {base : Heap} {N : List Str} {qual : Str} {scope : Scope} {f : Addr} {cd : Value} {A : Around} {outer : List Env} {s : Shared} {H : Hp} :
    Leav (cxOf (CXE P w) P w K mg base N qual scope f cd A outer s H E) E := ⟨rfl, rfl, rfl, rfl⟩
theorem Inv.old (I : Inv X pins σ H s) (st : X.stack = X.env :: X.outer) (fr : X.env.frame = some X.env.locals) {b : Addr} {o : Obj} (q : X.s₀.heap.get? b = some o) (hb : b ∉ frs X.outer) : b ∉ frs X.stack := fun z => by
  rcases List.mem_cons.mp (I.stkSub b z) with e | e
  · exact absurd (Nat.lt_of_lt_of_le (Heap.lt_size q) I.ok.above) (by rw [e]; exact Nat.lt_irrefl _)
  · exact hb e
theorem leav_pass (L : Leav X E) : Passes (CXE X.prog X.w) X E := by
  intro pins σ H s e s' I h
  obtain ⟨ea, cls, t, H', B, rfl, os, bare, un, hok, fl, b1, b2, he⟩ := h
  have I' : Inv X pins σ H' s' := I.call' (ch := []) os un hok bare (fun b z => nomatch z)
  rw [L.xe]
  have fl2 := fl
  rw [L.st] at fl2
  refine wpAny_leaves_onW (by rw [← L.st]; exact I.ok.frames) L.fr fl2 fun h' x1 x2 => ?_
  refine fly_close I' L.ex fl.1 b1 (fun b o q hb => ?_) x1 x2 he
  obtain ⟨o', q'⟩ := I.base.there b o q (by rw [L.ex]; simp)
  exact b2 b o' q' (I.old L.st L.fr q hb)
theorem leav_raise (L : Leav X E) (I : Inv X pins σ H s) {h1 : Heap} {args : List Value} (hx : Heap.MadeExcOf s.heap h1 ea cls args) (he : E cls none H) : X.xe (.ref ea) { s with heap := h1 } := by
  rw [L.xe]
  have hin : ∀ env ∈ X.env :: X.outer, ∀ b, env.frame = some b → b ∈ frs X.stack := fun env he b hb => by rw [L.st]; exact List.mem_filterMap.mpr ⟨env, he, hb⟩
  have fs := I.stack
  rw [L.st] at fs
  refine wpAny_leaves_madeW (base := PySem.W.hideAll s.heap (frs X.stack)) (h := s.heap) (by rw [← L.st]; exact I.ok.frames) L.fr (fun b o q => PySem.W.of_hideAll _ q) (PySem.W.funFrames_hide fs hin) hx fun h' t x1 _ _ x4 => ?_
  have up : s.heap.UpToSlots h' := (Heap.UpToSlots.of_keeps hx.keeps).trans x4
  show CXE X.prog X.w X.outer X.H₀ X.s₀ E (.ref ea) { s with heap := h' }
  refine fly_close (s := s) I L.ex (fun b o q => PySem.W.of_hideAll _ q) (fun b u q => ?_) (fun b o q hb => ?_) x1 up he
  · obtain ⟨o, e⟩ : ∃ o, s.heap.get? b = some o := (I.hok b u q).there
    exact ⟨o, PySem.W.hideAll_get _ e fun z => by rw [I.stkFree b z] at q; cases q⟩
  · obtain ⟨o', q'⟩ := I.base.there b o q (by rw [L.ex]; simp)
    exact ⟨o', PySem.W.hideAll_get _ q' (I.old L.st L.fr q hb)⟩
end
abbrev mroVE : List Value := [.type "ValueError", .type "Exception", .type "BaseException", .type "object"]
theorem exc_obj {K : PySem.W.Frag} {h : Heap} {C : Addr} {bmB : List Value} {newId : String} (X : K.In h) (q : PySem.W.excIn K C bmB newId = true) :
    ∃ bm N nm qn bs hd sn sub ab col dd k0 k1 k2 k3 k5 mN, h.get? C = some (excClassObj nm qn C N bs bm hd sn sub ab col dd k0 k1 k2 k3 k5 newId) ∧ h.Ns N mN ∧ mN "__init__" = none ∧ OwnTail h bmB bm := by
  unfold PySem.W.excIn at q
  split at q
  · rename_i dd cd sl ho
    split at q
    · rename_i C' bm k0 k1 k2 k3 n k5 hm hs
      simp only [Bool.and_eq_true, beq_iff_eq, Bool.not_eq_true'] at q
      obtain ⟨⟨⟨⟨⟨rfl, rfl⟩, hdel⟩, ht⟩, hok⟩, hni⟩ := q
      obtain ⟨nm, bs, mro, ns, qn, hd, sn, sub, ab, col, del⟩ := cd
      dsimp only at hm hdel hok hni
      subst hm hdel
      have hsl : sl = #[k0, k1, k2, k3, some (.builtin n), k5] := by
        obtain ⟨l⟩ := sl
        simp only at hs
        rw [hs]
      subst hsl
      exact ⟨bm, ns, nm, qn, bs, hd, sn, sub, ab, col, dd, k0, k1, k2, k3, k5, _, X _ _ ho, .of_isNs (PySem.W.isNs_of_in X hok), PySem.W.nsMap_none_of_in X hok hni, PySem.W.tail_of_in X ht⟩
    · cases q
  · cases q
def tRaise (C : Addr) (E : XK) (t : TA) : TS := fun _ σ H => t σ H fun vs H1 => vs.length ≤ sizeLine ∧ E (.ref C) none H1
section
variable {X : Cx} {E : XK} {C : Addr} {x : Str} {np cpos pos : Pos} {e : Expr} {es : List Expr} {t : TA}
theorem ps_raise (L : Leav X E) (hq : PySem.W.excIn X.K C mroVE "ValueError.__new__" = true) (hm : X.mg x = some (.ref C)) (ha : PA X (e :: es) t) (hg : Gl X x := by rfl) (hc : X.calm = true := by rfl)
    (he : starEach (e :: es) X.env = (false, eval e X.env) :: starEach es X.env := by rfl) (hpl : (backTo cpos (starEach es X.env)).any (·.1) = false := by rfl) (hd : (x == ("__debug__" : Str)) = false := by decide) :
    PS X (.Raise (some (.Call (.Name x np) (e :: es) [] cpos)) none pos) (tRaise C E t) := by
  intro pins s σ H D I h
  obtain ⟨bm, N, nm, q, bs, hdct, sn, sub, ab, col, dd, k0, k1, k2, k3, k5, mN, hC, hN, hni, T⟩ := exc_obj I.mod.kin hq
  refine wpAny_Raise_call_subT (C := C) (nm := nm) (q := q) (N := N) (bs := bs) (bm := bm) (hdct := hdct) (sn := sn) (sub := sub) (ab := ab) (col := col) (dd := dd) (k0 := k0) (k1 := k1) (k2 := k2) (k3 := k3) (k5 := k5)
    F.excBase_ValueError (mN := mN) (T.hasType F.excBase_ValueError.hasBase) (I.ok.hd hc) (by rw [he]; show (false || (backTo cpos (starEach es X.env)).any (·.1)) = false; rw [hpl]; rfl) hni (ld_glob I hg hm ⟨rfl, ?_⟩ hd)
  have a := ha cpos pins s σ H _ I h
  rw [he] at a ⊢
  refine Calls.evalArgs_plain (thn a fun us s2 ⟨vs, H2, I2, r, z, q⟩ => ⟨rfl, by rw [← r.length]; exact z, I2.bk _ _ hC, hN.keeps I2.bk, T.keeps I2.bk, fun h' ea hx => ?_⟩)
  exact leav_raise L I2 hx q
end
end L2
namespace L2
open PySem PySem.Spec PyProof.Rows
abbrev Cx.tried (X : Cx) (pins : List (Addr × Obj)) (xe : Value → Shared → Prop) : Cx := { X with pn := X.pn ++ pins, xe := xe }
abbrev Cx.hand (X : Cx) (ea : Addr) (oe : Obj) : Cx := { X with A := X.A.mark (some (.ref ea)), calm := false, pn := (ea, oe) :: X.pn, xe := fun _ _ => False }
section
variable {X : Cx} {pins pins' : List (Addr × Obj)} {σ : St} {H : Hp} {s : Shared} {xe : Value → Shared → Prop} {ea : Addr} {oe : Obj}
theorem Inv.tried (I : Inv X pins σ H s) : Inv (X.tried pins xe) [] σ H s :=
  ⟨⟨I.ok.mod, I.ok.kind, I.ok.glob, I.ok.blt, I.ok.above, I.ok.inj, I.ok.has, I.ok.cab, I.ok.hd, I.ok.frames, I.ok.stk, I.ok.exf, I.ok.bs, I.ok.bsz, I.ok.noex, I.ok.exfs, I.ok.funs, I.ok.frf⟩, I.os, I.bare, I.base, I.loc, I.cell, I.free, I.freeC,
    fun p hp => I.pin p (by rw [List.append_nil] at hp; exact hp), I.hok, I.len⟩
theorem Inv.untried (I : Inv (X.tried pins xe) pins' σ H s) (ok : X.Ok) : Inv X pins σ H s :=
  ⟨ok, I.os, I.bare, I.base, I.loc, I.cell, I.free, I.freeC, fun p hp => I.pin p (List.mem_append_left _ hp), I.hok, I.len⟩
theorem Inv.hand (I : Inv X pins σ H s) (h : s.heap.get? ea = some oe ∧ H ea = none ∧ ea ≠ X.env.locals ∧ ea ∉ X.fs ∧ ∀ v, oe.data ≠ .cell v) : Inv (X.hand ea oe) pins σ H s :=
  ⟨⟨I.ok.mod, I.ok.kind, I.ok.glob, I.ok.blt, I.ok.above, I.ok.inj, I.ok.has, I.ok.cab, (fun z => by cases z), I.ok.frames, I.ok.stk, I.ok.exf, I.ok.bs, I.ok.bsz, I.ok.noex, I.ok.exfs, I.ok.funs, I.ok.frf⟩, I.os, I.bare, I.base, I.loc, I.cell, I.free, I.freeC,
    fun p hp => by
      rcases List.mem_cons.mp hp with rfl | z
      · exact h
      · exact I.pin p z, I.hok, I.len⟩
theorem Inv.unhand (I : Inv (X.hand ea oe) pins σ H s) (ok : X.Ok) : Inv X pins σ H s :=
  ⟨ok, I.os, I.bare, I.base, I.loc, I.cell, I.free, I.freeC, fun p hp => I.pin p (List.mem_cons_of_mem _ hp), I.hok, I.len⟩
theorem SP.unhand {D : Ends} {f : Flow} (ok : X.Ok) (h : SP (X.hand ea oe) pins D f s) : SP X pins D f s := by
  cases f with
  | next => obtain ⟨σ', H', I, q⟩ := h; exact ⟨σ', H', I.unhand ok, q⟩
  | brk => obtain ⟨σ', H', I, q⟩ := h; exact ⟨σ', H', I.unhand ok, q⟩
  | cont => obtain ⟨σ', H', I, q⟩ := h; exact ⟨σ', H', I.unhand ok, q⟩
  | ret u => obtain ⟨v, σ', H', I, r, q⟩ := h; exact ⟨v, σ', H', I.unhand ok, r, q⟩
theorem SP.untried {D : Ends} {f : Flow} (ok : X.Ok) (h : SP (X.tried pins xe) pins' D f s) : SP X pins D f s := by
  cases f with
  | next => obtain ⟨σ', H', I, q⟩ := h; exact ⟨σ', H', I.untried ok, q⟩
  | brk => obtain ⟨σ', H', I, q⟩ := h; exact ⟨σ', H', I.untried ok, q⟩
  | cont => obtain ⟨σ', H', I, q⟩ := h; exact ⟨σ', H', I.untried ok, q⟩
  | ret u => obtain ⟨v, σ', H', I, r, q⟩ := h; exact ⟨v, σ', H', I.untried ok, r, q⟩
theorem name_goes {M : Model} {A : Around} {E : Value → Shared → Prop} {i : Nat} {n : Str} {pos : Pos} {Q : Unit → Shared → Prop} (I : Inv X pins σ H s) (hN : X.N.Nodup) (hi : X.N[i]? = some n) (hl : X.env.kindOf n = some .local)
    (h : ∀ s', Inv X pins (σ.set i none) H s' → Q () s') : wpAny M A (do bindName X.env n .none; unbindBehindTheSuite X.env n pos) Q E s := by
  obtain ⟨m, hn, hl'⟩ := id I.loc
  have hcls : (X.env.scope.kind == .class || (X.env.scope.kind == .module && X.env.locals != X.env.globals)) = false := by rw [I.ok.kind]; rfl
  have hiσ : i < σ.length := by rw [I.len]; exact (List.getElem?_eq_some_iff.mp hi).1
  have cne := I.cne
  obtain ⟨oL, _, _, hoL, _⟩ := id hn
  refine wpAny_nameGoes_keeps hl hn hcls fun h' v hn' hs => ?_
  have neL : ∀ b o, X.s₀.heap.get? b = some o → b ≠ X.env.locals := fun b o e => Nat.ne_of_lt (Nat.lt_of_lt_of_le (Heap.lt_size e) I.ok.above)
  refine h _ ⟨I.ok, I.os, I.bare, ⟨fun b o e n hb hx => (hs.2 b (neL b o e)).trans (I.base.keep b o e n hb hx), fun b o e n hb hx => ?_, I.base.free, fun b o e hx => ?_, I.base.tups, I.base.frzs, I.base.tbls⟩, ⟨_, hn', fun j y v' e1 e2 e3 => ?_⟩, fun y c e => ?_, I.free, I.freeC, fun p hp => ?_, fun b ob e => ?_, by simpa using I.len⟩
  · obtain ⟨sl, e1⟩ := I.base.slot b o e n hb hx
    exact ⟨sl, (hs.2 b (neL b o e)).trans e1⟩
  · obtain ⟨o', e1⟩ := I.base.there b o e hx
    exact ⟨o', (hs.2 b (neL b o e)).trans e1⟩
  · by_cases hj : j = i
    · subst hj
      rw [List.getElem?_set_self hiσ] at e2
      cases e2
    · rw [List.getElem?_set_ne (Ne.symm hj)] at e2
      obtain ⟨u', r', q⟩ := hl' j y v' e1 e2 e3
      refine ⟨u', r', ?_⟩
      rcases q with ⟨k, e⟩ | ⟨k, c, e, z⟩
      · refine .inl ⟨k, ?_⟩
        have : y ≠ n := fun e => hj (nodup_ix hN e1 (e ▸ hi))
        simp [this, e]
      · exact .inr ⟨k, c, e, z.sameBut hs (cne y c e)⟩
  · obtain ⟨w', z⟩ := I.cell y c e
    exact ⟨w', z.sameBut hs (cne y c e)⟩
  · obtain ⟨e, n, ne, nf, d⟩ := I.pin p hp
    exact ⟨(hs.2 p.1 ne).trans e, n, ne, nf, d⟩
  · refine (I.hok b ob e).stay (fun c w' hc q => (hs.2 c ?_).trans q) (fun _ q => q) fun _ _ q => q
    rintro rfl
    rcases hc with z | hc
    · rw [← z, I.free] at e; cases e
    · rw [I.free] at hc; cases hc
end
def wTry (K : PySem.W.Frag) (W : Addr) (n : Nat) (th : Addr → Obj → St → Hp → Prop) : XK := fun cls _ H' => PySem.W.exmOne K cls (.ref W) = some true ∧ ∀ ea oe σ', oe.cls = cls → H' ea = none → σ'.length = n → th ea oe σ' H'
def tTry (K : PySem.W.Frag) (W : Addr) (n : Nat) (tb : XK → TS) (th : Addr → Obj → TS) : TS := fun D σ H => tb (wTry K W n fun ea oe => th ea oe D) D σ H
def Ends.less (D : Ends) (i : Nat) : Ends := { nx := fun σ H => D.nx (σ.set i none) H, rt := D.rt, bk := fun σ H => D.bk (σ.set i none) H, ct := fun σ H => D.ct (σ.set i none) H }
def tTryAs (K : PySem.W.Frag) (W : Addr) (n i : Nat) (tb : XK → TS) (th : Addr → Obj → TS) : TS := fun D σ H => tb (wTry K W n fun ea oe σ' => th ea oe (D.less i) (σ'.set i (some (.ref ea)))) D σ H
section
variable {X : Cx} {W : Addr} {x n : Str} {np hpos pos : Pos} {b₀ : Stmt} {body suite : List Stmt} {tb : XK → TS} {th : Addr → Obj → TS} {i : Nat}
theorem try_pass {pins : List (Addr × Obj)} {Q : Flow → Shared → Prop} {th : Addr → Obj → St → Hp → Prop} {hd : ExceptHandler} (ok : X.Ok) (hst : X.stack = X.env :: X.outer) (hfr : X.env.frame = some X.env.locals)
    (go : ∀ (ea : Addr) (cls : Value) (t : Addr) (B : Heap) (σ : St) (H : Hp) (s : Shared), PySem.W.exmOne X.K cls (.ref W) = some true → (∃ oe, oe.cls = cls ∧ s.heap.get? ea = some oe ∧ Inv (X.hand ea oe) pins σ H s) → (∀ oe, oe.cls = cls → th ea oe σ H) → Heap.FlyingW B (X.env :: X.outer) ea cls (.ref t) s.heap →
      (∀ h2, Heap.FlyingW B (X.env :: X.outer) ea cls (.ref t) h2 → s.heap.UpToSlots h2 → ∃ oe, oe.cls = cls ∧ Inv (X.hand ea oe) pins σ H { s with heap := h2 }) →
      wpAny (model X.prog X.w) X.A (handleBy (.ref ea) X.env [hd]) Q X.xe s) :
    Passes (CXE X.prog X.w) (X.tried pins fun e s' => wpAny (model X.prog X.w) X.A (noteFrame e X.env) (fun _ s₂ => wpAny (model X.prog X.w) X.A (setFlight e none) (fun _ s₃ => wpAny (model X.prog X.w) X.A (handleBy e X.env [hd]) Q X.xe s₃) X.xe s₂) X.xe s') (wTry X.K W X.N.length th) := by
  intro pins' σ' H1 s1 e s' I1 hx
  obtain ⟨ea, cls, t, H', B, rfl, os, bare, un, hok, fl, b1, b2, hE, hw⟩ := hx
  have fl' : Heap.FlyingW B (X.env :: X.outer) ea cls (.ref t) s'.heap := by rw [← hst]; exact fl
  have hn : H' ea = none := by
    cases q : H' ea with
    | none => rfl
    | some u =>
      obtain ⟨o, e⟩ := b1 ea u q
      rw [fl.2.1] at e
      cases e
  have back : ∀ h2, Heap.FlyingW B (X.env :: X.outer) ea cls (.ref t) h2 → s'.heap.UpToSlots h2 → ∃ oe, oe.cls = cls ∧ h2.get? ea = some oe ∧ Inv (X.hand ea oe) pins σ' H' { s' with heap := h2 } := fun h2 f2 up => by
    have f3 : Heap.FlyingW B X.stack ea cls (.ref t) h2 := by rw [hst]; exact f2
    have J : Inv X pins σ' H' { s' with heap := h2 } := (I1.call' (s' := { s' with heap := h2 }) (ch := []) os (fly_un un fl.1 fl.2.2.1 b2 f3.1 f3.2.2.1 up) (fly_hok hok fl.1 b1 f3.1) bare (fun b z => nomatch z)).untried ok
    obtain ⟨oe, ws, hoe, hoec, hoed, _⟩ := f2.first
    refine ⟨oe, hoec, hoe, J.hand ⟨hoe, hn, fun z => ?_, fun z => ?_, fun v z => by rw [hoed] at z; cases z⟩⟩
    · obtain ⟨m, ⟨o, es, ep, ho, hd, _⟩, _⟩ := J.loc
      rw [← z] at ho
      have ho' : h2.get? ea = some o := ho
      rw [hoe] at ho'
      cases ho'
      rw [hoed] at hd
      cases hd
    · obtain ⟨_, o, ho, nf⟩ := J.funs.mem z
      have ho' : h2.get? ea = some o := ho
      rw [hoe] at ho'
      cases ho'
      exact nf ws hoed
  show wpAny (model X.prog X.w) X.A (noteFrame (.ref ea) X.env) _ _ _
  refine wpAny_looks_onW (by rw [← hst]; exact ok.frames) hfr fl' fun h4 held4 up4 => ?_
  refine wpAny_landsW held4 fun h5 fl5 up5 => ?_
  have J := back h5 fl5 (up4.trans up5)
  refine go ea cls t B σ' H' { s' with heap := h5 } hE J (fun oe hc => hw ea oe σ' hc hn ?_) fl5 fun h2 f2 up => ?_
  · obtain ⟨oe, _, _, J⟩ := J
    exact J.len
  · obtain ⟨oe, h1, _, J⟩ := back h2 f2 ((up4.trans up5).trans up)
    exact ⟨oe, h1, J⟩
theorem ty_exc {M : Model} {h : Heap} {oe : Obj} {ea : Addr} (e : h.get? ea = some oe) : PySem.W.Looks M h (typeOf (.ref ea)) oe.cls := (PySem.W.Looks.ld e).andThen .now
theorem ps_try (hm : X.mg x = some (.ref W)) (hb : ∀ pins xe E, Passes (CXE X.prog X.w) (X.tried pins xe) E → PSs (X.tried pins xe) body (tb E)) (hs : ∀ ea oe, PSs (X.hand ea oe) (b₀ :: suite) (th ea oe))
    (hg : Gl X x := by rfl) (hst : X.stack = X.env :: X.outer := by rfl) (hfr : X.env.frame = some X.env.locals := by rfl) (hd : (x == ("__debug__" : Str)) = false := by decide) :
    PS X (.Try body [.ExceptHandler (some (.Name x np)) none (b₀ :: suite) hpos] [] [] pos) (tTry X.K W X.N.length tb th) := by
  intro pins s σ H D I h
  refine wpAny_Try_except ?_
  refine wpAny_mono (hb pins _ _ (try_pass (X := X) (W := W) (Q := SP X pins D) (th := fun ea oe => th ea oe D) (hd := .ExceptHandler (some (.Name x np)) none (b₀ :: suite) hpos) I.ok hst hfr ?_) [] s σ H D I.tried h) (fun f s1 hf => ?_) (fun e s1 z => z)
  · intro ea cls t B σ' H' s' hE J hw fl back
    obtain ⟨oe, hc, ho, J⟩ := J
    refine wpAny_handleBy_cons (codeAny_handlers_test ?_) (by intro q; cases q)
    refine ld_glob (X := X.hand ea oe) J hg hm ?_ hd
    refine (PySem.W.exm_one (M := model X.prog X.w) J.kIn (hc ▸ ty_exc ho) hE).here ?_
    show codeAny _ _ _ _ _
    refine codeAny_handlers_suite ?_
    refine lands_againW fl fun h6 fl6 up6 => ?_
    obtain ⟨oe6, hc6, J6⟩ := back h6 fl6 up6
    refine wpAny_mono (hs ea oe6 pins _ σ' H' D J6 (hw oe6 hc6)) (fun f s2 hf => ?_) (fun _ _ z => z.elim)
    exact hf.unhand I.ok
  · have hf' := hf.untried I.ok
    cases f with
    | next => exact wpAny_execs_nil hf'
    | brk => exact hf'
    | cont => exact hf'
    | ret u => exact hf'
theorem ps_tryAs (hm : X.mg x = some (.ref W)) (hb : ∀ pins xe E, Passes (CXE X.prog X.w) (X.tried pins xe) E → PSs (X.tried pins xe) body (tb E)) (hs : ∀ ea oe, PSs (X.hand ea oe) (b₀ :: suite) (th ea oe))
    (hi : X.N[i]? = some n) (hl : X.env.kindOf n = some .local) (hN : X.N.Nodup)
    (hg : Gl X x := by rfl) (hst : X.stack = X.env :: X.outer := by rfl) (hfr : X.env.frame = some X.env.locals := by rfl) (hd : (x == ("__debug__" : Str)) = false := by decide) :
    PS X (.Try body [.ExceptHandler (some (.Name x np)) (some n) (b₀ :: suite) hpos] [] [] pos) (tTryAs X.K W X.N.length i tb th) := by
  intro pins s σ H D I h
  refine wpAny_Try_except ?_
  refine wpAny_mono (hb pins _ _ (try_pass (X := X) (W := W) (Q := SP X pins D) (th := fun ea oe σ' => th ea oe (D.less i) (σ'.set i (some (.ref ea)))) (hd := .ExceptHandler (some (.Name x np)) (some n) (b₀ :: suite) hpos) I.ok hst hfr ?_) [] s σ H D I.tried h) (fun f s1 hf => ?_) (fun e s1 z => z)
  · intro ea cls t B σ' H' s' hE J hw fl back
    obtain ⟨oe, hc, ho, J⟩ := J
    refine wpAny_handleBy_cons (codeAny_handlers_test ?_) (by intro q; cases q)
    refine ld_glob (X := X.hand ea oe) J hg hm ?_ hd
    refine (PySem.W.exm_one (M := model X.prog X.w) J.kIn (hc ▸ ty_exc ho) hE).here ?_
    show codeAny _ _ _ _ _
    refine codeAny_handlers_suite_as ?_
    refine lands_againW fl fun h6 fl6 up6 => ?_
    obtain ⟨oe6, hc6, J6⟩ := back h6 fl6 up6
    refine store_ok (X := X.hand ea oe6) J6 hN hi (.inl hl) (show RelV (.ref ea) (.ref ea) from rfl) (fun s7 J7 => ?_) (.inr hl)
    refine wpAny_mono (hs ea oe6 pins _ _ H' (D.less i) J7 (hw oe6 hc6)) (fun f s2 hf => ?_) (fun _ _ z => z.elim)
    have hf' := hf.unhand I.ok
    cases f with
    | next => obtain ⟨σ2, H2, K2, q⟩ := hf'; exact name_goes K2 hN hi hl fun s3 K3 => ⟨_, H2, K3, q⟩
    | brk => obtain ⟨σ2, H2, K2, q⟩ := hf'; exact name_goes K2 hN hi hl fun s3 K3 => ⟨_, H2, K3, q⟩
    | cont => obtain ⟨σ2, H2, K2, q⟩ := hf'; exact name_goes K2 hN hi hl fun s3 K3 => ⟨_, H2, K3, q⟩
    | ret u => obtain ⟨v, σ2, H2, K2, r, q⟩ := hf'; exact name_goes K2 hN hi hl fun s3 K3 => ⟨v, _, H2, K3, r, q⟩
  · have hf' := hf.untried I.ok
    cases f with
    | next => exact wpAny_execs_nil hf'
    | brk => exact hf'
    | cont => exact hf'
    | ret u => exact hf'
end
end L2
namespace L2
open PySem PySem.Spec PyProof.Rows PySem.W Builtin Builtin.ObjectAttr Builtin.Getset_descriptor
structure ExcI (K : PySem.W.Frag) (C : Addr) : Prop where
  hga : findIn K (.ref C) "__getattribute__" = some (some (.builtin "BaseException.__getattribute__"))
  hgx : findIn K (.ref C) "__getattr__" = some none
  ha : findIn K (.ref C) "__class__" = some (some (.builtin "object.__class__"))
  hm : mroIn K C (.type "object") = some true
  hb : subIn K (.ref C) (.type "BaseException") = some true
section
variable {prog : Program} {w : World} {A : Around} {E : Value → Shared → Prop} {K : PySem.W.Frag} {h : Heap} {g : Array GenState} {d : Drawn} {t : Nat} {os : OsState} {a C : Addr} {o : Obj}
theorem exc_clsIn (F : ExcI K C) : (clsIn K C).isSome = true := by
  have hm := F.hm
  unfold mroIn at hm
  cases e : clsIn K C with
  | none => rw [e] at hm; cases hm
  | some _ => rfl
theorem exc_get {R : Result → Shared → Prop} {tp : Value} (X : K.In h) (hx : h.get? a = some o) (hc : o.cls = .ref C) (hm : mroIn K C (.type "object") = some true) (hq : R (.ok (.ret (.ref C))) ⟨h, g, d, t, os⟩) :
    codeAny (model prog w) A (.call (.builtin "getset_descriptor.__get__") ⟨[.builtin "object.__class__", .ref a, tp], []⟩) R ⟨h, g, d, t, os⟩ := by
  have L0 : Looks (model prog w) h (typeOf (.ref a)) (.ref C) := hc ▸ ty_exc hx
  have L1 := looks_mroIn (M := model prog w) X hm
  refine codeAny_call_builtin KF.slot_gs.plain KF.entry_gs (KF.slot_gs.check _ _ _ _ _ _ _ _ KF.type_class (KF.args_gs _ _ _) ?_)
  unfold Builtin.«getset_descriptor.__get__» descrGet
  rw [dga_obj]
  refine wpAny_bind (wpAny_pure ?_)
  unfold descrGetter descrCheckInstance descrNameAndClass isInstance
  simp only [KF.owner_class]
  repeat lk
  refine ⟨Code.quiet_builtin _ (by decide +kernel), codeAny_builtin KF.entry_class ?_⟩
  unfold Builtin.«object.__class__» shownTypeOf
  repeat lk
  exact hq
theorem exc_entry {tk : Tok} {Q : Fin → Shared → Prop} (X : K.In h) (F : ExcI K C) (hx : h.get? a = some o) (hc : o.cls = .ref C) (hq : Q (.done (.ret (.ref C))) ⟨h, g, d, t, os⟩) :
    wpAny (model prog w) A (Builtin.«object.__getattribute__» ⟨[.ref a, .str "__class__" tk], []⟩) Q E ⟨h, g, d, t, os⟩ := by
  have hT5 : (⟨h, g, d, t, os⟩ : Shared).TypeIs (.builtin "object.__class__") "getset_descriptor" := PySem.F.typeOf_object_class
  have f5 := PySem.F.typeOf_object_class
  have f6 := PySem.F.slot_gs_get.lookup
  have f7 := PySem.F.slot_gs_set.lookup
  have L1 := looks_findIn (M := model prog w) X F.ha
  repeat (any_goals (first | assumption | (with_reducible refine wpAny_loadPart_at hx ?_; rw [hc]) | with_reducible refine L1.at ?_ | wp_step))
  refine exc_get X hx hc F.hm ?_
  repeat (any_goals (first | assumption | wp_step))
theorem exc_check {M : Model} {nameV : Value} {Q : Unit → Shared → Prop} (X : K.In h) (F : ExcI K C) (hx : h.get? a = some o) (hc : o.cls = .ref C) (hq : Q () ⟨h, g, d, t, os⟩) :
    wpAny M A (checkBuiltinCall "BaseException.__getattribute__" ⟨[.ref a, nameV], []⟩) Q E ⟨h, g, d, t, os⟩ := by
  have hk : builtinKind "BaseException.__getattribute__" = some .slot := by decide +kernel
  have hsplit : splitId "BaseException.__getattribute__" = some ("BaseException", "__getattribute__") := by decide +kernel
  have ha := PySem.F.args_bexc_ga (.ref a) nameV
  have L1 : Looks M h (isSubtype (.ref C) (.type "BaseException")) true := looks_subIn X F.hb
  simp only [checkBuiltinCall, hk, hsplit]
  refine wpAny_bind ?_
  · unfold isInstance
    repeat (first | (with_reducible refine wpAny_loadPart_at hx ?_; rw [hc]) | with_reducible refine L1.at ?_ | wp_step)
    exact hq
theorem exc_call {tk : Tok} {R : Result → Shared → Prop} (X : K.In h) (F : ExcI K C) (hx : h.get? a = some o) (hc : o.cls = .ref C) (hq : R (.ok (.ret (.ref C))) ⟨h, g, d, t, os⟩) :
    codeAny (model prog w) A (.call (.builtin "BaseException.__getattribute__") ⟨[.ref a, .str "__class__" tk], []⟩) R ⟨h, g, d, t, os⟩ :=
  codeAny_call_builtin (PySem.F.excAttr_ValueError).ga.plain PySem.F.entry_bexc_ga (exc_check X F hx hc (exc_entry X F hx hc hq))
theorem exc_by {tk : Tok} {fill expr : Bool} {Q : Value → Shared → Prop} (X : K.In h) (F : ExcI K C) (hx : h.get? a = some o) (hc : o.cls = .ref C) (hq : Q (.ref C) ⟨h, g, d, t, os⟩) :
    wpAny (model prog w) A (getAttrBy (.ref a) (.str "__class__" tk) fill expr) Q E ⟨h, g, d, t, os⟩ := by
  have f3 := (PySem.F.excAttr_ValueError).ga.bind (.ref a)
  have hx0 : (expr && onTheHeap (Value.builtin "BaseException.__getattribute__")) = false := by cases expr <;> rfl
  have hx2 : (Value.builtin "BaseException.__getattribute__" == Value.builtin "object.__getattribute__") = false := by decide +kernel
  have hx1 : (onTheHeap (Value.ref C) && Value.builtin "BaseException.__getattribute__" == Value.builtin "object.__getattribute__") = false := by rw [hx2]; rfl
  have L1 := looks_findIn (M := model prog w) X F.hga
  have L2 := looks_findIn (M := model prog w) X F.hgx
  repeat (any_goals (first | assumption | (with_reducible refine wpAny_loadPart_at hx ?_; rw [hc]) | with_reducible refine L1.at ?_ | with_reducible refine L2.at ?_ | wp_step))
  refine exc_call X F hx hc ?_
  repeat (any_goals (first | assumption | wp_step))
theorem exc_attr {Q : Option Value → Shared → Prop} (X : K.In h) (F : ExcI K C) (hx : h.get? a = some o) (hc : o.cls = .ref C) (hq : Q (some (.ref C)) ⟨h, g, d, t + 1, os⟩) :
    wpAny (model prog w) A (getAttr? (.ref a) "__class__") Q E ⟨h, g, d, t, os⟩ := by
  unfold getAttr? getAttrBy?
  repeat (any_goals (first | assumption | with_reducible apply exc_by X F hx hc | wp_step))
def ExcAt (a C : Addr) (h : Heap) : Prop := ∃ o, h.get? a = some o ∧ o.cls = .ref C
theorem kitx_exc (F : ExcI K C) : KitX K (.ref a) (.ref C) (ExcAt a C) where
  ty := fun M h _ p => by
    obtain ⟨o, h1, h2⟩ := p
    exact h2 ▸ ty_exc h1
  it := fun _ _ X _ => by
    obtain ⟨cd, hc⟩ := Option.isSome_iff_exists.mp (exc_clsIn F)
    unfold clsIn at hc
    split at hc
    · rename_i c' d' cd' sl' ho
      intro A' Q' E' s' k q
      unfold isType loadHead
      exact wpAny_bind (wpAny_loadPart (k _ _ (X _ _ ho)) (wpAny_pure q))
    · cases hc
  ne := fun h tp dd its n sl X htp => by
    obtain ⟨cd, hc⟩ := Option.isSome_iff_exists.mp (exc_clsIn F)
    refine Bool.eq_false_iff.mpr fun q => ?_
    have e : C = tp := Value.ref.inj (beq_iff_eq.mp q)
    subst e
    unfold clsIn at hc
    split at hc
    · rename_i c' d' cd' sl' ho
      have z := (X _ _ ho).symm.trans htp
      cases z
    · cases hc
  ca := fun {_ _ _ _ _ s} X p k => by
    obtain ⟨h, g, d, t, os⟩ := s
    obtain ⟨o, h1, h2⟩ := p
    exact exc_attr X F h1 h2 k
end
theorem bt_ValueError : bootBuiltins "ValueError" = some (.type "ValueError") := by decide +kernel
section
variable {X : Cx} {ea C R : Addr} {oe : Obj}
theorem Inv.excAt {pins : List (Addr × Obj)} {σ : St} {H : Hp} {s : Shared} (I : Inv (X.hand ea oe) pins σ H s) (hc : oe.cls = .ref C) : ExcAt ea C s.heap := ⟨oe, (I.pin (ea, oe) List.mem_cons_self).1, hc⟩
theorem call_isiE (K : PySem.W.Frag) (hK : X.K = K := by rfl) : CallR (X.hand ea oe) (.builtin "isinstance") (fun xs H Q => ∃ C c v b, xs = [.ref ea, v] ∧ oe.cls = .ref C ∧ ExcI K C ∧ (v = .ref c ∧ kitOne K (.ref C) (.ref c) = some b ∨ ∃ n, v = .ty n ∧ kitOne K (.ref C) (.type n) = some b) ∧ Q (.bl b) H) := by
  subst hK
  intro pins s σ H xs us Q I r h
  obtain ⟨C, c, v, b, rfl, hc, F, hv, q⟩ := h
  obtain ⟨u, u2, rfl, ru, rc⟩ := vals2 r
  cases ru
  have fin : ∀ tk, EP (X.hand ea oe) pins σ Q (.bool b) { s with toks := tk } := fun tk => ⟨.bl _, H, I.tok tk, rfl, q⟩
  rcases hv with ⟨rfl, e⟩ | ⟨n, rfl, e⟩
  · cases rc
    exact kia_one (kitx_exc F) I.kIn (I.excAt hc) e (fun z => nomatch z) fin
  · cases rc
    exact kia_one (kitx_exc F) I.kIn (I.excAt hc) e (fun z => nomatch z) fin
theorem vals_refs : ∀ {cs : List Addr} {its : List Value}, Vals (cs.map V.ref) its → its = cs.map Value.ref
  | [], _, .nil => rfl
  | c :: r, _, .cons a b => by
    cases a
    rw [vals_refs b]
    rfl
theorem call_isiET (K : PySem.W.Frag) (hK : X.K = K := by rfl) : CallR (X.hand ea oe) (.builtin "isinstance") (fun xs H Q => ∃ (C tp : Addr) (cs : List Addr) (b : Bool), xs = [.ref ea, .ref tp] ∧ H tp = some (.tup (cs.map V.ref)) ∧ oe.cls = .ref C ∧ ExcI K C ∧ kitAny K (.ref C) (cs.map Value.ref) = some b ∧ Q (.bl b) H) := by
  subst hK
  intro pins s σ H xs us Q I r h
  obtain ⟨C, tp, cs, b, rfl, htp, hc, F, e, q⟩ := h
  obtain ⟨u, u2, rfl, ru, rc⟩ := vals2 r
  cases ru
  cases rc
  have fin : ∀ tk, EP (X.hand ea oe) pins σ Q (.bool b) { s with toks := tk } := fun tk => ⟨.bl _, H, I.tok tk, rfl, q⟩
  obtain ⟨its, rv, ⟨o, ho, hco, k, hdat⟩, _⟩ := I.tuple (SqT.of (K := X.K) htp)
  have hi : its = cs.map Value.ref := vals_refs rv
  obtain ⟨oc, od, odat, osl⟩ := o
  cases hco
  cases hdat
  rw [← hi] at e
  exact kia_tup (kitx_exc F) I.kIn (I.excAt hc) ho e (fun z => nomatch z) fin
end
structure DefE (P : Program) (w : World) (K : PySem.W.Frag) (mg : Str → Option Value) (base : Heap) (k : Nat) (x : Str) (ps : List Str) (sp : Sp) : Prop where
  ex : ∃ f fd, FnOk P w K mg base (CXE P w) k f fd ps sp ∧ mg x = some (.ref f) ∧ PySem.W.keepIn K (.ref f) = true ∧ Binds K fd ps []
section
variable {P : Program} {w : World} {K : PySem.W.Frag} {mg : Str → Option Value} {base : Heap}
theorem Top.okE {x : Str} {st : Stmt} {N ps : List Str} {k : Nat} {sp : Sp} (T : Top K mg x st ps) (S : FnScope N ps (defScope st)) (len : ∀ vs H Q E, sp vs H Q E → vs.length = ps.length)
    (hbody : ∀ (f : Addr) (cdv : Value) (A : Around) (outer : List Env) (s : Shared) (H : Hp) (vs : List V) (Q : VK) (E : XK), Room k (A.deeper (envOfC x (defScope st) s.heap.objs.size f cdv)) → sp vs H Q E →
      ∃ t, PSs (cxOf (CXE P w) P w K mg base N x (defScope st) f cdv A outer s H E) (defBody st) t ∧ t { nx := fun _ H' => Q .non H', rt := Q } (start N vs) H) : DefE P w K mg base (k + 1) x ps sp := by
  obtain ⟨f, fd, F, hm, hb⟩ := T.ex
  refine ⟨f, fd, ?_, hm, F.kp, Binds.all hb⟩
  obtain ⟨oc, od, kV, doc, pm, an, cdv, ct, osl, rfl, lk, hcd⟩ := F.ex
  exact fn_of lk hcd S len (hbody f cdv)
end
section
variable {X : Cx} {k k' : Nat} {ps : List Str} {sp : Sp} {E : XK} {x : Str} {p pos : Pos} {e : Expr} {es : List Expr} {t : TA}
theorem pe_defE (D : DefE X.prog X.w X.K X.mg X.base k x ps sp) (hx : Passes (CXE X.prog X.w) X E) (hr : Room k' X.A) (hg : Gl X x) (ha : PA X (e :: es) t) (hkk : k ≤ k' := by decide)
    (hdb : (x == ("__debug__" : Str)) = false := by decide) (he : starEach (e :: es) X.env = (false, eval e X.env) :: starEach es X.env := by rfl) (hpl : (backTo pos (starEach es X.env)).any (·.1) = false := by rfl) :
    PE X (.Call (.Name x p) (e :: es) [] pos) (tCall sp [] E t) := by
  obtain ⟨f, fd, F, hm, hk, hb⟩ := D.ex
  exact pe_call F (hr.mono hkk) hg hm hk hb .nil hx ha hdb he hpl
end
structure XCls (K : PySem.W.Frag) (C : Addr) : Prop where
  new : excIn K C mroVE "ValueError.__new__" = true
  isi : ExcI K C
  ve : mroIn K C (.type "ValueError") = some true
  self : mroIn K C (.ref C) = some true
  ty : typeIn K (.ref C) = some (.type "type")
structure XiK (K : PySem.W.Frag) (x : Str) : Prop where
  ex : ∃ C : Addr, nsIn K mainGlobals x = some (some (.ref C)) ∧ XCls K C
theorem xiK {K : PySem.W.Frag} {x : Str} {C : Addr} (n : nsIn K mainGlobals x = some (some (.ref C))) (a : excIn K C [.type "ValueError", .type "Exception", .type "BaseException", .type "object"] "ValueError.__new__" = true) (b : findIn K (.ref C) "__getattribute__" = some (some (.builtin "BaseException.__getattribute__")))
    (c : findIn K (.ref C) "__getattr__" = some none) (d : findIn K (.ref C) "__class__" = some (some (.builtin "object.__class__"))) (e : mroIn K C (.type "object") = some true) (f : mroIn K C (.type "BaseException") = some true)
    (g : mroIn K C (.type "ValueError") = some true) (h : mroIn K C (.ref C) = some true) (i : typeIn K (.ref C) = some (.type "type")) : XiK K x := ⟨C, n, a, ⟨b, c, d, e, f⟩, g, h, i⟩
structure PiK (K : PySem.W.Frag) (x y : Str) (b : Bool) : Prop where
  ex : ∃ C D : Addr, nsIn K mainGlobals x = some (some (.ref C)) ∧ nsIn K mainGlobals y = some (some (.ref D)) ∧ mroIn K C (.ref D) = some b
theorem piK {K : PySem.W.Frag} {x y : Str} {b : Bool} {C D : Addr} (n : nsIn K mainGlobals x = some (some (.ref C))) (m : nsIn K mainGlobals y = some (some (.ref D))) (e : mroIn K C (.ref D) = some b) : PiK K x y b := ⟨C, D, n, m, e⟩
section
variable {K : PySem.W.Frag} {h : Heap} {mg : Str → Option Value} {x y : Str} {b : Bool} {C D : Addr}
theorem XiK.g (F : XiK K x) (X : K.In h) (G : h.Ns mainGlobals mg) : mg x = some (.ref (cA mg x)) := by
  obtain ⟨C, n, _⟩ := F.ex
  rw [cA_of (mg_of X G n)]
  exact mg_of X G n
theorem XiK.at' (F : XiK K x) (X : K.In h) (G : h.Ns mainGlobals mg) : XCls K (cA mg x) := by
  obtain ⟨C, n, q⟩ := F.ex
  rw [cA_of (mg_of X G n)]
  exact q
theorem PiK.at' (F : PiK K x y b) (X : K.In h) (G : h.Ns mainGlobals mg) : mroIn K (cA mg x) (.ref (cA mg y)) = some b := by
  obtain ⟨C, D, n, m, q⟩ := F.ex
  rw [cA_of (mg_of X G n), cA_of (mg_of X G m)]
  exact q
theorem XCls.cls (F : XCls K C) : (clsIn K C).isSome = true := exc_clsIn F.isi
theorem XCls.kit (F : XCls K C) (G : XCls K D) (e : mroIn K C (.ref D) = some b) : kitCls K (.ref C) (.ref D) = some b := by
  show (if ((clsIn K D).isSome && typeIn K (.ref D) == some (.type "type")) = true then subIn K (.ref C) (.ref D) else none) = some b
  rw [if_pos (by rw [G.cls, G.ty]; simp)]
  exact e
theorem XCls.one (F : XCls K C) (G : XCls K D) (e : mroIn K C (.ref D) = some b) : kitOne K (.ref C) (.ref D) = some b := by
  unfold kitOne
  split
  · rename_i z
    have z' : C = D := Value.ref.inj (beq_iff_eq.mp z)
    subst z'
    rw [F.self] at e
    exact e
  · exact F.kit G e
theorem XCls.veI (F : XCls K C) : kitOne K (.ref C) (.type "ValueError") = some true := by
  unfold kitOne
  rw [if_neg (fun z => nomatch (beq_iff_eq.mp z : Value.ref C = Value.type "ValueError"))]
  show (if kitMeta "ValueError" = true then subIn K (.ref C) (.type "ValueError") else none) = some true
  rw [if_pos (by decide +kernel)]
  exact F.ve
theorem XCls.caught (F : XCls K C) (G : XCls K D) (e : mroIn K C (.ref D) = some true) : exmOne K (.ref C) (.ref D) = some true := by
  unfold exmOne
  rw [if_pos (by rw [show subIn K (.ref D) (.type "BaseException") = some true from G.isi.hb]; rfl)]
  exact F.kit G e
theorem XCls.any (F : XCls K C) : ∀ (cs : List Addr), (∀ D ∈ cs, XCls K D ∧ mroIn K C (.ref D) = some false) → kitAny K (.ref C) (cs.map Value.ref) = some false
  | [], _ => rfl
  | c :: r, h => by
    have q := h c List.mem_cons_self
    have e := F.one q.1 q.2
    show (match kitOne K (.ref C) (.ref c) with | some true => some true | some false => kitAny K (.ref C) (r.map Value.ref) | none => none) = some false
    rw [e]
    exact F.any r fun D hD => h D (List.mem_cons_of_mem _ hD)
end
end L2
namespace L2
open PySem PySem.Spec PyProof.Rows PySem.W
section
variable {X : Cx} {v1 v2 a : Expr} {t1 t2 ta : TE} {pos : Pos}
end
end L2
namespace L2
open PySem PySem.Spec PyProof.Rows PySem.W Builtin
section
variable {X : Cx}
end
section
variable {prog : Program} {w : World} {A : Around} {E : Value → Shared → Prop}
end
section
variable {X : Cx}
end
end L2
namespace L2
open PySem PySem.Spec PyProof.Rows
section
variable {prog : Program} {w : World} {A : Around} {R : Result → Shared → Prop} {I : Addr} {fp wr : List Addr} {n : Nat} {P : Nat → Value → Prop} {St : Nat → Heap → Prop}
end
section
variable {X : Cx} {e d : Expr} {t tk : TA} {p pos kpos : Pos}
end
section
variable {X : Cx}
end
end L2
namespace L2
open PySem PySem.Spec PyProof.Rows PySem.W
namespace Tab
end Tab
end L2
namespace L2
open PySem PySem.Spec PyProof.Rows PySem.W
namespace Tab
end Tab
end L2
namespace L2
open PySem PySem.Spec PyProof.Rows PySem.W
section
variable {P : Program} {w : World} {A : Around} {E : Value → Shared → Prop} {s : Shared}
end
end L2
namespace L2
open PySem PySem.Spec PyProof.Rows PySem.W
section
variable {prog : Program} {w : World} {A : Around} {R : Result → Shared → Prop} {I : Addr} {fp wr : List Addr} {G : Array GenState → Array GenState → Prop} {n : Nat} {P : Nat → Value → Prop} {St : Nat → Shared → Prop}
end
section
variable {prog : Program} {w : World} {A : Around} {E : Value → Shared → Prop} {s : Shared}
end
end L2
namespace L2
open PySem PySem.Spec PyProof.Rows PySem.W
section
variable {prog : Program} {w : World} {A : Around} {E : Value → Shared → Prop} {s : Shared} {a : Addr} {xs : List (Addr × List Str)}
end
end L2
namespace L2
open PySem PySem.Spec PyProof.Rows PySem.W
section
variable {X : Cx} {pins : List (Addr × Obj)} {σ : St} {H : Hp} {s : Shared}
end
end L2
namespace L2
open PySem PySem.Spec PyProof.Rows PySem.W
section
variable {X : Cx} {pins : List (Addr × Obj)} {σ : St} {H : Hp} {s : Shared}
end
end L2
namespace L2
open PySem PySem.Spec PyProof.Rows PySem.Builtin.Str PySem.StrLaws PySem.NumText
end L2
namespace Tim
open PySem PyProof.Rows
section
variable {M : Model} {A : Around} {E : Value → Shared → Prop} {s : Shared} {kd : SortKind} {S : Keyed → Prop} {rk : Keyed → Int} {n : Nat}
end
end Tim
namespace Tim
open PySem PyProof.Rows
section
variable {prog : Program} {w : World} {A : Around} {E : Value → Shared → Prop} {s : Shared}
end
end Tim
namespace L2
open PySem PySem.Spec PyProof.Rows PySem.W
section
variable {prog : Program} {w : World} {A : Around} {E : Value → Shared → Prop} {s : Shared} {a : Addr}
end
section
variable {X : Cx} {pins : List (Addr × Obj)} {σ : St} {H : Hp} {s : Shared}
end
end L2
namespace L2
open PySem PySem.Spec PyProof.Rows PySem.W
section
variable {prog : Program} {w : World} {A : Around} {E : Value → Shared → Prop} {s : Shared} {I : Addr} {fp : List Addr} {n : Nat} {P : Nat → Value → Prop} {St : Nat → Heap → Prop} {T : String}
end
section
variable {X : Cx} {e : Expr} {te : TE} {p1 p2 q1 q2 : Pos}
end
end L2
namespace L2
open PySem PySem.Spec PyProof.Rows PySem.W
section
variable {prog : Program} {w : World} {A : Around} {E : Value → Shared → Prop} {s : Shared}
end
section
variable {prog : Program} {w : World} {A : Around} {E : Value → Shared → Prop} {s : Shared} {I : Addr} {fp : List Addr} {n : Nat} {P : Nat → Value → Prop} {St : Nat → Heap → Prop} {T : String}
end
section
variable {X : Cx} {e : Expr} {te : TE} {p1 p2 q1 q2 : Pos}
end
end L2
namespace L2
open PySem PySem.Spec PyProof.Rows
section
variable {M : Model} {A : Around} {E : Value → Shared → Prop} {s : Shared} {B : Heap} {env : Env} {outer l : List Env} {L e : Addr} {cls a0 fl : Value}
theorem note_any {Q : Unit → Shared → Prop} (hfr : A.frames = some (env :: outer)) (hl : s.heap.FunFrames B (env :: outer)) (hf : env.frame = some L) (ht : s.heap.TracedAtW B e cls a0 fl) (hkb : B.StaysIn s.heap) (hen : B.get? e = none)
    (h : ∀ h', Heap.NotedW B (env :: outer) e cls a0 (rawInt L) s.heap h' → Q () { s with heap := h' }) : wpAny M A (noteFrame (.ref e) env) Q E s := by
  by_cases hL : fl = rawInt L
  · subst hL
    exact wpAny_noteFrame_againW hf ht (h s.heap ⟨hkb, hl, ht, fun b o q _ => ⟨o.slots, q⟩⟩)
  · obtain ⟨oe, vs, T, oT, ts, he, ⟨hc, h0⟩, hd, h1, hnT, hTe, hT, hdT, h3⟩ := ht
    subst hc
    unfold noteFrame
    simp only [hf]
    refine wpAny_bind (wpAny_field he hd h1 ?_)
    rw [if_pos (by simp)]
    refine wpAny_bind (wpAny_field hT hdT h3 ?_)
    rw [if_neg (by simpa using hL)]
    refine wpAny_bind (wpAny_setField hT hdT (Array.getElem?_eq_some_iff.mp h3).1 ?_)
    have ot : ∀ b, b ≠ T → (s.heap.update T (Obj.mapFields (·.setIfInBounds 3 Value.none))).get? b = s.heap.get? b := fun b hb => Heap.get?_update_other _ _ (Ne.symm hb)
    have nr : ∀ b o, s.heap.get? b = some o → (∀ us, o.data ≠ .fields us) → b ≠ T := fun b o hb hnf q => by
      rw [q, hT] at hb
      cases hb
      exact hnf ts hdT
    refine wpAny_entryW hfr (hl.of_keeps fun b o hb hnf => ⟨o, (ot b (nr b o hb hnf)).trans hb, rfl⟩) hf ((ot e (Ne.symm hTe)).trans he) (fun b o q => (ot b fun z => by rw [z, hnT] at q; cases q).trans (hkb b o q)) hen hd (Array.getElem?_eq_some_iff.mp h1).1 h0 ?_
    rintro h' ⟨x1, x2, x3, x4⟩
    exact h h' ⟨x1, x2, x3, fun b o hb hnf => x4 b o ((ot b (nr b o hb hnf)).trans hb) hnf⟩
theorem pass_on {α : Type} {what : String} {cenv : Env} {Q : α → Shared → Prop} (hl : s.heap.FunFrames B l) (ht : s.heap.TracedAtW B e cls a0 fl) (hkb : B.StaysIn s.heap)
    (h : ∀ h' fl', B.StaysIn h' → h'.FunFrames B l → h'.TracedAtW B e cls a0 fl' → s.heap.UpToSlots h' → E (.ref e) { s with heap := h' }) : wpAny M A (passOn what (.ref e) cenv : Sem α) Q E s := by
  obtain ⟨oe, vs, T, oT, ts, he, hc, hd, h1, hnT, hTe, hT, hdT, h3⟩ := ht
  have h3s := (Array.getElem?_eq_some_iff.mp h3).1
  unfold PySem.passOn
  refine wpAny_bind (wpAny_field he hd h1 ?_)
  rw [if_neg (by simp)]
  unfold setFlight
  refine wpAny_bind (wpAny_bind (wpAny_field he hd h1 ?_))
  rw [if_pos (by simp)]
  generalize (cenv.frame.elim Value.none fun f => rawInt f) = nf
  have ot : ∀ b, b ≠ T → (s.heap.update T (Obj.mapFields (·.setIfInBounds 3 nf))).get? b = s.heap.get? b := fun b hb => Heap.get?_update_other _ _ (Ne.symm hb)
  have nr : ∀ b o, s.heap.get? b = some o → (∀ us, o.data ≠ .fields us) → b ≠ T := fun b o hb hnf q => by
    rw [q, hT] at hb
    cases hb
    exact hnf ts hdT
  refine wpAny_setField hT hdT h3s (wpAny_throw ?_)
  refine h _ nf (fun b o q => (ot b fun z => by rw [z, hnT] at q; cases q).trans (hkb b o q)) (hl.of_keeps fun b o hb hnf => ⟨o, (ot b (nr b o hb hnf)).trans hb, rfl⟩) ?_ fun b o hb hnf => ⟨o.slots, (ot b (nr b o hb hnf)).trans hb⟩
  exact ⟨oe, vs, T, _, _, (ot e (Ne.symm hTe)).trans he, hc, hd, h1, hnT, hTe, Heap.get?_update_self _ hT (Obj.isFreed_of_fields (Obj.data_mapFields hdT _)), Obj.data_mapFields hdT _, by simp [h3s]⟩
theorem leaves_any {Q : Unit → Shared → Prop} (hfr : A.frames = some (env :: outer)) (hl : s.heap.FunFrames B (env :: outer)) (hf : env.frame = some L) (ht : s.heap.TracedAtW B e cls a0 fl) (hkb : B.StaysIn s.heap) (hen : B.get? e = none)
    (h : ∀ h', Heap.FlyingW B outer e cls a0 h' → s.heap.UpToSlots h' → Q () { s with heap := h' }) : wpAny M A (leaving env (.ref e)) Q E s := by
  unfold leaving
  refine wpAny_bind (note_any hfr hl hf ht hkb hen fun h1 ⟨k1, k2, k3, k4⟩ => ?_)
  refine wpAny_landsW (s := { s with heap := h1 }) ⟨k1, hen, k2, k3⟩ fun h2 f2 up => ?_
  obtain ⟨c1, c2, ⟨_, _, c3⟩, c4⟩ := f2
  exact h h2 ⟨c1, c2, c3, c4⟩ (Heap.UpToSlots.trans k4 up)
end
theorem compLoop_anyE {prog : Program} {w : World} {A : Around} {R : Result → Shared → Prop} {s : Shared} {elt target iter : Expr} {ifs : List Expr} {scope : Scope} {pos : Pos} {it acc : Value} {env : Env} {Ex : Value → Shared → Prop} (I : Nat → Shared → Prop)
    (turn : ∀ n s, I n s → wpAny (model prog w) A (pyNext it) (fun r s₁ => match r with
      | none => R (.ok .next) s₁
      | some v => wpAny (model prog w) A (letOwnedTupleGo target it v) (fun _ s₁' => wpAny (model prog w) A (assign target env v) (fun _ s₂ =>
          wpAny (model prog w) A (forIn ifs true fun c r => if r = true then do let ok ← isTrue c env (eval c env); pure (ForInStep.yield ok) else pure (ForInStep.yield r)) (fun ok s₃ =>
            if ok = true then wpAny (model prog w) A (eval elt env) (fun x s₄ =>
              wpAny (model prog w) A (call (.builtin "list.append") [acc, x]) (fun _ s₅ => ∃ m, m < n ∧ I m s₅) Ex s₄) Ex s₃
            else ∃ m, m < n ∧ I m s₃) Ex s₂) Ex s₁') Ex s₁) Ex s)
    (hx : ∀ x s', Ex x s' → wpAny (model prog w) A (noteFrame x env) (fun _ s'' => R (.error x) s'') (fun y s'' => R (.error y) s'') s')
    (n : Nat) (h : I n s) :
    codeAny (model prog w) A (.compLoop (.ListComp elt [⟨target, iter, ifs, 0⟩] scope pos) 0 it acc env) R s := by
  refine codeAny_loop rfl I (fun n s hI => ?_) n h
  show wpAny _ A ((compTurn (.ListComp elt [⟨target, iter, ifs, 0⟩] scope pos) 0 it acc env).onRaise (fun x => do noteFrame x env; theTreesLotGoes x)) _ _ s
  refine wpAny_noted ?_
  rw [compTurn_list]
  have hx' : ∀ x s', Ex x s' → notedBy (model prog w) A env (fun e s' => R (.error e) s') x s' := hx
  refine wpAny_bind (wpAny_standAt (wpAny_bind (wpAny_mono (turn n s hI) (fun r s₁ h₁ => ?_) hx')))
  cases r with
  | none => exact wpAny_pure h₁
  | some v =>
    refine wpAny_bind (wpAny_mono h₁ (fun _ s₁' h₁' => ?_) hx')
    refine wpAny_bind (wpAny_mono h₁' (fun _ s₂ h₂ => wpAny_bind (wpAny_mono h₂ (fun ok s₃ h₃ => ?_) hx')) hx')
    cases ok with
    | false => exact wpAny_pure ⟨rfl, h₃⟩
    | true =>
      exact wpAny_bind (wpAny_bind (wpAny_mono h₃ (fun x s₄ h₄ => wpAny_bind (wpAny_mono h₄ (fun _ s₅ h₅ => wpAny_pure (wpAny_pure ⟨rfl, h₅⟩)) hx')) hx'))
abbrev cxCompE (X : Cx) (N : List Str) (scope : Scope) (cl : List (Str × Addr)) (C : Addr) (fp : List Addr) (s : Shared) (H : Hp) (xe : Value → Shared → Prop) : Cx := { cxComp X N scope cl C fp s H with xe := xe }
section
variable {X : Cx} {pins pins' : List (Addr × Obj)} {σ σ' : St} {H H' : Hp} {s s' : Shared} {N : List Str} {scope : Scope} {cl : List (Str × Addr)} {C : Addr} {fp : List Addr} {xe : Value → Shared → Prop} {E : XK}
theorem Inv.toE (I : Inv (cxComp X N scope cl C fp s H) pins' σ' H' s') : Inv (cxCompE X N scope cl C fp s H xe) pins' σ' H' s' :=
  ⟨⟨I.ok.mod, I.ok.kind, I.ok.glob, I.ok.blt, I.ok.above, I.ok.inj, I.ok.has, I.ok.cab, I.ok.hd, I.ok.frames, I.ok.stk, I.ok.exf, I.ok.bs, I.ok.bsz, I.ok.noex, I.ok.exfs, I.ok.funs, I.ok.frf⟩, I.os, I.bare, I.base, I.loc, I.cell, I.free, I.freeC, I.pin, I.hok, I.len⟩
theorem Inv.ofE (I : Inv (cxCompE X N scope cl C fp s H xe) pins' σ' H' s') : Inv (cxComp X N scope cl C fp s H) pins' σ' H' s' :=
  ⟨⟨I.ok.mod, I.ok.kind, I.ok.glob, I.ok.blt, I.ok.above, I.ok.inj, I.ok.has, I.ok.cab, I.ok.hd, I.ok.frames, I.ok.stk, I.ok.exf, I.ok.bs, I.ok.bsz, I.ok.noex, I.ok.exfs, I.ok.funs, I.ok.frf⟩, I.os, I.bare, I.base, I.loc, I.cell, I.free, I.freeC, I.pin, I.hok, I.len⟩
theorem Inv.stk_new (I : Inv X pins σ H s) (h : s.heap.objs.size ≤ C) : C ∉ frs X.stack := fun z => by
  rcases List.mem_cons.mp (I.stkSub C z) with e | e
  · exact absurd I.lt (by rw [← e]; exact Nat.not_lt.mpr h)
  · exact I.nofs h e
def blockX (X : Cx) (N : List Str) (scope : Scope) (cl : List (Str × Addr)) (C : Addr) (fp : List Addr) (s : Shared) (H : Hp) (E : XK) : Value → Shared → Prop := fun e s' =>
  ∃ pins4 σ4 H4 s4, Inv (cxComp X N scope cl C fp s H) pins4 σ4 H4 s4 ∧ CXE X.prog X.w X.stack H4 s4 E e s'
theorem blockX_pass : Passes (CXE X.prog X.w) (cxCompE X N scope cl C fp s H (blockX X N scope cl C fp s H E)) E := fun pins4 σ4 H4 s4 e s' I h => ⟨pins4, σ4, H4, s4, I.ofE, h⟩
def heldC (X : Cx) (pins : List (Addr × Obj)) (σ : St) (E : XK) (C : Addr) (e : Value) (s' : Shared) : Prop :=
  ∃ (ea : Addr) (cls : Value) (t : Addr) (H' : Hp) (B : Heap) (fl : Value), e = .ref ea ∧ (∃ m, s'.heap.Ns C m) ∧ B.get? ea = none ∧ (∀ b u, H' b = some u → ∃ o, B.get? b = some o) ∧ (∀ b o, X.s₀.heap.get? b = some o → b ∉ frs X.outer → ∃ o', B.get? b = some o') ∧ E cls none H' ∧
    ∀ h', Heap.SameBut C s'.heap h' → Inv X pins σ H' { s' with heap := h' } ∧ B.StaysIn h' ∧ h'.FunFrames B X.stack ∧ h'.TracedAtW B ea cls (.ref t) fl
theorem heldC.ns {e : Value} (h : heldC X pins σ E C e s') : ∃ m, s'.heap.Ns C m := by
  obtain ⟨_, _, _, _, _, _, _, z, _⟩ := h
  exact z
theorem heldC_pass (L : Leav X E) {e : Value} {what : String} {cenv : Env} {h' : Heap} {α : Type} {Q : α → Shared → Prop} (h : heldC X pins σ E C e s') (sb : Heap.SameBut C s'.heap h') : wpAny (model X.prog X.w) X.A (passOn what e cenv : Sem α) Q X.xe { s' with heap := h' } := by
  obtain ⟨ea, cls, t, H', B, fl, rfl, _, hen, b1, b2, he, q⟩ := h
  obtain ⟨I, k1, k2, k3⟩ := q h' sb
  refine pass_on (s := { s' with heap := h' }) k2 k3 k1 fun h1 fl1 c1 c2 c3 up1 => ?_
  rw [L.xe]
  rw [L.st] at c2
  refine leaves_any (s := { s' with heap := h1 }) (by rw [← L.st]; exact I.ok.frames) c2 L.fr c3 c1 hen fun h2 f2 up2 => ?_
  exact fly_close (s := { s' with heap := h' }) (h' := h2) I L.ex k1 b1 b2 f2 (Heap.UpToSlots.trans up1 up2) he
theorem noted_block {RR : Shared → Prop} {e : Value} {fr : Env} {Ee : Value → Shared → Prop} (L : Leav X E) (I3 : Inv X pins σ H s) (hfp : ∀ b ∈ fp, FpOk X pins H b) (hC : s.heap.objs.size ≤ C) (hfr : fr.frame = X.env.frame) (h : blockX X N scope cl C fp s H E e s') (fin : ∀ s'', heldC X pins σ E C e s'' → RR s'') :
    wpAny (model X.prog X.w) X.A (noteFrame e fr) (fun _ s'' => RR s'') Ee s' := by
  obtain ⟨pins4, σ4, H4, s4, I4, ea, cls, t, H', B, rfl, os, bare, un, hok, fl, b1, b2, he⟩ := h
  have en : (noteFrame (.ref ea) fr : Sem Unit) = noteFrame (.ref ea) X.env := by
    unfold noteFrame PySem.frameOf
    rw [hfr]
  rw [en]
  have fl' : Heap.FlyingW B (X.env :: X.outer) ea cls (.ref t) s'.heap := by rw [← L.st]; exact fl
  refine wpAny_looks_onW (by rw [← L.st]; exact I3.ok.frames) L.fr fl' fun h1 hd up => fin _ ?_
  have hd' : Heap.HeldW B X.stack ea cls (.ref t) X.env.locals h1 := by rw [L.st]; exact hd
  have J : Inv (cxComp X N scope cl C fp s H) pins4 σ4 H' { s' with heap := h1 } :=
    I4.call' (s' := { s' with heap := h1 }) (ch := []) os (fly_un un fl.1 fl.2.2.1 b2 hd'.1 hd'.2.2.1 up) (fly_hok hok fl.1 b1 hd'.1) bare (fun b z => nomatch z)
  obtain ⟨m, hn, _⟩ := id J.loc
  have hnC : H' C = none := J.free
  have nC : C ∉ frs X.stack := I3.stk_new hC
  have I5 : Inv X pins σ H' { s' with heap := h1 } := I3.call' J.os J.base J.hok J.bare fun b hb => ⟨(hfp b hb).2.2.2.1, (hfp b hb).2.1, (hfp b hb).2.2.2.2.1, (hfp b hb).2.2.2.2.2⟩
  have fC : FpOk X pins H' C := I3.fpOk hC hnC
  obtain ⟨oC, es, ep, hoC, hdC, hrest⟩ := id hn
  refine ⟨ea, cls, t, H', PySem.W.hideAll B [C], rawInt X.env.locals, rfl, ⟨m, hn⟩, ?_, fun b u q => ?_, fun b o q hb => ?_, he, fun h' sb => ⟨?_, fun b o q => ?_, ?_, ?_⟩⟩
  · cases q : (PySem.W.hideAll B [C]).get? ea with
    | none => rfl
    | some o =>
      have z := PySem.W.of_hideAll _ q
      rw [fl.2.1] at z
      cases z
  · obtain ⟨o, e⟩ := b1 b u q
    exact ⟨o, PySem.W.hideAll_get _ e fun z => by rw [List.mem_singleton.mp z, hnC] at q; cases q⟩
  · obtain ⟨o1, q1⟩ := I3.base.there b o q (by rw [L.ex]; simp)
    have nfp : b ∉ fp := fun z => by
      rcases (hfp b z).2.2.2.1 with y | y
      · rw [L.ex] at y; cases y
      · exact absurd (Nat.lt_of_lt_of_le (Heap.lt_size q) y) (Nat.lt_irrefl _)
    obtain ⟨o2, q2⟩ := I4.base.there b o1 q1 nfp
    obtain ⟨o3, q3⟩ := b2 b o2 q2 (I3.old L.st L.fr q hb)
    exact ⟨o3, PySem.W.hideAll_get _ q3 fun z => absurd (Nat.lt_of_lt_of_le (Heap.lt_size q1) hC) (by rw [List.mem_singleton.mp z]; exact Nat.lt_irrefl _)⟩
  · exact I5.turned (t' := s'.toks) (fun b o hb e => (sb.2 b hb).trans e) fC.1 fC.2.1 fC.2.2.2.1 fC.2.2.2.2.1 fC.2.2.2.2.2
  · have z : b ≠ C := fun z => by rw [z, PySem.W.hideAll_none _ (List.mem_singleton.mpr rfl)] at q; cases q
    exact (sb.2 b z).trans (hd'.1 b o (PySem.W.of_hideAll _ q))
  · have all : ∀ l : List Env, (∀ b ∈ frs l, b ≠ C) → h1.FunFrames B l → h'.FunFrames (PySem.W.hideAll B [C]) l := by
      intro l
      induction l with
      | nil => exact fun _ _ => trivial
      | cons env r ih =>
        rintro hs ⟨a1, ⟨L1, o, a2, a3, a4, a5⟩, a6⟩
        have hL1 : L1 ≠ C := hs L1 (List.mem_filterMap.mpr ⟨env, List.mem_cons_self, a2⟩)
        refine ⟨a1, ⟨L1, o, a2, ?_, (sb.2 _ hL1).trans a4, a5⟩, ih (fun b hb => ?_) a6⟩
        · cases q : (PySem.W.hideAll B [C]).get? L1 with
          | none => rfl
          | some o =>
            have z := PySem.W.of_hideAll _ q
            rw [a3] at z
            cases z
        · obtain ⟨env', he', hf'⟩ := List.mem_filterMap.mp hb
          exact hs b (List.mem_filterMap.mpr ⟨env', List.mem_cons_of_mem _ he', hf'⟩)
    exact all X.stack (fun b hb z => nC (z ▸ hb)) hd'.2.2.1
  · obtain ⟨oe, vs, T, oT, ts, x1, x2, x3, x4, x5, x6, x7, x8, x9⟩ := hd'.2.2.2
    have ne : ∀ a o us, h1.get? a = some o → o.data = .fields us → a ≠ C := fun a o us p1 p2 z => by
      rw [z] at p1
      have p3 : h1.get? C = some oC := hoC
      rw [p3] at p1
      cases p1
      rw [hdC] at p2
      cases p2
    refine ⟨oe, vs, T, oT, ts, (sb.2 _ (ne _ _ _ x1 x3)).trans x1, x2, x3, x4, ?_, x6, (sb.2 _ (ne _ _ _ x7 x8)).trans x7, x8, x9⟩
    cases q : (PySem.W.hideAll B [C]).get? T with
    | none => rfl
    | some o =>
      have z := PySem.W.of_hideAll _ q
      rw [x5] at z
      cases z
end
section
variable {X : Cx} {pins : List (Addr × Obj)} {σ : St} {H : Hp} {s : Shared} {N : List Str} {caps : List (Option Nat)} {scope : Scope} {elt tg iter : Expr} {ifs : List Expr} {wi : TI} {g : TG} {tf : TT} {te : TE} {pos : Pos} {E : XK}
theorem comp_coreE {RR : Value → Addr → Result → Shared → Prop} {cl : List (Str × Addr)} {Q : VK} (L : Leav X E) (hc : X.calm = true) (S : CompOk X.N X.env.scope N caps scope) (hi : PI X tg iter wi)
    (hg : ∀ cl C fp s H xe, PG (cxCompE X N scope cl C fp s H xe) tg g) (hf : ∀ cl C fp s H xe, PF (cxCompE X N scope cl C fp s H xe) ifs tf) (he : ∀ cl C fp s H xe, Passes (CXE X.prog X.w) (cxCompE X N scope cl C fp s H xe) E → PE (cxCompE X N scope cl C fp s H xe) elt te)
    (c1 : ∀ x c, cl.lookup x = some c → X.env.cells.lookup x = some c) (c2 : ∀ y ∈ scope.names, y.2 = .free → ∃ c, cl.lookup y.1 = some c)
    (I : Inv X pins σ H s) (h : tComp caps wi g tf te σ H Q)
    (fin : ∀ (D C : Addr) (m : Str → Option Value) (H5 : Hp) (s5 : Shared), Inv X pins σ H5 s5 → s5.heap.Ns C m → FpOk X pins H5 C → Q (.ref D) H5 → RR (.ref D) C (.ok .next) s5)
    (finE : ∀ (D C : Addr) (e : Value) (s5 : Shared), heldC X pins σ E C e s5 → RR (.ref D) C (.error e) s5) :
    wpAny (model X.prog X.w) X.A (eval iter X.env) (fun x s₁ => wpAny (model X.prog X.w) X.A (pyIter x) (fun it s₂ => wpAny (model X.prog X.w) X.A (newList []) (fun acc s₃ =>
      wpAny (model X.prog X.w) X.A (newFunctionEnv scope X.env.globals cl [] X.env.qual none .none (some X.env)) (fun cenv s₄ =>
        codeAny (model X.prog X.w) X.A (.compStart (.ListComp elt [⟨tg, iter, ifs, 0⟩] scope pos) 0 it acc { cenv with scope := relabel scope X.env }) (RR acc cenv.locals) s₄) X.xe s₃) X.xe s₂) X.xe s₁) X.xe s := by
  refine thn (hi pins s σ H _ I h) fun v s1 h1 => thn h1 fun itv s2 h2 => ?_
  obtain ⟨it, fp, tn, J, H2, e, I2, T, st2, f2, q⟩ := h2
  subst e
  have nD : H2 s2.heap.objs.size = none := I2.hok.fresh (Nat.le_refl _)
  obtain ⟨W, ⟨m0, w0⟩, turn⟩ := q s2.heap.objs.size nD
  refine wpAny_newObj_type ?_
  have I3 : Inv X pins σ (upd H2 s2.heap.objs.size (.lst [])) { s2 with heap := s2.heap.push { cls := .type "list", data := .seq ([] : List Value).toArray } } :=
    I2.laid (t' := s2.toks) (o := .lst []) (fun b ob e => Heap.get?_push_of_some _ e) (Nat.le_refl _) ⟨Nat.zero_le _, [], 0, .nil, Heap.get?_push_size _ rfl⟩
  have ob2 : ∀ b ∈ fp, ∃ o, s2.heap.get? b = some o := fun b hb => let ⟨o, e, _⟩ := T.obj 0 s2.heap st2 b hb; ⟨o, e⟩
  have nfD : ∀ b ∈ fp, b ≠ s2.heap.objs.size := fun b hb => let ⟨o, e⟩ := ob2 b hb; Nat.ne_of_lt (Heap.lt_size e)
  generalize hs3 : ({ s2 with heap := s2.heap.push { cls := .type "list", data := .seq ([] : List Value).toArray } } : Shared) = s3 at I3
  have eh : s3.heap = s2.heap.push { cls := .type "list", data := .seq ([] : List Value).toArray } := by rw [← hs3]
  generalize hD : s2.heap.objs.size = D at *
  generalize hH3 : upd H2 D (.lst []) = H3 at I3 w0
  have f3 : ∀ b ∈ fp, FpOk X pins H3 b := fun b hb => ⟨by rw [← hH3, upd_ne (nfD b hb)]; exact (f2 b hb).1, (f2 b hb).2⟩
  have ob3 : ∀ b ∈ fp, ∃ o, s3.heap.get? b = some o := fun b hb => let ⟨o, e⟩ := ob2 b hb; ⟨o, by rw [eh]; exact Heap.get?_push_of_some _ e⟩
  have st3 : tn 0 s3.heap := T.keep 0 _ _ st2 fun b hb o e => by rw [eh]; exact Heap.get?_push_of_some _ e
  show wpAny (model X.prog X.w) X.A (newFunctionEnv scope X.env.globals cl [] X.env.qual none .none (some X.env)) _ X.xe s3
  refine wpAny_newFunctionEnv S.nocell (by intro y hy; simp at hy) (fun h₁ hns₁ hsb₁ => ?_) S.kind
  have k1 : ∀ b u, s3.heap.get? b = some u → h₁.get? b = some u := fun b u e => hsb₁.extBut b u (Nat.ne_of_lt (Heap.lt_size e)) (Heap.get?_push_of_some _ e)
  have J0 := inv_comp (tk := s3.toks + ([] : List (Str × Value)).length) I3 f3 ob3 S c1 c2 hns₁ k1
  generalize hC : s3.heap.objs.size = C at *
  have J0 := J0.toE (xe := blockX X N scope cl C fp s3 H3 E)
  generalize hX' : cxCompE X N scope cl C fp s3 H3 (blockX X N scope cl C fp s3 H3 E) = X' at J0
  have st4 : tn 0 h₁ := T.keep 0 _ _ st3 fun b hb o e => k1 b o e
  have stat : ∀ {H' : Hp}, (∀ b ∈ fp, H' b = none) → ∀ b ∈ fp, FpOk X' [] H' b := fun {H'} hn b hb => by
    subst hX'
    exact ⟨hn b hb, (J0.ok.exf b hb).1, J0.ok.exfs b hb, .inl hb, (J0.ok.exf b hb).2, fun p hp => absurd (show p ∈ ([] : List (Addr × Obj)) from hp) (by simp)⟩
  have loop : ∀ s4 : Shared, s4 = { s3 with heap := h₁, toks := s3.toks + ([] : List (Str × Value)).length } →
      codeAny (model X.prog X.w) X.A (.compLoop (.ListComp elt [⟨tg, iter, ifs, 0⟩] scope pos) 0 (.ref it) (.ref D) (compEnvC scope cl C X.env)) (RR (.ref D) C) s4 := by
    rintro s4 rfl
    refine compLoop_anyE (Ex := blockX X N scope cl C fp s3 H3 E) (fun n s' => ∃ i σ' H', Inv X' [] σ' H' s' ∧ tn i s'.heap ∧ (∀ b ∈ fp, H' b = none) ∧ W i n σ' H') ?_ (fun e s5 hx => noted_block L I3 f3 (Nat.le_of_eq hC) rfl hx fun s6 hh => finE D C e s6 hh) m0 ⟨0, _, H3, J0, st4, fun b hb => (f3 b hb).1, w0⟩
    rintro n s4 ⟨i, σ4, H4, J4, st4, fr4, w4⟩
    rcases turn i n σ4 H4 w4 with ⟨stop, qn⟩ | ⟨go, Nn, hNn, step⟩
    · have d := T.done X' (by subst hX'; rfl) (by subst hX'; rfl) (by subst hX'; rfl) (by subst hX'; exact hc) i [] s4 σ4 H4 (fun _ _ => False) J4 (stat fr4) st4 stop
      have eA : X'.A = X.A := by subst hX'; rfl
      rw [eA] at d
      refine wpAny_mono d (fun r s5 hr => ?_) fun _ _ z => z.elim
      obtain ⟨hr, J5⟩ := hr
      subst hr
      have I5 : Inv X pins σ H4 s5 := by
        subst hX'
        exact I3.call' J5.os J5.base J5.hok J5.bare fun b hb => ⟨(f3 b hb).2.2.2.1, (f3 b hb).2.1, (f3 b hb).2.2.2.2.1, (f3 b hb).2.2.2.2.2⟩
      obtain ⟨m, hn, _⟩ := J5.loc
      have fr := J5.free
      subst hX'
      exact fin D C m H4 s5 I5 hn (I3.fpOk (b := C) (Nat.le_of_eq hC) fr) qn
    · have d := T.item X' (by subst hX'; rfl) (by subst hX'; rfl) (by subst hX'; rfl) (by subst hX'; exact hc) i [] s4 σ4 H4 (fun _ _ => False) J4 (stat fr4) st4 go
      have eA : X'.A = X.A := by subst hX'; rfl
      rw [eA] at d
      refine wpAny_mono d (fun r s5 hr => ?_) fun _ _ z => z.elim
      obtain ⟨u, hr, h5⟩ := hr
      subst hr
      refine wpAny_mono h5 (fun _ s6 q6 => ?_) fun _ _ z => z.elim
      obtain ⟨x, H6, J6, r6, y6, st6, fr6⟩ := q6
      have J6' := J6.pinned (stat fr6) (T.obj _ _ st6)
      have again : ∀ {H9 : Hp} {s9 : Shared} {σ9 : St}, Inv X' ([] ++ pinsAt fp s6.heap) σ9 H9 s9 → Nn σ9 H9 → ∃ m, m < n ∧ ∃ i σ' H', Inv X' [] σ' H' s9 ∧ tn i s9.heap ∧ (∀ b ∈ fp, H' b = none) ∧ W i m σ' H' := fun {H9 s9 σ9} J9 q9 => by
        obtain ⟨m', hm, w9⟩ := hNn σ9 H9 q9
        refine ⟨m', hm, i + 1, σ9, H9, J9.unpinned, T.keep _ _ _ st6 fun b hb o e => (J9.pin (b, o) (List.mem_append_right _ (List.mem_append_right _ (mem_pinsAt hb e)))).1, fun b hb => ?_, w9⟩
        obtain ⟨o, e, d⟩ := T.obj _ _ st6 b hb
        exact (J9.pin (b, o) (List.mem_append_right _ (List.mem_append_right _ (mem_pinsAt hb e)))).2.1
      subst hX'
      refine wpAny_mono (hg cl C fp s3 H3 _ _ s6 σ4 H6 x u _ J6' r6 (step x H6 y6)) (fun _ s7 q7 => ?_) fun _ _ z => z
      obtain ⟨σ7, H7, J7, q7⟩ := q7
      refine wpAny_mono (hf cl C fp s3 H3 _ _ s7 σ7 H7 _ J7 q7) (fun ok s8 q8 => ?_) fun _ _ z => z
      obtain ⟨H8, J8, q8⟩ := q8
      cases ok with
      | false =>
        rw [if_neg (by decide)] at q8
        rw [if_neg (by decide)]
        exact again J8 q8
      | true =>
        rw [if_pos rfl] at q8
        rw [if_pos rfl]
        refine wpAny_mono (he cl C fp s3 H3 _ blockX_pass _ s8 σ7 H8 _ J8 q8) (fun v9 s9 q9 => ?_) fun _ _ z => z
        obtain ⟨y, H9, J9, r9, xs, hD9, hz, q9⟩ := q9
        refine wpAny_mono (mt_append (X := cxCompE X N scope cl C fp s3 H3 (blockX X N scope cl C fp s3 H3 E)) _ s9 σ7 H9 (.ref D) [y] (.ref D) [v9] (fun _ H' => Nn σ7 H') J9 rfl (.cons r9 .nil) ⟨D, xs, y, rfl, rfl, hD9, hz, q9⟩) (fun _ s10 q10 => ?_) fun _ _ z => z
        obtain ⟨_, H10, J10, _, q10⟩ := q10
        exact again J10 q10
  exact codeAny_compStart_list (loop _ rfl) (T.self _ 0 _ _ _ st4 (loop _ rfl))
theorem pe_compE (L : Leav X E) (hc : X.calm = true) (ho : compOk X.N X.env.scope N caps scope = true) (hi : PI X tg iter wi)
    (hg : ∀ cl C fp s H xe, PG (cxCompE X N scope cl C fp s H xe) tg g) (hf : ∀ cl C fp s H xe, PF (cxCompE X N scope cl C fp s H xe) ifs tf) (he : ∀ cl C fp s H xe, Passes (CXE X.prog X.w) (cxCompE X N scope cl C fp s H xe) E → PE (cxCompE X N scope cl C fp s H xe) elt te)
    (hs : ∀ x, foldedSetIterable iter X.env x = pure x := by intro _; rfl) : PE X (.ListComp elt [⟨tg, iter, ifs, 0⟩] scope pos) (tComp caps wi g tf te) := by
  intro pins s σ H Q I h
  have S := compOk_of ho
  obtain ⟨cl, hcl, c1, c2⟩ := closFor (scope := scope) (env := X.env) (fun y hy e => I.ok.has y.1 (S.fr y hy e))
  rw [eval_ListComp]
  refine wpAny_comprehension_free (use := none) rfl hs hcl S.kind S.loc (comp_coreE (RR := fun acc C => compPost (model X.prog X.w) X.A X.xe none (EP X pins σ Q) acc C) L hc S hi hg hf he c1 c2 I h ?_ fun D C e s5 hh => let ⟨m, hm⟩ := hh.ns; ⟨m, hm, fun h' sb cenv _ => heldC_pass L hh sb⟩)
  intro D C m H5 s5 I5 hn fC q
  exact ⟨m, hn, fun h' sb => ⟨.ref D, H5, I5.turned (t' := s5.toks) (fun b o hb e => (sb.2 b hb).trans e) fC.1 fC.2.1 fC.2.2.2.1 fC.2.2.2.2.1 fC.2.2.2.2.2, rfl, q⟩⟩
end
end L2
namespace L2
open PySem PySem.Spec PyProof.Rows
def txE : Expr → Option Str
  | .Constant (.str x) _ _ => some x
  | _ => none
theorem txE_is {e : Expr} {z : Str} (h : txE e = some z) : ∃ j p, e = .Constant (.str z) j p := by
  unfold txE at h
  split at h
  · cases h
    exact ⟨_, _, rfl⟩
  · cases h
def tTxsA (zs : List Str) : TA := fun _ H Q => Q (zs.map V.str) H
theorem pa_txs {X : Cx} : ∀ {es : List Expr} {zs : List Str}, es.map txE = zs.map some → PA X es (tTxsA zs)
  | [], [], _ => pa_nil
  | [], _ :: _, h => nomatch h
  | _ :: _, [], h => nomatch h
  | e :: es, z :: zs, h => by
    injection h with h1 h2
    obtain ⟨j, p, rfl⟩ := txE_is h1
    exact pa_con (te := tC (.str z)) pe_str (pa_txs h2)
def tTxs (zs : List Str) : TE := fun _ H Q => zs.length ≤ sizeLine ∧ ∀ p, H p = none → Q (.ref p) (upd H p (.lst (zs.map V.str)))
theorem pe_txs {X : Cx} {es : List Expr} {pos : Pos} (zs : List Str) (h : es.map txE = zs.map some := by rfl) : PE X (.List es pos) (tTxs zs) := fun pins s σ H Q I hq =>
  pe_lst (pos := pos) (pa_txs (X := X) h) pins s σ H Q I ⟨by rw [List.length_map]; exact hq.1, hq.2⟩
end L2
namespace L2
open PySem PySem.Spec PyProof.Rows
section
variable {X : Cx} {pins : List (Addr × Obj)} {σ : St} {H : Hp} {s : Shared} {a b : Addr} {kvs more : List (Key × V)} {A : Around} {E : Value → Shared → Prop}
end
section
variable {X : Cx} {o e : Expr} {apos cpos : Pos} {td ty : TE}
end
end L2
set_option maxHeartbeats 4000000
namespace Wy
open PySem L2
def top (i : Nat) : Stmt := PySem.Challenge.pw_whyrows_k82_no_text.main.body.getD i (.Pass ⟨0, 0, 0, 0⟩)
abbrev s_is_whole : Stmt := top 15
abbrev s_is_text_begun_by : Stmt := top 16
abbrev s_is_word : Stmt := top 17
abbrev s_is_var : Stmt := top 18
abbrev s_is_value : Stmt := top 19
abbrev s_is_tuple_of_up_to : Stmt := top 24
abbrev s_is_tuple_of_just : Stmt := top 25
abbrev s_is_term : Stmt := top 26
abbrev s_are_terms : Stmt := top 27
abbrev s_is_atom : Stmt := top 28
abbrev s_are_atoms : Stmt := top 29
abbrev s_is_choice : Stmt := top 30
abbrev s_are_choices : Stmt := top 31
abbrev s_variables_in : Stmt := top 32
abbrev s_variables_of_body : Stmt := top 33
abbrev s_are_known : Stmt := top 34
abbrev s_is_rule : Stmt := top 35
abbrev s_ask_written : Stmt := top 39
abbrev s_ask_text : Stmt := top 40
abbrev s_are_figures : Stmt := top 41
abbrev s_is_written_number : Stmt := top 42
abbrev s_read_number : Stmt := top 43
abbrev s_read_word : Stmt := top 44
abbrev s_read_term : Stmt := top 45
abbrev s_read_terms : Stmt := top 47
abbrev s_read_atom : Stmt := top 48
abbrev s_read_place : Stmt := top 49
abbrev s_read_fact : Stmt := top 50
abbrev s_read_choice : Stmt := top 51
abbrev s_many_atoms : Stmt := top 52
abbrev s_read_body : Stmt := top 53
abbrev s_read_rule : Stmt := top 54
abbrev s__law_cell_at : Stmt := top 56
abbrev s__law_stream : Stmt := top 57
abbrev s__law_word : Stmt := top 58
abbrev s__law_words : Stmt := top 59
abbrev s__law_number : Stmt := top 60
abbrev s__law_value : Stmt := top 61
abbrev s__law_term : Stmt := top 62
abbrev s__law_written : Stmt := top 63
abbrev s__law_same : Stmt := top 64
abbrev s__law_rule : Stmt := top 65
abbrev s__law_line : Stmt := top 66
abbrev s__law_read : Stmt := top 67
abbrev s__law_refused : Stmt := top 68
abbrev s__law_refused_by_any : Stmt := top 69
abbrev s__law_no_term : Stmt := top 70
abbrev s__law_no_line : Stmt := top 71
abbrev s__law_taken_out : Stmt := top 72
abbrev s__law_spoiled : Stmt := top 73
abbrev s_law : Stmt := top 74
theorem sc_is_whole : FnScope ["thing"] ["thing"] (defScope s_is_whole) := ⟨rfl, rfl, rfl, by decide +kernel, rfl, by decide +kernel, by decide +kernel⟩
theorem sc_is_text_begun_by : FnScope ["thing", "first_signs"] ["thing", "first_signs"] (defScope s_is_text_begun_by) := ⟨rfl, rfl, rfl, by decide +kernel, rfl, by decide +kernel, by decide +kernel⟩
theorem sc_is_word : FnScope ["thing"] ["thing"] (defScope s_is_word) := ⟨rfl, rfl, rfl, by decide +kernel, rfl, by decide +kernel, by decide +kernel⟩
theorem sc_is_var : FnScope ["thing"] ["thing"] (defScope s_is_var) := ⟨rfl, rfl, rfl, by decide +kernel, rfl, by decide +kernel, by decide +kernel⟩
theorem sc_is_value : FnScope ["thing"] ["thing"] (defScope s_is_value) := ⟨rfl, rfl, rfl, by decide +kernel, rfl, by decide +kernel, by decide +kernel⟩
theorem sc_is_tuple_of_up_to : FnScope ["thing", "most"] ["thing", "most"] (defScope s_is_tuple_of_up_to) := ⟨rfl, rfl, rfl, by decide +kernel, rfl, by decide +kernel, by decide +kernel⟩
theorem sc_is_tuple_of_just : FnScope ["thing", "many"] ["thing", "many"] (defScope s_is_tuple_of_just) := ⟨rfl, rfl, rfl, by decide +kernel, rfl, by decide +kernel, by decide +kernel⟩
theorem sc_is_term : FnScope ["thing"] ["thing"] (defScope s_is_term) := ⟨rfl, rfl, rfl, by decide +kernel, rfl, by decide +kernel, by decide +kernel⟩
theorem sc_are_terms : FnScope ["thing"] ["thing"] (defScope s_are_terms) := ⟨rfl, rfl, rfl, by decide +kernel, rfl, by decide +kernel, by decide +kernel⟩
theorem sc_is_atom : FnScope ["thing"] ["thing"] (defScope s_is_atom) := ⟨rfl, rfl, rfl, by decide +kernel, rfl, by decide +kernel, by decide +kernel⟩
theorem sc_are_atoms : FnScope ["thing"] ["thing"] (defScope s_are_atoms) := ⟨rfl, rfl, rfl, by decide +kernel, rfl, by decide +kernel, by decide +kernel⟩
theorem sc_is_choice : FnScope ["thing"] ["thing"] (defScope s_is_choice) := ⟨rfl, rfl, rfl, by decide +kernel, rfl, by decide +kernel, by decide +kernel⟩
theorem sc_are_choices : FnScope ["thing"] ["thing"] (defScope s_are_choices) := ⟨rfl, rfl, rfl, by decide +kernel, rfl, by decide +kernel, by decide +kernel⟩
theorem sc_variables_in : FnScope ["terms"] ["terms"] (defScope s_variables_in) := ⟨rfl, rfl, rfl, by decide +kernel, rfl, by decide +kernel, by decide +kernel⟩
theorem sc_variables_of_body : FnScope ["body", "found", "table", "terms"] ["body"] (defScope s_variables_of_body) := ⟨rfl, rfl, rfl, by decide +kernel, rfl, by decide +kernel, by decide +kernel⟩
theorem sc_are_known : FnScope ["terms", "known"] ["terms", "known"] (defScope s_are_known) := ⟨rfl, rfl, rfl, by decide +kernel, rfl, by decide +kernel, by decide +kernel⟩
theorem sc_is_rule : FnScope ["thing", "known"] ["thing"] (defScope s_is_rule) := ⟨rfl, rfl, rfl, by decide +kernel, rfl, by decide +kernel, by decide +kernel⟩
theorem sc_ask_written : FnScope ["truth"] ["truth"] (defScope s_ask_written) := ⟨rfl, rfl, rfl, by decide +kernel, rfl, by decide +kernel, by decide +kernel⟩
theorem sc_ask_text : FnScope ["thing"] ["thing"] (defScope s_ask_text) := ⟨rfl, rfl, rfl, by decide +kernel, rfl, by decide +kernel, by decide +kernel⟩
theorem sc_are_figures : FnScope ["text"] ["text"] (defScope s_are_figures) := ⟨rfl, rfl, rfl, by decide +kernel, rfl, by decide +kernel, by decide +kernel⟩
theorem sc_is_written_number : FnScope ["text", "figures"] ["text"] (defScope s_is_written_number) := ⟨rfl, rfl, rfl, by decide +kernel, rfl, by decide +kernel, by decide +kernel⟩
theorem sc_read_number : FnScope ["text"] ["text"] (defScope s_read_number) := ⟨rfl, rfl, rfl, by decide +kernel, rfl, by decide +kernel, by decide +kernel⟩
theorem sc_read_word : FnScope ["text"] ["text"] (defScope s_read_word) := ⟨rfl, rfl, rfl, by decide +kernel, rfl, by decide +kernel, by decide +kernel⟩
theorem sc_read_term : FnScope ["text"] ["text"] (defScope s_read_term) := ⟨rfl, rfl, rfl, by decide +kernel, rfl, by decide +kernel, by decide +kernel⟩
theorem sc_read_terms : FnScope ["text", "terms"] ["text"] (defScope s_read_terms) := ⟨rfl, rfl, rfl, by decide +kernel, rfl, by decide +kernel, by decide +kernel⟩
theorem sc_read_atom : FnScope ["text", "parts"] ["text"] (defScope s_read_atom) := ⟨rfl, rfl, rfl, by decide +kernel, rfl, by decide +kernel, by decide +kernel⟩
theorem sc_read_place : FnScope ["text", "atom"] ["text"] (defScope s_read_place) := ⟨rfl, rfl, rfl, by decide +kernel, rfl, by decide +kernel, by decide +kernel⟩
theorem sc_read_fact : FnScope ["text", "parts"] ["text"] (defScope s_read_fact) := ⟨rfl, rfl, rfl, by decide +kernel, rfl, by decide +kernel, by decide +kernel⟩
theorem sc_read_choice : FnScope ["text", "parts"] ["text"] (defScope s_read_choice) := ⟨rfl, rfl, rfl, by decide +kernel, rfl, by decide +kernel, by decide +kernel⟩
theorem sc_many_atoms : FnScope ["parts", "many"] ["parts"] (defScope s_many_atoms) := ⟨rfl, rfl, rfl, by decide +kernel, rfl, by decide +kernel, by decide +kernel⟩
theorem sc_read_body : FnScope ["text", "parts", "many", "atoms"] ["text"] (defScope s_read_body) := ⟨rfl, rfl, rfl, by decide +kernel, rfl, by decide +kernel, by decide +kernel⟩
theorem sc_read_rule : FnScope ["text", "parts", "head", "rule"] ["text"] (defScope s_read_rule) := ⟨rfl, rfl, rfl, by decide +kernel, rfl, by decide +kernel, by decide +kernel⟩
theorem sc__law_cell_at : FnScope ["_law_script", "_law_k"] ["_law_script", "_law_k"] (defScope s__law_cell_at) := ⟨rfl, rfl, rfl, by decide +kernel, rfl, by decide +kernel, by decide +kernel⟩
theorem sc__law_stream : FnScope ["_law_cell", "_law_many", "_law_number_here", "_law_found", "_law_k"] ["_law_cell", "_law_many"] (defScope s__law_stream) := ⟨rfl, rfl, rfl, by decide +kernel, rfl, by decide +kernel, by decide +kernel⟩
theorem sc__law_word : FnScope ["_law_cell", "_law_size", "_law_signs", "_law_found", "_law_number_here"] ["_law_cell", "_law_size"] (defScope s__law_word) := ⟨rfl, rfl, rfl, by decide +kernel, rfl, by decide +kernel, by decide +kernel⟩
theorem sc__law_words : FnScope ["_law_cell", "_law_many", "_law_signs", "_law_way", "_law_base", "_law_size", "_law_at", "_law_found", "_law_k", "_law_word_here", "_law_sign"] ["_law_cell", "_law_many"] (defScope s__law_words) := ⟨rfl, rfl, rfl, by decide +kernel, rfl, by decide +kernel, by decide +kernel⟩
theorem sc__law_number : FnScope ["_law_cell", "_law_row", "_law_number_here", "_law_more"] ["_law_cell"] (defScope s__law_number) := ⟨rfl, rfl, rfl, by decide +kernel, rfl, by decide +kernel, by decide +kernel⟩
theorem sc__law_value : FnScope ["_law_cell", "_law_words_here", "_law_row"] ["_law_cell", "_law_words_here"] (defScope s__law_value) := ⟨rfl, rfl, rfl, by decide +kernel, rfl, by decide +kernel, by decide +kernel⟩
theorem sc__law_term : FnScope ["_law_cell", "_law_words_here", "_law_row", "_law_word_here"] ["_law_cell", "_law_words_here"] (defScope s__law_term) := ⟨rfl, rfl, rfl, by decide +kernel, rfl, by decide +kernel, by decide +kernel⟩
theorem sc__law_written : FnScope ["_law_terms"] ["_law_terms"] (defScope s__law_written) := ⟨rfl, rfl, rfl, by decide +kernel, rfl, by decide +kernel, by decide +kernel⟩
theorem sc__law_same : FnScope ["_law_found", "_law_due"] ["_law_found", "_law_due"] (defScope s__law_same) := ⟨rfl, rfl, rfl, by decide +kernel, rfl, by decide +kernel, by decide +kernel⟩
theorem sc__law_rule : FnScope ["_law_cell", "_law_words_here", "_law_row", "_law_body", "_law_there", "_law_k", "_law_terms", "_law_picked", "_law_number_here", "_law_head", "_law_choices"] ["_law_cell", "_law_words_here"] (defScope s__law_rule) := ⟨rfl, rfl, rfl, by decide +kernel, rfl, by decide +kernel, by decide +kernel⟩
theorem sc__law_line : FnScope ["_law_rule_here", "_law_parts", "_law_choice", "_law_line_here"] ["_law_rule_here"] (defScope s__law_line) := ⟨rfl, rfl, rfl, by decide +kernel, rfl, by decide +kernel, by decide +kernel⟩
theorem sc__law_read : FnScope ["_law_kind", "_law_line_here"] ["_law_kind", "_law_line_here"] (defScope s__law_read) := ⟨rfl, rfl, rfl, by decide +kernel, rfl, by decide +kernel, by decide +kernel⟩
theorem sc__law_refused : FnScope ["_law_kind", "_law_line_here"] ["_law_kind", "_law_line_here"] (defScope s__law_refused) := ⟨rfl, rfl, rfl, by decide +kernel, rfl, by decide +kernel, by decide +kernel⟩
theorem sc__law_refused_by_any : FnScope ["_law_kind", "_law_line_here", "e"] ["_law_kind", "_law_line_here"] (defScope s__law_refused_by_any) := ⟨rfl, rfl, rfl, by decide +kernel, rfl, by decide +kernel, by decide +kernel⟩
theorem sc__law_no_term : FnScope ["_law_cell", "_law_word_here", "_law_some"] ["_law_cell", "_law_word_here"] (defScope s__law_no_term) := ⟨rfl, rfl, rfl, by decide +kernel, rfl, by decide +kernel, by decide +kernel⟩
theorem sc__law_no_line : FnScope ["_law_kind", "_law_cell", "_law_word_here", "_law_some", "_law_head", "_law_line_here"] ["_law_kind", "_law_cell", "_law_word_here"] (defScope s__law_no_line) := ⟨rfl, rfl, rfl, by decide +kernel, rfl, by decide +kernel, by decide +kernel⟩
theorem sc__law_taken_out : FnScope ["_law_line_here", "_law_cell", "_law_signs", "_law_places", "_law_at"] ["_law_line_here", "_law_cell", "_law_signs"] (defScope s__law_taken_out) := ⟨rfl, rfl, rfl, by decide +kernel, rfl, by decide +kernel, by decide +kernel⟩
theorem sc__law_spoiled : FnScope ["_law_kind", "_law_line_here", "_law_way", "_law_cell", "_law_word_here", "_law_odd", "_law_at"] ["_law_kind", "_law_line_here", "_law_way", "_law_cell", "_law_word_here"] (defScope s__law_spoiled) := ⟨rfl, rfl, rfl, by decide +kernel, rfl, by decide +kernel, by decide +kernel⟩
theorem sc_law : FnScope ["_law_script", "_law_way", "_law_words_here", "_law_kind", "_law_rule_here", "_law_row", "_law_due", "_law_line_here", "_law_values", "_law_k", "_law_cell", "_law_spoiled_here", "_law_j"] ["_law_script"] (defScope s_law) := ⟨rfl, rfl, rfl, by decide +kernel, rfl, by decide +kernel, by decide +kernel⟩
structure Txt (K : PySem.W.Frag) (mg : Str → Option Value) : Prop where
  b_ValueError : mg "ValueError" = none
  b_all : mg "all" = none
  b_bool : mg "bool" = none
  b_int : mg "int" = none
  b_isinstance : mg "isinstance" = none
  b_len : mg "len" = none
  b_range : mg "range" = none
  b_str : mg "str" = none
  b_tuple : mg "tuple" = none
  b_zip : mg "zip" = none
  c_SMALL_LETTERS : ∃ t, mg "SMALL_LETTERS" = some (.str "abcdefghijklmnopqrstuvwxyz" t)
  c_CAPITAL_LETTERS : ∃ t, mg "CAPITAL_LETTERS" = some (.str "ABCDEFGHIJKLMNOPQRSTUVWXYZ" t)
  c_FURTHER_SIGNS : ∃ t, mg "FURTHER_SIGNS" = some (.str "abcdefghijklmnopqrstuvwxyz0123456789" t)
  c_MOST_SIGNS : ∃ t, mg "MOST_SIGNS" = some (.int 12 t)
  c_MOST_VALUES : ∃ t, mg "MOST_VALUES" = some (.int 4 t)
  c_MOST_ATOMS : ∃ t, mg "MOST_ATOMS" = some (.int 3 t)
  c_MOST_CHOICES : ∃ t, mg "MOST_CHOICES" = some (.int 3 t)
  c_FIGURES : ∃ t, mg "FIGURES" = some (.str "0123456789" t)
  c_MOST_FIGURES : ∃ t, mg "MOST_FIGURES" = some (.int 60 t)
  g_SIGNS : mg "SIGNS" = some (.ref (cA mg "SIGNS"))
  q_SIGNS : TupC K (cA mg "SIGNS") [.str "=", .str "!=", .str "<"]
  t_is_whole : Top K mg "is_whole" s_is_whole ["thing"]
  t_is_text_begun_by : Top K mg "is_text_begun_by" s_is_text_begun_by ["thing", "first_signs"]
  t_is_word : Top K mg "is_word" s_is_word ["thing"]
  t_is_var : Top K mg "is_var" s_is_var ["thing"]
  t_is_value : Top K mg "is_value" s_is_value ["thing"]
  t_is_tuple_of_up_to : Top K mg "is_tuple_of_up_to" s_is_tuple_of_up_to ["thing", "most"]
  t_is_tuple_of_just : Top K mg "is_tuple_of_just" s_is_tuple_of_just ["thing", "many"]
  t_is_term : Top K mg "is_term" s_is_term ["thing"]
  t_are_terms : Top K mg "are_terms" s_are_terms ["thing"]
  t_is_atom : Top K mg "is_atom" s_is_atom ["thing"]
  t_are_atoms : Top K mg "are_atoms" s_are_atoms ["thing"]
  t_is_choice : Top K mg "is_choice" s_is_choice ["thing"]
  t_are_choices : Top K mg "are_choices" s_are_choices ["thing"]
  t_variables_in : Top K mg "variables_in" s_variables_in ["terms"]
  t_variables_of_body : Top K mg "variables_of_body" s_variables_of_body ["body"]
  t_are_known : Top K mg "are_known" s_are_known ["terms", "known"]
  t_is_rule : Top K mg "is_rule" s_is_rule ["thing"]
  t_ask_written : Top K mg "ask_written" s_ask_written ["truth"]
  t_ask_text : Top K mg "ask_text" s_ask_text ["thing"]
  t_are_figures : Top K mg "are_figures" s_are_figures ["text"]
  t_is_written_number : Top K mg "is_written_number" s_is_written_number ["text"]
  t_read_number : Top K mg "read_number" s_read_number ["text"]
  t_read_word : Top K mg "read_word" s_read_word ["text"]
  t_read_term : Top K mg "read_term" s_read_term ["text"]
  t_read_terms : Top K mg "read_terms" s_read_terms ["text"]
  t_read_atom : Top K mg "read_atom" s_read_atom ["text"]
  t_read_place : Top K mg "read_place" s_read_place ["text"]
  t_read_fact : Top K mg "read_fact" s_read_fact ["text"]
  t_read_choice : Top K mg "read_choice" s_read_choice ["text"]
  t_many_atoms : Top K mg "many_atoms" s_many_atoms ["parts"]
  t_read_body : Top K mg "read_body" s_read_body ["text"]
  t_read_rule : Top K mg "read_rule" s_read_rule ["text"]
  t__law_cell_at : Top K mg "_law_cell_at" s__law_cell_at ["_law_script", "_law_k"]
  t__law_stream : Top K mg "_law_stream" s__law_stream ["_law_cell", "_law_many"]
  t__law_word : Top K mg "_law_word" s__law_word ["_law_cell", "_law_size"]
  t__law_words : Top K mg "_law_words" s__law_words ["_law_cell", "_law_many"]
  t__law_number : Top K mg "_law_number" s__law_number ["_law_cell"]
  t__law_value : Top K mg "_law_value" s__law_value ["_law_cell", "_law_words_here"]
  t__law_term : Top K mg "_law_term" s__law_term ["_law_cell", "_law_words_here"]
  t__law_written : Top K mg "_law_written" s__law_written ["_law_terms"]
  t__law_same : Top K mg "_law_same" s__law_same ["_law_found", "_law_due"]
  t__law_rule : Top K mg "_law_rule" s__law_rule ["_law_cell", "_law_words_here"]
  t__law_line : Top K mg "_law_line" s__law_line ["_law_rule_here"]
  t__law_read : Top K mg "_law_read" s__law_read ["_law_kind", "_law_line_here"]
  t__law_refused : Top K mg "_law_refused" s__law_refused ["_law_kind", "_law_line_here"]
  t__law_refused_by_any : Top K mg "_law_refused_by_any" s__law_refused_by_any ["_law_kind", "_law_line_here"]
  t__law_no_term : Top K mg "_law_no_term" s__law_no_term ["_law_cell", "_law_word_here"]
  t__law_no_line : Top K mg "_law_no_line" s__law_no_line ["_law_kind", "_law_cell", "_law_word_here"]
  t__law_taken_out : Top K mg "_law_taken_out" s__law_taken_out ["_law_line_here", "_law_cell", "_law_signs"]
  t__law_spoiled : Top K mg "_law_spoiled" s__law_spoiled ["_law_kind", "_law_line_here", "_law_way", "_law_cell", "_law_word_here"]
  t_law : Top K mg "law" s_law ["_law_script"]
  g_NoFact : mg "NoFact" = some (.ref (cA mg "NoFact"))
  x_NoFact : XCls K (cA mg "NoFact")
  g_NoName : mg "NoName" = some (.ref (cA mg "NoName"))
  x_NoName : XCls K (cA mg "NoName")
  g_NoRounds : mg "NoRounds" = some (.ref (cA mg "NoRounds"))
  x_NoRounds : XCls K (cA mg "NoRounds")
  g_NoRule : mg "NoRule" = some (.ref (cA mg "NoRule"))
  x_NoRule : XCls K (cA mg "NoRule")
  g_NoText : mg "NoText" = some (.ref (cA mg "NoText"))
  x_NoText : XCls K (cA mg "NoText")
  g_NoWorth : mg "NoWorth" = some (.ref (cA mg "NoWorth"))
  x_NoWorth : XCls K (cA mg "NoWorth")
  g_TooMuch : mg "TooMuch" = some (.ref (cA mg "TooMuch"))
  x_TooMuch : XCls K (cA mg "TooMuch")
  g_WhyError : mg "WhyError" = some (.ref (cA mg "WhyError"))
  x_WhyError : XCls K (cA mg "WhyError")
  p_NoText_NoFact : PySem.W.mroIn K (cA mg "NoText") (.ref (cA mg "NoFact")) = some false
  p_NoText_NoName : PySem.W.mroIn K (cA mg "NoText") (.ref (cA mg "NoName")) = some false
  p_NoText_NoRounds : PySem.W.mroIn K (cA mg "NoText") (.ref (cA mg "NoRounds")) = some false
  p_NoText_NoRule : PySem.W.mroIn K (cA mg "NoText") (.ref (cA mg "NoRule")) = some false
  p_NoText_NoText : PySem.W.mroIn K (cA mg "NoText") (.ref (cA mg "NoText")) = some true
  p_NoText_NoWorth : PySem.W.mroIn K (cA mg "NoText") (.ref (cA mg "NoWorth")) = some false
  p_NoText_TooMuch : PySem.W.mroIn K (cA mg "NoText") (.ref (cA mg "TooMuch")) = some false
  p_NoText_WhyError : PySem.W.mroIn K (cA mg "NoText") (.ref (cA mg "WhyError")) = some true
theorem iteFb {b : Bool} {A B : Prop} (e : b = false) (h : B) : if b = true then A else B := by
  subst e
  exact iteF h
theorem iteTb {b : Bool} {A B : Prop} (e : b = true) (h : A) : if b = true then A else B := by
  subst e
  exact iteT h
def fur : Str := "abcdefghijklmnopqrstuvwxyz0123456789"
def small : Str := "abcdefghijklmnopqrstuvwxyz"
def signsOk (fs : Str) : List Nat → Bool
  | [] => false
  | c :: r => decide (c ∈ fs.cps.toList) && r.all fun d => decide (d ∈ fur.cps.toList)
def txtB (fs z : Str) : Bool := decide (1 ≤ z.length) && decide (z.length ≤ 12) && signsOk fs z.cps.toList
def txtD (fs : Str) : PyData → Bool
  | .str z => txtB fs z
  | _ => false
def wholeD : PyData → Bool
  | .int _ => true
  | _ => false
def valD (d : PyData) : Bool := wholeD d || txtD small d
def okD : Nat → PyData → Prop
  | _, .str z => z.length ≤ 20000
  | 0, .list _ => False
  | 0, .tuple _ => False
  | n + 1, .list ds => ds.length ≤ 10 ∧ ∀ e ∈ ds, okD n e
  | n + 1, .tuple ds => ds.length ≤ 10 ∧ ∀ e ∈ ds, okD n e
  | _, .dict _ => False
  | _, _ => True
theorem okD_str {n : Nat} {z : Str} (h : okD n (.str z)) : z.length ≤ 20000 := by
  cases n <;> exact h
theorem dat_str {K : PySem.W.Frag} {H : Hp} {d : PyData} {x : V} (h : Dat K H d x) : (∃ z, d = .str z ∧ x = .str z) ∨ (tyIs (tyD d) "str" = false ∧ ∀ fs, txtD fs d = false) := by
  cases h with
  | str z _ => exact .inl ⟨z, rfl, rfl⟩
  | non => exact .inr ⟨rfl, fun _ => rfl⟩
  | bl _ => exact .inr ⟨rfl, fun _ => rfl⟩
  | int _ => exact .inr ⟨rfl, fun _ => rfl⟩
  | lst _ _ => exact .inr ⟨rfl, fun _ => rfl⟩
  | tup _ _ => exact .inr ⟨rfl, fun _ => rfl⟩
theorem txtB_len {fs z : Str} (h : ¬ (1 ≤ z.length ∧ z.length ≤ 12)) : txtB fs z = false := by
  unfold txtB
  by_cases h1 : 1 ≤ z.length
  · have h2 : ¬ z.length ≤ 12 := fun q => h ⟨h1, q⟩
    simp [h2]
  · simp [h1]
theorem txtB_ok {fs z : Str} (h1 : 1 ≤ z.length) (h2 : z.length ≤ 12) : txtB fs z = signsOk fs z.cps.toList := by
  unfold txtB
  simp [h1, h2]
theorem len_list (z : Str) : z.cps.toList.length = z.length := by simp [Str.length]
theorem split_list {z : Str} (h : 1 ≤ z.length) : ∃ c r, z.cps.toList = c :: r := by
  have := len_list z
  cases e : z.cps.toList with
  | nil => rw [e] at this; simp at this; omega
  | cons c r => exact ⟨c, r, rfl⟩
theorem cut_tail {z : Str} (h : 1 ≤ z.length) : (cutS z (some 1) none).cps.toList = z.cps.toList.tail := by
  have e1 : HT.sIx z.length 0 (some 1) = 1 := by
    have := HT.sIx_nat z.length 0 1
    rw [show ((1 : Nat) : Int) = 1 from rfl] at this
    rw [this]
    omega
  have hl := len_list z
  unfold cutS
  rw [e1, HT.sIx_none]
  show ((z.cps.toList.drop 1).take (z.length - 1)).toArray.toList = _
  rw [List.toList_toArray, List.take_of_length_le (by rw [List.length_drop]; omega), List.drop_one]
end Wy
namespace Wy
open PySem L2
section
variable {P : Program} {w : World} {K : PySem.W.Frag} {mg : Str → Option Value} {base : Heap}
def sp_begun (K : PySem.W.Frag) : Sp := fun vs H Q _ => ∃ x fs d n, vs = [x, .str fs] ∧ Dat K H d x ∧ okD n d ∧ ∀ H', Same H H' → Q (.bl (txtD fs d)) H'
theorem ok_is_text_begun_by (T : Txt K mg) : Def P w K mg base 1 "is_text_begun_by" ["thing", "first_signs"] (sp_begun K) := by
  refine T.t_is_text_begun_by.ok sc_is_text_begun_by (fun vs H Q E h => ?_) fun f cdv A outer s H vs Q E hr h => ?_
  · obtain ⟨x, fs, d, n, rfl, _⟩ := h
    rfl
  · obtain ⟨x, fs, d, n, rfl, hd, hz, k⟩ := h
    refine ⟨_, (pss_2
      (ps_if (PW.pt (pw_or (pt_not (pt_val (pe_callB (call_isiD K) rfl T.b_isinstance bt_isinstance (pa_2 (pv 0) (pe_ty rfl T.b_str bt_str))))) (pw_or1 (pt_not (pt_chain op_le op_le pe_int (pe_callB (call_lenK K) rfl T.b_len bt_len (pa_1 (pv 0))) (pe_gI rfl T.c_MOST_SIGNS)))))) (pss_one (ps_ret pe_bl)) pss_nil)
      (ps_ret (pe_and (pe_cmpR op_in_str (pe_ix ix_str (pv 0) pe_int (fun _ _ => rfl)) (pv 1) (by with_unfolding_all rfl)) (pe_one (pe_callB (call_allL rfl K) rfl T.b_all bt_all (pa_1 (pe_comp (N := ["sign"]) (caps := [none]) rfl (by with_unfolding_all rfl) (pi_str (pe_slice sl_str (pv 0) (po_some pe_int) po_none)) (fun _ _ _ _ _ => (pg_name (i := 0) (show (["sign"] : List Str).Nodup by decide +kernel) rfl (Or.inl rfl))) (fun _ _ _ _ _ => pf_nil) (fun _ _ _ _ _ => (pe_cmpR op_in_str (pv 0) (pe_gS rfl T.c_FURTHER_SIGNS) (by with_unfolding_all rfl)))))))))), ?_⟩
    rcases dat_str hd with ⟨z, rfl, rfl⟩ | ⟨ty, hn⟩
    · have hz := okD_str hz
      have hsl : z.length ≤ sizeLine := Nat.le_trans hz (by decide)
      have no : ¬ (1 ≤ z.length ∧ z.length ≤ 12) → Q (.bl false) H := fun q => by
        have := k H (Same.refl H)
        rw [show txtD fs (.str z) = false from txtB_len q] at this
        exact this
      refine ⟨_, rfl, _, _, _, rfl, hd, by decide, _, rfl, ?_⟩
      refine iteFb (show (!tyIs "str" "str") = false by decide) ?_
      refine ⟨_, rfl, _, _, rfl, ⟨hsl, rfl⟩, _, _, rfl, rfl, _, rfl, ?_⟩
      refine ite2 (fun h1 => ?_) (fun h1 => ?_)
      · refine ⟨_, _, rfl, rfl, _, rfl, ?_⟩
        refine ite2 (fun h2 => ?_) (fun h2 => ?_)
        · exact no fun q => by simp at h2; omega
        · have l1 : 1 ≤ z.length := by simp at h1; omega
          have l2 : z.length ≤ 12 := by simp at h2; omega
          obtain ⟨c, r, ecr⟩ := split_list l1
          have et : txtD fs (.str z) = signsOk fs z.cps.toList := txtB_ok (fs := fs) l1 l2
          rw [ecr] at et
          refine ⟨_, rfl, _, _, c, rfl, rfl, hsl, (by rw [ecr]; exact atI_nat (j := 0) rfl), _, rfl, _, _, rfl, rfl, _, rfl, ?_⟩
          rw [StrLaws.found_one]
          refine ite2 (fun h3 => ?_) (fun h3 => ?_)
          · refine ⟨_, rfl, _, rfl, _, rfl, hsl, _, rfl, fun D hD => ?_⟩
            have ect : (cutS z (some 1) none).cps.toList = r := by rw [cut_tail l1, ecr]; rfl
            have hrl : r.length ≤ 12 := by
              have := len_list z
              rw [ecr, List.length_cons] at this
              omega
            have esz : (cutS z (some 1) none).cps.size = r.length := by rw [← ect, Array.length_toList]
            refine comp_by r.length (fun i σ' H' => (∃ v, σ' = [v]) ∧ H' = upd H D (.lst ((r.take i).map fun c => V.bl (decide (c ∈ fur.cps.toList))))) ⟨⟨_, rfl⟩, rfl⟩ (fun i σ' H' hi _ => by show i < _; rw [esz]; exact hi) (fun σ' H' p => ⟨esz.symm, ?_⟩) (fun i σ' H' hi p x H2 y => ?_)
            · obtain ⟨_, rfl⟩ := p
              refine ⟨D, r.map fun c => decide (c ∈ fur.cps.toList), rfl, SqL.of (by rw [upd_same, List.take_length, List.map_map]; rfl), ?_⟩
              have := k (upd H D (.lst ((r.take r.length).map fun c => V.bl (decide (c ∈ fur.cps.toList))))) (same_upd hD)
              rw [et] at this
              have e2 : signsOk fs (c :: r) = (r.map fun c => decide (c ∈ fur.cps.toList)).all id := by
                show (decide (c ∈ fs.cps.toList) && _) = _
                rw [h3, Bool.true_and, List.all_map]
                rfl
              rw [e2] at this
              exact this
            · obtain ⟨⟨v, rfl⟩, rfl⟩ := p
              obtain ⟨rfl, c', hc, rfl⟩ := y
              have hc' : r[i]? = some c' := by rw [← ect, Array.getElem?_toList]; exact hc
              refine ⟨_, rfl, _, _, rfl, rfl, _, upd_same, ?_, ⟨_, rfl⟩, ?_⟩
              · rw [List.length_map, List.length_take]
                exact small1000 (by omega)
              · rw [upd_upd, StrLaws.found_one, List.take_succ, hc', List.map_append]
                rfl
          · have := k H (Same.refl H)
            rw [et] at this
            have e2 : signsOk fs (c :: r) = false := by
              show (decide (c ∈ fs.cps.toList) && _) = _
              rw [Bool.eq_false_iff.mpr h3, Bool.false_and]
            rw [e2] at this
            exact this
      · refine ⟨_, rfl, iteT ?_⟩
        exact no fun q => by simp at h1; omega
    · refine ⟨_, rfl, _, _, _, rfl, hd, by decide, _, rfl, ?_⟩
      refine iteTb (by rw [ty]; rfl) (iteT ?_)
      have := k H (Same.refl H)
      rw [hn] at this
      exact this
def sp_word (K : PySem.W.Frag) (fs : Str) : Sp := fun vs H Q _ => ∃ x d n, vs = [x] ∧ Dat K H d x ∧ okD n d ∧ ∀ H', Same H H' → Q (.bl (txtD fs d)) H'
theorem ok_is_word (T : Txt K mg) : Def P w K mg base 2 "is_word" ["thing"] (sp_word K small) := by
  refine T.t_is_word.ok sc_is_word (fun vs H Q E h => ?_) fun f cdv A outer s H vs Q E hr h => ?_
  · obtain ⟨x, d, n, rfl, _⟩ := h
    rfl
  · obtain ⟨x, d, n, rfl, hd, hz, k⟩ := h
    refine ⟨_, (pss_one (ps_ret (pe_def (ok_is_text_begun_by T) hr rfl (pa_2 (pv 0) (pe_gS rfl T.c_SMALL_LETTERS))))), ?_⟩
    exact ⟨_, rfl, _, _, d, n, rfl, hd, hz, k⟩
end
end Wy
namespace Wy
open PySem L2
section
variable {P : Program} {w : World} {K : PySem.W.Frag} {mg : Str → Option Value} {base : Heap}
def sp_whole (K : PySem.W.Frag) : Sp := fun vs H Q _ => ∃ x d, vs = [x] ∧ Dat K H d x ∧ Q (.bl (wholeD d)) H
theorem ok_is_whole (T : Txt K mg) : Def P w K mg base 1 "is_whole" ["thing"] (sp_whole K) := by
  refine T.t_is_whole.ok sc_is_whole (fun vs H Q E h => ?_) fun f cdv A outer s H vs Q E hr h => ?_
  · obtain ⟨x, d, rfl, _⟩ := h
    rfl
  · obtain ⟨x, d, rfl, hd, k⟩ := h
    refine ⟨_, (pss_one (ps_ret (pe_and (pe_callB (call_isiD K) rfl T.b_isinstance bt_isinstance (pa_2 (pv 0) (pe_ty rfl T.b_int bt_int))) (pe_one (pe_not (pe_callB (call_isiD K) rfl T.b_isinstance bt_isinstance (pa_2 (pv 0) (pe_ty rfl T.b_bool bt_bool)))))))), ?_⟩
    refine ⟨_, rfl, _, _, _, rfl, hd, by decide, _, rfl, ite2 (fun h1 => ?_) (fun h1 => ?_)⟩
    · refine ⟨_, rfl, _, _, _, rfl, hd, by decide, _, rfl, ?_⟩
      cases hd <;> first | exact k | (exact absurd h1 Bool.false_ne_true)
    · cases hd <;> first | exact k | (exact absurd rfl h1)
def sp_val (K : PySem.W.Frag) : Sp := fun vs H Q _ => ∃ x d n, vs = [x] ∧ Dat K H d x ∧ okD n d ∧ ∀ H', Same H H' → Q (.bl (valD d)) H'
theorem ok_is_value (T : Txt K mg) : Def P w K mg base 3 "is_value" ["thing"] (sp_val K) := by
  refine T.t_is_value.ok sc_is_value (fun vs H Q E h => ?_) fun f cdv A outer s H vs Q E hr h => ?_
  · obtain ⟨x, d, n, rfl, _⟩ := h
    rfl
  · obtain ⟨x, d, n, rfl, hd, hz, k⟩ := h
    refine ⟨_, (pss_one (ps_ret (pe_or (pe_def (ok_is_whole T) hr rfl (pa_1 (pv 0))) (pe_one (pe_def (ok_is_word T) hr rfl (pa_1 (pv 0))))))), ?_⟩
    refine ⟨_, rfl, _, d, rfl, hd, _, rfl, ite2 (fun h1 => ?_) (fun h1 => ?_)⟩
    · have := k H (Same.refl H)
      rw [valD, h1] at this
      exact this
    · refine ⟨_, rfl, _, d, n, rfl, hd, hz, fun H' s' => ?_⟩
      have := k H' s'
      rw [valD, Bool.eq_false_iff.mpr h1] at this
      exact this
end
end Wy
namespace Wy
open PySem L2
section
variable {P : Program} {w : World} {K : PySem.W.Frag} {mg : Str → Option Value} {base : Heap}
theorem dats_get {K : PySem.W.Frag} {H : Hp} : ∀ {ds : List PyData} {xs : List V} {i : Nat} {x : V}, Dats K H ds xs → xs[i]? = some x → ∃ d, ds[i]? = some d ∧ Dat K H d x
  | _, _, i, x, .nil, h => by simp at h
  | _, _, 0, x, .cons a b, h => by
    simp at h
    subst h
    exact ⟨_, rfl, a⟩
  | _, _, i + 1, x, .cons a b, h => by
    obtain ⟨d, e, r⟩ := dats_get (i := i) (x := x) b (by simpa using h)
    exact ⟨d, by simpa using e, r⟩
theorem dats_len {K : PySem.W.Frag} {H : Hp} : ∀ {ds : List PyData} {xs : List V}, Dats K H ds xs → ds.length = xs.length
  | _, _, .nil => rfl
  | _, _, .cons a b => by rw [List.length_cons, List.length_cons, dats_len b]
theorem okD_tup {n : Nat} {ds : List PyData} (h : okD n (.tuple ds)) : ∃ m, ds.length ≤ 10 ∧ ∀ e ∈ ds, okD m e := by
  cases n with
  | zero => exact absurd h id
  | succ n => exact ⟨n, h⟩
end
end Wy
namespace Wy
open PySem L2
section
variable {P : Program} {w : World} {K : PySem.W.Frag} {mg : Str → Option Value} {base : Heap}
def sp_cell (K : PySem.W.Frag) : Sp := fun vs H Q _ => ∃ (a : Addr) (ns : List Int) (k : Int), vs = [.ref a, .int k] ∧ SqL K H a (ns.map V.int) ∧ 0 ≤ k ∧ Q (.int (ns.getD k.toNat 0)) H
theorem ok__law_cell_at (T : Txt K mg) : Def P w K mg base 1 "_law_cell_at" ["_law_script", "_law_k"] (sp_cell K) := by
  refine T.t__law_cell_at.ok sc__law_cell_at (fun vs H Q E h => ?_) fun f cdv A outer s H vs Q E hr h => ?_
  · obtain ⟨a, ns, k, rfl, _⟩ := h
    rfl
  · obtain ⟨a, ns, k, rfl, hS, h0, q⟩ := h
    refine ⟨_, (pss_2
      (ps_if (pt_cmpR op_lt (pv 1) (pe_callB (call_lenK K) rfl T.b_len bt_len (pa_1 (pv 0))) (nomark _)) (pss_one (ps_ret (pe_ix (ix_listK K) (pv 0) (pv 1) (fun _ _ => rfl)))) pss_nil)
      (ps_ret pe_int)), ?_⟩
    refine ⟨_, rfl, _, rfl, _, _, rfl, .inl ⟨_, hS, rfl⟩, _, _, rfl, rfl, _, rfl, ?_⟩
    rw [List.length_map]
    refine ite2 (fun h1 => ?_) (fun h1 => ?_)
    · have h1' : k < ns.length := by simpa using h1
      have hk : k.toNat < ns.length := by omega
      refine ⟨_, rfl, _, rfl, _, _, _, V.int (ns.getD k.toNat 0), rfl, rfl, hS, ?_, q⟩
      rw [atI_lt h0 (by rw [List.length_map]; exact h1'), List.getElem?_map, List.getElem?_eq_getElem hk, getD_lt hk]
      rfl
    · have h1' : ¬ k < ns.length := by simpa using h1
      have e : ns.getD k.toNat 0 = 0 := by
        exact getD_ge (by omega)
      rw [e] at q
      exact q
end
end Wy
namespace Wy
open PySem L2
def capS : Str := "ABCDEFGHIJKLMNOPQRSTUVWXYZ"
def termB (d : PyData) : Bool := valD d || txtD capS d
def upJ (d : PyData) (m : Int) : Bool := match d with
  | .tuple ds => decide ((ds.length : Int) ≤ m)
  | _ => false
def tupJ (d : PyData) (m : Int) : Bool := match d with
  | .tuple ds => decide ((ds.length : Int) = m)
  | _ => false
def upD (m : Nat) (f : PyData → Bool) : PyData → Bool
  | .tuple ds => decide (ds.length ≤ m) && ds.all f
  | _ => false
def termsB : PyData → Bool := upD 4 termB
def atomB : PyData → Bool
  | .tuple [a, b] => txtD small a && termsB b
  | _ => false
def atomsB : PyData → Bool := upD 3 atomB
def signB (d : PyData) : Bool := [PyData.str "=", .str "!=", .str "<"].any fun y => PyData.eqv y d
def choiceB : PyData → Bool
  | .tuple [s, a, b] => signB s && (termB a && termB b)
  | _ => false
def choicesB : PyData → Bool := upD 3 choiceB
theorem dI (a b : Int) : decide (V.int a = V.int b) = decide (a = b) := decide_eq_decide.mpr ⟨fun h => by injection h, fun h => by rw [h]⟩
theorem dat_tup2 {K : PySem.W.Frag} {H : Hp} {d : PyData} {x : V} (h : Dat K H d x) : (∃ a xs ds, d = .tuple ds ∧ x = .ref a ∧ SqT K H a xs ∧ Dats K H ds xs) ∨ (tyIs (tyD d) "tuple" = false ∧ (∀ ds, d ≠ .tuple ds)) := by
  cases h with
  | tup a b => exact .inl ⟨_, _, _, rfl, rfl, a, b⟩
  | non => exact .inr ⟨rfl, fun _ z => nomatch z⟩
  | bl _ => exact .inr ⟨rfl, fun _ z => nomatch z⟩
  | int _ => exact .inr ⟨rfl, fun _ z => nomatch z⟩
  | str _ _ => exact .inr ⟨rfl, fun _ z => nomatch z⟩
  | lst _ _ => exact .inr ⟨rfl, fun _ z => nomatch z⟩
theorem upJ_no {d : PyData} {m : Int} (h : ∀ ds, d ≠ .tuple ds) : upJ d m = false := by
  cases d with
  | tuple ds => exact absurd rfl (h ds)
  | _ => rfl
theorem tupJ_no {d : PyData} {m : Int} (h : ∀ ds, d ≠ .tuple ds) : tupJ d m = false := by
  cases d with
  | tuple ds => exact absurd rfl (h ds)
  | _ => rfl
theorem dats2 {K : PySem.W.Frag} {H : Hp} {ds : List PyData} {xs : List V} (h : Dats K H ds xs) (e : ds.length = 2) : ∃ a b x y, ds = [a, b] ∧ xs = [x, y] ∧ Dat K H a x ∧ Dat K H b y := by
  match ds, xs, h, e with
  | [a, b], [x, y], .cons h1 (.cons h2 .nil), _ => exact ⟨a, b, x, y, rfl, rfl, h1, h2⟩
theorem dats3 {K : PySem.W.Frag} {H : Hp} {ds : List PyData} {xs : List V} (h : Dats K H ds xs) (e : ds.length = 3) : ∃ a b c x y z, ds = [a, b, c] ∧ xs = [x, y, z] ∧ Dat K H a x ∧ Dat K H b y ∧ Dat K H c z := by
  match ds, xs, h, e with
  | [a, b, c], [x, y, z], .cons h1 (.cons h2 (.cons h3 .nil)), _ => exact ⟨a, b, c, x, y, z, rfl, rfl, h1, h2, h3⟩
theorem atomB_no {d : PyData} (h : tupJ d 2 = false) : atomB d = false := by
  unfold atomB
  split
  · exact absurd h (by unfold tupJ; simp)
  · rfl
theorem choiceB_no {d : PyData} (h : tupJ d 3 = false) : choiceB d = false := by
  unfold choiceB
  split
  · exact absurd h (by unfold tupJ; simp)
  · rfl
section
variable {P : Program} {w : World} {K : PySem.W.Frag} {mg : Str → Option Value} {base : Heap}
def sp_is (K : PySem.W.Frag) (f : PyData → Bool) : Sp := fun vs H Q _ => ∃ x d n, vs = [x] ∧ Dat K H d x ∧ okD n d ∧ ∀ H', Same H H' → Q (.bl (f d)) H'
theorem ok_is_var (T : Txt K mg) : Def P w K mg base 2 "is_var" ["thing"] (sp_is K (txtD capS)) := by
  refine T.t_is_var.ok sc_is_var (fun vs H Q E h => ?_) fun f cdv A outer s H vs Q E hr h => ?_
  · obtain ⟨x, d, n, rfl, _⟩ := h
    rfl
  · obtain ⟨x, d, n, rfl, hd, hz, k⟩ := h
    refine ⟨_, (pss_one (ps_ret (pe_def (ok_is_text_begun_by T) hr rfl (pa_2 (pv 0) (pe_gS rfl T.c_CAPITAL_LETTERS))))), ?_⟩
    exact ⟨_, rfl, _, _, d, n, rfl, hd, hz, k⟩
theorem ok_is_term (T : Txt K mg) : Def P w K mg base 4 "is_term" ["thing"] (sp_is K termB) := by
  refine T.t_is_term.ok sc_is_term (fun vs H Q E h => ?_) fun f cdv A outer s H vs Q E hr h => ?_
  · obtain ⟨x, d, n, rfl, _⟩ := h
    rfl
  · obtain ⟨x, d, n, rfl, hd, hz, k⟩ := h
    refine ⟨_, (pss_one (ps_ret (pe_or (pe_def (ok_is_value T) hr rfl (pa_1 (pv 0))) (pe_one (pe_def (ok_is_var T) hr rfl (pa_1 (pv 0))))))), ?_⟩
    refine ⟨_, rfl, _, d, n, rfl, hd, hz, fun H1 s1 => ⟨_, rfl, ite2 (fun h1 => ?_) (fun h1 => ?_)⟩⟩
    · have := k H1 s1
      rw [termB, h1] at this
      exact this
    · refine ⟨_, rfl, _, d, n, rfl, Dat.same s1 _ _ hd, hz, fun H' s' => ?_⟩
      have := k H' (s1.trans s')
      rw [termB, Bool.eq_false_iff.mpr h1] at this
      exact this
def sp_up (K : PySem.W.Frag) : Sp := fun vs H Q _ => ∃ x d m, vs = [x, .int m] ∧ Dat K H d x ∧ Q (.bl (upJ d m)) H
theorem ok_is_tuple_of_up_to (T : Txt K mg) : Def P w K mg base 1 "is_tuple_of_up_to" ["thing", "most"] (sp_up K) := by
  refine T.t_is_tuple_of_up_to.ok sc_is_tuple_of_up_to (fun vs H Q E h => ?_) fun f cdv A outer s H vs Q E hr h => ?_
  · obtain ⟨x, d, m, rfl, _⟩ := h
    rfl
  · obtain ⟨x, d, m, rfl, hd, k⟩ := h
    refine ⟨_, (pss_one (ps_ret (pe_and (pe_callB (call_isiD K) rfl T.b_isinstance bt_isinstance (pa_2 (pv 0) (pe_ty rfl T.b_tuple bt_tuple))) (pe_one (pe_cmpR op_le (pe_callB (call_lenK K) rfl T.b_len bt_len (pa_1 (pv 0))) (pv 1) (nomark _)))))), ?_⟩
    refine ⟨_, rfl, _, _, _, rfl, hd, by decide, _, rfl, ?_⟩
    rcases dat_tup2 hd with ⟨a, xs, ds, rfl, rfl, ht, hds⟩ | ⟨ty, hn⟩
    · refine iteTb (show tyIs "tuple" "tuple" = true by decide) ?_
      refine ⟨_, rfl, _, _, rfl, .inr ⟨_, ht, rfl⟩, _, rfl, _, _, rfl, rfl, ?_⟩
      rw [← dats_len hds]
      exact k
    · refine iteFb ty ?_
      rw [upJ_no hn] at k
      exact k
def sp_just (K : PySem.W.Frag) : Sp := fun vs H Q _ => ∃ x d m, vs = [x, .int m] ∧ Dat K H d x ∧ Q (.bl (tupJ d m)) H
theorem ok_is_tuple_of_just (T : Txt K mg) : Def P w K mg base 1 "is_tuple_of_just" ["thing", "many"] (sp_just K) := by
  refine T.t_is_tuple_of_just.ok sc_is_tuple_of_just (fun vs H Q E h => ?_) fun f cdv A outer s H vs Q E hr h => ?_
  · obtain ⟨x, d, m, rfl, _⟩ := h
    rfl
  · obtain ⟨x, d, m, rfl, hd, k⟩ := h
    refine ⟨_, (pss_one (ps_ret (pe_and (pe_callB (call_isiD K) rfl T.b_isinstance bt_isinstance (pa_2 (pv 0) (pe_ty rfl T.b_tuple bt_tuple))) (pe_one (pe_cmpR op_eq (pe_callB (call_lenK K) rfl T.b_len bt_len (pa_1 (pv 0))) (pv 1) (nomark _)))))), ?_⟩
    refine ⟨_, rfl, _, _, _, rfl, hd, by decide, _, rfl, ?_⟩
    rcases dat_tup2 hd with ⟨a, xs, ds, rfl, rfl, ht, hds⟩ | ⟨ty, hn⟩
    · refine iteTb (show tyIs "tuple" "tuple" = true by decide) ?_
      refine ⟨_, rfl, _, _, rfl, .inr ⟨_, ht, rfl⟩, _, rfl, rfl, ?_⟩
      rw [dI, ← dats_len hds]
      exact k
    · refine iteFb ty ?_
      rw [tupJ_no hn] at k
      exact k
theorem ok_are_terms (T : Txt K mg) : Def P w K mg base 5 "are_terms" ["thing"] (sp_is K termsB) := by
  refine T.t_are_terms.ok sc_are_terms (fun vs H Q E h => ?_) fun f cdv A outer s H vs Q E hr h => ?_
  · obtain ⟨x, d, n, rfl, _⟩ := h
    rfl
  · obtain ⟨x, d, n, rfl, hd, hz, k⟩ := h
    refine ⟨_, (pss_one (ps_ret (pe_and (pe_def (ok_is_tuple_of_up_to T) hr rfl (pa_2 (pv 0) (pe_gI rfl T.c_MOST_VALUES))) (pe_one (pe_callB (call_allL rfl K) rfl T.b_all bt_all (pa_1 (pe_comp (N := ["part"]) (caps := [none]) rfl (by with_unfolding_all rfl) (pi_tupK K (pv 0)) (fun _ _ _ _ _ => (pg_name (i := 0) (show (["part"] : List Str).Nodup by decide +kernel) rfl (Or.inl rfl))) (fun _ _ _ _ _ => pf_nil) (fun _ _ _ _ _ => (pe_def (ok_is_term T) hr rfl (pa_1 (pv 0))))))))))), ?_⟩
    refine ⟨_, rfl, _, d, _, rfl, hd, _, rfl, ?_⟩
    rcases dat_tup2 hd with ⟨a, xs, ds, rfl, rfl, ht, hds⟩ | ⟨ty, hn⟩
    · obtain ⟨m, hl, hm⟩ := okD_tup hz
      have el := dats_len hds
      refine ite2 (fun h1 => ?_) (fun h1 => ?_)
      · have h1' : ds.length ≤ 4 := by
          have := of_decide_eq_true (show decide ((ds.length : Int) ≤ 4) = true from h1)
          omega
        refine ⟨_, rfl, a, rfl, ⟨_, ht⟩, fun D hD => ?_⟩
        refine comp_by xs.length (fun i σ' H' => (∃ v, σ' = [v]) ∧ Same H H' ∧ H' D = some (.lst (((ds.take i).map termB).map V.bl))) ⟨⟨_, rfl⟩, same_upd hD, upd_same⟩ (fun i σ' H' hi p => ?_) (fun σ' H' p => ⟨?_, ?_⟩) (fun i σ' H' hi p x H2 y => ?_)
        · obtain ⟨_, sm, _⟩ := p
          exact ⟨xs, xs[i], sm.seqT ht, List.getElem?_eq_getElem hi⟩
        · obtain ⟨_, sm, _⟩ := p
          exact ⟨xs, sm.seqT ht, Nat.le_refl _⟩
        · obtain ⟨_, sm, e⟩ := p
          refine ⟨D, ds.map termB, rfl, SqL.of (by rw [e, ← el, List.take_length]), ?_⟩
          have := k H' sm
          rw [termsB, upD, decide_eq_true h1', Bool.true_and] at this
          rw [List.all_map]
          exact this
        · obtain ⟨⟨v, rfl⟩, sm, e⟩ := p
          obtain ⟨rfl, hx⟩ := y
          obtain ⟨d, hdi, hdx⟩ := dats_get (Dats.same sm _ _ hds) (hx xs (sm.seqT ht))
          refine ⟨_, rfl, x, d, m, rfl, hdx, hm d (List.mem_of_getElem? hdi), fun H3 s3 => ⟨_, s3 _ _ e, ?_, ⟨_, rfl⟩, (sm.trans s3).set hD, ?_⟩⟩
          · rw [List.length_map, List.length_map, List.length_take]
            exact small1000 (by omega)
          · rw [upd_same, List.take_succ, hdi, List.map_append, List.map_append]
            rfl
      · have h1' : ¬ ds.length ≤ 4 := fun z => h1 (show decide ((ds.length : Int) ≤ 4) = true from decide_eq_true (by omega))
        have := k H (Same.refl H)
        rw [termsB, upD, decide_eq_false h1', Bool.false_and] at this
        exact this
    · refine iteFb (upJ_no hn) ?_
      have := k H (Same.refl H)
      have e : termsB d = false := by
        cases d with
        | tuple ds => exact absurd rfl (hn ds)
        | _ => rfl
      rw [e] at this
      exact this
theorem ok_is_atom (T : Txt K mg) : Def P w K mg base 6 "is_atom" ["thing"] (sp_is K atomB) := by
  refine T.t_is_atom.ok sc_is_atom (fun vs H Q E h => ?_) fun f cdv A outer s H vs Q E hr h => ?_
  · obtain ⟨x, d, n, rfl, _⟩ := h
    rfl
  · obtain ⟨x, d, n, rfl, hd, hz, k⟩ := h
    refine ⟨_, (pss_one (ps_ret (pe_and (pe_def (ok_is_tuple_of_just T) hr rfl (pa_2 (pv 0) pe_int)) (pe_and (pe_def (ok_is_word T) hr rfl (pa_1 (pe_ix (ix_tupK K) (pv 0) pe_int (fun _ _ => rfl)))) (pe_one (pe_def (ok_are_terms T) hr rfl (pa_1 (pe_ix (ix_tupK K) (pv 0) pe_int (fun _ _ => rfl))))))))), ?_⟩
    refine ⟨_, rfl, _, d, _, rfl, hd, _, rfl, ite2 (fun h1 => ?_) (fun h1 => ?_)⟩
    · rcases dat_tup2 hd with ⟨a, xs, ds, rfl, rfl, ht, hds⟩ | ⟨ty, hn⟩
      · have l2 : ds.length = 2 := by
          have := of_decide_eq_true (show decide ((ds.length : Int) = 2) = true from h1)
          omega
        obtain ⟨d1, d2, x1, x2, rfl, rfl, e1, e2⟩ := dats2 hds l2
        obtain ⟨m, _, hm⟩ := okD_tup hz
        refine ⟨_, rfl, _, _, _, _, rfl, rfl, ht, atI_nat (j := 0) rfl, _, d1, m, rfl, e1, hm _ (by simp), fun H1 s1 => ⟨_, rfl, ite2 (fun h2 => ?_) (fun h2 => ?_)⟩⟩
        · refine ⟨_, rfl, _, _, _, _, rfl, rfl, s1.seqT ht, atI_nat (j := 1) rfl, _, d2, m, rfl, Dat.same s1 _ _ e2, hm _ (by simp), fun H2 s2 => ?_⟩
          have := k H2 (s1.trans s2)
          rw [atomB, h2, Bool.true_and] at this
          exact this
        · have := k H1 s1
          rw [atomB, Bool.eq_false_iff.mpr h2, Bool.false_and] at this
          exact this
      · rw [tupJ_no hn] at h1
        cases h1
    · have := k H (Same.refl H)
      rw [atomB_no (Bool.eq_false_iff.mpr h1)] at this
      exact this
theorem ok_are_atoms (T : Txt K mg) : Def P w K mg base 7 "are_atoms" ["thing"] (sp_is K atomsB) := by
  refine T.t_are_atoms.ok sc_are_atoms (fun vs H Q E h => ?_) fun f cdv A outer s H vs Q E hr h => ?_
  · obtain ⟨x, d, n, rfl, _⟩ := h
    rfl
  · obtain ⟨x, d, n, rfl, hd, hz, k⟩ := h
    refine ⟨_, (pss_one (ps_ret (pe_and (pe_def (ok_is_tuple_of_up_to T) hr rfl (pa_2 (pv 0) (pe_gI rfl T.c_MOST_ATOMS))) (pe_one (pe_callB (call_allL rfl K) rfl T.b_all bt_all (pa_1 (pe_comp (N := ["part"]) (caps := [none]) rfl (by with_unfolding_all rfl) (pi_tupK K (pv 0)) (fun _ _ _ _ _ => (pg_name (i := 0) (show (["part"] : List Str).Nodup by decide +kernel) rfl (Or.inl rfl))) (fun _ _ _ _ _ => pf_nil) (fun _ _ _ _ _ => (pe_def (ok_is_atom T) hr rfl (pa_1 (pv 0))))))))))), ?_⟩
    refine ⟨_, rfl, _, d, _, rfl, hd, _, rfl, ?_⟩
    rcases dat_tup2 hd with ⟨a, xs, ds, rfl, rfl, ht, hds⟩ | ⟨ty, hn⟩
    · obtain ⟨m, hl, hm⟩ := okD_tup hz
      have el := dats_len hds
      refine ite2 (fun h1 => ?_) (fun h1 => ?_)
      · have h1' : ds.length ≤ 3 := by
          have := of_decide_eq_true (show decide ((ds.length : Int) ≤ 3) = true from h1)
          omega
        refine ⟨_, rfl, a, rfl, ⟨_, ht⟩, fun D hD => ?_⟩
        refine comp_by xs.length (fun i σ' H' => (∃ v, σ' = [v]) ∧ Same H H' ∧ H' D = some (.lst (((ds.take i).map atomB).map V.bl))) ⟨⟨_, rfl⟩, same_upd hD, upd_same⟩ (fun i σ' H' hi p => ?_) (fun σ' H' p => ⟨?_, ?_⟩) (fun i σ' H' hi p x H2 y => ?_)
        · obtain ⟨_, sm, _⟩ := p
          exact ⟨xs, xs[i], sm.seqT ht, List.getElem?_eq_getElem hi⟩
        · obtain ⟨_, sm, _⟩ := p
          exact ⟨xs, sm.seqT ht, Nat.le_refl _⟩
        · obtain ⟨_, sm, e⟩ := p
          refine ⟨D, ds.map atomB, rfl, SqL.of (by rw [e, ← el, List.take_length]), ?_⟩
          have := k H' sm
          rw [atomsB, upD, decide_eq_true h1', Bool.true_and] at this
          rw [List.all_map]
          exact this
        · obtain ⟨⟨v, rfl⟩, sm, e⟩ := p
          obtain ⟨rfl, hx⟩ := y
          obtain ⟨d, hdi, hdx⟩ := dats_get (Dats.same sm _ _ hds) (hx xs (sm.seqT ht))
          refine ⟨_, rfl, x, d, m, rfl, hdx, hm d (List.mem_of_getElem? hdi), fun H3 s3 => ⟨_, s3 _ _ e, ?_, ⟨_, rfl⟩, (sm.trans s3).set hD, ?_⟩⟩
          · rw [List.length_map, List.length_map, List.length_take]
            exact small1000 (by omega)
          · rw [upd_same, List.take_succ, hdi, List.map_append, List.map_append]
            rfl
      · have h1' : ¬ ds.length ≤ 3 := fun z => h1 (show decide ((ds.length : Int) ≤ 3) = true from decide_eq_true (by omega))
        have := k H (Same.refl H)
        rw [atomsB, upD, decide_eq_false h1', Bool.false_and] at this
        exact this
    · refine iteFb (upJ_no hn) ?_
      have := k H (Same.refl H)
      have e : atomsB d = false := by
        cases d with
        | tuple ds => exact absurd rfl (hn ds)
        | _ => rfl
      rw [e] at this
      exact this
theorem ok_is_choice (T : Txt K mg) : Def P w K mg base 5 "is_choice" ["thing"] (sp_is K choiceB) := by
  refine T.t_is_choice.ok sc_is_choice (fun vs H Q E h => ?_) fun f cdv A outer s H vs Q E hr h => ?_
  · obtain ⟨x, d, n, rfl, _⟩ := h
    rfl
  · obtain ⟨x, d, n, rfl, hd, hz, k⟩ := h
    refine ⟨_, (pss_one (ps_ret (pe_and (pe_def (ok_is_tuple_of_just T) hr rfl (pa_2 (pv 0) pe_int)) (pe_and (pe_cmpR (op_inTD hr.units K) (pe_ix (ix_tupK K) (pv 0) pe_int (fun _ _ => rfl)) (pe_globR rfl T.g_SIGNS) (by with_unfolding_all rfl)) (pe_and (pe_def (ok_is_term T) hr rfl (pa_1 (pe_ix (ix_tupK K) (pv 0) pe_int (fun _ _ => rfl)))) (pe_one (pe_def (ok_is_term T) hr rfl (pa_1 (pe_ix (ix_tupK K) (pv 0) pe_int (fun _ _ => rfl)))))))))), ?_⟩
    refine ⟨_, rfl, _, d, _, rfl, hd, _, rfl, ite2 (fun h1 => ?_) (fun h1 => ?_)⟩
    · rcases dat_tup2 hd with ⟨a, xs, ds, rfl, rfl, ht, hds⟩ | ⟨ty, hn⟩
      · have l3 : ds.length = 3 := by
          have := of_decide_eq_true (show decide ((ds.length : Int) = 3) = true from h1)
          omega
        obtain ⟨d1, d2, d3, x1, x2, x3, rfl, rfl, e1, e2, e3⟩ := dats3 hds l3
        obtain ⟨m, _, hm⟩ := okD_tup hz
        have ds3 : Dat K H (.tuple [.str "=", .str "!=", .str "<"]) (.ref (cA mg "SIGNS")) := .tup (T.q_SIGNS.sq H) (.cons (.str _ (by decide +kernel)) (.cons (.str _ (by decide +kernel)) (.cons (.str _ (by decide +kernel)) .nil)))
        refine ⟨_, rfl, _, _, _, _, rfl, rfl, ht, atI_nat (j := 0) rfl, d1, _, e1, ds3, by decide, _, rfl, ite2 (fun h2 => ?_) (fun h2 => ?_)⟩
        · refine ⟨_, rfl, _, _, _, _, rfl, rfl, ht, atI_nat (j := 1) rfl, _, d2, m, rfl, e2, hm _ (by simp), fun H1 s1 => ⟨_, rfl, ite2 (fun h3 => ?_) (fun h3 => ?_)⟩⟩
          · refine ⟨_, rfl, _, _, _, _, rfl, rfl, s1.seqT ht, atI_nat (j := 2) rfl, _, d3, m, rfl, Dat.same s1 _ _ e3, hm _ (by simp), fun H2 s2 => ?_⟩
            have := k H2 (s1.trans s2)
            rw [choiceB, show signB d1 = true from h2, h3, Bool.true_and, Bool.true_and] at this
            exact this
          · have := k H1 s1
            rw [choiceB, show signB d1 = true from h2, Bool.eq_false_iff.mpr h3, Bool.false_and, Bool.and_false] at this
            exact this
        · have := k H (Same.refl H)
          rw [choiceB, show signB d1 = false from Bool.eq_false_iff.mpr h2, Bool.false_and] at this
          exact this
      · rw [tupJ_no hn] at h1
        cases h1
    · have := k H (Same.refl H)
      rw [choiceB_no (Bool.eq_false_iff.mpr h1)] at this
      exact this
theorem ok_are_choices (T : Txt K mg) : Def P w K mg base 6 "are_choices" ["thing"] (sp_is K choicesB) := by
  refine T.t_are_choices.ok sc_are_choices (fun vs H Q E h => ?_) fun f cdv A outer s H vs Q E hr h => ?_
  · obtain ⟨x, d, n, rfl, _⟩ := h
    rfl
  · obtain ⟨x, d, n, rfl, hd, hz, k⟩ := h
    refine ⟨_, (pss_one (ps_ret (pe_and (pe_def (ok_is_tuple_of_up_to T) hr rfl (pa_2 (pv 0) (pe_gI rfl T.c_MOST_CHOICES))) (pe_one (pe_callB (call_allL rfl K) rfl T.b_all bt_all (pa_1 (pe_comp (N := ["part"]) (caps := [none]) rfl (by with_unfolding_all rfl) (pi_tupK K (pv 0)) (fun _ _ _ _ _ => (pg_name (i := 0) (show (["part"] : List Str).Nodup by decide +kernel) rfl (Or.inl rfl))) (fun _ _ _ _ _ => pf_nil) (fun _ _ _ _ _ => (pe_def (ok_is_choice T) hr rfl (pa_1 (pv 0))))))))))), ?_⟩
    refine ⟨_, rfl, _, d, _, rfl, hd, _, rfl, ?_⟩
    rcases dat_tup2 hd with ⟨a, xs, ds, rfl, rfl, ht, hds⟩ | ⟨ty, hn⟩
    · obtain ⟨m, hl, hm⟩ := okD_tup hz
      have el := dats_len hds
      refine ite2 (fun h1 => ?_) (fun h1 => ?_)
      · have h1' : ds.length ≤ 3 := by
          have := of_decide_eq_true (show decide ((ds.length : Int) ≤ 3) = true from h1)
          omega
        refine ⟨_, rfl, a, rfl, ⟨_, ht⟩, fun D hD => ?_⟩
        refine comp_by xs.length (fun i σ' H' => (∃ v, σ' = [v]) ∧ Same H H' ∧ H' D = some (.lst (((ds.take i).map choiceB).map V.bl))) ⟨⟨_, rfl⟩, same_upd hD, upd_same⟩ (fun i σ' H' hi p => ?_) (fun σ' H' p => ⟨?_, ?_⟩) (fun i σ' H' hi p x H2 y => ?_)
        · obtain ⟨_, sm, _⟩ := p
          exact ⟨xs, xs[i], sm.seqT ht, List.getElem?_eq_getElem hi⟩
        · obtain ⟨_, sm, _⟩ := p
          exact ⟨xs, sm.seqT ht, Nat.le_refl _⟩
        · obtain ⟨_, sm, e⟩ := p
          refine ⟨D, ds.map choiceB, rfl, SqL.of (by rw [e, ← el, List.take_length]), ?_⟩
          have := k H' sm
          rw [choicesB, upD, decide_eq_true h1', Bool.true_and] at this
          rw [List.all_map]
          exact this
        · obtain ⟨⟨v, rfl⟩, sm, e⟩ := p
          obtain ⟨rfl, hx⟩ := y
          obtain ⟨d, hdi, hdx⟩ := dats_get (Dats.same sm _ _ hds) (hx xs (sm.seqT ht))
          refine ⟨_, rfl, x, d, m, rfl, hdx, hm d (List.mem_of_getElem? hdi), fun H3 s3 => ⟨_, s3 _ _ e, ?_, ⟨_, rfl⟩, (sm.trans s3).set hD, ?_⟩⟩
          · rw [List.length_map, List.length_map, List.length_take]
            exact small1000 (by omega)
          · rw [upd_same, List.take_succ, hdi, List.map_append, List.map_append]
            rfl
      · have h1' : ¬ ds.length ≤ 3 := fun z => h1 (show decide ((ds.length : Int) ≤ 3) = true from decide_eq_true (by omega))
        have := k H (Same.refl H)
        rw [choicesB, upD, decide_eq_false h1', Bool.false_and] at this
        exact this
    · refine iteFb (upJ_no hn) ?_
      have := k H (Same.refl H)
      have e : choicesB d = false := by
        cases d with
        | tuple ds => exact absurd rfl (hn ds)
        | _ => rfl
      rw [e] at this
      exact this
end
end Wy
namespace Wy
open PySem L2
theorem cap_lt : ∀ c ∈ capS.cps.toList, c < 0x110000 := by decide +kernel
theorem fur_lt : ∀ c ∈ fur.cps.toList, c < 0x110000 := by decide +kernel
theorem strOk_of {z : Str} (h : ∀ c ∈ z.cps.toList, c < 0x110000) : PyData.strOk z = true := by
  unfold PyData.strOk
  rw [← Array.all_toList, List.all_eq_true]
  exact fun c hc => decide_eq_true (h c hc)
theorem txtB_parts {F z : Str} (h : txtB F z = true) : 1 ≤ z.length ∧ z.length ≤ 12 ∧ ∃ c r, z.cps.toList = c :: r ∧ c ∈ F.cps.toList ∧ ∀ d ∈ r, d ∈ fur.cps.toList := by
  by_cases hl : 1 ≤ z.length ∧ z.length ≤ 12
  · obtain ⟨c, r, e⟩ := split_list hl.1
    rw [txtB_ok hl.1 hl.2, e] at h
    have h' : (decide (c ∈ F.cps.toList) && r.all fun d => decide (d ∈ fur.cps.toList)) = true := h
    rw [Bool.and_eq_true, List.all_eq_true] at h'
    exact ⟨hl.1, hl.2, c, r, e, of_decide_eq_true h'.1, fun d hd => of_decide_eq_true (h'.2 d hd)⟩
  · rw [txtB_len hl] at h
    cases h
theorem txtB_str {F z : Str} (hF : ∀ c ∈ F.cps.toList, c < 0x110000) (h : txtB F z = true) : PyData.strOk z = true := by
  obtain ⟨_, _, c, r, e, hc, hr⟩ := txtB_parts h
  refine strOk_of fun d hd => ?_
  rw [e] at hd
  rcases List.mem_cons.mp hd with rfl | hd
  · exact hF _ hc
  · exact fur_lt d (hr d hd)
def var? : PyData → List Str
  | .str z => if txtB capS z = true then [z] else []
  | _ => []
def vnames (ds : List PyData) : List Str := ds.flatMap var?
theorem vn_ok {ds : List PyData} : ∀ z ∈ vnames ds, txtB capS z = true := fun z hz => by
  obtain ⟨d, _, h⟩ := List.mem_flatMap.mp hz
  unfold var? at h
  split at h
  · split at h
    · rw [List.mem_singleton.mp h]
      assumption
    · cases h
  · cases h
theorem vn_step {ds : List PyData} {i : Nat} {d : PyData} (h : ds[i]? = some d) : vnames (ds.take (i + 1)) = vnames (ds.take i) ++ var? d := by
  unfold vnames
  rw [List.take_succ, h, List.flatMap_append]
  congr 1
  show [d].flatMap var? = _
  rw [List.flatMap_cons, List.flatMap_nil, List.append_nil]
theorem vn_len (ds : List PyData) : (vnames ds).length ≤ ds.length := by
  induction ds with
  | nil => exact Nat.le_refl _
  | cons d ds ih =>
    have h1 : (var? d).length ≤ 1 := by
      unfold var?
      split
      · split
        · exact Nat.le_refl _
        · exact Nat.zero_le _
      · exact Nat.zero_le _
    unfold vnames at ih ⊢
    rw [List.flatMap_cons, List.length_append, List.length_cons]
    omega
def atomVars : PyData → List Str
  | .tuple [_, .tuple ts] => vnames ts
  | _ => []
def bodyVars (as : List PyData) : List Str := as.flatMap atomVars
theorem bv_ok {as : List PyData} : ∀ z ∈ bodyVars as, txtB capS z = true := fun z hz => by
  obtain ⟨d, _, h⟩ := List.mem_flatMap.mp hz
  unfold atomVars at h
  split at h
  · exact vn_ok z h
  · cases h
theorem bv_step {as : List PyData} {i : Nat} {d : PyData} (h : as[i]? = some d) : bodyVars (as.take (i + 1)) = bodyVars (as.take i) ++ atomVars d := by
  unfold bodyVars
  rw [List.take_succ, h, List.flatMap_append]
  congr 1
  show [d].flatMap atomVars = _
  rw [List.flatMap_cons, List.flatMap_nil, List.append_nil]
def knownB (ds : List PyData) (ks : List Str) : Bool := (vnames ds).all fun z => decide (z ∈ ks)
def chKnown (ks : List Str) : PyData → Bool
  | .tuple (_ :: r) => knownB r ks
  | _ => true
def parts : PyData → List PyData
  | .tuple ds => ds
  | _ => []
def headKnown (ks : List Str) : PyData → Bool
  | .tuple [_, .tuple ts] => knownB ts ks
  | _ => true
def ruleB : PyData → Bool
  | .tuple [h, b, c] => atomB h && (atomsB b && (choicesB c && (headKnown (bodyVars (parts b)) h && (parts c).all (chKnown (bodyVars (parts b))))))
  | _ => false
theorem ruleB_no {d : PyData} (h : tupJ d 3 = false) : ruleB d = false := by
  unfold ruleB
  split
  · exact absurd h (by unfold tupJ; simp)
  · rfl
theorem upD_parts {m : Nat} {f : PyData → Bool} {d : PyData} (h : upD m f d = true) : ∃ ds, d = .tuple ds ∧ ds.length ≤ m ∧ ∀ e ∈ ds, f e = true := by
  cases d with
  | tuple ds =>
    have h' : (decide (ds.length ≤ m) && ds.all f) = true := h
    rw [Bool.and_eq_true, List.all_eq_true] at h'
    exact ⟨ds, rfl, of_decide_eq_true h'.1, h'.2⟩
  | _ => cases h
theorem atomB_parts {d : PyData} (h : atomB d = true) : ∃ a ts, d = .tuple [a, .tuple ts] ∧ txtD small a = true ∧ ts.length ≤ 4 ∧ ∀ e ∈ ts, termB e = true := by
  unfold atomB at h
  split at h
  · rw [Bool.and_eq_true] at h
    obtain ⟨ts, rfl, l, ht⟩ := upD_parts h.2
    exact ⟨_, ts, rfl, h.1, l, ht⟩
  · cases h
theorem choiceB_parts {d : PyData} (h : choiceB d = true) : ∃ s a b, d = .tuple [s, a, b] ∧ signB s = true ∧ termB a = true ∧ termB b = true := by
  unfold choiceB at h
  split at h
  · rw [Bool.and_eq_true, Bool.and_eq_true] at h
    exact ⟨_, _, _, rfl, h⟩
  · cases h
theorem eqv_str (a b : Str) : PyData.eqv (.str a) (.str b) = decide (a = b) := by
  show (a == b) = _
  by_cases h : a = b <;> simp [h]
theorem any_str (ks : List Str) (z : Str) : ((ks.map PyData.str).any fun y => PyData.eqv y (.str z)) = decide (z ∈ ks) := by
  rw [Bool.eq_iff_iff, List.any_eq_true, decide_eq_true_iff]
  constructor
  · rintro ⟨y, hy, e⟩
    obtain ⟨k, hk, rfl⟩ := List.mem_map.mp hy
    rw [eqv_str] at e
    rw [← of_decide_eq_true e]
    exact hk
  · intro h
    exact ⟨.str z, List.mem_map_of_mem h, by rw [eqv_str]; simp⟩
section
variable {P : Program} {w : World} {K : PySem.W.Frag} {mg : Str → Option Value} {base : Heap}
theorem dats_strs {H : Hp} : ∀ {ks : List Str}, (∀ z ∈ ks, txtB capS z = true) → Dats K H (ks.map .str) (ks.map V.str)
  | [], _ => .nil
  | z :: ks, h => .cons (.str z (txtB_str cap_lt (h z (List.mem_cons_self ..)))) (dats_strs fun y hy => h y (List.mem_cons_of_mem _ hy))
theorem depth_strs (ks : List Str) : PyData.depthAll (ks.map .str) ≤ 0 := by
  induction ks with
  | nil => exact Nat.le_refl _
  | cons z ks ih => exact Nat.max_le.mpr ⟨Nat.le_refl _, ih⟩
def sp_vars (K : PySem.W.Frag) : Sp := fun vs H Q _ => ∃ (a : Addr) (xs : List V) (ds : List PyData) (n : Nat), vs = [.ref a] ∧ SqT K H a xs ∧ Dats K H ds xs ∧ ds.length ≤ 10 ∧ (∀ d ∈ ds, okD n d) ∧ ∀ L H', Same H H' → H L = none → H' L = some (.lst ((vnames ds).map V.str)) → Q (.ref L) H'
theorem ok_variables_in (T : Txt K mg) : Def P w K mg base 3 "variables_in" ["terms"] (sp_vars K) := by
  refine T.t_variables_in.ok sc_variables_in (fun vs H Q E h => ?_) fun f cdv A outer s H vs Q E hr h => ?_
  · obtain ⟨a, xs, ds, n, rfl, _⟩ := h
    rfl
  · obtain ⟨a, xs, ds, n, rfl, ht, hds, hl, hm, k⟩ := h
    have el := dats_len hds
    refine ⟨_, (pss_one (ps_ret (pe_comp (N := ["term"]) (caps := [none]) rfl (by with_unfolding_all rfl) (pi_tupK K (pv 0)) (fun _ _ _ _ _ => (pg_name (i := 0) (show (["term"] : List Str).Nodup by decide +kernel) rfl (Or.inl rfl))) (fun _ _ _ _ _ => pf_one (pt_val (pe_def (ok_is_var T) hr rfl (pa_1 (pv 0))))) (fun _ _ _ _ _ => (pv 0))))), ?_⟩
    refine ⟨_, rfl, a, rfl, ⟨_, ht⟩, fun D hD => ?_⟩
    refine comp_by xs.length (fun i σ' H' => (∃ v, σ' = [v]) ∧ Same H H' ∧ H' D = some (.lst ((vnames (ds.take i)).map V.str))) ⟨⟨_, rfl⟩, same_upd hD, upd_same⟩ (fun i σ' H' hi p => ?_) (fun σ' H' p => ⟨?_, ?_⟩) (fun i σ' H' hi p x H2 y => ?_)
    · obtain ⟨_, sm, _⟩ := p
      exact ⟨xs, xs[i], sm.seqT ht, List.getElem?_eq_getElem hi⟩
    · obtain ⟨_, sm, _⟩ := p
      exact ⟨xs, sm.seqT ht, Nat.le_refl _⟩
    · obtain ⟨_, sm, e⟩ := p
      rw [← el, List.take_length] at e
      exact k D H' sm hD e
    · obtain ⟨⟨v, rfl⟩, sm, e⟩ := p
      obtain ⟨rfl, hx⟩ := y
      obtain ⟨d, hdi, hdx⟩ := dats_get (Dats.same sm _ _ hds) (hx xs (sm.seqT ht))
      refine ⟨_, rfl, x, d, n, rfl, hdx, hm d (List.mem_of_getElem? hdi), fun H3 s3 => ⟨_, rfl, ite2 (fun h1 => ?_) (fun h1 => ?_)⟩⟩
      · rcases dat_str hdx with ⟨z, rfl, rfl⟩ | ⟨_, hn⟩
        · have ez : var? (.str z) = [z] := if_pos h1
          refine ⟨_, rfl, _, s3 _ _ e, ?_, ⟨_, rfl⟩, (sm.trans s3).set hD, ?_⟩
          · have := vn_len (ds.take i)
            rw [List.length_take] at this
            rw [List.length_map]
            exact small1000 (by omega)
          · rw [upd_same, vn_step hdi, ez, List.map_append]
            rfl
        · rw [hn] at h1
          cases h1
      · have ez : var? d = [] := by
          unfold var?
          split
          · exact if_neg h1
          · rfl
        refine ⟨⟨_, rfl⟩, sm.trans s3, ?_⟩
        rw [vn_step hdi, ez, List.append_nil]
        exact s3 _ _ e
def sp_bvars (K : PySem.W.Frag) : Sp := fun vs H Q _ => ∃ (x : V) (ds : List PyData) (n : Nat), vs = [x] ∧ Dat K H (.tuple ds) x ∧ okD n (.tuple ds) ∧ atomsB (.tuple ds) = true ∧ ∀ L H', Same H H' → H L = none → H' L = some (.lst ((bodyVars ds).map V.str)) → Q (.ref L) H'
theorem ok_variables_of_body (T : Txt K mg) : Def P w K mg base 4 "variables_of_body" ["body"] (sp_bvars K) := by
  refine T.t_variables_of_body.ok sc_variables_of_body (fun vs H Q E h => ?_) fun f cdv A outer s H vs Q E hr h => ?_
  · obtain ⟨x, ds, n, rfl, _⟩ := h
    rfl
  · obtain ⟨x, ds, n, rfl, hd, hz, hat, k⟩ := h
    obtain ⟨ds', e0, l3, hat⟩ := upD_parts hat
    cases e0
    obtain ⟨m, _, hm⟩ := okD_tup hz
    cases hd with
    | @tup a xs _ ht hds =>
      have el := dats_len hds
      refine ⟨_, (pss_3
      (ps_set (i := 1) sc_variables_of_body.nd rfl (Or.inl rfl) (pe_lst pa_nil))
      (ps_for PassesOwn.never rfl (pi_tupK K (pv 0)) (pg_tup rfl (pgs_cons (pg_name (i := 2) sc_variables_of_body.nd rfl (Or.inl rfl)) (pgs_cons (pg_name (i := 3) sc_variables_of_body.nd rfl (Or.inl rfl)) pgs_nil))) (pss_one (ps_expr (pe_bm PySem.F.plainAttrs_list PySem.F.slot_list_extend PySem.F.type_list_extend mt_extend (pv 1) (pa_1 (pe_def (ok_variables_in T) hr rfl (pa_1 (pv 3))))))))
      (ps_ret (pv 1))), ?_⟩
      refine ⟨by decide, fun L hL => ?_⟩
      have s1 := same_upd (o := HO.lst []) hL
      refine ⟨_, rfl, a, rfl, ⟨_, s1.seqT ht⟩, for_tup (xs := xs) (fun i σ H' => ∃ v2 v3 : Option V, σ = [some (.ref a), some (.ref L), v2, v3] ∧ Same H H' ∧ H' L = some (.lst ((bodyVars (ds.take i)).map V.str)) ∧ (bodyVars (ds.take i)).length ≤ 10 * i) ⟨none, none, rfl, s1, upd_same, Nat.le_refl _⟩ (fun i σ H' _ p => by obtain ⟨_, _, _, z, _⟩ := p; exact z.seqT ht) ?_ ?_⟩
      · rintro i x σ H1 hx ⟨v2, v3, rfl, sm, hl, lb⟩
        have hil := (List.getElem?_eq_some_iff.mp hx).1
        obtain ⟨d, hdi, hdx⟩ := dats_get hds hx
        obtain ⟨b, ts, rfl, _, l4, _⟩ := atomB_parts (hat d (List.mem_of_getElem? hdi))
        obtain ⟨m2, _, hm2⟩ := okD_tup (hm _ (List.mem_of_getElem? hdi))
        obtain ⟨m3, _, hm3⟩ := okD_tup (hm2 (.tuple ts) (by simp))
        cases hdx with
        | @tup p ys _ hp hys =>
          cases hys with
          | cons h1 hr =>
            cases hr with
            | cons h2 hr2 =>
              cases hr2
              cases h2 with
              | @tup q zs _ hq hzs =>
                refine ⟨p, _, rfl, sm.seqT hp, rfl, _, _, rfl, _, _, rfl, rfl, ?_⟩
                refine ⟨_, rfl, .inl ⟨rfl, _, SqL.of hl⟩, _, rfl, q, zs, ts, m3, rfl, sm.seqT hq, Dats.same sm _ _ hzs, by omega, hm3, fun L2 H2 s2 hL2 h2 => ?_⟩
                have vl := vn_len ts
                refine ⟨L, L2, _, _, rfl, rfl, s2 _ _ hl, h2, ?_, ?_⟩
                · rw [List.length_map, List.length_map]
                  exact Nat.le_trans (show _ ≤ 1000 by omega) (by decide)
                · refine ⟨_, _, rfl, (sm.trans s2).set hL, ?_, ?_⟩
                  · rw [upd_same, bv_step hdi, List.map_append]
                    rfl
                  · rw [bv_step hdi, List.length_append]
                    show _ + (vnames ts).length ≤ _
                    omega
      · rintro σ H1 ⟨v2, v3, rfl, sm, hl, lb⟩
        rw [← el, List.take_length] at hl
        exact ⟨_, rfl, k L H1 sm hL hl⟩
def sp_known (K : PySem.W.Frag) : Sp := fun vs H Q _ => ∃ (a L : Addr) (xs : List V) (ds : List PyData) (n : Nat) (ks : List Str), vs = [.ref a, .ref L] ∧ SqT K H a xs ∧ Dats K H ds xs ∧ ds.length ≤ 10 ∧ (∀ d ∈ ds, okD n d) ∧ H L = some (.lst (ks.map V.str)) ∧ (∀ z ∈ ks, txtB capS z = true) ∧ ∀ H', Same H H' → Q (.bl (knownB ds ks)) H'
theorem ok_are_known (T : Txt K mg) : Def P w K mg base 4 "are_known" ["terms", "known"] (sp_known K) := by
  refine T.t_are_known.ok sc_are_known (fun vs H Q E h => ?_) fun f cdv A outer s H vs Q E hr h => ?_
  · obtain ⟨a, L, xs, ds, n, ks, rfl, _⟩ := h
    rfl
  · obtain ⟨a, L, xs, ds, n, ks, rfl, ht, hds, hl, hm, hL, hks, k⟩ := h
    refine ⟨_, (pss_one (ps_ret (pe_callB (call_allL rfl K) rfl T.b_all bt_all (pa_1 (pe_comp (N := ["variable", "known"]) (caps := [none, some 1]) rfl (by with_unfolding_all rfl) (pi_listK K (pe_def (ok_variables_in T) hr rfl (pa_1 (pv 0)))) (fun _ _ _ _ _ => (pg_name (i := 0) (show (["variable", "known"] : List Str).Nodup by decide +kernel) rfl (Or.inl rfl))) (fun _ _ _ _ _ => pf_nil) (fun _ _ _ _ _ => (pe_cmpR (op_inLD hr.units K) (pv 0) (pv 1) (by with_unfolding_all rfl)))))))), ?_⟩
    refine ⟨_, rfl, a, xs, ds, n, rfl, ht, hds, hl, hm, fun V1 H1 s1 hV0 hV => ?_⟩
    have vl := vn_len ds
    refine ⟨V1, rfl, ⟨_, SqL.of hV⟩, fun D hD => ?_⟩
    refine comp_by ((vnames ds).map V.str).length (fun i σ' H' => (∃ v, σ' = [v, some (.ref L)]) ∧ Same H1 H' ∧ H' D = some (.lst ((((vnames ds).take i).map fun z => decide (z ∈ ks)).map V.bl))) ⟨⟨_, rfl⟩, same_upd hD, upd_same⟩ (fun i σ' H' hi p => ?_) (fun σ' H' p => ⟨?_, ?_⟩) (fun i σ' H' hi p x H2 y => ?_)
    · obtain ⟨_, sm, _⟩ := p
      exact ⟨_, _, SqL.of (sm _ _ hV), List.getElem?_eq_getElem hi⟩
    · obtain ⟨_, sm, _⟩ := p
      exact ⟨_, SqL.of (sm _ _ hV), Nat.le_refl _⟩
    · obtain ⟨_, sm, e⟩ := p
      rw [List.length_map, List.take_length] at e
      refine ⟨D, _, rfl, SqL.of e, ?_⟩
      have := k H' (s1.trans sm)
      rw [List.all_map]
      exact this
    · obtain ⟨⟨v, rfl⟩, sm, e⟩ := p
      obtain ⟨rfl, hx⟩ := y
      have hx' := hx _ (SqL.of (sm _ _ hV))
      rw [List.getElem?_map] at hx'
      obtain ⟨z, hz, rfl⟩ := Option.map_eq_some_iff.mp hx'
      have oz := vn_ok z (List.mem_of_getElem? hz)
      refine ⟨_, rfl, _, rfl, .str z, ks.map .str, .str z (txtB_str cap_lt oz), .lst (SqL.of (sm _ _ (s1 _ _ hL))) (dats_strs hks), Nat.le_trans (depth_strs ks) (by decide), ?_⟩
      rw [any_str]
      refine ⟨_, e, ?_, ⟨_, rfl⟩, sm.set hD, ?_⟩
      · rw [List.length_map, List.length_map, List.length_take]
        exact small1000 (by omega)
      · rw [upd_same, List.take_succ, hz, List.map_append, List.map_append]
        rfl
theorem ok_is_rule (T : Txt K mg) : Def P w K mg base 8 "is_rule" ["thing"] (sp_is K ruleB) := by
  refine T.t_is_rule.ok sc_is_rule (fun vs H Q E h => ?_) fun f cdv A outer s H vs Q E hr h => ?_
  · obtain ⟨x, d, n, rfl, _⟩ := h
    rfl
  · obtain ⟨x, d, n, rfl, hd, hz, k⟩ := h
    refine ⟨_, (pss_4
      (ps_if (pt_not (pt_val (pe_def (ok_is_tuple_of_just T) hr rfl (pa_2 (pv 0) pe_int)))) (pss_one (ps_ret pe_bl)) pss_nil)
      (ps_if (PW.pt (pw_or (pt_not (pt_val (pe_def (ok_is_atom T) hr rfl (pa_1 (pe_ix (ix_tupK K) (pv 0) pe_int (fun _ _ => rfl)))))) (pw_or (pt_not (pt_val (pe_def (ok_are_atoms T) hr rfl (pa_1 (pe_ix (ix_tupK K) (pv 0) pe_int (fun _ _ => rfl)))))) (pw_or1 (pt_not (pt_val (pe_def (ok_are_choices T) hr rfl (pa_1 (pe_ix (ix_tupK K) (pv 0) pe_int (fun _ _ => rfl)))))))))) (pss_one (ps_ret pe_bl)) pss_nil)
      (ps_set (i := 1) sc_is_rule.nd rfl (Or.inr rfl) (pe_def (ok_variables_of_body T) hr rfl (pa_1 (pe_ix (ix_tupK K) (pv 0) pe_int (fun _ _ => rfl)))))
      (ps_ret (pe_and (pe_def (ok_are_known T) hr rfl (pa_2 (pe_ix (ix_tupK K) (pe_ix (ix_tupK K) (pv 0) pe_int (fun _ _ => rfl)) pe_int (fun _ _ => rfl)) (pv 1))) (pe_one (pe_callB (call_allL rfl K) rfl T.b_all bt_all (pa_1 (pe_comp (N := ["choice", "known"]) (caps := [none, some 1]) rfl (by with_unfolding_all rfl) (pi_tupK K (pe_ix (ix_tupK K) (pv 0) pe_int (fun _ _ => rfl))) (fun _ _ _ _ _ => (pg_name (i := 0) (show (["choice", "known"] : List Str).Nodup by decide +kernel) rfl (Or.inl rfl))) (fun _ _ _ _ _ => pf_nil) (fun _ _ _ _ _ => (pe_def (ok_are_known T) hr rfl (pa_2 (pe_slice (sl_tupA K) (pv 0) (po_some pe_int) po_none) (pv 1))))))))))), ?_⟩
    refine ⟨_, rfl, _, d, _, rfl, hd, _, rfl, ite2 (fun h1 => ?_) (fun h1 => ?_)⟩
    · have := k H (Same.refl H)
      rw [ruleB_no (by simpa using h1)] at this
      exact this
    · rcases dat_tup2 hd with ⟨a, xs, ds, rfl, rfl, ht, hds⟩ | ⟨ty, hn⟩
      · have l3 : ds.length = 3 := by
          have : tupJ (.tuple ds) 3 = true := by simpa using h1
          have := of_decide_eq_true (show decide ((ds.length : Int) = 3) = true from this)
          omega
        obtain ⟨d1, d2, d3, x1, x2, x3, rfl, rfl, e1, e2, e3⟩ := dats3 hds l3
        obtain ⟨m, _, hm⟩ := okD_tup hz
        have k' : ∀ H', Same H H' → Q (.bl (atomB d1 && (atomsB d2 && (choicesB d3 && (headKnown (bodyVars (parts d2)) d1 && (parts d3).all (chKnown (bodyVars (parts d2)))))))) H' := k
        refine ⟨_, rfl, _, _, _, _, rfl, rfl, ht, atI_nat (j := 0) rfl, _, d1, m, rfl, e1, hm _ (by simp), fun H1 s1 => ⟨_, rfl, ?_⟩⟩
        cases b1 : atomB d1 with
        | false =>
          refine iteT (iteT ?_)
          have := k' H1 s1
          rw [b1, Bool.false_and] at this
          exact this
        | true =>
          refine iteF ?_
          refine ⟨_, rfl, _, _, _, _, rfl, rfl, s1.seqT ht, atI_nat (j := 1) rfl, _, d2, m, rfl, Dat.same s1 _ _ e2, hm _ (by simp), fun H2 s2 => ⟨_, rfl, ?_⟩⟩
          have t2 := s1.trans s2
          cases b2 : atomsB d2 with
          | false =>
            refine iteT (iteT ?_)
            have := k' H2 t2
            rw [b1, b2, Bool.true_and, Bool.false_and] at this
            exact this
          | true =>
            refine iteF ?_
            refine ⟨_, rfl, _, _, _, _, rfl, rfl, t2.seqT ht, atI_nat (j := 2) rfl, _, d3, m, rfl, Dat.same t2 _ _ e3, hm _ (by simp), fun H3 s3 => ⟨_, rfl, ?_⟩⟩
            have t3 := t2.trans s3
            cases b3 : choicesB d3 with
            | false =>
              refine iteT ?_
              have := k' H3 t3
              rw [b1, b2, b3, Bool.true_and, Bool.true_and, Bool.false_and] at this
              exact this
            | true =>
              refine iteF ?_
              rw [b1, b2, b3, Bool.true_and, Bool.true_and, Bool.true_and] at k'
              obtain ⟨as, rfl, la, _⟩ := upD_parts b2
              obtain ⟨cs, rfl, lc, hcs⟩ := upD_parts b3
              obtain ⟨tb, ts, rfl, _, lts, _⟩ := atomB_parts b1
              have k' : ∀ H', Same H H' → Q (.bl (knownB ts (bodyVars as) && cs.all (chKnown (bodyVars as)))) H' := k'
              refine ⟨_, rfl, _, _, _, _, rfl, rfl, t3.seqT ht, atI_nat (j := 1) rfl, _, as, m, rfl, Dat.same t3 _ _ e2, hm _ (by simp), b2, fun L H4 s4 hL0 hL => ?_⟩
              have t4 := t3.trans s4
              obtain ⟨m2, _, hm2⟩ := okD_tup (hm (.tuple [tb, .tuple ts]) (by simp))
              obtain ⟨m3, _, hm3⟩ := okD_tup (hm2 (.tuple ts) (by simp))
              obtain ⟨m4, _, hm4⟩ := okD_tup (hm (.tuple cs) (by simp))
              cases e1 with
              | @tup p1 ys _ hp hys =>
                cases hys with
                | cons y1 hr1 =>
                  cases hr1 with
                  | cons y2 hr2 =>
                    cases hr2
                    cases y2 with
                    | @tup q1 zs _ hq hzs =>
                      cases e3 with
                      | @tup c1 ws _ hc hcw =>
                        have el := dats_len hcw
                        refine ⟨_, rfl, _, _, _, _, rfl, rfl, t4.seqT ht, atI_nat (j := 0) rfl, _, _, _, _, rfl, rfl, t4.seqT hp, atI_nat (j := 1) rfl, _, rfl, q1, L, zs, ts, m3, bodyVars as, rfl, t4.seqT hq, Dats.same t4 _ _ hzs, by omega, hm3, hL, bv_ok, fun H5 s5 => ⟨_, rfl, ?_⟩⟩
                        have t5 := t4.trans s5
                        cases b5 : knownB ts (bodyVars as) with
                        | false =>
                          refine iteF ?_
                          have := k' H5 t5
                          rw [b5, Bool.false_and] at this
                          exact this
                        | true =>
                          refine iteT ?_
                          refine ⟨_, rfl, _, _, _, _, rfl, rfl, t5.seqT ht, atI_nat (j := 2) rfl, c1, rfl, ⟨_, t5.seqT hc⟩, fun D hD => ?_⟩
                          refine comp_by ws.length (fun i σ' H' => (∃ v, σ' = [v, some (.ref L)]) ∧ Same H5 H' ∧ H' D = some (.lst (((cs.take i).map (chKnown (bodyVars as))).map V.bl))) ⟨⟨_, rfl⟩, same_upd hD, upd_same⟩ (fun i σ' H' hi p => ?_) (fun σ' H' p => ⟨?_, ?_⟩) (fun i σ' H' hi p x H6 y => ?_)
                          · obtain ⟨_, sm, _⟩ := p
                            exact ⟨_, _, (t5.trans sm).seqT hc, List.getElem?_eq_getElem hi⟩
                          · obtain ⟨_, sm, _⟩ := p
                            exact ⟨_, (t5.trans sm).seqT hc, Nat.le_refl _⟩
                          · obtain ⟨_, sm, e⟩ := p
                            rw [← el, List.take_length] at e
                            refine ⟨D, _, rfl, SqL.of e, ?_⟩
                            have := k' H' (t5.trans sm)
                            rw [b5, Bool.true_and] at this
                            rw [List.all_map]
                            exact this
                          · obtain ⟨⟨v, rfl⟩, sm, e⟩ := p
                            obtain ⟨rfl, hx⟩ := y
                            have t6 := t5.trans sm
                            obtain ⟨d, hdi, hdx⟩ := dats_get (Dats.same t6 _ _ hcw) (hx ws (t6.seqT hc))
                            obtain ⟨s0, a0, b0, rfl, _⟩ := choiceB_parts (hcs d (List.mem_of_getElem? hdi))
                            obtain ⟨m5, _, hm5⟩ := okD_tup (hm4 _ (List.mem_of_getElem? hdi))
                            cases hdx with
                            | @tup p2 us _ hp2 hus =>
                              cases hus with
                              | cons u1 ur =>
                                cases ur with
                                | cons u2 ur2 =>
                                  cases ur2 with
                                  | cons u3 ur3 =>
                                    cases ur3
                                    refine ⟨_, rfl, _, rfl, _, _, rfl, hp2, fun q2 H7 s7 hq2 => ?_⟩
                                    refine ⟨_, rfl, q2, L, _, [a0, b0], m5, bodyVars as, rfl, hq2, Dats.same s7 _ _ (.cons u2 (.cons u3 .nil)), by show 2 ≤ 10; decide, (fun d hd => hm5 d (by simp at hd ⊢; exact .inr hd)), (s5.trans (sm.trans s7)) _ _ hL, bv_ok, fun H8 s8 => ?_⟩
                                    have sm8 := sm.trans (s7.trans s8)
                                    refine ⟨_, (s7.trans s8) _ _ e, ?_, ⟨_, rfl⟩, sm8.set hD, ?_⟩
                                    · rw [List.length_map, List.length_map, List.length_take]
                                      exact small1000 (by omega)
                                    · rw [upd_same, List.take_succ, hdi, List.map_append, List.map_append]
                                      rfl
      · have : tupJ d 3 = false := tupJ_no hn
        exact absurd (by rw [this]; rfl) h1
end
end Wy
namespace Wy
open PySem L2
theorem def_imp {P : Program} {w : World} {K : PySem.W.Frag} {mg : Str → Option Value} {base : Heap} {k : Nat} {x : Str} {ps : List Str} {sp sp' : Sp} (D : Def P w K mg base k x ps sp) (h : ∀ vs H Q E, sp' vs H Q E → sp vs H Q E) : Def P w K mg base k x ps sp' := by
  obtain ⟨f, fd, F, r⟩ := D.ex
  exact ⟨f, fd, F.imp h, r⟩
def sp_wd (fs : Str) : Sp := fun vs H Q _ => ∃ z, vs = [.str z] ∧ PyData.strOk z = true ∧ z.length ≤ 20000 ∧ ∀ H', Same H H' → Q (.bl (txtB fs z)) H'
section
variable {P : Program} {w : World} {K : PySem.W.Frag} {mg : Str → Option Value} {base : Heap}
theorem okW_is_word (T : Txt K mg) : Def P w K mg base 2 "is_word" ["thing"] (sp_wd small) := def_imp (ok_is_word T) fun vs H Q E ⟨z, e, ho, hl, k⟩ => ⟨.str z, .str z, 0, e, .str z ho, hl, k⟩
theorem okW_is_var (T : Txt K mg) : Def P w K mg base 2 "is_var" ["thing"] (sp_wd capS) := def_imp (ok_is_var T) fun vs H Q E ⟨z, e, ho, hl, k⟩ => ⟨.str z, .str z, 0, e, .str z ho, hl, k⟩
end
end Wy
namespace Wy
open PySem L2
theorem vin {a b : Int} (h : ¬ decide (V.int a = V.int b) = true) : a ≠ b := fun e => h (decide_eq_true (congrArg V.int e))
end Wy
namespace Wy
open PySem L2
theorem app_list (a b : Str) : (a ++ b).cps.toList = a.cps.toList ++ b.cps.toList := by
  show (a.cps ++ b.cps).toList = _
  rw [Array.toList_append]
theorem len_app (a b : Str) : (a ++ b).length = a.length + b.length := by
  show (a.cps ++ b.cps).size = a.cps.size + b.cps.size
  exact Array.size_append
theorem cut_mem {z : Str} {lo hi : Option Int} {c : Nat} (h : c ∈ (cutS z lo hi).cps.toList) : c ∈ z.cps.toList := by
  unfold cutS at h
  rw [List.toList_toArray] at h
  exact List.mem_of_mem_drop (List.mem_of_mem_take h)
theorem paired_snoc {α β : Type} {F : α → β → Prop} {x : α} {y : β} : ∀ {xs : List α} {ys : List β}, Paired F xs ys → F x y → Paired F (xs ++ [x]) (ys ++ [y])
  | _, _, .nil, h => .cons h .nil
  | _, _, .cons a b, h => .cons a (paired_snoc b h)
end Wy
namespace Wy
open PySem L2
theorem at_ints {ns : List Int} {k : Nat} (h : k < ns.length) : atI (ns.map V.int) (k : Int) = some (V.int (ns.getD k 0)) := by
  rw [getD_lt h]
  exact atI_nat (by rw [List.getElem?_map, List.getElem?_eq_getElem h]; rfl)
end Wy
namespace Wy
open PySem L2
theorem cut_drop (xs : List V) (n : Nat) (h : n ≤ xs.length) : cutV xs (some (n : Int)) none = xs.drop n := by
  unfold cutV
  rw [HT.sIx_nat, HT.sIx_none, Nat.min_eq_left h, List.take_of_length_le (by rw [List.length_drop]; exact Nat.le_refl _)]
section
variable {P : Program} {w : World} {K : PySem.W.Frag} {mg : Str → Option Value} {base : Heap}
def sp_stream : Sp := fun vs H Q _ => ∃ c m : Int, vs = [.int c, .int m] ∧ 0 ≤ m ∧ m ≤ 100 ∧ ∀ p (ns : List Int) H', Same H H' → H' p = some (.lst (ns.map V.int)) → ns.length = m.toNat → H p = none → (∀ n ∈ ns, 0 ≤ n ∧ n < 2147483647) → Q (.ref p) H'
theorem ok__law_stream (T : Txt K mg) : Def P w K mg base 1 "_law_stream" ["_law_cell", "_law_many"] sp_stream := by
  refine T.t__law_stream.ok sc__law_stream (fun vs H Q E h => ?_) fun f cdv A outer s H vs Q E hr h => ?_
  · obtain ⟨c, m, rfl, _⟩ := h
    rfl
  · obtain ⟨c, m, rfl, m0, m1, k⟩ := h
    refine ⟨_, (pss_4
      (ps_set (i := 2) sc__law_stream.nd rfl (Or.inl rfl) (pe_op op_add pe_int (pe_op op_mod (pv 0) pe_int)))
      (ps_set (i := 3) sc__law_stream.nd rfl (Or.inl rfl) (pe_lst pa_nil))
      (ps_for PassesOwn.never rfl (pi_range1 rfl T.b_range (pa_1 (pe_op op_add (pv 1) pe_int))) (pg_name (i := 4) sc__law_stream.nd rfl (Or.inl rfl)) (pss_2
      (ps_set (i := 2) sc__law_stream.nd rfl (Or.inl rfl) (pe_op op_mod (pe_op op_mul (pv 2) pe_int) pe_int))
      (ps_expr (pe_bm PySem.F.plainAttrs_list PySem.F.slot_list_append PySem.F.type_list_append mt_append (pv 3) (pa_1 (pv 2))))))
      (ps_ret (pe_slice (sl_listK K) (pv 3) (po_some pe_int) po_none))), ?_⟩
    refine ⟨_, rfl, _, _, rfl, rfl, (by show (0 : Int) < 2147483646; decide), _, _, rfl, rfl, ?_⟩
    refine ⟨by decide, fun p hp => ?_⟩
    refine ⟨_, rfl, _, _, rfl, rfl, _, rfl, by omega, by omega, for_range (lo := 0) (n := (m + 2).toNat) (fun i σ H' => ∃ (kk : Option V) (n : Int) (ns : List Int), σ = [some (.int c), some (.int m), some (.int n), some (.ref p), kk] ∧ H' = upd H p (.lst (ns.map V.int)) ∧ ns.length = i ∧ ∀ x ∈ ns, 0 ≤ x ∧ x < 2147483647)
      ⟨none, _, [], rfl, rfl, rfl, fun _ z => nomatch z⟩ ?_ ?_⟩
    · rintro i σ H' hi ⟨kk, n, ns, rfl, rfl, hl, hn⟩
      refine ⟨_, rfl, _, _, rfl, rfl, .inr ⟨by decide, by decide⟩, _, _, rfl, rfl, (by show (0 : Int) < 2147483647; decide), ?_⟩
      refine ⟨_, rfl, .inl ⟨rfl, _, SqL.of upd_same⟩, _, rfl, _, _, _, rfl, rfl, upd_same, by rw [List.length_map, hl]; exact small1000 (by omega), ?_⟩
      refine ⟨_, _, ns ++ [n * 48271 % 2147483647], rfl, ?_, by rw [List.length_append, hl]; rfl, fun x hx => ?_⟩
      · rw [upd_upd, List.map_append]
        rfl
      · rcases List.mem_append.mp hx with hx | hx
        · exact hn x hx
        · rw [List.mem_singleton.mp hx]
          exact ⟨Int.emod_nonneg _ (by decide), Int.emod_lt_of_pos _ (by decide)⟩
    · rintro σ H' ⟨kk, n, ns, rfl, rfl, hl, hn⟩
      refine ⟨_, rfl, _, rfl, _, _, rfl, SqL.of upd_same, fun q hq => ?_⟩
      have e : cutV (ns.map V.int) (some 2) none = (ns.drop 2).map V.int := by
        have := cut_drop (ns.map V.int) 2 (by rw [List.length_map]; omega)
        rw [List.map_drop]
        exact this
      rw [e]
      have s1 := same_upd (o := HO.lst (ns.map V.int)) hp
      exact k q (ns.drop 2) _ (s1.trans (same_upd hq)) upd_same (by rw [List.length_drop]; omega) (s1.free hq) fun x hx => hn x (List.mem_of_mem_drop hx)
end
end Wy
namespace Wy
open PySem L2
theorem len_fur : fur.length = 36 := by decide +kernel
def Wz (n : Nat) (z : Str) : Prop := z.length ≤ n ∧ ∀ c ∈ z.cps.toList, c ∈ fur.cps.toList
theorem Wz.ok {n : Nat} {z : Str} (h : Wz n z) : PyData.strOk z = true := strOk_of fun c hc => fur_lt c (h.2 c hc)
theorem Wz.cut {n : Nat} {z : Str} (h : Wz n z) (lo hi : Option Int) : Wz n (cutS z lo hi) := ⟨Nat.le_trans (cutS_length z lo hi) h.1, fun c hc => h.2 c (cut_mem hc)⟩
theorem Wz.app {n m : Nat} {z y : Str} (h : Wz n z) (k : Wz m y) : Wz (n + m) (z ++ y) := ⟨by rw [len_app]; exact Nat.add_le_add h.1 k.1, fun c hc => by
  rw [app_list] at hc
  exact (List.mem_append.mp hc).elim (h.2 c) (k.2 c)⟩
theorem Wz.one {c : Nat} (h : c ∈ fur.cps.toList) : Wz 1 ⟨#[c]⟩ := ⟨Nat.le_refl _, fun d hd => by
  have : d = c := by simpa using hd
  subst this
  exact h⟩
theorem Wz.le {n m : Nat} {z : Str} (h : Wz n z) (k : n ≤ m) : Wz m z := ⟨Nat.le_trans h.1 k, h.2⟩
theorem Wz.size {n : Nat} {z : Str} (h : Wz n z) (k : n ≤ 1000) : z.length ≤ sizeLine := Nat.le_trans (Nat.le_trans h.1 k) (by decide)
theorem one_len (d : Nat) : (⟨#[d]⟩ : Str).length ≤ 1 := Nat.le_refl _
theorem fur_at (c : Int) {m : Int} (h0 : 0 < m) (h1 : m ≤ 36) : ∃ d, atI fur.cps.toList (c % m) = some d ∧ d ∈ fur.cps.toList :=
  atI_in (Int.emod_nonneg _ (by omega)) (by rw [len_list, len_fur]; have := Int.emod_lt_of_pos c h0; omega)
theorem fur_size : fur.length ≤ sizeLine := by rw [len_fur]; decide
section
variable {P : Program} {w : World} {K : PySem.W.Frag} {mg : Str → Option Value} {base : Heap}
end
end Wy
namespace Wy
open PySem L2
theorem cut_pos {z : Str} {m : Int} (h1 : 1 ≤ z.length) (hm : 1 ≤ m) : 1 ≤ (cutS z none (some m)).length := by
  obtain ⟨k, rfl⟩ := Int.eq_ofNat_of_zero_le (show 0 ≤ m by omega)
  have hk : 1 ≤ k := by omega
  show 1 ≤ (cutS z none (some (k : Int))).cps.size
  rw [← Array.length_toList]
  unfold cutS
  rw [HT.sIx_nat, HT.sIx_none, List.toList_toArray, List.length_take, List.length_drop, len_list]
  omega
end Wy
namespace Wy
open PySem L2
def Ws (z : Str) : Prop := ∀ c r, z.cps.toList = c :: r → c ∈ small.cps.toList
theorem ws_nil : Ws "" := fun c r h => by
  have : (("" : Str).cps.toList : List Nat) = [] := by decide +kernel
  rw [this] at h
  cases h
theorem ws_one {d : Nat} (h : d ∈ small.cps.toList) : Ws ⟨#[d]⟩ := fun c r e => by
  injection (show [d] = c :: r from e) with e1 e2
  subst e1
  exact h
theorem nil_str {z : Str} (h : z.cps.toList = []) : z = "" := by
  cases z with | mk a =>
    have ha : a.toList = [] := h
    have : a = #[] := Array.toList_eq_nil_iff.mp ha
    subst this
    decide +kernel
theorem ws_app {a b : Str} (h : Ws a) (k : a.cps.toList = [] → Ws b) : Ws (a ++ b) := fun c r e => by
  rw [app_list] at e
  cases ea : a.cps.toList with
  | nil =>
    rw [ea, List.nil_append] at e
    exact k ea c r e
  | cons x xs =>
    rw [ea, List.cons_append] at e
    injection e with e1 _
    subst e1
    exact h _ _ ea
theorem ws_cut {z : Str} {hi : Option Int} (h : Ws z) : Ws (cutS z none hi) := fun c r e => by
  unfold cutS at e
  rw [List.toList_toArray, HT.sIx_none, List.drop_zero, Nat.sub_zero] at e
  cases ez : z.cps.toList with
  | nil => rw [ez, List.take_nil] at e; cases e
  | cons x xs =>
    rw [ez] at e
    cases n : HT.sIx z.length z.length hi with
    | zero => rw [n, List.take_zero] at e; cases e
    | succ m =>
      rw [n, List.take_succ_cons] at e
      injection e with e1 _
      subst e1
      exact h _ _ ez
theorem app_ne (a : Str) (d : Nat) : (a ++ (⟨#[d]⟩ : Str)).cps.toList ≠ [] := fun e => by
  rw [app_list] at e
  exact absurd (List.append_eq_nil_iff.mp e).2 (by intro z; cases z)
theorem cut_ne {z : Str} {m : Int} (h1 : 1 ≤ z.length) (hm : 1 ≤ m) : (cutS z none (some m)).cps.toList ≠ [] := fun e => by
  have := cut_pos h1 hm
  rw [← len_list, e] at this
  exact absurd this (by decide)
theorem cut_last {y : Str} (h : 1 ≤ y.length) : (cutS y none (some (-1))).length ≤ y.length - 1 := by
  rw [← len_list]
  unfold cutS
  rw [List.toList_toArray, List.length_take, HT.sIx_none, List.drop_zero, Nat.sub_zero]
  refine Nat.le_trans (Nat.min_le_left _ _) ?_
  have : HT.sIx y.length y.length (some (-1)) = y.length - 1 := by
    unfold HT.sIx
    simp
    omega
  omega
theorem cut_upl (z : Str) {m : Int} (h : 0 ≤ m) : ((cutS z none (some m)).length : Int) ≤ m := by
  obtain ⟨k, rfl⟩ := Int.eq_ofNat_of_zero_le h
  rw [← len_list]
  unfold cutS
  rw [List.toList_toArray, List.length_take, HT.sIx_none, HT.sIx_nat, List.drop_zero, Nat.sub_zero]
  have := Nat.min_le_left (min k z.length) z.cps.toList.length
  have := Nat.min_le_left k z.length
  omega
theorem cut_midl (z : Str) {lo hi : Int} (h0 : 0 ≤ lo) (h1 : lo ≤ hi) : ((cutS z (some lo) (some hi)).length : Int) ≤ hi - lo := by
  obtain ⟨a, rfl⟩ := Int.eq_ofNat_of_zero_le h0
  obtain ⟨b, rfl⟩ := Int.eq_ofNat_of_zero_le (Int.le_trans h0 h1)
  rw [← len_list]
  unfold cutS
  rw [List.toList_toArray, List.length_take, HT.sIx_nat, HT.sIx_nat]
  have := Nat.min_le_left (min b z.length - min a z.length) (z.cps.toList.drop (min a z.length)).length
  omega
theorem fur26 : ∀ k : Nat, k < 26 → ∃ d, fur.cps.toList[k]? = some d ∧ d ∈ small.cps.toList := by decide +kernel
theorem fur_at26 (c : Int) : ∃ d, atI fur.cps.toList (c % 26) = some d ∧ d ∈ fur.cps.toList ∧ d ∈ small.cps.toList := by
  have h0 : 0 ≤ c % 26 := Int.emod_nonneg _ (by decide)
  have h1 : c % 26 < 26 := Int.emod_lt_of_pos _ (by decide)
  obtain ⟨k, hk⟩ := Int.eq_ofNat_of_zero_le h0
  rw [hk]
  obtain ⟨d, hd, hs⟩ := fur26 k (by omega)
  exact ⟨d, atI_nat hd, List.mem_of_getElem? hd, hs⟩
theorem txt_of {z : Str} (h : Wz 12 z) (h1 : 1 ≤ z.length) (hs : Ws z) : txtB small z = true := by
  rw [txtB_ok h1 h.1]
  obtain ⟨c, r, e⟩ := split_list h1
  rw [e]
  show (decide _ && _) = true
  rw [decide_eq_true (hs c r e), Bool.true_and]
  exact List.all_eq_true.mpr fun d hd => decide_eq_true (h.2 d (by rw [e]; exact List.mem_cons_of_mem _ hd))
section
variable {P : Program} {w : World} {K : PySem.W.Frag} {mg : Str → Option Value} {base : Heap}
def sp_gwordT : Sp := fun vs H Q _ => ∃ c m : Int, vs = [.int c, .int m] ∧ 1 ≤ m ∧ m ≤ 40 ∧ ∀ z H', Same H H' → Wz m.toNat z → z.length = m.toNat → Ws z → Q (.str z) H'
theorem okF__law_word (T : Txt K mg) : Def P w K mg base 2 "_law_word" ["_law_cell", "_law_size"] sp_gwordT := by
  refine T.t__law_word.ok sc__law_word (fun vs H Q E h => ?_) fun f cdv A outer s H vs Q E hr h => ?_
  · obtain ⟨c, m, rfl, _⟩ := h
    rfl
  · obtain ⟨c, m, rfl, m0, m1, k⟩ := h
    refine ⟨_, (pss_4
      (ps_set (i := 2) sc__law_word.nd rfl (Or.inl rfl) pe_str)
      (ps_set (i := 3) sc__law_word.nd rfl (Or.inl rfl) pe_str)
      (ps_for PassesOwn.never rfl (pi_listK K (pe_def (ok__law_stream T) hr rfl (pa_2 (pv 0) (pv 1)))) (pg_name (i := 4) sc__law_word.nd rfl (Or.inl rfl)) (pss_one (ps_if (pt_cmpR op_eq (pv 3) pe_str (nomark _)) (pss_one (ps_set (i := 3) sc__law_word.nd rfl (Or.inl rfl) (pe_ix ix_str (pv 2) (pe_op op_mod (pv 4) pe_int) (fun _ _ => rfl)))) (pss_one (ps_set (i := 3) sc__law_word.nd rfl (Or.inl rfl) (pe_op op_add_str (pv 3) (pe_ix ix_str (pv 2) (pe_op op_mod (pv 4) pe_int) (fun _ _ => rfl))))))))
      (ps_ret (pv 3))), ?_⟩
    refine ⟨_, rfl, _, rfl, c, m, rfl, by omega, by omega, fun p ns H1 s1 hp hl _ hn => ?_⟩
    refine ⟨p, rfl, ⟨_, SqL.of hp⟩, for_list (xs := ns.map V.int) (fun i σ H' => H' = H1 ∧ ∃ (v : Option V) (z : Str), σ = [some (.int c), some (.int m), some (.str fur), some (.str z), v] ∧ Wz i z ∧ z.length = i ∧ Ws z) ⟨rfl, _, "", rfl, ⟨Nat.le_refl _, fun c hc => nomatch hc⟩, rfl, ws_nil⟩ (fun i σ H' _ z => by rw [z.1]; exact SqL.of hp) ?_ ?_⟩
    · rintro i x σ H' hx ⟨rfl, v, z, rfl, hw, hz, hs⟩
      rw [List.getElem?_map] at hx
      obtain ⟨n, hni, rfl⟩ := Option.map_eq_some_iff.mp hx
      have il : i < ns.length := (List.getElem?_eq_some_iff.mp hni).1
      refine ⟨_, rfl, rfl, _, rfl, ite2 (fun h1 => ?_) (fun h1 => ?_)⟩
      · obtain ⟨d, hd, hds, hsm⟩ := fur_at26 n
        have e : z = "" := by
          have := of_decide_eq_true h1
          injection this
        have i0 : i = 0 := by rw [← hz, e]; rfl
        refine ⟨_, rfl, _, rfl, _, _, rfl, rfl, (by show (0 : Int) < 26; decide), _, _, d, rfl, rfl, fur_size, hd, ?_⟩
        exact ⟨rfl, _, _, rfl, (Wz.one hds).le (by omega), by rw [i0]; rfl, ws_one hsm⟩
      · obtain ⟨d, hd, hds⟩ := fur_at n (m := 36) (by decide) (by decide)
        refine ⟨_, rfl, _, rfl, _, rfl, _, _, rfl, rfl, (by show (0 : Int) < 36; decide), _, _, d, rfl, rfl, fur_size, hd, _, _, rfl, rfl, ?_, ?_⟩
        · exact Nat.le_trans (Nat.add_le_add (Nat.le_of_eq hz) (one_len d)) (Nat.le_trans (show i + 1 ≤ 1000 by omega) (by decide))
        · exact ⟨rfl, _, _, rfl, hw.app (Wz.one hds), by rw [len_app, hz]; rfl, ws_app hs fun e => absurd (show decide (V.str z = V.str "") = true from decide_eq_true (congrArg V.str (nil_str e))) h1⟩
    · rintro σ H' ⟨rfl, v, z, rfl, hw, hz, hs⟩
      rw [List.length_map, hl] at hw hz
      exact ⟨_, rfl, k z _ s1 hw hz hs⟩
def sp_wordsT : Sp := fun vs H Q _ => ∃ c m : Int, vs = [.int c, .int m] ∧ 0 ≤ m ∧ m ≤ 20 ∧ ∀ p (ws : List Str) H', Same H H' → H' p = some (.lst (ws.map V.str)) → ws.length = m.toNat → H p = none → (∀ z ∈ ws, Wz 12 z ∧ 1 ≤ z.length ∧ Ws z) → Q (.ref p) H'
theorem okF__law_words (T : Txt K mg) : Def P w K mg base 3 "_law_words" ["_law_cell", "_law_many"] sp_wordsT := by
  refine T.t__law_words.ok sc__law_words (fun vs H Q E h => ?_) fun f cdv A outer s H vs Q E hr h => ?_
  · obtain ⟨c, m, rfl, _⟩ := h
    rfl
  · obtain ⟨c, m, rfl, m0, m1, k⟩ := h
    refine ⟨_, (pss_8
      (ps_set (i := 2) sc__law_words.nd rfl (Or.inl rfl) pe_str)
      (ps_set (i := 3) sc__law_words.nd rfl (Or.inl rfl) (pe_def (ok__law_stream T) hr rfl (pa_2 (pv 0) pe_int)))
      (ps_set (i := 4) sc__law_words.nd rfl (Or.inl rfl) (pe_def (okF__law_word T) hr rfl (pa_2 (pv 0) pe_int)))
      (ps_set (i := 5) sc__law_words.nd rfl (Or.inl rfl) (pe_op op_add pe_int (pe_op op_mod (pe_ix (ix_listK K) (pv 3) pe_int (fun _ _ => rfl)) pe_int)))
      (ps_set (i := 6) sc__law_words.nd rfl (Or.inl rfl) (pe_op op_mod (pe_ix (ix_listK K) (pv 3) pe_int (fun _ _ => rfl)) (pv 5)))
      (ps_set (i := 7) sc__law_words.nd rfl (Or.inl rfl) (pe_lst pa_nil))
      (ps_for PassesOwn.never rfl (pi_range1 rfl T.b_range (pa_1 (pv 1))) (pg_name (i := 8) sc__law_words.nd rfl (Or.inl rfl)) (pss_one (ps_if (pt_cmpR op_eq (pe_op op_mod (pe_ix (ix_listK K) (pv 3) pe_int (fun _ _ => rfl)) pe_int) pe_int (nomark _)) (pss_2
      (ps_set (i := 9) sc__law_words.nd rfl (Or.inl rfl) (pe_def (okF__law_word T) hr rfl (pa_2 (pe_op op_add (pe_ix (ix_listK K) (pv 3) pe_int (fun _ _ => rfl)) (pe_op op_mul pe_int (pv 8))) (pe_op op_add pe_int (pe_op op_mod (pe_op op_add (pe_ix (ix_listK K) (pv 3) pe_int (fun _ _ => rfl)) (pe_op op_mul pe_int (pv 8))) pe_int)))))
      (ps_expr (pe_bm PySem.F.plainAttrs_list PySem.F.slot_list_append PySem.F.type_list_append mt_append (pv 7) (pa_1 (pe_op op_add_str (pe_slice sl_str (pv 9) po_none (po_some (pe_un un_neg pe_int))) (pe_ix ix_str (pv 2) (pe_op op_mod (pe_op op_add (pe_ix (ix_listK K) (pv 3) pe_int (fun _ _ => rfl)) (pv 8)) pe_int) (fun _ _ => rfl))))))) (pss_one (ps_if (pt_cmpR op_eq (pe_op op_mod (pe_ix (ix_listK K) (pv 3) pe_int (fun _ _ => rfl)) pe_int) pe_int (nomark _)) (pss_one (ps_expr (pe_bm PySem.F.plainAttrs_list PySem.F.slot_list_append PySem.F.type_list_append mt_append (pv 7) (pa_1 (pe_slice sl_str (pv 4) po_none (po_some (pe_op op_add pe_int (pe_op op_mod (pe_op op_add (pe_ix (ix_listK K) (pv 3) pe_int (fun _ _ => rfl)) (pv 8)) pe_int)))))))) (pss_3
      (ps_set (i := 10) sc__law_words.nd rfl (Or.inl rfl) (pe_ix ix_str (pv 2) (pe_op op_mod (pe_op op_add (pe_ix (ix_listK K) (pv 3) pe_int (fun _ _ => rfl)) (pv 8)) pe_int) (fun _ _ => rfl)))
      (ps_if (pt_cmpR op_eq (pv 6) pe_int (nomark _)) (pss_one (ps_set (i := 10) sc__law_words.nd rfl (Or.inl rfl) (pe_ix ix_str (pv 2) (pe_op op_mod (pe_op op_add (pe_ix (ix_listK K) (pv 3) pe_int (fun _ _ => rfl)) (pv 8)) pe_int) (fun _ _ => rfl)))) pss_nil)
      (ps_expr (pe_bm PySem.F.plainAttrs_list PySem.F.slot_list_append PySem.F.type_list_append mt_append (pv 7) (pa_1 (pe_op op_add_str (pe_op op_add_str (pe_slice sl_str (pv 4) po_none (po_some (pv 6))) (pv 10)) (pe_slice sl_str (pv 4) (po_some (pe_op op_add (pv 6) pe_int)) (po_some (pv 5)))))))))))))
      (ps_ret (pv 7))), ?_⟩
    refine ⟨_, rfl, c, 4, rfl, by decide, by decide, fun p ns H1 s1 hp hl _ hn => ?_⟩
    refine ⟨_, rfl, c, 12, rfl, by decide, by decide, fun z H2 s2 hz hzl hzs => ?_⟩
    have hp2 := s2 _ _ hp
    have hl4 : ns.length = 4 := hl
    have a0 : atI (ns.map V.int) 0 = some (V.int (ns.getD 0 0)) := at_ints (k := 0) (by omega)
    have a1 : atI (ns.map V.int) 1 = some (V.int (ns.getD 1 0)) := at_ints (k := 1) (by omega)
    have a2 : atI (ns.map V.int) 2 = some (V.int (ns.getD 2 0)) := at_ints (k := 2) (by omega)
    have a3 : atI (ns.map V.int) 3 = some (V.int (ns.getD 3 0)) := at_ints (k := 3) (by omega)
    generalize ns.getD 0 0 = n0 at *
    generalize ns.getD 1 0 = n1 at *
    generalize ns.getD 2 0 = n2 at *
    generalize ns.getD 3 0 = n3 at *
    refine ⟨_, rfl, _, _, _, _, rfl, rfl, SqL.of hp2, a0, _, _, rfl, rfl, (by show (0 : Int) < 12; decide), _, _, rfl, rfl, ?_⟩
    refine ⟨_, rfl, _, _, _, _, rfl, rfl, SqL.of hp2, a1, _, rfl, _, _, rfl, rfl, (by show (0 : Int) < 1 + n0 % 12; omega), ?_⟩
    refine ⟨by decide, fun q hq => ?_⟩
    have s3 := same_upd (o := HO.lst []) hq
    have sz : z.length ≤ sizeLine := hz.size (by decide)
    refine ⟨_, rfl, _, rfl, by omega, by omega, for_range (lo := 0) (n := m.toNat) (fun i σ H' => Same H2 H' ∧ (∃ ws : List Str, H' q = some (.lst (ws.map V.str)) ∧ ws.length = i ∧ ∀ y ∈ ws, Wz 12 y ∧ 1 ≤ y.length ∧ Ws y) ∧ ∃ (v1 v2 v3 : Option V), σ = [some (.int c), some (.int m), some (.str fur), some (.ref p), some (.str z), some (.int (1 + n0 % 12)), some (.int (n1 % (1 + n0 % 12))), some (.ref q), v1, v2, v3])
      ⟨s3, ⟨[], upd_same, rfl, fun _ z => nomatch z⟩, _, _, _, rfl⟩ ?_ ?_⟩
    · rintro i σ H' hi ⟨sm, ⟨ws, hw, wl, hwz⟩, v1, v2, v3, rfl⟩
      have hp3 := sm _ _ hp2
      have lw : ws.length < sizeLine := by rw [wl]; exact small1000 (by omega)
      have fin : ∀ (y : Str) (H3 : Hp), Same H' H3 → Wz 12 y → 1 ≤ y.length → Ws y → Same H2 (upd H3 q (.lst (ws.map V.str ++ [V.str y]))) ∧ ∃ ws' : List Str, upd H3 q (.lst (ws.map V.str ++ [V.str y])) q = some (.lst (ws'.map V.str)) ∧ ws'.length = i + 1 ∧ ∀ x ∈ ws', Wz 12 x ∧ 1 ≤ x.length ∧ Ws x := fun y H3 s4 hy hy1 hys => by
        refine ⟨(sm.trans s4).set hq, ws ++ [y], by rw [upd_same, List.map_append]; rfl, by rw [List.length_append, wl]; rfl, fun x hx => ?_⟩
        rcases List.mem_append.mp hx with hx | hx
        · exact hwz x hx
        · rw [List.mem_singleton.mp hx]
          exact ⟨hy, hy1, hys⟩
      refine ⟨_, rfl, _, _, _, _, rfl, rfl, SqL.of hp3, a2, _, _, rfl, rfl, (by show (0 : Int) < 4; decide), rfl, _, rfl, ite2 (fun h1 => ?_) (fun h1 => ?_)⟩
      · refine ⟨_, rfl, _, _, _, _, rfl, rfl, SqL.of hp3, a3, _, rfl, _, _, rfl, rfl, .inl ⟨by decide, by decide⟩, _, _, rfl, rfl, _, rfl, _, _, _, _, rfl, rfl, SqL.of hp3, a1, _, rfl, _, _, rfl, rfl, .inl ⟨by decide, by decide⟩, _, _, rfl, rfl, _, _, rfl, rfl, (by show (0 : Int) < 12; decide), _, _, rfl, rfl, _, _, rfl, by omega, by omega, fun y H3 s4 hy hyl hys => ?_⟩
        obtain ⟨d, hd, hds, hsm⟩ := fur_at26 (n0 + (0 + (i : Int)))
        have hy12 : Wz 12 y := hy.le (by omega)
        have yz : y.length ≤ sizeLine := hy12.size (by decide)
        have cy := hy12.cut none (some (-1))
        refine ⟨_, rfl, .inl ⟨rfl, _, SqL.of (s4 _ _ hw)⟩, _, rfl, _, rfl, _, rfl, _, rfl, yz, _, rfl, _, rfl, _, _, _, _, rfl, rfl, SqL.of (s4 _ _ hp3), a0, _, rfl, _, _, rfl, rfl, _, _, rfl, rfl, (by show (0 : Int) < 26; decide), _, _, d, rfl, rfl, fur_size, hd, _, _, rfl, rfl, Nat.le_trans (Nat.add_le_add cy.1 (one_len d)) (by decide), ?_⟩
        refine ⟨_, _, _, rfl, rfl, s4 _ _ hw, by rw [List.length_map]; exact lw, ?_⟩
        obtain ⟨f1, f2⟩ := fin _ H3 s4 ⟨by rw [len_app]; exact Nat.le_trans (Nat.add_le_add (cut_last (by omega)) (one_len d)) (by have := hy12.1; omega), (cy.app (Wz.one hds)).2⟩ (by rw [len_app]; exact Nat.le_add_left 1 _) (ws_app (ws_cut hys) fun _ => ws_one hsm)
        exact ⟨f1, f2, _, _, _, rfl⟩
      · refine ⟨_, rfl, _, _, _, _, rfl, rfl, SqL.of hp3, a2, _, _, rfl, rfl, (by show (0 : Int) < 4; decide), rfl, _, rfl, ite2 (fun h2 => ?_) (fun h2 => ?_)⟩
        · have cz := hz.cut none (some (1 + (n0 + (0 + (i : Int))) % 12))
          refine ⟨_, rfl, .inl ⟨rfl, _, SqL.of hw⟩, _, rfl, _, rfl, _, _, _, _, rfl, rfl, SqL.of hp3, a0, _, rfl, _, _, rfl, rfl, _, _, rfl, rfl, (by show (0 : Int) < 12; decide), _, _, rfl, rfl, _, rfl, _, rfl, sz, ?_⟩
          refine ⟨_, _, _, rfl, rfl, hw, by rw [List.length_map]; exact lw, ?_⟩
          obtain ⟨f1, f2⟩ := fin _ H' (Same.refl _) cz (cut_pos (by omega) (by omega)) (ws_cut hzs)
          exact ⟨f1, f2, _, _, _, rfl⟩
        · obtain ⟨d, hd, hds⟩ := fur_at (n3 + (0 + (i : Int))) (m := 36) (by decide) (by decide)
          obtain ⟨d', hd', hds', hsm'⟩ := fur_at26 (n3 + (0 + (i : Int)))
          have n10 : 0 ≤ n1 % (1 + n0 % 12) := Int.emod_nonneg _ (by omega)
          have n11 : n1 % (1 + n0 % 12) < 1 + n0 % 12 := Int.emod_lt_of_pos _ (by omega)
          have le3 : ∀ x : Nat, (cutS z none (some (n1 % (1 + n0 % 12))) ++ (⟨#[x]⟩ : Str) ++ cutS z (some (n1 % (1 + n0 % 12) + 1)) (some (1 + n0 % 12))).length ≤ 12 := fun x => by
            rw [len_app, len_app]
            have q1 := cut_upl z n10
            have q2 := cut_midl z (lo := n1 % (1 + n0 % 12) + 1) (hi := 1 + n0 % 12) (by omega) (by omega)
            have q3 := one_len x
            omega
          have c1 := hz.cut none (some (n1 % (1 + n0 % 12)))
          have c2 := hz.cut (some (n1 % (1 + n0 % 12) + 1)) (some (1 + n0 % 12))
          refine ⟨_, rfl, _, rfl, _, _, _, _, rfl, rfl, SqL.of hp3, a3, _, rfl, _, _, rfl, rfl, _, _, rfl, rfl, (by show (0 : Int) < 36; decide), _, _, d, rfl, rfl, fur_size, hd, ?_⟩
          refine ⟨_, rfl, rfl, _, rfl, ite2 (fun h3 => ?_) (fun h3 => ?_)⟩
          · refine ⟨_, rfl, _, rfl, _, _, _, _, rfl, rfl, SqL.of hp3, a3, _, rfl, _, _, rfl, rfl, _, _, rfl, rfl, (by show (0 : Int) < 26; decide), _, _, d', rfl, rfl, fur_size, hd', ?_⟩
            have ca := c1.app (Wz.one hds')
            refine ⟨_, rfl, .inl ⟨rfl, _, SqL.of hw⟩, _, rfl, _, rfl, _, rfl, _, rfl, sz, _, rfl, _, _, rfl, rfl, Nat.le_trans (Nat.add_le_add c1.1 (one_len d')) (by decide), ?_⟩
            refine ⟨_, rfl, _, rfl, _, _, rfl, rfl, _, rfl, _, rfl, _, rfl, _, rfl, sz, _, _, rfl, rfl, Nat.le_trans (Nat.add_le_add ca.1 c2.1) (by decide), ?_⟩
            refine ⟨_, _, _, rfl, rfl, hw, by rw [List.length_map]; exact lw, ?_⟩
            obtain ⟨f1, f2⟩ := fin _ H' (Same.refl _) ⟨le3 d', (ca.app c2).2⟩ (by rw [len_app, len_app]; exact Nat.le_trans (Nat.le_add_left 1 _) (Nat.le_add_right _ _)) (ws_app (ws_app (ws_cut hzs) fun _ => ws_one hsm') fun e => absurd e (app_ne _ _))
            exact ⟨f1, f2, _, _, _, rfl⟩
          · have ca := c1.app (Wz.one hds)
            refine ⟨_, rfl, .inl ⟨rfl, _, SqL.of hw⟩, _, rfl, _, rfl, _, rfl, _, rfl, sz, _, rfl, _, _, rfl, rfl, Nat.le_trans (Nat.add_le_add c1.1 (one_len d)) (by decide), ?_⟩
            refine ⟨_, rfl, _, rfl, _, _, rfl, rfl, _, rfl, _, rfl, _, rfl, _, rfl, sz, _, _, rfl, rfl, Nat.le_trans (Nat.add_le_add ca.1 c2.1) (by decide), ?_⟩
            refine ⟨_, _, _, rfl, rfl, hw, by rw [List.length_map]; exact lw, ?_⟩
            obtain ⟨f1, f2⟩ := fin _ H' (Same.refl _) ⟨le3 d, (ca.app c2).2⟩ (by rw [len_app, len_app]; exact Nat.le_trans (Nat.le_add_left 1 _) (Nat.le_add_right _ _)) (ws_app (ws_app (ws_cut hzs) fun e => absurd e (cut_ne (by omega) (by have := vin h3; omega))) fun e => absurd e (app_ne _ _))
            exact ⟨f1, f2, _, _, _, rfl⟩
    · rintro σ H' ⟨sm, ⟨ws, hw, wl, hwz⟩, v1, v2, v3, rfl⟩
      exact ⟨_, rfl, k q ws H' ((s1.trans s2).trans sm) hw wl ((s1.trans s2).free hq) hwz⟩
end
end Wy
namespace Wy
open PySem L2
def figS : Str := "0123456789"
def figB (z : Str) : Bool := decide (1 ≤ z.length) && decide (z.length ≤ 60) && z.cps.toList.all fun d => decide (d ∈ figS.cps.toList)
def TmOk : Key → Prop
  | .inl i => i.natAbs < 10 ^ 60
  | .inr z => (txtB small z = true ∨ txtB capS z = true) ∧ PyData.strOk z = true
theorem txtB_le {fs z : Str} (h : txtB fs z = true) : 1 ≤ z.length ∧ z.length ≤ 12 := by
  unfold txtB at h
  simp at h
  omega
theorem shown_le : ∀ {k : Key}, TmOk k → 1 ≤ (shownK k).length ∧ (shownK k).length ≤ 61
  | .inl i, h => ⟨(num_len h).2, (num_len h).1⟩
  | .inr z, h => by
    rcases h.1 with q | q <;> have := txtB_le q <;> exact ⟨this.1, by show z.length ≤ 61; omega⟩
theorem fig_not (fs : Str) (hf : ∀ c ∈ fs.cps.toList, 65 ≤ c) (i : Int) : txtB fs (shownK (.inl i)) = false := by
  have key : ∀ c r, (shownK (.inl i)).cps.toList = c :: r → c < 65 := fun c r e => by
    rcases num_two i with ⟨m, _, q⟩ | ⟨m, _, _, q⟩
    · have := digits_all m c (by rw [← q, e]; exact List.mem_cons_self ..)
      omega
    · rw [q] at e
      injection e with e1 _
      omega
  unfold txtB
  cases e : (shownK (.inl i)).cps.toList with
  | nil => simp [signsOk]
  | cons c r =>
    have h1 : ¬ c ∈ fs.cps.toList := fun h => by
      have := hf c h
      have := key c r e
      omega
    simp [signsOk, h1]
theorem small_ge : ∀ c ∈ small.cps.toList, 65 ≤ c := by decide +kernel
theorem caps_ge : ∀ c ∈ capS.cps.toList, 65 ≤ c := by decide +kernel
theorem figs_in : ∀ c : Nat, 48 ≤ c → c ≤ 57 → c ∈ figS.cps.toList := by
  intro c h1 h2
  have : ∀ k : Nat, k < 10 → k + 48 ∈ figS.cps.toList := by decide +kernel
  have := this (c - 48) (by omega)
  rwa [show c - 48 + 48 = c from by omega] at this
theorem figB_digits {z : Str} {m : Nat} (h : m < 10 ^ 60) (e : z.cps.toList = (Nat.toDigits 10 m).map Char.toNat) : figB z = true := by
  have l1 := digits_len 59 m h
  have l2 : z.length = (Nat.toDigits 10 m).length := by rw [← str_len, e, List.length_map]
  have l3 : 1 ≤ z.length := by
    have := digits_ne m
    rw [← e] at this
    rw [← str_len]
    cases q : z.cps.toList with
    | nil => rw [q] at this; exact absurd rfl this
    | cons a b => simp
  unfold figB
  rw [decide_eq_true l3, decide_eq_true (show z.length ≤ 60 by omega), Bool.true_and, Bool.true_and, List.all_eq_true]
  intro c hc
  rw [e] at hc
  have := digits_all m c hc
  exact decide_eq_true (figs_in c this.1 this.2)
section
variable {P : Program} {w : World} {K : PySem.W.Frag} {mg : Str → Option Value} {base : Heap}
def sp_ask : Sp := fun vs H Q _ => vs = [.bl true] ∧ Q .non H
theorem ok_ask_written (T : Txt K mg) : Def P w K mg base 1 "ask_written" ["truth"] sp_ask := by
  refine T.t_ask_written.ok sc_ask_written (fun vs H Q E h => ?_) fun f cdv A outer s H vs Q E hr h => ?_
  · obtain ⟨rfl, _⟩ := h
    rfl
  · obtain ⟨rfl, k⟩ := h
    refine ⟨_, (pss_one (ps_if (pt_not (pt_val (pv 0))) (pss_one ps_no) pss_nil)), ?_⟩
    exact ⟨_, rfl, _, rfl, iteFb rfl k⟩
theorem ok_ask_text (T : Txt K mg) : Def P w K mg base 2 "ask_text" ["thing"] (fun vs H Q _ => ∃ z, vs = [.str z] ∧ Q .non H) := by
  refine T.t_ask_text.ok sc_ask_text (fun vs H Q E h => ?_) fun f cdv A outer s H vs Q E hr h => ?_
  · obtain ⟨z, rfl, _⟩ := h
    rfl
  · obtain ⟨z, rfl, k⟩ := h
    refine ⟨_, (pss_one (ps_expr (pe_def (ok_ask_written T) hr rfl (pa_1 (pe_callB (call_isi K) rfl T.b_isinstance bt_isinstance (pa_2 (pv 0) (pe_ty rfl T.b_str bt_str))))))), ?_⟩
    exact ⟨_, rfl, _, _, "str", rfl, .str _, by decide, by decide, rfl, k⟩
def sp_figs : Sp := fun vs H Q _ => ∃ z, vs = [.str z] ∧ z.length ≤ 20000 ∧ ∀ H', Same H H' → Q (.bl (figB z)) H'
theorem ok_are_figures (T : Txt K mg) : Def P w K mg base 1 "are_figures" ["text"] sp_figs := by
  refine T.t_are_figures.ok sc_are_figures (fun vs H Q E h => ?_) fun f cdv A outer s H vs Q E hr h => ?_
  · obtain ⟨z, rfl, _⟩ := h
    rfl
  · obtain ⟨z, rfl, hz, k⟩ := h
    have hsl : z.length ≤ sizeLine := Nat.le_trans hz (by decide)
    refine ⟨_, (pss_one (ps_ret (pe_and (pe_chain op_le op_le pe_int (pe_callB (call_lenK K) rfl T.b_len bt_len (pa_1 (pv 0))) (pe_gI rfl T.c_MOST_FIGURES)) (pe_one (pe_callB (call_allL rfl K) rfl T.b_all bt_all (pa_1 (pe_comp (N := ["sign"]) (caps := [none]) rfl (by with_unfolding_all rfl) (pi_str (pv 0)) (fun _ _ _ _ _ => (pg_name (i := 0) (show (["sign"] : List Str).Nodup by decide +kernel) rfl (Or.inl rfl))) (fun _ _ _ _ _ => pf_nil) (fun _ _ _ _ _ => (pe_cmpR op_in_str (pv 0) (pe_gS rfl T.c_FIGURES) (by with_unfolding_all rfl)))))))))), ?_⟩
    have no : ¬ (1 ≤ z.length ∧ z.length ≤ 60) → figB z = false := fun q => by
      unfold figB
      by_cases h1 : 1 ≤ z.length
      · have h2 : ¬ z.length ≤ 60 := fun q2 => q ⟨h1, q2⟩
        simp [h2]
      · simp [h1]
    refine ⟨_, rfl, _, _, rfl, ⟨hsl, rfl⟩, _, _, rfl, rfl, _, rfl, ite2 (fun h1 => ?_) (fun h1 => ?_)⟩
    · refine ⟨_, _, rfl, rfl, _, rfl, ite2 (fun h2 => ?_) (fun h2 => ?_)⟩
      · have l1 : 1 ≤ z.length := by simp at h1; omega
        have l2 : z.length ≤ 60 := by simp at h2; omega
        have hl := str_len z
        have et : figB z = z.cps.toList.all fun d => decide (d ∈ figS.cps.toList) := by
          unfold figB
          rw [decide_eq_true l1, decide_eq_true l2]
          rfl
        generalize hr' : z.cps.toList = r at *
        have esz : z.cps.size = r.length := by rw [← hr', Array.length_toList]
        refine ⟨_, rfl, _, rfl, fun D hD => ?_⟩
        refine comp_by r.length (fun i σ' H' => (∃ v, σ' = [v]) ∧ H' = upd H D (.lst ((r.take i).map fun c => V.bl (decide (c ∈ figS.cps.toList))))) ⟨⟨_, rfl⟩, rfl⟩ (fun i σ' H' hi _ => by show i < _; rw [esz]; exact hi) (fun σ' H' p => ⟨esz.symm, ?_⟩) (fun i σ' H' hi p x H2 y => ?_)
        · obtain ⟨_, rfl⟩ := p
          refine ⟨D, r.map fun c => decide (c ∈ figS.cps.toList), rfl, SqL.of (by rw [upd_same, List.take_length, List.map_map]; rfl), ?_⟩
          have := k (upd H D (.lst ((r.take r.length).map fun c => V.bl (decide (c ∈ figS.cps.toList))))) (same_upd hD)
          rw [et] at this
          rw [List.all_map]
          exact this
        · obtain ⟨⟨v, rfl⟩, rfl⟩ := p
          obtain ⟨rfl, c', hc, rfl⟩ := y
          have hc' : r[i]? = some c' := by rw [← hr', Array.getElem?_toList]; exact hc
          refine ⟨_, rfl, _, _, rfl, rfl, _, upd_same, ?_, ⟨_, rfl⟩, ?_⟩
          · rw [List.length_map, List.length_take]
            exact small1000 (by omega)
          · rw [upd_upd, StrLaws.found_one, List.take_succ, hc', List.map_append]
            rfl
      · have := k H (Same.refl H)
        rw [no fun q => by simp at h2; omega] at this
        exact this
    · have := k H (Same.refl H)
      rw [no fun q => by simp at h1; omega] at this
      exact ⟨_, rfl, this⟩
def NumT (z : Str) : Prop := ∃ y : Str, figB y = true ∧ ((z.cps.toList.head? ≠ some 45 ∧ y = z) ∨ z.cps.toList = 45 :: y.cps.toList) ∧ (z = "0" ∨ y.cps.toList.head? ≠ some 48)
theorem cut_one {z : Str} {c : Nat} {r : List Nat} (h : z.cps.toList = c :: r) : (cutS z (some 1) none).cps.toList = r := by
  rw [cut_tail (by rw [← str_len, h]; simp), h]
  rfl
def sp_wnum : Sp := fun vs H Q _ => ∃ z, vs = [.str z] ∧ z.length ≤ 20000 ∧ NumT z ∧ ∀ H', Same H H' → Q (.bl true) H'
theorem ok_is_written_number (T : Txt K mg) : Def P w K mg base 2 "is_written_number" ["text"] sp_wnum := by
  refine T.t_is_written_number.ok sc_is_written_number (fun vs H Q E h => ?_) fun f cdv A outer s H vs Q E hr h => ?_
  · obtain ⟨z, rfl, _⟩ := h
    rfl
  · obtain ⟨z, rfl, hz, ⟨y, hy, hzy, h0⟩, k⟩ := h
    have hsl : z.length ≤ sizeLine := Nat.le_trans hz (by decide)
    obtain ⟨d, r, ey⟩ : ∃ d r, y.cps.toList = d :: r := by
      cases e : y.cps.toList with
      | nil =>
        have : y.length = 0 := by rw [← str_len, e]; rfl
        unfold figB at hy
        rw [this] at hy
        simp at hy
      | cons d r => exact ⟨d, r, rfl⟩
    have hm : ("-" : Str) = ⟨#[45]⟩ := by decide +kernel
    have h48 : ("0" : Str) = ⟨#[48]⟩ := by decide +kernel
    refine ⟨_, (pss_2
      (ps_set (i := 1) sc_is_written_number.nd rfl (Or.inl rfl) (pe_ifExp (pt_val (pe_bm PySem.F.plainAttrs_str PySem.F.slot_str_startswith PySem.F.type_str_startswith mt_startswith (pv 0) (pa_1 pe_str))) (pe_slice sl_str (pv 0) (po_some pe_int) po_none) (pv 0)))
      (ps_ret (pe_and (pe_def (ok_are_figures T) hr rfl (pa_1 (pv 1))) (pe_one (pe_or (pe_cmpR op_eq (pv 0) pe_str (nomark _)) (pe_one (pe_cmpR op_ne (pe_ix ix_str (pv 1) pe_int (fun _ _ => rfl)) pe_str (nomark _)))))))), ?_⟩
    have hyl : y.length ≤ 20000 := by
      rcases hzy with ⟨_, e⟩ | e
      · rw [e]; exact hz
      · have h1 : z.length = y.length + 1 := by rw [← str_len, ← str_len, e]; rfl
        omega
    have hd : z ≠ "0" → d ≠ 48 := fun q e => by
      rcases h0 with h0 | h0
      · exact q h0
      · rw [ey, e] at h0
        exact h0 rfl
    have atd : atI y.cps.toList 0 = some d := by rw [ey]; exact atI_nat (j := 0) rfl
    have ysl : y.length ≤ sizeLine := Nat.le_trans hyl (by decide)
    have last : z ≠ "0" → (!decide (V.str (⟨#[d]⟩ : Str) = V.str "0")) = true := fun q => by
      rw [decide_eq_false]
      · rfl
      · rw [h48]
        intro e
        injection e with e
        injection e with e
        injection e with e
        injection e with e _
        exact hd q e
    refine ⟨_, rfl, rfl, _, _, rfl, rfl, _, rfl, ?_⟩
    rcases hzy with ⟨hh, rfl⟩ | hh
    · refine iteFb (by rw [hm, start_one]; exact decide_eq_false hh) ?_
      refine ⟨_, rfl, _, rfl, _, rfl, hyl, fun H1 s1 => ⟨_, rfl, iteTb hy ?_⟩⟩
      refine ⟨_, rfl, rfl, _, rfl, ite2 (fun _ => k H1 s1) (fun h1 => ?_)⟩
      have q : y ≠ "0" := fun e => h1 (decide_eq_true (congrArg V.str e))
      refine ⟨_, rfl, _, _, d, rfl, rfl, ysl, atd, rfl, ?_⟩
      have := k H1 s1
      rw [← last q] at this
      exact this
    · refine iteTb (by rw [hm, start_one, hh]; exact decide_eq_true rfl) ?_
      have ec : cutS z (some 1) none = y := str_ext (cut_one hh)
      refine ⟨_, rfl, _, rfl, _, rfl, hsl, ?_⟩
      rw [ec]
      refine ⟨_, rfl, _, rfl, hyl, fun H1 s1 => ⟨_, rfl, iteTb hy ?_⟩⟩
      refine ⟨_, rfl, rfl, _, rfl, ite2 (fun _ => k H1 s1) (fun h1 => ?_)⟩
      have q : z ≠ "0" := fun e => h1 (decide_eq_true (congrArg V.str e))
      refine ⟨_, rfl, _, _, d, rfl, rfl, ysl, atd, rfl, ?_⟩
      have := k H1 s1
      rw [← last q] at this
      exact this
theorem numT_of {i : Int} (h : i.natAbs < 10 ^ 60) : NumT (shownK (.inl i)) := by
  rcases num_two i with ⟨m, e, q⟩ | ⟨m, h1, e, q⟩
  · refine ⟨shownK (.inl i), figB_digits (m := m) (by omega) q, .inl ⟨?_, rfl⟩, ?_⟩
    · intro z
      cases w : (Nat.toDigits 10 m).map Char.toNat with
      | nil => exact digits_ne m w
      | cons a b =>
        rw [q, w] at z
        injection z with z
        have := digits_all m a (by rw [w]; exact List.mem_cons_self ..)
        omega
    · by_cases hm : 1 ≤ m
      · obtain ⟨d, r, ed, hd⟩ := digits_head m hm
        refine .inr ?_
        rw [q, ed]
        intro z
        injection z with z
        exact hd z
      · have : m = 0 := by omega
        subst this
        subst e
        exact .inl rfl
  · obtain ⟨d, r, ed, hd⟩ := digits_head m h1
    refine ⟨⟨((Nat.toDigits 10 m).map Char.toNat).toArray⟩, figB_digits (m := m) (by omega) rfl, .inr q, .inr ?_⟩
    show ((Nat.toDigits 10 m).map Char.toNat).head? ≠ _
    rw [ed]
    intro z
    injection z with z
    exact hd z
def sp_rnum : Sp := fun vs H Q _ => ∃ i : Int, vs = [.str (shownK (.inl i))] ∧ i.natAbs < 10 ^ 60 ∧ ∀ H', Same H H' → Q (.int i) H'
theorem ok_read_number (T : Txt K mg) : Def P w K mg base 3 "read_number" ["text"] sp_rnum := by
  refine T.t_read_number.ok sc_read_number (fun vs H Q E h => ?_) fun f cdv A outer s H vs Q E hr h => ?_
  · obtain ⟨i, rfl, _⟩ := h
    rfl
  · obtain ⟨i, rfl, hi, k⟩ := h
    have hl := (num_len hi).1
    refine ⟨_, (pss_2
      (ps_expr (pe_def (ok_ask_written T) hr rfl (pa_1 (pe_def (ok_is_written_number T) hr rfl (pa_1 (pv 0))))))
      (ps_ret (pe_callTy call_intT rfl T.b_int bt_int (pa_1 (pv 0))))), ?_⟩
    refine ⟨_, rfl, _, rfl, by omega, numT_of hi, fun H1 s1 => ⟨rfl, ?_⟩⟩
    exact ⟨_, rfl, _, _, rfl, by omega, num_reads hi, k H1 s1⟩
def sp_rword : Sp := fun vs H Q _ => ∃ z, vs = [.str z] ∧ PyData.strOk z = true ∧ txtB small z = true ∧ ∀ H', Same H H' → Q (.str z) H'
theorem ok_read_word (T : Txt K mg) : Def P w K mg base 3 "read_word" ["text"] sp_rword := by
  refine T.t_read_word.ok sc_read_word (fun vs H Q E h => ?_) fun f cdv A outer s H vs Q E hr h => ?_
  · obtain ⟨z, rfl, _⟩ := h
    rfl
  · obtain ⟨z, rfl, ho, ht, k⟩ := h
    have hl := (txtB_le ht).2
    refine ⟨_, (pss_2
      (ps_expr (pe_def (ok_ask_written T) hr rfl (pa_1 (pe_def (okW_is_word T) hr rfl (pa_1 (pv 0))))))
      (ps_ret (pv 0))), ?_⟩
    refine ⟨_, rfl, _, rfl, ho, by omega, fun H1 s1 => ⟨by rw [ht]; rfl, ?_⟩⟩
    exact ⟨_, rfl, k H1 s1⟩
theorem strOk_num (i : Int) : PyData.strOk (shownK (.inl i)) = true := by
  refine strOk_of fun c hc => ?_
  rcases num_two i with ⟨m, _, q⟩ | ⟨m, _, _, q⟩
  · rw [q] at hc
    have := digits_all m c hc
    omega
  · rw [q] at hc
    rcases List.mem_cons.mp hc with h | h
    · omega
    · have := digits_all m c h
      omega
def sp_rterm : Sp := fun vs H Q _ => ∃ k : Key, vs = [.str (shownK k)] ∧ TmOk k ∧ ∀ H', Same H H' → Q (kV k) H'
theorem ok_read_term (T : Txt K mg) : Def P w K mg base 4 "read_term" ["text"] sp_rterm := by
  refine T.t_read_term.ok sc_read_term (fun vs H Q E h => ?_) fun f cdv A outer s H vs Q E hr h => ?_
  · obtain ⟨k, rfl, _⟩ := h
    rfl
  · obtain ⟨t, rfl, ht, k⟩ := h
    have hl := (shown_le ht).2
    have ho : PyData.strOk (shownK t) = true := by
      cases t with
      | inl i => exact strOk_num i
      | inr z => exact ht.2
    refine ⟨_, (pss_one (ps_ret (pe_ifExp (PW.pt (pw_or (pt_val (pe_def (okW_is_word T) hr rfl (pa_1 (pv 0)))) (pw_or1 (pt_val (pe_def (okW_is_var T) hr rfl (pa_1 (pv 0))))))) (pv 0) (pe_def (ok_read_number T) hr rfl (pa_1 (pv 0)))))), ?_⟩
    refine ⟨_, rfl, _, rfl, ho, by omega, fun H1 s1 => ⟨_, rfl, ?_⟩⟩
    cases t with
    | inl i =>
      refine iteFb (fig_not small small_ge i) ?_
      refine ⟨_, rfl, _, rfl, ho, by omega, fun H2 s2 => ⟨_, rfl, iteFb (fig_not capS caps_ge i) ?_⟩⟩
      exact ⟨_, rfl, i, rfl, ht, fun H3 s3 => k H3 (s1.trans (s2.trans s3))⟩
    | inr z =>
      by_cases h1 : txtB small z = true
      · exact iteTb h1 (iteT ⟨_, rfl, k H1 s1⟩)
      · refine iteFb (Bool.eq_false_iff.mpr h1) ?_
        have h2 : txtB capS z = true := ht.1.resolve_left h1
        exact ⟨_, rfl, _, rfl, ho, by omega, fun H2 s2 => ⟨_, rfl, iteTb h2 ⟨_, rfl, k H2 (s1.trans s2)⟩⟩⟩
end
end Wy
namespace Wy
open PySem L2
def comS : Str := ", "
def rowS (ks : List Key) : Str := "(" ++ Str.join comS (ks.map shownK) ++ ")"
theorem sum_le (ks : List Key) (h : ∀ k ∈ ks, TmOk k) : ((ks.map shownK).map (·.length)).sum ≤ 61 * ks.length := by
  induction ks with
  | nil => exact Nat.le_refl _
  | cons k ks ih =>
    have h1 := (shown_le (h k (List.mem_cons_self ..))).2
    have h2 := ih fun x hx => h x (List.mem_cons_of_mem _ hx)
    simp only [List.map_cons, List.sum_cons, List.length_cons] at *
    omega
theorem join_len (y : Str) : ∀ ws : List Str, (Str.join y ws).length ≤ (ws.map (·.length)).sum + ws.length * y.length
  | [] => Nat.zero_le _
  | [x] => by
    show x.length ≤ _
    simp only [List.map_cons, List.map_nil, List.sum_cons, List.sum_nil]
    omega
  | x :: x' :: r => by
    have := join_len y (x' :: r)
    rw [join_cons2, Str.length_append, Str.length_append, List.map_cons, List.sum_cons, List.length_cons, Nat.succ_mul]
    omega
theorem com_len : comS.length = 2 := by decide +kernel
theorem joined_le {ks : List Key} (h : ∀ k ∈ ks, TmOk k) (hl : ks.length ≤ 10) : (Str.join comS (ks.map shownK)).length ≤ 630 := by
  have h1 := join_len comS (ks.map shownK)
  have h2 := sum_le ks h
  rw [List.length_map, com_len] at h1
  omega
theorem row_le {ks : List Key} (h : ∀ k ∈ ks, TmOk k) (hl : ks.length ≤ 10) : (rowS ks).length ≤ 632 := by
  have := joined_le h hl
  unfold rowS
  rw [Str.length_append, Str.length_append, show ("(" : Str).length = 1 by decide +kernel, show (")" : Str).length = 1 by decide +kernel]
  omega
theorem bits_ok {k : Key} (h : TmOk k) : ∀ i, k = .inl i → i.natAbs < 2 ^ 1900 := fun i e => by
  subst e
  exact Nat.lt_trans h (by decide +kernel)
section
variable {P : Program} {w : World} {K : PySem.W.Frag} {mg : Str → Option Value} {base : Heap}
def sp_showt (K : PySem.W.Frag) : Sp := fun vs H Q _ => ∃ (a : Addr) (ks : List Key), vs = [.ref a] ∧ SqT K H a (ks.map kV) ∧ ks.length ≤ 10 ∧ (∀ k ∈ ks, TmOk k) ∧ ∀ H', Same H H' → Q (.str (rowS ks)) H'
def factS (n t : Str) (ks : List Key) : Str := n ++ ": " ++ (t ++ rowS ks)
end
end Wy
namespace Wy
open PySem L2
theorem fur_no44 : ∀ c ∈ fur.cps.toList, c ≠ 44 ∧ c ≠ 40 ∧ c ≠ 58 := by decide +kernel
theorem small_no44 : ∀ c ∈ small.cps.toList, c ≠ 44 ∧ c ≠ 40 ∧ c ≠ 58 := by decide +kernel
theorem caps_no44 : ∀ c ∈ capS.cps.toList, c ≠ 44 ∧ c ≠ 40 ∧ c ≠ 58 := by decide +kernel
theorem txt_no {fs z : Str} (hf : ∀ c ∈ fs.cps.toList, c ≠ 44 ∧ c ≠ 40 ∧ c ≠ 58) (h : txtB fs z = true) : ∀ c ∈ z.cps.toList, c ≠ 44 ∧ c ≠ 40 ∧ c ≠ 58 := by
  have hl := txtB_le h
  rw [txtB_ok hl.1 hl.2] at h
  obtain ⟨c, r, e⟩ := split_list hl.1
  rw [e] at h ⊢
  have h' : (decide (c ∈ fs.cps.toList) && r.all fun d => decide (d ∈ fur.cps.toList)) = true := h
  rw [Bool.and_eq_true] at h'
  intro d hd
  rcases List.mem_cons.mp hd with rfl | hd
  · exact hf _ (of_decide_eq_true h'.1)
  · exact fur_no44 d (of_decide_eq_true (List.all_eq_true.mp h'.2 d hd))
theorem shown_no : ∀ {k : Key}, TmOk k → 44 ∉ (shownK k).cps.toList
  | .inl i, _, h => by
    rcases num_two i with ⟨m, _, q⟩ | ⟨m, _, _, q⟩
    · rw [q] at h
      have := digits_all m _ h
      omega
    · rw [q] at h
      rcases List.mem_cons.mp h with h | h
      · omega
      · have := digits_all m _ h
        omega
  | .inr z, h, q => by
    rcases h.1 with h | h
    · exact (txt_no small_no44 h _ q).1 rfl
    · exact (txt_no caps_no44 h _ q).1 rfl
theorem com_signs : comS.cps.toList = 44 :: [32] := by decide +kernel
theorem split_row {ks : List Key} (h : ∀ k ∈ ks, TmOk k) (ne : ks ≠ []) : cutsS (Str.join comS (ks.map shownK)) comS = ks.map shownK :=
  split_join com_signs (by decide +kernel) (by simpa using ne) fun w hw => by
    obtain ⟨k, hk, rfl⟩ := List.mem_map.mp hw
    exact shown_no (h k hk)
theorem cut_end (a : Str) (c : Nat) : cutS (a ++ ⟨#[c]⟩) none (some (-1)) = a := by
  refine str_ext ?_
  have hl : (a ++ (⟨#[c]⟩ : Str)).length = a.length + 1 := Str.length_append _ _
  unfold cutS
  rw [List.toList_toArray, HT.sIx_none, List.drop_zero, Nat.sub_zero, hl, show HT.sIx (a.length + 1) (a.length + 1) (some (-1)) = a.length by unfold HT.sIx; simp; omega, str_app, ← str_len a, List.take_append_of_le_length (Nat.le_refl _), List.take_length]
section
variable {P : Program} {w : World} {K : PySem.W.Frag} {mg : Str → Option Value} {base : Heap}
def sp_rterms : Sp := fun vs H Q _ => ∃ ks : List Key, vs = [.str (Str.join comS (ks.map shownK))] ∧ ks.length ≤ 4 ∧ (∀ k ∈ ks, TmOk k) ∧ ∀ p H', Same H H' → H' p = some (.tup (ks.map kV)) → Q (.ref p) H'
theorem ok_read_terms (T : Txt K mg) : Def P w K mg base 5 "read_terms" ["text"] sp_rterms := by
  refine T.t_read_terms.ok sc_read_terms (fun vs H Q E h => ?_) fun f cdv A outer s H vs Q E hr h => ?_
  · obtain ⟨ks, rfl, _⟩ := h
    rfl
  · obtain ⟨ks, rfl, hl, hk, k⟩ := h
    have jl := joined_le hk (show ks.length ≤ 10 by omega)
    have jsl : (Str.join comS (ks.map shownK)).length ≤ sizeLine := Nat.le_trans jl (by decide)
    refine ⟨_, (pss_4
      (ps_if (pt_cmpR op_eq (pv 0) pe_str (nomark _)) (pss_one (ps_ret (pe_tup pa_nil))) pss_nil)
      (ps_set (i := 1) sc_read_terms.nd rfl (Or.inl rfl) (pe_callTy (call_tupleK K) rfl T.b_tuple bt_tuple (pa_1 (pe_comp (N := ["part"]) (caps := [none]) rfl (by with_unfolding_all rfl) (pi_listK K (pe_bm PySem.F.plainAttrs_str PySem.F.slot_str_split PySem.F.type_str_split mt_split (pv 0) (pa_1 pe_str))) (fun _ _ _ _ _ => (pg_name (i := 0) (show (["part"] : List Str).Nodup by decide +kernel) rfl (Or.inl rfl))) (fun _ _ _ _ _ => pf_nil) (fun _ _ _ _ _ => (pe_def (ok_read_term T) hr rfl (pa_1 (pv 0))))))))
      (ps_expr (pe_def (ok_ask_written T) hr rfl (pa_1 (pe_cmpR op_le (pe_callB (call_lenK K) rfl T.b_len bt_len (pa_1 (pv 1))) (pe_gI rfl T.c_MOST_VALUES) (nomark _)))))
      (ps_ret (pv 1))), ?_⟩
    refine ⟨_, rfl, rfl, _, rfl, ?_⟩
    by_cases h0 : ks = []
    · subst h0
      refine iteTb (decide_eq_true rfl) ⟨by decide, fun p hp => ?_⟩
      exact k p _ (same_upd hp) upd_same
    · have ne : ¬ Str.join comS (ks.map shownK) = "" := fun e => by
        have e1 := split_row hk h0
        rw [e] at e1
        have : cutsS "" comS = [("" : Str)] := by decide +kernel
        rw [this] at e1
        match ks, h0 with
        | q :: r, _ =>
          injection e1 with e1 _
          have := (shown_le (hk q (List.mem_cons_self ..))).1
          rw [← e1] at this
          exact absurd this (by decide +kernel)
      refine iteFb (decide_eq_false fun e => ne (by injection e)) ?_
      have es := split_row hk h0
      refine ⟨_, rfl, rfl, _, comS, rfl, rfl, by decide +kernel, jsl, by rw [es, List.length_map]; exact Nat.le_trans hl (by decide), fun q hq => ?_⟩
      rw [es]
      have s1 := same_upd (o := HO.lst ((ks.map shownK).map V.str)) hq
      refine ⟨q, rfl, ⟨_, SqL.of upd_same⟩, fun D hD => ?_⟩
      refine comp_by ((ks.map shownK).map V.str).length (fun i σ' H' => (∃ v, σ' = [v]) ∧ Same (upd H q (.lst ((ks.map shownK).map V.str))) H' ∧ H' D = some (.lst ((ks.take i).map kV))) ⟨⟨_, rfl⟩, same_upd hD, upd_same⟩ (fun i σ' H' hi p => ?_) (fun σ' H' p => ⟨?_, ?_⟩) (fun i σ' H' hi p x H2 y => ?_)
      · obtain ⟨_, sm, _⟩ := p
        exact ⟨_, ((ks.map shownK).map V.str)[i], SqL.of (sm _ _ upd_same), List.getElem?_eq_getElem hi⟩
      · obtain ⟨_, sm, _⟩ := p
        exact ⟨_, SqL.of (sm _ _ upd_same), Nat.le_refl _⟩
      · obtain ⟨_, sm, e⟩ := p
        rw [List.length_map, List.length_map, List.take_length] at e
        refine ⟨_, _, rfl, .inl ⟨SqL.of e, fun t ht => ?_⟩⟩
        have s2 := same_upd (o := HO.tup (ks.map kV)) ht
        refine ⟨_, rfl, _, _, rfl, .inr ⟨_, SqT.of upd_same, rfl⟩, ?_⟩
        rw [List.length_map]
        refine ⟨_, _, rfl, rfl, by show [V.bl (decide ((ks.length : Int) ≤ 4))] = _; rw [decide_eq_true (by omega)], ?_⟩
        exact ⟨_, rfl, k t _ (s1.trans (sm.trans s2)) upd_same⟩
      · obtain ⟨⟨v, rfl⟩, sm, e⟩ := p
        obtain ⟨rfl, hx⟩ := y
        have hx' := hx _ (SqL.of (sm _ _ upd_same))
        rw [List.map_map, List.getElem?_map] at hx'
        obtain ⟨t, ht, rfl⟩ := Option.map_eq_some_iff.mp hx'
        refine ⟨_, rfl, t, rfl, hk t (List.mem_of_getElem? ht), fun H3 s3 => ⟨_, s3 _ _ e, by rw [List.length_map, List.length_take]; exact small1000 (by omega), ⟨_, rfl⟩, (sm.trans s3).set hD, ?_⟩⟩
        rw [upd_same, List.take_succ, ht, List.map_append]
        rfl
theorem part_atom {t : Str} (h : txtB small t = true) (ks : List Key) : partS (t ++ rowS ks) "(" = [t, "(", Str.join comS (ks.map shownK) ++ ")"] := by
  rw [show t ++ rowS ks = t ++ "(" ++ (Str.join comS (ks.map shownK) ++ ")") by unfold rowS; rw [Str.append_assoc, Str.append_assoc]]
  exact part_at (c := 40) (t := []) (by decide +kernel) fun q => (txt_no small_no44 h _ q).2.1 rfl
theorem part_fact {n : Str} (h : txtB small n = true) (x : Str) : partS (n ++ ": " ++ x) ": " = [n, ": ", x] :=
  part_at (c := 58) (t := [32]) (by decide +kernel) fun q => (txt_no small_no44 h _ q).2.2 rfl
def sp_ratom : Sp := fun vs H Q _ => ∃ (t : Str) (ks : List Key), vs = [.str (t ++ rowS ks)] ∧ PyData.strOk t = true ∧ txtB small t = true ∧ ks.length ≤ 4 ∧ (∀ k ∈ ks, TmOk k) ∧
  ∀ q p H', Same H H' → H' q = some (.tup [.str t, .ref p]) → H' p = some (.tup (ks.map kV)) → Q (.ref q) H'
theorem ok_read_atom (T : Txt K mg) : Def P w K mg base 6 "read_atom" ["text"] sp_ratom := by
  refine T.t_read_atom.ok sc_read_atom (fun vs H Q E h => ?_) fun f cdv A outer s H vs Q E hr h => ?_
  · obtain ⟨t, ks, rfl, _⟩ := h
    rfl
  · obtain ⟨t, ks, rfl, ho, ht, hl, hk, k⟩ := h
    have rl := row_le hk (show ks.length ≤ 10 by omega)
    have jl := joined_le hk (show ks.length ≤ 10 by omega)
    have tl := (txtB_le ht).2
    have e41 : (")" : Str) = ⟨#[41]⟩ := by decide +kernel
    refine ⟨_, (pss_4
      (ps_expr (pe_def (ok_ask_text T) hr rfl (pa_1 (pv 0))))
      (ps_set (i := 1) sc_read_atom.nd rfl (Or.inl rfl) (pe_bm PySem.F.plainAttrs_str PySem.F.slot_str_partition PySem.F.type_str_partition mt_partition (pv 0) (pa_1 pe_str)))
      (ps_expr (pe_def (ok_ask_written T) hr rfl (pa_1 (pe_bm PySem.F.plainAttrs_str PySem.F.slot_str_endswith PySem.F.type_str_endswith mt_endswith (pe_ix (ix_tupK K) (pv 1) pe_int (fun _ _ => rfl)) (pa_1 pe_str)))))
      (ps_ret (pe_tup (pa_2 (pe_def (ok_read_word T) hr rfl (pa_1 (pe_ix (ix_tupK K) (pv 1) pe_int (fun _ _ => rfl)))) (pe_def (ok_read_terms T) hr rfl (pa_1 (pe_slice sl_str (pe_ix (ix_tupK K) (pv 1) pe_int (fun _ _ => rfl)) po_none (po_some (pe_un un_neg pe_int))))))))), ?_⟩
    refine ⟨_, rfl, _, rfl, ?_⟩
    refine ⟨_, rfl, rfl, _, "(", rfl, rfl, by decide +kernel, Nat.le_trans (show (t ++ rowS ks).length ≤ 1000 by rw [Str.length_append]; omega) (by decide), fun q hq => ?_⟩
    rw [part_atom ht]
    have s1 := same_upd (o := HO.tup ([t, "(", Str.join comS (ks.map shownK) ++ ")"].map V.str)) hq
    have hq1 : SqT K (upd H q (.tup ([t, "(", Str.join comS (ks.map shownK) ++ ")"].map V.str))) q [.str t, .str "(", .str (Str.join comS (ks.map shownK) ++ ")")] := SqT.of upd_same
    have jsl : (Str.join comS (ks.map shownK) ++ ")").length ≤ sizeLine := Nat.le_trans (show _ ≤ 1000 by rw [Str.length_append, show (")" : Str).length = 1 by decide +kernel]; omega) (by decide)
    refine ⟨_, rfl, _, _, _, _, rfl, rfl, hq1, rfl, rfl, _, _, rfl, rfl, ?_⟩
    refine ⟨by rw [e41, end_one]; rfl, ?_⟩
    refine ⟨_, rfl, _, _, _, _, rfl, rfl, hq1, rfl, _, rfl, ho, ht, fun H2 s2 => ?_⟩
    refine ⟨_, rfl, _, _, _, _, rfl, rfl, s2.seqT hq1, rfl, _, rfl, _, rfl, _, rfl, jsl, ?_⟩
    refine ⟨ks, by rw [e41, cut_end]; rfl, hl, hk, fun p H3 s3 hp => ?_⟩
    refine ⟨by show 2 ≤ sizeLine; decide, fun r hr' => ?_⟩
    have s4 := same_upd (o := HO.tup [V.str t, .ref p]) hr'
    exact k r p _ (s1.trans (s2.trans (s3.trans s4))) upd_same (s4 _ _ hp)
def varK : Key → Bool
  | .inr z => txtB capS z
  | .inl _ => false
def keyD : Key → PyData
  | .inr z => .str z
  | .inl i => .int i
theorem dat_tm {K : PySem.W.Frag} {H : Hp} : ∀ {t : Key}, TmOk t → Dat K H (keyD t) (kV t)
  | .inr z, h => .str z h.2
  | .inl i, _ => .int i
end
end Wy
namespace Wy
open PySem L2
def WOk (z : Str) : Prop := txtB small z = true ∧ PyData.strOk z = true
theorem abs_mod (c : Int) : (c % 10 ^ 60).natAbs < 10 ^ 60 := by
  have h0 := Int.emod_nonneg c (show (10 : Int) ^ 60 ≠ 0 by decide +kernel)
  have h1 := Int.emod_lt_of_pos c (show (0 : Int) < 10 ^ 60 by decide +kernel)
  have e : ((10 ^ 60 : Nat) : Int) = 10 ^ 60 := by decide +kernel
  omega
theorem abs_neg (c : Int) : (0 - c % 10 ^ 60).natAbs < 10 ^ 60 := by
  rw [Int.zero_sub, Int.natAbs_neg]
  exact abs_mod c
section
variable {P : Program} {w : World} {K : PySem.W.Frag} {mg : Str → Option Value} {base : Heap}
def sp_lnum : Sp := fun vs H Q _ => ∃ c : Int, vs = [.int c] ∧ ∀ (i : Int) H', Same H H' → i.natAbs < 10 ^ 60 → Q (.int i) H'
theorem ok__law_number (T : Txt K mg) : Def P w K mg base 2 "_law_number" ["_law_cell"] sp_lnum := by
  refine T.t__law_number.ok sc__law_number (fun vs H Q E h => ?_) fun f cdv A outer s H vs Q E hr h => ?_
  · obtain ⟨c, rfl, _⟩ := h
    rfl
  · obtain ⟨c, rfl, k⟩ := h
    refine ⟨_, (pss_8
      (ps_set (i := 1) sc__law_number.nd rfl (Or.inl rfl) (pe_def (ok__law_stream T) hr rfl (pa_2 (pv 0) pe_int)))
      (ps_if (pt_cmpR op_eq (pe_op op_mod (pe_ix (ix_listK K) (pv 1) pe_int (fun _ _ => rfl)) pe_int) pe_int (nomark _)) (pss_one (ps_ret (pe_op op_mod (pv 0) (pe_op op_pow pe_int pe_int)))) pss_nil)
      (ps_if (pt_cmpR op_eq (pe_op op_mod (pe_ix (ix_listK K) (pv 1) pe_int (fun _ _ => rfl)) pe_int) pe_int (nomark _)) (pss_one (ps_ret (pe_op op_sub pe_int (pe_op op_mod (pv 0) (pe_op op_pow pe_int pe_int))))) pss_nil)
      (ps_if (pt_cmpR op_eq (pe_op op_mod (pe_ix (ix_listK K) (pv 1) pe_int (fun _ _ => rfl)) pe_int) pe_int (nomark _)) (pss_one (ps_ret (pe_op op_sub (pe_op op_mod (pe_ix (ix_listK K) (pv 1) pe_int (fun _ _ => rfl)) pe_int) pe_int))) pss_nil)
      (ps_set (i := 2) sc__law_number.nd rfl (Or.inl rfl) pe_int)
      (ps_for PassesOwn.never rfl (pi_listK K (pe_slice (sl_listK K) (pv 1) (po_some pe_int) (po_some pe_int))) (pg_name (i := 3) sc__law_number.nd rfl (Or.inl rfl)) (pss_one (ps_set (i := 2) sc__law_number.nd rfl (Or.inl rfl) (pe_op op_mul (pv 2) (pv 3)))))
      (ps_if (pt_cmpR op_eq (pe_op op_mod (pe_ix (ix_listK K) (pv 1) pe_int (fun _ _ => rfl)) pe_int) pe_int (nomark _)) (pss_one (ps_ret (pe_op op_mod (pv 2) (pe_op op_pow pe_int pe_int)))) pss_nil)
      (ps_ret (pe_op op_sub pe_int (pe_op op_mod (pv 2) (pe_op op_pow pe_int pe_int))))), ?_⟩
    refine ⟨_, rfl, c, 9, rfl, by decide, by decide, fun p ns H1 s1 hp hl _ hn => ?_⟩
    have hl9 : ns.length = 9 := hl
    have a0 : atI (ns.map V.int) 0 = some (V.int (ns.getD 0 0)) := at_ints (k := 0) (by omega)
    have a1 : atI (ns.map V.int) 1 = some (V.int (ns.getD 1 0)) := at_ints (k := 1) (by omega)
    have hS := SqL.of (K := K) hp
    have p1 : CPow 10 60 := ⟨by decide, by decide, by decide⟩
    have pm : (0 : Int) < 10 ^ (60 : Int).toNat := by decide +kernel
    refine ⟨_, rfl, _, _, _, _, rfl, rfl, hS, a0, _, _, rfl, rfl, (by show (0 : Int) < 5; decide), rfl, _, rfl, ite2 (fun _ => ?_) (fun _ => ?_)⟩
    · exact ⟨_, rfl, _, _, rfl, rfl, p1, _, _, rfl, rfl, pm, k _ H1 s1 (abs_mod c)⟩
    refine ⟨_, rfl, _, _, _, _, rfl, rfl, hS, a0, _, _, rfl, rfl, (by show (0 : Int) < 5; decide), rfl, _, rfl, ite2 (fun _ => ?_) (fun _ => ?_)⟩
    · exact ⟨_, rfl, _, _, rfl, rfl, p1, _, _, rfl, rfl, pm, _, _, rfl, rfl, k _ H1 s1 (abs_neg c)⟩
    refine ⟨_, rfl, _, _, _, _, rfl, rfl, hS, a0, _, _, rfl, rfl, (by show (0 : Int) < 5; decide), rfl, _, rfl, ite2 (fun _ => ?_) (fun _ => ?_)⟩
    · refine ⟨_, rfl, _, _, _, _, rfl, rfl, hS, a1, _, _, rfl, rfl, (by show (0 : Int) < 12; decide), _, _, rfl, rfl, k _ H1 s1 ?_⟩
      have h0 := Int.emod_nonneg (ns.getD 1 0) (show (12 : Int) ≠ 0 by decide)
      have h1 := Int.emod_lt_of_pos (ns.getD 1 0) (show (0 : Int) < 12 by decide)
      refine Nat.lt_of_lt_of_le (show _ < 100 by omega) (by decide +kernel)
    refine ⟨_, rfl, _, rfl, _, rfl, _, _, rfl, hS, fun q hq => ?_⟩
    have e : cutV (ns.map V.int) (some 1) (some 8) = (((ns.drop 1).take 7)).map V.int := by
      unfold cutV
      rw [List.length_map, hl9, ← List.map_drop, ← List.map_take]
      rfl
    rw [e]
    have hms : ∀ n ∈ (ns.drop 1).take 7, 0 ≤ n ∧ n < 2147483647 := fun n h => hn n (List.mem_of_mem_drop (List.mem_of_mem_take h))
    generalize (ns.drop 1).take 7 = ms at hms
    have s2 := same_upd (o := HO.lst (ms.map V.int)) hq
    refine ⟨q, rfl, ⟨_, SqL.of upd_same⟩, for_list (xs := ms.map V.int) (fun i σ H' => H' = upd H1 q (.lst (ms.map V.int)) ∧ ∃ (n : Int) (v : Option V), σ = [some (.int c), some (.ref p), some (.int n), v]) ⟨rfl, _, _, rfl⟩ (fun i σ H' _ z => by rw [z.1]; exact SqL.of upd_same) ?_ ?_⟩
    · rintro i x σ H' hx ⟨rfl, n, v, rfl⟩
      rw [List.getElem?_map] at hx
      obtain ⟨m, hm, rfl⟩ := Option.map_eq_some_iff.mp hx
      have := hms m (List.mem_of_getElem? hm)
      refine ⟨_, rfl, _, rfl, _, _, rfl, rfl, .inr ⟨Int.lt_of_lt_of_le (by decide) this.1, Int.lt_trans this.2 (by decide)⟩, rfl, _, _, rfl⟩
    · rintro σ H' ⟨rfl, n, v, rfl⟩
      have hS2 := s2.seq hS
      refine ⟨_, rfl, _, _, _, _, rfl, rfl, hS2, a0, _, _, rfl, rfl, (by show (0 : Int) < 5; decide), rfl, _, rfl, ite2 (fun _ => ?_) (fun _ => ?_)⟩
      · exact ⟨_, rfl, _, _, rfl, rfl, p1, _, _, rfl, rfl, pm, k _ _ (s1.trans s2) (abs_mod n)⟩
      · exact ⟨_, rfl, _, _, rfl, rfl, p1, _, _, rfl, rfl, pm, _, _, rfl, rfl, k _ _ (s1.trans s2) (abs_neg n)⟩
theorem caps_not : ∀ c ∈ small.cps.toList, c ∉ capS.cps.toList := by decide +kernel
theorem var_not {z : Str} (h : txtB small z = true) : txtB capS z = false := by
  have hl := txtB_le h
  rw [txtB_ok hl.1 hl.2] at h
  obtain ⟨c, r, e⟩ := split_list hl.1
  rw [e] at h
  have h' : (decide (c ∈ small.cps.toList) && r.all fun d => decide (d ∈ fur.cps.toList)) = true := h
  rw [Bool.and_eq_true] at h'
  rw [txtB_ok hl.1 hl.2, e]
  show (decide (c ∈ capS.cps.toList) && _) = false
  rw [decide_eq_false (caps_not c (of_decide_eq_true h'.1)), Bool.false_and]
def sp_lval (K : PySem.W.Frag) : Sp := fun vs H Q _ => ∃ (c : Int) (a : Addr) (ws : List Str), vs = [.int c, .ref a] ∧ SqL K H a (ws.map V.str) ∧ 1 ≤ ws.length ∧ (∀ z ∈ ws, WOk z) ∧ ∀ (t : Key) H', Same H H' → TmOk t → varK t = false → (∀ z, t = .inr z → z ∈ ws) → Q (kV t) H'
theorem ok__law_value (T : Txt K mg) : Def P w K mg base 3 "_law_value" ["_law_cell", "_law_words_here"] (sp_lval K) := by
  refine T.t__law_value.ok sc__law_value (fun vs H Q E h => ?_) fun f cdv A outer s H vs Q E hr h => ?_
  · obtain ⟨c, a, ws, rfl, _⟩ := h
    rfl
  · obtain ⟨c, a, ws, rfl, hW, wl, hw, k⟩ := h
    refine ⟨_, (pss_3
      (ps_set (i := 2) sc__law_value.nd rfl (Or.inl rfl) (pe_def (ok__law_stream T) hr rfl (pa_2 (pv 0) pe_int)))
      (ps_if (pt_cmpR op_eq (pe_op op_mod (pe_ix (ix_listK K) (pv 2) pe_int (fun _ _ => rfl)) pe_int) pe_int (nomark _)) (pss_one (ps_ret (pe_def (ok__law_number T) hr rfl (pa_1 (pv 0))))) pss_nil)
      (ps_ret (pe_ix (ix_listK K) (pv 1) (pe_op op_mod (pe_ix (ix_listK K) (pv 2) pe_int (fun _ _ => rfl)) (pe_callB (call_lenK K) rfl T.b_len bt_len (pa_1 (pv 1)))) (fun _ _ => rfl)))), ?_⟩
    refine ⟨_, rfl, c, 3, rfl, by decide, by decide, fun p ns H1 s1 hp hl _ hn => ?_⟩
    have hl3 : ns.length = 3 := hl
    have a1 : atI (ns.map V.int) 1 = some (V.int (ns.getD 1 0)) := at_ints (k := 1) (by omega)
    have a2 : atI (ns.map V.int) 2 = some (V.int (ns.getD 2 0)) := at_ints (k := 2) (by omega)
    have hS := SqL.of (K := K) hp
    refine ⟨_, rfl, _, _, _, _, rfl, rfl, hS, a1, _, _, rfl, rfl, (by show (0 : Int) < 2; decide), rfl, _, rfl, ite2 (fun _ => ?_) (fun _ => ?_)⟩
    · exact ⟨_, rfl, c, rfl, fun i H2 s2 hi => k (.inl i) H2 (s1.trans s2) hi rfl fun z e => nomatch e⟩
    · have hW1 := s1.seq hW
      have hwp : (0 : Int) < ws.length := by omega
      obtain ⟨e, hat, he⟩ := atI_in (xs := ws.map V.str) (i := ns.getD 2 0 % (ws.length : Int)) (Int.emod_nonneg _ (by omega)) (by rw [List.length_map]; exact Int.emod_lt_of_pos _ hwp)
      obtain ⟨z, hz, rfl⟩ := List.mem_map.mp he
      refine ⟨_, rfl, _, rfl, _, _, _, _, rfl, rfl, hS, a2, _, rfl, _, _, rfl, .inl ⟨_, hW1, rfl⟩, ?_⟩
      rw [List.length_map]
      refine ⟨_, _, rfl, rfl, hwp, _, _, _, _, rfl, rfl, hW1, hat, ?_⟩
      exact k (.inr z) H1 s1 ⟨.inl (hw z hz).1, (hw z hz).2⟩ (var_not (hw z hz).1) fun y e => by injection e with e; rw [← e]; exact hz
end
end Wy
namespace Wy
open PySem L2
theorem up_small : ∀ c ∈ small.cps.toList, (Txt.upper ⟨#[c]⟩).cps.toList.length = 1 ∧ ∀ d ∈ (Txt.upper ⟨#[c]⟩).cps.toList, d ∈ capS.cps.toList := by decide +kernel
theorem caps_lt : ∀ c ∈ capS.cps.toList, c < 0x110000 := by decide +kernel
theorem cut_first {z : Str} {c : Nat} {r : List Nat} (h : z.cps.toList = c :: r) : cutS z none (some 1) = ⟨#[c]⟩ := by
  refine str_ext ?_
  have hl := str_len z
  rw [h, List.length_cons] at hl
  unfold cutS
  have e1 : HT.sIx z.length z.length (some 1) = 1 := by
    have := HT.sIx_nat z.length z.length 1
    rw [show ((1 : Nat) : Int) = 1 from rfl] at this
    rw [this]
    omega
  rw [List.toList_toArray, HT.sIx_none, List.drop_zero, Nat.sub_zero, e1, h]
  rfl
theorem cap_word {z : Str} (h : txtB small z = true) : TmOk (.inr (Txt.upper (cutS z none (some 1)) ++ cutS z (some 1) none)) ∧ (Txt.upper (cutS z none (some 1)) ++ cutS z (some 1) none).length ≤ 12 ∧ (Txt.upper (cutS z none (some 1))).length = 1 ∧ txtB capS (Txt.upper (cutS z none (some 1)) ++ cutS z (some 1) none) = true := by
  have hl := txtB_le h
  rw [txtB_ok hl.1 hl.2] at h
  obtain ⟨c, r, e⟩ := split_list hl.1
  rw [e] at h
  have h' : (decide (c ∈ small.cps.toList) && r.all fun d => decide (d ∈ fur.cps.toList)) = true := h
  rw [Bool.and_eq_true] at h'
  have hu := up_small c (of_decide_eq_true h'.1)
  have ec := cut_first e
  have er := cut_one e
  have lz := str_len z
  rw [e, List.length_cons] at lz
  obtain ⟨d, ed⟩ : ∃ d, (Txt.upper (⟨#[c]⟩ : Str)).cps.toList = [d] := by
    cases q : (Txt.upper (⟨#[c]⟩ : Str)).cps.toList with
    | nil => rw [q] at hu; exact absurd hu.1 (by decide)
    | cons a b =>
      rw [q] at hu
      have : b = [] := by
        cases b with
        | nil => rfl
        | cons x y => have := hu.1; simp at this
      subst this
      exact ⟨a, rfl⟩
  have hd : d ∈ capS.cps.toList := hu.2 d (by rw [ed]; exact List.mem_singleton.mpr rfl)
  have el : (Txt.upper (cutS z none (some 1)) ++ cutS z (some 1) none).cps.toList = d :: r := by
    rw [str_app, ec, ed, er]
    rfl
  have ln : (Txt.upper (cutS z none (some 1)) ++ cutS z (some 1) none).length = z.length := by rw [← str_len, el, List.length_cons]; omega
  have hc : txtB capS (Txt.upper (cutS z none (some 1)) ++ cutS z (some 1) none) = true := by
    rw [txtB_ok (by omega) (by omega), el]
    show (decide (d ∈ capS.cps.toList) && _) = true
    rw [decide_eq_true hd, h'.2]
    rfl
  refine ⟨⟨.inr hc, strOk_of fun x hx => ?_⟩, by omega, by rw [ec, ← str_len, ed]; rfl, hc⟩
  rw [el] at hx
  rcases List.mem_cons.mp hx with rfl | hx
  · exact caps_lt _ hd
  · exact fur_lt x (of_decide_eq_true (List.all_eq_true.mp h'.2 x hx))
section
variable {P : Program} {w : World} {K : PySem.W.Frag} {mg : Str → Option Value} {base : Heap}
def sp_lterm (K : PySem.W.Frag) : Sp := fun vs H Q _ => ∃ (c : Int) (a : Addr) (ws : List Str), vs = [.int c, .ref a] ∧ SqL K H a (ws.map V.str) ∧ 1 ≤ ws.length ∧ (∀ z ∈ ws, WOk z) ∧ ∀ (t : Key) H', Same H H' → TmOk t → (varK t = true ∨ ∀ z, t = .inr z → z ∈ ws) → Q (kV t) H'
theorem ok__law_term (T : Txt K mg) : Def P w K mg base 4 "_law_term" ["_law_cell", "_law_words_here"] (sp_lterm K) := by
  refine T.t__law_term.ok sc__law_term (fun vs H Q E h => ?_) fun f cdv A outer s H vs Q E hr h => ?_
  · obtain ⟨c, a, ws, rfl, _⟩ := h
    rfl
  · obtain ⟨c, a, ws, rfl, hW, wl, hw, k⟩ := h
    refine ⟨_, (pss_4
      (ps_set (i := 2) sc__law_term.nd rfl (Or.inl rfl) (pe_def (ok__law_stream T) hr rfl (pa_2 (pv 0) pe_int)))
      (ps_if (pt_cmpR op_eq (pe_op op_mod (pe_ix (ix_listK K) (pv 2) pe_int (fun _ _ => rfl)) pe_int) pe_int (nomark _)) (pss_one (ps_ret (pe_def (ok__law_value T) hr rfl (pa_2 (pv 0) (pv 1))))) pss_nil)
      (ps_set (i := 3) sc__law_term.nd rfl (Or.inl rfl) (pe_ix (ix_listK K) (pv 1) (pe_op op_mod (pe_ix (ix_listK K) (pv 2) pe_int (fun _ _ => rfl)) (pe_callB (call_lenK K) rfl T.b_len bt_len (pa_1 (pv 1)))) (fun _ _ => rfl)))
      (ps_ret (pe_op op_add_str (pe_bm0 PySem.F.plainAttrs_str PySem.F.slot_str_upper PySem.F.type_str_upper mt_upper (pe_slice sl_str (pv 3) po_none (po_some pe_int))) (pe_slice sl_str (pv 3) (po_some pe_int) po_none)))), ?_⟩
    refine ⟨_, rfl, c, 5, rfl, by decide, by decide, fun p ns H1 s1 hp hl _ hn => ?_⟩
    have hl3 : ns.length = 5 := hl
    have a3 : atI (ns.map V.int) 3 = some (V.int (ns.getD 3 0)) := at_ints (k := 3) (by omega)
    have a4 : atI (ns.map V.int) 4 = some (V.int (ns.getD 4 0)) := at_ints (k := 4) (by omega)
    have hS := SqL.of (K := K) hp
    have hW1 := s1.seq hW
    refine ⟨_, rfl, _, _, _, _, rfl, rfl, hS, a3, _, _, rfl, rfl, (by show (0 : Int) < 2; decide), rfl, _, rfl, ite2 (fun _ => ?_) (fun _ => ?_)⟩
    · exact ⟨_, rfl, _, rfl, c, a, ws, rfl, hW1, wl, hw, fun t H2 s2 ht _ hz => k t H2 (s1.trans s2) ht (.inr hz)⟩
    · have hwp : (0 : Int) < ws.length := by omega
      obtain ⟨e, hat, he⟩ := atI_in (xs := ws.map V.str) (i := ns.getD 4 0 % (ws.length : Int)) (Int.emod_nonneg _ (by omega)) (by rw [List.length_map]; exact Int.emod_lt_of_pos _ hwp)
      obtain ⟨z, hz, rfl⟩ := List.mem_map.mp he
      have hzt := (hw z hz).1
      have zl := (txtB_le hzt).2
      obtain ⟨ht, l1, l2, hv⟩ := cap_word hzt
      have zsl : z.length ≤ sizeLine := Nat.le_trans zl (by decide)
      refine ⟨_, rfl, _, rfl, _, _, _, _, rfl, rfl, hS, a4, _, rfl, _, _, rfl, .inl ⟨_, hW1, rfl⟩, ?_⟩
      rw [List.length_map]
      refine ⟨_, _, rfl, rfl, hwp, _, _, _, _, rfl, rfl, hW1, hat, ?_⟩
      refine ⟨_, rfl, _, rfl, _, rfl, zsl, rfl, _, rfl, rfl, Nat.le_trans (cutS_length _ _ _) (by omega), ?_⟩
      refine ⟨_, rfl, _, rfl, _, rfl, zsl, _, _, rfl, rfl, ?_, k (.inr _) H1 s1 ht (.inl hv)⟩
      rw [← Str.length_append]
      exact Nat.le_trans l1 (by decide)
def sp_lwri (K : PySem.W.Frag) : Sp := sp_showt K
theorem ok__law_written (T : Txt K mg) : Def P w K mg base 1 "_law_written" ["_law_terms"] (sp_lwri K) := by
  refine T.t__law_written.ok sc__law_written (fun vs H Q E h => ?_) fun f cdv A outer s H vs Q E hr h => ?_
  · obtain ⟨a, ks, rfl, _⟩ := h
    rfl
  · obtain ⟨a, ks, rfl, hS, hl, hk, k⟩ := h
    refine ⟨_, (pss_one (ps_ret (pe_op op_add_str (pe_op op_add_str pe_str (pe_bm PySem.F.plainAttrs_str PySem.F.slot_str_join PySem.F.type_str_join (mt_joinS K) pe_str (pa_1 (pe_comp (N := ["_law_term_here"]) (caps := [none]) rfl (by with_unfolding_all rfl) (pi_tupK K (pv 0)) (fun _ _ _ _ _ => (pg_name (i := 0) (show (["_law_term_here"] : List Str).Nodup by decide +kernel) rfl (Or.inl rfl))) (fun _ _ _ _ _ => pf_nil) (fun _ _ _ _ _ => (pe_callTy call_strK rfl T.b_str bt_str (pa_1 (pv 0)))))))) pe_str))), ?_⟩
    refine ⟨rfl, _, rfl, _, rfl, ⟨_, hS⟩, fun D hD => ?_⟩
    refine comp_by (ks.map kV).length (fun i σ' H' => (∃ v, σ' = [v]) ∧ Same H H' ∧ H' D = some (.lst (((ks.take i).map shownK).map V.str))) ⟨⟨_, rfl⟩, same_upd hD, upd_same⟩ (fun i σ' H' hi p => ?_) (fun σ' H' p => ⟨?_, ?_⟩) (fun i σ' H' hi p x H2 y => ?_)
    · obtain ⟨_, sm, _⟩ := p
      exact ⟨_, (ks.map kV)[i], sm.seqT hS, List.getElem?_eq_getElem hi⟩
    · obtain ⟨_, sm, _⟩ := p
      exact ⟨_, sm.seqT hS, Nat.le_refl _⟩
    · obtain ⟨_, sm, e⟩ := p
      rw [List.length_map, List.take_length] at e
      have h1 := sum_le ks hk
      have h2 := joined_le hk hl
      have l1 : ("(" : Str).length = 1 := by decide +kernel
      have l2 : (")" : Str).length = 1 := by decide +kernel
      refine ⟨D, ks.map shownK, comS, rfl, rfl, SqL.of e, by rw [List.length_map, com_len]; omega, ?_⟩
      refine ⟨_, _, rfl, rfl, Nat.le_trans (show ("(" : Str).length + (Str.join comS (ks.map shownK)).length ≤ 1000 by omega) (by decide), _, _, rfl, rfl, Nat.le_trans (show ("(" ++ Str.join comS (ks.map shownK)).length + (")" : Str).length ≤ 1000 by rw [Str.length_append]; omega) (by decide), k H' sm⟩
    · obtain ⟨⟨v, rfl⟩, sm, e⟩ := p
      obtain ⟨rfl, hx⟩ := y
      have hx' := hx _ (sm.seqT hS)
      rw [List.getElem?_map] at hx'
      obtain ⟨t, ht, rfl⟩ := Option.map_eq_some_iff.mp hx'
      have hi' : i < ks.length := by rwa [List.length_map] at hi
      refine ⟨_, rfl, t, rfl, bits_ok (hk t (List.mem_of_getElem? ht)), _, e, by rw [List.length_map, List.length_map, List.length_take]; exact small1000 (by omega), ⟨_, rfl⟩, sm.set hD, ?_⟩
      rw [upd_same, List.take_succ, ht, List.map_append, List.map_append]
      rfl
end
end Wy
namespace Wy
open PySem L2
def PlD : Nat → PyData → Prop
  | 0, _ => False
  | _ + 1, .str _ => True
  | _ + 1, .int _ => True
  | n + 1, .tuple ds => ds.length ≤ 10 ∧ ∀ d ∈ ds, PlD n d
  | _ + 1, _ => False
section
variable {P : Program} {w : World} {K : PySem.W.Frag} {mg : Str → Option Value} {base : Heap}
def sp_lsame (K : PySem.W.Frag) (n : Nat) : Sp := fun vs H Q _ => ∃ d x y, vs = [x, y] ∧ Dat K H d x ∧ Dat K H d y ∧ PlD n d ∧ ∀ H', Same H H' → Q (.bl true) H'
theorem ok__law_same (T : Txt K mg) : ∀ n : Nat, Def P w K mg base (n + 1) "_law_same" ["_law_found", "_law_due"] (sp_lsame K n)
  | 0 => T.t__law_same.ok sc__law_same (fun vs H Q E h => by obtain ⟨d, x, y, rfl, _⟩ := h; rfl) fun f cdv A outer s H vs Q E hr h => by
    obtain ⟨d, x, y, _, _, _, h, _⟩ := h
    exact h.elim
  | n + 1 => by
    have ih := ok__law_same T n
    refine T.t__law_same.ok sc__law_same (fun vs H Q E h => ?_) fun f cdv A outer s H vs Q E hr h => ?_
    · obtain ⟨d, x, y, rfl, _⟩ := h
      rfl
    · obtain ⟨d, x, y, rfl, hx, hy, hd, k⟩ := h
      refine ⟨_, (pss_3
      (ps_if (pt_val (pe_callB (call_isiD K) rfl T.b_isinstance bt_isinstance (pa_2 (pv 1) (pe_ty rfl T.b_tuple bt_tuple)))) (pss_2
      (ps_if (PW.pt (pw_or (pt_not (pt_val (pe_callB (call_isiD K) rfl T.b_isinstance bt_isinstance (pa_2 (pv 0) (pe_ty rfl T.b_tuple bt_tuple))))) (pw_or1 (pt_cmpR op_ne (pe_callB (call_lenK K) rfl T.b_len bt_len (pa_1 (pv 0))) (pe_callB (call_lenK K) rfl T.b_len bt_len (pa_1 (pv 1))) (nomark _))))) (pss_one (ps_ret pe_bl)) pss_nil)
      (ps_ret (pe_callB (call_allL rfl K) rfl T.b_all bt_all (pa_1 (pe_comp (N := ["_law_one", "_law_other"]) (caps := [none, none]) rfl (by with_unfolding_all rfl) (pi_zip K rfl T.b_zip (pa_2 (pv 0) (pv 1))) (fun _ _ _ _ _ => (pg_tupK K (n := 2) rfl (pgs_cons (pg_name (i := 0) (show (["_law_one", "_law_other"] : List Str).Nodup by decide +kernel) rfl (Or.inl rfl)) (pgs_cons (pg_name (i := 1) (show (["_law_one", "_law_other"] : List Str).Nodup by decide +kernel) rfl (Or.inl rfl)) pgs_nil)))) (fun _ _ _ _ _ => pf_nil) (fun _ _ _ _ _ => (pe_def (hkk := Nat.le_refl _) ih hr rfl (pa_2 (pv 0) (pv 1))))))))) pss_nil)
      (ps_if (pt_val (pe_callB (call_isiD K) rfl T.b_isinstance bt_isinstance (pa_2 (pv 1) (pe_ty rfl T.b_str bt_str)))) (pss_one (ps_ret (pe_and (pe_callB (call_isiD K) rfl T.b_isinstance bt_isinstance (pa_2 (pv 0) (pe_ty rfl T.b_str bt_str))) (pe_one (pe_cmpR op_eq (pv 0) (pv 1) (nomark _)))))) pss_nil)
      (ps_ret (pe_and (pe_callB (call_isiD K) rfl T.b_isinstance bt_isinstance (pa_2 (pv 0) (pe_ty rfl T.b_int bt_int))) (pe_and (pe_not (pe_callB (call_isiD K) rfl T.b_isinstance bt_isinstance (pa_2 (pv 0) (pe_ty rfl T.b_bool bt_bool)))) (pe_one (pe_cmpR op_eq (pv 0) (pv 1) (nomark _))))))), ?_⟩
      refine ⟨_, rfl, _, _, d, rfl, hy, by decide, ?_⟩
      cases hx with
      | str z ho =>
        refine ⟨_, rfl, iteFb (show tyIs "str" "tuple" = false by decide) ?_⟩
        refine ⟨_, rfl, _, _, .str z, rfl, hy, by decide, _, rfl, iteTb (show tyIs "str" "str" = true by decide) ?_⟩
        refine ⟨_, rfl, _, _, .str z, rfl, .str z ho, by decide, _, rfl, iteTb (show tyIs "str" "str" = true by decide) ?_⟩
        cases hy
        refine ⟨_, rfl, _, rfl, rfl, ?_⟩
        rw [decide_eq_true rfl]
        exact k H (Same.refl H)
      | int i =>
        refine ⟨_, rfl, iteFb (show tyIs "int" "tuple" = false by decide) ?_⟩
        refine ⟨_, rfl, _, _, .int i, rfl, hy, by decide, _, rfl, iteFb (show tyIs "int" "str" = false by decide) ?_⟩
        refine ⟨_, rfl, _, _, .int i, rfl, .int i, by decide, _, rfl, iteTb (show tyIs "int" "int" = true by decide) ?_⟩
        refine ⟨_, rfl, _, _, .int i, rfl, .int i, by decide, ?_⟩
        cases hy
        refine ⟨_, rfl, _, rfl, iteTb (show (!tyIs "int" "bool") = true by decide) ?_⟩
        refine ⟨_, rfl, _, rfl, rfl, ?_⟩
        rw [decide_eq_true rfl]
        exact k H (Same.refl H)
      | tup ha hds =>
        rename_i a xs ds
        cases hy with
        | tup hb hes =>
          rename_i b ys
          have lx : xs.length = ds.length := (dats_len hds).symm
          have ly : ys.length = ds.length := (dats_len hes).symm
          refine ⟨_, rfl, iteTb (show tyIs "tuple" "tuple" = true by decide) ?_⟩
          refine ⟨_, rfl, _, _, .tuple ds, rfl, .tup ha hds, by decide, _, rfl, iteFb (show (!tyIs "tuple" "tuple") = false by decide) ?_⟩
          refine ⟨_, rfl, _, _, rfl, .inr ⟨_, ha, rfl⟩, _, rfl, _, _, rfl, .inr ⟨_, hb, rfl⟩, rfl, _, rfl, iteFb (by rw [lx, ly, decide_eq_true rfl]; rfl) ?_⟩
          refine ⟨_, rfl, _, rfl, a, b, rfl, ⟨_, ha⟩, ⟨_, hb⟩, fun D hD => ?_⟩
          refine comp_zip (xs := xs) (ys := ys) (fun i σ' H' => (∃ v1 v2, σ' = [v1, v2]) ∧ Same H H' ∧ H' D = some (.lst ((List.replicate i true).map V.bl))) ⟨⟨_, _, rfl⟩, same_upd hD, upd_same⟩ (fun i σ' H' _ p => ?_) (fun σ' H' p => ?_) ?_
          · exact ⟨p.2.1.seqT ha, p.2.1.seqT hb⟩
          · obtain ⟨_, sm, e⟩ := p
            refine ⟨D, _, rfl, SqL.of e, ?_⟩
            have := k H' sm
            rw [← show (List.replicate (min xs.length ys.length) true).all id = true by simp] at this
            exact this
          · rintro i x y p σ' H' hx hy hp ⟨⟨v1, v2, rfl⟩, sm, e⟩
            obtain ⟨d1, hd1, dx⟩ := dats_get hds hx
            obtain ⟨d2, hd2, dy⟩ := dats_get hes hy
            rw [hd1] at hd2
            cases hd2
            have s3 := same_upd (o := HO.tup [x, y]) hp
            have st := sm.trans s3
            have hi : i < 10 := Nat.lt_of_lt_of_le (List.getElem?_eq_some_iff.mp hd1).1 hd.1
            refine ⟨p, _, rfl, SqT.of upd_same, rfl, _, _, rfl, _, _, rfl, rfl, ?_⟩
            refine ⟨_, rfl, _, rfl, d1, x, y, rfl, dx.same st _ _, dy.same st _ _, hd.2 d1 (List.mem_of_getElem? hd1), fun H3 s4 => ?_⟩
            refine ⟨_, s4 _ _ (s3 _ _ e), by rw [List.length_map, List.length_replicate]; exact small1000 (by omega), ⟨_, _, rfl⟩, (st.trans s4).set hD, ?_⟩
            rw [upd_same, List.replicate_succ', List.map_append]
            rfl
      | non => exact hd.elim
      | bl b => exact hd.elim
      | lst _ _ => exact hd.elim
end
end Wy
namespace Wy
open PySem L2 PySem.StrLaws
abbrev Atm := Str × List Key
abbrev Chc := Str × Key × Key
def sgs : List Str := ["=", "!=", "<"]
def AOk (A : Atm) : Prop := WOk A.1 ∧ A.2.length ≤ 4 ∧ ∀ k ∈ A.2, TmOk k
def COk (C : Chc) : Prop := C.1 ∈ sgs ∧ TmOk C.2.1 ∧ TmOk C.2.2
def atomS (A : Atm) : Str := A.1 ++ rowS A.2
def blS : Str := " "
def choiceS (C : Chc) : Str := Str.join blS [shownK C.2.1, C.1, shownK C.2.2]
def semS : Str := "; "
def ifS : Str := " if "
def bodyS (As : List Atm) (Cs : List Chc) : List Str := As.map atomS ++ Cs.map choiceS
def ruleS (h : Atm) (As : List Atm) (Cs : List Chc) : Str := if bodyS As Cs = [] then atomS h else atomS h ++ ifS ++ Str.join semS (bodyS As Cs)
theorem bl_signs : blS.cps.toList = 32 :: [] := by decide +kernel
theorem sem_signs : semS.cps.toList = 59 :: [32] := by decide +kernel
theorem if_signs : ifS.cps.toList = [32, 105, 102, 32] := by decide +kernel
theorem if_len : ifS.length = 4 := by decide +kernel
def okC (c : Nat) : Prop := c ≠ 32 ∧ c ≠ 40 ∧ c ≠ 59
theorem fur_okC : ∀ c ∈ fur.cps.toList, c ≠ 32 ∧ c ≠ 40 ∧ c ≠ 59 := by decide +kernel
theorem small_okC : ∀ c ∈ small.cps.toList, c ≠ 32 ∧ c ≠ 40 ∧ c ≠ 59 := by decide +kernel
theorem caps_okC : ∀ c ∈ capS.cps.toList, c ≠ 32 ∧ c ≠ 40 ∧ c ≠ 59 := by decide +kernel
theorem sgs_okC : ∀ z ∈ sgs, ∀ c ∈ z.cps.toList, c ≠ 32 ∧ c ≠ 40 ∧ c ≠ 59 := by decide +kernel
theorem sgs_len : ∀ z ∈ sgs, z.length ≤ 2 ∧ PyData.strOk z = true := by decide +kernel
theorem txt_okC {fs z : Str} (hf : ∀ c ∈ fs.cps.toList, c ≠ 32 ∧ c ≠ 40 ∧ c ≠ 59) (h : txtB fs z = true) : ∀ c ∈ z.cps.toList, okC c := by
  have hl := txtB_le h
  rw [txtB_ok hl.1 hl.2] at h
  obtain ⟨c, r, e⟩ := split_list hl.1
  rw [e] at h ⊢
  have h' : (decide (c ∈ fs.cps.toList) && r.all fun d => decide (d ∈ fur.cps.toList)) = true := h
  rw [Bool.and_eq_true] at h'
  intro d hd
  rcases List.mem_cons.mp hd with rfl | hd
  · exact hf _ (of_decide_eq_true h'.1)
  · exact fur_okC d (of_decide_eq_true (List.all_eq_true.mp h'.2 d hd))
theorem shown_okC : ∀ {k : Key}, TmOk k → ∀ c ∈ (shownK k).cps.toList, okC c
  | .inl i, _, c, h => by
    rcases num_two i with ⟨m, _, q⟩ | ⟨m, _, _, q⟩
    · rw [q] at h
      have := digits_all m _ h
      refine ⟨?_, ?_, ?_⟩ <;> omega
    · rw [q] at h
      rcases List.mem_cons.mp h with h | h
      · refine ⟨?_, ?_, ?_⟩ <;> omega
      · have := digits_all m _ h
        refine ⟨?_, ?_, ?_⟩ <;> omega
  | .inr z, h, c, q => by
    rcases h.1 with h | h
    · exact txt_okC small_okC h c q
    · exact txt_okC caps_okC h c q
theorem join_mem {y : Str} {c : Nat} : ∀ {ws : List Str}, c ∈ (Str.join y ws).cps.toList → c ∈ y.cps.toList ∨ ∃ w ∈ ws, c ∈ w.cps.toList
  | [], h => by
    have : (Str.join y []).cps.toList = [] := rfl
    rw [this] at h
    cases h
  | [w], h => .inr ⟨w, List.mem_singleton.mpr rfl, h⟩
  | w :: w' :: r, h => by
    rw [join_cons2, str_app, str_app, List.append_assoc] at h
    rcases List.mem_append.mp h with h | h
    · exact .inr ⟨w, List.mem_cons_self .., h⟩
    · rcases List.mem_append.mp h with h | h
      · exact .inl h
      · rcases join_mem h with h | ⟨x, hx, h⟩
        · exact .inl h
        · exact .inr ⟨x, List.mem_cons_of_mem _ hx, h⟩
theorem par_o : ("(" : Str).cps.toList = [40] := by decide +kernel
theorem par_c : (")" : Str).cps.toList = [41] := by decide +kernel
theorem atom_list (A : Atm) : (atomS A).cps.toList = A.1.cps.toList ++ (40 :: ((Str.join comS (A.2.map shownK)).cps.toList ++ [41])) := by
  unfold atomS rowS
  rw [str_app, str_app, str_app, par_o, par_c, List.append_assoc]
  rfl
theorem atom_no59 {A : Atm} (h : AOk A) : 59 ∉ (atomS A).cps.toList := fun q => by
  rw [atom_list] at q
  rcases List.mem_append.mp q with q | q
  · exact (txt_okC small_okC h.1.1 _ q).2.2 rfl
  · rcases List.mem_cons.mp q with q | q
    · cases q
    · rcases List.mem_append.mp q with q | q
      · rcases join_mem q with q | ⟨w, hw, q⟩
        · rw [com_signs] at q
          simp at q
        · obtain ⟨k, hk, rfl⟩ := List.mem_map.mp hw
          exact (shown_okC (h.2.2 k hk) _ q).2.2 rfl
      · simp at q
theorem atom_40 (A : Atm) : 40 ∈ (atomS A).cps.toList := by
  rw [atom_list]
  exact List.mem_append_right _ (List.mem_cons_self ..)
theorem choice_mem {C : Chc} (h : COk C) {c : Nat} (q : c ∈ (choiceS C).cps.toList) : c = 32 ∨ okC c := by
  rcases join_mem q with q | ⟨w, hw, q⟩
  · rw [bl_signs] at q
    exact .inl (List.mem_singleton.mp q)
  · simp only [List.mem_cons, List.not_mem_nil, or_false] at hw
    rcases hw with rfl | rfl | rfl
    · exact .inr (shown_okC h.2.1 _ q)
    · exact .inr (sgs_okC _ h.1 _ q)
    · exact .inr (shown_okC h.2.2 _ q)
theorem choice_no {C : Chc} (h : COk C) : 59 ∉ (choiceS C).cps.toList ∧ 40 ∉ (choiceS C).cps.toList := ⟨fun q => by
  rcases choice_mem h q with z | z
  · cases z
  · exact z.2.2 rfl, fun q => by
  rcases choice_mem h q with z | z
  · cases z
  · exact z.2.1 rfl⟩
def NB (z : List Nat) : Prop := ∀ u v, z = u ++ 32 :: v → ∃ u', u = u' ++ [44]
theorem nb_free {z : List Nat} (h : 32 ∉ z) : NB z := fun u v e => absurd (by rw [e]; exact List.mem_append_right _ (List.mem_cons_self ..)) h
theorem nb_app {a b : List Nat} (ha : NB a) (hb : NB b) : NB (a ++ b) := fun u v e => by
  rcases List.append_eq_append_iff.mp e with ⟨c, h1, h2⟩ | ⟨c, h1, h2⟩
  · obtain ⟨u', e1⟩ := hb c v h2
    exact ⟨a ++ u', by rw [h1, e1, List.append_assoc]⟩
  · cases c with
    | nil =>
      obtain ⟨u', e1⟩ := hb [] v (by simpa using h2.symm)
      exact absurd e1 (by simp)
    | cons x c =>
      rw [List.cons_append] at h2
      injection h2 with h3 _
      subst h3
      exact ha u c h1
theorem nb_com {J : List Nat} (h : NB J) : NB (44 :: 32 :: J) := fun u v e => by
  match u, e with
  | [], e => injection e with e _; cases e
  | [x], e =>
    injection e with e _
    subst e
    exact ⟨[], rfl⟩
  | x :: y :: u, e =>
    injection e with e1 e
    injection e with e2 e
    subst e1 e2
    obtain ⟨u', e3⟩ := h u v e
    exact ⟨44 :: 32 :: u', by rw [e3]; rfl⟩
theorem nb_join : ∀ {ws : List Str}, (∀ w ∈ ws, 32 ∉ w.cps.toList) → NB (Str.join comS ws).cps.toList
  | [], _ => nb_free (by show 32 ∉ ([] : List Nat); simp)
  | [w], h => nb_free (h w (List.mem_singleton.mpr rfl))
  | w :: w' :: r, h => by
    rw [join_cons2, str_app, str_app, List.append_assoc, com_signs]
    exact nb_app (nb_free (h w (List.mem_cons_self ..))) (nb_com (nb_join fun x hx => h x (List.mem_cons_of_mem _ hx)))
theorem nb_atom {A : Atm} (h : AOk A) : NB (atomS A).cps.toList := by
  rw [atom_list]
  refine nb_app (nb_free fun q => (txt_okC small_okC h.1.1 _ q).1 rfl) ?_
  rw [show (40 :: ((Str.join comS (A.2.map shownK)).cps.toList ++ [41])) = [40] ++ ((Str.join comS (A.2.map shownK)).cps.toList ++ [41]) from rfl]
  refine nb_app (nb_free (by simp)) (nb_app (nb_join fun w hw => ?_) (nb_free (by simp)))
  obtain ⟨k, hk, rfl⟩ := List.mem_map.mp hw
  exact fun q => (shown_okC (h.2.2 k hk) _ q).1 rfl
theorem no_if {A : Atm} (h : AOk A) {x : Str} {r : List Nat} (ex : x.cps.toList = (atomS A).cps.toList ++ r) {i : Nat} (hi : i < (atomS A).cps.toList.length) : ¬ At x ifS x.length i := fun q => by
  have q2 := (at_iff.mp q).2
  rw [if_signs, if_len] at q2
  have g : ∀ j c, [32, 105, 102, 32][j]? = some c → x.cps.toList[i + j]? = some c := fun j c hc => by
    rw [← q2, List.getElem?_take] at hc
    split at hc
    · rwa [List.getElem?_drop] at hc
    · cases hc
  have g0 := g 0 32 rfl
  have g1 := g 1 105 rfl
  have g2 := g 2 102 rfl
  have g3 := g 3 32 rfl
  have nb := nb_atom h
  have last : (atomS A).cps.toList[(atomS A).cps.toList.length - 1]? = some 41 := by
    rw [atom_list]
    rw [← List.getLast?_eq_getElem?]
    rw [List.getLast?_append, List.getLast?_cons, List.getLast?_append]
    simp
  rw [ex] at g0 g1 g2 g3
  generalize (atomS A).cps.toList = a at *
  by_cases h3 : i + 3 < a.length
  · rw [List.getElem?_append_left h3] at g3
    rw [List.getElem?_append_left (by omega)] at g2
    have hs : a = a.take (i + 3) ++ 32 :: a.drop (i + 4) := by
      have hg := (List.getElem?_eq_some_iff.mp g3).2
      rw [← hg, ← List.drop_eq_getElem_cons h3, List.take_append_drop]
    obtain ⟨u', eu⟩ := nb _ _ hs
    have l1 : (a.take (i + 3)).length = i + 3 := by rw [List.length_take]; omega
    have l2 : u'.length = i + 2 := by rw [eu, List.length_append] at l1; simp at l1; omega
    have : (a.take (i + 3))[i + 2]? = some 44 := by
      rw [eu, ← l2, List.getElem?_append_right (Nat.le_refl _), Nat.sub_self]
      rfl
    rw [List.getElem?_take_of_lt (by omega), g2] at this
    cases this
  · have key : ∀ j c, i + j = a.length - 1 → (a ++ r)[i + j]? = some c → c = 41 := fun j c e hc => by
      rw [List.getElem?_append_left (by omega), e, last] at hc
      injection hc with hc
      exact hc.symm
    rcases (show i + 0 = a.length - 1 ∨ i + 1 = a.length - 1 ∨ i + 2 = a.length - 1 by omega) with e | e | e
    · have := key 0 32 e g0; cases this
    · have := key 1 105 e g1; cases this
    · have := key 2 102 e g2; cases this
theorem part_first {a y b : Str} (hw : 1 ≤ y.length) (hn : ∀ i, i < a.cps.toList.length → ¬ At (a ++ y ++ b) y (a ++ y ++ b).length i) : partS (a ++ y ++ b) y = [a, y, b] := by
  have ex : (a ++ y ++ b).cps.toList = a.cps.toList ++ (y.cps.toList ++ b.cps.toList) := by rw [str_app, str_app, List.append_assoc]
  have hA : At (a ++ y ++ b) y (a ++ y ++ b).length (0 + a.cps.toList.length) := at_mid (Nat.zero_le _) (by rw [List.drop_zero]; exact ex)
  unfold partS
  rcases occ_head (a ++ y ++ b) y 1 (Nat.le_refl _) with ⟨_, h⟩ | ⟨i, r, e, h1, h2⟩
  · exact absurd hA (h _)
  · rw [e]
    have ei : i = a.cps.toList.length := by
      rcases Nat.lt_trichotomy i a.cps.toList.length with h | h | h
      · exact absurd h1 (hn i h)
      · exact h
      · exact absurd hA (h2 _ (by omega))
    subst ei
    show [Builtin.Str.strSub _ 0 _, y, Builtin.Str.strSub _ _ _] = _
    rw [show Builtin.Str.strSub (a ++ y ++ b) 0 a.cps.toList.length = a from str_ext (by rw [strSub_toList, ex, List.drop_zero, Nat.sub_zero, List.take_append_of_le_length (Nat.le_refl _), List.take_length]),
      show Builtin.Str.strSub (a ++ y ++ b) (a.cps.toList.length + y.length) (a ++ y ++ b).length = b from str_ext (by
        rw [strSub_toList, ex, ← List.drop_drop, List.drop_append_of_le_length (Nat.le_refl _), List.drop_length, List.nil_append, ← str_len y, List.drop_append_of_le_length (Nat.le_refl _), List.drop_length, List.nil_append, List.take_of_length_le]
        rw [Str.length_append, Str.length_append, str_len, str_len, str_len]
        omega)]
theorem part_if {A : Atm} (h : AOk A) (b : Str) : partS (atomS A ++ ifS ++ b) ifS = [atomS A, ifS, b] :=
  part_first (by rw [if_len]; decide) fun i hi => no_if h (r := ifS.cps.toList ++ b.cps.toList) (by rw [str_app, str_app, List.append_assoc]) hi
theorem part_noif {A : Atm} (h : AOk A) : partS (atomS A) ifS = [atomS A, Str.empty, Str.empty] := by
  unfold partS
  rcases occ_head (atomS A) ifS 1 (Nat.le_refl _) with ⟨e, _⟩ | ⟨i, r, e, h1, _⟩
  · rw [e]
  · refine absurd h1 (no_if h (r := []) (by rw [List.append_nil]) ?_)
    have := h1.1
    rw [if_len, ← str_len] at this
    omega
theorem split_body {As : List Atm} {Cs : List Chc} (ha : ∀ A ∈ As, AOk A) (hc : ∀ C ∈ Cs, COk C) (ne : bodyS As Cs ≠ []) : cutsS (Str.join semS (bodyS As Cs)) semS = bodyS As Cs :=
  split_join sem_signs (by decide +kernel) ne fun w hw => by
    rcases List.mem_append.mp hw with hw | hw
    · obtain ⟨A, hA, rfl⟩ := List.mem_map.mp hw
      exact atom_no59 (ha A hA)
    · obtain ⟨C, hC, rfl⟩ := List.mem_map.mp hw
      exact (choice_no (hc C hC)).1
theorem split_choice {C : Chc} (h : COk C) : cutsS (choiceS C) blS = [shownK C.2.1, C.1, shownK C.2.2] :=
  split_join bl_signs (by decide +kernel) (by simp) fun w hw => by
    simp only [List.mem_cons, List.not_mem_nil, or_false] at hw
    rcases hw with rfl | rfl | rfl
    · exact fun q => (shown_okC h.2.1 _ q).1 rfl
    · exact fun q => (sgs_okC _ h.1 _ q).1 rfl
    · exact fun q => (shown_okC h.2.2 _ q).1 rfl
theorem atom_le {A : Atm} (h : AOk A) : (atomS A).length ≤ 650 := by
  have h1 := (txtB_le h.1.1).2
  have h2 := row_le h.2.2 (show A.2.length ≤ 10 by have := h.2.1; omega)
  unfold atomS
  rw [Str.length_append]
  omega
theorem choice_le {C : Chc} (h : COk C) : (choiceS C).length ≤ 126 := by
  have h1 := (shown_le h.2.1).2
  have h2 := (shown_le h.2.2).2
  have h3 := (sgs_len _ h.1).1
  unfold choiceS
  rw [join_cons2, join_cons2, Str.length_append, Str.length_append, Str.length_append, Str.length_append, show blS.length = 1 by decide +kernel]
  show _ + 1 + (_ + 1 + (shownK C.2.2).length) ≤ 126
  omega
end Wy
namespace Wy
open PySem L2
def AtV (H : Hp) (x : V) (A : Atm) : Prop := ∃ q p, x = .ref q ∧ H q = some (.tup [.str A.1, .ref p]) ∧ H p = some (.tup (A.2.map kV))
def ChV (H : Hp) (x : V) (C : Chc) : Prop := ∃ q, x = .ref q ∧ H q = some (.tup [.str C.1, kV C.2.1, kV C.2.2])
theorem AtV.same {H H' : Hp} {x : V} {A : Atm} (s : Same H H') (h : AtV H x A) : AtV H' x A := let ⟨q, p, e, h1, h2⟩ := h; ⟨q, p, e, s _ _ h1, s _ _ h2⟩
theorem ChV.same {H H' : Hp} {x : V} {C : Chc} (s : Same H H') (h : ChV H x C) : ChV H' x C := let ⟨q, e, h1⟩ := h; ⟨q, e, s _ _ h1⟩
theorem AtV.upd {H : Hp} {D : Addr} {l : List V} {o : HO} {x : V} {A : Atm} (hD : H D = some (.lst l)) (h : AtV H x A) : AtV (upd H D o) x A := by
  obtain ⟨q, p, e, h1, h2⟩ := h
  exact ⟨q, p, e, by rw [upd_ne (fun z => by rw [z, hD] at h1; cases h1)]; exact h1, by rw [upd_ne (fun z => by rw [z, hD] at h2; cases h2)]; exact h2⟩
theorem ChV.upd {H : Hp} {D : Addr} {l : List V} {o : HO} {x : V} {C : Chc} (hD : H D = some (.lst l)) (h : ChV H x C) : ChV (upd H D o) x C := by
  obtain ⟨q, e, h1⟩ := h
  exact ⟨q, e, by rw [upd_ne (fun z => by rw [z, hD] at h1; cases h1)]; exact h1⟩
def RlV (H : Hp) (x : V) (h : Atm) (As : List Atm) (Cs : List Chc) : Prop := ∃ r b c hx xs ys, x = .ref r ∧ H r = some (.tup [hx, .ref b, .ref c]) ∧ AtV H hx h ∧ H b = some (.tup xs) ∧ Paired (AtV H) xs As ∧ H c = some (.tup ys) ∧ Paired (ChV H) ys Cs
theorem RlV.same {H H' : Hp} {x : V} {h : Atm} {As : List Atm} {Cs : List Chc} (s : Same H H') (q : RlV H x h As Cs) : RlV H' x h As Cs :=
  let ⟨r, b, c, hx, xs, ys, e, h1, h2, h3, h4, h5, h6⟩ := q
  ⟨r, b, c, hx, xs, ys, e, s _ _ h1, h2.same s, s _ _ h3, L2.Paired.mapP h4 fun _ _ z => z.same s, s _ _ h5, L2.Paired.mapP h6 fun _ _ z => z.same s⟩
def RlS (K : PySem.W.Frag) (H : Hp) (x : V) (h : Atm) (As : List Atm) (Cs : List Chc) : Prop := ∃ r b c hx xs ys, x = .ref r ∧ H r = some (.tup [hx, .ref b, .ref c]) ∧ AtV H hx h ∧ SqT K H b xs ∧ Paired (AtV H) xs As ∧ SqT K H c ys ∧ Paired (ChV H) ys Cs
theorem RlV.s {K : PySem.W.Frag} {H : Hp} {x : V} {h : Atm} {As : List Atm} {Cs : List Chc} (q : RlV H x h As Cs) : RlS K H x h As Cs := let ⟨r, b, c, hx, xs, ys, e, h1, h2, h3, h4, h5, h6⟩ := q; ⟨r, b, c, hx, xs, ys, e, h1, h2, SqT.of h3, h4, SqT.of h5, h6⟩
def GoodR (h : Atm) (As : List Atm) (Cs : List Chc) : Prop := AOk h ∧ (∀ A ∈ As, AOk A) ∧ (∀ C ∈ Cs, COk C) ∧ As.length ≤ 9 ∧ Cs.length ≤ 9
theorem lt_of_ok {z : Str} (h : PyData.strOk z = true) : ∀ c ∈ z.cps.toList, c < 0x110000 := by
  unfold PyData.strOk at h
  rw [← Array.all_toList, List.all_eq_true] at h
  exact fun c hc => of_decide_eq_true (h c hc)
theorem shown_lt {k : Key} (h : TmOk k) : ∀ c ∈ (shownK k).cps.toList, c < 0x110000 := by
  cases k with
  | inl i => exact lt_of_ok (strOk_num i)
  | inr z => exact lt_of_ok h.2
theorem atom_okS {A : Atm} (h : AOk A) : PyData.strOk (atomS A) = true := by
  refine strOk_of fun c q => ?_
  rw [atom_list] at q
  rcases List.mem_append.mp q with q | q
  · exact lt_of_ok h.1.2 c q
  · rcases List.mem_cons.mp q with q | q
    · omega
    · rcases List.mem_append.mp q with q | q
      · rcases join_mem q with q | ⟨w, hw, q⟩
        · rw [com_signs] at q
          simp at q
          omega
        · obtain ⟨k, hk, rfl⟩ := List.mem_map.mp hw
          exact shown_lt (h.2.2 k hk) _ q
      · simp at q
        omega
theorem choice_okS {C : Chc} (h : COk C) : PyData.strOk (choiceS C) = true := by
  refine strOk_of fun c q => ?_
  rcases join_mem q with q | ⟨w, hw, q⟩
  · rw [bl_signs] at q
    simp at q
    omega
  · simp only [List.mem_cons, List.not_mem_nil, or_false] at hw
    rcases hw with rfl | rfl | rfl
    · exact shown_lt h.2.1 _ q
    · exact lt_of_ok (sgs_len _ h.1).2 _ q
    · exact shown_lt h.2.2 _ q
theorem body_ok {h : Atm} {As : List Atm} {Cs : List Chc} (g : GoodR h As Cs) : ∀ w ∈ bodyS As Cs, PyData.strOk w = true ∧ w.length ≤ 650 := fun w hw => by
  rcases List.mem_append.mp hw with hw | hw
  · obtain ⟨A, hA, rfl⟩ := List.mem_map.mp hw
    exact ⟨atom_okS (g.2.1 A hA), atom_le (g.2.1 A hA)⟩
  · obtain ⟨C, hC, rfl⟩ := List.mem_map.mp hw
    exact ⟨choice_okS (g.2.2.1 C hC), Nat.le_trans (choice_le (g.2.2.1 C hC)) (by decide)⟩
theorem body_len {h : Atm} {As : List Atm} {Cs : List Chc} (g : GoodR h As Cs) : (bodyS As Cs).length ≤ 18 := by
  have := g.2.2.2
  unfold bodyS
  rw [List.length_append, List.length_map, List.length_map]
  omega
theorem sum_650 : ∀ {ws : List Str}, (∀ w ∈ ws, w.length ≤ 650) → (ws.map (·.length)).sum ≤ 650 * ws.length
  | [], _ => Nat.le_refl _
  | w :: ws, h => by
    have h1 := h w (List.mem_cons_self ..)
    have h2 := sum_650 fun x hx => h x (List.mem_cons_of_mem _ hx)
    simp only [List.map_cons, List.sum_cons, List.length_cons] at *
    omega
theorem dats_txt {K : PySem.W.Frag} {H : Hp} : ∀ {ws : List Str}, (∀ w ∈ ws, PyData.strOk w = true) → Dats K H (ws.map .str) (ws.map V.str)
  | [], _ => .nil
  | w :: ws, h => .cons (.str w (h w (List.mem_cons_self ..))) (dats_txt fun x hx => h x (List.mem_cons_of_mem _ hx))
theorem depth_txt (ws : List Str) : PyData.depth (.list (ws.map .str)) ≤ 60 := by
  have : PyData.depthAll (ws.map .str) = 0 := by
    induction ws with
    | nil => rfl
    | cons w ws ih =>
      show max (PyData.depth (.str w)) (PyData.depthAll (ws.map .str)) = 0
      rw [ih]
      rfl
  show PyData.depthAll (ws.map .str) + 1 ≤ 60
  rw [this]
  decide
theorem eqv_nil (ws : List Str) : PyData.eqv (.list (ws.map .str)) (.list []) = decide (ws = []) := by
  cases ws with
  | nil => decide
  | cons w ws =>
    rw [decide_eq_false (by simp)]
    rfl
theorem semjoin_le {h : Atm} {As : List Atm} {Cs : List Chc} (g : GoodR h As Cs) : (Str.join semS (bodyS As Cs)).length ≤ 12000 := by
  have h1 := join_len semS (bodyS As Cs)
  have h2 := sum_650 fun w hw => (body_ok g w hw).2
  have h3 := body_len g
  rw [show semS.length = 2 by decide +kernel] at h1
  omega
section
variable {P : Program} {w : World} {K : PySem.W.Frag} {mg : Str → Option Value} {base : Heap}
def sp_showr (K : PySem.W.Frag) : Sp := fun vs H Q _ => ∃ (x : V) (h : Atm) (As : List Atm) (Cs : List Chc), vs = [x] ∧ RlS K H x h As Cs ∧ GoodR h As Cs ∧ ∀ H', Same H H' → Q (.str (ruleS h As Cs)) H'
end
end Wy
namespace Wy
open PySem L2
def atomD (A : Atm) : PyData := .tuple [.str A.1, .tuple (A.2.map keyD)]
def choiceD (C : Chc) : PyData := .tuple [.str C.1, keyD C.2.1, keyD C.2.2]
def ruleD (h : Atm) (As : List Atm) (Cs : List Chc) : PyData := .tuple [atomD h, .tuple (As.map atomD), .tuple (Cs.map choiceD)]
theorem dats_tm {K : PySem.W.Frag} {H : Hp} : ∀ {ks : List Key}, (∀ k ∈ ks, TmOk k) → Dats K H (ks.map keyD) (ks.map kV)
  | [], _ => .nil
  | k :: ks, h => .cons (dat_tm (h k (List.mem_cons_self ..))) (dats_tm fun x hx => h x (List.mem_cons_of_mem _ hx))
theorem dat_atom {K : PySem.W.Frag} {H : Hp} {x : V} {A : Atm} (g : AOk A) (h : AtV H x A) : Dat K H (atomD A) x := by
  obtain ⟨q, p, rfl, h1, h2⟩ := h
  exact .tup (SqT.of h1) (.cons (.str _ g.1.2) (.cons (.tup (SqT.of h2) (dats_tm g.2.2)) .nil))
theorem dat_choice {K : PySem.W.Frag} {H : Hp} {x : V} {C : Chc} (g : COk C) (h : ChV H x C) : Dat K H (choiceD C) x := by
  obtain ⟨q, rfl, h1⟩ := h
  exact .tup (SqT.of h1) (.cons (.str _ (sgs_len _ g.1).2) (.cons (dat_tm g.2.1) (.cons (dat_tm g.2.2) .nil)))
theorem dats_of {K : PySem.W.Frag} {H : Hp} {α : Type} {F : V → α → Prop} {G : α → Prop} {f : α → PyData} (hf : ∀ x a, F x a → G a → Dat K H (f a) x) : ∀ {xs : List V} {as : List α}, Paired F xs as → (∀ a ∈ as, G a) → Dats K H (as.map f) xs
  | _, _, .nil, _ => .nil
  | _, _, .cons h t, g => .cons (hf _ _ h (g _ (List.mem_cons_self ..))) (dats_of hf t fun a ha => g a (List.mem_cons_of_mem _ ha))
theorem dat_rule {K : PySem.W.Frag} {H : Hp} {x : V} {h : Atm} {As : List Atm} {Cs : List Chc} (g : GoodR h As Cs) (q : RlV H x h As Cs) : Dat K H (ruleD h As Cs) x := by
  obtain ⟨r, b, c, hx, xs, ys, rfl, h1, h2, h3, h4, h5, h6⟩ := q
  exact .tup (SqT.of h1) (.cons (dat_atom g.1 h2) (.cons (.tup (SqT.of h3) (dats_of (fun _ _ p q => dat_atom q p) h4 g.2.1)) (.cons (.tup (SqT.of h5) (dats_of (fun _ _ p q => dat_choice q p) h6 g.2.2.1)) .nil)))
theorem okD_key (n : Nat) {k : Key} (h : TmOk k) : okD n (keyD k) := by
  have := (shown_le h).2
  cases k with
  | inl i => cases n <;> exact trivial
  | inr z =>
    have e : (shownK (.inr z)).length = z.length := rfl
    have h2 : z.length ≤ 20000 := by omega
    cases n <;> exact h2
theorem okD_str2 (n : Nat) {z : Str} (h : z.length ≤ 20000) : okD n (.str z) := by cases n <;> exact h
theorem okD_atom (n : Nat) {A : Atm} (g : AOk A) : okD (n + 2) (atomD A) := by
  refine ⟨by show 2 ≤ 10; decide, fun d hd => ?_⟩
  have tl := (txtB_le g.1.1).2
  rcases List.mem_cons.mp hd with rfl | hd
  · exact okD_str2 (n + 1) (by omega)
  · rw [List.mem_singleton.mp hd]
    refine ⟨by rw [List.length_map]; have := g.2.1; omega, fun e he => ?_⟩
    obtain ⟨k, hk, rfl⟩ := List.mem_map.mp he
    exact okD_key n (g.2.2 k hk)
theorem okD_choice {C : Chc} (g : COk C) : okD 2 (choiceD C) := by
  refine ⟨by show 3 ≤ 10; decide, fun d hd => ?_⟩
  rcases List.mem_cons.mp hd with rfl | hd
  · exact okD_str2 1 (by have := (sgs_len _ g.1).1; omega)
  · rcases List.mem_cons.mp hd with rfl | hd
    · exact okD_key 1 g.2.1
    · rw [List.mem_singleton.mp hd]
      exact okD_key 1 g.2.2
theorem okD_rule {h : Atm} {As : List Atm} {Cs : List Chc} (g : GoodR h As Cs) : okD 4 (ruleD h As Cs) := by
  refine ⟨by show 3 ≤ 10; decide, fun d hd => ?_⟩
  rcases List.mem_cons.mp hd with rfl | hd
  · exact okD_atom 1 g.1
  · rcases List.mem_cons.mp hd with rfl | hd
    · refine ⟨by rw [List.length_map]; have := g.2.2.2.1; omega, fun e he => ?_⟩
      obtain ⟨A, hA, rfl⟩ := List.mem_map.mp he
      exact okD_atom 0 (g.2.1 A hA)
    · rw [List.mem_singleton.mp hd]
      refine ⟨by rw [List.length_map]; have := g.2.2.2.2; omega, fun e he => ?_⟩
      obtain ⟨C, hC, rfl⟩ := List.mem_map.mp he
      exact okD_choice (g.2.2.1 C hC)
theorem body_ch {As : List Atm} {Cs : List Chc} {i : Nat} {w : Str} (h : (bodyS As Cs)[i]? = some w) (q : As.length ≤ i) : ∃ C ∈ Cs, w = choiceS C := by
  unfold bodyS at h
  rw [List.getElem?_append_right (by rw [List.length_map]; exact q), List.getElem?_map] at h
  obtain ⟨C, hC, rfl⟩ := Option.map_eq_some_iff.mp h
  exact ⟨C, List.mem_of_getElem? hC, rfl⟩
theorem body_at {As : List Atm} {Cs : List Chc} {i : Nat} {w : Str} (h : (bodyS As Cs)[i]? = some w) (q : i < As.length) : ∃ A ∈ As, w = atomS A := by
  unfold bodyS at h
  rw [List.getElem?_append_left (by rw [List.length_map]; exact q), List.getElem?_map] at h
  obtain ⟨A, hA, rfl⟩ := Option.map_eq_some_iff.mp h
  exact ⟨A, List.mem_of_getElem? hA, rfl⟩
theorem sgs_in : ∀ z ∈ sgs, ([PyData.str "=", .str "!=", .str "<"].any fun y => PyData.eqv y (.str z)) = true := by decide +kernel
section
variable {P : Program} {w : World} {K : PySem.W.Frag} {mg : Str → Option Value} {base : Heap}
def sp_rchoice : Sp := fun vs H Q _ => ∃ C : Chc, vs = [.str (choiceS C)] ∧ COk C ∧ ∀ q H', Same H H' → H' q = some (.tup [.str C.1, kV C.2.1, kV C.2.2]) → Q (.ref q) H'
theorem ok_read_choice (T : Txt K mg) : Def P w K mg base 5 "read_choice" ["text"] sp_rchoice := by
  refine T.t_read_choice.ok sc_read_choice (fun vs H Q E h => ?_) fun f cdv A outer s H vs Q E hr h => ?_
  · obtain ⟨C, rfl, _⟩ := h
    rfl
  · obtain ⟨⟨sg, a, b⟩, rfl, hC, k⟩ := h
    have cl := choice_le hC
    have es := split_choice hC
    refine ⟨_, (pss_3
      (ps_set (i := 1) sc_read_choice.nd rfl (Or.inl rfl) (pe_bm PySem.F.plainAttrs_str PySem.F.slot_str_split PySem.F.type_str_split mt_split (pv 0) (pa_1 pe_str)))
      (ps_expr (pe_def (ok_ask_written T) hr rfl (pa_1 (pe_and (pe_cmpR op_eq (pe_callB (call_lenK K) rfl T.b_len bt_len (pa_1 (pv 1))) pe_int (nomark _)) (pe_one (pe_cmpR (op_inTD hr.units K) (pe_ix (ix_listK K) (pv 1) pe_int (fun _ _ => rfl)) (pe_globR rfl T.g_SIGNS) (by with_unfolding_all rfl)))))))
      (ps_ret (pe_tup (pa_3 (pe_ix (ix_listK K) (pv 1) pe_int (fun _ _ => rfl)) (pe_def (ok_read_term T) hr rfl (pa_1 (pe_ix (ix_listK K) (pv 1) pe_int (fun _ _ => rfl)))) (pe_def (ok_read_term T) hr rfl (pa_1 (pe_ix (ix_listK K) (pv 1) pe_int (fun _ _ => rfl)))))))), ?_⟩
    refine ⟨_, rfl, rfl, _, blS, rfl, rfl, by decide +kernel, Nat.le_trans cl (by decide), by rw [es]; exact (show 3 ≤ sizeLine by decide), fun q hq => ?_⟩
    rw [es]
    have s1 := same_upd (o := HO.lst ([shownK a, sg, shownK b].map V.str)) hq
    have hS : SqL K (upd H q (.lst ([shownK a, sg, shownK b].map V.str))) q [.str (shownK a), .str sg, .str (shownK b)] := SqL.of upd_same
    have ds3 : Dat K (upd H q (.lst ([shownK a, sg, shownK b].map V.str))) (.tuple [.str "=", .str "!=", .str "<"]) (.ref (cA mg "SIGNS")) := .tup (T.q_SIGNS.sq _) (.cons (.str _ (by decide +kernel)) (.cons (.str _ (by decide +kernel)) (.cons (.str _ (by decide +kernel)) .nil)))
    refine ⟨_, rfl, _, _, rfl, .inl ⟨_, hS, rfl⟩, rfl, _, rfl, iteTb (decide_eq_true rfl) ?_⟩
    refine ⟨_, rfl, _, _, _, _, rfl, rfl, hS, atI_nat (j := 1) rfl, .str sg, _, .str sg (sgs_len _ hC.1).2, ds3, by decide, ?_⟩
    refine ⟨by rw [sgs_in sg hC.1]; rfl, ?_⟩
    refine ⟨_, rfl, _, _, _, _, rfl, rfl, hS, atI_nat (j := 1) rfl, _, rfl, _, _, _, _, rfl, rfl, hS, atI_nat (j := 0) rfl, a, rfl, hC.2.1, fun H2 s2 => ?_⟩
    refine ⟨_, rfl, _, _, _, _, rfl, rfl, s2.seq hS, atI_nat (j := 2) rfl, b, rfl, hC.2.2, fun H3 s3 => ?_⟩
    refine ⟨by show 3 ≤ sizeLine; decide, fun r hr' => ?_⟩
    have s4 := same_upd (o := HO.tup [V.str sg, kV a, kV b]) hr'
    exact k r _ (s1.trans (s2.trans (s3.trans s4))) upd_same
def sp_many (K : PySem.W.Frag) : Sp := fun vs H Q _ => ∃ (a : Addr) (As : List Atm) (Cs : List Chc), vs = [.ref a] ∧ SqL K H a ((bodyS As Cs).map V.str) ∧ (∀ C ∈ Cs, COk C) ∧ (∀ A ∈ As, AOk A) ∧ Q (.int As.length) H
theorem ok_many_atoms (T : Txt K mg) : Def P w K mg base 1 "many_atoms" ["parts"] (sp_many K) := by
  refine T.t_many_atoms.ok sc_many_atoms (fun vs H Q E h => ?_) fun f cdv A outer s H vs Q E hr h => ?_
  · obtain ⟨a, As, Cs, rfl, _⟩ := h
    rfl
  · obtain ⟨a, As, Cs, rfl, hS, hC, hA, k⟩ := h
    have lb : (bodyS As Cs).length = As.length + Cs.length := by unfold bodyS; rw [List.length_append, List.length_map, List.length_map]
    have ep : ("(" : Str) = ⟨#[40]⟩ := by decide +kernel
    refine ⟨_, (pss_3
      (ps_set (i := 1) sc_many_atoms.nd rfl (Or.inl rfl) pe_int)
      (ps_while PassesOwn.never (PW.pt (pw_and (pt_cmpR op_lt (pv 1) (pe_callB (call_lenK K) rfl T.b_len bt_len (pa_1 (pv 0))) (nomark _)) (pw_and1 (pt_cmpR op_in_str pe_str (pe_ix (ix_listK K) (pv 0) (pv 1) (fun _ _ => rfl)) (by with_unfolding_all rfl))))) (pss_one (ps_set (i := 1) sc_many_atoms.nd rfl (Or.inl rfl) (pe_op op_add (pv 1) pe_int))))
      (ps_ret (pv 1))), ?_⟩
    refine ⟨fun m σ H' => H' = H ∧ ∃ i : Nat, σ = [some (.ref a), some (.int (i : Int))] ∧ m = As.length - i ∧ i ≤ As.length, ⟨_, rfl, 0, rfl, rfl, Nat.zero_le _⟩, ?_⟩
    rintro m σ H' ⟨rfl, i, rfl, rfl, hi⟩
    refine ⟨_, rfl, _, rfl, _, _, rfl, .inl ⟨_, hS, rfl⟩, _, _, rfl, rfl, _, rfl, ?_⟩
    rw [List.length_map, lb]
    refine ite2 (fun h1 => ?_) (fun h1 => ?_)
    · have h1' : i < As.length + Cs.length := by simp at h1; omega
      have hl : i < (bodyS As Cs).length := by omega
      obtain ⟨w, hg⟩ : ∃ w, (bodyS As Cs)[i]? = some w := ⟨_, List.getElem?_eq_getElem hl⟩
      have hat : atI ((bodyS As Cs).map V.str) (i : Int) = some (V.str w) := atI_nat (by rw [List.getElem?_map, hg]; rfl)
      refine ⟨_, rfl, _, rfl, _, _, _, _, rfl, rfl, hS, hat, _, _, rfl, rfl, _, rfl, ?_⟩
      rw [ep, StrLaws.found_one]
      refine ite2 (fun h2 => ?_) (fun h2 => ?_)
      · have ia : i < As.length := by
          rcases Nat.lt_or_ge i As.length with q | q
          · exact q
          · obtain ⟨C, hC', rfl⟩ := body_ch hg q
            exact absurd (of_decide_eq_true h2) (choice_no (hC _ hC')).2
        refine ⟨fun σ' H2 => H2 = H' ∧ σ' = [some (.ref a), some (.int ((i + 1 : Nat) : Int))], fun σ' H2 z => ⟨As.length - (i + 1), by omega, z.1, i + 1, z.2, rfl, ia⟩, ?_⟩
        exact ⟨_, rfl, _, _, rfl, rfl, rfl, rfl⟩
      · have ia : ¬ i < As.length := fun q => by
          obtain ⟨A, _, rfl⟩ := body_at hg q
          exact h2 (decide_eq_true (atom_40 A))
        have : i = As.length := by omega
        subst this
        exact ⟨_, rfl, k⟩
    · have h1' : ¬ i < As.length + Cs.length := fun q => h1 (by simp; omega)
      have : i = As.length := by omega
      subst this
      exact ⟨_, rfl, k⟩
theorem take_body (As : List Atm) (Cs : List Chc) : ((bodyS As Cs).map V.str).take As.length = (As.map atomS).map V.str := by
  unfold bodyS
  rw [← List.map_take, List.take_append_of_le_length (by rw [List.length_map]; exact Nat.le_refl _), List.take_of_length_le (by rw [List.length_map]; exact Nat.le_refl _)]
theorem drop_body (As : List Atm) (Cs : List Chc) : ((bodyS As Cs).map V.str).drop As.length = (Cs.map choiceS).map V.str := by
  unfold bodyS
  rw [← List.map_drop, List.drop_append_of_le_length (by rw [List.length_map]; exact Nat.le_refl _), List.drop_of_length_le (by rw [List.length_map]; exact Nat.le_refl _), List.nil_append]
theorem cut_head (xs : List V) (n : Nat) : cutV xs none (some (n : Int)) = xs.take n := by
  unfold cutV
  rw [HT.sIx_nat, HT.sIx_none, List.drop_zero, Nat.sub_zero, ← List.take_eq_take_min]
def sp_rbody : Sp := fun vs H Q _ => ∃ (h : Atm) (As : List Atm) (Cs : List Chc), vs = [.str (Str.join semS (bodyS As Cs))] ∧ GoodR h As Cs ∧ bodyS As Cs ≠ [] ∧
  ∀ q b c xs ys H', Same H H' → H' q = some (.tup [.ref b, .ref c]) → H' b = some (.tup xs) → Paired (AtV H') xs As → H' c = some (.tup ys) → Paired (ChV H') ys Cs → Q (.ref q) H'
theorem ok_read_body (T : Txt K mg) : Def P w K mg base 7 "read_body" ["text"] sp_rbody := by
  refine T.t_read_body.ok sc_read_body (fun vs H Q E h => ?_) fun f cdv A outer s H vs Q E hr h => ?_
  · obtain ⟨h, As, Cs, rfl, _⟩ := h
    rfl
  · obtain ⟨h, As, Cs, rfl, g, ne, k⟩ := h
    have es := split_body g.2.1 g.2.2.1 ne
    have bl := body_len g
    have jl := semjoin_le g
    have ga := g.2.2.2.1
    have gc := g.2.2.2.2
    refine ⟨_, (pss_4
      (ps_set (i := 1) sc_read_body.nd rfl (Or.inl rfl) (pe_bm PySem.F.plainAttrs_str PySem.F.slot_str_split PySem.F.type_str_split mt_split (pv 0) (pa_1 pe_str)))
      (ps_set (i := 2) sc_read_body.nd rfl (Or.inl rfl) (pe_def (ok_many_atoms T) hr rfl (pa_1 (pv 1))))
      (ps_set (i := 3) sc_read_body.nd rfl (Or.inl rfl) (pe_callTy (call_tupleK K) rfl T.b_tuple bt_tuple (pa_1 (pe_comp (N := ["part"]) (caps := [none]) rfl (by with_unfolding_all rfl) (pi_listK K (pe_slice (sl_listK K) (pv 1) po_none (po_some (pv 2)))) (fun _ _ _ _ _ => (pg_name (i := 0) (show (["part"] : List Str).Nodup by decide +kernel) rfl (Or.inl rfl))) (fun _ _ _ _ _ => pf_nil) (fun _ _ _ _ _ => (pe_def (ok_read_atom T) hr rfl (pa_1 (pv 0))))))))
      (ps_ret (pe_tup (pa_2 (pv 3) (pe_callTy (call_tupleK K) rfl T.b_tuple bt_tuple (pa_1 (pe_comp (N := ["part"]) (caps := [none]) rfl (by with_unfolding_all rfl) (pi_listK K (pe_slice (sl_listK K) (pv 1) (po_some (pv 2)) po_none)) (fun _ _ _ _ _ => (pg_name (i := 0) (show (["part"] : List Str).Nodup by decide +kernel) rfl (Or.inl rfl))) (fun _ _ _ _ _ => pf_nil) (fun _ _ _ _ _ => (pe_def (ok_read_choice T) hr rfl (pa_1 (pv 0))))))))))), ?_⟩
    refine ⟨_, rfl, rfl, _, semS, rfl, rfl, by decide +kernel, Nat.le_trans jl (by decide), by rw [es]; exact Nat.le_trans bl (by decide), fun q hq => ?_⟩
    rw [es]
    have s1 := same_upd (o := HO.lst ((bodyS As Cs).map V.str)) hq
    have hS : SqL K (upd H q (.lst ((bodyS As Cs).map V.str))) q ((bodyS As Cs).map V.str) := SqL.of upd_same
    refine ⟨_, rfl, q, As, Cs, rfl, hS, g.2.2.1, g.2.1, ?_⟩
    refine ⟨_, rfl, _, rfl, _, rfl, _, _, rfl, hS, fun u hu => ?_⟩
    rw [cut_head, take_body]
    generalize hH1 : upd H q (.lst ((bodyS As Cs).map V.str)) = H1 at *
    have s2 := same_upd (o := HO.lst ((As.map atomS).map V.str)) hu
    refine ⟨u, rfl, ⟨_, SqL.of upd_same⟩, fun D hD => ?_⟩
    refine comp_by ((As.map atomS).map V.str).length (fun i σ' H' => (∃ v, σ' = [v]) ∧ Same (upd H1 u (.lst ((As.map atomS).map V.str))) H' ∧ ∃ xs, H' D = some (.lst xs) ∧ Paired (AtV H') xs (As.take i)) ⟨⟨_, rfl⟩, same_upd hD, [], upd_same, .nil⟩ (fun i σ' H' hi p => ?_) (fun σ' H' p => ⟨?_, ?_⟩) (fun i σ' H' hi p x H2 y => ?_)
    · obtain ⟨_, sm, _⟩ := p
      exact ⟨_, ((As.map atomS).map V.str)[i], SqL.of (sm _ _ upd_same), List.getElem?_eq_getElem hi⟩
    · obtain ⟨_, sm, _⟩ := p
      exact ⟨_, SqL.of (sm _ _ upd_same), Nat.le_refl _⟩
    · obtain ⟨_, s3, xs, e, px⟩ := p
      rw [List.length_map, List.length_map, List.take_length] at px
      have lx : xs.length = As.length := Paired.length px
      refine ⟨_, _, rfl, .inl ⟨SqL.of e, fun b hb => ?_⟩⟩
      have s4 := same_upd (o := HO.tup xs) hb
      have hb4 : upd H' b (.tup xs) b = some (.tup xs) := upd_same
      have px4 : Paired (AtV (upd H' b (.tup xs))) xs As := L2.Paired.mapP px fun _ _ z => z.same s4
      have hS4 := s4.seq (s3.seq (s2.seq hS))
      generalize upd H' b (.tup xs) = H4 at *
      refine ⟨_, rfl, _, rfl, _, rfl, _, rfl, _, _, rfl, hS4, fun v hv => ?_⟩
      rw [cut_drop _ _ (by rw [List.length_map]; unfold bodyS; rw [List.length_append, List.length_map]; exact Nat.le_add_right _ _), drop_body]
      have s5 := same_upd (o := HO.lst ((Cs.map choiceS).map V.str)) hv
      refine ⟨v, rfl, ⟨_, SqL.of upd_same⟩, fun D2 hD2 => ?_⟩
      refine comp_by ((Cs.map choiceS).map V.str).length (fun i σ' H' => (∃ v, σ' = [v]) ∧ Same (upd H4 v (.lst ((Cs.map choiceS).map V.str))) H' ∧ ∃ ys, H' D2 = some (.lst ys) ∧ Paired (ChV H') ys (Cs.take i)) ⟨⟨_, rfl⟩, same_upd hD2, [], upd_same, .nil⟩ (fun i σ' H' hi p => ?_) (fun σ' H' p => ⟨?_, ?_⟩) (fun i σ' H' hi p x H2 y => ?_)
      · obtain ⟨_, sm, _⟩ := p
        exact ⟨_, ((Cs.map choiceS).map V.str)[i], SqL.of (sm _ _ upd_same), List.getElem?_eq_getElem hi⟩
      · obtain ⟨_, sm, _⟩ := p
        exact ⟨_, SqL.of (sm _ _ upd_same), Nat.le_refl _⟩
      · obtain ⟨_, s6, ys, e2, py⟩ := p
        rw [List.length_map, List.length_map, List.take_length] at py
        refine ⟨_, _, rfl, .inl ⟨SqL.of e2, fun c hc => ?_⟩⟩
        have s7 := same_upd (o := HO.tup ys) hc
        refine ⟨by show 2 ≤ sizeLine; decide, fun r hr' => ?_⟩
        have s8 := same_upd (o := HO.tup [V.ref b, .ref c]) hr'
        have sB := s5.trans (s6.trans (s7.trans s8))
        exact k r b c xs ys _ (s1.trans (s2.trans (s3.trans (s4.trans sB)))) upd_same (sB _ _ hb4) (L2.Paired.mapP px4 fun _ _ z => z.same sB) (s8 _ _ upd_same) (L2.Paired.mapP py fun _ _ z => z.same (s7.trans s8))
      · obtain ⟨⟨v', rfl⟩, sm, ys, e2, py⟩ := p
        obtain ⟨rfl, hx⟩ := y
        have hx' := hx _ (SqL.of (sm _ _ upd_same))
        rw [List.map_map, List.getElem?_map] at hx'
        obtain ⟨C, hC, rfl⟩ := Option.map_eq_some_iff.mp hx'
        have il := (List.getElem?_eq_some_iff.mp hC).1
        have ly : ys.length = (Cs.take i).length := Paired.length py
        rw [List.length_take] at ly
        refine ⟨_, rfl, C, rfl, g.2.2.1 C (List.mem_of_getElem? hC), fun r H3 s3' hr' => ?_⟩
        have e3 := s3' _ _ e2
        refine ⟨_, e3, small1000 (by omega), ⟨_, rfl⟩, (sm.trans s3').set hD2, ys ++ [.ref r], upd_same, ?_⟩
        rw [List.take_succ, hC]
        exact paired_snoc (L2.Paired.mapP py fun _ _ z => (z.same s3').upd e3) (ChV.upd (C := C) e3 ⟨r, rfl, hr'⟩)
    · obtain ⟨⟨v', rfl⟩, sm, xs, e, px⟩ := p
      obtain ⟨rfl, hx⟩ := y
      have hx' := hx _ (SqL.of (sm _ _ upd_same))
      rw [List.map_map, List.getElem?_map] at hx'
      obtain ⟨A, hA, rfl⟩ := Option.map_eq_some_iff.mp hx'
      have il := (List.getElem?_eq_some_iff.mp hA).1
      have lx : xs.length = (As.take i).length := Paired.length px
      rw [List.length_take] at lx
      have aok := g.2.1 A (List.mem_of_getElem? hA)
      refine ⟨_, rfl, A.1, A.2, rfl, aok.1.2, aok.1.1, aok.2.1, aok.2.2, fun r p H3 s3 hr' hp' => ?_⟩
      have e3 := s3 _ _ e
      refine ⟨_, e3, small1000 (by omega), ⟨_, rfl⟩, (sm.trans s3).set hD, xs ++ [.ref r], upd_same, ?_⟩
      rw [List.take_succ, hA]
      exact paired_snoc (L2.Paired.mapP px fun _ _ z => (z.same s3).upd e3) (AtV.upd (A := A) e3 ⟨r, p, rfl, hr', hp'⟩)
def sp_rrule : Sp := fun vs H Q _ => ∃ (h : Atm) (As : List Atm) (Cs : List Chc), vs = [.str (ruleS h As Cs)] ∧ GoodR h As Cs ∧ ruleB (ruleD h As Cs) = true ∧ ∀ q H', Same H H' → RlV H' (.ref q) h As Cs → Q (.ref q) H'
theorem ok_read_rule (T : Txt K mg) : Def P w K mg base 9 "read_rule" ["text"] sp_rrule := by
  refine T.t_read_rule.ok sc_read_rule (fun vs H Q E h => ?_) fun f cdv A outer s H vs Q E hr h => ?_
  · obtain ⟨h, As, Cs, rfl, _⟩ := h
    rfl
  · obtain ⟨h, As, Cs, rfl, g, safe, k⟩ := h
    have al := atom_le g.1
    have jl := semjoin_le g
    have rl : (ruleS h As Cs).length ≤ sizeLine := by
      refine Nat.le_trans (show _ ≤ 13000 from ?_) (by decide)
      unfold ruleS
      split
      · omega
      · rw [Str.length_append, Str.length_append, if_len]
        omega
    refine ⟨_, (pss_6
      (ps_expr (pe_def (ok_ask_text T) hr rfl (pa_1 (pv 0))))
      (ps_set (i := 1) sc_read_rule.nd rfl (Or.inl rfl) (pe_bm PySem.F.plainAttrs_str PySem.F.slot_str_partition PySem.F.type_str_partition mt_partition (pv 0) (pa_1 pe_str)))
      (ps_set (i := 2) sc_read_rule.nd rfl (Or.inl rfl) (pe_def (ok_read_atom T) hr rfl (pa_1 (pe_ix (ix_tupK K) (pv 1) pe_int (fun _ _ => rfl)))))
      (ps_set (i := 3) sc_read_rule.nd rfl (Or.inl rfl) (pe_ifExp (pt_cmpR op_eq (pe_ix (ix_tupK K) (pv 1) pe_int (fun _ _ => rfl)) pe_str (nomark _)) (pe_tup (pa_3 (pv 2) (pe_tup pa_nil) (pe_tup pa_nil))) (pe_op (op_catTK K) (pe_tup (pa_1 (pv 2))) (pe_def (ok_read_body T) hr rfl (pa_1 (pe_ix (ix_tupK K) (pv 1) pe_int (fun _ _ => rfl)))))))
      (ps_if (pt_not (pt_val (pe_def (ok_is_rule T) hr rfl (pa_1 (pv 3))))) (pss_one ps_no) pss_nil)
      (ps_ret (pv 3))), ?_⟩
    refine ⟨_, rfl, _, rfl, ?_⟩
    refine ⟨_, rfl, rfl, _, ifS, rfl, rfl, by decide +kernel, rl, fun u hu => ?_⟩
    by_cases ne : bodyS As Cs = []
    · have e1 : ruleS h As Cs = atomS h := by unfold ruleS; rw [if_pos ne]
      have ea : As = [] := by
        have := List.append_eq_nil_iff.mp ne
        exact List.map_eq_nil_iff.mp this.1
      have ec : Cs = [] := by
        have := List.append_eq_nil_iff.mp ne
        exact List.map_eq_nil_iff.mp this.2
      subst ea ec
      rw [e1, part_noif g.1]
      have s1 := same_upd (o := HO.tup ([atomS h, Str.empty, Str.empty].map V.str)) hu
      have hS : SqT K (upd H u (.tup ([atomS h, Str.empty, Str.empty].map V.str))) u [.str (atomS h), .str Str.empty, .str Str.empty] := SqT.of upd_same
      refine ⟨_, rfl, _, _, _, _, rfl, rfl, hS, atI_nat (j := 0) rfl, h.1, h.2, rfl, g.1.1.2, g.1.1.1, g.1.2.1, g.1.2.2, fun q p H2 s2 hq hp => ?_⟩
      refine ⟨_, rfl, _, _, _, _, rfl, rfl, s2.seqT hS, atI_nat (j := 1) rfl, rfl, _, rfl, iteTb (decide_eq_true rfl) ?_⟩
      refine ⟨_, rfl, by decide, fun b hb => ⟨by decide, fun c hc => ⟨by show 3 ≤ sizeLine; decide, fun r hr' => ?_⟩⟩⟩
      have s3 := same_upd (o := HO.tup []) hb
      have s4 := same_upd (o := HO.tup []) hc
      have s5 := same_upd (o := HO.tup [V.ref q, .ref b, .ref c]) hr'
      have sA := s3.trans (s4.trans s5)
      have rlv : RlV (upd (upd (upd H2 b (.tup [])) c (.tup [])) r (.tup [V.ref q, .ref b, .ref c])) (.ref r) h [] [] := ⟨r, b, c, .ref q, [], [], rfl, upd_same, ⟨q, p, rfl, sA _ _ hq, sA _ _ hp⟩, (s4.trans s5) _ _ upd_same, .nil, s5 _ _ upd_same, .nil⟩
      refine ⟨_, rfl, _, ruleD h [] [], 4, rfl, dat_rule g rlv, okD_rule g, fun H6 s6 => ⟨_, rfl, iteFb (by rw [safe]; rfl) ⟨_, rfl, k r H6 (s1.trans (s2.trans (sA.trans s6))) (rlv.same s6)⟩⟩⟩
    · have e1 : ruleS h As Cs = atomS h ++ ifS ++ Str.join semS (bodyS As Cs) := by unfold ruleS; rw [if_neg ne]
      rw [e1, part_if g.1]
      have s1 := same_upd (o := HO.tup ([atomS h, ifS, Str.join semS (bodyS As Cs)].map V.str)) hu
      have hS : SqT K (upd H u (.tup ([atomS h, ifS, Str.join semS (bodyS As Cs)].map V.str))) u [.str (atomS h), .str ifS, .str (Str.join semS (bodyS As Cs))] := SqT.of upd_same
      refine ⟨_, rfl, _, _, _, _, rfl, rfl, hS, atI_nat (j := 0) rfl, h.1, h.2, rfl, g.1.1.2, g.1.1.1, g.1.2.1, g.1.2.2, fun q p H2 s2 hq hp => ?_⟩
      refine ⟨_, rfl, _, _, _, _, rfl, rfl, s2.seqT hS, atI_nat (j := 1) rfl, rfl, _, rfl, iteFb (by decide +kernel) ?_⟩
      refine ⟨_, rfl, by show 1 ≤ sizeLine; decide, fun o ho => ?_⟩
      have s3 := same_upd (o := HO.tup [V.ref q]) ho
      refine ⟨_, rfl, _, _, _, _, rfl, rfl, s3.seqT (s2.seqT hS), atI_nat (j := 2) rfl, h, As, Cs, rfl, g, ne, fun q' b c xs ys H4 s4 hq' hb px hc py => ?_⟩
      refine ⟨_, _, _, _, rfl, rfl, SqT.of (s4 _ _ upd_same), SqT.of hq', by simp, by show 3 ≤ sizeLine; decide, (fun e => by cases e), fun _ r hr' => ?_⟩
      have s5 := same_upd (o := HO.tup ([V.ref q] ++ [.ref b, .ref c])) hr'
      have sA := s3.trans (s4.trans s5)
      have rlv : RlV (upd H4 r (.tup ([V.ref q] ++ [.ref b, .ref c]))) (.ref r) h As Cs := ⟨r, b, c, .ref q, xs, ys, rfl, upd_same, ⟨q, p, rfl, sA _ _ hq, sA _ _ hp⟩, s5 _ _ hb, L2.Paired.mapP px fun _ _ z => z.same s5, s5 _ _ hc, L2.Paired.mapP py fun _ _ z => z.same s5⟩
      refine ⟨_, rfl, _, ruleD h As Cs, 4, rfl, dat_rule g rlv, okD_rule g, fun H6 s6 => ⟨_, rfl, iteFb (by rw [safe]; rfl) ⟨_, rfl, k r H6 (s1.trans (s2.trans (sA.trans s6))) (rlv.same s6)⟩⟩⟩
end
end Wy
namespace Wy
open PySem L2
theorem choice_flat (C : Chc) : shownK C.2.1 ++ " " ++ C.1 ++ " " ++ shownK C.2.2 = choiceS C := by
  unfold choiceS
  rw [join_cons2, join_cons2]
  show _ = shownK C.2.1 ++ blS ++ (C.1 ++ blS ++ shownK C.2.2)
  rw [show (" " : Str) = blS from rfl, Str.append_assoc, Str.append_assoc, Str.append_assoc, Str.append_assoc, Str.append_assoc]
section
variable {P : Program} {w : World} {K : PySem.W.Frag} {mg : Str → Option Value} {base : Heap}
theorem ok__law_line (T : Txt K mg) : Def P w K mg base 2 "_law_line" ["_law_rule_here"] (sp_showr K) := by
  refine T.t__law_line.ok sc__law_line (fun vs H Q E h => ?_) fun f cdv A outer s H vs Q E hr h => ?_
  · obtain ⟨x, h, As, Cs, rfl, _⟩ := h
    rfl
  · obtain ⟨x, h, As, Cs, rfl, ⟨r, b, c, hx, xs, ys, rfl, hr', hh, hb, pa, hc, pc⟩, g, k⟩ := h
    have lx : xs.length = As.length := Paired.length pa
    have ly : ys.length = Cs.length := Paired.length pc
    have ga := g.2.2.2.1
    have gc := g.2.2.2.2
    have b1 : (" " : Str).length = 1 := by decide +kernel
    refine ⟨_, (pss_5
      (ps_setComp (i := 1) sc__law_line.nd rfl rfl (N := ["_law_atom"]) (caps := [none]) rfl (by with_unfolding_all rfl) (pi_tupK K (pe_ix (ix_tupK K) (pv 0) pe_int (fun _ _ => rfl))) (fun _ _ _ _ _ => (pg_name (i := 0) (show (["_law_atom"] : List Str).Nodup by decide +kernel) rfl (Or.inl rfl))) (fun _ _ _ _ _ => pf_nil) (fun _ _ _ _ _ => (pe_op op_add_str (pe_ix (ix_tupK K) (pv 0) pe_int (fun _ _ => rfl)) (pe_def (ok__law_written T) hr rfl (pa_1 (pe_ix (ix_tupK K) (pv 0) pe_int (fun _ _ => rfl)))))))
      (ps_for PassesOwn.never rfl (pi_tupK K (pe_ix (ix_tupK K) (pv 0) pe_int (fun _ _ => rfl))) (pg_name (i := 2) sc__law_line.nd rfl (Or.inl rfl)) (pss_one (ps_expr (pe_bm PySem.F.plainAttrs_list PySem.F.slot_list_append PySem.F.type_list_append mt_append (pv 1) (pa_1 (pe_op op_add_str (pe_op op_add_str (pe_op op_add_str (pe_op op_add_str (pe_callTy call_strK rfl T.b_str bt_str (pa_1 (pe_ix (ix_tupK K) (pv 2) pe_int (fun _ _ => rfl)))) pe_str) (pe_ix (ix_tupK K) (pv 2) pe_int (fun _ _ => rfl))) pe_str) (pe_callTy call_strK rfl T.b_str bt_str (pa_1 (pe_ix (ix_tupK K) (pv 2) pe_int (fun _ _ => rfl))))))))))
      (ps_set (i := 3) sc__law_line.nd rfl (Or.inl rfl) (pe_op op_add_str (pe_ix (ix_tupK K) (pe_ix (ix_tupK K) (pv 0) pe_int (fun _ _ => rfl)) pe_int (fun _ _ => rfl)) (pe_def (ok__law_written T) hr rfl (pa_1 (pe_ix (ix_tupK K) (pe_ix (ix_tupK K) (pv 0) pe_int (fun _ _ => rfl)) pe_int (fun _ _ => rfl))))))
      (ps_if (pt_cmpR (op_neD hr.units K) (pv 1) (pe_lst pa_nil) (nomark _)) (pss_one (ps_set (i := 3) sc__law_line.nd rfl (Or.inl rfl) (pe_op op_add_str (pe_op op_add_str (pv 3) pe_str) (pe_bm PySem.F.plainAttrs_str PySem.F.slot_str_join PySem.F.type_str_join (mt_joinS K) pe_str (pa_1 (pv 1)))))) pss_nil)
      (ps_ret (pv 3))), ?_⟩
    refine ⟨_, rfl, _, _, _, _, rfl, rfl, SqT.of hr', atI_nat (j := 1) rfl, _, rfl, ⟨_, hb⟩, fun D hD => ?_⟩
    refine comp_by xs.length (fun i σ' H' => (∃ v, σ' = [v]) ∧ Same H H' ∧ H' D = some (.lst (((As.take i).map atomS).map V.str))) ⟨⟨_, rfl⟩, same_upd hD, upd_same⟩ (fun i σ' H' hi p => ?_) (fun σ' H' p => ⟨?_, ?_⟩) (fun i σ' H' hi p x H2 y => ?_)
    · obtain ⟨_, sm, _⟩ := p
      exact ⟨_, xs[i], (sm.seqT hb), List.getElem?_eq_getElem hi⟩
    · obtain ⟨_, sm, _⟩ := p
      exact ⟨_, (sm.seqT hb), Nat.le_refl _⟩
    · obtain ⟨_, s1, e⟩ := p
      rw [lx, List.take_length] at e
      refine ⟨_, rfl, _, _, _, _, rfl, rfl, SqT.of (s1 _ _ hr'), atI_nat (j := 2) rfl, c, rfl, ⟨_, (s1.seqT hc)⟩, ?_⟩
      refine for_tup (xs := ys) (fun i σ H'' => Same H H'' ∧ H'' D = some (.lst ((As.map atomS ++ (Cs.take i).map choiceS).map V.str)) ∧ ∃ v1 v2, σ = [some (.ref r), some (.ref D), v1, v2]) ⟨s1, by rw [List.take_zero, List.map_nil, List.append_nil]; exact e, _, _, rfl⟩ (fun i σ H'' _ z => (z.1.seqT hc)) ?_ ?_
      · rintro i x σ H'' hx ⟨sm, hD', v1, v2, rfl⟩
        obtain ⟨C, hC, q, rfl, hq⟩ := paired_at pc hx
        have il := (List.getElem?_eq_some_iff.mp hC).1
        have ok := g.2.2.1 C (List.mem_of_getElem? hC)
        have l1 := (shown_le ok.2.1).2
        have l2 := (shown_le ok.2.2).2
        have l3 := (sgs_len _ ok.1).1
        have hS := SqT.of (K := K) (sm _ _ hq)
        refine ⟨_, rfl, .inl ⟨rfl, _, SqL.of hD'⟩, _, rfl, _, _, _, _, rfl, rfl, hS, atI_nat (j := 1) rfl, C.2.1, rfl, bits_ok ok.2.1, _, _, rfl, rfl, Nat.le_trans (show (shownK C.2.1).length + (" " : Str).length ≤ 1000 by omega) (by decide), ?_⟩
        refine ⟨_, rfl, _, _, _, _, rfl, rfl, hS, atI_nat (j := 0) rfl, _, _, rfl, rfl, Nat.le_trans (show (shownK C.2.1 ++ " ").length + C.1.length ≤ 1000 by rw [Str.length_append]; omega) (by decide), _, _, rfl, rfl, Nat.le_trans (show (shownK C.2.1 ++ " " ++ C.1).length + (" " : Str).length ≤ 1000 by rw [Str.length_append, Str.length_append]; omega) (by decide), ?_⟩
        refine ⟨_, rfl, _, _, _, _, rfl, rfl, hS, atI_nat (j := 2) rfl, C.2.2, rfl, bits_ok ok.2.2, _, _, rfl, rfl, Nat.le_trans (show (shownK C.2.1 ++ " " ++ C.1 ++ " ").length + (shownK C.2.2).length ≤ 1000 by rw [Str.length_append, Str.length_append, Str.length_append]; omega) (by decide), ?_⟩
        rw [choice_flat]
        refine ⟨_, _, _, rfl, rfl, hD', ?_, ?_⟩
        · rw [List.length_map, List.length_append, List.length_map, List.length_map, List.length_take]
          exact small1000 (by omega)
        · refine ⟨sm.set hD, ?_, _, _, rfl⟩
          rw [upd_same, List.take_succ, hC]
          simp [List.map_append, List.append_assoc]
      · rintro σ H3 ⟨s3, hD3, v1, v2, rfl⟩
        rw [ly, List.take_length] at hD3
        have hD3 : H3 D = some (.lst ((bodyS As Cs).map V.str)) := hD3
        obtain ⟨q1, p1, eh, h1, h2⟩ := hh.same s3
        subst eh
        have tl := (txtB_le g.1.1.1).2
        have hl4 : h.2.length ≤ 10 := by have := g.1.2.1; omega
        have al := atom_le g.1
        have rw' := row_le g.1.2.2 hl4
        refine ⟨_, rfl, _, _, _, _, rfl, rfl, SqT.of (s3 _ _ hr'), atI_nat (j := 0) rfl, _, _, _, _, rfl, rfl, SqT.of h1, atI_nat (j := 0) rfl, _, rfl, _, _, _, _, rfl, rfl, SqT.of (s3 _ _ hr'), atI_nat (j := 0) rfl, _, _, _, _, rfl, rfl, SqT.of h1, atI_nat (j := 1) rfl, p1, h.2, rfl, SqT.of h2, hl4, g.1.2.2, fun H4 s4 => ?_⟩
        refine ⟨_, _, rfl, rfl, Nat.le_trans (show h.1.length + (rowS h.2).length ≤ 1000 by omega) (by decide), ?_⟩
        rw [show h.1 ++ rowS h.2 = atomS h from rfl]
        refine ⟨_, rfl, by decide, fun z hz => ?_⟩
        have s5 := same_upd (o := HO.lst []) hz
        refine ⟨.list ((bodyS As Cs).map .str), .list [], .lst (SqL.of (s5 _ _ (s4 _ _ hD3))) (dats_txt fun w hw => (body_ok g w hw).1), .lst (SqL.of upd_same) .nil, depth_txt _, ?_⟩
        rw [eqv_nil]
        have sA := s3.trans (s4.trans s5)
        refine ⟨_, rfl, ite2 (fun hn => ?_) (fun hn => ?_)⟩
        · have jl := semjoin_le g
          have bl := body_len g
          have hne : ¬ bodyS As Cs = [] := fun z => by rw [decide_eq_true z] at hn; cases hn
          refine ⟨_, rfl, _, _, rfl, rfl, Nat.le_trans (show (atomS h).length + ifS.length ≤ 1000 by rw [if_len]; omega) (by decide), rfl, _, rfl, _, bodyS As Cs, semS, rfl, rfl, SqL.of (s5 _ _ (s4 _ _ hD3)), ?_, ?_⟩
          · have := sum_650 fun w hw => (body_ok g w hw).2
            rw [show semS.length = 2 by decide +kernel]
            omega
          refine ⟨_, _, rfl, rfl, Nat.le_trans (show (atomS h ++ ifS).length + (Str.join semS (bodyS As Cs)).length ≤ 13000 by rw [Str.length_append, if_len]; omega) (by decide), ?_⟩
          have := k _ sA
          rw [ruleS, if_neg hne] at this
          exact ⟨_, rfl, this⟩
        · have he : bodyS As Cs = [] := by
            by_cases z : bodyS As Cs = []
            · exact z
            · rw [decide_eq_false z] at hn
              exact absurd rfl hn
          have := k _ sA
          rw [ruleS, if_pos he] at this
          exact ⟨_, rfl, this⟩
    · obtain ⟨⟨v, rfl⟩, sm, e⟩ := p
      obtain ⟨rfl, hx⟩ := y
      obtain ⟨A, hA, q, p, rfl, h1, h2⟩ := paired_at pa (hx _ ((sm.seqT hb)))
      have il := (List.getElem?_eq_some_iff.mp hA).1
      have aok := g.2.1 A (List.mem_of_getElem? hA)
      have tl := (txtB_le aok.1.1).2
      have := aok.2.1
      have rl := row_le aok.2.2 (show A.2.length ≤ 10 by omega)
      refine ⟨_, rfl, _, _, _, _, rfl, rfl, SqT.of (sm _ _ h1), atI_nat (j := 0) rfl, _, rfl, _, _, _, _, rfl, rfl, SqT.of (sm _ _ h1), atI_nat (j := 1) rfl, p, A.2, rfl, SqT.of (sm _ _ h2), by omega, aok.2.2, fun H3 s3 => ?_⟩
      refine ⟨_, _, rfl, rfl, Nat.le_trans (show A.1.length + (rowS A.2).length ≤ 1000 by omega) (by decide), ?_⟩
      refine ⟨_, s3 _ _ e, by rw [List.length_map, List.length_map, List.length_take]; exact small1000 (by omega), ⟨_, rfl⟩, (sm.trans s3).set hD, ?_⟩
      rw [upd_same, List.take_succ, hA, List.map_append, List.map_append]
      rfl
end
end Wy
namespace Wy
open PySem L2
def VB (As : List Atm) (z : Str) : Prop := ∃ A ∈ As, (Sum.inr z : Key) ∈ A.2 ∧ txtB capS z = true
theorem VB.more {As : List Atm} {A : Atm} {z : Str} (h : VB As z) : VB (As ++ [A]) z := let ⟨B, hB, r⟩ := h; ⟨B, List.mem_append_left _ hB, r⟩
theorem VB.vars {As : List Atm} {z : Str} (h : VB As z) : z ∈ bodyVars (As.map atomD) := by
  obtain ⟨A, hA, hz, hc⟩ := h
  refine List.mem_flatMap.mpr ⟨atomD A, List.mem_map.mpr ⟨A, hA, rfl⟩, ?_⟩
  show z ∈ vnames (A.2.map keyD)
  refine List.mem_flatMap.mpr ⟨.str z, List.mem_map.mpr ⟨.inr z, hz, rfl⟩, ?_⟩
  show z ∈ (if txtB capS z = true then [z] else [])
  rw [if_pos hc]
  exact List.mem_singleton.mpr rfl
def PkOk (As : List Atm) (k : Key) : Prop := TmOk k ∧ (varK k = false ∨ ∃ z, k = .inr z ∧ VB As z)
theorem term_ok {k : Key} (h : TmOk k) : termB (keyD k) = true := by
  cases k with
  | inl i => rfl
  | inr z =>
    show (valD (.str z) || txtB capS z) = true
    rcases h.1 with q | q
    · rw [show valD (.str z) = true by show (false || txtB small z) = true; rw [q]; rfl, Bool.true_or]
    · rw [q, Bool.or_true]
theorem atomB_ok {A : Atm} (h : AOk A) : atomB (atomD A) = true := by
  show (txtB small A.1 && (decide ((A.2.map keyD).length ≤ 4) && (A.2.map keyD).all termB)) = true
  rw [h.1.1, decide_eq_true (by rw [List.length_map]; exact h.2.1), Bool.true_and, Bool.true_and, List.all_eq_true]
  intro d hd
  obtain ⟨k, hk, rfl⟩ := List.mem_map.mp hd
  exact term_ok (h.2.2 k hk)
theorem known_ok {As : List Atm} {ks : List Key} (h : ∀ k ∈ ks, PkOk As k) : knownB (ks.map keyD) (bodyVars (As.map atomD)) = true := by
  unfold knownB
  rw [List.all_eq_true]
  intro z hz
  obtain ⟨d, hd, hv⟩ := List.mem_flatMap.mp hz
  obtain ⟨k, hk, rfl⟩ := List.mem_map.mp hd
  have hp := (h k hk).2
  cases k with
  | inl i => cases hv
  | inr y =>
    have hv : z ∈ (if txtB capS y = true then [y] else []) := hv
    split at hv
    · rename_i hc
      rw [List.mem_singleton.mp hv]
      rcases hp with hp | ⟨w, e, hw⟩
      · have : txtB capS y = false := hp
        rw [hc] at this
        cases this
      · injection e with e
        rw [e]
        exact decide_eq_true hw.vars
    · cases hv
theorem safe_ok {h : Atm} {As : List Atm} {Cs : List Chc} (g : GoodR h As Cs) (l1 : As.length ≤ 3) (l2 : Cs.length ≤ 3) (hh : ∀ k ∈ h.2, PkOk As k) (hc : ∀ C ∈ Cs, PkOk As C.2.1 ∧ PkOk As C.2.2) : ruleB (ruleD h As Cs) = true := by
  show (atomB (atomD h) && (atomsB (.tuple (As.map atomD)) && (choicesB (.tuple (Cs.map choiceD)) && (knownB (h.2.map keyD) (bodyVars (As.map atomD)) && (Cs.map choiceD).all (chKnown (bodyVars (As.map atomD))))))) = true
  rw [atomB_ok g.1, known_ok hh]
  have e1 : atomsB (.tuple (As.map atomD)) = true := by
    show (decide ((As.map atomD).length ≤ 3) && (As.map atomD).all atomB) = true
    rw [decide_eq_true (by rw [List.length_map]; exact l1), Bool.true_and, List.all_eq_true]
    intro d hd
    obtain ⟨A, hA, rfl⟩ := List.mem_map.mp hd
    exact atomB_ok (g.2.1 A hA)
  have e2 : choicesB (.tuple (Cs.map choiceD)) = true := by
    show (decide ((Cs.map choiceD).length ≤ 3) && (Cs.map choiceD).all choiceB) = true
    rw [decide_eq_true (by rw [List.length_map]; exact l2), Bool.true_and, List.all_eq_true]
    intro d hd
    obtain ⟨C, hC, rfl⟩ := List.mem_map.mp hd
    have ok := g.2.2.1 C hC
    show (signB (.str C.1) && (termB (keyD C.2.1) && termB (keyD C.2.2))) = true
    rw [show signB (.str C.1) = true from sgs_in C.1 ok.1, term_ok ok.2.1, term_ok ok.2.2]
    rfl
  have e3 : (Cs.map choiceD).all (chKnown (bodyVars (As.map atomD))) = true := by
    rw [List.all_eq_true]
    intro d hd
    obtain ⟨C, hC, rfl⟩ := List.mem_map.mp hd
    have ok := hc C hC
    refine known_ok (ks := [C.2.1, C.2.2]) fun k hk => ?_
    simp only [List.mem_cons, List.not_mem_nil, or_false] at hk
    rcases hk with rfl | rfl
    · exact ok.1
    · exact ok.2
  rw [e1, e2, e3]
  rfl
theorem in_str {z : Str} {ws : List Str} (h : z ∈ ws) : inV (.str z) (ws.map V.str) = true := by
  unfold inV
  rw [List.any_eq_true]
  refine ⟨.str z, List.mem_map.mpr ⟨z, h, rfl⟩, ?_⟩
  show (z == z) = true
  simp
theorem flat_strs (ws : List Str) : (ws.map V.str).all flatV = true := by
  rw [List.all_eq_true]
  intro x hx
  obtain ⟨z, _, rfl⟩ := List.mem_map.mp hx
  rfl
section
variable {P : Program} {w : World} {K : PySem.W.Frag} {mg : Str → Option Value} {base : Heap}
def sp_lrule (K : PySem.W.Frag) : Sp := fun vs H Q _ => ∃ (c : Int) (a : Addr) (ws : List Str), vs = [.int c, .ref a] ∧ SqL K H a (ws.map V.str) ∧ 1 ≤ ws.length ∧ (∀ z ∈ ws, WOk z) ∧
  ∀ (q : Addr) (h : Atm) (As : List Atm) (Cs : List Chc) H', Same H H' → RlV H' (.ref q) h As Cs → GoodR h As Cs → ruleB (ruleD h As Cs) = true → As.length ≤ 3 → Cs.length ≤ 3 → Q (.ref q) H'
theorem ok__law_rule (T : Txt K mg) : Def P w K mg base 5 "_law_rule" ["_law_cell", "_law_words_here"] (sp_lrule K) := by
  refine T.t__law_rule.ok sc__law_rule (fun vs H Q E h => ?_) fun f cdv A outer s H vs Q E hr h => ?_
  · obtain ⟨c, a, ws, rfl, _⟩ := h
    rfl
  · obtain ⟨c, a, ws, rfl, hW, wl, hw, k⟩ := h
    refine ⟨_, (pss_10
      (ps_set (i := 2) sc__law_rule.nd rfl (Or.inr rfl) (pe_def (ok__law_stream T) hr rfl (pa_2 (pv 0) pe_int)))
      (ps_set (i := 3) sc__law_rule.nd rfl (Or.inl rfl) (pe_lst pa_nil))
      (ps_set (i := 4) sc__law_rule.nd rfl (Or.inl rfl) (pe_lst pa_nil))
      (ps_for PassesOwn.never rfl (pi_range1 rfl T.b_range (pa_1 (pe_op op_mod (pe_ix (ix_listK K) (pv 2) pe_int (fun _ _ => rfl)) pe_int))) (pg_name (i := 5) sc__law_rule.nd rfl (Or.inr rfl)) (pss_3
      (ps_setComp (i := 6) sc__law_rule.nd rfl rfl (N := ["_law_j", "_law_words_here", "_law_row", "_law_cell", "_law_k"]) (caps := [none, some 1, some 2, some 0, some 5]) rfl (by with_unfolding_all rfl) (pi_range1 rfl T.b_range (pa_1 (pe_op op_mod (pe_ix (ix_listK K) (pv 2) (pe_op op_add (pv 5) pe_int) (fun _ _ => rfl)) pe_int))) (fun _ _ _ _ _ => (pg_name (i := 0) (show (["_law_j", "_law_words_here", "_law_row", "_law_cell", "_law_k"] : List Str).Nodup by decide +kernel) rfl (Or.inl rfl))) (fun _ _ _ _ _ => pf_nil) (fun _ _ _ _ _ => (pe_def (ok__law_term T) hr rfl (pa_2 (pe_op op_add (pe_ix (ix_listK K) (pv 2) (pe_op op_add (pe_op op_add (pe_op op_mul pe_int (pv 4)) (pv 0)) pe_int) (fun _ _ => rfl)) (pe_op op_mul (pv 3) (pe_op op_add (pv 0) pe_int))) (pv 1)))))
      (ps_expr (pe_bm PySem.F.plainAttrs_list PySem.F.slot_list_append PySem.F.type_list_append mt_append (pv 3) (pa_1 (pe_tup (pa_2 (pe_ix (ix_listK K) (pv 1) (pe_op op_mod (pe_op op_fdiv (pe_ix (ix_listK K) (pv 2) (pe_op op_add (pv 5) pe_int) (fun _ _ => rfl)) pe_int) (pe_callB (call_lenK K) rfl T.b_len bt_len (pa_1 (pv 1)))) (fun _ _ => rfl)) (pe_callTy (call_tupleK K) rfl T.b_tuple bt_tuple (pa_1 (pv 6))))))))
      (ps_set (i := 4) sc__law_rule.nd rfl (Or.inl rfl) (pe_op op_cat (pv 4) (pe_comp (N := ["_law_term_here", "_law_words_here"]) (caps := [none, some 1]) rfl (by with_unfolding_all rfl) (pi_listK K (pv 6)) (fun _ _ _ _ _ => (pg_name (i := 0) (show (["_law_term_here", "_law_words_here"] : List Str).Nodup by decide +kernel) rfl (Or.inl rfl))) (fun _ _ _ _ _ => pf_one (PW.pt (pw_and (pt_val (pe_callB (call_isiD K) rfl T.b_isinstance bt_isinstance (pa_2 (pv 0) (pe_ty rfl T.b_str bt_str)))) (pw_and1 (pt_cmpR (op_notInK K) (pv 0) (pv 1) (by with_unfolding_all rfl)))))) (fun _ _ _ _ _ => (pv 0)))))))
      (ps_set (i := 7) sc__law_rule.nd rfl (Or.inl rfl) (pe_lst pa_nil))
      (ps_for PassesOwn.never rfl (pi_listK K (pe_slice (sl_listK K) (pv 2) (po_some pe_int) (po_some pe_int))) (pg_name (i := 8) sc__law_rule.nd rfl (Or.inl rfl)) (pss_one (ps_if (PW.pt (pw_and (pt_cmpR (op_neD hr.units K) (pv 4) (pe_lst pa_nil) (nomark _)) (pw_and1 (pt_cmpR op_gt (pe_op op_mod (pv 8) pe_int) pe_int (nomark _))))) (pss_one (ps_expr (pe_bm PySem.F.plainAttrs_list PySem.F.slot_list_append PySem.F.type_list_append mt_append (pv 7) (pa_1 (pe_ix (ix_listK K) (pv 4) (pe_op op_mod (pe_op op_fdiv (pv 8) pe_int) (pe_callB (call_lenK K) rfl T.b_len bt_len (pa_1 (pv 4)))) (fun _ _ => rfl)))))) (pss_one (ps_expr (pe_bm PySem.F.plainAttrs_list PySem.F.slot_list_append PySem.F.type_list_append mt_append (pv 7) (pa_1 (pe_def (ok__law_value T) hr rfl (pa_2 (pe_op op_add (pv 8) (pv 0)) (pv 1))))))))))
      (ps_set (i := 9) sc__law_rule.nd rfl (Or.inl rfl) (pe_tup (pa_2 (pe_ix (ix_listK K) (pv 1) (pe_op op_mod (pe_ix (ix_listK K) (pv 2) pe_int (fun _ _ => rfl)) (pe_callB (call_lenK K) rfl T.b_len bt_len (pa_1 (pv 1)))) (fun _ _ => rfl)) (pe_callTy (call_tupleK K) rfl T.b_tuple bt_tuple (pa_1 (pe_slice (sl_listK K) (pv 7) po_none (po_some (pe_op op_mod (pe_ix (ix_listK K) (pv 2) pe_int (fun _ _ => rfl)) pe_int))))))))
      (ps_set (i := 10) sc__law_rule.nd rfl (Or.inl rfl) (pe_lst pa_nil))
      (ps_for PassesOwn.never rfl (pi_range1 rfl T.b_range (pa_1 (pe_op op_mod (pe_ix (ix_listK K) (pv 2) pe_int (fun _ _ => rfl)) pe_int))) (pg_name (i := 5) sc__law_rule.nd rfl (Or.inr rfl)) (pss_one (ps_expr (pe_bm PySem.F.plainAttrs_list PySem.F.slot_list_append PySem.F.type_list_append mt_append (pv 10) (pa_1 (pe_tup (pa_3 (pe_ix (ix_listK K) (pe_lst (pa_3 pe_str pe_str pe_str)) (pe_op op_mod (pe_ix (ix_listK K) (pv 2) (pe_op op_add pe_int (pv 5)) (fun _ _ => rfl)) pe_int) (fun _ _ => rfl)) (pe_ix (ix_listK K) (pv 7) (pe_op op_add pe_int (pe_op op_mul pe_int (pv 5))) (fun _ _ => rfl)) (pe_ix (ix_listK K) (pv 7) (pe_op op_add pe_int (pe_op op_mul pe_int (pv 5))) (fun _ _ => rfl)))))))))
      (ps_ret (pe_tup (pa_3 (pv 9) (pe_callTy (call_tupleK K) rfl T.b_tuple bt_tuple (pa_1 (pv 3))) (pe_callTy (call_tupleK K) rfl T.b_tuple bt_tuple (pa_1 (pv 10))))))), ?_⟩
    refine ⟨_, rfl, c, 40, rfl, by decide, by decide, fun p ns H1 s1 hp hl _ hn => ?_⟩
    have hl40 : ns.length = 40 := hl
    have ats : ∀ j : Nat, j < 40 → atI (ns.map V.int) (j : Int) = some (V.int (ns.getD j 0)) := fun j hj => at_ints (by omega)
    have hS := SqL.of (K := K) hp
    have hW1 := s1.seq hW
    have hwp : (0 : Int) < ws.length := by omega
    have word : ∀ n : Int, ∃ z, atI (ws.map V.str) (n % (ws.length : Int)) = some (V.str z) ∧ z ∈ ws := fun n => by
      obtain ⟨e, hat, he⟩ := atI_in (xs := ws.map V.str) (i := n % (ws.length : Int)) (Int.emod_nonneg _ (by omega)) (by rw [List.length_map]; exact Int.emod_lt_of_pos _ hwp)
      obtain ⟨z, hz, rfl⟩ := List.mem_map.mp he
      exact ⟨z, hat, hz⟩
    have m0 := Int.emod_nonneg (ns.getD 0 0) (show (4 : Int) ≠ 0 by decide)
    have m1 := Int.emod_lt_of_pos (ns.getD 0 0) (show (0 : Int) < 4 by decide)
    refine ⟨by decide, fun bA hbA => ⟨by decide, fun t0 ht0 => ?_⟩⟩
    have s2 := same_upd (o := HO.lst []) hbA
    have s3 := same_upd (o := HO.lst []) ht0
    have nt0 : t0 ≠ bA := fun e => by rw [e, upd_same] at ht0; cases ht0
    refine ⟨_, rfl, _, _, _, _, rfl, rfl, (s2.trans s3).seq hS, ats 0 (by decide), _, _, rfl, rfl, (by show (0 : Int) < 4; decide), _, rfl, by omega, by omega, ?_⟩
    refine for_range (lo := 0) (n := (ns.getD 0 0 % 4).toNat) (fun i σ H' => Same H1 H' ∧ ∃ (As : List Atm) (bxs : List V) (zs : List Str) (th : Addr) (v5 v6 : Option V), σ = [some (.int c), some (.ref a), some (.ref p), some (.ref bA), some (.ref th), v5, v6, none, none, none, none] ∧ H' bA = some (.lst bxs) ∧ Paired (AtV H') bxs As ∧ As.length = i ∧ (∀ A ∈ As, AOk A) ∧ H' th = some (.lst (zs.map V.str)) ∧ th ≠ bA ∧ (∀ z ∈ zs, VB As z ∧ TmOk (.inr z)) ∧ zs.length ≤ 4 * i)
      ⟨s2.trans s3, [], [], [], t0, _, _, rfl, by rw [upd_ne nt0.symm]; exact upd_same, .nil, rfl, (fun _ z => nomatch z), upd_same, nt0, (fun _ z => nomatch z), Nat.zero_le _⟩ ?_ ?_
    · rintro i σ Hb hi ⟨sm, As, bxs, zs, th, v5, v6, rfl, hb, pb, la, ga, ht, nth, gz, lz⟩
      have hi3 : i < 3 := by omega
      have hS' := sm.seq hS
      have hW' := sm.seq hW1
      have ai : atI (ns.map V.int) (0 + (i : Int) + 1) = some (V.int (ns.getD (i + 1) 0)) := by
        rw [show (0 + (i : Int) + 1 : Int) = ((i + 1 : Nat) : Int) by omega]
        exact ats _ (by omega)
      have r0 := Int.emod_nonneg (ns.getD (i + 1) 0) (show (5 : Int) ≠ 0 by decide)
      have r1 := Int.emod_lt_of_pos (ns.getD (i + 1) 0) (show (0 : Int) < 5 by decide)
      refine ⟨_, rfl, _, rfl, _, _, rfl, rfl, _, _, _, _, rfl, rfl, hS', ai, _, _, rfl, rfl, (by show (0 : Int) < 5; decide), _, rfl, by omega, by omega, fun D hD => ?_⟩
      have nDb : D ≠ bA := fun e => by rw [e, hb] at hD; cases hD
      refine comp_by (ns.getD (i + 1) 0 % 5).toNat (fun j σ' H2 => (∃ v, σ' = [v, some (.ref a), some (.ref p), some (.int c), some (.int (0 + (i : Int)))]) ∧ Same Hb H2 ∧ ∃ ks : List Key, H2 D = some (.lst (ks.map kV)) ∧ ks.length = j ∧ ∀ t ∈ ks, TmOk t ∧ (varK t = true ∨ ∀ z, t = .inr z → z ∈ ws)) ⟨⟨_, rfl⟩, same_upd hD, [], upd_same, rfl, fun _ z => nomatch z⟩ (fun i σ' H' hi p => hi) (fun σ' H2 p => ⟨Nat.le_refl _, ?_⟩) (fun j σ' H2' hj p x H2 y => ?_)
      · obtain ⟨_, s4, ks, hk, lk, gk⟩ := p
        have lk4 : ks.length ≤ 4 := by omega
        obtain ⟨z, hz, zw⟩ := word (ns.getD (i + 1) 0 / 5)
        refine ⟨_, rfl, .inl ⟨rfl, _, SqL.of (s4 _ _ hb)⟩, _, rfl, _, rfl, _, rfl, _, _, rfl, rfl, _, _, _, _, rfl, rfl, s4.seq hS', ai, _, _, rfl, rfl, ⟨by decide, by decide⟩, _, rfl, _, _, rfl, .inl ⟨_, s4.seq hW', rfl⟩, ?_⟩
        rw [List.length_map]
        refine ⟨_, _, rfl, rfl, hwp, _, _, _, _, rfl, rfl, s4.seq hW', hz, _, rfl, _, _, rfl, .inl ⟨SqL.of hk, fun l hl' => ?_⟩⟩
        have s5 := same_upd (o := HO.tup (ks.map kV)) hl'
        refine ⟨by show 2 ≤ sizeLine; decide, fun t ht' => ?_⟩
        have s6 := same_upd (o := HO.tup [V.str z, .ref l]) ht'
        have hb6 := s6 _ _ (s5 _ _ (s4 _ _ hb))
        have ht6 := s6 _ _ (s5 _ _ (s4 _ _ ht))
        have hD6 := s6 _ _ (s5 _ _ hk)
        have av : AtV (upd (upd H2 l (.tup (ks.map kV))) t (.tup [V.str z, .ref l])) (.ref t) (z, ks) := ⟨t, l, rfl, upd_same, s6 _ _ upd_same⟩
        have pb6 : Paired (AtV (upd (upd H2 l (.tup (ks.map kV))) t (.tup [V.str z, .ref l]))) bxs As := L2.Paired.mapP pb fun _ _ q => q.same (s4.trans (s5.trans s6))
        have sm6 := sm.trans (s4.trans (s5.trans s6))
        generalize upd (upd H2 l (.tup (ks.map kV))) t (.tup [V.str z, .ref l]) = H6 at *
        have lb : bxs.length = As.length := Paired.length pb
        refine ⟨_, _, _, rfl, rfl, hb6, small1000 (by omega), ?_⟩
        have sm7 : Same H1 (upd H6 bA (.lst (bxs ++ [.ref t]))) := sm6.set hbA
        have hb7 : upd H6 bA (.lst (bxs ++ [.ref t])) bA = some (.lst (bxs ++ [.ref t])) := upd_same
        have pb7 : Paired (AtV (upd H6 bA (.lst (bxs ++ [.ref t])))) (bxs ++ [.ref t]) (As ++ [(z, ks)]) := paired_snoc (L2.Paired.mapP pb6 fun _ _ q => q.upd hb6) (av.upd hb6)
        have ht7 : upd H6 bA (.lst (bxs ++ [.ref t])) th = some (.lst (zs.map V.str)) := by rw [upd_ne nth]; exact ht6
        have hD7 : upd H6 bA (.lst (bxs ++ [.ref t])) D = some (.lst (ks.map kV)) := by rw [upd_ne nDb]; exact hD6
        generalize upd H6 bA (.lst (bxs ++ [.ref t])) = H7 at *
        have hW7 := sm7.seq hW1
        refine ⟨_, rfl, _, rfl, D, rfl, ⟨_, SqL.of hD7⟩, fun D2 hD2 => ?_⟩
        refine comp_by (ks.map kV).length (fun j σ' H8 => (∃ v, σ' = [v, some (.ref a)]) ∧ Same H7 H8 ∧ ∃ ys : List Str, H8 D2 = some (.lst (ys.map V.str)) ∧ ys.length ≤ j ∧ ∀ y ∈ ys, (Sum.inr y : Key) ∈ ks ∧ txtB capS y = true) ⟨⟨_, rfl⟩, same_upd hD2, [], upd_same, Nat.le_refl _, fun _ z => nomatch z⟩ (fun j σ' H8 hj p => ?_) (fun σ' H8 p => ⟨?_, ?_⟩) (fun j σ' H8 hj p x H9 y => ?_)
        · exact ⟨_, (ks.map kV)[j], SqL.of (p.2.1 _ _ hD7), List.getElem?_eq_getElem hj⟩
        · exact ⟨_, SqL.of (p.2.1 _ _ hD7), Nat.le_refl _⟩
        · obtain ⟨_, s8, ys, hy, ly, gy⟩ := p
          rw [List.length_map] at ly
          refine ⟨_, _, _, _, rfl, rfl, s8 _ _ ht7, hy, by rw [List.length_map, List.length_map]; exact Nat.le_trans (show _ ≤ 1000 by omega) (by decide), fun q hq => ?_⟩
          have s9 := same_upd (o := HO.lst (zs.map V.str ++ ys.map V.str)) hq
          have hb9 := s9 _ _ (s8 _ _ hb7)
          refine ⟨sm7.trans (s8.trans s9), As ++ [(z, ks)], bxs ++ [.ref t], zs ++ ys, q, _, _, rfl, hb9, L2.Paired.mapP pb7 fun _ _ w => w.same (s8.trans s9), by rw [List.length_append, la]; rfl, fun B hB => ?_, by rw [upd_same, List.map_append], fun e => ?_, fun y hy' => ?_, by rw [List.length_append]; omega⟩
          · rcases List.mem_append.mp hB with hB | hB
            · exact ga B hB
            · rw [List.mem_singleton.mp hB]
              exact ⟨hw z zw, lk4, fun t ht => (gk t ht).1⟩
          · rw [e, s8 _ _ hb7] at hq
            cases hq
          · rcases List.mem_append.mp hy' with hy' | hy'
            · exact ⟨(gz y hy').1.more, (gz y hy').2⟩
            · obtain ⟨h1, h2⟩ := gy y hy'
              exact ⟨⟨(z, ks), List.mem_append_right _ (List.mem_singleton.mpr rfl), h1, h2⟩, (gk _ h1).1⟩
        · obtain ⟨⟨v, rfl⟩, s8, ys, hy, ly, gy⟩ := p
          obtain ⟨rfl, hx⟩ := y
          have hx' := hx _ (SqL.of (s8 _ _ hD7))
          rw [List.getElem?_map] at hx'
          obtain ⟨u, hu, rfl⟩ := Option.map_eq_some_iff.mp hx'
          have hm := List.mem_of_getElem? hu
          obtain ⟨g1, g2⟩ := gk u hm
          have il := (List.getElem?_eq_some_iff.mp hu).1
          refine ⟨_, rfl, _, _, keyD u, rfl, dat_tm g1, by decide, ?_⟩
          cases u with
          | inl n =>
            refine ⟨_, rfl, iteFb (show tyIs "int" "str" = false by decide) ?_⟩
            exact iteF ⟨⟨_, rfl⟩, s8, ys, hy, by omega, gy⟩
          | inr y =>
            refine ⟨_, rfl, iteTb (show tyIs "str" "str" = true by decide) ?_⟩
            refine ⟨_, rfl, _, rfl, a, _, rfl, .inl (s8.seq hW7), rfl, flat_strs ws, ?_⟩
            refine ⟨_, rfl, ?_⟩
            by_cases hin : y ∈ ws
            · refine iteFb (by rw [if_pos rfl, show kV (.inr y) = V.str y from rfl, in_str hin]; rfl) ?_
              exact ⟨⟨_, rfl⟩, s8, ys, hy, by omega, gy⟩
            · have hv : txtB capS y = true := by
                rcases g2 with g2 | g2
                · exact g2
                · exact absurd (g2 y rfl) hin
              refine ite2 (fun _ => ?_) (fun _ => ⟨⟨_, rfl⟩, s8, ys, hy, by omega, gy⟩)
              refine ⟨_, rfl, _, hy, by rw [List.length_map]; exact small1000 (by omega), ⟨_, rfl⟩, s8.set hD2, ys ++ [y], by rw [upd_same, List.map_append]; rfl, by rw [List.length_append]; exact Nat.add_le_add_right ly 1, fun x hx => ?_⟩
              rcases List.mem_append.mp hx with hx | hx
              · exact gy x hx
              · rw [List.mem_singleton.mp hx]
                exact ⟨hm, hv⟩
      · obtain ⟨⟨v, rfl⟩, s4, ks, hk, lk, gk⟩ := p
        obtain ⟨rfl, rfl⟩ := y
        have hj4 : j < 4 := by omega
        have aj : atI (ns.map V.int) (4 * (0 + (i : Int)) + (0 + (j : Int)) + 4) = some (V.int (ns.getD (4 * i + j + 4) 0)) := by
          rw [show (4 * (0 + (i : Int)) + (0 + (j : Int)) + 4 : Int) = ((4 * i + j + 4 : Nat) : Int) by omega]
          exact ats _ (by omega)
        refine ⟨_, rfl, _, rfl, _, _, rfl, rfl, .inl ⟨by decide, by decide⟩, _, rfl, _, _, rfl, rfl, _, _, rfl, rfl, _, _, _, _, rfl, rfl, s4.seq hS', aj, _, rfl, _, rfl, _, _, rfl, rfl, _, _, rfl, rfl, .inr ⟨by omega, by omega⟩, _, _, rfl, rfl, ?_⟩
        refine ⟨_, rfl, _, a, ws, rfl, s4.seq hW', wl, hw, fun t H3 s5 ht' hv => ?_⟩
        refine ⟨_, s5 _ _ hk, by rw [List.length_map, lk]; exact small1000 (by omega), ⟨_, rfl⟩, (s4.trans s5).set hD, ks ++ [t], by rw [upd_same, List.map_append]; rfl, by rw [List.length_append, lk]; rfl, fun x hx => ?_⟩
        rcases List.mem_append.mp hx with hx | hx
        · exact gk x hx
        · rw [List.mem_singleton.mp hx]
          exact ⟨ht', hv⟩
    · rintro σ Ha ⟨sm, As, bxs, zs, th, v5, v6, rfl, hb, pb, la, ga, ht, nth, gz, lz⟩
      have la3 : As.length ≤ 3 := by omega
      have hSa := sm.seq hS
      have hWa := sm.seq hW1
      refine ⟨by decide, fun pA hpA => ?_⟩
      have s4 := same_upd (o := HO.lst []) hpA
      refine ⟨_, rfl, _, rfl, _, rfl, _, _, rfl, s4.seq hSa, fun u hu => ?_⟩
      have s5 := same_upd (o := HO.lst (cutV (ns.map V.int) (some 16) (some 26))) hu
      have ec : cutV (ns.map V.int) (some 16) (some 26) = ((ns.drop 16).take 10).map V.int := by
        unfold cutV
        rw [List.length_map, hl40, ← List.map_drop, ← List.map_take]
        rfl
      rw [ec] at s5 ⊢
      have lms : ((ns.drop 16).take 10).length = 10 := by rw [List.length_take, List.length_drop, hl40]; rfl
      have hum : upd (upd Ha pA (.lst [])) u (.lst (((ns.drop 16).take 10).map V.int)) u = some (.lst (((ns.drop 16).take 10).map V.int)) := upd_same
      have hpA5 : upd (upd Ha pA (.lst [])) u (.lst (((ns.drop 16).take 10).map V.int)) pA = some (.lst []) := s5 _ _ upd_same
      generalize (ns.drop 16).take 10 = ms at *
      have sAu := s4.trans s5
      have nup : u ≠ pA := fun e => by rw [e, upd_same] at hu; cases hu
      generalize upd (upd Ha pA (.lst [])) u (.lst (ms.map V.int)) = Hu at *
      refine ⟨u, rfl, ⟨_, SqL.of hum⟩, for_list (xs := ms.map V.int) (fun i σ H' => Same Ha H' ∧ H' u = some (.lst (ms.map V.int)) ∧ ∃ (pk : List Key) (v8 : Option V), σ = [some (.int c), some (.ref a), some (.ref p), some (.ref bA), some (.ref th), v5, v6, some (.ref pA), v8, none, none] ∧ H' pA = some (.lst (pk.map kV)) ∧ pk.length = i ∧ ∀ t ∈ pk, PkOk As t)
        ⟨sAu, hum, [], _, rfl, hpA5, rfl, fun _ z => nomatch z⟩ (fun i σ H' _ z => SqL.of z.2.1) ?_ ?_⟩
      · rintro i x σ H' hx ⟨sb, hu', pk, v8, rfl, hpk, lpk, gpk⟩
        rw [List.getElem?_map] at hx
        obtain ⟨n, hni, rfl⟩ := Option.map_eq_some_iff.mp hx
        have hi10 : i < 10 := by rw [← lms]; exact (List.getElem?_eq_some_iff.mp hni).1
        have add : ∀ (H2 : Hp) (t : Key), Same H' H2 → PkOk As t → Same Ha (upd H2 pA (.lst (pk.map kV ++ [kV t]))) ∧ upd H2 pA (.lst (pk.map kV ++ [kV t])) u = some (.lst (ms.map V.int)) ∧ upd H2 pA (.lst (pk.map kV ++ [kV t])) pA = some (.lst ((pk ++ [t]).map kV)) ∧ (pk ++ [t]).length = i + 1 ∧ ∀ x ∈ pk ++ [t], PkOk As x := fun H2 t s6 gt => by
          refine ⟨(sb.trans s6).set hpA, by rw [upd_ne nup]; exact s6 _ _ hu', by rw [upd_same, List.map_append]; rfl, by rw [List.length_append, lpk]; rfl, fun x hx => ?_⟩
          rcases List.mem_append.mp hx with hx | hx
          · exact gpk x hx
          · rw [List.mem_singleton.mp hx]
            exact gt
        have lpz : (pk.map kV).length < sizeLine := by rw [List.length_map, lpk]; exact small1000 (by omega)
        refine ⟨_, rfl, by decide, fun z hz => ?_⟩
        have s6 := same_upd (o := HO.lst []) hz
        refine ⟨.list (zs.map .str), .list [], .lst (SqL.of (s6 _ _ (sb _ _ ht))) (dats_txt fun w hw => (gz w hw).2.2), .lst (SqL.of upd_same) .nil, depth_txt _, ?_⟩
        rw [eqv_nil]
        generalize upd H' z (.lst []) = H6 at *
        have sb6 := sb.trans s6
        refine ⟨_, rfl, ite2 (fun h1 => ?_) (fun h1 => ?_)⟩
        · refine ⟨_, rfl, _, _, rfl, rfl, (by show (0 : Int) < 3; decide), _, _, rfl, rfl, _, rfl, ite2 (fun h2 => ?_) (fun h2 => ?_)⟩
          · have hne : zs ≠ [] := fun e => by rw [decide_eq_true e] at h1; cases h1
            have zp : (0 : Int) < zs.length := by
              have : 0 < zs.length := List.length_pos_iff.mpr hne
              omega
            obtain ⟨e, hat, he⟩ := atI_in (xs := zs.map V.str) (i := n / 3 % (zs.length : Int)) (Int.emod_nonneg _ (by omega)) (by rw [List.length_map]; exact Int.emod_lt_of_pos _ zp)
            obtain ⟨y, hy, rfl⟩ := List.mem_map.mp he
            refine ⟨_, rfl, .inl ⟨rfl, _, SqL.of (s6 _ _ hpk)⟩, _, rfl, _, rfl, _, _, rfl, rfl, ⟨by decide, by decide⟩, _, rfl, _, _, rfl, .inl ⟨_, SqL.of (sb6 _ _ ht), rfl⟩, ?_⟩
            rw [List.length_map]
            refine ⟨_, _, rfl, rfl, zp, _, _, _, _, rfl, rfl, SqL.of (sb6 _ _ ht), hat, ?_⟩
            refine ⟨_, _, _, rfl, rfl, s6 _ _ hpk, lpz, ?_⟩
            obtain ⟨q1, q2, q3, q4, q5⟩ := add H6 (.inr y) s6 ⟨(gz y hy).2, .inr ⟨y, rfl, (gz y hy).1⟩⟩
            exact ⟨q1, q2, _, _, rfl, q3, q4, q5⟩
          · refine ⟨_, rfl, .inl ⟨rfl, _, SqL.of (s6 _ _ hpk)⟩, _, rfl, _, rfl, _, _, rfl, rfl, _, rfl, _, a, ws, rfl, sb6.seq hWa, wl, hw, fun t H7 s7 ht' hv _ => ?_⟩
            refine ⟨_, _, _, rfl, rfl, s7 _ _ (s6 _ _ hpk), lpz, ?_⟩
            obtain ⟨q1, q2, q3, q4, q5⟩ := add H7 t (s6.trans s7) ⟨ht', .inl hv⟩
            exact ⟨q1, q2, _, _, rfl, q3, q4, q5⟩
        · refine ⟨_, rfl, .inl ⟨rfl, _, SqL.of (s6 _ _ hpk)⟩, _, rfl, _, rfl, _, _, rfl, rfl, _, rfl, _, a, ws, rfl, sb6.seq hWa, wl, hw, fun t H7 s7 ht' hv _ => ?_⟩
          refine ⟨_, _, _, rfl, rfl, s7 _ _ (s6 _ _ hpk), lpz, ?_⟩
          obtain ⟨q1, q2, q3, q4, q5⟩ := add H7 t (s6.trans s7) ⟨ht', .inl hv⟩
          exact ⟨q1, q2, _, _, rfl, q3, q4, q5⟩
      · rintro σ Hp' ⟨sb, _, pk, v8, rfl, hpk, lpk, gpk⟩
        rw [List.length_map, lms] at lpk
        have hSp := sb.seq hSa
        have hWp := sb.seq hWa
        obtain ⟨z, hz, zw⟩ := word (ns.getD 26 0)
        have g0 := Int.emod_nonneg (ns.getD 27 0) (show (5 : Int) ≠ 0 by decide)
        have g1 := Int.emod_lt_of_pos (ns.getD 27 0) (show (0 : Int) < 5 by decide)
        obtain ⟨m, hm⟩ := Int.eq_ofNat_of_zero_le g0
        refine ⟨_, rfl, _, rfl, _, _, _, _, rfl, rfl, hSp, ats 26 (by decide), _, rfl, _, _, rfl, .inl ⟨_, hWp, rfl⟩, ?_⟩
        rw [List.length_map]
        refine ⟨_, _, rfl, rfl, hwp, _, _, _, _, rfl, rfl, hWp, hz, _, rfl, _, rfl, _, _, _, _, rfl, rfl, hSp, ats 27 (by decide), _, _, rfl, rfl, (by show (0 : Int) < 5; decide), _, rfl, _, _, rfl, SqL.of hpk, fun l1 hl1 => ?_⟩
        have em : cutV (pk.map kV) none (some (ns.getD 27 0 % 5)) = (pk.take m).map kV := by rw [hm, cut_head, List.map_take]
        rw [em]
        have s6 := same_upd (o := HO.lst ((pk.take m).map kV)) hl1
        refine ⟨_, _, rfl, .inl ⟨SqL.of upd_same, fun l2 hl2 => ?_⟩⟩
        have s7 := same_upd (o := HO.tup ((pk.take m).map kV)) hl2
        refine ⟨by show 2 ≤ sizeLine; decide, fun l3 hl3 => ?_⟩
        have s8 := same_upd (o := HO.tup [V.str z, .ref l2]) hl3
        have sH := s6.trans (s7.trans s8)
        have av : AtV (upd (upd (upd Hp' l1 (.lst ((pk.take m).map kV))) l2 (.tup ((pk.take m).map kV))) l3 (.tup [V.str z, .ref l2])) (.ref l3) (z, pk.take m) := ⟨l3, l2, rfl, upd_same, s8 _ _ upd_same⟩
        have hpk8 := sH _ _ hpk
        generalize upd (upd (upd Hp' l1 (.lst ((pk.take m).map kV))) l2 (.tup ((pk.take m).map kV))) l3 (.tup [V.str z, .ref l2]) = Hh at *
        have hok : AOk (z, pk.take m) := ⟨hw z zw, by show (pk.take m).length ≤ 4; rw [List.length_take]; omega, fun t ht => (gpk t (List.mem_of_mem_take ht)).1⟩
        have sbh := sb.trans sH
        refine ⟨by decide, fun cA' hcA => ?_⟩
        have s9 := same_upd (o := HO.lst []) hcA
        have c0 := Int.emod_nonneg (ns.getD 28 0) (show (4 : Int) ≠ 0 by decide)
        have c1 := Int.emod_lt_of_pos (ns.getD 28 0) (show (0 : Int) < 4 by decide)
        refine ⟨_, rfl, _, _, _, _, rfl, rfl, s9.seq (sbh.seq hSa), ats 28 (by decide), _, _, rfl, rfl, (by show (0 : Int) < 4; decide), _, rfl, by omega, by omega, ?_⟩
        refine for_range (lo := 0) (n := (ns.getD 28 0 % 4).toNat) (fun i σ H' => Same Hh H' ∧ ∃ (Cs : List Chc) (cxs : List V) (v5' : Option V), σ = [some (.int c), some (.ref a), some (.ref p), some (.ref bA), some (.ref th), v5', v6, some (.ref pA), v8, some (.ref l3), some (.ref cA')] ∧ H' cA' = some (.lst cxs) ∧ Paired (ChV H') cxs Cs ∧ Cs.length = i ∧ (∀ C ∈ Cs, COk C) ∧ ∀ C ∈ Cs, PkOk As C.2.1 ∧ PkOk As C.2.2)
          ⟨s9, [], [], _, rfl, upd_same, .nil, rfl, (fun _ z => nomatch z), fun _ z => nomatch z⟩ ?_ ?_
        · rintro i σ H' hi ⟨sc, Cs, cxs, v5', rfl, hcx, pcx, lc, gC, gP⟩
          have hi3 : i < 3 := by omega
          have hS9 := sc.seq (sbh.seq hSa)
          have a29 : atI (ns.map V.int) (29 + (0 + (i : Int))) = some (V.int (ns.getD (29 + i) 0)) := by
            rw [show (29 + (0 + (i : Int)) : Int) = ((29 + i : Nat) : Int) by omega]
            exact ats _ (by omega)
          obtain ⟨sg, hsg, sgm⟩ : ∃ sg, atI [V.str "=", .str "!=", .str "<"] (ns.getD (29 + i) 0 % 3) = some (V.str sg) ∧ sg ∈ sgs := by
            obtain ⟨e, hat, he⟩ := atI_in (xs := sgs.map V.str) (i := ns.getD (29 + i) 0 % 3) (Int.emod_nonneg _ (by decide)) (by show _ < (3 : Int); exact Int.emod_lt_of_pos _ (by decide))
            obtain ⟨y, hy, rfl⟩ := List.mem_map.mp he
            exact ⟨y, hat, hy⟩
          have pkat : ∀ j : Nat, j < 10 → ∃ t, atI (pk.map kV) (j : Int) = some (kV t) ∧ PkOk As t := fun j hj => by
            have : j < pk.length := by omega
            exact ⟨pk[j], atI_nat (by rw [List.getElem?_map, List.getElem?_eq_getElem this]; rfl), gpk _ (List.getElem_mem this)⟩
          obtain ⟨t1, h1, g1'⟩ := pkat (4 + 2 * i) (by omega)
          obtain ⟨t2, h2, g2'⟩ := pkat (5 + 2 * i) (by omega)
          rw [show ((4 + 2 * i : Nat) : Int) = 4 + 2 * (0 + (i : Int)) by omega] at h1
          rw [show ((5 + 2 * i : Nat) : Int) = 5 + 2 * (0 + (i : Int)) by omega] at h2
          have lcx : cxs.length = Cs.length := Paired.length pcx
          refine ⟨_, rfl, .inl ⟨rfl, _, SqL.of hcx⟩, by show 3 ≤ sizeLine; decide, fun lA hlA => ?_⟩
          have s10 := same_upd (o := HO.lst [V.str "=", .str "!=", .str "<"]) hlA
          have hpk10 := s10 _ _ (sc _ _ hpk8)
          refine ⟨_, rfl, _, rfl, _, _, rfl, rfl, _, _, _, _, rfl, rfl, s10.seq hS9, a29, _, _, rfl, rfl, (by show (0 : Int) < 3; decide), _, _, _, _, rfl, rfl, SqL.of upd_same, hsg, ?_⟩
          refine ⟨_, rfl, _, rfl, _, _, rfl, rfl, .inl ⟨by decide, by decide⟩, _, _, rfl, rfl, _, _, _, _, rfl, rfl, SqL.of hpk10, h1, ?_⟩
          refine ⟨_, rfl, _, rfl, _, _, rfl, rfl, .inl ⟨by decide, by decide⟩, _, _, rfl, rfl, _, _, _, _, rfl, rfl, SqL.of hpk10, h2, ?_⟩
          refine ⟨by show 3 ≤ sizeLine; decide, fun tA htA => ?_⟩
          have s11 := same_upd (o := HO.tup [V.str sg, kV t1, kV t2]) htA
          have hcx11 := s11 _ _ (s10 _ _ hcx)
          have cv : ChV (upd (upd H' lA (.lst [V.str "=", .str "!=", .str "<"])) tA (.tup [V.str sg, kV t1, kV t2])) (.ref tA) (sg, t1, t2) := ⟨tA, rfl, upd_same⟩
          refine ⟨_, _, _, rfl, rfl, hcx11, small1000 (by omega), ?_⟩
          refine ⟨(sc.trans (s10.trans s11)).set hcA, Cs ++ [(sg, t1, t2)], _, _, rfl, upd_same, paired_snoc (L2.Paired.mapP pcx fun _ _ w => (w.same (s10.trans s11)).upd hcx11) (cv.upd hcx11), by rw [List.length_append, lc]; rfl, fun C hC => ?_, fun C hC => ?_⟩
          · rcases List.mem_append.mp hC with hC | hC
            · exact gC C hC
            · rw [List.mem_singleton.mp hC]
              exact ⟨sgm, g1'.1, g2'.1⟩
          · rcases List.mem_append.mp hC with hC | hC
            · exact gP C hC
            · rw [List.mem_singleton.mp hC]
              exact ⟨g1', g2'⟩
        · rintro σ Hc ⟨sc, Cs, cxs, v5', rfl, hcx, pcx, lc, gC, gP⟩
          have sE := sbh.trans sc
          refine ⟨_, rfl, _, rfl, _, _, rfl, .inl ⟨SqL.of (sE _ _ hb), fun m1 hm1 => ?_⟩⟩
          have s10 := same_upd (o := HO.tup bxs) hm1
          refine ⟨_, rfl, _, _, rfl, .inl ⟨SqL.of (s10 _ _ hcx), fun m2 hm2 => ?_⟩⟩
          have s11 := same_upd (o := HO.tup cxs) hm2
          refine ⟨by show 3 ≤ sizeLine; decide, fun q hq => ?_⟩
          have s12 := same_upd (o := HO.tup [V.ref l3, .ref m1, .ref m2]) hq
          have sF := s10.trans (s11.trans s12)
          have g : GoodR (z, pk.take m) As Cs := ⟨hok, ga, gC, by omega, by omega⟩
          refine k q (z, pk.take m) As Cs _ (s1.trans (sm.trans (sE.trans sF))) ⟨q, m1, m2, .ref l3, bxs, cxs, rfl, upd_same, av.same (sc.trans sF), (s11.trans s12) _ _ upd_same, L2.Paired.mapP pb fun _ _ w => w.same (sE.trans sF), s12 _ _ upd_same, L2.Paired.mapP pcx fun _ _ w => w.same sF⟩ g (safe_ok g la3 (by omega) (fun t ht => gpk t (List.mem_of_mem_take ht)) gP) la3 (by omega)
end
end Wy
namespace Wy
open PySem L2
theorem pl_key (n : Nat) : ∀ k : Key, PlD (n + 1) (keyD k)
  | .inl _ => trivial
  | .inr _ => trivial
theorem pl_atom (n : Nat) {A : Atm} (g : AOk A) : PlD (n + 3) (atomD A) := by
  refine ⟨by show 2 ≤ 10; decide, fun d hd => ?_⟩
  rcases List.mem_cons.mp hd with rfl | hd
  · exact trivial
  · rw [List.mem_singleton.mp hd]
    refine ⟨by rw [List.length_map]; have := g.2.1; omega, fun e he => ?_⟩
    obtain ⟨k, _, rfl⟩ := List.mem_map.mp he
    exact pl_key n k
theorem pl_choice (n : Nat) (C : Chc) : PlD (n + 2) (choiceD C) := by
  refine ⟨by show 3 ≤ 10; decide, fun d hd => ?_⟩
  rcases List.mem_cons.mp hd with rfl | hd
  · exact trivial
  · rcases List.mem_cons.mp hd with rfl | hd
    · exact pl_key n _
    · rw [List.mem_singleton.mp hd]
      exact pl_key n _
theorem pl_rule {h : Atm} {As : List Atm} {Cs : List Chc} (g : GoodR h As Cs) : PlD 5 (ruleD h As Cs) := by
  refine ⟨by show 3 ≤ 10; decide, fun d hd => ?_⟩
  rcases List.mem_cons.mp hd with rfl | hd
  · exact pl_atom 1 g.1
  · rcases List.mem_cons.mp hd with rfl | hd
    · refine ⟨by rw [List.length_map]; have := g.2.2.2.1; omega, fun e he => ?_⟩
      obtain ⟨A, hA, rfl⟩ := List.mem_map.mp he
      exact pl_atom 0 (g.2.1 A hA)
    · rw [List.mem_singleton.mp hd]
      refine ⟨by rw [List.length_map]; have := g.2.2.2.2; omega, fun e he => ?_⟩
      obtain ⟨C, hC, rfl⟩ := List.mem_map.mp he
      exact pl_choice 1 C
theorem if_ok : WOk "if" := ⟨by decide +kernel, by decide +kernel⟩
theorem ws_ok {z : Str} (h : Wz 12 z ∧ 1 ≤ z.length ∧ Ws z) : WOk z := ⟨txt_of h.1 h.2.1 h.2.2, h.1.ok⟩
end Wy
namespace Wy
open PySem L2
def figsOf (z : Str) : Str := if z.cps.toList.head? = some 45 then cutS z (some 1) none else z
def numB (z : Str) : Bool := figB (figsOf z) && (decide (z = "0") || !decide ((figsOf z).cps.toList.head? = some 48))
theorem fig_le : ∀ c ∈ figS.cps.toList, 48 ≤ c ∧ c ≤ 57 := by decide +kernel
theorem dig_one : ∀ k : Nat, k < 10 → (Nat.toDigits 10 k).map Char.toNat = [k + 48] := by decide
theorem dig_char : ∀ k : Nat, k < 10 → (Nat.digitChar k).toNat = k + 48 := by decide
theorem digits_of : ∀ (n : Nat) (ds : List Nat), ds.length = n + 1 → (∀ c ∈ ds, 48 ≤ c ∧ c ≤ 57) → (n = 0 ∨ ds.head? ≠ some 48) → ∃ m : Nat, (Nat.toDigits 10 m).map Char.toNat = ds ∧ m < 10 ^ (n + 1) ∧ (ds.head? ≠ some 48 → 1 ≤ m)
  | 0, ds, hl, hd, _ => by
    match ds, hl with
    | [c], _ =>
      have h := hd c (List.mem_singleton.mpr rfl)
      refine ⟨c - 48, ?_, by omega, fun q => ?_⟩
      · rw [dig_one _ (by omega), show c - 48 + 48 = c by omega]
      · have : c ≠ 48 := fun e => q (by rw [e]; rfl)
        omega
  | n + 1, ds, hl, hd, hz => by
    have hz : ds.head? ≠ some 48 := hz.resolve_left (by omega)
    obtain ⟨l, d, rfl⟩ : ∃ l d, ds = l ++ [d] := ⟨ds.dropLast, ds.getLast (by intro x; rw [x] at hl; simp at hl), (List.dropLast_concat_getLast _).symm⟩
    rw [List.length_append, List.length_singleton] at hl
    have hh : (l ++ [d]).head? = l.head? := by
      cases l with
      | nil => simp at hl
      | cons a b => rfl
    rw [hh] at hz
    obtain ⟨m, e, hm, h1⟩ := digits_of n l (by omega) (fun c hc => hd c (List.mem_append.mpr (.inl hc))) (.inr hz)
    have h1 := h1 hz
    have hdd := hd d (List.mem_append.mpr (.inr (List.mem_singleton.mpr rfl)))
    refine ⟨10 * m + (d - 48), ?_, ?_, fun _ => by omega⟩
    · rw [digits_split (by omega), show (10 * m + (d - 48)) / 10 = m by omega, show (10 * m + (d - 48)) % 10 = d - 48 by omega, List.map_append, e]
      show l ++ [(Nat.digitChar (d - 48)).toNat] = _
      rw [dig_char _ (by omega), show d - 48 + 48 = d by omega]
    · rw [Nat.pow_succ]
      omega
theorem figB_all {y : Str} (h : figB y = true) : 1 ≤ y.length ∧ y.length ≤ 60 ∧ ∀ c ∈ y.cps.toList, 48 ≤ c ∧ c ≤ 57 := by
  unfold figB at h
  rw [Bool.and_eq_true, Bool.and_eq_true, decide_eq_true_eq, decide_eq_true_eq, List.all_eq_true] at h
  exact ⟨h.1.1, h.1.2, fun c hc => fig_le c (of_decide_eq_true (h.2 c hc))⟩
theorem zero_list : ("0" : Str).cps.toList = [48] := by decide +kernel
theorem num_of {z : Str} (h : numB z = true) : ∃ i : Int, z = shownK (.inl i) ∧ i.natAbs < 10 ^ 60 := by
  unfold numB at h
  rw [Bool.and_eq_true, Bool.or_eq_true, decide_eq_true_eq] at h
  obtain ⟨h1, h2⟩ := h
  obtain ⟨l1, l2, hd⟩ := figB_all h1
  have p60 : ∀ n m : Nat, n ≤ 59 → m < 10 ^ (n + 1) → m < 10 ^ 60 := fun n m hn hm => Nat.lt_of_lt_of_le hm (Nat.pow_le_pow_right (by decide) (by omega))
  unfold figsOf at h1 h2 l1 l2 hd
  by_cases hh : z.cps.toList.head? = some 45
  · rw [if_pos hh] at h1 h2 l1 l2 hd
    obtain ⟨r, er⟩ : ∃ r, z.cps.toList = 45 :: r := by
      cases e : z.cps.toList with
      | nil => rw [e] at hh; cases hh
      | cons a b =>
        rw [e] at hh
        injection hh with hh
        exact ⟨b, by rw [hh]⟩
    have ec := cut_one er
    have l1' : 1 ≤ r.length := by rw [← ec, str_len]; exact l1
    have l2' : r.length ≤ 60 := by rw [← ec, str_len]; exact l2
    rw [ec] at hd h2
    have hz : z ≠ "0" := fun e => by
      rw [e, zero_list] at er
      injection er with er _
      exact absurd er (by decide)
    have hr : r.head? ≠ some 48 := fun e => by
      rcases h2 with h2 | h2
      · exact hz h2
      · rw [e] at h2
        simp at h2
    obtain ⟨m, em, hm, hm1⟩ := digits_of (r.length - 1) r (by omega) hd (.inr hr)
    refine ⟨-(m : Int), str_ext ?_, ?_⟩
    · rw [neg_signs m (hm1 hr), em, er]
    · have := p60 _ _ (by omega) hm
      omega
  · rw [if_neg hh] at h1 h2 l1 l2 hd
    have l1' : 1 ≤ z.cps.toList.length := by rw [str_len]; exact l1
    have l2' : z.cps.toList.length ≤ 60 := by rw [str_len]; exact l2
    have hr : z.cps.toList.length - 1 = 0 ∨ z.cps.toList.head? ≠ some 48 := by
      rcases h2 with h2 | h2
      · exact .inl (by rw [h2, zero_list]; rfl)
      · exact .inr fun e => by rw [e] at h2; simp at h2
    obtain ⟨m, em, hm, _⟩ := digits_of (z.cps.toList.length - 1) z.cps.toList (by omega) hd hr
    refine ⟨(m : Int), str_ext ?_, ?_⟩
    · rw [num_signs m, em]
    · have := p60 _ _ (by omega) hm
      omega
theorem num_is {i : Int} (h : i.natAbs < 10 ^ 60) : numB (shownK (.inl i)) = true := by
  obtain ⟨y, hy, hzy, h0⟩ := numT_of h
  generalize shownK (.inl i) = z at *
  have ey : figsOf z = y := by
    unfold figsOf
    rcases hzy with ⟨q, rfl⟩ | q
    · rw [if_neg q]
    · rw [if_pos (by rw [q]; rfl)]
      exact str_ext (cut_one q)
  unfold numB
  rw [ey, hy, Bool.true_and, Bool.or_eq_true, decide_eq_true_eq]
  rcases h0 with h0 | h0
  · exact .inl h0
  · refine .inr ?_
    rw [decide_eq_false h0]
    rfl
theorem cuts_join (x y : Str) : Str.join y (cutsS x y) = x := StrLaws.join_split x y
theorem join_size (y : Str) : ∀ ws : List Str, (ws.map (·.length)).sum + (ws.length - 1) * y.length = (Str.join y ws).length
  | [] => by
    show 0 + (0 - 1) * y.length = _
    rw [show (0 - 1 : Nat) = 0 from rfl, Nat.zero_mul]
    unfold Str.join
    decide +kernel
  | [x] => by
    show x.length + 0 + (1 - 1) * y.length = x.length
    rw [show (1 - 1 : Nat) = 0 from rfl, Nat.zero_mul]
    rfl
  | x :: x' :: r => by
    have ih := join_size y (x' :: r)
    rw [join_cons2, Str.length_append, Str.length_append, List.map_cons, List.sum_cons, ← ih, List.length_cons, List.length_cons, show r.length + 1 + 1 - 1 = (r.length + 1 - 1) + 1 by omega, Nat.succ_mul]
    omega
theorem mem_sum : ∀ {ws : List Str} {w : Str}, w ∈ ws → w.length ≤ (ws.map (·.length)).sum
  | a :: r, w, h => by
    rw [List.map_cons, List.sum_cons]
    rcases List.mem_cons.mp h with rfl | h
    · omega
    · have := mem_sum h
      omega
theorem cut_le {x y p : Str} (h : p ∈ cutsS x y) : p.length ≤ x.length := by
  have h1 := join_size y (cutsS x y)
  rw [cuts_join] at h1
  have := mem_sum h
  omega
theorem cuts_le {x y : Str} (hy : 1 ≤ y.length) : (cutsS x y).length ≤ x.length + 1 := by
  have h1 := join_size y (cutsS x y)
  rw [cuts_join] at h1
  have := Nat.mul_le_mul (Nat.le_refl ((cutsS x y).length - 1)) hy
  omega
theorem join_has {y : Str} {c : Nat} : ∀ {ws : List Str} {w : Str}, w ∈ ws → c ∈ w.cps.toList → c ∈ (Str.join y ws).cps.toList
  | [x], w, h, hc => by
    rw [List.mem_singleton.mp h] at hc
    exact hc
  | x :: x' :: r, w, h, hc => by
    rw [join_cons2, str_app, str_app]
    rcases List.mem_cons.mp h with rfl | h
    · exact List.mem_append.mpr (.inl (List.mem_append.mpr (.inl hc)))
    · exact List.mem_append.mpr (.inr (join_has h hc))
theorem cut_in {x y p : Str} {c : Nat} (h : p ∈ cutsS x y) (hc : c ∈ p.cps.toList) : c ∈ x.cps.toList := by
  have := join_has (y := y) h hc
  rw [cuts_join] at this
  exact this
end Wy
namespace Wy
open PySem L2
def Low (z : Str) : Prop := ∀ c ∈ z.cps.toList, c < 128
theorem cuts_ne (x y : Str) : ∃ p r, cutsS x y = p :: r := by
  unfold cutsS Txt.split
  split
  · exact ⟨_, _, rfl⟩
  · split
    · exact ⟨_, _, rfl⟩
    · rw [StrLaws.partsBetween_eq]
      exact StrLaws.partsFrom_ne _ _ _ _
theorem strOk_low {z : Str} (h : Low z) : PyData.strOk z = true := strOk_of fun c hc => Nat.lt_of_lt_of_le (h c hc) (by decide)
theorem size20 {n : Nat} (h : n ≤ 20001) : n < sizeLine := Nat.lt_of_le_of_lt h (by decide)
theorem low_cuts {x y p : Str} (h : Low x) (hp : p ∈ cutsS x y) : Low p := fun c hc => h c (cut_in hp hc)
theorem part_or (z y : Str) : (∃ a b, partS z y = [a, y, b] ∧ z = a ++ y ++ b) ∨ partS z y = [z, Str.empty, Str.empty] := by
  unfold partS
  rcases StrLaws.occ_head z y 1 (Nat.le_refl _) with ⟨e, _⟩ | ⟨i, r, e, h1, _⟩
  · rw [e]
    exact .inr rfl
  · rw [e]
    have := StrLaws.sub_cat z y (Nat.zero_le i) h1
    rw [StrLaws.sub_whole] at this
    exact .inl ⟨_, _, rfl, this.symm⟩
theorem low_part {a y b : Str} (h : Low (a ++ y ++ b)) : Low a ∧ Low b := ⟨fun c hc => h c (by rw [str_app, str_app]; exact List.mem_append.mpr (.inl (List.mem_append.mpr (.inl hc)))), fun c hc => h c (by rw [str_app]; exact List.mem_append.mpr (.inr hc))⟩
theorem end_is {b : Str} {c : Nat} (h : endB b ⟨#[c]⟩ = true) : ∃ a : Str, b = a ++ (⟨#[c]⟩ : Str) := by
  have hl := str_len b
  unfold endB at h
  rw [StrLaws.subAt_eq] at h
  have h : (decide (0 + 1 ≤ b.length) && ((b.cps.toList.drop (b.length - 1)).take 1 == [c])) = true := h
  rw [Bool.and_eq_true, decide_eq_true_eq] at h
  have ne : b.cps.toList ≠ [] := fun e => by
    rw [e] at hl
    have : b.length = 0 := hl.symm
    omega
  obtain ⟨l, d, e⟩ : ∃ l d, b.cps.toList = l ++ [d] := ⟨_, _, (List.dropLast_concat_getLast ne).symm⟩
  have l1 : b.length = l.length + 1 := by rw [← hl, e, List.length_append]; rfl
  have h2 := h.2
  rw [e, l1, Nat.add_sub_cancel, List.drop_append_of_le_length (Nat.le_refl _), List.drop_length, List.nil_append] at h2
  have hd : d = c := by
    have h2 : ([d] == [c]) = true := h2
    simpa using h2
  exact ⟨⟨l.toArray⟩, str_ext (by rw [str_app, e, hd])⟩
def trmB (z : Str) : Bool := txtB small z || txtB capS z || numB z
theorem trm_of {k : Key} (h : TmOk k) : trmB (shownK k) = true := by
  unfold trmB
  cases k with
  | inl i => rw [num_is h, Bool.or_true]
  | inr z =>
    rcases h.1 with q | q
    · rw [show shownK (.inr z) = z from rfl, q]
      rfl
    · rw [show shownK (.inr z) = z from rfl, q, Bool.or_true]
      rfl
def RowT (z : Str) (ks : List Key) : Prop := ks.length ≤ 4 ∧ (∀ k ∈ ks, TmOk k) ∧ z = Str.join comS (ks.map shownK)
def AtomT (z : Str) (A : Atm) : Prop := AOk A ∧ z = atomS A
def ChT (z : Str) (C : Chc) : Prop := COk C ∧ z = choiceS C
def BodyT (z : Str) (As : List Atm) (Cs : List Chc) : Prop := (∀ A ∈ As, AOk A) ∧ (∀ C ∈ Cs, COk C) ∧ bodyS As Cs ≠ [] ∧ z = Str.join semS (bodyS As Cs)
def RuleT (z : Str) (h : Atm) (As : List Atm) (Cs : List Chc) : Prop := AOk h ∧ (∀ A ∈ As, AOk A) ∧ (∀ C ∈ Cs, COk C) ∧ z = ruleS h As Cs
def FactT (z : Str) (n : Str) (A : Atm) : Prop := WOk n ∧ AOk A ∧ (∀ k ∈ A.2, varK k = false) ∧ z = factS n A.1 A.2
theorem atom_row (A : Atm) : atomS A = A.1 ++ rowS A.2 := rfl
section
variable {P : Program} {w : World} {K : PySem.W.Frag} {mg : Str → Option Value} {base : Heap}
abbrev nT (mg : Str → Option Value) : Value := .ref (cA mg "NoText")
def sp_askX (mg : Str → Option Value) : Sp := fun vs H Q E => ∃ b : Bool, vs = [.bl b] ∧ (b = true → Q .non H) ∧ (b = false → E (nT mg) none H)
theorem okX_ask_written (T : Txt K mg) : DefE P w K mg base 1 "ask_written" ["truth"] (sp_askX mg) := by
  refine T.t_ask_written.okE sc_ask_written (fun vs H Q E h => ?_) fun f cdv A outer s H vs Q E hr h => ?_
  · obtain ⟨b, rfl, _⟩ := h
    rfl
  · obtain ⟨b, rfl, k1, k2⟩ := h
    refine ⟨_, (pss_one (ps_if (pt_not (pt_val (pv 0))) (pss_one (ps_raise leav_cx T.x_NoText.new T.g_NoText (pa_1 pe_str))) pss_nil)), ?_⟩
    cases b with
    | true => exact ⟨_, rfl, _, rfl, iteFb rfl (k1 rfl)⟩
    | false => exact ⟨_, rfl, _, rfl, iteTb rfl ⟨by show 1 ≤ sizeLine; decide, k2 rfl⟩⟩
def NoS (K : PySem.W.Frag) (H : Hp) (x : V) : Prop := ∃ n, TyOf K H x (.type n) ∧ n ∈ tyTs ∧ tyIs n "str" = false
def sp_askT (K : PySem.W.Frag) (mg : Str → Option Value) : Sp := fun vs H Q E => ∃ x, vs = [x] ∧ ((∃ z, x = .str z) ∧ Q .non H ∨ NoS K H x ∧ E (nT mg) none H)
theorem okX_ask_text (T : Txt K mg) : DefE P w K mg base 2 "ask_text" ["thing"] (sp_askT K mg) := by
  refine T.t_ask_text.okE sc_ask_text (fun vs H Q E h => ?_) fun f cdv A outer s H vs Q E hr h => ?_
  · obtain ⟨x, rfl, _⟩ := h
    rfl
  · obtain ⟨x, rfl, h⟩ := h
    refine ⟨_, (pss_one (ps_expr (pe_defE (okX_ask_written T) (leav_pass leav_cx) hr rfl (pa_1 (pe_callB (call_isi K) rfl T.b_isinstance bt_isinstance (pa_2 (pv 0) (pe_ty rfl T.b_str bt_str))))))), ?_⟩
    rcases h with ⟨⟨z, rfl⟩, k⟩ | ⟨⟨n, ty, hn, no⟩, k⟩
    · exact ⟨_, rfl, _, _, "str", rfl, .str _, by decide, by decide, _, rfl, fun _ => k, fun z => absurd z (by decide)⟩
    · exact ⟨_, rfl, _, _, n, rfl, ty, hn, by decide, _, rfl, fun z => absurd (no.symm.trans z) (by decide), fun _ => k⟩
def sp_wnB : Sp := fun vs H Q _ => ∃ z, vs = [.str z] ∧ z.length ≤ 20000 ∧ ∀ H', Same H H' → Q (.bl (numB z)) H'
theorem okB_is_written_number (T : Txt K mg) : Def P w K mg base 2 "is_written_number" ["text"] sp_wnB := by
  refine T.t_is_written_number.ok sc_is_written_number (fun vs H Q E h => ?_) fun f cdv A outer s H vs Q E hr h => ?_
  · obtain ⟨z, rfl, _⟩ := h
    rfl
  · obtain ⟨z, rfl, hz, k⟩ := h
    have hsl : z.length ≤ sizeLine := Nat.le_trans hz (by decide)
    have hm : ("-" : Str) = ⟨#[45]⟩ := by decide +kernel
    have h48 : ("0" : Str) = ⟨#[48]⟩ := by decide +kernel
    have rest : ∀ (y : Str) (H1 : Hp) (d : Nat) (r : List Nat), Same H H1 → figsOf z = y → figB y = true → y.cps.toList = d :: r → ¬ z = "0" → Q (.bl (!decide (V.str (⟨#[d]⟩ : Str) = V.str "0"))) H1 := fun y H1 d r s1 e1 e2 e3 e4 => by
      have := k H1 s1
      unfold numB at this
      rw [e1, e2, Bool.true_and, decide_eq_false e4, Bool.false_or, e3] at this
      have e5 : decide ((d :: r).head? = some 48) = decide (V.str (⟨#[d]⟩ : Str) = V.str "0") := by
        refine decide_eq_decide.mpr ⟨fun q => ?_, fun q => ?_⟩
        · injection q with q
          rw [q, h48]
        · rw [h48] at q
          injection q with q
          injection q with q
          injection q with q
          injection q with q _
          rw [q]
          rfl
      rw [e5] at this
      exact this
    have yes : ∀ H1, Same H H1 → figB (figsOf z) = true → z = "0" → Q (.bl true) H1 := fun H1 s1 e1 e2 => by
      have := k H1 s1
      unfold numB at this
      rw [e1, decide_eq_true e2] at this
      exact this
    have no : ∀ H1, Same H H1 → ¬ figB (figsOf z) = true → Q (.bl false) H1 := fun H1 s1 e1 => by
      have := k H1 s1
      unfold numB at this
      rw [Bool.eq_false_iff.mpr e1] at this
      exact this
    have cons : ∀ y : Str, figB y = true → ∃ d r, y.cps.toList = d :: r := fun y h => by
      cases e : y.cps.toList with
      | nil =>
        have h1 := (figB_all h).1
        rw [← str_len, e] at h1
        exact absurd h1 (by decide)
      | cons d r => exact ⟨d, r, rfl⟩
    refine ⟨_, (pss_2
      (ps_set (i := 1) sc_is_written_number.nd rfl (Or.inl rfl) (pe_ifExp (pt_val (pe_bm PySem.F.plainAttrs_str PySem.F.slot_str_startswith PySem.F.type_str_startswith mt_startswith (pv 0) (pa_1 pe_str))) (pe_slice sl_str (pv 0) (po_some pe_int) po_none) (pv 0)))
      (ps_ret (pe_and (pe_def (ok_are_figures T) hr rfl (pa_1 (pv 1))) (pe_one (pe_or (pe_cmpR op_eq (pv 0) pe_str (nomark _)) (pe_one (pe_cmpR op_ne (pe_ix ix_str (pv 1) pe_int (fun _ _ => rfl)) pe_str (nomark _)))))))), ?_⟩
    refine ⟨_, rfl, rfl, _, _, rfl, rfl, _, rfl, ?_⟩
    rw [hm, start_one]
    refine ite2 (fun hh => ?_) (fun hh => ?_)
    · have ey : figsOf z = cutS z (some 1) none := by unfold figsOf; rw [if_pos (of_decide_eq_true hh)]
      refine ⟨_, rfl, _, rfl, _, rfl, hsl, ?_⟩
      have hyl : (cutS z (some 1) none).length ≤ 20000 := Nat.le_trans (cutS_length _ _ _) hz
      rw [← ey] at hyl ⊢
      refine ⟨_, rfl, _, rfl, hyl, fun H1 s1 => ⟨_, rfl, ite2 (fun hy => ?_) (fun hy => ?_)⟩⟩
      · obtain ⟨d, r, e⟩ := cons _ hy
        refine ⟨_, rfl, rfl, _, rfl, ite2 (fun h1 => ?_) (fun h1 => ?_)⟩
        · exact yes H1 s1 hy (by have := of_decide_eq_true h1; injection this)
        · exact ⟨_, rfl, _, _, d, rfl, rfl, Nat.le_trans hyl (by decide), (by rw [e]; exact atI_nat (j := 0) rfl), rfl, rest _ H1 d r s1 rfl hy e fun q => h1 (decide_eq_true (congrArg V.str q))⟩
      · exact no H1 s1 hy
    · have ey : figsOf z = z := by unfold figsOf; rw [if_neg (fun q => hh (decide_eq_true q))]
      refine ⟨_, rfl, _, rfl, _, rfl, hz, fun H1 s1 => ⟨_, rfl, ite2 (fun hy => ?_) (fun hy => ?_)⟩⟩
      · obtain ⟨d, r, e⟩ := cons _ hy
        refine ⟨_, rfl, rfl, _, rfl, ite2 (fun h1 => ?_) (fun h1 => ?_)⟩
        · exact yes H1 s1 (by rw [ey]; exact hy) (by have := of_decide_eq_true h1; injection this)
        · exact ⟨_, rfl, _, _, d, rfl, rfl, hsl, (by rw [e]; exact atI_nat (j := 0) rfl), rfl, rest _ H1 d r s1 ey hy e fun q => h1 (decide_eq_true (congrArg V.str q))⟩
      · exact no H1 s1 (by rw [ey]; exact hy)
def sp_rnX (mg : Str → Option Value) : Sp := fun vs H Q E => ∃ z, vs = [.str z] ∧ z.length ≤ 20000 ∧ (∀ i, z = shownK (.inl i) → i.natAbs < 10 ^ 60 → ∀ H', Same H H' → Q (.int i) H') ∧ (numB z = false → ∀ H', Same H H' → E (nT mg) none H')
theorem okX_read_number (T : Txt K mg) : DefE P w K mg base 3 "read_number" ["text"] (sp_rnX mg) := by
  refine T.t_read_number.okE sc_read_number (fun vs H Q E h => ?_) fun f cdv A outer s H vs Q E hr h => ?_
  · obtain ⟨z, rfl, _⟩ := h
    rfl
  · obtain ⟨z, rfl, hl, k1, k2⟩ := h
    refine ⟨_, (pss_2
      (ps_expr (pe_defE (okX_ask_written T) (leav_pass leav_cx) hr rfl (pa_1 (pe_def (okB_is_written_number T) hr rfl (pa_1 (pv 0))))))
      (ps_ret (pe_callTy call_intT rfl T.b_int bt_int (pa_1 (pv 0))))), ?_⟩
    refine ⟨_, rfl, _, rfl, hl, fun H1 s1 => ⟨_, rfl, fun e => ?_, fun e => k2 e H1 s1⟩⟩
    obtain ⟨i, ei, hi⟩ := num_of e
    have l61 := (num_len hi).1
    exact ⟨_, rfl, z, i, rfl, by rw [ei]; omega, by rw [ei]; exact num_reads hi, k1 i ei hi H1 s1⟩
def sp_rwX (mg : Str → Option Value) : Sp := fun vs H Q E => ∃ z, vs = [.str z] ∧ PyData.strOk z = true ∧ z.length ≤ 20000 ∧ (txtB small z = true → ∀ H', Same H H' → Q (.str z) H') ∧ (txtB small z = false → ∀ H', Same H H' → E (nT mg) none H')
theorem okX_read_word (T : Txt K mg) : DefE P w K mg base 3 "read_word" ["text"] (sp_rwX mg) := by
  refine T.t_read_word.okE sc_read_word (fun vs H Q E h => ?_) fun f cdv A outer s H vs Q E hr h => ?_
  · obtain ⟨z, rfl, _⟩ := h
    rfl
  · obtain ⟨z, rfl, ho, hl, k1, k2⟩ := h
    refine ⟨_, (pss_2
      (ps_expr (pe_defE (okX_ask_written T) (leav_pass leav_cx) hr rfl (pa_1 (pe_def (okW_is_word T) hr rfl (pa_1 (pv 0))))))
      (ps_ret (pv 0))), ?_⟩
    exact ⟨_, rfl, _, rfl, ho, hl, fun H1 s1 => ⟨_, rfl, fun e => ⟨_, rfl, k1 e H1 s1⟩, fun e => k2 e H1 s1⟩⟩
def sp_rtX (mg : Str → Option Value) : Sp := fun vs H Q E => ∃ z, vs = [.str z] ∧ Low z ∧ z.length ≤ 20000 ∧ (∀ k, TmOk k → z = shownK k → ∀ H', Same H H' → Q (kV k) H') ∧ (trmB z = false → ∀ H', Same H H' → E (nT mg) none H')
theorem okX_read_term (T : Txt K mg) : DefE P w K mg base 4 "read_term" ["text"] (sp_rtX mg) := by
  refine T.t_read_term.okE sc_read_term (fun vs H Q E h => ?_) fun f cdv A outer s H vs Q E hr h => ?_
  · obtain ⟨z, rfl, _⟩ := h
    rfl
  · obtain ⟨z, rfl, low, hl, k1, k2⟩ := h
    have ho := strOk_low low
    refine ⟨_, (pss_one (ps_ret (pe_ifExp (PW.pt (pw_or (pt_val (pe_def (okW_is_word T) hr rfl (pa_1 (pv 0)))) (pw_or1 (pt_val (pe_def (okW_is_var T) hr rfl (pa_1 (pv 0))))))) (pv 0) (pe_defE (okX_read_number T) (leav_pass leav_cx) hr rfl (pa_1 (pv 0)))))), ?_⟩
    refine ⟨_, rfl, _, rfl, ho, hl, fun H1 s1 => ⟨_, rfl, ite2 (fun h1 => iteT ?_) (fun h1 => ?_)⟩⟩
    · exact ⟨_, rfl, k1 (.inr z) ⟨.inl h1, ho⟩ rfl H1 s1⟩
    · refine ⟨_, rfl, _, rfl, ho, hl, fun H2 s2 => ⟨_, rfl, ite2 (fun h2 => ?_) (fun h2 => ?_)⟩⟩
      · exact ⟨_, rfl, k1 (.inr z) ⟨.inr h2, ho⟩ rfl H2 (s1.trans s2)⟩
      · refine ⟨_, rfl, z, rfl, hl, fun i ei hi H3 s3 => k1 (.inl i) hi ei H3 (s1.trans (s2.trans s3)), fun no H3 s3 => k2 ?_ H3 (s1.trans (s2.trans s3))⟩
        unfold trmB
        rw [Bool.eq_false_iff.mpr h1, Bool.eq_false_iff.mpr h2, no]
        rfl
def sp_rsX (mg : Str → Option Value) : Sp := fun vs H Q E => ∃ z, vs = [.str z] ∧ Low z ∧ z.length ≤ 20000 ∧ (∀ ks, RowT z ks → ∀ p H', Same H H' → H' p = some (.tup (ks.map kV)) → Q (.ref p) H') ∧ ((∀ ks, ¬ RowT z ks) → ∀ H', Same H H' → E (nT mg) none H')
theorem okX_read_terms (T : Txt K mg) : DefE P w K mg base 5 "read_terms" ["text"] (sp_rsX mg) := by
  refine T.t_read_terms.okE sc_read_terms (fun vs H Q E h => ?_) fun f cdv A outer s H vs Q E hr h => ?_
  · obtain ⟨z, rfl, _⟩ := h
    rfl
  · obtain ⟨z, rfl, low, hl, k1, k2⟩ := h
    refine ⟨_, (pss_4
      (ps_if (pt_cmpR op_eq (pv 0) pe_str (nomark _)) (pss_one (ps_ret (pe_tup pa_nil))) pss_nil)
      (ps_set (i := 1) sc_read_terms.nd rfl (Or.inl rfl) (pe_callTy (call_tupleK K) rfl T.b_tuple bt_tuple (pa_1 (pe_compE leav_cx (N := ["part"]) (caps := [none]) rfl (by with_unfolding_all rfl) (pi_listK K (pe_bm PySem.F.plainAttrs_str PySem.F.slot_str_split PySem.F.type_str_split mt_split (pv 0) (pa_1 pe_str))) (fun _ _ _ _ _ _ => (pg_name (i := 0) (show (["part"] : List Str).Nodup by decide +kernel) rfl (Or.inl rfl))) (fun _ _ _ _ _ _ => pf_nil) (fun _ _ _ _ _ _ hx => (pe_defE (okX_read_term T) hx hr rfl (pa_1 (pv 0))))))))
      (ps_expr (pe_defE (okX_ask_written T) (leav_pass leav_cx) hr rfl (pa_1 (pe_cmpR op_le (pe_callB (call_lenK K) rfl T.b_len bt_len (pa_1 (pv 1))) (pe_gI rfl T.c_MOST_VALUES) (nomark _)))))
      (ps_ret (pv 1))), ?_⟩
    refine ⟨_, rfl, rfl, _, rfl, ite2 (fun h0 => ?_) (fun h0 => ?_)⟩
    · have e0 : z = "" := by
        have := of_decide_eq_true h0
        injection this
      exact ⟨by decide, fun p hp => k1 [] ⟨by decide, (fun _ z => nomatch z), e0⟩ p _ (same_upd hp) upd_same⟩
    · have n0 : z ≠ "" := fun e => h0 (decide_eq_true (congrArg V.str e))
      have cl := cuts_le (x := z) (y := comS) (by rw [com_len]; decide)
      have each : ∀ p ∈ cutsS z comS, Low p ∧ p.length ≤ 20000 := fun p hp => ⟨low_cuts low hp, Nat.le_trans (cut_le hp) hl⟩
      have back := cuts_join z comS
      have fwd : ∀ ks, RowT z ks → cutsS z comS = ks.map shownK := fun ks h => by
        rw [h.2.2]
        refine split_row h.2.1 fun e => n0 ?_
        rw [h.2.2, e]
        rfl
      refine ⟨_, rfl, rfl, _, comS, rfl, rfl, by decide +kernel, Nat.le_trans hl (by decide), Nat.le_of_lt (size20 (by omega)), fun p hp => ?_⟩
      generalize cutsS z comS = ps at *
      have u1 := same_upd (o := HO.lst (ps.map V.str)) hp
      refine ⟨p, rfl, ⟨_, SqL.of upd_same⟩, fun D hD => ?_⟩
      have ep := upd_same (H := H) (a := p) (o := HO.lst (ps.map V.str))
      generalize upd H p (.lst (ps.map V.str)) = G at *
      refine comp_by (ps.map V.str).length (fun i σ' H' => (∃ v, σ' = [v]) ∧ Same G H' ∧ ∃ ks : List Key, H' D = some (.lst (ks.map kV)) ∧ ps.take i = ks.map shownK ∧ ∀ k ∈ ks, TmOk k) ⟨⟨_, rfl⟩, same_upd hD, [], upd_same, rfl, fun _ z => nomatch z⟩ (fun i σ' H' hi p => ?_) (fun σ' H' p => ⟨?_, ?_⟩) (fun i σ' H' hi p x H2 y => ?_)
      · obtain ⟨_, sm, _⟩ := p
        exact ⟨_, (ps.map V.str)[i], SqL.of (sm _ _ ep), List.getElem?_eq_getElem hi⟩
      · obtain ⟨_, sm, _⟩ := p
        exact ⟨_, SqL.of (sm _ _ ep), Nat.le_refl _⟩
      · obtain ⟨_, sm, ks, e, eks, ok⟩ := p
        rw [List.length_map, List.take_length] at eks
        refine ⟨_, _, rfl, .inl ⟨SqL.of e, fun t ht => ?_⟩⟩
        have u2 := same_upd (o := HO.tup (ks.map kV)) ht
        refine ⟨_, rfl, _, _, rfl, .inr ⟨_, SqT.of upd_same, rfl⟩, ?_⟩
        rw [List.length_map]
        refine ⟨_, _, rfl, rfl, _, rfl, fun l4 => ?_, fun l4 => ?_⟩
        · have l4 : (ks.length : Int) ≤ 4 := of_decide_eq_true l4
          exact ⟨_, rfl, k1 ks ⟨by omega, ok, by rw [← eks, back]⟩ t _ (u1.trans (sm.trans u2)) upd_same⟩
        · have l4 : ¬ (ks.length : Int) ≤ 4 := of_decide_eq_false l4
          refine k2 (fun ks' h => ?_) _ (u1.trans (sm.trans u2))
          have := congrArg List.length (eks.symm.trans (fwd ks' h))
          rw [List.length_map, List.length_map] at this
          have := h.1
          omega
      · obtain ⟨⟨v, rfl⟩, sm, ks, e, eks, ok⟩ := p
        obtain ⟨rfl, hx⟩ := y
        have hx' := hx _ (SqL.of (sm _ _ ep))
        rw [List.getElem?_map] at hx'
        obtain ⟨t, ht, rfl⟩ := Option.map_eq_some_iff.mp hx'
        have lk : ks.length ≤ 20001 := by
          have := congrArg List.length eks
          rw [List.length_map, List.length_take] at this
          omega
        have et := each t (List.mem_of_getElem? ht)
        refine ⟨_, rfl, t, rfl, et.1, et.2, fun k hk ek H3 s3 => ⟨_, s3 _ _ e, by rw [List.length_map]; exact size20 lk, ⟨_, rfl⟩, (sm.trans s3).set hD, ks ++ [k], ?_, ?_, ?_⟩, fun no H3 s3 => ?_⟩
        · rw [upd_same, List.map_append]
          rfl
        · rw [List.take_succ, ht, eks, List.map_append, ek]
          rfl
        · intro y hy
          rcases List.mem_append.mp hy with h | h
          · exact ok y h
          · rw [List.mem_singleton.mp h]
            exact hk
        · refine k2 (fun ks' h => ?_) _ (u1.trans (sm.trans s3))
          have := List.mem_of_getElem? ht
          rw [fwd ks' h] at this
          obtain ⟨k, hk, ek⟩ := List.mem_map.mp this
          rw [← ek, trm_of (h.2.1 k hk)] at no
          cases no
def AtX (K : PySem.W.Frag) (mg : Str → Option Value) (x : V) (H : Hp) (Q : VK) (E : XK) : Prop := NoS K H x ∧ (∀ H', Same H H' → E (nT mg) none H') ∨ ∃ z, x = .str z ∧ Low z ∧ z.length ≤ 20000 ∧ (∀ A, AtomT z A → ∀ y H', Same H H' → AtV H' y A → Q y H') ∧ ((∀ A, ¬ AtomT z A) → ∀ H', Same H H' → E (nT mg) none H')
def sp_raX (K : PySem.W.Frag) (mg : Str → Option Value) : Sp := fun vs H Q E => ∃ x, vs = [x] ∧ AtX K mg x H Q E
theorem okX_read_atom (T : Txt K mg) : DefE P w K mg base 6 "read_atom" ["text"] (sp_raX K mg) := by
  refine T.t_read_atom.okE sc_read_atom (fun vs H Q E h => ?_) fun f cdv A outer s H vs Q E hr h => ?_
  · obtain ⟨x, rfl, _⟩ := h
    rfl
  · obtain ⟨x, rfl, h⟩ := h
    refine ⟨_, (pss_4
      (ps_expr (pe_defE (okX_ask_text T) (leav_pass leav_cx) hr rfl (pa_1 (pv 0))))
      (ps_set (i := 1) sc_read_atom.nd rfl (Or.inl rfl) (pe_bm PySem.F.plainAttrs_str PySem.F.slot_str_partition PySem.F.type_str_partition mt_partition (pv 0) (pa_1 pe_str)))
      (ps_expr (pe_defE (okX_ask_written T) (leav_pass leav_cx) hr rfl (pa_1 (pe_bm PySem.F.plainAttrs_str PySem.F.slot_str_endswith PySem.F.type_str_endswith mt_endswith (pe_ix (ix_tupK K) (pv 1) pe_int (fun _ _ => rfl)) (pa_1 pe_str)))))
      (ps_ret (pe_tup (pa_2 (pe_defE (okX_read_word T) (leav_pass leav_cx) hr rfl (pa_1 (pe_ix (ix_tupK K) (pv 1) pe_int (fun _ _ => rfl)))) (pe_defE (okX_read_terms T) (leav_pass leav_cx) hr rfl (pa_1 (pe_slice sl_str (pe_ix (ix_tupK K) (pv 1) pe_int (fun _ _ => rfl)) po_none (po_some (pe_un un_neg pe_int))))))))), ?_⟩
    rcases h with ⟨no, k⟩ | ⟨z, rfl, low, hl, k1, k2⟩
    · exact ⟨_, rfl, _, rfl, .inr ⟨no, k H (Same.refl H)⟩⟩
    refine ⟨_, rfl, _, rfl, .inl ⟨⟨_, rfl⟩, ?_⟩⟩
    have e41 : (")" : Str) = ⟨#[41]⟩ := by decide +kernel
    refine ⟨_, rfl, rfl, _, "(", rfl, rfl, by decide +kernel, Nat.le_trans hl (by decide), fun q hq => ?_⟩
    have fwd : ∀ A, AtomT z A → partS z "(" = [A.1, "(", Str.join comS (A.2.map shownK) ++ ")"] := fun A h => by
      rw [h.2, atom_row]
      exact part_atom h.1.1.1 _
    obtain ⟨a, sg, b, ep, la, lb, lna, lnb, ez⟩ : ∃ a sg b, partS z "(" = [a, sg, b] ∧ Low a ∧ Low b ∧ a.length ≤ 20000 ∧ b.length ≤ 20000 ∧ (z = a ++ "(" ++ b ∨ b = Str.empty) := by
      rcases part_or z "(" with ⟨a, b, e, ez⟩ | e
      · have := low_part (ez ▸ low)
        have lz := congrArg Str.length ez
        rw [Str.length_append, Str.length_append] at lz
        exact ⟨a, _, b, e, this.1, this.2, by omega, by omega, .inl ez⟩
      · exact ⟨z, _, _, e, low, (fun c hc => nomatch hc), hl, Nat.zero_le _, .inr rfl⟩
    rw [ep]
    have hq1 : SqT K (upd H q (.tup ([a, sg, b].map V.str))) q [.str a, .str sg, .str b] := SqT.of upd_same
    have u1 := same_upd (o := HO.tup ([a, sg, b].map V.str)) hq
    generalize upd H q (.tup ([a, sg, b].map V.str)) = G at *
    have bsl : b.length ≤ sizeLine := Nat.le_trans lnb (by decide)
    refine ⟨_, rfl, _, _, _, _, rfl, rfl, hq1, rfl, rfl, _, _, rfl, rfl, ?_⟩
    refine ⟨_, rfl, fun h1 => ?_, fun h1 => ?_⟩
    · rw [e41] at h1
      obtain ⟨c, rfl⟩ := end_is h1
      refine ⟨_, rfl, _, _, _, _, rfl, rfl, hq1, rfl, a, rfl, strOk_low la, lna, fun ha H2 s2 => ?_, fun ha H2 s2 => ?_⟩
      · have lc : Low c := fun d hd => lb d (by rw [str_app]; exact List.mem_append.mpr (.inl hd))
        have lnc : c.length ≤ 20000 := by
          rw [Str.length_append] at lnb
          omega
        refine ⟨_, rfl, _, _, _, _, rfl, rfl, s2.seqT hq1, rfl, _, rfl, _, rfl, _, rfl, bsl, ?_⟩
        rw [cut_end]
        refine ⟨c, rfl, lc, lnc, fun ks hk p H3 s3 hp => ⟨by show 2 ≤ sizeLine; decide, fun r hr' => ?_⟩, fun no H3 s3 => ?_⟩
        · have u4 := same_upd (o := HO.tup [V.str a, .ref p]) hr'
          rcases ez with ez | ez
          · refine k1 (a, ks) ⟨⟨⟨ha, strOk_low la⟩, hk.1, hk.2.1⟩, ?_⟩ _ _ (u1.trans (s2.trans (s3.trans u4))) ⟨r, p, rfl, upd_same, u4 _ _ hp⟩
            rw [ez, hk.2.2, ← e41]
            show _ = a ++ rowS ks
            unfold rowS
            rw [Str.append_assoc, Str.append_assoc]
          · have := congrArg Str.length ez
            rw [Str.length_append] at this
            exact absurd this (by show ¬ c.length + 1 = 0; omega)
        · refine k2 (fun A h => ?_) _ (u1.trans (s2.trans s3))
          have e := ep.symm.trans (fwd A h)
          injection e with e1 e
          injection e with e2 e
          injection e with e3 _
          rw [e41] at e3
          have ec : c = Str.join comS (A.2.map shownK) := by
            have := congrArg (fun x => cutS x none (some (-1))) e3
            simp only [cut_end] at this
            exact this
          exact no A.2 ⟨h.1.2.1, h.1.2.2, ec⟩
      · refine k2 (fun A h => ?_) _ (u1.trans s2)
        have e := ep.symm.trans (fwd A h)
        injection e with e1 e
        rw [e1, h.1.1.1] at ha
        cases ha
    · refine k2 (fun A h => ?_) _ u1
      have e := ep.symm.trans (fwd A h)
      injection e with e1 e
      injection e with e2 e
      injection e with e3 _
      rw [e3, e41, end_one] at h1
      cases h1
end
end Wy
namespace Wy
open PySem L2
theorem vn_none {ks : List Key} : vnames (ks.map keyD) = [] ↔ ∀ k ∈ ks, varK k = false := by
  induction ks with
  | nil => exact ⟨fun _ k hk => (nomatch hk), fun _ => rfl⟩
  | cons k ks ih =>
    have e1 : vnames ((k :: ks).map keyD) = var? (keyD k) ++ vnames (ks.map keyD) := rfl
    have e2 : var? (keyD k) = [] ↔ varK k = false := by
      cases k with
      | inl i => exact ⟨fun _ => rfl, fun _ => rfl⟩
      | inr z =>
        show (if txtB capS z = true then [z] else []) = [] ↔ txtB capS z = false
        cases txtB capS z <;> simp
    rw [e1, List.append_eq_nil_iff, e2, ih]
    simp
theorem sgs_any (z : Str) : ([PyData.str "=", .str "!=", .str "<"].any fun y => PyData.eqv y (.str z)) = decide (z ∈ sgs) := by
  by_cases h : z ∈ sgs
  · rw [sgs_in z h, decide_eq_true h]
  · rw [decide_eq_false h]
    refine Bool.eq_false_iff.mpr fun q => h ?_
    simp only [List.any_cons, List.any_nil, Bool.or_false, Bool.or_eq_true] at q
    have e : ∀ a : Str, PyData.eqv (.str a) (.str z) = true → z = a := fun a q => by
      have q : (a == z) = true := q
      exact (eq_of_beq q).symm
    unfold sgs
    rcases q with q | q | q
    · rw [e _ q]; simp
    · rw [e _ q]; simp
    · rw [e _ q]; simp
def PlaceT (z : Str) (A : Atm) : Prop := AtomT z A ∧ ∀ k ∈ A.2, varK k = false
section
variable {P : Program} {w : World} {K : PySem.W.Frag} {mg : Str → Option Value} {base : Heap}
theorem vn_dat {H : Hp} {l : Addr} {ks : List Key} (h : H l = some (.lst ((vnames (ks.map keyD)).map V.str))) : Dat K H (.list ((vnames (ks.map keyD)).map .str)) (.ref l) := .lst (SqL.of h) (dats_strs vn_ok)
def sp_rpX (mg : Str → Option Value) : Sp := fun vs H Q E => ∃ z, vs = [.str z] ∧ Low z ∧ z.length ≤ 20000 ∧ (∀ A, ¬ PlaceT z A) ∧ ∀ H', Same H H' → E (nT mg) none H'
theorem okX_read_place (T : Txt K mg) : DefE P w K mg base 7 "read_place" ["text"] (sp_rpX mg) := by
  refine T.t_read_place.okE sc_read_place (fun vs H Q E h => ?_) fun f cdv A outer s H vs Q E hr h => ?_
  · obtain ⟨z, rfl, _⟩ := h
    rfl
  · obtain ⟨z, rfl, low, hl, no, k⟩ := h
    refine ⟨_, (pss_3
      (ps_set (i := 1) sc_read_place.nd rfl (Or.inl rfl) (pe_defE (okX_read_atom T) (leav_pass leav_cx) hr rfl (pa_1 (pv 0))))
      (ps_expr (pe_defE (okX_ask_written T) (leav_pass leav_cx) hr rfl (pa_1 (pe_cmpR (op_eqD hr.units K) (pe_def (ok_variables_in T) hr rfl (pa_1 (pe_ix (ix_tupK K) (pv 1) pe_int (fun _ _ => rfl)))) (pe_lst pa_nil) (nomark _)))))
      (ps_ret (pv 1))), ?_⟩
    refine ⟨_, rfl, _, rfl, .inr ⟨z, rfl, low, hl, fun A hA y H1 s1 hy => ?_, fun _ H1 s1 => k H1 s1⟩⟩
    obtain ⟨q, p, rfl, hq, hp⟩ := hy
    refine ⟨_, rfl, _, _, _, _, rfl, rfl, SqT.of hq, rfl, p, _, A.2.map keyD, 0, rfl, SqT.of hp, dats_tm hA.1.2.2, by rw [List.length_map]; have := hA.1.2.1; omega, (fun d hd => ?_), fun l H2 s2 _ hl2 => ?_⟩
    · obtain ⟨k, hk, rfl⟩ := List.mem_map.mp hd
      exact okD_key 0 (hA.1.2.2 k hk)
    refine ⟨by decide, fun e he => ?_⟩
    have s3 := same_upd (o := HO.lst []) he
    refine ⟨_, .list [], vn_dat (s3 _ _ hl2), .lst (SqL.of upd_same) .nil, depth_txt _, ?_⟩
    rw [eqv_nil]
    refine ⟨_, rfl, fun h1 => ?_, fun _ => k _ (s1.trans (s2.trans s3))⟩
    exact absurd ⟨hA, vn_none.mp (of_decide_eq_true h1)⟩ (no A)
def sp_rpl (K : PySem.W.Frag) : Sp := fun vs H Q _ => ∃ (t : Str) (ks : List Key), vs = [.str (t ++ rowS ks)] ∧ PyData.strOk t = true ∧ txtB small t = true ∧ ks.length ≤ 4 ∧ (∀ k ∈ ks, TmOk k) ∧ (∀ k ∈ ks, varK k = false) ∧
    ∀ q p H', Same H H' → H' q = some (.tup [.str t, .ref p]) → H' p = some (.tup (ks.map kV)) → Q (.ref q) H'
theorem ok_read_place (T : Txt K mg) : Def P w K mg base 7 "read_place" ["text"] (sp_rpl K) := by
  refine T.t_read_place.ok sc_read_place (fun vs H Q E h => ?_) fun f cdv A outer s H vs Q E hr h => ?_
  · obtain ⟨t, ks, rfl, _⟩ := h
    rfl
  · obtain ⟨t, ks, rfl, ho, ht, hl, hk, hv, k⟩ := h
    refine ⟨_, (pss_3
      (ps_set (i := 1) sc_read_place.nd rfl (Or.inl rfl) (pe_def (ok_read_atom T) hr rfl (pa_1 (pv 0))))
      (ps_expr (pe_def (ok_ask_written T) hr rfl (pa_1 (pe_cmpR (op_eqD hr.units K) (pe_def (ok_variables_in T) hr rfl (pa_1 (pe_ix (ix_tupK K) (pv 1) pe_int (fun _ _ => rfl)))) (pe_lst pa_nil) (nomark _)))))
      (ps_ret (pv 1))), ?_⟩
    refine ⟨_, rfl, t, ks, rfl, ho, ht, hl, hk, fun q p H1 s1 hq hp => ?_⟩
    refine ⟨_, rfl, _, _, _, _, rfl, rfl, SqT.of hq, rfl, p, _, ks.map keyD, 0, rfl, SqT.of hp, dats_tm hk, by rw [List.length_map]; omega, (fun d hd => ?_), fun l H2 s2 _ hl2 => ?_⟩
    · obtain ⟨k, hk', rfl⟩ := List.mem_map.mp hd
      exact okD_key 0 (hk k hk')
    refine ⟨by decide, fun e he => ?_⟩
    have s3 := same_upd (o := HO.lst []) he
    refine ⟨_, .list [], vn_dat (s3 _ _ hl2), .lst (SqL.of upd_same) .nil, depth_txt _, ?_⟩
    rw [eqv_nil, decide_eq_true (vn_none.mpr hv)]
    exact ⟨rfl, _, rfl, k q p _ (s1.trans (s2.trans s3)) (s3 _ _ (s2 _ _ hq)) (s3 _ _ (s2 _ _ hp))⟩
def NoX (K : PySem.W.Frag) (mg : Str → Option Value) (x : V) (H : Hp) (E : XK) (F : Str → Prop) : Prop := (NoS K H x ∨ ∃ z, x = .str z ∧ Low z ∧ z.length ≤ 20000 ∧ F z) ∧ ∀ H', Same H H' → E (nT mg) none H'
theorem okX_read_fact (T : Txt K mg) : DefE P w K mg base 8 "read_fact" ["text"] (fun vs H Q E => ∃ x, vs = [x] ∧ NoX K mg x H E fun z => ∀ n A, ¬ FactT z n A) := by
  refine T.t_read_fact.okE sc_read_fact (fun vs H Q E h => ?_) fun f cdv A outer s H vs Q E hr h => ?_
  · obtain ⟨x, rfl, _⟩ := h
    rfl
  · obtain ⟨x, rfl, h, k⟩ := h
    refine ⟨_, (pss_3
      (ps_expr (pe_defE (okX_ask_text T) (leav_pass leav_cx) hr rfl (pa_1 (pv 0))))
      (ps_set (i := 1) sc_read_fact.nd rfl (Or.inl rfl) (pe_bm PySem.F.plainAttrs_str PySem.F.slot_str_partition PySem.F.type_str_partition mt_partition (pv 0) (pa_1 pe_str)))
      (ps_ret (pe_op (op_catTK K) (pe_tup (pa_1 (pe_defE (okX_read_word T) (leav_pass leav_cx) hr rfl (pa_1 (pe_ix (ix_tupK K) (pv 1) pe_int (fun _ _ => rfl)))))) (pe_defE (okX_read_place T) (leav_pass leav_cx) hr rfl (pa_1 (pe_ix (ix_tupK K) (pv 1) pe_int (fun _ _ => rfl))))))), ?_⟩
    rcases h with no | ⟨z, rfl, low, hl, no⟩
    · exact ⟨_, rfl, _, rfl, .inr ⟨no, k H (Same.refl H)⟩⟩
    refine ⟨_, rfl, _, rfl, .inl ⟨⟨_, rfl⟩, ?_⟩⟩
    refine ⟨_, rfl, rfl, _, ": ", rfl, rfl, by decide +kernel, Nat.le_trans hl (by decide), fun q hq => ?_⟩
    obtain ⟨a, sg, b, ep, la, lb, lna, lnb, nb⟩ : ∃ a sg b, partS z ": " = [a, sg, b] ∧ Low a ∧ Low b ∧ a.length ≤ 20000 ∧ b.length ≤ 20000 ∧ (WOk a → ∀ A, ¬ PlaceT b A) := by
      rcases part_or z ": " with ⟨a, b, e, ez⟩ | e
      · have := low_part (ez ▸ low)
        have lz := congrArg Str.length ez
        rw [Str.length_append, Str.length_append] at lz
        refine ⟨a, _, b, e, this.1, this.2, by omega, by omega, fun ha A h => no a A ⟨ha, h.1.1, h.2, ?_⟩⟩
        rw [ez, h.1.2]
        rfl
      · refine ⟨z, _, _, e, low, (fun c hc => nomatch hc), hl, Nat.zero_le _, fun _ A h => ?_⟩
        have := congrArg Str.length h.1.2
        rw [atom_row, Str.length_append] at this
        have := (txtB_le h.1.1.1.1).1
        exact absurd (show 0 = A.1.length + (rowS A.2).length by assumption) (by omega)
    rw [ep]
    have hq1 : SqT K (upd H q (.tup ([a, sg, b].map V.str))) q [.str a, .str sg, .str b] := SqT.of upd_same
    have u1 := same_upd (o := HO.tup ([a, sg, b].map V.str)) hq
    generalize upd H q (.tup ([a, sg, b].map V.str)) = G at *
    refine ⟨_, rfl, _, _, _, _, rfl, rfl, hq1, rfl, a, rfl, strOk_low la, lna, fun ha H2 s2 => ?_, fun _ H2 s2 => k _ (u1.trans s2)⟩
    refine ⟨by show 1 ≤ sizeLine; decide, fun o ho' => ?_⟩
    have s3 := same_upd (o := HO.tup [V.str a]) ho'
    exact ⟨_, rfl, _, _, _, _, rfl, rfl, s3.seqT (s2.seqT hq1), rfl, b, rfl, lb, lnb, nb ⟨ha, strOk_low la⟩, fun H4 s4 => k _ (u1.trans (s2.trans (s3.trans s4)))⟩
theorem ok_read_fact (T : Txt K mg) : Def P w K mg base 8 "read_fact" ["text"] (fun vs H Q _ => ∃ (n t : Str) (ks : List Key), vs = [.str (factS n t ks)] ∧ PyData.strOk n = true ∧ txtB small n = true ∧ PyData.strOk t = true ∧ txtB small t = true ∧ ks.length ≤ 4 ∧ (∀ k ∈ ks, TmOk k) ∧ (∀ k ∈ ks, varK k = false) ∧
    ∀ q p H', Same H H' → H' q = some (.tup [.str n, .str t, .ref p]) → H' p = some (.tup (ks.map kV)) → Q (.ref q) H') := by
  refine T.t_read_fact.ok sc_read_fact (fun vs H Q E h => ?_) fun f cdv A outer s H vs Q E hr h => ?_
  · obtain ⟨n, t, ks, rfl, _⟩ := h
    rfl
  · obtain ⟨n, t, ks, rfl, no, nt, ho, ht, hl, hk, hv, k⟩ := h
    have rl := row_le hk (show ks.length ≤ 10 by omega)
    have tl := (txtB_le ht).2
    have nl := (txtB_le nt).2
    have l2 : (": " : Str).length = 2 := by decide +kernel
    refine ⟨_, (pss_3
      (ps_expr (pe_def (ok_ask_text T) hr rfl (pa_1 (pv 0))))
      (ps_set (i := 1) sc_read_fact.nd rfl (Or.inl rfl) (pe_bm PySem.F.plainAttrs_str PySem.F.slot_str_partition PySem.F.type_str_partition mt_partition (pv 0) (pa_1 pe_str)))
      (ps_ret (pe_op (op_catTK K) (pe_tup (pa_1 (pe_def (ok_read_word T) hr rfl (pa_1 (pe_ix (ix_tupK K) (pv 1) pe_int (fun _ _ => rfl)))))) (pe_def (ok_read_place T) hr rfl (pa_1 (pe_ix (ix_tupK K) (pv 1) pe_int (fun _ _ => rfl))))))), ?_⟩
    refine ⟨_, rfl, _, rfl, ?_⟩
    refine ⟨_, rfl, rfl, _, ": ", rfl, rfl, by decide +kernel, Nat.le_trans (show (factS n t ks).length ≤ 1000 by unfold factS; rw [Str.length_append, Str.length_append, Str.length_append, l2]; omega) (by decide), fun q hq => ?_⟩
    rw [show partS (factS n t ks) ": " = [n, ": ", t ++ rowS ks] from part_fact nt _]
    have s1 := same_upd (o := HO.tup ([n, ": ", t ++ rowS ks].map V.str)) hq
    have hq1 : SqT K (upd H q (.tup ([n, ": ", t ++ rowS ks].map V.str))) q [.str n, .str ": ", .str (t ++ rowS ks)] := SqT.of upd_same
    refine ⟨_, rfl, _, _, _, _, rfl, rfl, hq1, rfl, _, rfl, no, nt, fun H2 s2 => ?_⟩
    refine ⟨by show 1 ≤ sizeLine; decide, fun o ho' => ?_⟩
    have s3 := same_upd (o := HO.tup [V.str n]) ho'
    refine ⟨_, rfl, _, _, _, _, rfl, rfl, s3.seqT (s2.seqT hq1), rfl, t, ks, rfl, ho, ht, hl, hk, hv, fun r p H3 s4 hr' hp => ?_⟩
    refine ⟨_, _, _, _, rfl, rfl, SqT.of (s4 _ _ upd_same), SqT.of hr', by simp, by show 3 ≤ sizeLine; decide, (fun e => by cases e), fun _ u hu => ?_⟩
    have s5 := same_upd (o := HO.tup ([V.str n] ++ [.str t, .ref p])) hu
    exact k u p _ (s1.trans (s2.trans (s3.trans (s4.trans s5)))) upd_same (s5 _ _ hp)
def sp_rcX (mg : Str → Option Value) : Sp := fun vs H Q E => ∃ z, vs = [.str z] ∧ Low z ∧ z.length ≤ 20000 ∧ (∀ C, ChT z C → ∀ y H', Same H H' → Q y H') ∧ ∀ H', Same H H' → E (nT mg) none H'
theorem okX_read_choice (T : Txt K mg) : DefE P w K mg base 5 "read_choice" ["text"] (sp_rcX mg) := by
  refine T.t_read_choice.okE sc_read_choice (fun vs H Q E h => ?_) fun f cdv A outer s H vs Q E hr h => ?_
  · obtain ⟨z, rfl, _⟩ := h
    rfl
  · obtain ⟨z, rfl, low, hl, k1, k⟩ := h
    refine ⟨_, (pss_3
      (ps_set (i := 1) sc_read_choice.nd rfl (Or.inl rfl) (pe_bm PySem.F.plainAttrs_str PySem.F.slot_str_split PySem.F.type_str_split mt_split (pv 0) (pa_1 pe_str)))
      (ps_expr (pe_defE (okX_ask_written T) (leav_pass leav_cx) hr rfl (pa_1 (pe_and (pe_cmpR op_eq (pe_callB (call_lenK K) rfl T.b_len bt_len (pa_1 (pv 1))) pe_int (nomark _)) (pe_one (pe_cmpR (op_inTD hr.units K) (pe_ix (ix_listK K) (pv 1) pe_int (fun _ _ => rfl)) (pe_globR rfl T.g_SIGNS) (by with_unfolding_all rfl)))))))
      (ps_ret (pe_tup (pa_3 (pe_ix (ix_listK K) (pv 1) pe_int (fun _ _ => rfl)) (pe_defE (okX_read_term T) (leav_pass leav_cx) hr rfl (pa_1 (pe_ix (ix_listK K) (pv 1) pe_int (fun _ _ => rfl)))) (pe_defE (okX_read_term T) (leav_pass leav_cx) hr rfl (pa_1 (pe_ix (ix_listK K) (pv 1) pe_int (fun _ _ => rfl)))))))), ?_⟩
    have cl := cuts_le (x := z) (y := blS) (by decide +kernel)
    have each : ∀ p ∈ cutsS z blS, Low p ∧ p.length ≤ 20000 := fun p hp => ⟨low_cuts low hp, Nat.le_trans (cut_le hp) hl⟩
    have back := cuts_join z blS
    refine ⟨_, rfl, rfl, _, blS, rfl, rfl, by decide +kernel, Nat.le_trans hl (by decide), Nat.le_of_lt (size20 (by omega)), fun q hq => ?_⟩
    generalize cutsS z blS = ps at *
    have s1 := same_upd (o := HO.lst (ps.map V.str)) hq
    have hS : SqL K (upd H q (.lst (ps.map V.str))) q (ps.map V.str) := SqL.of upd_same
    have ds3 : Dat K (upd H q (.lst (ps.map V.str))) (.tuple [.str "=", .str "!=", .str "<"]) (.ref (cA mg "SIGNS")) := .tup (T.q_SIGNS.sq _) (.cons (.str _ (by decide +kernel)) (.cons (.str _ (by decide +kernel)) (.cons (.str _ (by decide +kernel)) .nil)))
    generalize upd H q (.lst (ps.map V.str)) = G at *
    refine ⟨_, rfl, _, _, rfl, .inl ⟨_, hS, rfl⟩, rfl, _, rfl, ite2 (fun h3 => ?_) (fun h3 => ?_)⟩
    · have l3 : ps.length = 3 := by
        have := of_decide_eq_true h3
        injection this with this
        rw [List.length_map] at this
        omega
      match ps, l3 with
      | [p0, p1, p2], _ =>
      have e0 := each p0 (by simp)
      have e1 := each p1 (by simp)
      have e2 := each p2 (by simp)
      refine ⟨_, rfl, _, _, _, _, rfl, rfl, hS, atI_nat (j := 1) rfl, .str p1, _, .str p1 (strOk_low e1.1), ds3, by decide, ?_⟩
      rw [sgs_any]
      refine ⟨_, rfl, fun hs => ?_, fun _ => k _ s1⟩
      refine ⟨_, rfl, _, _, _, _, rfl, rfl, hS, atI_nat (j := 1) rfl, _, rfl, _, _, _, _, rfl, rfl, hS, atI_nat (j := 0) rfl, p0, rfl, e0.1, e0.2, fun k0 hk0 ek0 H2 s2 => ?_, fun _ H2 s2 => k _ (s1.trans s2)⟩
      refine ⟨_, rfl, _, _, _, _, rfl, rfl, s2.seq hS, atI_nat (j := 2) rfl, p2, rfl, e2.1, e2.2, fun k2 hk2 ek2 H3 s3 => ?_, fun _ H3 s3 => k _ (s1.trans (s2.trans s3))⟩
      refine ⟨by show 3 ≤ sizeLine; decide, fun r hr' => ?_⟩
      exact k1 (p1, k0, k2) ⟨⟨of_decide_eq_true hs, hk0, hk2⟩, by rw [← back, ek0, ek2]; rfl⟩ _ _ (s1.trans (s2.trans (s3.trans (same_upd hr'))))
    · exact ⟨_, rfl, (fun z => nomatch z), fun _ => k _ s1⟩
def sp_manyB (K : PySem.W.Frag) : Sp := fun vs H Q _ => ∃ (a : Addr) (ps : List Str), vs = [.ref a] ∧ SqL K H a (ps.map V.str) ∧ ∀ m : Nat, m ≤ ps.length → Q (.int (m : Int)) H
theorem okB_many_atoms (T : Txt K mg) : Def P w K mg base 1 "many_atoms" ["parts"] (sp_manyB K) := by
  refine T.t_many_atoms.ok sc_many_atoms (fun vs H Q E h => ?_) fun f cdv A outer s H vs Q E hr h => ?_
  · obtain ⟨a, ps, rfl, _⟩ := h
    rfl
  · obtain ⟨a, ps, rfl, hS, k⟩ := h
    refine ⟨_, (pss_3
      (ps_set (i := 1) sc_many_atoms.nd rfl (Or.inl rfl) pe_int)
      (ps_while PassesOwn.never (PW.pt (pw_and (pt_cmpR op_lt (pv 1) (pe_callB (call_lenK K) rfl T.b_len bt_len (pa_1 (pv 0))) (nomark _)) (pw_and1 (pt_cmpR op_in_str pe_str (pe_ix (ix_listK K) (pv 0) (pv 1) (fun _ _ => rfl)) (by with_unfolding_all rfl))))) (pss_one (ps_set (i := 1) sc_many_atoms.nd rfl (Or.inl rfl) (pe_op op_add (pv 1) pe_int))))
      (ps_ret (pv 1))), ?_⟩
    refine ⟨fun m σ H' => H' = H ∧ ∃ i : Nat, σ = [some (.ref a), some (.int (i : Int))] ∧ m = ps.length - i ∧ i ≤ ps.length, ⟨_, rfl, 0, rfl, rfl, Nat.zero_le _⟩, ?_⟩
    rintro m σ H' ⟨rfl, i, rfl, rfl, hi⟩
    refine ⟨_, rfl, _, rfl, _, _, rfl, .inl ⟨_, hS, rfl⟩, _, _, rfl, rfl, _, rfl, ?_⟩
    rw [List.length_map]
    refine ite2 (fun h1 => ?_) (fun h1 => ?_)
    · have h1' : i < ps.length := by simp at h1; omega
      have hat : atI (ps.map V.str) (i : Int) = some (V.str ps[i]) := atI_nat (by rw [List.getElem?_map, List.getElem?_eq_getElem h1']; rfl)
      refine ⟨_, rfl, _, rfl, _, _, _, _, rfl, rfl, hS, hat, _, _, rfl, rfl, _, rfl, ite2 (fun h2 => ?_) (fun h2 => ?_)⟩
      · refine ⟨fun σ' H2 => H2 = H' ∧ σ' = [some (.ref a), some (.int ((i + 1 : Nat) : Int))], fun σ' H2 z => ⟨ps.length - (i + 1), by omega, z.1, i + 1, z.2, rfl, h1'⟩, ?_⟩
        exact ⟨_, rfl, _, _, rfl, rfl, rfl, rfl⟩
      · exact ⟨_, rfl, k i hi⟩
    · exact ⟨_, rfl, k i hi⟩
end
end Wy
namespace Wy
open PySem L2
section
variable {P : Program} {w : World} {K : PySem.W.Frag} {mg : Str → Option Value} {base : Heap}
theorem okX_read_body (T : Txt K mg) : DefE P w K mg base 7 "read_body" ["text"] (fun vs H Q E => ∃ z, vs = [.str z] ∧ Low z ∧ z.length ≤ 20000 ∧ (∀ As Cs, ¬ BodyT z As Cs) ∧ ∀ H', Same H H' → E (nT mg) none H') := by
  refine T.t_read_body.okE sc_read_body (fun vs H Q E h => ?_) fun f cdv A outer s H vs Q E hr h => ?_
  · obtain ⟨z, rfl, _⟩ := h
    rfl
  · obtain ⟨z, rfl, low, hl, no, k⟩ := h
    refine ⟨_, (pss_4
      (ps_set (i := 1) sc_read_body.nd rfl (Or.inl rfl) (pe_bm PySem.F.plainAttrs_str PySem.F.slot_str_split PySem.F.type_str_split mt_split (pv 0) (pa_1 pe_str)))
      (ps_set (i := 2) sc_read_body.nd rfl (Or.inl rfl) (pe_def (okB_many_atoms T) hr rfl (pa_1 (pv 1))))
      (ps_set (i := 3) sc_read_body.nd rfl (Or.inl rfl) (pe_callTy (call_tupleK K) rfl T.b_tuple bt_tuple (pa_1 (pe_compE leav_cx (N := ["part"]) (caps := [none]) rfl (by with_unfolding_all rfl) (pi_listK K (pe_slice (sl_listK K) (pv 1) po_none (po_some (pv 2)))) (fun _ _ _ _ _ _ => (pg_name (i := 0) (show (["part"] : List Str).Nodup by decide +kernel) rfl (Or.inl rfl))) (fun _ _ _ _ _ _ => pf_nil) (fun _ _ _ _ _ _ hx => (pe_defE (okX_read_atom T) hx hr rfl (pa_1 (pv 0))))))))
      (ps_ret (pe_tup (pa_2 (pv 3) (pe_callTy (call_tupleK K) rfl T.b_tuple bt_tuple (pa_1 (pe_compE leav_cx (N := ["part"]) (caps := [none]) rfl (by with_unfolding_all rfl) (pi_listK K (pe_slice (sl_listK K) (pv 1) (po_some (pv 2)) po_none)) (fun _ _ _ _ _ _ => (pg_name (i := 0) (show (["part"] : List Str).Nodup by decide +kernel) rfl (Or.inl rfl))) (fun _ _ _ _ _ _ => pf_nil) (fun _ _ _ _ _ _ hx => (pe_defE (okX_read_choice T) hx hr rfl (pa_1 (pv 0))))))))))), ?_⟩
    have cl := cuts_le (x := z) (y := semS) (by decide +kernel)
    have each : ∀ p ∈ cutsS z semS, Low p ∧ p.length ≤ 20000 := fun p hp => ⟨low_cuts low hp, Nat.le_trans (cut_le hp) hl⟩
    have back := cuts_join z semS
    obtain ⟨p0, pr, ne⟩ := cuts_ne z semS
    refine ⟨_, rfl, rfl, _, semS, rfl, rfl, by decide +kernel, Nat.le_trans hl (by decide), Nat.le_of_lt (size20 (by omega)), fun q hq => ?_⟩
    generalize cutsS z semS = ps at *
    have s1 := same_upd (o := HO.lst (ps.map V.str)) hq
    have hS : SqL K (upd H q (.lst (ps.map V.str))) q (ps.map V.str) := SqL.of upd_same
    generalize upd H q (.lst (ps.map V.str)) = G at *
    refine ⟨_, rfl, q, ps, rfl, hS, fun m hm => ?_⟩
    refine ⟨_, rfl, _, rfl, _, rfl, _, _, rfl, hS, fun u hu => ?_⟩
    rw [cut_head, ← List.map_take]
    have s2 := same_upd (o := HO.lst ((ps.take m).map V.str)) hu
    refine ⟨u, rfl, ⟨_, SqL.of upd_same⟩, fun D hD => ?_⟩
    have eu := upd_same (H := G) (a := u) (o := HO.lst ((ps.take m).map V.str))
    have hS2 := s2.seq hS
    generalize upd G u (.lst ((ps.take m).map V.str)) = G2 at *
    have s12 := s1.trans s2
    refine comp_by ((ps.take m).map V.str).length (fun i σ' H' => (∃ v, σ' = [v]) ∧ Same G2 H' ∧ ∃ xs As, H' D = some (.lst xs) ∧ xs.length ≤ i ∧ (ps.take m).take i = As.map atomS ∧ ∀ A ∈ As, AOk A) ⟨⟨_, rfl⟩, same_upd hD, [], [], upd_same, Nat.le_refl _, rfl, fun _ z => nomatch z⟩ (fun i σ' H' hi p => ?_) (fun σ' H' p => ⟨?_, ?_⟩) (fun i σ' H' hi p x H2 y => ?_)
    · obtain ⟨_, sm, _⟩ := p
      exact ⟨_, ((ps.take m).map V.str)[i], SqL.of (sm _ _ eu), List.getElem?_eq_getElem hi⟩
    · obtain ⟨_, sm, _⟩ := p
      exact ⟨_, SqL.of (sm _ _ eu), Nat.le_refl _⟩
    · obtain ⟨_, s3, xs, As, e, lx, eA, okA⟩ := p
      rw [List.length_map] at eA lx
      rw [List.take_of_length_le (Nat.le_refl _)] at eA
      refine ⟨_, _, rfl, .inl ⟨SqL.of e, fun b hb => ?_⟩⟩
      have s4 := same_upd (o := HO.tup xs) hb
      have hS4 := s4.seq (s3.seq hS2)
      have s14 := s12.trans (s3.trans s4)
      generalize upd H' b (.tup xs) = H4 at *
      refine ⟨_, rfl, _, rfl, _, rfl, _, rfl, _, _, rfl, hS4, fun v hv => ?_⟩
      rw [cut_drop _ _ (by rw [List.length_map]; exact hm), ← List.map_drop]
      have s5 := same_upd (o := HO.lst ((ps.drop m).map V.str)) hv
      refine ⟨v, rfl, ⟨_, SqL.of upd_same⟩, fun D2 hD2 => ?_⟩
      have ev := upd_same (H := H4) (a := v) (o := HO.lst ((ps.drop m).map V.str))
      generalize upd H4 v (.lst ((ps.drop m).map V.str)) = G5 at *
      have s15 := s14.trans s5
      refine comp_by ((ps.drop m).map V.str).length (fun i σ' H' => (∃ v, σ' = [v]) ∧ Same G5 H' ∧ ∃ ys Cs, H' D2 = some (.lst ys) ∧ ys.length ≤ i ∧ (ps.drop m).take i = Cs.map choiceS ∧ ∀ C ∈ Cs, COk C) ⟨⟨_, rfl⟩, same_upd hD2, [], [], upd_same, Nat.le_refl _, rfl, fun _ z => nomatch z⟩ (fun i σ' H' hi p => ?_) (fun σ' H' p => ⟨?_, ?_⟩) (fun i σ' H' hi p x H2 y => ?_)
      · obtain ⟨_, sm, _⟩ := p
        exact ⟨_, ((ps.drop m).map V.str)[i], SqL.of (sm _ _ ev), List.getElem?_eq_getElem hi⟩
      · obtain ⟨_, sm, _⟩ := p
        exact ⟨_, SqL.of (sm _ _ ev), Nat.le_refl _⟩
      · obtain ⟨_, s6, ys, Cs, e2, ly, eC, okC⟩ := p
        rw [List.length_map] at eC
        rw [List.take_of_length_le (Nat.le_refl _)] at eC
        have eb : bodyS As Cs = ps := by
          unfold bodyS
          rw [← eA, ← eC]
          exact List.take_append_drop m ps
        refine absurd ⟨okA, okC, ?_, ?_⟩ (no As Cs)
        · rw [eb, ne]
          simp
        · rw [eb, back]
      · obtain ⟨⟨v', rfl⟩, sm, ys, Cs, e2, ly, eC, okC⟩ := p
        obtain ⟨rfl, hx⟩ := y
        have hx' := hx _ (SqL.of (sm _ _ ev))
        rw [List.getElem?_map] at hx'
        obtain ⟨z', hz, rfl⟩ := Option.map_eq_some_iff.mp hx'
        have ez := each z' (List.mem_of_mem_drop (List.mem_of_getElem? hz))
        have il := (List.getElem?_eq_some_iff.mp hz).1
        rw [List.length_drop] at il
        refine ⟨_, rfl, z', rfl, ez.1, ez.2, fun C hC y H3 s3' => ⟨_, s3' _ _ e2, size20 (by omega), ⟨_, rfl⟩, (sm.trans s3').set hD2, _, Cs ++ [C], upd_same, ?_, ?_, ?_⟩, fun H3 s3' => k _ (s15.trans (sm.trans s3'))⟩
        · rw [List.length_append, List.length_singleton]
          omega
        · rw [List.take_succ, hz, eC, List.map_append, hC.2]
          rfl
        · intro C' hC'
          rcases List.mem_append.mp hC' with q | q
          · exact okC C' q
          · rw [List.mem_singleton.mp q]
            exact hC.1
    · obtain ⟨⟨v', rfl⟩, sm, xs, As, e, lx, eA, okA⟩ := p
      obtain ⟨rfl, hx⟩ := y
      have hx' := hx _ (SqL.of (sm _ _ eu))
      rw [List.getElem?_map] at hx'
      obtain ⟨z', hz, rfl⟩ := Option.map_eq_some_iff.mp hx'
      have ez := each z' (List.mem_of_mem_take (List.mem_of_getElem? hz))
      have il := (List.getElem?_eq_some_iff.mp hz).1
      rw [List.length_take] at il
      refine ⟨_, rfl, _, rfl, .inr ⟨z', rfl, ez.1, ez.2, fun A hA y H3 s3' _ => ⟨_, s3' _ _ e, size20 (by omega), ⟨_, rfl⟩, (sm.trans s3').set hD, _, As ++ [A], upd_same, ?_, ?_, ?_⟩, fun _ H3 s3' => k _ (s12.trans (sm.trans s3'))⟩⟩
      · rw [List.length_append, List.length_singleton]
        omega
      · rw [List.take_succ, hz, eA, List.map_append, hA.2]
        rfl
      · intro A' hA'
        rcases List.mem_append.mp hA' with q | q
        · exact okA A' q
        · rw [List.mem_singleton.mp q]
          exact hA.1
theorem okX_read_rule (T : Txt K mg) : DefE P w K mg base 9 "read_rule" ["text"] (fun vs H Q E => ∃ x, vs = [x] ∧ NoX K mg x H E fun z => ∀ h As Cs, ¬ RuleT z h As Cs) := by
  refine T.t_read_rule.okE sc_read_rule (fun vs H Q E h => ?_) fun f cdv A outer s H vs Q E hr h => ?_
  · obtain ⟨x, rfl, _⟩ := h
    rfl
  · obtain ⟨x, rfl, h, k⟩ := h
    refine ⟨_, (pss_6
      (ps_expr (pe_defE (okX_ask_text T) (leav_pass leav_cx) hr rfl (pa_1 (pv 0))))
      (ps_set (i := 1) sc_read_rule.nd rfl (Or.inl rfl) (pe_bm PySem.F.plainAttrs_str PySem.F.slot_str_partition PySem.F.type_str_partition mt_partition (pv 0) (pa_1 pe_str)))
      (ps_set (i := 2) sc_read_rule.nd rfl (Or.inl rfl) (pe_defE (okX_read_atom T) (leav_pass leav_cx) hr rfl (pa_1 (pe_ix (ix_tupK K) (pv 1) pe_int (fun _ _ => rfl)))))
      (ps_set (i := 3) sc_read_rule.nd rfl (Or.inl rfl) (pe_ifExp (pt_cmpR op_eq (pe_ix (ix_tupK K) (pv 1) pe_int (fun _ _ => rfl)) pe_str (nomark _)) (pe_tup (pa_3 (pv 2) (pe_tup pa_nil) (pe_tup pa_nil))) (pe_op (op_catTK K) (pe_tup (pa_1 (pv 2))) (pe_defE (okX_read_body T) (leav_pass leav_cx) hr rfl (pa_1 (pe_ix (ix_tupK K) (pv 1) pe_int (fun _ _ => rfl)))))))
      (ps_if (pt_not (pt_val (pe_def (ok_is_rule T) hr rfl (pa_1 (pv 3))))) (pss_one (ps_raise leav_cx T.x_NoRule.new T.g_NoRule (pa_1 pe_str))) pss_nil)
      (ps_ret (pv 3))), ?_⟩
    rcases h with no | ⟨z, rfl, low, hl, no⟩
    · exact ⟨_, rfl, _, rfl, .inr ⟨no, k H (Same.refl H)⟩⟩
    refine ⟨_, rfl, _, rfl, .inl ⟨⟨_, rfl⟩, ?_⟩⟩
    refine ⟨_, rfl, rfl, _, ifS, rfl, rfl, by decide +kernel, Nat.le_trans hl (by decide), fun q hq => ?_⟩
    rcases part_or z ifS with ⟨a, b, ep, ez⟩ | ep
    · rw [ep]
      have lo := low_part (ez ▸ low)
      have lz := congrArg Str.length ez
      rw [Str.length_append, Str.length_append] at lz
      have hq1 : SqT K (upd H q (.tup ([a, ifS, b].map V.str))) q [.str a, .str ifS, .str b] := SqT.of upd_same
      have u1 := same_upd (o := HO.tup ([a, ifS, b].map V.str)) hq
      generalize upd H q (.tup ([a, ifS, b].map V.str)) = G at *
      refine ⟨_, rfl, _, _, _, _, rfl, rfl, hq1, atI_nat (j := 0) rfl, _, rfl, .inr ⟨a, rfl, lo.1, by omega, fun A hA y H2 s2 hy => ?_, fun _ H2 s2 => k _ (u1.trans s2)⟩⟩
      refine ⟨_, rfl, _, _, _, _, rfl, rfl, s2.seqT hq1, atI_nat (j := 1) rfl, rfl, _, rfl, iteFb (by decide +kernel) ?_⟩
      refine ⟨_, rfl, by show 1 ≤ sizeLine; decide, fun o ho => ?_⟩
      have s3 := same_upd (o := HO.tup [y]) ho
      refine ⟨_, rfl, _, _, _, _, rfl, rfl, s3.seqT (s2.seqT hq1), atI_nat (j := 2) rfl, b, rfl, lo.2, by omega, fun As Cs hb => ?_, fun H4 s4 => k _ (u1.trans (s2.trans (s3.trans s4)))⟩
      refine no A As Cs ⟨hA.1, hb.1, hb.2.1, ?_⟩
      unfold ruleS
      rw [if_neg hb.2.2.1, ez, hA.2, hb.2.2.2]
    · rw [ep]
      have hq1 : SqT K (upd H q (.tup ([z, Str.empty, Str.empty].map V.str))) q [.str z, .str Str.empty, .str Str.empty] := SqT.of upd_same
      have u1 := same_upd (o := HO.tup ([z, Str.empty, Str.empty].map V.str)) hq
      generalize upd H q (.tup ([z, Str.empty, Str.empty].map V.str)) = G at *
      refine ⟨_, rfl, _, _, _, _, rfl, rfl, hq1, atI_nat (j := 0) rfl, _, rfl, .inr ⟨z, rfl, low, hl, fun A hA y H2 s2 hy => ?_, fun _ H2 s2 => k _ (u1.trans s2)⟩⟩
      exact absurd ⟨hA.1, (fun _ z => nomatch z), (fun _ z => nomatch z), hA.2⟩ (no A [] [])
end
end Wy
namespace Wy
open PySem L2
theorem of_int {a b : Int} (h : decide (V.int a = V.int b) = true) : a = b := by
  have := of_decide_eq_true h
  injection this
def p1 (c : Nat) : Bool := decide (c = 32) || decide (c = 44) || decide (c = 59) || decide (c = 58)
def p2 (c : Nat) : Bool := decide (c = 40) || decide (c = 41)
def sgA (c : Nat) : Bool := decide (c ∈ fur.cps.toList) || decide (c ∈ capS.cps.toList) || decide (c ∈ [45, 32, 44, 59, 58, 40, 41, 61, 33, 60])
def cnt (p : Nat → Bool) (z : Str) : Nat := z.cps.toList.countP p
theorem cnt_app (p : Nat → Bool) (a b : Str) : cnt p (a ++ b) = cnt p a + cnt p b := by
  unfold cnt
  rw [str_app, List.countP_append]
structure Ev (z : Str) : Prop where
  e1 : cnt p1 z % 2 = 0
  e2 : cnt p2 z % 2 = 0
  al : ∀ c ∈ z.cps.toList, sgA c = true
theorem Ev.app {a b : Str} (h : Ev a) (k : Ev b) : Ev (a ++ b) := by
  refine ⟨?_, ?_, fun c hc => ?_⟩
  · rw [cnt_app]
    have := h.e1
    have := k.e1
    omega
  · rw [cnt_app]
    have := h.e2
    have := k.e2
    omega
  · rw [str_app] at hc
    exact (List.mem_append.mp hc).elim (h.al c) (k.al c)
theorem ev_empty : Ev "" := ⟨by decide +kernel, by decide +kernel, by decide +kernel⟩
theorem Ev.join {y : Str} (hy : Ev y) : ∀ {ws : List Str}, (∀ w ∈ ws, Ev w) → Ev (Str.join y ws)
  | [], _ => ev_empty
  | [x], h => h x (List.mem_singleton.mpr rfl)
  | x :: x' :: r, h => by
    rw [join_cons2]
    exact ((h x List.mem_cons_self).app hy).app (Ev.join hy fun w hw => h w (List.mem_cons_of_mem _ hw))
def plB (c : Nat) : Bool := decide (c ∈ fur.cps.toList) || decide (c ∈ capS.cps.toList) || decide (c ∈ [45, 61, 33, 60])
theorem pl_no : ∀ c : Nat, plB c = true → p1 c = false ∧ p2 c = false ∧ sgA c = true := by
  intro c h
  have key : ∀ c ∈ fur.cps.toList ++ capS.cps.toList ++ [45, 61, 33, 60], p1 c = false ∧ p2 c = false ∧ sgA c = true := by decide +kernel
  refine key c ?_
  unfold plB at h
  rw [Bool.or_eq_true, Bool.or_eq_true, decide_eq_true_eq, decide_eq_true_eq, decide_eq_true_eq] at h
  rw [List.mem_append, List.mem_append]
  exact h
theorem cnt_zero {p : Nat → Bool} {z : Str} (h : ∀ c ∈ z.cps.toList, p c = false) : cnt p z = 0 := by
  unfold cnt
  rw [List.countP_eq_zero]
  exact fun c hc q => by rw [h c hc] at q; cases q
theorem ev_plain {z : Str} (h : ∀ c ∈ z.cps.toList, plB c = true) : Ev z :=
  ⟨by rw [cnt_zero fun c hc => (pl_no c (h c hc)).1], by rw [cnt_zero fun c hc => (pl_no c (h c hc)).2.1], fun c hc => (pl_no c (h c hc)).2.2⟩
theorem txt_plain {fs z : Str} (hf : ∀ c ∈ fs.cps.toList, plB c = true) (h : txtB fs z = true) : ∀ c ∈ z.cps.toList, plB c = true := fun c hc => by
  unfold txtB at h
  rw [Bool.and_eq_true] at h
  have h := h.2
  cases e : z.cps.toList with
  | nil => rw [e] at hc; cases hc
  | cons a r =>
    rw [e] at h hc
    have h : (decide (a ∈ fs.cps.toList) && r.all fun d => decide (d ∈ fur.cps.toList)) = true := h
    rw [Bool.and_eq_true, decide_eq_true_eq, List.all_eq_true] at h
    rcases List.mem_cons.mp hc with rfl | hc
    · exact hf _ h.1
    · unfold plB
      rw [decide_eq_true (of_decide_eq_true (h.2 c hc))]
      rfl
theorem small_pl : ∀ c ∈ small.cps.toList, plB c = true := by decide +kernel
theorem caps_pl : ∀ c ∈ capS.cps.toList, plB c = true := by decide +kernel
theorem figs_pl : ∀ c ∈ figS.cps.toList, plB c = true := by decide +kernel
theorem num_plain (i : Int) : ∀ c ∈ (shownK (.inl i)).cps.toList, plB c = true := fun c hc => by
  have key : ∀ m : Nat, c ∈ (Nat.toDigits 10 m).map Char.toNat → plB c = true := fun m h => by
    have := digits_all m c h
    exact figs_pl c (figs_in c this.1 this.2)
  rcases num_two i with ⟨m, _, q⟩ | ⟨m, _, _, q⟩
  · rw [q] at hc
    exact key m hc
  · rw [q] at hc
    rcases List.mem_cons.mp hc with h | h
    · rw [h]
      decide +kernel
    · exact key m h
theorem shown_plain : ∀ {k : Key}, TmOk k → ∀ c ∈ (shownK k).cps.toList, plB c = true
  | .inl i, _ => num_plain i
  | .inr z, h => h.1.elim (fun q => txt_plain small_pl q) (fun q => txt_plain caps_pl q)
theorem sgs_plain : ∀ z ∈ sgs, ∀ c ∈ z.cps.toList, plB c = true := by decide +kernel
theorem ev_of {z : Str} (h : (cnt p1 z % 2 == 0 && cnt p2 z % 2 == 0 && z.cps.toList.all sgA) = true) : Ev z := by
  rw [Bool.and_eq_true, Bool.and_eq_true, beq_iff_eq, beq_iff_eq, List.all_eq_true] at h
  exact ⟨h.1.1, h.1.2, h.2⟩
theorem ev_atom {A : Atm} (h : AOk A) : Ev (atomS A) := by
  have h1 := ev_plain (txt_plain small_pl h.1.1)
  have h2 : Ev (Str.join comS (A.2.map shownK)) := Ev.join (ev_of (by decide +kernel)) fun w hw => by
    obtain ⟨k, hk, rfl⟩ := List.mem_map.mp hw
    exact ev_plain (shown_plain (h.2.2 k hk))
  rw [atom_row]
  refine h1.app ?_
  unfold rowS
  refine ⟨?_, ?_, fun c hc => ?_⟩
  · rw [cnt_app, cnt_app, show cnt p1 "(" = 0 by decide +kernel, show cnt p1 ")" = 0 by decide +kernel]
    have := h2.e1
    omega
  · rw [cnt_app, cnt_app, show cnt p2 "(" = 1 by decide +kernel, show cnt p2 ")" = 1 by decide +kernel]
    have := h2.e2
    omega
  · rw [str_app, str_app] at hc
    rcases List.mem_append.mp hc with hc | hc
    · rcases List.mem_append.mp hc with hc | hc
      · exact (show ∀ c ∈ ("(" : Str).cps.toList, sgA c = true by decide +kernel) c hc
      · exact h2.al c hc
    · exact (show ∀ c ∈ (")" : Str).cps.toList, sgA c = true by decide +kernel) c hc
theorem ev_choice {C : Chc} (h : COk C) : Ev (choiceS C) := by
  have h1 := ev_plain (shown_plain h.2.1)
  have h2 := ev_plain (shown_plain h.2.2)
  have h3 := ev_plain (sgs_plain _ h.1)
  show Ev (shownK C.2.1 ++ blS ++ (C.1 ++ blS ++ shownK C.2.2))
  have eb : cnt p1 blS = 1 := by decide +kernel
  have eb2 : cnt p2 blS = 0 := by decide +kernel
  refine ⟨?_, ?_, fun c hc => ?_⟩
  · rw [cnt_app, cnt_app, cnt_app, cnt_app, eb]
    have := h1.e1
    have := h2.e1
    have := h3.e1
    omega
  · rw [cnt_app, cnt_app, cnt_app, cnt_app, eb2]
    have := h1.e2
    have := h2.e2
    have := h3.e2
    omega
  · simp only [str_app, List.mem_append] at hc
    rcases hc with (hc | hc) | (hc | hc) | hc
    · exact h1.al c hc
    · exact (show ∀ c ∈ blS.cps.toList, sgA c = true by decide +kernel) c hc
    · exact h3.al c hc
    · exact (show ∀ c ∈ blS.cps.toList, sgA c = true by decide +kernel) c hc
    · exact h2.al c hc
def Rdb (kind : Int) (z : Str) : Prop := if kind = 0 then ∃ A, AtomT z A else if kind = 1 then ∃ n A, FactT z n A else ∃ h As Cs, RuleT z h As Cs
theorem ev_fact {z n : Str} {A : Atm} (h : FactT z n A) : Ev z := by
  rw [h.2.2.2]
  exact ((ev_plain (txt_plain small_pl h.1.1)).app (ev_of (by decide +kernel))).app (ev_atom h.2.1)
theorem ev_rule {z : Str} {h : Atm} {As : List Atm} {Cs : List Chc} (g : RuleT z h As Cs) : Ev z := by
  rw [g.2.2.2]
  unfold ruleS
  split
  · exact ev_atom g.1
  · refine ((ev_atom g.1).app (ev_of (by decide +kernel))).app (Ev.join (ev_of (by decide +kernel)) fun w hw => ?_)
    rcases List.mem_append.mp hw with q | q
    · obtain ⟨A, hA, rfl⟩ := List.mem_map.mp q
      exact ev_atom (g.2.1 A hA)
    · obtain ⟨C, hC, rfl⟩ := List.mem_map.mp q
      exact ev_choice (g.2.2.1 C hC)
theorem Rdb.ev {kind : Int} {z : Str} (h : Rdb kind z) : Ev z := by
  unfold Rdb at h
  split at h
  · obtain ⟨A, h⟩ := h
    rw [h.2]
    exact ev_atom h.1
  · split at h
    · obtain ⟨n, A, h⟩ := h
      exact ev_fact h
    · obtain ⟨_, _, _, h⟩ := h
      exact ev_rule h
def BadK (kind : Int) (z : Str) : Prop := Low z ∧ z.length ≤ 20000 ∧ ¬ Rdb kind z
theorem sg_low : ∀ c : Nat, sgA c = true → c < 128 := by
  intro c h
  have key : ∀ c ∈ fur.cps.toList ++ capS.cps.toList ++ [45, 32, 44, 59, 58, 40, 41, 61, 33, 60], c < 128 := by decide +kernel
  refine key c ?_
  unfold sgA at h
  rw [Bool.or_eq_true, Bool.or_eq_true, decide_eq_true_eq, decide_eq_true_eq, decide_eq_true_eq] at h
  rw [List.mem_append, List.mem_append]
  exact h
theorem Ev.low {z : Str} (h : Ev z) : Low z := fun c hc => sg_low c (h.al c hc)
theorem low_app {a b : Str} (h : Low a) (k : Low b) : Low (a ++ b) := fun c hc => by
  rw [str_app] at hc
  exact (List.mem_append.mp hc).elim (h c) (k c)
theorem low_of {z : Str} (h : (z.cps.toList.all fun c => decide (c < 128)) = true) : Low z := fun c hc => of_decide_eq_true (List.all_eq_true.mp h c hc)
theorem low_plain {z : Str} (h : ∀ c ∈ z.cps.toList, plB c = true) : Low z := (ev_plain h).low
theorem low_cut {z : Str} {lo hi : Option Int} (h : Low z) : Low (cutS z lo hi) := fun c hc => h c (cut_mem hc)
theorem bad_sign {kind : Int} {z : Str} {c : Nat} (hc : c ∈ z.cps.toList) (h : sgA c = false) : ¬ Rdb kind z := fun q => by
  rw [q.ev.al c hc] at h
  cases h
theorem bad_one {kind : Int} {z : Str} (h : cnt p1 z % 2 = 1) : ¬ Rdb kind z := fun q => by
  have := q.ev.e1
  omega
theorem bad_two {kind : Int} {z : Str} (h : cnt p2 z % 2 = 1) : ¬ Rdb kind z := fun q => by
  have := q.ev.e2
  omega
theorem cut_l (z : Str) (k : Nat) : (cutS z none (some (k : Int))).cps.toList = z.cps.toList.take k := by
  unfold cutS
  rw [HT.sIx_nat, HT.sIx_none, List.toList_toArray, List.drop_zero, Nat.sub_zero]
  by_cases h : k ≤ z.length
  · rw [Nat.min_eq_left h]
  · rw [Nat.min_eq_right (by omega), List.take_of_length_le (by rw [str_len]; omega), List.take_of_length_le (by rw [str_len]; omega)]
theorem cut_r (z : Str) (k : Nat) : (cutS z (some (k : Int)) none).cps.toList = z.cps.toList.drop k := by
  unfold cutS
  rw [HT.sIx_nat, HT.sIx_none, List.toList_toArray]
  by_cases h : k ≤ z.length
  · rw [Nat.min_eq_left h, List.take_of_length_le (by rw [List.length_drop, str_len]; omega)]
  · rw [Nat.min_eq_right (by omega), Nat.sub_self, List.take_zero, List.drop_of_length_le (by rw [str_len]; omega)]
theorem cnt_cut (p : Nat → Bool) (z : Str) (k : Nat) : cnt p (cutS z none (some (k : Int))) + cnt p (cutS z (some (k : Int)) none) = cnt p z := by
  unfold cnt
  rw [cut_l, cut_r, ← List.countP_append, List.take_append_drop]
theorem cnt_out (p : Nat → Bool) (z : Str) (k c : Nat) (h : z.cps.toList[k]? = some c) : cnt p (cutS z none (some (k : Int))) + cnt p (cutS z (some ((k : Int) + 1)) none) + (if p c = true then 1 else 0) = cnt p z := by
  have e : z.cps.toList = z.cps.toList.take k ++ (c :: z.cps.toList.drop (k + 1)) := by
    have h1 : k < z.cps.toList.length := (List.getElem?_eq_some_iff.mp h).1
    have h2 : z.cps.toList[k] = c := (List.getElem?_eq_some_iff.mp h).2
    rw [← h2, ← List.drop_eq_getElem_cons h1, List.take_append_drop]
  unfold cnt
  rw [show ((k : Int) + 1) = ((k + 1 : Nat) : Int) from rfl, cut_l, cut_r]
  conv => rhs; rw [e, List.countP_append, List.countP_cons]
  omega
end Wy
namespace Wy
open PySem L2
theorem e41' : (")" : Str) = ⟨#[41]⟩ := by decide +kernel
def rowB (c : Str) : Bool := decide (c = "") || ((cutsS c comS).all trmB && decide ((cutsS c comS).length ≤ 4))
theorem row_c {c : Str} {ks : List Key} (h : RowT c ks) : rowB c = true := by
  unfold rowB
  by_cases e : ks = []
  · rw [h.2.2, e]
    rfl
  · rw [h.2.2, split_row h.2.1 e, Bool.or_eq_true, Bool.and_eq_true, List.all_eq_true]
    refine .inr ⟨fun w hw => ?_, decide_eq_true (by rw [List.length_map]; exact h.1)⟩
    obtain ⟨k, hk, rfl⟩ := List.mem_map.mp hw
    exact trm_of (h.2.1 k hk)
def aB (r : Str) : Bool := endB r ")" && rowB (cutS r none (some (-1)))
def atmB (z : Str) : Bool := match partS z "(" with
  | [a, _, b] => txtB small a && aB b
  | _ => false
theorem aB_c {A : Atm} (h : AOk A) : aB (Str.join comS (A.2.map shownK) ++ ")") = true := by
  unfold aB
  rw [e41', end_one, cut_end, row_c ⟨h.2.1, h.2.2, rfl⟩]
  rfl
theorem atm_c {z : Str} {A : Atm} (h : AtomT z A) : atmB z = true := by
  unfold atmB
  rw [h.2, atom_row, part_atom h.1.1.1]
  show (txtB small A.1 && aB _) = true
  rw [h.1.1.1, aB_c h.1]
  rfl
theorem pl_40 : ∀ c : Nat, plB c = true → c ≠ 40 ∧ c ≠ 41 ∧ c ≠ 58 ∧ c ≠ 44 ∧ c ≠ 32 ∧ c ≠ 59 := by
  intro c h
  have key : ∀ c ∈ fur.cps.toList ++ capS.cps.toList ++ [45, 61, 33, 60], c ≠ 40 ∧ c ≠ 41 ∧ c ≠ 58 ∧ c ≠ 44 ∧ c ≠ 32 ∧ c ≠ 59 := by decide +kernel
  refine key c ?_
  unfold plB at h
  rw [Bool.or_eq_true, Bool.or_eq_true, decide_eq_true_eq, decide_eq_true_eq, decide_eq_true_eq] at h
  rw [List.mem_append, List.mem_append]
  exact h
theorem word_40 {w : Str} (h : txtB small w = true) : 40 ∉ w.cps.toList := fun q => (pl_40 _ (txt_plain small_pl h _ q)).1 rfl
theorem part_w {w r : Str} (h : txtB small w = true) : partS (w ++ "(" ++ r) "(" = [w, "(", r] := part_at (c := 40) (t := []) (by decide +kernel) (word_40 h)
theorem atom_w {w r : Str} {A : Atm} (hw : txtB small w = true) (h : AtomT (w ++ "(" ++ r) A) : aB r = true := by
  have e := part_w (r := r) hw
  rw [h.2, atom_row, part_atom h.1.1.1] at e
  injection e with _ e
  injection e with _ e
  injection e with e _
  rw [← e]
  exact aB_c h.1
def has40 (z : Str) : Bool := decide (40 ∈ z.cps.toList)
def chB (z : Str) : Bool := match cutsS z blS with
  | [a, s, b] => decide (s ∈ sgs) && trmB a && trmB b
  | _ => false
theorem ch_c {C : Chc} (h : COk C) : chB (choiceS C) = true := by
  unfold chB
  rw [split_choice h]
  show (decide (C.1 ∈ sgs) && trmB _ && trmB _) = true
  rw [decide_eq_true h.1, trm_of h.2.1, trm_of h.2.2]
  rfl
def bodyB (z : Str) : Bool := ((cutsS z semS).takeWhile has40).all atmB && ((cutsS z semS).dropWhile has40).all chB
theorem body_c {z : Str} {As : List Atm} {Cs : List Chc} (h : BodyT z As Cs) : bodyB z = true := by
  unfold bodyB
  rw [h.2.2.2, split_body h.1 h.2.1 h.2.2.1]
  have pos : ∀ w ∈ As.map atomS, has40 w = true := fun w hw => by
    obtain ⟨A, _, rfl⟩ := List.mem_map.mp hw
    exact decide_eq_true (atom_40 A)
  have neg : ∀ w ∈ Cs.map choiceS, has40 w = false := fun w hw => by
    obtain ⟨C, hC, rfl⟩ := List.mem_map.mp hw
    exact decide_eq_false (choice_no (h.2.1 C hC)).2
  have t : (Cs.map choiceS).takeWhile has40 = [] := by
    cases e : Cs.map choiceS with
    | nil => rfl
    | cons a r => rw [List.takeWhile_cons, if_neg (by rw [neg a (by rw [e]; exact List.mem_cons_self)]; decide)]
  have d : (Cs.map choiceS).dropWhile has40 = Cs.map choiceS := by
    cases e : Cs.map choiceS with
    | nil => rfl
    | cons a r => rw [List.dropWhile_cons, if_neg (by rw [neg a (by rw [e]; exact List.mem_cons_self)]; decide)]
  unfold bodyS
  rw [List.takeWhile_append_of_pos pos, List.dropWhile_append_of_pos pos, t, d, List.append_nil, Bool.and_eq_true, List.all_eq_true, List.all_eq_true]
  refine ⟨fun w hw => ?_, fun w hw => ?_⟩
  · obtain ⟨A, hA, rfl⟩ := List.mem_map.mp hw
    exact atm_c ⟨h.1 A hA, rfl⟩
  · obtain ⟨C, hC, rfl⟩ := List.mem_map.mp hw
    exact ch_c (h.2.1 C hC)
def restB (r : Str) : Bool := match partS r ")" with
  | [_, _, t] => decide (t.cps.toList.take 4 = [32, 105, 102, 32]) && bodyB (cutS t (some 4) none)
  | _ => false
theorem join_pl {ks : List Key} (h : ∀ k ∈ ks, TmOk k) : 41 ∉ (Str.join comS (ks.map shownK)).cps.toList := fun q => by
  rcases join_mem q with q | ⟨w, hw, q⟩
  · exact absurd q (by decide +kernel)
  · obtain ⟨k, hk, rfl⟩ := List.mem_map.mp hw
    exact (pl_40 _ (shown_plain (h k hk) _ q)).2.1 rfl
theorem rule_w {w r : Str} {h : Atm} {As : List Atm} {Cs : List Chc} (hw : txtB small w = true) (g : RuleT (w ++ "(" ++ r) h As Cs) : (aB r || restB r) = true := by
  by_cases ne : bodyS As Cs = []
  · have e : w ++ "(" ++ r = atomS h := by
      rw [g.2.2.2]
      unfold ruleS
      rw [if_pos ne]
    rw [atom_w hw (A := h) ⟨g.1, e⟩]
    rfl
  · have e : w ++ "(" ++ r = atomS h ++ ifS ++ Str.join semS (bodyS As Cs) := by
      rw [g.2.2.2]
      unfold ruleS
      rw [if_neg ne]
    have e2 : atomS h ++ ifS ++ Str.join semS (bodyS As Cs) = h.1 ++ "(" ++ (Str.join comS (h.2.map shownK) ++ ")" ++ (ifS ++ Str.join semS (bodyS As Cs))) := by
      rw [atom_row]
      unfold rowS
      exact str_ext (by simp only [str_app, List.append_assoc])
    have e3 := part_w (r := r) hw
    rw [e, e2, part_w g.1.1.1] at e3
    injection e3 with _ e3
    injection e3 with _ e3
    injection e3 with e3 _
    rw [Bool.or_eq_true]
    refine .inr ?_
    unfold restB
    rw [← e3, part_at (c := 41) (t := []) (by decide +kernel) (join_pl g.1.2.2)]
    show (decide (List.take 4 (ifS ++ Str.join semS (bodyS As Cs)).cps.toList = _) && bodyB (cutS (ifS ++ Str.join semS (bodyS As Cs)) (some 4) none)) = true
    have ec : cutS (ifS ++ Str.join semS (bodyS As Cs)) (some 4) none = Str.join semS (bodyS As Cs) := str_ext (by
      rw [show (some (4 : Int)) = some ((4 : Nat) : Int) from rfl, cut_r, str_app, if_signs]
      rfl)
    rw [ec, body_c ⟨g.2.1, g.2.2.1, ne, rfl⟩, str_app, if_signs, Bool.and_true]
    exact decide_eq_true rfl
def ruB (z : Str) : Bool := match partS z ifS with
  | [a, s, b] => atmB a && (decide (s = "") || bodyB b)
  | _ => false
theorem rule_c {z : Str} {h : Atm} {As : List Atm} {Cs : List Chc} (g : RuleT z h As Cs) : ruB z = true := by
  unfold ruB
  by_cases ne : bodyS As Cs = []
  · have e : z = atomS h := by
      rw [g.2.2.2]
      unfold ruleS
      rw [if_pos ne]
    rw [e, part_noif g.1]
    show (atmB (atomS h) && _) = true
    rw [atm_c ⟨g.1, rfl⟩]
    rfl
  · have e : z = atomS h ++ ifS ++ Str.join semS (bodyS As Cs) := by
      rw [g.2.2.2]
      unfold ruleS
      rw [if_neg ne]
    rw [e, part_if g.1]
    show (atmB (atomS h) && (_ || bodyB _)) = true
    rw [atm_c ⟨g.1, rfl⟩, body_c ⟨g.2.1, g.2.2.1, ne, rfl⟩, Bool.or_true]
    rfl
theorem rule_40 {z : Str} {h : Atm} {As : List Atm} {Cs : List Chc} (g : RuleT z h As Cs) : 40 ∈ z.cps.toList := by
  rw [g.2.2.2]
  unfold ruleS
  split
  · exact atom_40 h
  · rw [str_app, str_app]
    exact List.mem_append.mpr (.inl (List.mem_append.mpr (.inl (atom_40 h))))
def NoA (z : Str) : Prop := (∀ A, ¬ AtomT z A) ∧ ∀ h As Cs, ¬ RuleT z h As Cs
theorem noA_w {w : Str} (r : Str) (hw : txtB small w = true) (h : (aB r || restB r) = false) : NoA (w ++ "(" ++ r) := by
  refine ⟨fun A g => ?_, fun _ _ _ g => ?_⟩
  · rw [atom_w hw g] at h
    cases h
  · rw [rule_w hw g] at h
    cases h
theorem noA_c {z : Str} (h : (atmB z || ruB z) = false) : NoA z := by
  refine ⟨fun A g => ?_, fun _ _ _ g => ?_⟩
  · rw [atm_c g] at h
    cases h
  · rw [rule_c g, Bool.or_true] at h
    cases h
theorem noA_sg {z : Str} {c : Nat} (hc : c ∈ z.cps.toList) (h : sgA c = false) : NoA z := by
  refine ⟨fun A g => ?_, fun _ _ _ g => ?_⟩
  · rw [g.2] at hc
    rw [(ev_atom g.1).al c hc] at h
    cases h
  · rw [(ev_rule g).al c hc] at h
    cases h
theorem noA_40 {z : Str} (h : 40 ∉ z.cps.toList) : NoA z := ⟨fun A g => h (by rw [g.2]; exact atom_40 A), fun _ _ _ g => h (rule_40 g)⟩
theorem fact_a {a x n : Str} {A : Atm} (ha : 58 ∉ a.cps.toList) (h : FactT (a ++ ": " ++ x) n A) : n = a ∧ PlaceT x A := by
  have e1 := part_at (a := a) (y := ": ") (b := x) (c := 58) (t := [32]) (by decide +kernel) ha
  have e2 := part_fact h.1.1 (A.1 ++ rowS A.2)
  have e3 : a ++ ": " ++ x = n ++ ": " ++ (A.1 ++ rowS A.2) := h.2.2.2
  rw [e3, e2] at e1
  injection e1 with e1 e4
  injection e4 with _ e4
  injection e4 with e4 _
  exact ⟨e1, ⟨h.2.1, e4.symm⟩, h.2.2.1⟩
theorem fact_58 {z n : Str} {A : Atm} (h : FactT z n A) : 58 ∈ z.cps.toList := by
  rw [h.2.2.2]
  unfold factS
  rw [str_app, str_app]
  exact List.mem_append.mpr (.inl (List.mem_append.mpr (.inr (by decide +kernel))))
def NoL (kind : Int) (z : Str) : Prop := if kind = 0 then ∀ A, ¬ AtomT z A else if kind = 1 then ∀ n A, ¬ FactT z n A else ∀ h As Cs, ¬ RuleT z h As Cs
theorem NoL.bad {kind : Int} {z : Str} (h : NoL kind z) : ¬ Rdb kind z := by
  unfold NoL at h
  unfold Rdb
  split
  · rename_i e
    rw [if_pos e] at h
    exact fun ⟨A, q⟩ => h A q
  · rename_i e
    rw [if_neg e] at h
    split
    · rename_i e2
      rw [if_pos e2] at h
      exact fun ⟨n, A, q⟩ => h n A q
    · rename_i e2
      rw [if_neg e2] at h
      exact fun ⟨a, b, c, q⟩ => h a b c q
theorem noL_A {kind : Int} {z : Str} (k : kind ≠ 1) (h : NoA z) : NoL kind z := by
  unfold NoL
  split
  · exact h.1
  · exact h.2
theorem noL_F {a z : Str} (ha : 58 ∉ a.cps.toList) (h : NoA z) : NoL 1 (a ++ ": " ++ z) := by
  show ∀ n A, ¬ FactT _ n A
  exact fun n A g => h.1 A (fact_a ha g).2.1
def nots (w : Str) (c : Int) : List Str := ["00", "-0", "-", "+7", "--7", "- 7", "7-", "7a", "", " ", "()", "a_b", w ++ "A", "abcdefghijklm", "Abcdefghijklm", "0" ++ shownK (.inl (c % 10 ^ 59)), "-0" ++ shownK (.inl (1 + c % 10 ^ 58)), shownK (.inl (10 ^ 60 + c % 10 ^ 59)), shownK (.inl (0 - 10 ^ 60 - c % 10 ^ 59)), "1 2", "aB"]
def NoTm (X : Str) : Prop := Low X ∧ X.length ≤ 100 ∧ trmB X = false ∧ 44 ∉ X.cps.toList ∧ ((∀ c ∈ X.cps.toList, c ≠ 32 ∧ c ≠ 40 ∧ c ≠ 41 ∧ c ≠ 59) ∨ X ∈ [("- 7" : Str), " ", "()", "1 2"])
end Wy
namespace Wy
open PySem L2
theorem digits_ge : ∀ (k m : Nat), 10 ^ k ≤ m → k + 1 ≤ (Nat.toDigits 10 m).length
  | 0, m, _ => by
    have := digits_ne m
    cases e : Nat.toDigits 10 m with
    | nil => rw [e] at this; exact absurd rfl this
    | cons a b => simp
  | k + 1, m, h => by
    rw [Nat.pow_succ] at h
    have h1 : 1 ≤ 10 ^ k := Nat.pos_of_ne_zero (by intro z; simp at z)
    rw [digits_split (by omega), List.length_append, List.length_singleton]
    have := digits_ge k (m / 10) (by omega)
    omega
theorem trm_num {z : Str} {d : Nat} {r : List Nat} (e : z.cps.toList = d :: r) (hd : d < 65) (h : numB z = false) : trmB z = false := by
  have no : ∀ fs : Str, (∀ c ∈ fs.cps.toList, 65 ≤ c) → txtB fs z = false := fun fs hf => by
    unfold txtB
    rw [e]
    have : ¬ d ∈ fs.cps.toList := fun q => by
      have := hf d q
      omega
    simp [signsOk, this]
  unfold trmB
  rw [no small small_ge, no capS caps_ge, h]
  rfl
theorem figs_self {z : Str} (h : z.cps.toList.head? ≠ some 45) : figsOf z = z := by
  unfold figsOf
  rw [if_neg h]
theorem num_long {m : Nat} {z : Str} (e : z.cps.toList = (Nat.toDigits 10 m).map Char.toNat) (h : 10 ^ 60 ≤ m) : figB z = false := by
  refine Bool.eq_false_iff.mpr fun q => ?_
  have l2 := (figB_all q).2.1
  have l1 := digits_ge 60 m h
  rw [← str_len, e, List.length_map] at l2
  omega
theorem dig_head (m : Nat) : ∃ d r, (Nat.toDigits 10 m).map Char.toNat = d :: r ∧ 48 ≤ d ∧ d ≤ 57 := by
  cases e : (Nat.toDigits 10 m).map Char.toNat with
  | nil => exact absurd e (digits_ne m)
  | cons d r => exact ⟨d, r, rfl, digits_all m d (by rw [e]; exact List.mem_cons_self)⟩
theorem nt_plain {X : Str} (h : ∀ c ∈ X.cps.toList, plB c = true) (hl : X.length ≤ 100) (no : trmB X = false) : NoTm X :=
  ⟨low_plain h, hl, no, fun q => (pl_40 _ (h _ q)).2.2.2.1 rfl, .inl fun c hc => let p := pl_40 c (h c hc); ⟨p.2.2.2.2.1, p.1, p.2.1, p.2.2.2.2.2⟩⟩
theorem nt_c {X : Str} (h : ((X.cps.toList.all fun c => decide (c < 128 ∧ c ≠ 44)) && decide (X.length ≤ 100) && !trmB X && ((X.cps.toList.all fun c => decide (c ≠ 32 ∧ c ≠ 40 ∧ c ≠ 41 ∧ c ≠ 59)) || decide (X ∈ [("- 7" : Str), " ", "()", "1 2"]))) = true) : NoTm X := by
  rw [Bool.and_eq_true, Bool.and_eq_true, Bool.and_eq_true, Bool.or_eq_true, decide_eq_true_eq, decide_eq_true_eq, List.all_eq_true, List.all_eq_true, Bool.not_eq_true'] at h
  obtain ⟨⟨⟨h1, h2⟩, h3⟩, h4⟩ := h
  exact ⟨fun c hc => (of_decide_eq_true (h1 c hc)).1, h2, h3, fun q => (of_decide_eq_true (h1 _ q)).2 rfl, h4.imp (fun q c hc => of_decide_eq_true (q c hc)) id⟩
theorem nums_le (i : Int) (h : i.natAbs < 10 ^ 61) : (shownK (.inl i)).length ≤ 62 := by
  rcases num_two i with ⟨m, em, q⟩ | ⟨m, _, em, q⟩
  · have := digits_len 60 m (by omega)
    rw [← str_len, q, List.length_map]
    omega
  · have := digits_len 60 m (by omega)
    rw [← str_len, q, List.length_cons, List.length_map]
    omega
theorem nots_all {w : Str} {c : Int} (hw : txtB small w = true) : ∀ X ∈ nots w c, NoTm X := by
  have a0 := Int.emod_nonneg c (show (10 ^ 59 : Int) ≠ 0 by decide)
  have a1 := Int.emod_lt_of_pos c (show (0 : Int) < 10 ^ 59 by decide)
  have b0 := Int.emod_nonneg c (show (10 ^ 58 : Int) ≠ 0 by decide)
  have b1 := Int.emod_lt_of_pos c (show (0 : Int) < 10 ^ 58 by decide)
  have p1 : (10 ^ 59 : Int) < 10 ^ 60 := by decide
  have p2 : (10 ^ 58 : Int) + 1 < 10 ^ 60 := by decide
  have p3 : (10 ^ 61 : Int) = 10 * 10 ^ 60 := by decide
  intro X hX
  unfold nots at hX
  generalize c % 10 ^ 59 = A at *
  generalize c % 10 ^ 58 = B at *
  simp only [List.mem_cons, List.not_mem_nil, or_false] at hX
  rcases hX with rfl | rfl | rfl | rfl | rfl | rfl | rfl | rfl | rfl | rfl | rfl | rfl | rfl | rfl | rfl | rfl | rfl | rfl | rfl | rfl | rfl
  · exact nt_c (by decide +kernel)
  · exact nt_c (by decide +kernel)
  · exact nt_c (by decide +kernel)
  · exact nt_c (by decide +kernel)
  · exact nt_c (by decide +kernel)
  · exact nt_c (by decide +kernel)
  · exact nt_c (by decide +kernel)
  · exact nt_c (by decide +kernel)
  · exact nt_c (by decide +kernel)
  · exact nt_c (by decide +kernel)
  · exact nt_c (by decide +kernel)
  · exact nt_c (by decide +kernel)
  · -- a capital letter behind a word
    have hp := txt_plain small_pl hw
    have lw := txtB_le hw
    have eA : ("A" : Str).cps.toList = [65] := by decide +kernel
    obtain ⟨d, r, ed⟩ : ∃ d r, w.cps.toList = d :: r := by
      cases e : w.cps.toList with
      | nil => rw [← str_len, e] at lw; exact absurd lw.1 (by decide)
      | cons d r => exact ⟨d, r, rfl⟩
    have hd : d ∈ small.cps.toList := by
      have h := hw
      unfold txtB at h
      rw [Bool.and_eq_true, ed] at h
      have h2 : (decide (d ∈ small.cps.toList) && r.all fun d => decide (d ∈ fur.cps.toList)) = true := h.2
      rw [Bool.and_eq_true, decide_eq_true_eq] at h2
      exact h2.1
    have dl : 97 ≤ d := (show ∀ c ∈ small.cps.toList, 97 ≤ c by decide +kernel) d hd
    refine nt_plain (fun x hx => ?_) (by rw [Str.length_append, show ("A" : Str).length = 1 by decide +kernel]; omega) ?_
    · rw [str_app, eA] at hx
      rcases List.mem_append.mp hx with hx | hx
      · exact hp x hx
      · rw [List.mem_singleton.mp hx]
        decide +kernel
    · have el : (w ++ "A").cps.toList = d :: (r ++ [65]) := by rw [str_app, eA, ed]; rfl
      have no : ∀ fs : Str, txtB fs (w ++ "A") = false := fun fs => by
        unfold txtB
        rw [el]
        have : (signsOk fs (d :: (r ++ [65]))) = false := by
          show (decide (d ∈ fs.cps.toList) && (r ++ [65]).all fun d => decide (d ∈ fur.cps.toList)) = false
          rw [List.all_append, show ([65].all fun d => decide (d ∈ fur.cps.toList)) = false by decide +kernel, Bool.and_false, Bool.and_false]
        rw [this, Bool.and_false]
      unfold trmB
      rw [no small, no capS]
      refine Bool.eq_false_iff.mpr fun q => ?_
      have q : numB (w ++ "A") = true := q
      unfold numB at q
      rw [figs_self (by rw [el]; intro z; injection z with z; omega), Bool.and_eq_true] at q
      have := (figB_all q.1).2.2 d (by rw [el]; exact List.mem_cons_self)
      omega
  · exact nt_c (by decide +kernel)
  · exact nt_c (by decide +kernel)
  · -- a nought ahead
    have e0 : ("0" : Str).cps.toList = [48] := by decide +kernel
    have l1 := (num_len (show A.natAbs < 10 ^ 60 by omega)).2
    have l2 := (num_len (show A.natAbs < 10 ^ 60 by omega)).1
    have el : ("0" ++ shownK (.inl A)).cps.toList = 48 :: (shownK (.inl A)).cps.toList := by rw [str_app, e0]; rfl
    refine nt_plain (fun x hx => ?_) (by rw [Str.length_append, show ("0" : Str).length = 1 by decide +kernel]; omega) (trm_num el (by decide) ?_)
    · rw [el] at hx
      rcases List.mem_cons.mp hx with rfl | hx
      · decide +kernel
      · exact num_plain A x hx
    · unfold numB
      rw [figs_self (by rw [el]; intro z; injection z with z; exact absurd z (by decide)), el, show decide ((48 :: (shownK (.inl A)).cps.toList).head? = some 48) = true from decide_eq_true rfl, decide_eq_false fun z => ?_]
      · rw [Bool.not_true, Bool.or_false, Bool.and_false]
      · have := congrArg Str.length z
        rw [Str.length_append, show ("0" : Str).length = 1 by decide +kernel] at this
        omega
  · have e0 : ("-0" : Str).cps.toList = [45, 48] := by decide +kernel
    have l1 := (num_len (show (1 + B).natAbs < 10 ^ 60 by omega)).1
    have el : ("-0" ++ shownK (.inl (1 + B))).cps.toList = 45 :: 48 :: (shownK (.inl (1 + B))).cps.toList := by rw [str_app, e0]; rfl
    refine nt_plain (fun x hx => ?_) (by rw [Str.length_append, show ("-0" : Str).length = 2 by decide +kernel]; omega) (trm_num el (by decide) ?_)
    · rw [el] at hx
      rcases List.mem_cons.mp hx with rfl | hx
      · decide +kernel
      · rcases List.mem_cons.mp hx with rfl | hx
        · decide +kernel
        · exact num_plain _ x hx
    · have ef : (figsOf ("-0" ++ shownK (.inl (1 + B)))).cps.toList = 48 :: (shownK (.inl (1 + B))).cps.toList := by
        unfold figsOf
        rw [if_pos (by rw [el]; rfl)]
        exact cut_one el
      unfold numB
      rw [ef, show decide ((48 :: (shownK (.inl (1 + B))).cps.toList).head? = some 48) = true from decide_eq_true rfl, decide_eq_false fun z => ?_]
      · rw [Bool.not_true, Bool.or_false, Bool.and_false]
      · rw [z, zero_list] at el
        cases el
  · -- too many figures
    obtain ⟨m, hm⟩ := Int.eq_ofNat_of_zero_le (show (0 : Int) ≤ 10 ^ 60 + A by omega)
    rw [hm]
    have es := num_signs m
    obtain ⟨d, r, ed, d1, d2⟩ := dig_head m
    refine nt_plain (num_plain _) (Nat.le_trans (nums_le _ (by omega)) (by decide)) (trm_num (es.trans ed) (by omega) ?_)
    unfold numB
    rw [figs_self (by rw [es, ed]; intro z; injection z with z; omega), num_long es (by have : (10 ^ 60 : Int) ≤ (m : Int) := by omega
                                                                                        exact_mod_cast this), Bool.false_and]
  · obtain ⟨m, hm⟩ := Int.eq_ofNat_of_zero_le (show (0 : Int) ≤ 10 ^ 60 + A by omega)
    have m0 : 10 ^ 60 ≤ m := by
      have : (10 ^ 60 : Int) ≤ (m : Int) := by omega
      exact_mod_cast this
    rw [show (0 - 10 ^ 60 - A : Int) = -(m : Int) by omega]
    have m1 : 1 ≤ m := Nat.le_trans (Nat.one_le_two_pow (n := 0)) (Nat.le_trans (by decide) m0)
    have es := neg_signs m m1
    refine nt_plain (num_plain _) (Nat.le_trans (nums_le _ (by omega)) (by decide)) (trm_num es (by decide) ?_)
    have ef : (figsOf (shownK (.inl (-(m : Int))))).cps.toList = (Nat.toDigits 10 m).map Char.toNat := by
      unfold figsOf
      rw [if_pos (by rw [es]; rfl)]
      exact cut_one es
    unfold numB
    rw [num_long ef m0, Bool.false_and]
  · exact nt_c (by decide +kernel)
  · exact nt_c (by decide +kernel)
end Wy
namespace Wy
open PySem L2
theorem str_assoc3 (a b c : Str) : a ++ b ++ c = a ++ (b ++ c) := Str.append_assoc a b c
theorem nt_last {X : Str} (h : NoTm X) : (aB ("1, " ++ X ++ ")") || restB ("1, " ++ X ++ ")")) = false := by
  have gen : 41 ∉ X.cps.toList → (aB ("1, " ++ X ++ ")") || restB ("1, " ++ X ++ ")")) = false := fun no => by
    have ea : aB ("1, " ++ X ++ ")") = false := by
      unfold aB rowB
      rw [e41', end_one, cut_end, show "1, " ++ X = Str.join comS ["1", X] from by
        show _ = ("1" : Str) ++ comS ++ X
        rw [show ("1" : Str) ++ comS = "1, " by decide +kernel], show cutsS (Str.join comS ["1", X]) comS = (["1", X] : List Str) from split_join com_signs (by decide +kernel) (by simp) fun w hw => by
          rcases List.mem_cons.mp hw with rfl | hw
          · decide +kernel
          · rw [List.mem_singleton.mp hw]
            exact h.2.2.2.1]
      rw [show ((["1", X] : List Str).all trmB) = false by rw [List.all_cons, List.all_cons, h.2.2.1, Bool.false_and, Bool.and_false], Bool.false_and, Bool.or_false, decide_eq_false fun z => ?_]
      · rfl
      · have := congrArg Str.length z
        rw [show Str.join comS ["1", X] = ("1" : Str) ++ comS ++ X from rfl, Str.length_append, Str.length_append, com_len] at this
        have e0 : ("" : Str).length = 0 := by decide +kernel
        omega
    have er : restB ("1, " ++ X ++ ")") = false := by
      unfold restB
      have e : "1, " ++ X ++ ")" = "1, " ++ X ++ ")" ++ "" := str_ext (by rw [str_app ("1, " ++ X ++ ")")]; exact (List.append_nil _).symm)
      rw [e, part_at (c := 41) (t := []) (by decide +kernel) fun q => ?_]
      · show (decide ((("" : Str).cps.toList).take 4 = [32, 105, 102, 32]) && bodyB (cutS "" (some 4) none)) = false
        decide +kernel
      · rw [str_app] at q
        rcases List.mem_append.mp q with q | q
        · exact absurd q (by decide +kernel)
        · exact no q
    rw [ea, er]
    rfl
  rcases h.2.2.2.2 with q | q
  · exact gen fun z => (q _ z).2.2.1 rfl
  · simp only [List.mem_cons, List.not_mem_nil, or_false] at q
    rcases q with rfl | rfl | rfl | rfl <;> decide +kernel
theorem nt_first {X : Str} (h : NoTm X) : aB (X ++ ", 1" ++ ")") = false := by
  unfold aB rowB
  rw [e41', end_one, cut_end, show X ++ ", 1" = Str.join comS [X, "1"] from by
    show _ = X ++ comS ++ ("1" : Str)
    rw [str_assoc3, show comS ++ ("1" : Str) = ", 1" by decide +kernel], show cutsS (Str.join comS [X, "1"]) comS = ([X, "1"] : List Str) from split_join com_signs (by decide +kernel) (by simp) fun w hw => by
      rcases List.mem_cons.mp hw with rfl | hw
      · exact h.2.2.2.1
      · rw [List.mem_singleton.mp hw]
        decide +kernel]
  rw [show (([X, "1"] : List Str).all trmB) = false by rw [List.all_cons, h.2.2.1, Bool.false_and], Bool.false_and, Bool.or_false, decide_eq_false fun z => ?_]
  · rfl
  · have := congrArg Str.length z
    rw [show Str.join comS [X, "1"] = X ++ comS ++ ("1" : Str) from rfl, Str.length_append, Str.length_append, com_len] at this
    have e0 : ("" : Str).length = 0 := by decide +kernel
    omega
theorem nt_choice {X : Str} (h : NoTm X) : (aB (") if 1 != " ++ X) || restB (") if 1 != " ++ X)) = false := by
  have es : (") if 1 != " : Str).cps.toList = 41 :: [32, 105, 102, 32, 49, 32, 33, 61, 32] := by decide +kernel
  rcases h.2.2.2.2 with q | q
  · have ea : aB (") if 1 != " ++ X) = false := by
      unfold aB
      rw [show endB (") if 1 != " ++ X) ")" = false from Bool.eq_false_iff.mpr fun z => ?_, Bool.false_and]
      rw [e41'] at z
      obtain ⟨a, e⟩ := end_is z
      have e := congrArg (fun s : Str => s.cps.toList) e
      simp only [str_app, es] at e
      cases ha : a.cps.toList with
      | nil => rw [ha] at e; injection e with _ e; cases e
      | cons x a' =>
        rw [ha] at e
        injection e with _ e
        have : 41 ∈ [32, 105, 102, 32, 49, 32, 33, 61, 32] ++ X.cps.toList := by
          rw [show [32, 105, 102, 32, 49, 32, 33, 61, 32] ++ X.cps.toList = a' ++ [41] from e]
          exact List.mem_append.mpr (.inr (List.mem_singleton.mpr rfl))
        rcases List.mem_append.mp this with t | t
        · exact absurd t (by decide)
        · exact (q _ t).2.2.1 rfl
    have er : restB (") if 1 != " ++ X) = false := by
      unfold restB
      have e : ") if 1 != " ++ X = "" ++ ")" ++ (" if 1 != " ++ X) := str_ext (by simp only [str_app]; rw [es]; rfl)
      rw [e, part_at (c := 41) (t := []) (by decide +kernel) (by decide +kernel)]
      show (_ && bodyB (cutS (" if 1 != " ++ X) (some 4) none)) = false
      have ec : cutS (" if 1 != " ++ X) (some 4) none = Str.join blS ["1", "!=", X] := str_ext (by
        rw [show (some (4 : Int)) = some ((4 : Nat) : Int) from rfl, cut_r, str_app]
        show _ = (("1" : Str) ++ blS ++ (("!=" : Str) ++ blS ++ X)).cps.toList
        simp only [str_app]
        rfl)
      rw [ec]
      have sig : ∀ c ∈ (Str.join blS ["1", "!=", X]).cps.toList, c ≠ 59 ∧ c ≠ 40 := fun c hc => by
        rcases join_mem hc with t | ⟨w, hw, t⟩
        · exact (show ∀ c ∈ blS.cps.toList, c ≠ 59 ∧ c ≠ 40 by decide +kernel) c t
        · simp only [List.mem_cons, List.not_mem_nil, or_false] at hw
          rcases hw with rfl | rfl | rfl
          · exact (show ∀ c ∈ ("1" : Str).cps.toList, c ≠ 59 ∧ c ≠ 40 by decide +kernel) c t
          · exact (show ∀ c ∈ ("!=" : Str).cps.toList, c ≠ 59 ∧ c ≠ 40 by decide +kernel) c t
          · exact ⟨(q c t).2.2.2, (q c t).2.1⟩
      have e1 : cutsS (Str.join blS ["1", "!=", X]) semS = [Str.join blS ["1", "!=", X]] := split_join (ws := [Str.join blS ["1", "!=", X]]) sem_signs (by decide +kernel) (by simp) fun w hw => by
        rw [List.mem_singleton.mp hw]
        exact fun t => (sig _ t).1 rfl
      have e2 : cutsS (Str.join blS ["1", "!=", X]) blS = (["1", "!=", X] : List Str) := split_join bl_signs (by decide +kernel) (by simp) fun w hw => by
        simp only [List.mem_cons, List.not_mem_nil, or_false] at hw
        rcases hw with rfl | rfl | rfl
        · decide +kernel
        · decide +kernel
        · exact fun t => (q _ t).1 rfl
      have e3 : has40 (Str.join blS ["1", "!=", X]) = false := decide_eq_false fun t => (sig _ t).2 rfl
      have e4 : chB (Str.join blS ["1", "!=", X]) = false := by
        unfold chB
        rw [e2]
        show (_ && _ && trmB X) = false
        rw [h.2.2.1, Bool.and_false]
      unfold bodyB
      rw [e1, List.dropWhile_cons, if_neg (by rw [e3]; decide), List.all_cons, e4, Bool.false_and, Bool.and_false, Bool.and_false]
    rw [ea, er]
    rfl
  · simp only [List.mem_cons, List.not_mem_nil, or_false] at q
    rcases q with rfl | rfl | rfl | rfl <;> decide +kernel
def nol0 (w : Str) : List Str := [w ++ "(1, 2, 3, 4, 5)", "", w, "()", w ++ "()()", "A()", w ++ "[]", w ++ "(,)", w ++ "(1,)", w ++ "(1,2)", w ++ "()x", "7()", w ++ ".()", w ++ "(1))", "abcdefghijklm()"]
def nol1 (w : Str) : List Str := [w ++ "()", ": " ++ w ++ "()", "A: " ++ w ++ "()", "a: " ++ w ++ "(X)", "a: b: " ++ w ++ "()"]
def nol2 (w : Str) : List Str := [w ++ "()" ++ " if ", w ++ "()" ++ " if", w ++ "()" ++ " if b(); ", w ++ "()" ++ " if 1 = 1; b()", w ++ "()" ++ " IF b()", w ++ "()" ++ " if b(), c()", w ++ "()" ++ " if 1 == 1", w ++ "()" ++ " if 1 > 2", w ++ "()" ++ " if 1 <= 2", " if b()", w ++ "()" ++ " if b() if c()", w ++ "()" ++ " if ; b()", w ++ "()" ++ " if 1 = ", w ++ "()" ++ " if  = 1", w ++ "()" ++ " if 1 ! 2", w ++ "()" ++ " if b(1, 2, 3, 4, 5)", w ++ "()" ++ " if b(X); X = Y = X", w ++ "()" ++ " if (1)"]
theorem w_eq {w : Str} {s r : Str} (e : s = "(" ++ r) : w ++ s = w ++ "(" ++ r := by rw [e, str_assoc3]
theorem noA_s {w s : Str} (r : Str) (e : s = "(" ++ r) (hw : txtB small w = true) (h : (aB r || restB r) = false) : NoA (w ++ s) := by
  rw [w_eq e]
  exact noA_w r hw h
theorem nol0_all {w : Str} (hw : txtB small w = true) : ∀ x ∈ nol0 w, NoA x := by
  intro x hx
  unfold nol0 at hx
  simp only [List.mem_cons, List.not_mem_nil, or_false] at hx
  rcases hx with rfl | rfl | rfl | rfl | rfl | rfl | rfl | rfl | rfl | rfl | rfl | rfl | rfl | rfl | rfl
  · exact noA_s "1, 2, 3, 4, 5)" (by decide +kernel) hw (by decide +kernel)
  · exact noA_c (by decide +kernel)
  · exact noA_40 (word_40 hw)
  · exact noA_c (by decide +kernel)
  · exact noA_s ")()" (by decide +kernel) hw (by decide +kernel)
  · exact noA_c (by decide +kernel)
  · exact noA_sg (c := 91) (by rw [str_app]; exact List.mem_append.mpr (.inr (by decide +kernel))) (by decide +kernel)
  · exact noA_s ",)" (by decide +kernel) hw (by decide +kernel)
  · exact noA_s "1,)" (by decide +kernel) hw (by decide +kernel)
  · exact noA_s "1,2)" (by decide +kernel) hw (by decide +kernel)
  · exact noA_s ")x" (by decide +kernel) hw (by decide +kernel)
  · exact noA_c (by decide +kernel)
  · exact noA_sg (c := 46) (by rw [str_app]; exact List.mem_append.mpr (.inr (by decide +kernel))) (by decide +kernel)
  · exact noA_s "1))" (by decide +kernel) hw (by decide +kernel)
  · exact noA_c (by decide +kernel)
theorem nol2_all {w : Str} (hw : txtB small w = true) : ∀ x ∈ nol2 w, NoA x := by
  have key : ∀ (s r : Str), "()" ++ s = "(" ++ r → (aB r || restB r) = false → NoA (w ++ "()" ++ s) := fun s r e h => by
    rw [str_assoc3]
    exact noA_s r e hw h
  intro x hx
  unfold nol2 at hx
  simp only [List.mem_cons, List.not_mem_nil, or_false] at hx
  rcases hx with rfl | rfl | rfl | rfl | rfl | rfl | rfl | rfl | rfl | rfl | rfl | rfl | rfl | rfl | rfl | rfl | rfl | rfl
  · exact key _ ") if " (by decide +kernel) (by decide +kernel)
  · exact key _ ") if" (by decide +kernel) (by decide +kernel)
  · exact key _ ") if b(); " (by decide +kernel) (by decide +kernel)
  · exact key _ ") if 1 = 1; b()" (by decide +kernel) (by decide +kernel)
  · exact key _ ") IF b()" (by decide +kernel) (by decide +kernel)
  · exact key _ ") if b(), c()" (by decide +kernel) (by decide +kernel)
  · exact key _ ") if 1 == 1" (by decide +kernel) (by decide +kernel)
  · exact key _ ") if 1 > 2" (by decide +kernel) (by decide +kernel)
  · exact key _ ") if 1 <= 2" (by decide +kernel) (by decide +kernel)
  · exact noA_c (by decide +kernel)
  · exact key _ ") if b() if c()" (by decide +kernel) (by decide +kernel)
  · exact key _ ") if ; b()" (by decide +kernel) (by decide +kernel)
  · exact key _ ") if 1 = " (by decide +kernel) (by decide +kernel)
  · exact key _ ") if  = 1" (by decide +kernel) (by decide +kernel)
  · exact key _ ") if 1 ! 2" (by decide +kernel) (by decide +kernel)
  · exact key _ ") if b(1, 2, 3, 4, 5)" (by decide +kernel) (by decide +kernel)
  · exact key _ ") if b(X); X = Y = X" (by decide +kernel) (by decide +kernel)
  · exact key _ ") if (1)" (by decide +kernel) (by decide +kernel)
theorem nol1_all {w : Str} (hw : txtB small w = true) : ∀ x ∈ nol1 w, ∀ n A, ¬ FactT x n A := by
  have w58 : 58 ∉ w.cps.toList := fun q => (pl_40 _ (txt_plain small_pl hw _ q)).2.2.1 rfl
  intro x hx n A g
  unfold nol1 at hx
  simp only [List.mem_cons, List.not_mem_nil, or_false] at hx
  rcases hx with rfl | rfl | rfl | rfl | rfl
  · have := fact_58 g
    rw [str_app] at this
    rcases List.mem_append.mp this with q | q
    · exact w58 q
    · exact absurd q (by decide +kernel)
  · have e : ": " ++ w ++ "()" = "" ++ ": " ++ (w ++ "()") := str_ext (by simp only [str_app, List.append_assoc]; rfl)
    rw [e] at g
    have := (fact_a (by decide +kernel) g).1
    have h1 := g.1.1
    rw [this] at h1
    exact absurd h1 (by decide +kernel)
  · have e : "A: " ++ w ++ "()" = "A" ++ ": " ++ (w ++ "()") := by rw [show ("A" : Str) ++ ": " = "A: " by decide +kernel, str_assoc3]
    rw [e] at g
    have := (fact_a (by decide +kernel) g).1
    have h1 := g.1.1
    rw [this] at h1
    exact absurd h1 (by decide +kernel)
  · have e : "a: " ++ w ++ "(X)" = "a" ++ ": " ++ (w ++ "(" ++ "X)") := by rw [show ("a" : Str) ++ ": " = "a: " by decide +kernel, str_assoc3, str_assoc3, show ("(" : Str) ++ "X)" = "(X)" by decide +kernel]
    rw [e] at g
    obtain ⟨_, h1, h2⟩ := fact_a (by decide +kernel) g
    have e1 := part_w (r := "X)") hw
    rw [h1.2, atom_row, part_atom h1.1.1.1] at e1
    injection e1 with _ e1
    injection e1 with _ e1
    injection e1 with e1 _
    have e2 : Str.join comS (A.2.map shownK) = "X" := by
      rw [show ("X)" : Str) = "X" ++ ")" by decide +kernel, e41'] at e1
      have := congrArg (fun x => cutS x none (some (-1))) e1
      simp only [cut_end] at this
      exact this
    have ne : A.2 ≠ [] := fun z => by
      rw [z] at e2
      exact absurd e2 (by decide +kernel)
    have e3 := split_row h1.1.2.2 ne
    rw [e2, show cutsS "X" comS = [("X" : Str)] by decide +kernel] at e3
    match hA : A.2, ne with
    | k :: r, _ =>
      rw [hA] at e3
      injection e3 with e3 _
      have hk := h1.1.2.2 k (by rw [hA]; exact List.mem_cons_self)
      have hv := h2 k (by rw [hA]; exact List.mem_cons_self)
      cases k with
      | inl i =>
        have := num_is hk
        rw [← e3] at this
        exact absurd this (by decide +kernel)
      | inr z =>
        have e4 : z = "X" := e3.symm
        rw [e4] at hv
        exact absurd hv (by decide +kernel)
  · have e : "a: b: " ++ w ++ "()" = "a" ++ ": " ++ ("b: " ++ w ++ "()") := by
      rw [show ("a: b: " : Str) = "a" ++ ": " ++ "b: " by decide +kernel]
      simp only [str_assoc3]
    rw [e] at g
    obtain ⟨_, h1, _⟩ := fact_a (by decide +kernel) g
    have h58 : 58 ∈ (atomS A).cps.toList := by
      rw [← h1.2, str_app, str_app]
      exact List.mem_append.mpr (.inl (List.mem_append.mpr (.inl (by decide +kernel))))
    rw [atom_row, str_app] at h58
    rcases List.mem_append.mp h58 with q | q
    · exact (pl_40 _ (txt_plain small_pl h1.1.1.1 _ q)).2.2.1 rfl
    · unfold rowS at q
      rw [str_app, str_app] at q
      rcases List.mem_append.mp q with q | q
      · rcases List.mem_append.mp q with q | q
        · exact absurd q (by decide +kernel)
        · rcases join_mem q with q | ⟨y, hy, q⟩
          · exact absurd q (by decide +kernel)
          · obtain ⟨k, hk, rfl⟩ := List.mem_map.mp hy
            exact (pl_40 _ (shown_plain (h1.1.2.2 k hk) _ q)).2.2.1 rfl
      · exact absurd q (by decide +kernel)
end Wy
namespace Wy
open PySem L2
def factD (n t : Str) (ks : List Key) : PyData := .tuple [.str n, .str t, .tuple (ks.map keyD)]
inductive Rds : Int → Str → PyData → Prop where
  | atom {A : Atm} : AOk A → Rds 0 (atomS A) (atomD A)
  | fact {n t : Str} {ks : List Key} : WOk n → WOk t → ks.length ≤ 4 → (∀ k ∈ ks, TmOk k) → (∀ k ∈ ks, varK k = false) → Rds 1 (factS n t ks) (factD n t ks)
  | rule {h : Atm} {As : List Atm} {Cs : List Chc} : GoodR h As Cs → ruleB (ruleD h As Cs) = true → Rds 2 (ruleS h As Cs) (ruleD h As Cs)
theorem Rds.ev {kd : Int} {z : Str} {d : PyData} (h : Rds kd z d) : Ev z := by
  cases h with
  | atom a => exact ev_atom a
  | @fact n t ks a b c d e => exact ev_fact (n := n) (A := (t, ks)) ⟨a, ⟨b, c, d⟩, e, rfl⟩
  | @rule h As Cs g _ => exact ev_rule (h := h) (As := As) (Cs := Cs) ⟨g.1, g.2.1, g.2.2.1, rfl⟩
theorem pl_fact (n t : Str) (ks : List Key) (h : ks.length ≤ 4) : PlD 5 (factD n t ks) := by
  refine ⟨by show 3 ≤ 10; decide, fun d hd => ?_⟩
  rcases List.mem_cons.mp hd with rfl | hd
  · exact trivial
  · rcases List.mem_cons.mp hd with rfl | hd
    · exact trivial
    · rw [List.mem_singleton.mp hd]
      refine ⟨by rw [List.length_map]; omega, fun e he => ?_⟩
      obtain ⟨k, _, rfl⟩ := List.mem_map.mp he
      exact pl_key 2 k
theorem Rds.pl {kd : Int} {z : Str} {d : PyData} (h : Rds kd z d) : PlD 5 d := by
  cases h with
  | atom a => exact pl_atom 2 a
  | fact a b c d e => exact pl_fact _ _ _ c
  | rule g _ => exact pl_rule g
theorem has_40 {kd : Int} {z : Str} {d : PyData} (h : Rds kd z d) : 40 ∈ z.cps.toList := by
  cases h with
  | atom a => exact atom_40 _
  | @fact n t ks a b c d e =>
    unfold factS
    rw [str_app]
    exact List.mem_append.mpr (.inr (atom_40 (t, ks)))
  | @rule h As Cs g _ => exact rule_40 (h := h) (As := As) (Cs := Cs) ⟨g.1, g.2.1, g.2.2.1, rfl⟩
section
variable {P : Program} {w : World} {K : PySem.W.Frag} {mg : Str → Option Value} {base : Heap}
def sp_lrd (K : PySem.W.Frag) : Sp := fun vs H Q _ => ∃ kd z d, vs = [.int kd, .str z] ∧ Rds kd z d ∧ ∀ y H', Same H H' → Dat K H' d y → Q y H'
theorem ok__law_read (T : Txt K mg) : Def P w K mg base 10 "_law_read" ["_law_kind", "_law_line_here"] (sp_lrd K) := by
  refine T.t__law_read.ok sc__law_read (fun vs H Q E h => ?_) fun f cdv A outer s H vs Q E hr h => ?_
  · obtain ⟨kd, z, d, rfl, _⟩ := h
    rfl
  · obtain ⟨kd, z, d, rfl, h, k⟩ := h
    refine ⟨_, (pss_3
      (ps_if (pt_cmpR op_eq (pv 0) pe_int (nomark _)) (pss_one (ps_ret (pe_def (ok_read_atom T) hr rfl (pa_1 (pv 1))))) pss_nil)
      (ps_if (pt_cmpR op_eq (pv 0) pe_int (nomark _)) (pss_one (ps_ret (pe_def (ok_read_fact T) hr rfl (pa_1 (pv 1))))) pss_nil)
      (ps_ret (pe_def (ok_read_rule T) hr rfl (pa_1 (pv 1))))), ?_⟩
    cases h with
    | @atom A a =>
      refine ⟨_, rfl, rfl, _, rfl, iteTb (decide_eq_true rfl) ?_⟩
      exact ⟨_, rfl, A.1, A.2, rfl, a.1.2, a.1.1, a.2.1, a.2.2, fun q p H' s' hq hp => k _ H' s' (dat_atom a ⟨q, p, rfl, hq, hp⟩)⟩
    | @fact n t ks a b c d e =>
      refine ⟨_, rfl, rfl, _, rfl, iteFb (decide_eq_false (by simp)) ?_⟩
      refine ⟨_, rfl, rfl, _, rfl, iteTb (decide_eq_true rfl) ?_⟩
      exact ⟨_, rfl, n, t, ks, rfl, a.2, a.1, b.2, b.1, c, d, e, fun q p H' s' hq hp => k _ H' s' (.tup (SqT.of hq) (.cons (.str _ a.2) (.cons (.str _ b.2) (.cons (.tup (SqT.of hp) (dats_tm d)) .nil))))⟩
    | @rule h As Cs g safe =>
      refine ⟨_, rfl, rfl, _, rfl, iteFb (decide_eq_false (by simp)) ?_⟩
      refine ⟨_, rfl, rfl, _, rfl, iteFb (decide_eq_false (by simp)) ?_⟩
      exact ⟨_, rfl, h, As, Cs, rfl, g, safe, fun q H' s' rl => k _ H' s' (dat_rule g rl)⟩
def SpK (K : PySem.W.Frag) (H : Hp) (kd : Int) (x : V) : Prop := NoS K H x ∨ ∃ z, x = .str z ∧ BadK kd z
theorem SpK.same {H H' : Hp} {kd : Int} {x : V} (h : SpK K H kd x) (s : Same H H') : SpK K H' kd x := h.imp (fun ⟨n, ty, q⟩ => ⟨n, TyOf.same s ty, q⟩) id
def sp_lrX (K : PySem.W.Frag) (mg : Str → Option Value) : Sp := fun vs H Q E => ∃ kd x, vs = [.int kd, x] ∧ SpK K H kd x ∧ ∀ H', Same H H' → E (nT mg) none H'
theorem okX__law_read (T : Txt K mg) : DefE P w K mg base 10 "_law_read" ["_law_kind", "_law_line_here"] (sp_lrX K mg) := by
  refine T.t__law_read.okE sc__law_read (fun vs H Q E h => ?_) fun f cdv A outer s H vs Q E hr h => ?_
  · obtain ⟨kd, x, rfl, _⟩ := h
    rfl
  · obtain ⟨kd, x, rfl, h, k⟩ := h
    refine ⟨_, (pss_3
      (ps_if (pt_cmpR op_eq (pv 0) pe_int (nomark _)) (pss_one (ps_ret (pe_defE (okX_read_atom T) (leav_pass leav_cx) hr rfl (pa_1 (pv 1))))) pss_nil)
      (ps_if (pt_cmpR op_eq (pv 0) pe_int (nomark _)) (pss_one (ps_ret (pe_defE (okX_read_fact T) (leav_pass leav_cx) hr rfl (pa_1 (pv 1))))) pss_nil)
      (ps_ret (pe_defE (okX_read_rule T) (leav_pass leav_cx) hr rfl (pa_1 (pv 1))))), ?_⟩
    refine ⟨_, rfl, rfl, _, rfl, ite2 (fun h0 => ?_) (fun h0 => ?_)⟩
    · have e0 : kd = 0 := of_int h0
      subst e0
      refine ⟨_, rfl, _, rfl, ?_⟩
      rcases h with h | ⟨z, rfl, low, hl, no⟩
      · exact .inl ⟨h, k⟩
      · exact .inr ⟨z, rfl, low, hl, fun A hA => absurd ⟨A, hA⟩ no, fun _ => k⟩
    · have n0 : kd ≠ 0 := vin h0
      refine ⟨_, rfl, rfl, _, rfl, ite2 (fun h1 => ?_) (fun h1 => ?_)⟩
      · have e1 : kd = 1 := of_int h1
        subst e1
        exact ⟨_, rfl, _, rfl, h.imp id fun ⟨z, e, low, hl, no⟩ => ⟨z, e, low, hl, fun n A hA => no ⟨n, A, hA⟩⟩, k⟩
      · have n1 : kd ≠ 1 := vin h1
        refine ⟨_, rfl, _, rfl, h.imp id fun ⟨z, e, low, hl, no⟩ => ⟨z, e, low, hl, fun h As Cs g => no ?_⟩, k⟩
        unfold Rdb
        rw [if_neg n0, if_neg n1]
        exact ⟨h, As, Cs, g⟩
def sp_refd (K : PySem.W.Frag) : Sp := fun vs H Q _ => ∃ kd x, vs = [.int kd, x] ∧ SpK K H kd x ∧ ∀ H', Same H H' → Q (.bl true) H'
theorem ok__law_refused (T : Txt K mg) : Def P w K mg base 11 "_law_refused" ["_law_kind", "_law_line_here"] (sp_refd K) := by
  refine T.t__law_refused.ok sc__law_refused (fun vs H Q E h => ?_) fun f cdv A outer s H vs Q E hr h => ?_
  · obtain ⟨kd, x, rfl, _⟩ := h
    rfl
  · obtain ⟨kd, x, rfl, hb, k⟩ := h
    refine ⟨_, (pss_2
      (ps_try T.g_NoText (fun _ _ _ hp => (pss_one (ps_expr (pe_defE (okX__law_read T) hp hr rfl (pa_2 (pv 0) (pv 1)))))) (fun ea oe => (pss_one (ps_ret pe_bl))))
      (ps_ret pe_bl)), ?_⟩
    refine ⟨_, rfl, _, rfl, _, _, rfl, hb, ?_⟩
    intro H' s'
    refine ⟨T.x_NoText.caught T.x_NoText T.p_NoText_NoText, fun ea oe σ' hc hn hl => ?_⟩
    exact k H' s'
theorem ok__law_refused_by_any (T : Txt K mg) : Def P w K mg base 11 "_law_refused_by_any" ["_law_kind", "_law_line_here"] (sp_refd K) := by
  refine T.t__law_refused_by_any.ok sc__law_refused_by_any (fun vs H Q E h => ?_) fun f cdv A outer s H vs Q E hr h => ?_
  · obtain ⟨kd, x, rfl, _⟩ := h
    rfl
  · obtain ⟨kd, x, rfl, hb, k⟩ := h
    refine ⟨_, (pss_2
      (ps_tryAs (i := 2) T.g_WhyError (fun _ _ _ hp => (pss_one (ps_expr (pe_defE (okX__law_read T) hp hr rfl (pa_2 (pv 0) (pv 1)))))) (fun ea oe => (pss_2
      (ps_if (pt_val (pe_callB (call_isiET K) rfl T.b_isinstance bt_isinstance (pa_2 (pv 2) (pe_tup (pa_6 (pe_globR rfl T.g_NoFact) (pe_globR rfl T.g_NoName) (pe_globR rfl T.g_NoRounds) (pe_globR rfl T.g_NoRule) (pe_globR rfl T.g_NoWorth) (pe_globR rfl T.g_TooMuch)))))) (pss_one (ps_ret pe_bl)) pss_nil)
      (ps_ret (pe_callB (call_isiE K) rfl T.b_isinstance bt_isinstance (pa_2 (pv 2) (pe_ty rfl T.b_ValueError bt_ValueError)))))) rfl rfl sc__law_refused_by_any.nd)
      (ps_ret pe_bl)), ?_⟩
    refine ⟨_, rfl, _, rfl, _, _, rfl, hb, ?_⟩
    intro H' s'
    refine ⟨T.x_NoText.caught T.x_WhyError T.p_NoText_WhyError, fun ea oe σ' hc hn hl => ?_⟩
    have hl2 : σ'.length = 3 := hl
    obtain ⟨a, b, c, rfl⟩ : ∃ a b c, σ' = [a, b, c] := by
      match σ', hl2 with
      | [a, b, c], _ => exact ⟨a, b, c, rfl⟩
    refine ⟨_, rfl, by show 6 ≤ sizeLine; decide, fun t ht => ⟨cA mg "NoText", t, [cA mg "NoFact", cA mg "NoName", cA mg "NoRounds", cA mg "NoRule", cA mg "NoWorth", cA mg "TooMuch"], false, rfl, upd_same, hc, T.x_NoText.isi, T.x_NoText.any _ fun D hD => ?_, _, rfl, iteFb rfl ?_⟩⟩
    · simp only [List.mem_cons, List.not_mem_nil, or_false] at hD
      rcases hD with rfl | rfl | rfl | rfl | rfl | rfl
      · exact ⟨T.x_NoFact, T.p_NoText_NoFact⟩
      · exact ⟨T.x_NoName, T.p_NoText_NoName⟩
      · exact ⟨T.x_NoRounds, T.p_NoText_NoRounds⟩
      · exact ⟨T.x_NoRule, T.p_NoText_NoRule⟩
      · exact ⟨T.x_NoWorth, T.p_NoText_NoWorth⟩
      · exact ⟨T.x_TooMuch, T.p_NoText_TooMuch⟩
    · exact ⟨_, rfl, cA mg "NoText", 0, _, true, rfl, hc, T.x_NoText.isi, .inr ⟨_, rfl, T.x_NoText.veI⟩, k _ (s'.trans (same_upd ht))⟩
end
end Wy
namespace Wy
open PySem L2
section
variable {P : Program} {w : World} {K : PySem.W.Frag} {mg : Str → Option Value} {base : Heap}
theorem nat1900 {i : Int} (h : i.natAbs < 10 ^ 61) : i.natAbs < 2 ^ 1900 := Nat.lt_trans h (by decide +kernel)
def sp_lnt : Sp := fun vs H Q _ => ∃ (c : Int) (z : Str), vs = [.int c, .str z] ∧ txtB small z = true ∧ ∀ X H', Same H H' → NoTm X → Q (.str X) H'
def nA : List Str := ["00", "-0", "-", "+7", "--7", "- 7", "7-", "7a", "", " ", "()", "a_b"]
def nB (z : Str) : List Str := nA ++ [z ++ "A", "abcdefghijklm", "Abcdefghijklm"]
def nC (z : Str) (c : Int) : List Str := nB z ++ ["0" ++ shownK (.inl (c % 10 ^ 59)), "-0" ++ shownK (.inl (1 + c % 10 ^ 58)), shownK (.inl (10 ^ 60 + c % 10 ^ 59))]
theorem ok__law_no_term (T : Txt K mg) : Def P w K mg base 1 "_law_no_term" ["_law_cell", "_law_word_here"] sp_lnt := by
  refine T.t__law_no_term.ok sc__law_no_term (fun vs H Q E h => ?_) fun f cdv A outer s H vs Q E hr h => ?_
  · obtain ⟨c, z, rfl, _⟩ := h
    rfl
  · obtain ⟨c, z, rfl, hz, k⟩ := h
    have lz := (txtB_le hz).2
    have a0 := Int.emod_nonneg c (show (10 ^ 59 : Int) ≠ 0 by decide)
    have a1 := Int.emod_lt_of_pos c (show (0 : Int) < 10 ^ 59 by decide)
    have b0 := Int.emod_nonneg c (show (10 ^ 58 : Int) ≠ 0 by decide)
    have b1 := Int.emod_lt_of_pos c (show (0 : Int) < 10 ^ 58 by decide)
    have p3 : (10 ^ 61 : Int) = 10 * 10 ^ 60 := by decide
    have p4 : (10 ^ 60 : Int) = 10 * 10 ^ 59 := by decide
    have p5 : (10 ^ 59 : Int) = 10 * 10 ^ 58 := by decide
    have sz : ∀ (x y : Str), x.length ≤ 100 → y.length ≤ 100 → x.length + y.length ≤ sizeLine := fun x y h1 h2 => Nat.le_trans (show _ ≤ 200 by omega) (by decide)
    have all := nots_all (c := c) hz
    obtain ⟨es, p1, p2, p3, e, htx, hsw⟩ : ∃ (es : List Expr) (p1 p2 p3 : Pos), defBody s__law_no_term = .Assign [.Name "_law_some" p1] (.List es p2) p3 :: (defBody s__law_no_term).drop 1 ∧ es.map txE = nA.map some ∧ swapsWith (.List es p2) (some (.Name "_law_some" p1)) p3.line (cxOf CX0 P w K mg base (["_law_cell", "_law_word_here", "_law_some"] : List Str) "_law_no_term" (defScope s__law_no_term) f cdv A outer s H E).nox.env = pure false := ⟨_, _, _, _, rfl, rfl, rfl⟩
    rw [e]
    refine join_at 1 (fun σ H' => ∃ q1, σ = [some (.int c), some (.str z), some (.ref q1)] ∧ Same H H' ∧ H' q1 = some (.lst (nA.map V.str))) ⟨_, (pss_4
      (ps_set (i := 2) sc__law_no_term.nd rfl (Or.inl rfl) (@pe_op _ _ _ _ _ _ _ _ op_cat (pv 2) (@pe_lst _ _ _ _ (@pa_3 _ _ _ _ _ _ _ (@pe_op _ _ _ _ _ _ _ _ op_add_str (pv 1) pe_str) pe_str pe_str rfl rfl rfl))))
      (ps_set (i := 2) sc__law_no_term.nd rfl (Or.inl rfl) (@pe_op _ _ _ _ _ _ _ _ op_cat (pv 2) (@pe_lst _ _ _ _ (@pa_3 _ _ _ _ _ _ _ (@pe_op _ _ _ _ _ _ _ _ op_add_str pe_str (pe_callTy call_strK rfl T.b_str bt_str (@pa_1 _ _ _ (@pe_op _ _ _ _ _ _ _ _ op_mod (pv 0) (@pe_op _ _ _ _ _ _ _ _ op_pow pe_int pe_int)) rfl))) (@pe_op _ _ _ _ _ _ _ _ op_add_str pe_str (pe_callTy call_strK rfl T.b_str bt_str (@pa_1 _ _ _ (@pe_op _ _ _ _ _ _ _ _ op_add pe_int (@pe_op _ _ _ _ _ _ _ _ op_mod (pv 0) (@pe_op _ _ _ _ _ _ _ _ op_pow pe_int pe_int))) rfl))) (pe_callTy call_strK rfl T.b_str bt_str (@pa_1 _ _ _ (@pe_op _ _ _ _ _ _ _ _ op_add (@pe_op _ _ _ _ _ _ _ _ op_pow pe_int pe_int) (@pe_op _ _ _ _ _ _ _ _ op_mod (pv 0) (@pe_op _ _ _ _ _ _ _ _ op_pow pe_int pe_int))) rfl)) rfl rfl rfl))))
      (ps_set (i := 2) sc__law_no_term.nd rfl (Or.inl rfl) (@pe_op _ _ _ _ _ _ _ _ op_cat (pv 2) (@pe_lst _ _ _ _ (@pa_3 _ _ _ _ _ _ _ (pe_callTy call_strK rfl T.b_str bt_str (@pa_1 _ _ _ (@pe_op _ _ _ _ _ _ _ _ op_sub (@pe_op _ _ _ _ _ _ _ _ op_sub pe_int (@pe_op _ _ _ _ _ _ _ _ op_pow pe_int pe_int)) (@pe_op _ _ _ _ _ _ _ _ op_mod (pv 0) (@pe_op _ _ _ _ _ _ _ _ op_pow pe_int pe_int))) rfl)) pe_str pe_str rfl rfl rfl))))
      (@ps_ret _ _ _ _ (@pe_ix _ _ _ _ _ _ _ (ix_listK K) (pv 2) (@pe_op _ _ _ _ _ _ _ _ op_mod (pv 0) pe_int) (fun _ _ => rfl)))), ?_⟩ (fun u hu hC => ⟨_, (psr_1 (ps_set (i := 2) sc__law_no_term.nd rfl (Or.inl rfl) (pe_txs nA htx) hsw) hu), ?_⟩)
    · rintro σ H1 ⟨q1, rfl, u1, e1⟩
      refine ⟨_, rfl, _, rfl, _, _, rfl, rfl, sz _ _ (by omega) (by decide +kernel), by show 3 ≤ sizeLine; decide, fun q2 h2 => ?_⟩
      have u2 := same_upd (o := HO.lst (([z ++ "A", "abcdefghijklm", "Abcdefghijklm"] : List Str).map V.str)) h2
      refine ⟨q1, q2, _, _, rfl, rfl, u2 _ _ e1, upd_same, by show 15 ≤ sizeLine; decide, fun q3 h3 => ?_⟩
      have u3 := same_upd (o := HO.lst ((nB z).map V.str)) h3
      have la := nums_le (c % 10 ^ 59) (by omega)
      have lb := nums_le (1 + c % 10 ^ 58) (by omega)
      refine ⟨_, rfl, _, rfl, _, _, rfl, rfl, ⟨by decide, by decide, by decide⟩, _, _, rfl, rfl, (by show (0 : Int) < 10 ^ 59; decide), .inl (c % 10 ^ 59), rfl, (fun i e => by injection e with e; rw [← e]; exact nat1900 (by omega)), _, _, rfl, rfl, sz _ _ (by decide +kernel) (by omega), ?_⟩
      refine ⟨_, rfl, _, _, rfl, rfl, ⟨by decide, by decide, by decide⟩, _, _, rfl, rfl, (by show (0 : Int) < 10 ^ 58; decide), _, _, rfl, rfl, .inl (1 + c % 10 ^ 58), rfl, (fun i e => by injection e with e; rw [← e]; exact nat1900 (by omega)), _, _, rfl, rfl, sz _ _ (by decide +kernel) (by omega), ?_⟩
      refine ⟨_, _, rfl, rfl, ⟨by decide, by decide, by decide⟩, _, rfl, _, _, rfl, rfl, ⟨by decide, by decide, by decide⟩, _, _, rfl, rfl, (by show (0 : Int) < 10 ^ 59; decide), _, _, rfl, rfl, .inl (10 ^ 60 + c % 10 ^ 59), rfl, (fun i e => by injection e with e; rw [← e]; exact nat1900 (by omega)), by show 3 ≤ sizeLine; decide, fun q4 h4 => ?_⟩
      have u4 := same_upd (o := HO.lst ((["0" ++ shownK (.inl (c % 10 ^ 59)), "-0" ++ shownK (.inl (1 + c % 10 ^ 58)), shownK (.inl (10 ^ 60 + c % 10 ^ 59))] : List Str).map V.str)) h4
      refine ⟨q3, q4, _, _, rfl, rfl, u4 _ _ (show upd _ q3 (.lst ((nB z).map V.str)) q3 = _ from upd_same), upd_same, by show 18 ≤ sizeLine; decide, fun q5 h5 => ?_⟩
      have u5 := same_upd (o := HO.lst ((nC z c).map V.str)) h5
      refine ⟨_, rfl, _, _, rfl, rfl, ⟨by decide, by decide, by decide⟩, _, _, rfl, rfl, _, rfl, _, _, rfl, rfl, ⟨by decide, by decide, by decide⟩, _, _, rfl, rfl, (by show (0 : Int) < 10 ^ 59; decide), _, _, rfl, rfl, .inl (0 - 10 ^ 60 - c % 10 ^ 59), rfl, (fun i e => by injection e with e; rw [← e]; exact nat1900 (by omega)), by show 3 ≤ sizeLine; decide, fun q6 h6 => ?_⟩
      have u6 := same_upd (o := HO.lst (([shownK (.inl (0 - 10 ^ 60 - c % 10 ^ 59)), "1 2", "aB"] : List Str).map V.str)) h6
      refine ⟨q5, q6, _, _, rfl, rfl, u6 _ _ (show upd _ q5 (.lst ((nC z c).map V.str)) q5 = _ from upd_same), upd_same, by show 21 ≤ sizeLine; decide, fun q7 h7 => ?_⟩
      have u7 := same_upd (o := HO.lst ((nots z c).map V.str)) h7
      obtain ⟨v, hat, hv⟩ := atI_in (xs := (nots z c).map V.str) (i := c % 21) (Int.emod_nonneg _ (by decide)) (Int.emod_lt_of_pos c (show (0 : Int) < 21 by decide))
      obtain ⟨X, hX, rfl⟩ := List.mem_map.mp hv
      refine ⟨_, rfl, _, rfl, _, _, rfl, rfl, (by show (0 : Int) < 21; decide), q7, _, _, V.str X, rfl, rfl, SqL.of (show upd _ q7 (.lst ((nots z c).map V.str)) q7 = _ from upd_same), hat, ?_⟩
      exact k X _ (u1.trans (u2.trans (u3.trans (u4.trans (u5.trans (u6.trans u7)))))) (all X hX)
    · exact ⟨by show 12 ≤ sizeLine; decide, fun q1 h1 => hC _ _ ⟨q1, rfl, same_upd h1, upd_same⟩⟩
end
end Wy
namespace Wy
open PySem L2
section
variable {P : Program} {w : World} {K : PySem.W.Frag} {mg : Str → Option Value} {base : Heap}
def sp_tak : Sp := fun vs H Q _ => ∃ (L S : Str) (c : Int), vs = [.str L, .int c, .str S] ∧ L.length ≤ 15000 ∧ (∃ d ∈ L.cps.toList, d ∈ S.cps.toList) ∧ ∀ (n d : Nat) H', Same H H' → L.cps.toList[n]? = some d → d ∈ S.cps.toList → Q (.str (cutS L none (some (n : Int)) ++ cutS L (some ((n : Int) + 1)) none)) H'
theorem ok__law_taken_out (T : Txt K mg) : Def P w K mg base 1 "_law_taken_out" ["_law_line_here", "_law_cell", "_law_signs"] sp_tak := by
  refine T.t__law_taken_out.ok sc__law_taken_out (fun vs H Q E h => ?_) fun f cdv A outer s H vs Q E hr h => ?_
  · obtain ⟨L, S, c, rfl, _⟩ := h
    rfl
  · obtain ⟨L, S, c, rfl, hl, ⟨d0, hd0, hd0'⟩, k⟩ := h
    have lsz : L.length ≤ sizeLine := Nat.le_trans hl (by decide)
    have ll := str_len L
    refine ⟨_, (pss_3
      (ps_setComp (i := 3) sc__law_taken_out.nd rfl rfl (N := ["_law_k", "_law_signs", "_law_line_here"]) (caps := [none, some 2, some 0]) rfl (by with_unfolding_all rfl) (pi_range1 rfl T.b_range (pa_1 (pe_callB (call_lenK K) rfl T.b_len bt_len (pa_1 (pv 0))))) (fun _ _ _ _ _ => (pg_name (i := 0) (show (["_law_k", "_law_signs", "_law_line_here"] : List Str).Nodup by decide +kernel) rfl (Or.inl rfl))) (fun _ _ _ _ _ => pf_one (pt_cmpR op_in_str (pe_ix ix_str (pv 2) (pv 0) (fun _ _ => rfl)) (pv 1) (by with_unfolding_all rfl))) (fun _ _ _ _ _ => (pv 0)))
      (ps_set (i := 4) sc__law_taken_out.nd rfl (Or.inl rfl) (pe_ix (ix_listK K) (pv 3) (pe_op op_mod (pv 1) (pe_callB (call_lenK K) rfl T.b_len bt_len (pa_1 (pv 3)))) (fun _ _ => rfl)))
      (ps_ret (pe_op op_add_str (pe_slice sl_str (pv 0) po_none (po_some (pv 4))) (pe_slice sl_str (pv 0) (po_some (pe_op op_add (pv 4) pe_int)) po_none)))), ?_⟩
    refine ⟨_, rfl, _, _, rfl, ⟨lsz, rfl⟩, _, rfl, by omega, by omega, fun D hD => ?_⟩
    refine comp_by L.length (fun i σ' H' => (∃ v, σ' = [v, some (.str S), some (.str L)]) ∧ Same H H' ∧ ∃ ps : List Nat, H' D = some (.lst (ps.map fun n : Nat => V.int (n : Int))) ∧ ps.length ≤ i ∧ (∀ n ∈ ps, ∃ d, L.cps.toList[n]? = some d ∧ d ∈ S.cps.toList) ∧ ((∃ n < i, ∃ d, L.cps.toList[n]? = some d ∧ d ∈ S.cps.toList) → ps ≠ [])) ⟨⟨_, rfl⟩, same_upd hD, [], upd_same, Nat.le_refl _, (fun _ z => nomatch z), fun ⟨n, hn, _⟩ => absurd hn (Nat.not_lt_zero _)⟩ (fun i σ' H' hi p => hi) (fun σ' H2 p => ⟨Nat.le_refl _, ?_⟩) (fun j σ' H2' hj p x H2 y => ?_)
    · obtain ⟨_, sm, ps, e, lp, all, ne⟩ := p
      have ne : ps ≠ [] := by
        obtain ⟨n, hn, e⟩ := List.getElem_of_mem hd0
        exact ne ⟨n, by omega, d0, by rw [List.getElem?_eq_getElem hn, e], hd0'⟩
      have l1 : 1 ≤ ps.length := List.length_pos_iff.mpr ne
      obtain ⟨v, hat, hv⟩ := atI_in (xs := ps.map fun n : Nat => V.int (n : Int)) (i := c % (ps.length : Int)) (Int.emod_nonneg _ (by omega)) (by rw [List.length_map]; exact Int.emod_lt_of_pos _ (by omega))
      obtain ⟨n, hn, rfl⟩ := List.mem_map.mp hv
      obtain ⟨d, hd, hs⟩ := all n hn
      refine ⟨_, rfl, _, rfl, _, rfl, _, _, rfl, .inl ⟨_, SqL.of e, rfl⟩, ?_⟩
      rw [List.length_map]
      refine ⟨_, _, rfl, rfl, (by show (0 : Int) < (ps.length : Int); omega), _, _, _, _, rfl, rfl, SqL.of e, hat, ?_⟩
      have c1 := cutS_length L none (some (n : Int))
      have c2 := cutS_length L (some ((n : Int) + 1)) none
      refine ⟨_, rfl, _, rfl, _, rfl, _, rfl, lsz, _, rfl, _, rfl, _, _, rfl, rfl, _, rfl, _, rfl, lsz, _, _, rfl, rfl, Nat.le_trans (show _ ≤ 30000 by omega) (by decide), ?_⟩
      exact k n d _ sm hd hs
    · obtain ⟨⟨v, rfl⟩, sm, ps, e, lp, all, ne⟩ := p
      obtain ⟨rfl, rfl⟩ := y
      have hj' : j < L.cps.toList.length := by omega
      have hg : L.cps.toList[j]? = some L.cps.toList[j] := List.getElem?_eq_getElem hj'
      have hat : atI L.cps.toList (0 + (j : Int)) = some L.cps.toList[j] := by
        rw [Int.zero_add]
        exact atI_nat hg
      refine ⟨_, rfl, _, rfl, _, _, _, rfl, rfl, lsz, hat, _, rfl, _, _, rfl, rfl, _, rfl, ?_⟩
      rw [StrLaws.found_one]
      refine ite2 (fun h1 => ?_) (fun h1 => ?_)
      · refine ⟨_, rfl, _, e, by rw [List.length_map]; exact size20 (by omega), ⟨_, rfl⟩, sm.set hD, ps ++ [j], ?_, ?_, ?_, fun _ => by simp⟩
        · rw [upd_same, List.map_append, Int.zero_add]
          rfl
        · rw [List.length_append, List.length_singleton]
          omega
        · intro n hn
          rcases List.mem_append.mp hn with q | q
          · exact all n q
          · rw [List.mem_singleton.mp q]
            exact ⟨_, hg, of_decide_eq_true h1⟩
      · refine ⟨⟨_, rfl⟩, sm, ps, e, by omega, all, fun ⟨n, hn, d, hd, hs⟩ => ?_⟩
        rcases Nat.lt_or_ge n j with q | q
        · exact ne ⟨n, q, d, hd, hs⟩
        · have : n = j := by omega
          subst this
          rw [hg] at hd
          cases hd
          exact absurd (decide_eq_true hs) h1
end
end Wy
namespace Wy
open PySem L2
theorem low_w {w : Str} (h : txtB small w = true) : Low w := low_plain (txt_plain small_pl h)
theorem nol_low {w : Str} (hw : txtB small w = true) : ∀ x ∈ nol0 w ++ nol1 w ++ nol2 w, Low x ∧ x.length ≤ 100 := by
  have lw := low_w hw
  have ll := (txtB_le hw).2
  have key : ∀ a b : Str, (a.cps.toList.all fun c => decide (c < 128)) = true → (b.cps.toList.all fun c => decide (c < 128)) = true → a.length + b.length ≤ 60 → Low (a ++ w ++ b) ∧ (a ++ w ++ b).length ≤ 100 := fun a b h1 h2 h3 => ⟨low_app (low_app (low_of h1) lw) (low_of h2), by rw [Str.length_append, Str.length_append]; omega⟩
  have key2 : ∀ b : Str, (b.cps.toList.all fun c => decide (c < 128)) = true → b.length ≤ 60 → Low (w ++ b) ∧ (w ++ b).length ≤ 100 := fun b h2 h3 => ⟨low_app lw (low_of h2), by rw [Str.length_append]; omega⟩
  have key3 : ∀ b : Str, (b.cps.toList.all fun c => decide (c < 128)) = true → b.length ≤ 60 → Low (w ++ "()" ++ b) ∧ (w ++ "()" ++ b).length ≤ 100 := fun b h2 h3 => ⟨low_app (low_app lw (low_of (by decide +kernel))) (low_of h2), by rw [Str.length_append, Str.length_append, show ("()" : Str).length = 2 by decide +kernel]; omega⟩
  have con : ∀ b : Str, (b.cps.toList.all fun c => decide (c < 128)) = true → b.length ≤ 60 → Low b ∧ b.length ≤ 100 := fun b h1 h2 => ⟨low_of h1, by omega⟩
  intro x hx
  unfold nol0 nol1 nol2 at hx
  simp only [List.mem_append, List.mem_cons, List.not_mem_nil, or_false] at hx
  rcases hx with (hx | hx) | hx
  · rcases hx with rfl | rfl | rfl | rfl | rfl | rfl | rfl | rfl | rfl | rfl | rfl | rfl | rfl | rfl | rfl <;> first | exact con _ (by decide +kernel) (by decide +kernel) | exact key2 _ (by decide +kernel) (by decide +kernel) | exact ⟨lw, by omega⟩
  · rcases hx with rfl | rfl | rfl | rfl | rfl <;> first | exact key _ _ (by decide +kernel) (by decide +kernel) (by decide +kernel) | exact key2 _ (by decide +kernel) (by decide +kernel)
  · rcases hx with rfl | rfl | rfl | rfl | rfl | rfl | rfl | rfl | rfl | rfl | rfl | rfl | rfl | rfl | rfl | rfl | rfl | rfl <;> first | exact con _ (by decide +kernel) (by decide +kernel) | exact key3 _ (by decide +kernel) (by decide +kernel)
section
variable {P : Program} {w : World} {K : PySem.W.Frag} {mg : Str → Option Value} {base : Heap}
def sp_lnl : Sp := fun vs H Q _ => ∃ (kd c : Int) (z : Str), vs = [.int kd, .int c, .str z] ∧ txtB small z = true ∧ 0 ≤ kd ∧ kd < 3 ∧ ∀ X H', Same H H' → BadK kd X → Q (.str X) H'
theorem ok__law_no_line (T : Txt K mg) : Def P w K mg base 1 "_law_no_line" ["_law_kind", "_law_cell", "_law_word_here"] sp_lnl := by
  refine T.t__law_no_line.ok sc__law_no_line (fun vs H Q E h => ?_) fun f cdv A outer s H vs Q E hr h => ?_
  · obtain ⟨kd, c, z, rfl, _⟩ := h
    rfl
  · obtain ⟨kd, c, z, rfl, hz, k0, k3, k⟩ := h
    have lz := (txtB_le hz).2
    have lows := nol_low hz
    have sz : ∀ (x y : Str), x.length ≤ 200 → y.length ≤ 200 → x.length + y.length ≤ sizeLine := fun x y h1 h2 => Nat.le_trans (show _ ≤ 400 by omega) (by decide)
    refine join_at 5 (fun σ H' => ∃ (q : Addr) (v : Option V) (L : List Str), σ = [some (.int kd), some (.int c), some (.str z), some (.ref q), v, none] ∧ Same H H' ∧ H' q = some (.lst (L.map V.str)) ∧ 15 ≤ L.length ∧ L.length ≤ 40 ∧ (kd = 1 ∧ L = nol0 z ++ nol1 z ∨ kd ≠ 1 ∧ (L = nol0 z ∨ L = nol0 z ++ nol2 z))) ⟨_, (pss_3
      (ps_set (i := 5) sc__law_no_line.nd rfl (Or.inl rfl) (@pe_ix _ _ _ _ _ _ _ (ix_listK K) (pv 3) (@pe_op _ _ _ _ _ _ _ _ op_mod (pv 1) (pe_callB (call_lenK K) rfl T.b_len bt_len (@pa_1 _ _ _ (pv 3) rfl))) (fun _ _ => rfl)))
      (@ps_if _ _ _ _ _ _ _ _ (PW.pt (pw_and (pt_cmpR op_eq (pv 0) pe_int (nomark _)) (pw_and1 (pt_cmpR op_lt (@pe_op _ _ _ _ _ _ _ _ op_mod (pv 1) (pe_callB (call_lenK K) rfl T.b_len bt_len (@pa_1 _ _ _ (pv 3) rfl))) pe_int (nomark _))))) (@pss_one _ _ _ (ps_set (i := 5) sc__law_no_line.nd rfl (Or.inl rfl) (@pe_op _ _ _ _ _ _ _ _ op_add_str pe_str (pv 5)))) pss_nil)
      (@ps_ret _ _ _ _ (pv 5))), ?_⟩ (fun u hu hC => ?_)
    · rintro σ H1 ⟨q, v, L, rfl, u1, e1, l15, l40, hL⟩
      have lp : (0 : Int) < (L.length : Int) := by omega
      obtain ⟨n, en⟩ := Int.eq_ofNat_of_zero_le (show 0 ≤ c % (L.length : Int) from Int.emod_nonneg _ (by omega))
      have nl : n < L.length := by
        have := Int.emod_lt_of_pos c lp
        omega
      have hat : atI (L.map V.str) (c % (L.length : Int)) = some (V.str L[n]) := by
        rw [en]
        exact atI_nat (by rw [List.getElem?_map, List.getElem?_eq_getElem nl]; rfl)
      refine ⟨_, rfl, _, rfl, _, rfl, _, _, rfl, .inl ⟨_, SqL.of e1, rfl⟩, ?_⟩
      rw [List.length_map]
      refine ⟨_, _, rfl, rfl, lp, q, _, _, _, rfl, rfl, SqL.of e1, hat, ?_⟩
      have fin : ∀ X : Str, Low X → X.length ≤ 200 → NoL kd X → Q (.str X) H1 := fun X h1 h2 h3 => k X H1 u1 ⟨h1, by omega, h3.bad⟩
      rcases hL with ⟨rfl, hL⟩ | ⟨n1, hL⟩
      · have lo := lows L[n] (List.mem_append.mpr (.inl (by rw [← hL]; exact List.getElem_mem nl)))
        refine ⟨_, rfl, rfl, _, rfl, iteTb (decide_eq_true rfl) ?_⟩
        refine ⟨_, rfl, _, rfl, _, _, rfl, .inl ⟨_, SqL.of e1, rfl⟩, ?_⟩
        rw [List.length_map]
        refine ⟨_, _, rfl, rfl, lp, _, _, rfl, rfl, _, rfl, ite2 (fun h15 => ?_) (fun h15 => ?_)⟩
        · have n15 : n < 15 := by
            have : c % (L.length : Int) < 15 := of_decide_eq_true h15
            omega
          have hm : L[n] ∈ nol0 z := by
            have : L[n]? = (nol0 z)[n]? := by rw [hL, List.getElem?_append_left (show n < 15 from n15)]
            rw [List.getElem?_eq_getElem nl] at this
            exact List.mem_of_getElem? this.symm
          refine ⟨_, rfl, _, _, rfl, rfl, sz _ _ (by decide +kernel) (by omega), ?_⟩
          refine ⟨_, rfl, fin _ (low_app (low_of (by decide +kernel)) lo.1) (by rw [Str.length_append, show ("a: " : Str).length = 3 by decide +kernel]; omega) ?_⟩
          have := noL_F (a := "a") (by decide +kernel) (nol0_all hz _ hm)
          rw [show ("a" : Str) ++ ": " = "a: " by decide +kernel] at this
          exact this
        · have n15 : ¬ n < 15 := fun q => h15 (decide_eq_true (show c % (L.length : Int) < 15 by omega))
          have hm : L[n] ∈ nol1 z := by
            have : L[n]? = (nol1 z)[n - 15]? := by rw [hL, List.getElem?_append_right (show (nol0 z).length ≤ n from by show 15 ≤ n; omega)]; rfl
            rw [List.getElem?_eq_getElem nl] at this
            exact List.mem_of_getElem? this.symm
          refine ⟨_, rfl, fin _ lo.1 (by omega) ?_⟩
          show ∀ n A, ¬ FactT _ n A
          exact nol1_all hz _ hm
      · have key : ∀ x ∈ L, NoA x ∧ Low x ∧ x.length ≤ 100 := by
          rcases hL with hL | hL
          · intro x hx
            rw [hL] at hx
            have := lows x (List.mem_append.mpr (.inl (List.mem_append.mpr (.inl hx))))
            exact ⟨nol0_all hz x hx, this.1, this.2⟩
          · intro x hx
            rw [hL] at hx
            rcases List.mem_append.mp hx with q | q
            · have := lows x (List.mem_append.mpr (.inl (List.mem_append.mpr (.inl q))))
              exact ⟨nol0_all hz x q, this.1, this.2⟩
            · have := lows x (List.mem_append.mpr (.inr q))
              exact ⟨nol2_all hz x q, this.1, this.2⟩
        have hm := key _ (List.getElem_mem nl)
        refine ⟨_, rfl, rfl, _, rfl, iteFb (decide_eq_false fun e => n1 (by injection e)) ?_⟩
        exact iteF ⟨_, rfl, fin _ hm.2.1 (by omega) (noL_A n1 hm.1)⟩
    · refine join_at 3 (fun σ H' => ∃ q : Addr, σ = [some (.int kd), some (.int c), some (.str z), some (.ref q), none, none] ∧ Same H H' ∧ H' q = some (.lst ((nol0 z).map V.str))) ?_ (fun u2 hu2 hC2 => ⟨_, (psr_3
      (ps_set (i := 3) sc__law_no_line.nd rfl (Or.inl rfl) (@pe_lst _ _ _ _ (@pa_5 _ _ _ _ _ _ _ _ _ _ _ (@pe_op _ _ _ _ _ _ _ _ op_add_str (pv 2) pe_str) pe_str (pv 2) pe_str (@pe_op _ _ _ _ _ _ _ _ op_add_str (pv 2) pe_str) rfl rfl rfl rfl rfl)))
      (ps_set (i := 3) sc__law_no_line.nd rfl (Or.inl rfl) (@pe_op _ _ _ _ _ _ _ _ op_cat (pv 3) (@pe_lst _ _ _ _ (@pa_4 _ _ _ _ _ _ _ _ _ pe_str (@pe_op _ _ _ _ _ _ _ _ op_add_str (pv 2) pe_str) (@pe_op _ _ _ _ _ _ _ _ op_add_str (pv 2) pe_str) (@pe_op _ _ _ _ _ _ _ _ op_add_str (pv 2) pe_str) rfl rfl rfl rfl))))
      (ps_set (i := 3) sc__law_no_line.nd rfl (Or.inl rfl) (@pe_op _ _ _ _ _ _ _ _ op_cat (pv 3) (@pe_lst _ _ _ _ (@pa_6 _ _ _ _ _ _ _ _ _ _ _ _ _ (@pe_op _ _ _ _ _ _ _ _ op_add_str (pv 2) pe_str) (@pe_op _ _ _ _ _ _ _ _ op_add_str (pv 2) pe_str) pe_str (@pe_op _ _ _ _ _ _ _ _ op_add_str (pv 2) pe_str) (@pe_op _ _ _ _ _ _ _ _ op_add_str (pv 2) pe_str) pe_str rfl rfl rfl rfl rfl rfl))))
      hu2), ?_⟩)
      · refine ⟨_, (psr_2
      (@ps_if _ _ _ _ _ _ _ _ (pt_cmpR op_eq (pv 0) pe_int (nomark _)) (pss_2
      (ps_set (i := 3) sc__law_no_line.nd rfl (Or.inl rfl) (@pe_op _ _ _ _ _ _ _ _ op_cat (pv 3) (@pe_lst _ _ _ _ (@pa_3 _ _ _ _ _ _ _ (@pe_op _ _ _ _ _ _ _ _ op_add_str (pv 2) pe_str) (@pe_op _ _ _ _ _ _ _ _ op_add_str (@pe_op _ _ _ _ _ _ _ _ op_add_str pe_str (pv 2)) pe_str) (@pe_op _ _ _ _ _ _ _ _ op_add_str (@pe_op _ _ _ _ _ _ _ _ op_add_str pe_str (pv 2)) pe_str) rfl rfl rfl))))
      (ps_set (i := 3) sc__law_no_line.nd rfl (Or.inl rfl) (@pe_op _ _ _ _ _ _ _ _ op_cat (pv 3) (@pe_lst _ _ _ _ (@pa_2 _ _ _ _ _ (@pe_op _ _ _ _ _ _ _ _ op_add_str (@pe_op _ _ _ _ _ _ _ _ op_add_str pe_str (pv 2)) pe_str) (@pe_op _ _ _ _ _ _ _ _ op_add_str (@pe_op _ _ _ _ _ _ _ _ op_add_str pe_str (pv 2)) pe_str) rfl rfl))))) pss_nil)
      (@ps_if _ _ _ _ _ _ _ _ (pt_cmpR op_eq (pv 0) pe_int (nomark _)) (pss_6
      (ps_set (i := 4) sc__law_no_line.nd rfl (Or.inl rfl) (@pe_op _ _ _ _ _ _ _ _ op_add_str (pv 2) pe_str))
      (ps_set (i := 3) sc__law_no_line.nd rfl (Or.inl rfl) (@pe_op _ _ _ _ _ _ _ _ op_cat (pv 3) (@pe_lst _ _ _ _ (@pa_5 _ _ _ _ _ _ _ _ _ _ _ (@pe_op _ _ _ _ _ _ _ _ op_add_str (pv 4) pe_str) (@pe_op _ _ _ _ _ _ _ _ op_add_str (pv 4) pe_str) (@pe_op _ _ _ _ _ _ _ _ op_add_str (pv 4) pe_str) (@pe_op _ _ _ _ _ _ _ _ op_add_str (pv 4) pe_str) (@pe_op _ _ _ _ _ _ _ _ op_add_str (pv 4) pe_str) rfl rfl rfl rfl rfl))))
      (ps_set (i := 3) sc__law_no_line.nd rfl (Or.inl rfl) (@pe_op _ _ _ _ _ _ _ _ op_cat (pv 3) (@pe_lst _ _ _ _ (@pa_5 _ _ _ _ _ _ _ _ _ _ _ (@pe_op _ _ _ _ _ _ _ _ op_add_str (pv 4) pe_str) (@pe_op _ _ _ _ _ _ _ _ op_add_str (pv 4) pe_str) (@pe_op _ _ _ _ _ _ _ _ op_add_str (pv 4) pe_str) (@pe_op _ _ _ _ _ _ _ _ op_add_str (pv 4) pe_str) pe_str rfl rfl rfl rfl rfl))))
      (ps_set (i := 3) sc__law_no_line.nd rfl (Or.inl rfl) (@pe_op _ _ _ _ _ _ _ _ op_cat (pv 3) (@pe_lst _ _ _ _ (@pa_4 _ _ _ _ _ _ _ _ _ (@pe_op _ _ _ _ _ _ _ _ op_add_str (pv 4) pe_str) (@pe_op _ _ _ _ _ _ _ _ op_add_str (pv 4) pe_str) (@pe_op _ _ _ _ _ _ _ _ op_add_str (pv 4) pe_str) (@pe_op _ _ _ _ _ _ _ _ op_add_str (pv 4) pe_str) rfl rfl rfl rfl))))
      (ps_set (i := 3) sc__law_no_line.nd rfl (Or.inl rfl) (@pe_op _ _ _ _ _ _ _ _ op_cat (pv 3) (@pe_lst _ _ _ _ (@pa_3 _ _ _ _ _ _ _ (@pe_op _ _ _ _ _ _ _ _ op_add_str (pv 4) pe_str) (@pe_op _ _ _ _ _ _ _ _ op_add_str (pv 4) pe_str) (@pe_op _ _ _ _ _ _ _ _ op_add_str (pv 4) pe_str) rfl rfl rfl))))
      (ps_set (i := 3) sc__law_no_line.nd rfl (Or.inl rfl) (@pe_op _ _ _ _ _ _ _ _ op_cat (pv 3) (@pe_lst _ _ _ _ (@pa_1 _ _ _ (@pe_op _ _ _ _ _ _ _ _ op_add_str (pv 4) pe_str) rfl))))) pss_nil)
      hu), ?_⟩
        rintro σ H1 ⟨q, rfl, u1, e1⟩
        refine ⟨_, rfl, rfl, _, rfl, ite2 (fun h1 => ?_) (fun h1 => ?_)⟩
        · have ek : kd = 1 := of_int h1
          subst ek
          refine ⟨_, rfl, _, rfl, _, _, rfl, rfl, sz _ _ (by omega) (by decide +kernel), _, rfl, _, _, rfl, rfl, sz _ _ (by decide +kernel) (by omega), _, _, rfl, rfl, sz _ _ (by rw [Str.length_append]; exact Nat.le_trans (Nat.add_le_add (show _ ≤ 20 by decide +kernel) lz) (by decide)) (by decide +kernel), _, rfl, _, _, rfl, rfl, sz _ _ (by decide +kernel) (by omega), _, _, rfl, rfl, sz _ _ (by rw [Str.length_append]; exact Nat.le_trans (Nat.add_le_add (show _ ≤ 20 by decide +kernel) lz) (by decide)) (by decide +kernel), by show 3 ≤ sizeLine; decide, fun a1 b1 => ?_⟩
          have v1 := same_upd (o := HO.lst (([z ++ "()", ": " ++ z ++ "()", "A: " ++ z ++ "()"] : List Str).map V.str)) b1
          refine ⟨q, a1, _, _, rfl, rfl, v1 _ _ e1, upd_same, by show 18 ≤ sizeLine; decide, fun a2 b2 => ?_⟩
          have v2 := same_upd (o := HO.lst ((nol0 z ++ ([z ++ "()", ": " ++ z ++ "()", "A: " ++ z ++ "()"] : List Str)).map V.str)) b2
          refine ⟨_, rfl, _, rfl, _, _, rfl, rfl, sz _ _ (by decide +kernel) (by omega), _, _, rfl, rfl, sz _ _ (by rw [Str.length_append]; exact Nat.le_trans (Nat.add_le_add (show _ ≤ 20 by decide +kernel) lz) (by decide)) (by decide +kernel), _, rfl, _, _, rfl, rfl, sz _ _ (by decide +kernel) (by omega), _, _, rfl, rfl, sz _ _ (by rw [Str.length_append]; exact Nat.le_trans (Nat.add_le_add (show _ ≤ 20 by decide +kernel) lz) (by decide)) (by decide +kernel), by show 2 ≤ sizeLine; decide, fun a3 b3 => ?_⟩
          have v3 := same_upd (o := HO.lst ((["a: " ++ z ++ "(X)", "a: b: " ++ z ++ "()"] : List Str).map V.str)) b3
          refine ⟨a2, a3, _, _, rfl, rfl, v3 _ _ (show upd _ a2 (.lst ((nol0 z ++ ([z ++ "()", ": " ++ z ++ "()", "A: " ++ z ++ "()"] : List Str)).map V.str)) a2 = _ from upd_same), upd_same, by show 20 ≤ sizeLine; decide, fun a4 b4 => ?_⟩
          have v4 := same_upd (o := HO.lst ((nol0 z ++ nol1 z).map V.str)) b4
          refine ⟨_, rfl, rfl, _, rfl, iteFb (decide_eq_false (by simp)) ?_⟩
          exact hC _ _ ⟨a4, _, nol0 z ++ nol1 z, rfl, u1.trans (v1.trans (v2.trans (v3.trans v4))), upd_same, by show 15 ≤ 20; decide, by show 20 ≤ 40; decide, .inl ⟨rfl, rfl⟩⟩
        · have n1 : kd ≠ 1 := vin h1
          refine ⟨_, rfl, rfl, _, rfl, ite2 (fun h2 => ?_) (fun h2 => ?_)⟩
          · have lh : (z ++ "()").length ≤ 200 := by rw [Str.length_append, show ("()" : Str).length = 2 by decide +kernel]; omega
            refine ⟨_, rfl, _, _, rfl, rfl, sz _ _ (by omega) (by decide +kernel), ?_⟩
            refine ⟨_, rfl, _, rfl, _, _, rfl, rfl, sz _ _ lh (by decide +kernel), _, rfl, _, _, rfl, rfl, sz _ _ lh (by decide +kernel), _, rfl, _, _, rfl, rfl, sz _ _ lh (by decide +kernel), _, rfl, _, _, rfl, rfl, sz _ _ lh (by decide +kernel), _, rfl, _, _, rfl, rfl, sz _ _ lh (by decide +kernel), by show 5 ≤ sizeLine; decide, fun a1 b1 => ?_⟩
            have v1 := same_upd (o := HO.lst (([z ++ "()" ++ " if ", z ++ "()" ++ " if", z ++ "()" ++ " if b(); ", z ++ "()" ++ " if 1 = 1; b()", z ++ "()" ++ " IF b()"] : List Str).map V.str)) b1
            refine ⟨q, a1, _, _, rfl, rfl, v1 _ _ e1, upd_same, by show 20 ≤ sizeLine; decide, fun a2 b2 => ?_⟩
            have v2 := same_upd (o := HO.lst ((nol0 z ++ ([z ++ "()" ++ " if ", z ++ "()" ++ " if", z ++ "()" ++ " if b(); ", z ++ "()" ++ " if 1 = 1; b()", z ++ "()" ++ " IF b()"] : List Str)).map V.str)) b2
            refine ⟨_, rfl, _, rfl, _, _, rfl, rfl, sz _ _ lh (by decide +kernel), _, rfl, _, _, rfl, rfl, sz _ _ lh (by decide +kernel), _, rfl, _, _, rfl, rfl, sz _ _ lh (by decide +kernel), _, rfl, _, _, rfl, rfl, sz _ _ lh (by decide +kernel), by show 5 ≤ sizeLine; decide, fun a3 b3 => ?_⟩
            have v3 := same_upd (o := HO.lst (([z ++ "()" ++ " if b(), c()", z ++ "()" ++ " if 1 == 1", z ++ "()" ++ " if 1 > 2", z ++ "()" ++ " if 1 <= 2", " if b()"] : List Str).map V.str)) b3
            refine ⟨a2, a3, _, _, rfl, rfl, v3 _ _ (show upd _ a2 (.lst ((nol0 z ++ ([z ++ "()" ++ " if ", z ++ "()" ++ " if", z ++ "()" ++ " if b(); ", z ++ "()" ++ " if 1 = 1; b()", z ++ "()" ++ " IF b()"] : List Str)).map V.str)) a2 = _ from upd_same), upd_same, by show 25 ≤ sizeLine; decide, fun a4 b4 => ?_⟩
            have v4 := same_upd (o := HO.lst (((nol0 z ++ ([z ++ "()" ++ " if ", z ++ "()" ++ " if", z ++ "()" ++ " if b(); ", z ++ "()" ++ " if 1 = 1; b()", z ++ "()" ++ " IF b()"] : List Str)) ++ ([z ++ "()" ++ " if b(), c()", z ++ "()" ++ " if 1 == 1", z ++ "()" ++ " if 1 > 2", z ++ "()" ++ " if 1 <= 2", " if b()"] : List Str)).map V.str)) b4
            refine ⟨_, rfl, _, rfl, _, _, rfl, rfl, sz _ _ lh (by decide +kernel), _, rfl, _, _, rfl, rfl, sz _ _ lh (by decide +kernel), _, rfl, _, _, rfl, rfl, sz _ _ lh (by decide +kernel), _, rfl, _, _, rfl, rfl, sz _ _ lh (by decide +kernel), by show 4 ≤ sizeLine; decide, fun a5 b5 => ?_⟩
            have v5 := same_upd (o := HO.lst (([z ++ "()" ++ " if b() if c()", z ++ "()" ++ " if ; b()", z ++ "()" ++ " if 1 = ", z ++ "()" ++ " if  = 1"] : List Str).map V.str)) b5
            refine ⟨a4, a5, _, _, rfl, rfl, v5 _ _ (show upd _ a4 (.lst (((nol0 z ++ ([z ++ "()" ++ " if ", z ++ "()" ++ " if", z ++ "()" ++ " if b(); ", z ++ "()" ++ " if 1 = 1; b()", z ++ "()" ++ " IF b()"] : List Str)) ++ ([z ++ "()" ++ " if b(), c()", z ++ "()" ++ " if 1 == 1", z ++ "()" ++ " if 1 > 2", z ++ "()" ++ " if 1 <= 2", " if b()"] : List Str)).map V.str)) a4 = _ from upd_same), upd_same, by show 29 ≤ sizeLine; decide, fun a6 b6 => ?_⟩
            have v6 := same_upd (o := HO.lst ((((nol0 z ++ ([z ++ "()" ++ " if ", z ++ "()" ++ " if", z ++ "()" ++ " if b(); ", z ++ "()" ++ " if 1 = 1; b()", z ++ "()" ++ " IF b()"] : List Str)) ++ ([z ++ "()" ++ " if b(), c()", z ++ "()" ++ " if 1 == 1", z ++ "()" ++ " if 1 > 2", z ++ "()" ++ " if 1 <= 2", " if b()"] : List Str)) ++ ([z ++ "()" ++ " if b() if c()", z ++ "()" ++ " if ; b()", z ++ "()" ++ " if 1 = ", z ++ "()" ++ " if  = 1"] : List Str)).map V.str)) b6
            refine ⟨_, rfl, _, rfl, _, _, rfl, rfl, sz _ _ lh (by decide +kernel), _, rfl, _, _, rfl, rfl, sz _ _ lh (by decide +kernel), _, rfl, _, _, rfl, rfl, sz _ _ lh (by decide +kernel), by show 3 ≤ sizeLine; decide, fun a7 b7 => ?_⟩
            have v7 := same_upd (o := HO.lst (([z ++ "()" ++ " if 1 ! 2", z ++ "()" ++ " if b(1, 2, 3, 4, 5)", z ++ "()" ++ " if b(X); X = Y = X"] : List Str).map V.str)) b7
            refine ⟨a6, a7, _, _, rfl, rfl, v7 _ _ (show upd _ a6 (.lst ((((nol0 z ++ ([z ++ "()" ++ " if ", z ++ "()" ++ " if", z ++ "()" ++ " if b(); ", z ++ "()" ++ " if 1 = 1; b()", z ++ "()" ++ " IF b()"] : List Str)) ++ ([z ++ "()" ++ " if b(), c()", z ++ "()" ++ " if 1 == 1", z ++ "()" ++ " if 1 > 2", z ++ "()" ++ " if 1 <= 2", " if b()"] : List Str)) ++ ([z ++ "()" ++ " if b() if c()", z ++ "()" ++ " if ; b()", z ++ "()" ++ " if 1 = ", z ++ "()" ++ " if  = 1"] : List Str)).map V.str)) a6 = _ from upd_same), upd_same, by show 32 ≤ sizeLine; decide, fun a8 b8 => ?_⟩
            have v8 := same_upd (o := HO.lst (((((nol0 z ++ ([z ++ "()" ++ " if ", z ++ "()" ++ " if", z ++ "()" ++ " if b(); ", z ++ "()" ++ " if 1 = 1; b()", z ++ "()" ++ " IF b()"] : List Str)) ++ ([z ++ "()" ++ " if b(), c()", z ++ "()" ++ " if 1 == 1", z ++ "()" ++ " if 1 > 2", z ++ "()" ++ " if 1 <= 2", " if b()"] : List Str)) ++ ([z ++ "()" ++ " if b() if c()", z ++ "()" ++ " if ; b()", z ++ "()" ++ " if 1 = ", z ++ "()" ++ " if  = 1"] : List Str)) ++ ([z ++ "()" ++ " if 1 ! 2", z ++ "()" ++ " if b(1, 2, 3, 4, 5)", z ++ "()" ++ " if b(X); X = Y = X"] : List Str)).map V.str)) b8
            refine ⟨_, rfl, _, rfl, _, _, rfl, rfl, sz _ _ lh (by decide +kernel), by show 1 ≤ sizeLine; decide, fun a9 b9 => ?_⟩
            have v9 := same_upd (o := HO.lst (([z ++ "()" ++ " if (1)"] : List Str).map V.str)) b9
            refine ⟨a8, a9, _, _, rfl, rfl, v9 _ _ (show upd _ a8 (.lst (((((nol0 z ++ ([z ++ "()" ++ " if ", z ++ "()" ++ " if", z ++ "()" ++ " if b(); ", z ++ "()" ++ " if 1 = 1; b()", z ++ "()" ++ " IF b()"] : List Str)) ++ ([z ++ "()" ++ " if b(), c()", z ++ "()" ++ " if 1 == 1", z ++ "()" ++ " if 1 > 2", z ++ "()" ++ " if 1 <= 2", " if b()"] : List Str)) ++ ([z ++ "()" ++ " if b() if c()", z ++ "()" ++ " if ; b()", z ++ "()" ++ " if 1 = ", z ++ "()" ++ " if  = 1"] : List Str)) ++ ([z ++ "()" ++ " if 1 ! 2", z ++ "()" ++ " if b(1, 2, 3, 4, 5)", z ++ "()" ++ " if b(X); X = Y = X"] : List Str)).map V.str)) a8 = _ from upd_same), upd_same, by show 33 ≤ sizeLine; decide, fun a10 b10 => ?_⟩
            have v10 := same_upd (o := HO.lst ((nol0 z ++ nol2 z).map V.str)) b10
            exact hC _ _ ⟨a10, _, nol0 z ++ nol2 z, rfl, u1.trans (v1.trans (v2.trans (v3.trans (v4.trans (v5.trans (v6.trans (v7.trans (v8.trans (v9.trans v10))))))))), upd_same, by show 15 ≤ 33; decide, by show 33 ≤ 40; decide, .inr ⟨n1, .inr rfl⟩⟩
          · exact hC _ _ ⟨q, _, nol0 z, rfl, u1, e1, by show 15 ≤ 15; decide, by show 15 ≤ 40; decide, .inr ⟨n1, .inl rfl⟩⟩
      · refine ⟨_, rfl, _, _, rfl, rfl, sz _ _ (by omega) (by decide +kernel), _, rfl, _, rfl, _, _, rfl, rfl, sz _ _ (by omega) (by decide +kernel), by show 5 ≤ sizeLine; decide, fun a1 b1 => ?_⟩
        have v1 := same_upd (o := HO.lst (([z ++ "(1, 2, 3, 4, 5)", "", z, "()", z ++ "()()"] : List Str).map V.str)) b1
        refine ⟨_, rfl, _, rfl, _, _, rfl, rfl, sz _ _ (by omega) (by decide +kernel), _, rfl, _, _, rfl, rfl, sz _ _ (by omega) (by decide +kernel), _, rfl, _, _, rfl, rfl, sz _ _ (by omega) (by decide +kernel), by show 4 ≤ sizeLine; decide, fun a2 b2 => ?_⟩
        have v2 := same_upd (o := HO.lst ((["A()", z ++ "[]", z ++ "(,)", z ++ "(1,)"] : List Str).map V.str)) b2
        refine ⟨a1, a2, _, _, rfl, rfl, v2 _ _ (show upd _ a1 (.lst (([z ++ "(1, 2, 3, 4, 5)", "", z, "()", z ++ "()()"] : List Str).map V.str)) a1 = _ from upd_same), upd_same, by show 9 ≤ sizeLine; decide, fun a3 b3 => ?_⟩
        have v3 := same_upd (o := HO.lst (([z ++ "(1, 2, 3, 4, 5)", "", z, "()", z ++ "()()", "A()", z ++ "[]", z ++ "(,)", z ++ "(1,)"] : List Str).map V.str)) b3
        refine ⟨_, rfl, _, rfl, _, _, rfl, rfl, sz _ _ (by omega) (by decide +kernel), _, rfl, _, _, rfl, rfl, sz _ _ (by omega) (by decide +kernel), _, rfl, _, _, rfl, rfl, sz _ _ (by omega) (by decide +kernel), _, rfl, _, _, rfl, rfl, sz _ _ (by omega) (by decide +kernel), by show 6 ≤ sizeLine; decide, fun a4 b4 => ?_⟩
        have v4 := same_upd (o := HO.lst (([z ++ "(1,2)", z ++ "()x", "7()", z ++ ".()", z ++ "(1))", "abcdefghijklm()"] : List Str).map V.str)) b4
        refine ⟨a3, a4, _, _, rfl, rfl, v4 _ _ (show upd _ a3 (.lst (([z ++ "(1, 2, 3, 4, 5)", "", z, "()", z ++ "()()", "A()", z ++ "[]", z ++ "(,)", z ++ "(1,)"] : List Str).map V.str)) a3 = _ from upd_same), upd_same, by show 15 ≤ sizeLine; decide, fun a5 b5 => ?_⟩
        have v5 := same_upd (o := HO.lst ((nol0 z).map V.str)) b5
        exact hC2 _ _ ⟨a5, rfl, v1.trans (v2.trans (v3.trans (v4.trans v5))), upd_same⟩
end
end Wy
namespace Wy
open PySem L2
def oddS : Str := "_.[]{}\"'#&*^|~@$?/\\+>\n\t"
theorem odd_all : ∀ d ∈ oddS.cps.toList, sgA d = false ∧ d < 128 := by decide +kernel
theorem odd_len : oddS.length = 23 := by decide +kernel
theorem one_sign (d : Nat) : (⟨#[d]⟩ : Str).cps.toList = [d] := rfl
theorem bad_odd {kd : Int} {a b : Str} {d : Nat} (hd : d ∈ oddS.cps.toList) (la : Low a) (lb : Low b) (h1 : a.length + b.length ≤ 19000) : BadK kd (a ++ (⟨#[d]⟩ : Str) ++ b) := by
  obtain ⟨o1, o3⟩ := odd_all d hd
  refine ⟨low_app (low_app la fun c hc => ?_) lb, ?_, bad_sign (c := d) ?_ o1⟩
  · rw [one_sign] at hc
    rw [List.mem_singleton.mp hc]
    exact o3
  · rw [Str.length_append, Str.length_append]
    have : (⟨#[d]⟩ : Str).length = 1 := rfl
    omega
  · rw [str_app, str_app, one_sign]
    simp
theorem bad_blank {kd : Int} {L : Str} {n : Nat} (h : Ev L) (hl : L.length ≤ 9000) : BadK kd (cutS L none (some (n : Int)) ++ " " ++ cutS L (some (n : Int)) none) := by
  have c1 := cutS_length L none (some (n : Int))
  have c2 := cutS_length L (some (n : Int)) none
  refine ⟨low_app (low_app (low_cut h.low) (low_of (by decide +kernel))) (low_cut h.low), ?_, bad_one ?_⟩
  · rw [Str.length_append, Str.length_append, show (" " : Str).length = 1 by decide +kernel]
    omega
  · have := cnt_cut p1 L n
    have := h.e1
    rw [cnt_app, cnt_app, show cnt p1 " " = 1 by decide +kernel]
    omega
def taS : Str := "(),: ;"
theorem ta_all : ∀ d ∈ taS.cps.toList, (p1 d = true ∧ p2 d = false) ∨ (p1 d = false ∧ p2 d = true) := by decide +kernel
theorem bad_out {kd : Int} {L : Str} {n d : Nat} (h : Ev L) (hl : L.length ≤ 9000) (hg : L.cps.toList[n]? = some d) (hd : d ∈ taS.cps.toList) : BadK kd (cutS L none (some (n : Int)) ++ cutS L (some ((n : Int) + 1)) none) := by
  have c1 := cutS_length L none (some (n : Int))
  have c2 := cutS_length L (some ((n : Int) + 1)) none
  refine ⟨low_app (low_cut h.low) (low_cut h.low), ?_, ?_⟩
  · rw [Str.length_append]
    omega
  · rcases ta_all d hd with ⟨q, _⟩ | ⟨_, q⟩
    · have := cnt_out p1 L n d hg
      rw [if_pos q] at this
      have := h.e1
      refine bad_one ?_
      rw [cnt_app]
      omega
    · have := cnt_out p2 L n d hg
      rw [if_pos q] at this
      have := h.e2
      refine bad_two ?_
      rw [cnt_app]
      omega
theorem bad_t1 {w X : Str} (hw : txtB small w = true) (h : NoTm X) : BadK 1 ("a: " ++ w ++ "(" ++ X ++ ", 1)") := by
  have lw := (txtB_le hw).2
  have lx := h.2.1
  refine ⟨low_app (low_app (low_app (low_app (low_of (by decide +kernel)) (low_w hw)) (low_of (by decide +kernel))) h.1) (low_of (by decide +kernel)), ?_, NoL.bad ?_⟩
  · simp only [Str.length_append]
    rw [show ("a: " : Str).length = 3 by decide +kernel, show ("(" : Str).length = 1 by decide +kernel, show (", 1)" : Str).length = 4 by decide +kernel]
    omega
  · show ∀ n A, ¬ FactT _ n A
    intro n A g
    have e : "a: " ++ w ++ "(" ++ X ++ ", 1)" = "a" ++ ": " ++ (w ++ "(" ++ (X ++ ", 1" ++ ")")) := by
      rw [show ("a" : Str) ++ ": " = "a: " by decide +kernel, show X ++ ", 1" ++ ")" = X ++ ", 1)" by rw [str_assoc3, show (", 1" : Str) ++ ")" = ", 1)" by decide +kernel]]
      simp only [str_assoc3]
    rw [e] at g
    have := atom_w hw (fact_a (by decide +kernel) g).2.1
    rw [nt_first h] at this
    cases this
theorem bad_t0 {kd : Int} {w X : Str} (hk : kd ≠ 1) (hw : txtB small w = true) (h : NoTm X) : BadK kd (w ++ "(1, " ++ X ++ ")") := by
  have lw := (txtB_le hw).2
  have lx := h.2.1
  refine ⟨low_app (low_app (low_app (low_w hw) (low_of (by decide +kernel))) h.1) (low_of (by decide +kernel)), ?_, NoL.bad (noL_A hk ?_)⟩
  · simp only [Str.length_append]
    rw [show ("(1, " : Str).length = 4 by decide +kernel, show (")" : Str).length = 1 by decide +kernel]
    omega
  · have e : w ++ "(1, " ++ X ++ ")" = w ++ "(" ++ ("1, " ++ X ++ ")") := by
      rw [show ("(1, " : Str) = "(" ++ "1, " by decide +kernel]
      simp only [str_assoc3]
    rw [e]
    exact noA_w _ hw (nt_last h)
theorem bad_t5 {w X : Str} (hw : txtB small w = true) (h : NoTm X) : BadK 2 (w ++ "() if 1 != " ++ X) := by
  have lw := (txtB_le hw).2
  have lx := h.2.1
  refine ⟨low_app (low_app (low_w hw) (low_of (by decide +kernel))) h.1, ?_, NoL.bad (noL_A (by decide) ?_)⟩
  · simp only [Str.length_append]
    rw [show ("() if 1 != " : Str).length = 11 by decide +kernel]
    omega
  · have e : w ++ "() if 1 != " ++ X = w ++ "(" ++ (") if 1 != " ++ X) := by
      rw [show ("() if 1 != " : Str) = "(" ++ ") if 1 != " by decide +kernel]
      simp only [str_assoc3]
    rw [e]
    exact noA_w _ hw (nt_choice h)
section
variable {P : Program} {w : World} {K : PySem.W.Frag} {mg : Str → Option Value} {base : Heap}
def sp_spo (K : PySem.W.Frag) : Sp := fun vs H Q _ => ∃ (kd n c : Int) (L z : Str), vs = [.int kd, .str L, .int n, .int c, .str z] ∧ 0 ≤ kd ∧ kd < 3 ∧ Ev L ∧ L.length ≤ 9000 ∧ 40 ∈ L.cps.toList ∧ txtB small z = true ∧ ∀ x H', Same H H' → SpK K H' kd x → Q x H'
theorem ok__law_spoiled (T : Txt K mg) : Def P w K mg base 2 "_law_spoiled" ["_law_kind", "_law_line_here", "_law_way", "_law_cell", "_law_word_here"] (sp_spo K) := by
  refine T.t__law_spoiled.ok sc__law_spoiled (fun vs H Q E h => ?_) fun f cdv A outer s H vs Q E hr h => ?_
  · obtain ⟨kd, n, c, L, z, rfl, _⟩ := h
    rfl
  · obtain ⟨kd, n, c, L, z, rfl, k0, k3, ev, hl, h40, hz, k⟩ := h
    have lz := (txtB_le hz).2
    have lsz : L.length ≤ sizeLine := Nat.le_trans hl (by decide)
    have kb : ∀ (t : Str) H', Same H H' → BadK kd t → Q (.str t) H' := fun t H' s' b => k _ H' s' (.inr ⟨t, rfl, b⟩)
    have sz : ∀ (x y : Str), x.length ≤ 20000 → y.length ≤ 20000 → x.length + y.length ≤ sizeLine := fun x y h1 h2 => Nat.le_trans (show _ ≤ 40000 by omega) (by decide)
    refine join_at 7 (fun σ H' => ∃ v1 v2 : Option V, σ = [some (.int kd), some (.str L), some (.int n), some (.int c), some (.str z), v1, v2] ∧ Same H H' ∧ (n = 4 → kd ≠ 1)) ?_ (fun u hu hC => ⟨_, (psr_7
      (ps_set (i := 5) sc__law_spoiled.nd rfl (Or.inl rfl) pe_str)
      (ps_set (i := 6) sc__law_spoiled.nd rfl (Or.inl rfl) (@pe_op _ _ _ _ _ _ _ _ op_mod (@pe_op _ _ _ _ _ _ _ _ op_fdiv (pv 3) pe_int) (@pe_op _ _ _ _ _ _ _ _ op_add (pe_callB (call_lenK K) rfl T.b_len bt_len (@pa_1 _ _ _ (pv 1) rfl)) pe_int)))
      (@ps_if _ _ _ _ _ _ _ _ (pt_cmpR op_eq (pv 2) pe_int (nomark _)) (@pss_one _ _ _ (@ps_ret _ _ _ _ (@pe_op _ _ _ _ _ _ _ _ op_add_str (@pe_op _ _ _ _ _ _ _ _ op_add_str (pe_slice sl_str (pv 1) po_none (po_some (pv 6))) (@pe_ix _ _ _ _ _ _ _ ix_str (pv 5) (@pe_op _ _ _ _ _ _ _ _ op_mod (pv 3) (pe_callB (call_lenK K) rfl T.b_len bt_len (@pa_1 _ _ _ (pv 5) rfl))) (fun _ _ => rfl))) (pe_slice sl_str (pv 1) (po_some (pv 6)) po_none)))) pss_nil)
      (@ps_if _ _ _ _ _ _ _ _ (pt_cmpR op_eq (pv 2) pe_int (nomark _)) (@pss_one _ _ _ (@ps_ret _ _ _ _ (@pe_op _ _ _ _ _ _ _ _ op_add_str (@pe_op _ _ _ _ _ _ _ _ op_add_str (pe_slice sl_str (pv 1) po_none (po_some (pv 6))) (@pe_ix _ _ _ _ _ _ _ ix_str (pv 5) (@pe_op _ _ _ _ _ _ _ _ op_mod (pv 3) (pe_callB (call_lenK K) rfl T.b_len bt_len (@pa_1 _ _ _ (pv 5) rfl))) (fun _ _ => rfl))) (pe_slice sl_str (pv 1) (po_some (@pe_op _ _ _ _ _ _ _ _ op_add (pv 6) pe_int)) po_none)))) pss_nil)
      (@ps_if _ _ _ _ _ _ _ _ (pt_cmpR op_eq (pv 2) pe_int (nomark _)) (@pss_one _ _ _ (@ps_ret _ _ _ _ (@pe_op _ _ _ _ _ _ _ _ op_add_str (@pe_op _ _ _ _ _ _ _ _ op_add_str (pe_slice sl_str (pv 1) po_none (po_some (pv 6))) pe_str) (pe_slice sl_str (pv 1) (po_some (pv 6)) po_none)))) pss_nil)
      (@ps_if _ _ _ _ _ _ _ _ (pt_cmpR op_eq (pv 2) pe_int (nomark _)) (@pss_one _ _ _ (@ps_ret _ _ _ _ (pe_def (ok__law_taken_out T) hr rfl (@pa_3 _ _ _ _ _ _ _ (pv 1) (pv 3) pe_str rfl rfl rfl)))) pss_nil)
      (@ps_if _ _ _ _ _ _ _ _ (PW.pt (pw_and (pt_cmpR op_eq (pv 2) pe_int (nomark _)) (pw_and1 (pt_cmpR op_eq (pv 0) pe_int (nomark _))))) (@pss_one _ _ _ (@ps_ret _ _ _ _ (@pe_op _ _ _ _ _ _ _ _ op_add_str (@pe_op _ _ _ _ _ _ _ _ op_add_str (@pe_op _ _ _ _ _ _ _ _ op_add_str (@pe_op _ _ _ _ _ _ _ _ op_add_str pe_str (pv 4)) pe_str) (pe_def (ok__law_no_term T) hr rfl (@pa_2 _ _ _ _ _ (pv 3) (pv 4) rfl rfl))) pe_str))) pss_nil)
      hu), ?_⟩)
    · refine join_more 2 (fun σ H' => ∃ v1 v2 : Option V, σ = [some (.int kd), some (.str L), some (.int n), some (.int c), some (.str z), v1, v2] ∧ Same H H') ⟨_, (pss_2
      (@ps_if _ _ _ _ _ _ _ _ (pt_cmpR op_lt (pv 2) pe_int (nomark _)) (@pss_one _ _ _ (@ps_ret _ _ _ _ (pe_def (ok__law_no_line T) hr rfl (@pa_3 _ _ _ _ _ _ _ (pv 0) (pv 3) (pv 4) rfl rfl rfl)))) pss_nil)
      (@ps_ret _ _ _ _ (@pe_ix _ _ _ _ _ _ _ (ix_listK K) (@pe_lst _ _ _ _ (@pa_7 _ _ _ _ _ _ _ _ _ _ _ _ _ _ _ pe_non pe_int pe_bl (@pe_tup _ _ _ _ _ (@pa_1 _ _ _ pe_str rfl)) (@pe_lst _ _ _ _ (@pa_1 _ _ _ pe_str rfl)) (@pe_lst _ _ _ _ pa_nil) (@pe_tup _ _ _ _ _ pa_nil) rfl rfl rfl rfl rfl rfl rfl)) (@pe_op _ _ _ _ _ _ _ _ op_mod (pv 3) pe_int) (fun _ _ => rfl)))), ?_⟩ (fun u hu hC => ⟨_, (psr_2
      (@ps_if _ _ _ _ _ _ _ _ (pt_cmpR op_eq (pv 2) pe_int (nomark _)) (@pss_one _ _ _ (@ps_ret _ _ _ _ (@pe_op _ _ _ _ _ _ _ _ op_add_str (@pe_op _ _ _ _ _ _ _ _ op_add_str (@pe_op _ _ _ _ _ _ _ _ op_add_str (pv 4) pe_str) (pe_def (ok__law_no_term T) hr rfl (@pa_2 _ _ _ _ _ (pv 3) (pv 4) rfl rfl))) pe_str))) pss_nil)
      (@ps_if _ _ _ _ _ _ _ _ (PW.pt (pw_and (pt_cmpR op_eq (pv 2) pe_int (nomark _)) (pw_and1 (pt_cmpR op_eq (pv 0) pe_int (nomark _))))) (@pss_one _ _ _ (@ps_ret _ _ _ _ (@pe_op _ _ _ _ _ _ _ _ op_add_str (@pe_op _ _ _ _ _ _ _ _ op_add_str (pv 4) pe_str) (pe_def (ok__law_no_term T) hr rfl (@pa_2 _ _ _ _ _ (pv 3) (pv 4) rfl rfl))))) pss_nil)
      hu), ?_⟩)
      · rintro σ H1 ⟨v1, v2, rfl, s1⟩
        refine ⟨_, rfl, _, _, rfl, rfl, _, rfl, ite2 (fun h8 => ?_) (fun h8 => ?_)⟩
        · exact ⟨_, rfl, _, rfl, _, rfl, kd, c, z, rfl, hz, k0, k3, fun X H2 s2 b => kb X H2 (s1.trans s2) b⟩
        · refine ⟨by show 1 ≤ sizeLine; decide, fun t1 g1 => ⟨by show 1 ≤ sizeLine; decide, fun t2 g2 => ⟨by show 0 ≤ sizeLine; decide, fun t3 g3 => ⟨by show 0 ≤ sizeLine; decide, fun t4 g4 => ⟨by show 7 ≤ sizeLine; decide, fun q hq => ?_⟩⟩⟩⟩⟩
          have v1 := same_upd (o := HO.tup [V.str "a()"]) g1
          have v2 := same_upd (o := HO.lst [V.str "a()"]) g2
          have v3 := same_upd (o := HO.lst []) g3
          have v4 := same_upd (o := HO.tup []) g4
          have v5 := same_upd (o := HO.lst [V.non, .int 7, .bl true, .ref t1, .ref t2, .ref t3, .ref t4]) hq
          have e1 := (v2.trans (v3.trans (v4.trans v5))) _ _ (upd_same (H := H1) (a := t1) (o := HO.tup [V.str "a()"]))
          have e2 := (v3.trans (v4.trans v5)) _ _ (upd_same (a := t2) (o := HO.lst [V.str "a()"]))
          have e3 := (v4.trans v5) _ _ (upd_same (a := t3) (o := HO.lst []))
          have e4 := v5 _ _ (upd_same (a := t4) (o := HO.tup []))
          obtain ⟨v, hat, hv⟩ := atI_in (xs := [V.non, .int 7, .bl true, .ref t1, .ref t2, .ref t3, .ref t4]) (i := c % 7) (Int.emod_nonneg _ (by decide)) (Int.emod_lt_of_pos _ (by decide))
          refine ⟨_, rfl, _, _, rfl, rfl, (by show (0 : Int) < 7; decide), q, _, _, v, rfl, rfl, SqL.of upd_same, hat, ?_⟩
          refine k _ _ (s1.trans (v1.trans (v2.trans (v3.trans (v4.trans v5))))) (.inl ?_)
          simp only [List.mem_cons, List.not_mem_nil, or_false] at hv
          rcases hv with rfl | rfl | rfl | rfl | rfl | rfl | rfl
          · exact ⟨_, .non, by decide, by decide⟩
          · exact ⟨_, .int _, by decide, by decide⟩
          · exact ⟨_, .bl _, by decide, by decide⟩
          · exact ⟨_, .tup e1, by decide, by decide⟩
          · exact ⟨_, .lst e2, by decide, by decide⟩
          · exact ⟨_, .lst e3, by decide, by decide⟩
          · exact ⟨_, .tup e4, by decide, by decide⟩
      · rintro σ H1 ⟨v1, v2, rfl, s1, n4⟩
        refine ⟨_, rfl, rfl, _, rfl, ite2 (fun h4 => ?_) (fun h4 => ?_)⟩
        · have hk := n4 (of_int h4)
          refine ⟨_, rfl, _, _, rfl, rfl, sz _ _ (by omega) (by decide +kernel), _, rfl, _, rfl, c, z, rfl, hz, fun X H2 s2 hX => ?_⟩
          have lx := hX.2.1
          refine ⟨_, _, rfl, rfl, sz _ _ (by rw [Str.length_append, show ("(1, " : Str).length = 4 by decide +kernel]; omega) (by omega), _, _, rfl, rfl, sz _ _ (by rw [Str.length_append, Str.length_append, show ("(1, " : Str).length = 4 by decide +kernel]; omega) (by decide +kernel), ?_⟩
          exact kb _ _ (s1.trans s2) (bad_t0 hk hz hX)
        · refine ⟨_, rfl, rfl, _, rfl, ite2 (fun h5 => ?_) (fun h5 => ?_)⟩
          · refine ⟨_, rfl, rfl, _, rfl, ite2 (fun h2 => ?_) (fun h2 => ?_)⟩
            · have ek : kd = 2 := of_int h2
              subst ek
              refine ⟨_, rfl, _, _, rfl, rfl, sz _ _ (by omega) (by decide +kernel), _, rfl, _, rfl, c, z, rfl, hz, fun X H2 s2 hX => ?_⟩
              have lx := hX.2.1
              refine ⟨_, _, rfl, rfl, sz _ _ (by rw [Str.length_append, show ("() if 1 != " : Str).length = 11 by decide +kernel]; omega) (by omega), ?_⟩
              exact kb _ _ (s1.trans s2) (bad_t5 hz hX)
            · exact hC _ _ ⟨_, _, rfl, s1⟩
          · exact hC _ _ ⟨_, _, rfl, s1⟩
    · refine ⟨_, rfl, _, _, rfl, rfl, ⟨by decide, by decide⟩, _, rfl, _, _, rfl, ⟨lsz, rfl⟩, _, _, rfl, rfl, _, _, rfl, rfl, (by show (0 : Int) < (L.length : Int) + 1; omega), ?_⟩
      obtain ⟨p, ep⟩ := Int.eq_ofNat_of_zero_le (show 0 ≤ c / 32 % ((L.length : Int) + 1) from Int.emod_nonneg _ (by omega))
      obtain ⟨d, hd, hdm⟩ := atI_in (xs := oddS.cps.toList) (i := c % 23) (Int.emod_nonneg _ (by decide)) (by rw [str_len, odd_len]; exact Int.emod_lt_of_pos _ (by decide))
      have e23 : (oddS.length : Int) = 23 := by rw [odd_len]; rfl
      have hd' : atI oddS.cps.toList (c % (oddS.length : Int)) = some d := by rw [e23]; exact hd
      have op : (0 : Int) < (oddS.length : Int) := by rw [e23]; decide
      have cl1 := cutS_length L none (some (c / 32 % ((L.length : Int) + 1)))
      have cl2 := cutS_length L (some (c / 32 % ((L.length : Int) + 1))) none
      have cl3 := cutS_length L (some (c / 32 % ((L.length : Int) + 1) + 1)) none
      have o1 : (⟨#[d]⟩ : Str).length = 1 := rfl
      have lw := ev.low
      refine ⟨_, rfl, rfl, _, rfl, ite2 (fun h0 => ?_) (fun h0 => ?_)⟩
      · refine ⟨_, rfl, _, rfl, _, rfl, _, rfl, lsz, _, rfl, _, rfl, _, rfl, _, _, rfl, ⟨by decide +kernel, rfl⟩, _, _, rfl, rfl, op, _, _, d, rfl, rfl, by decide +kernel, hd', ?_⟩
        refine ⟨_, _, rfl, rfl, Nat.le_trans (show _ ≤ 9001 by omega) (by decide), _, rfl, _, rfl, _, rfl, _, rfl, lsz, _, _, rfl, rfl, by rw [Str.length_append]; exact Nat.le_trans (show _ ≤ 30001 by omega) (by decide), ?_⟩
        exact kb _ _ (Same.refl _) (bad_odd hdm (low_cut lw) (low_cut lw) (by omega))
      refine ⟨_, rfl, rfl, _, rfl, ite2 (fun h1 => ?_) (fun h1 => ?_)⟩
      · refine ⟨_, rfl, _, rfl, _, rfl, _, rfl, lsz, _, rfl, _, rfl, _, rfl, _, _, rfl, ⟨by decide +kernel, rfl⟩, _, _, rfl, rfl, op, _, _, d, rfl, rfl, by decide +kernel, hd', ?_⟩
        refine ⟨_, _, rfl, rfl, Nat.le_trans (show _ ≤ 9001 by omega) (by decide), _, rfl, _, rfl, _, _, rfl, rfl, _, rfl, _, rfl, lsz, _, _, rfl, rfl, by rw [Str.length_append]; exact Nat.le_trans (show _ ≤ 30001 by omega) (by decide), ?_⟩
        exact kb _ _ (Same.refl _) (bad_odd hdm (low_cut lw) (low_cut lw) (by omega))
      refine ⟨_, rfl, rfl, _, rfl, ite2 (fun h2 => ?_) (fun h2 => ?_)⟩
      · refine ⟨_, rfl, _, rfl, _, rfl, _, rfl, lsz, _, _, rfl, rfl, sz _ _ (by omega) (by decide +kernel), _, rfl, _, rfl, _, rfl, _, rfl, lsz, _, _, rfl, rfl, by rw [Str.length_append, show (" " : Str).length = 1 by decide +kernel]; exact Nat.le_trans (show _ ≤ 30001 by omega) (by decide), ?_⟩
        refine kb _ _ (Same.refl _) ?_
        have := bad_blank (kd := kd) (n := p) ev hl
        rw [← ep] at this
        exact this
      refine ⟨_, rfl, rfl, _, rfl, ite2 (fun h3 => ?_) (fun h3 => ?_)⟩
      · exact ⟨_, rfl, _, rfl, L, taS, c, rfl, by omega, ⟨40, h40, by decide +kernel⟩, fun m d' H2 s2 hg hs => kb _ _ s2 (bad_out ev hl hg hs)⟩
      refine ⟨_, rfl, rfl, _, rfl, ite2 (fun h4 => ?_) (fun h4 => ?_)⟩
      · refine ⟨_, rfl, rfl, _, rfl, ite2 (fun hk => ?_) (fun hk => ?_)⟩
        · have ek : kd = 1 := of_int hk
          subst ek
          refine ⟨_, rfl, _, _, rfl, rfl, sz _ _ (by decide +kernel) (by omega), _, _, rfl, rfl, sz _ _ (by rw [Str.length_append, show ("a: " : Str).length = 3 by decide +kernel]; omega) (by decide +kernel), _, rfl, _, rfl, c, z, rfl, hz, fun X H2 s2 hX => ?_⟩
          have lx := hX.2.1
          refine ⟨_, _, rfl, rfl, sz _ _ (by rw [Str.length_append, Str.length_append, show ("a: " : Str).length = 3 by decide +kernel, show ("(" : Str).length = 1 by decide +kernel]; omega) (by omega), _, _, rfl, rfl, sz _ _ (by rw [Str.length_append, Str.length_append, Str.length_append, show ("a: " : Str).length = 3 by decide +kernel, show ("(" : Str).length = 1 by decide +kernel]; omega) (by decide +kernel), ?_⟩
          exact kb _ _ s2 (bad_t1 hz hX)
        · exact hC _ _ ⟨_, _, rfl, Same.refl _, fun _ => vin hk⟩
      · exact hC _ _ ⟨_, _, rfl, Same.refl _, fun e => absurd e (vin h4)⟩
end
end Wy
namespace Wy
open PySem L2
theorem rule_short {h : Atm} {As : List Atm} {Cs : List Chc} (g : GoodR h As Cs) (la : As.length ≤ 3) (lc : Cs.length ≤ 3) : (ruleS h As Cs).length ≤ 9000 := by
  have h1 := atom_le g.1
  have h2 := join_len semS (bodyS As Cs)
  have h3 := sum_650 fun w hw => (body_ok g w hw).2
  have h4 : (bodyS As Cs).length = As.length + Cs.length := by unfold bodyS; rw [List.length_append, List.length_map, List.length_map]
  rw [show semS.length = 2 by decide +kernel] at h2
  unfold ruleS
  split
  · omega
  · rw [Str.length_append, Str.length_append, if_len]
    omega
def sp_law (K : PySem.W.Frag) : Sp := fun vs H Q _ => ∃ (a : Addr) (ns : List Int), vs = [.ref a] ∧ SqL K H a (ns.map V.int) ∧ ns.length ≤ 63 ∧ ∀ H', Q (.bl true) H'
theorem ok_law {l : PySem.W.OpenLaw} {w : World} {K : PySem.W.Frag} {mg : Str → Option Value} {fa : Addr} (T : Txt K mg) (hfa : mg "law" = some (.ref fa)) :
    ∃ fd : FuncData, (∀ (s : Shared) (v : Value), BindsTo s fd ⟨[v], []⟩ [("_law_script", v)]) ∧ ∀ base : Heap, K.In base → base.Ns mainGlobals mg → FnOk l.prog w K mg base CX0 12 fa fd ["_law_script"] (sp_law K) := by
  refine T.t_law.fin hfa sc_law (fun vs H Q E h => ?_) fun base f cdv A outer s H vs Q E hr h => ?_
  · obtain ⟨a, ns, rfl, _⟩ := h
    rfl
  · obtain ⟨a, ns, rfl, hA, hlen, k⟩ := h
    refine join_at 9 (fun σ H' => ∃ (p wa : Addr) (is : List Int) (us : List Str) (kd : Int) (z : Str) (d : PyData) (y : V) (v4 v5 v8 : Option V), σ = [some (.ref a), some (.ref p), some (.ref wa), some (.int kd), v4, v5, some y, some (.str z), v8, none, none, none, none] ∧ Same H H' ∧ H' p = some (.lst (is.map V.int)) ∧ is.length = 6 ∧ H' wa = some (.lst (us.map V.str)) ∧ us.length = 5 ∧ (∀ x ∈ us, WOk x) ∧ 0 ≤ kd ∧ kd < 3 ∧ Rds kd z d ∧ Dat K H' d y ∧ z.length ≤ 9000) ⟨_, (pss_3
      (ps_if (pt_not (pt_val (pe_def (ok__law_same T 5) hr rfl (pa_2 (pe_def (ok__law_read T) hr rfl (pa_2 (pv 3) (pv 7))) (pv 6))))) (pss_one (ps_ret pe_bl)) pss_nil)
      (ps_for PassesOwn.never rfl (pi_range1 rfl T.b_range (pa_1 (pe_op op_add pe_int (pe_op op_mod (pe_ix (ix_listK K) (pv 1) pe_int (fun _ _ => rfl)) pe_int)))) (pg_name (i := 9) sc_law.nd rfl (Or.inl rfl)) (pss_4
      (ps_set (i := 10) sc_law.nd rfl (Or.inl rfl) (pe_def (ok__law_stream T) hr rfl (pa_2 (pe_op op_add (pe_op op_add (pe_def (ok__law_cell_at T) hr rfl (pa_2 (pv 0) (pe_op op_add pe_int (pv 9)))) (pe_op op_mod (pe_ix (ix_listK K) (pv 1) pe_int (fun _ _ => rfl)) pe_int)) (pe_op op_mul pe_int (pv 9))) pe_int)))
      (ps_set (i := 11) sc_law.nd rfl (Or.inl rfl) (pe_def (ok__law_spoiled T) hr rfl (pa_5 (pv 3) (pv 7) (pe_op op_mod (pe_ix (ix_listK K) (pv 10) pe_int (fun _ _ => rfl)) pe_int) (pe_ix (ix_listK K) (pv 10) pe_int (fun _ _ => rfl)) (pe_ix (ix_listK K) (pv 2) pe_int (fun _ _ => rfl)))))
      (ps_if (PW.pt (pw_or (pt_not (pt_val (pe_def (ok__law_refused T) hr rfl (pa_2 (pv 3) (pv 11))))) (pw_or1 (pt_not (pt_val (pe_def (ok__law_refused_by_any T) hr rfl (pa_2 (pv 3) (pv 11)))))))) (pss_one (ps_ret pe_bl)) pss_nil)
      (ps_for PassesOwn.never rfl (pi_range1 rfl T.b_range (pa_1 pe_int)) (pg_name (i := 12) sc_law.nd rfl (Or.inl rfl)) (pss_one (ps_if (pt_not (pt_val (pe_def (ok__law_refused T) hr rfl (pa_2 (pv 3) (pe_def (ok__law_no_line T) hr rfl (pa_3 (pv 3) (pe_op op_add (pe_ix (ix_listK K) (pv 10) pe_int (fun _ _ => rfl)) (pv 12)) (pe_ix (ix_listK K) (pv 2) pe_int (fun _ _ => rfl)))))))) (pss_one (ps_ret pe_bl)) pss_nil)))))
      (ps_ret (pe_def (ok__law_same T 5) hr rfl (pa_2 (pe_def (ok__law_read T) hr rfl (pa_2 (pv 3) (pv 7))) (pv 6))))), ?_⟩ (fun u hu hC => ⟨_, (psr_9
      (ps_set (i := 1) sc_law.nd rfl (Or.inl rfl) (pe_def (ok__law_stream T) hr rfl (pa_2 (pe_def (ok__law_cell_at T) hr rfl (pa_2 (pv 0) pe_int)) pe_int)))
      (ps_set (i := 2) sc_law.nd rfl (Or.inr rfl) (pe_op op_cat (pe_def (okF__law_words T) hr rfl (pa_2 (pe_ix (ix_listK K) (pv 1) pe_int (fun _ _ => rfl)) pe_int)) (pe_lst (pa_1 pe_str))))
      (ps_set (i := 3) sc_law.nd rfl (Or.inl rfl) (pe_op op_mod (pe_ix (ix_listK K) (pv 1) pe_int (fun _ _ => rfl)) pe_int))
      (ps_set (i := 4) sc_law.nd rfl (Or.inl rfl) (pe_def (ok__law_rule T) hr rfl (pa_2 (pe_op op_add (pe_def (ok__law_cell_at T) hr rfl (pa_2 (pv 0) pe_int)) (pe_op op_mod (pe_ix (ix_listK K) (pv 1) pe_int (fun _ _ => rfl)) pe_int)) (pv 2))))
      (ps_set (i := 5) sc_law.nd rfl (Or.inr rfl) (pe_def (ok__law_stream T) hr rfl (pa_2 (pe_op op_add (pe_def (ok__law_cell_at T) hr rfl (pa_2 (pv 0) pe_int)) (pe_op op_mod (pe_ix (ix_listK K) (pv 1) pe_int (fun _ _ => rfl)) pe_int)) pe_int)))
      (ps_set (i := 6) sc_law.nd rfl (Or.inl rfl) (pe_tup (pa_2 (pe_ix (ix_listK K) (pv 2) (pe_op op_mod (pe_ix (ix_listK K) (pv 5) pe_int (fun _ _ => rfl)) pe_int) (fun _ _ => rfl)) (pe_ix (ix_tupK K) (pe_ix (ix_tupK K) (pv 4) pe_int (fun _ _ => rfl)) pe_int (fun _ _ => rfl)))))
      (ps_set (i := 7) sc_law.nd rfl (Or.inl rfl) (pe_op op_add_str (pe_ix (ix_tupK K) (pv 6) pe_int (fun _ _ => rfl)) (pe_def (ok__law_written T) hr rfl (pa_1 (pe_ix (ix_tupK K) (pv 6) pe_int (fun _ _ => rfl))))))
      (ps_if (pt_cmpR op_eq (pv 3) pe_int (nomark _)) (pss_3
      (ps_setComp (i := 8) sc_law.nd rfl rfl (N := ["_law_k", "_law_words_here", "_law_row", "_law_script"]) (caps := [none, some 2, some 5, some 0]) rfl (by with_unfolding_all rfl) (pi_range1 rfl T.b_range (pa_1 (pe_op op_mod (pe_ix (ix_listK K) (pv 5) pe_int (fun _ _ => rfl)) pe_int))) (fun _ _ _ _ _ => (pg_name (i := 0) (show (["_law_k", "_law_words_here", "_law_row", "_law_script"] : List Str).Nodup by decide +kernel) rfl (Or.inl rfl))) (fun _ _ _ _ _ => pf_nil) (fun _ _ _ _ _ => (pe_def (ok__law_value T) hr rfl (pa_2 (pe_op op_add (pe_ix (ix_listK K) (pv 2) (pv 0) (fun _ _ => rfl)) (pe_def (ok__law_cell_at T) hr rfl (pa_2 (pv 3) pe_int))) (pv 1)))))
      (ps_set (i := 6) sc_law.nd rfl (Or.inl rfl) (pe_tup (pa_3 (pe_ix (ix_listK K) (pv 2) (pe_op op_mod (pe_ix (ix_listK K) (pv 5) pe_int (fun _ _ => rfl)) pe_int) (fun _ _ => rfl)) (pe_ix (ix_listK K) (pv 2) (pe_op op_mod (pe_ix (ix_listK K) (pv 5) pe_int (fun _ _ => rfl)) pe_int) (fun _ _ => rfl)) (pe_callTy (call_tupleK K) rfl T.b_tuple bt_tuple (pa_1 (pv 8))))))
      (ps_set (i := 7) sc_law.nd rfl (Or.inl rfl) (pe_op op_add_str (pe_op op_add_str (pe_op op_add_str (pe_ix (ix_tupK K) (pv 6) pe_int (fun _ _ => rfl)) pe_str) (pe_ix (ix_tupK K) (pv 6) pe_int (fun _ _ => rfl))) (pe_def (ok__law_written T) hr rfl (pa_1 (pe_ix (ix_tupK K) (pv 6) pe_int (fun _ _ => rfl))))))) pss_nil)
      (ps_if (pt_cmpR op_eq (pv 3) pe_int (nomark _)) (pss_2
      (ps_set (i := 6) sc_law.nd rfl (Or.inl rfl) (pv 4))
      (ps_set (i := 7) sc_law.nd rfl (Or.inl rfl) (pe_def (ok__law_line T) hr rfl (pa_1 (pv 4))))) pss_nil)
      hu), ?_⟩)
    · rintro σ H1 ⟨p, wa, is, us, kd, z, d, y, v4, v5, v8, rfl, s1, hp, l6, hwa, ul, okU, k0, k3, rd, dy, lz⟩
      have c4 : atI (is.map V.int) 4 = some (V.int (is.getD 4 0)) := at_ints (k := 4) (by omega)
      have c5 : atI (is.map V.int) 5 = some (V.int (is.getD 5 0)) := at_ints (k := 5) (by omega)
      obtain ⟨u0, ur, eu⟩ : ∃ u0 ur, us = u0 :: ur := by
        cases us with
        | nil => simp at ul
        | cons a b => exact ⟨a, b, rfl⟩
      have w0 : atI (us.map V.str) 0 = some (V.str u0) := by rw [eu]; exact atI_nat (j := 0) rfl
      have ou := okU u0 (by rw [eu]; exact List.mem_cons_self)
      refine ⟨_, rfl, _, rfl, kd, z, d, rfl, rd, fun y2 H2 s2 dy2 => ?_⟩
      refine ⟨_, rfl, d, _, _, rfl, dy2, Dat.same s2 _ _ dy, rd.pl, fun H3 s3 => ⟨_, rfl, iteFb rfl ?_⟩⟩
      have sC := s2.trans s3
      have hC3 := SqL.of (K := K) (sC _ _ hp)
      have hA3 := (s1.trans sC).seq hA
      have hw3 := sC _ _ hwa
      have dy3 := Dat.same sC _ _ dy
      refine ⟨_, rfl, _, _, _, _, rfl, rfl, hC3, c4, _, _, rfl, rfl, (by show (0 : Int) < 3; decide), _, _, rfl, rfl, _, rfl, by omega, by omega, ?_⟩
      refine for_range (lo := 0) (n := (1 + is.getD 4 0 % 3).toNat) (fun i σ H' => Same H3 H' ∧ ∃ (v9 v10 v11 v12 : Option V), σ = [some (.ref a), some (.ref p), some (.ref wa), some (.int kd), v4, v5, some y, some (.str z), v8, v9, v10, v11, v12]) ⟨Same.refl _, _, _, _, _, rfl⟩ ?_ ?_
      · rintro i σ H' hi ⟨sm, v9, v10, v11, v12, rfl⟩
        refine ⟨_, rfl, _, rfl, _, _, rfl, rfl, a, ns, _, rfl, sm.seq hA3, by omega, _, rfl, _, _, _, _, rfl, rfl, sm.seq hC3, c5, _, _, rfl, rfl, (by show (0 : Int) < 83; decide), _, _, rfl, rfl, _, rfl, _, _, rfl, rfl, .inl ⟨by decide, by decide⟩, _, _, rfl, rfl, _, 2, rfl, by decide, by decide, fun p2 ds H9 s9 hp2 hl2 _ _ => ?_⟩
        have hl2' : ds.length = 2 := hl2
        have d0 : atI (ds.map V.int) 0 = some (V.int (ds.getD 0 0)) := at_ints (k := 0) (by omega)
        have d1 : atI (ds.map V.int) 1 = some (V.int (ds.getD 1 0)) := at_ints (k := 1) (by omega)
        have hD := SqL.of (K := K) hp2
        have sm9 := sm.trans s9
        refine ⟨_, rfl, _, rfl, _, rfl, _, _, _, _, rfl, rfl, hD, d0, _, _, rfl, rfl, (by show (0 : Int) < 9; decide), _, rfl, _, _, _, _, rfl, rfl, hD, d1, _, rfl, _, _, _, _, rfl, rfl, SqL.of (sm9 _ _ hw3), w0, kd, _, _, z, u0, rfl, k0, k3, rd.ev, lz, has_40 rd, ou.1, fun x H10 s10 hx => ?_⟩
        refine ⟨_, rfl, _, rfl, kd, x, rfl, hx, fun H11 s11 => ⟨_, rfl, iteFb rfl ?_⟩⟩
        refine ⟨_, rfl, _, rfl, kd, x, rfl, hx.same s11, fun H12 s12 => ⟨_, rfl, iteFb rfl ?_⟩⟩
        have s12' := s10.trans (s11.trans s12)
        refine ⟨9, rfl, by decide, by decide, ?_⟩
        refine for_range (lo := 0) (n := 9) (fun j σ H' => Same H12 H' ∧ ∃ v12 : Option V, σ = [some (.ref a), some (.ref p), some (.ref wa), some (.int kd), v4, v5, some y, some (.str z), v8, some (.int (0 + (i : Int))), some (.ref p2), some x, v12]) ⟨Same.refl _, _, rfl⟩ ?_ ?_
        · rintro j σ H' hj ⟨sj, v12, rfl⟩
          refine ⟨_, rfl, _, rfl, _, rfl, _, _, _, _, rfl, rfl, (s12'.trans sj).seq hD, d1, _, rfl, _, _, rfl, rfl, _, rfl, _, _, _, _, rfl, rfl, SqL.of ((sm9.trans (s12'.trans sj)) _ _ hw3), w0, kd, _, u0, rfl, ou.1, k0, k3, fun X H13 s13 hX => ?_⟩
          refine ⟨kd, _, rfl, .inr ⟨X, rfl, hX⟩, fun H14 s14 => ⟨_, rfl, iteFb rfl ?_⟩⟩
          exact ⟨sj.trans (s13.trans s14), _, rfl⟩
        · rintro σ H' ⟨sj, v12, rfl⟩
          exact ⟨sm9.trans (s12'.trans sj), _, _, _, _, rfl⟩
      · rintro σ H9 ⟨sm, v9, v10, v11, v12, rfl⟩
        refine ⟨_, rfl, _, rfl, kd, z, d, rfl, rd, fun y3 H10 s10 dy4 => ?_⟩
        exact ⟨_, rfl, d, _, _, rfl, dy4, Dat.same (sm.trans s10) _ _ dy3, rd.pl, fun H11 s11 => k H11⟩
    · refine ⟨_, rfl, a, ns, 0, rfl, hA, by decide, _, 6, rfl, by decide, by decide, fun p is H1 s1 hp hl _ hn => ?_⟩
      have l6 : is.length = 6 := hl
      have c0 : atI (is.map V.int) 0 = some (V.int (is.getD 0 0)) := at_ints (k := 0) (by omega)
      have c1 : atI (is.map V.int) 1 = some (V.int (is.getD 1 0)) := at_ints (k := 1) (by omega)
      have c2 : atI (is.map V.int) 2 = some (V.int (is.getD 2 0)) := at_ints (k := 2) (by omega)
      have c3 : atI (is.map V.int) 3 = some (V.int (is.getD 3 0)) := at_ints (k := 3) (by omega)
      have hI := SqL.of (K := K) hp
      refine ⟨_, rfl, _, _, _, _, rfl, rfl, hI, c0, _, 4, rfl, by decide, by decide, fun q ws H2 s2 hq wl hqn hw => ?_⟩
      have wl4 : ws.length = 4 := wl
      refine ⟨by decide, fun i hi => ?_⟩
      have s3 := same_upd (o := HO.lst [V.str "if"]) hi
      refine ⟨_, _, _, _, rfl, rfl, s3 _ _ hq, upd_same, by rw [List.length_map, wl4]; exact (show 5 ≤ sizeLine by decide), fun wa hwa => ?_⟩
      have s4 := same_upd (o := HO.lst (ws.map V.str ++ [V.str "if"])) hwa
      obtain ⟨us, eus, ul, hus⟩ : ∃ us : List Str, ws.map V.str ++ [V.str "if"] = us.map V.str ∧ us.length = 5 ∧ ∀ z ∈ us, WOk z := by
        refine ⟨ws ++ [("if" : Str)], by rw [List.map_append]; rfl, by rw [List.length_append, wl4]; rfl, fun z hz => ?_⟩
        rcases List.mem_append.mp hz with hz | hz
        · exact ws_ok (hw z hz)
        · rw [List.mem_singleton.mp hz]
          exact if_ok
      have sA := s1.trans (s2.trans (s3.trans s4))
      have sB := s2.trans (s3.trans s4)
      have hw4 : upd (upd H2 i (.lst [V.str "if"])) wa (.lst (ws.map V.str ++ [V.str "if"])) wa = some (.lst (us.map V.str)) := by rw [upd_same, eus]
      generalize upd (upd H2 i (.lst [V.str "if"])) wa (.lst (ws.map V.str ++ [V.str "if"])) = H4 at *
      have hp4 := sB _ _ hp
      have hC4 := sB.seq hI
      have hA4 := sA.seq hA
      have word : ∀ m : Int, ∃ z, atI (us.map V.str) (m % 5) = some (V.str z) ∧ WOk z := fun m => by
        obtain ⟨v, hv, hm⟩ := atI_in (xs := us.map V.str) (i := m % 5) (Int.emod_nonneg _ (by decide)) (by rw [List.length_map, ul]; exact Int.emod_lt_of_pos _ (by decide))
        obtain ⟨z, hz, rfl⟩ := List.mem_map.mp hm
        exact ⟨z, hv, hus z hz⟩
      refine ⟨_, rfl, _, _, _, _, rfl, rfl, hC4, c1, _, _, rfl, rfl, (by show (0 : Int) < 3; decide), ?_⟩
      have kd0 : 0 ≤ is.getD 1 0 % 3 := Int.emod_nonneg _ (by decide)
      have kd3 : is.getD 1 0 % 3 < 3 := Int.emod_lt_of_pos _ (by decide)
      refine ⟨_, rfl, a, ns, 1, rfl, hA4, by decide, _, rfl, _, _, _, _, rfl, rfl, hC4, c2, _, _, rfl, rfl, (by show (0 : Int) < 97; decide), _, _, rfl, rfl, _, rfl, _, wa, us, rfl, SqL.of hw4, by omega, hus, fun q1 h As Cs H5 s5 rl g safe la lc => ?_⟩
      have hC5 := s5.seq hC4
      have hA5 := s5.seq hA4
      refine ⟨_, rfl, a, ns, 2, rfl, hA5, by decide, _, rfl, _, _, _, _, rfl, rfl, hC5, c3, _, _, rfl, rfl, (by show (0 : Int) < 89; decide), _, _, rfl, rfl, _, 5, rfl, by decide, by decide, fun rw_ rs H6 s6 hr6 lr _ _ => ?_⟩
      have lr5 : rs.length = 5 := lr
      have r0 : atI (rs.map V.int) 0 = some (V.int (rs.getD 0 0)) := at_ints (k := 0) (by omega)
      have r1 : atI (rs.map V.int) 1 = some (V.int (rs.getD 1 0)) := at_ints (k := 1) (by omega)
      have r4 : atI (rs.map V.int) 4 = some (V.int (rs.getD 4 0)) := at_ints (k := 4) (by omega)
      have hR6 := SqL.of (K := K) hr6
      have hw6 := (s5.trans s6) _ _ hw4
      have rl6 := rl.same s6
      obtain ⟨z0, hz0, oz0⟩ := word (rs.getD 0 0)
      obtain ⟨rr, rb, rc, hx, xs, ys, er, h1, ⟨q0, p0, ehx, hq0, hp0⟩, h3, h4, h5, h6⟩ := rl6
      cases er
      subst ehx
      refine ⟨_, rfl, _, rfl, _, _, _, _, rfl, rfl, hR6, r0, _, _, rfl, rfl, (by show (0 : Int) < 5; decide), _, _, _, _, rfl, rfl, SqL.of hw6, hz0, _, rfl, _, _, _, _, rfl, rfl, SqT.of h1, atI_nat (j := 0) rfl, _, _, _, _, rfl, rfl, SqT.of hq0, atI_nat (j := 1) rfl, by show 2 ≤ sizeLine; decide, fun t7 ht7 => ?_⟩
      have s7 := same_upd (o := HO.tup [V.str z0, .ref p0]) ht7
      have et7 := upd_same (H := H6) (a := t7) (o := HO.tup [V.str z0, .ref p0])
      generalize upd H6 t7 (.tup [V.str z0, .ref p0]) = H7 at *
      have hp7 := s7 _ _ hp0
      have lz0 := (txtB_le oz0.1).2
      have rlen : ∀ ks : List Key, ks.length ≤ 4 → (∀ k ∈ ks, TmOk k) → (rowS ks).length ≤ 1000 := fun ks h1 h2 => by
        have := row_le h2 (show ks.length ≤ 10 by omega)
        omega
      refine ⟨_, rfl, _, _, _, _, rfl, rfl, SqT.of et7, atI_nat (j := 0) rfl, _, rfl, _, _, _, _, rfl, rfl, SqT.of et7, atI_nat (j := 1) rfl, p0, h.2, rfl, SqT.of hp7, by have := g.1.2.1; omega, g.1.2.2, fun H8 s8 => ?_⟩
      have rl8 := rlen h.2 g.1.2.1 g.1.2.2
      refine ⟨_, _, rfl, rfl, Nat.le_trans (show _ ≤ 2000 by omega) (by decide), ?_⟩
      have sP := s6.trans (s7.trans s8)
      have sQ := s5.trans sP
      have S8 : Same H H8 := sA.trans sQ
      have et8 := s8 _ _ et7
      refine ⟨_, rfl, rfl, _, rfl, ite2 (fun hk1 => ?_) (fun hk1 => ?_)⟩
      · have ek : is.getD 1 0 % 3 = 1 := of_int hk1
        have hR8 := (s7.trans s8).seq hR6
        have hw8 := (s7.trans s8) _ _ hw6
        have hA8 := sP.seq hA5
        have g0 := Int.emod_nonneg (rs.getD 4 0) (show (5 : Int) ≠ 0 by decide)
        have g1 := Int.emod_lt_of_pos (rs.getD 4 0) (show (0 : Int) < 5 by decide)
        refine ⟨_, rfl, _, _, _, _, rfl, rfl, hR8, r4, _, _, rfl, rfl, (by show (0 : Int) < 5; decide), _, rfl, by omega, by omega, fun D hD => ?_⟩
        have ul1 : 1 ≤ us.length := by omega
        refine comp_by (rs.getD 4 0 % 5).toNat (fun i σ' H' => (∃ v, σ' = [v, some (.ref wa), some (.ref rw_), some (.ref a)]) ∧ Same H8 H' ∧ ∃ ks : List Key, H' D = some (.lst (ks.map kV)) ∧ ks.length = i ∧ ∀ t ∈ ks, TmOk t ∧ varK t = false) ⟨⟨_, rfl⟩, same_upd hD, [], upd_same, rfl, fun _ z => nomatch z⟩ (fun i σ' H' hi p => hi) (fun σ' H' p => ⟨Nat.le_refl _, ?_⟩) (fun i σ' H' hi p x H2 y => ?_)
        · obtain ⟨_, sm, ks, e, kl, hk⟩ := p
          have hR9 := sm.seq hR8
          have hw9 := sm _ _ hw8
          obtain ⟨z1, hz1, oz1⟩ := word (rs.getD 1 0)
          refine ⟨_, rfl, _, rfl, _, _, _, _, rfl, rfl, hR9, r1, _, _, rfl, rfl, (by show (0 : Int) < 5; decide), _, _, _, _, rfl, rfl, SqL.of hw9, hz1, ?_⟩
          refine ⟨_, rfl, _, rfl, _, _, _, _, rfl, rfl, hR9, r0, _, _, rfl, rfl, (by show (0 : Int) < 5; decide), _, _, _, _, rfl, rfl, SqL.of hw9, hz0, _, rfl, _, _, rfl, .inl ⟨SqL.of e, fun l hl' => ?_⟩⟩
          have u1 := same_upd (o := HO.tup (ks.map kV)) hl'
          refine ⟨by show 3 ≤ sizeLine; decide, fun r hr' => ?_⟩
          have u2 := same_upd (o := HO.tup [V.str z1, .str z0, .ref l]) hr'
          have er := upd_same (H := upd H' l (.tup (ks.map kV))) (a := r) (o := HO.tup [V.str z1, .str z0, .ref l])
          have el := u2 _ _ (upd_same (H := H') (a := l) (o := HO.tup (ks.map kV)))
          have S9 := sm.trans (u1.trans u2)
          generalize upd (upd H' l (.tup (ks.map kV))) r (.tup [V.str z1, .str z0, .ref l]) = H9 at *
          have lz1 := (txtB_le oz1.1).2
          have rk := rlen ks (by omega) fun t h => (hk t h).1
          refine ⟨_, rfl, _, _, _, _, rfl, rfl, SqT.of er, atI_nat (j := 0) rfl, _, _, rfl, rfl, Nat.le_trans (show _ ≤ 2000 by rw [show (": " : Str).length = 2 by decide +kernel]; omega) (by decide), ?_⟩
          refine ⟨_, rfl, _, _, _, _, rfl, rfl, SqT.of er, atI_nat (j := 1) rfl, _, _, rfl, rfl, Nat.le_trans (show _ ≤ 2000 by rw [Str.length_append, show (": " : Str).length = 2 by decide +kernel]; omega) (by decide), ?_⟩
          refine ⟨_, rfl, _, _, _, _, rfl, rfl, SqT.of er, atI_nat (j := 2) rfl, l, ks, rfl, SqT.of el, by omega, fun t h => (hk t h).1, fun H10 s10 => ?_⟩
          refine ⟨_, _, rfl, rfl, Nat.le_trans (show _ ≤ 2000 by rw [Str.length_append, Str.length_append, show (": " : Str).length = 2 by decide +kernel]; omega) (by decide), ?_⟩
          refine ⟨_, rfl, rfl, _, rfl, iteFb (by show decide (V.int (is.getD 1 0 % 3) = V.int 2) = false; rw [ek]; rfl) ?_⟩
          have S10 := sQ.trans (S9.trans s10)
          refine hC _ _ ⟨p, wa, is, us, is.getD 1 0 % 3, _, factD z1 z0 ks, _, _, _, _, rfl, sA.trans S10, S10 _ _ hp4, l6, S10 _ _ hw4, ul, hus, kd0, kd3, by rw [ek, str_assoc3]; exact .fact oz1 oz0 (by omega) (fun t h => (hk t h).1) fun t h => (hk t h).2, .tup (SqT.of (s10 _ _ er)) (.cons (.str _ oz1.2) (.cons (.str _ oz0.2) (.cons (.tup (SqT.of (s10 _ _ el)) (dats_tm fun t h => (hk t h).1)) .nil))), ?_⟩
          rw [Str.length_append, Str.length_append, Str.length_append, show (": " : Str).length = 2 by decide +kernel]
          omega
        · obtain ⟨⟨v, rfl⟩, sm, ks, e, kl, hk⟩ := p
          obtain ⟨rfl, rfl⟩ := y
          have hi4 : i < 4 := by omega
          have ai : atI (rs.map V.int) (0 + (i : Int)) = some (V.int (rs.getD i 0)) := by
            rw [show (0 + (i : Int) : Int) = ((i : Nat) : Int) by omega]
            exact at_ints (by omega)
          refine ⟨_, rfl, _, rfl, _, _, _, _, rfl, rfl, sm.seq hR8, ai, _, rfl, a, ns, 2, rfl, sm.seq hA8, by decide, _, _, rfl, rfl, ?_⟩
          refine ⟨_, rfl, _, wa, us, rfl, SqL.of (sm _ _ hw8), ul1, hus, fun t H3 s3 ht hv _ => ?_⟩
          refine ⟨_, s3 _ _ e, by rw [List.length_map, kl]; exact small1000 (by omega), ⟨_, rfl⟩, (sm.trans s3).set hD, ks ++ [t], by rw [upd_same, List.map_append]; rfl, by rw [List.length_append, kl]; rfl, fun x hx => ?_⟩
          rcases List.mem_append.mp hx with hx | hx
          · exact hk x hx
          · rw [List.mem_singleton.mp hx]
            exact ⟨ht, hv⟩
      · have nk : is.getD 1 0 % 3 ≠ 1 := vin hk1
        refine ⟨_, rfl, rfl, _, rfl, ite2 (fun hk2 => ?_) (fun hk2 => ?_)⟩
        · have ek : is.getD 1 0 % 3 = 2 := of_int hk2
          have rl9 : RlV H8 (.ref q1) h As Cs := RlV.same (s7.trans s8) ⟨q1, rb, rc, .ref q0, xs, ys, rfl, h1, ⟨q0, p0, rfl, hq0, hp0⟩, h3, h4, h5, h6⟩
          refine ⟨_, rfl, ?_⟩
          refine ⟨_, rfl, _, h, As, Cs, rfl, rl9.s, g, fun H9 s9 => ?_⟩
          exact hC _ _ ⟨p, wa, is, us, is.getD 1 0 % 3, _, ruleD h As Cs, _, _, _, _, rfl, S8.trans s9, (sQ.trans s9) _ _ hp4, l6, (sQ.trans s9) _ _ hw4, ul, hus, kd0, kd3, by rw [ek]; exact .rule g safe, dat_rule g (rl9.same s9), rule_short g la lc⟩
        · have ek : is.getD 1 0 % 3 = 0 := by
            have := vin hk2
            omega
          have aok : AOk (z0, h.2) := ⟨oz0, g.1.2.1, g.1.2.2⟩
          refine hC _ _ ⟨p, wa, is, us, is.getD 1 0 % 3, _, atomD (z0, h.2), _, _, _, _, rfl, S8, sQ _ _ hp4, l6, sQ _ _ hw4, ul, hus, kd0, kd3, by rw [ek]; exact .atom (A := (z0, h.2)) aok, dat_atom aok ⟨t7, p0, rfl, et8, s8 _ _ hp7⟩, ?_⟩
          rw [Str.length_append]
          omega
theorem txt_mk {K : PySem.W.Frag} {h : Heap} {mg : Str → Option Value} (X : K.In h) (G : h.Ns mainGlobals mg) {y0 : Tok} {y1 : Tok} {y2 : Tok} {y3 : Tok} {y4 : Tok} {y5 : Tok} {y6 : Tok} {y7 : Tok} {y8 : Tok} {y9 y10 y11 : Tok} {y12 : Addr} {y13 : Option Addr} {y14 : Nat} {y15 : Array (Option Value)}
    (y16 : PySem.W.nsIn K mainGlobals "ValueError" = some none)
    (y17 : PySem.W.nsIn K mainGlobals "all" = some none)
    (y18 : PySem.W.nsIn K mainGlobals "bool" = some none)
    (y19 : PySem.W.nsIn K mainGlobals "int" = some none)
    (y20 : PySem.W.nsIn K mainGlobals "isinstance" = some none)
    (y21 : PySem.W.nsIn K mainGlobals "len" = some none)
    (y22 : PySem.W.nsIn K mainGlobals "range" = some none)
    (y23 : PySem.W.nsIn K mainGlobals "str" = some none)
    (y24 : PySem.W.nsIn K mainGlobals "tuple" = some none)
    (y25 : PySem.W.nsIn K mainGlobals "zip" = some none)
    (y26 : PySem.W.nsIn K mainGlobals "SMALL_LETTERS" = some (some (.str "abcdefghijklmnopqrstuvwxyz" y0)))
    (y27 : PySem.W.nsIn K mainGlobals "CAPITAL_LETTERS" = some (some (.str "ABCDEFGHIJKLMNOPQRSTUVWXYZ" y1)))
    (y28 : PySem.W.nsIn K mainGlobals "FURTHER_SIGNS" = some (some (.str "abcdefghijklmnopqrstuvwxyz0123456789" y2)))
    (y29 : PySem.W.nsIn K mainGlobals "MOST_SIGNS" = some (some (.int 12 y3)))
    (y30 : PySem.W.nsIn K mainGlobals "MOST_VALUES" = some (some (.int 4 y4)))
    (y31 : PySem.W.nsIn K mainGlobals "MOST_ATOMS" = some (some (.int 3 y5)))
    (y32 : PySem.W.nsIn K mainGlobals "MOST_CHOICES" = some (some (.int 3 y6)))
    (y33 : PySem.W.nsIn K mainGlobals "FIGURES" = some (some (.str "0123456789" y7)))
    (y34 : PySem.W.nsIn K mainGlobals "MOST_FIGURES" = some (some (.int 60 y8)))
    (y35 : PySem.W.nsIn K mainGlobals "SIGNS" = some (some (.ref y12)))
    (y36 : K.lookup y12 = some ⟨.type "tuple", y13, .seq #[.str "=" y9, .str "!=" y10, .str "<" y11] y14, y15⟩)
    (y37 : FiK K "is_whole" s_is_whole)
    (y38 : FiK K "is_text_begun_by" s_is_text_begun_by)
    (y39 : FiK K "is_word" s_is_word)
    (y40 : FiK K "is_var" s_is_var)
    (y41 : FiK K "is_value" s_is_value)
    (y42 : FiK K "is_tuple_of_up_to" s_is_tuple_of_up_to)
    (y43 : FiK K "is_tuple_of_just" s_is_tuple_of_just)
    (y44 : FiK K "is_term" s_is_term)
    (y45 : FiK K "are_terms" s_are_terms)
    (y46 : FiK K "is_atom" s_is_atom)
    (y47 : FiK K "are_atoms" s_are_atoms)
    (y48 : FiK K "is_choice" s_is_choice)
    (y49 : FiK K "are_choices" s_are_choices)
    (y50 : FiK K "variables_in" s_variables_in)
    (y51 : FiK K "variables_of_body" s_variables_of_body)
    (y52 : FiK K "are_known" s_are_known)
    (y53 : FiK K "is_rule" s_is_rule)
    (y54 : FiK K "ask_written" s_ask_written)
    (y55 : FiK K "ask_text" s_ask_text)
    (y56 : FiK K "are_figures" s_are_figures)
    (y57 : FiK K "is_written_number" s_is_written_number)
    (y58 : FiK K "read_number" s_read_number)
    (y59 : FiK K "read_word" s_read_word)
    (y60 : FiK K "read_term" s_read_term)
    (y61 : FiK K "read_terms" s_read_terms)
    (y62 : FiK K "read_atom" s_read_atom)
    (y63 : FiK K "read_place" s_read_place)
    (y64 : FiK K "read_fact" s_read_fact)
    (y65 : FiK K "read_choice" s_read_choice)
    (y66 : FiK K "many_atoms" s_many_atoms)
    (y67 : FiK K "read_body" s_read_body)
    (y68 : FiK K "read_rule" s_read_rule)
    (y69 : FiK K "_law_cell_at" s__law_cell_at)
    (y70 : FiK K "_law_stream" s__law_stream)
    (y71 : FiK K "_law_word" s__law_word)
    (y72 : FiK K "_law_words" s__law_words)
    (y73 : FiK K "_law_number" s__law_number)
    (y74 : FiK K "_law_value" s__law_value)
    (y75 : FiK K "_law_term" s__law_term)
    (y76 : FiK K "_law_written" s__law_written)
    (y77 : FiK K "_law_same" s__law_same)
    (y78 : FiK K "_law_rule" s__law_rule)
    (y79 : FiK K "_law_line" s__law_line)
    (y80 : FiK K "_law_read" s__law_read)
    (y81 : FiK K "_law_refused" s__law_refused)
    (y82 : FiK K "_law_refused_by_any" s__law_refused_by_any)
    (y83 : FiK K "_law_no_term" s__law_no_term)
    (y84 : FiK K "_law_no_line" s__law_no_line)
    (y85 : FiK K "_law_taken_out" s__law_taken_out)
    (y86 : FiK K "_law_spoiled" s__law_spoiled)
    (y87 : FiK K "law" s_law)
    (y88 : XiK K "NoFact")
    (y89 : XiK K "NoName")
    (y90 : XiK K "NoRounds")
    (y91 : XiK K "NoRule")
    (y92 : XiK K "NoText")
    (y93 : XiK K "NoWorth")
    (y94 : XiK K "TooMuch")
    (y95 : XiK K "WhyError")
    (y96 : PiK K "NoText" "NoFact" false)
    (y97 : PiK K "NoText" "NoName" false)
    (y98 : PiK K "NoText" "NoRounds" false)
    (y99 : PiK K "NoText" "NoRule" false)
    (y100 : PiK K "NoText" "NoText" true)
    (y101 : PiK K "NoText" "NoWorth" false)
    (y102 : PiK K "NoText" "TooMuch" false)
    (y103 : PiK K "NoText" "WhyError" true) : Txt K mg :=
  ⟨PySem.W.mg_none_of X G y16,
    PySem.W.mg_none_of X G y17,
    PySem.W.mg_none_of X G y18,
    PySem.W.mg_none_of X G y19,
    PySem.W.mg_none_of X G y20,
    PySem.W.mg_none_of X G y21,
    PySem.W.mg_none_of X G y22,
    PySem.W.mg_none_of X G y23,
    PySem.W.mg_none_of X G y24,
    PySem.W.mg_none_of X G y25,
    ⟨_, PySem.W.mg_of X G y26⟩,
    ⟨_, PySem.W.mg_of X G y27⟩,
    ⟨_, PySem.W.mg_of X G y28⟩,
    ⟨_, PySem.W.mg_of X G y29⟩,
    ⟨_, PySem.W.mg_of X G y30⟩,
    ⟨_, PySem.W.mg_of X G y31⟩,
    ⟨_, PySem.W.mg_of X G y32⟩,
    ⟨_, PySem.W.mg_of X G y33⟩,
    ⟨_, PySem.W.mg_of X G y34⟩,
    (by rw [cA_of (PySem.W.mg_of X G y35)]; exact PySem.W.mg_of X G y35),
    (by rw [cA_of (PySem.W.mg_of X G y35)]; exact tupC_mk y36 (by show 3 ≤ sizeLine; decide) (.cons ⟨_, rfl⟩ (.cons ⟨_, rfl⟩ (.cons ⟨_, rfl⟩ .nil)))),
    y37.top X G (fun _ _ _ _ _ _ => us1 fun _ => rfl),
    y38.top X G (fun _ _ _ _ _ _ => us2 fun _ _ => rfl),
    y39.top X G (fun _ _ _ _ _ _ => us1 fun _ => rfl),
    y40.top X G (fun _ _ _ _ _ _ => us1 fun _ => rfl),
    y41.top X G (fun _ _ _ _ _ _ => us1 fun _ => rfl),
    y42.top X G (fun _ _ _ _ _ _ => us2 fun _ _ => rfl),
    y43.top X G (fun _ _ _ _ _ _ => us2 fun _ _ => rfl),
    y44.top X G (fun _ _ _ _ _ _ => us1 fun _ => rfl),
    y45.top X G (fun _ _ _ _ _ _ => us1 fun _ => rfl),
    y46.top X G (fun _ _ _ _ _ _ => us1 fun _ => rfl),
    y47.top X G (fun _ _ _ _ _ _ => us1 fun _ => rfl),
    y48.top X G (fun _ _ _ _ _ _ => us1 fun _ => rfl),
    y49.top X G (fun _ _ _ _ _ _ => us1 fun _ => rfl),
    y50.top X G (fun _ _ _ _ _ _ => us1 fun _ => rfl),
    y51.top X G (fun _ _ _ _ _ _ => us1 fun _ => rfl),
    y52.top X G (fun _ _ _ _ _ _ => us2 fun _ _ => rfl),
    y53.top X G (fun _ _ _ _ _ _ => us1 fun _ => rfl),
    y54.top X G (fun _ _ _ _ _ _ => us1 fun _ => rfl),
    y55.top X G (fun _ _ _ _ _ _ => us1 fun _ => rfl),
    y56.top X G (fun _ _ _ _ _ _ => us1 fun _ => rfl),
    y57.top X G (fun _ _ _ _ _ _ => us1 fun _ => rfl),
    y58.top X G (fun _ _ _ _ _ _ => us1 fun _ => rfl),
    y59.top X G (fun _ _ _ _ _ _ => us1 fun _ => rfl),
    y60.top X G (fun _ _ _ _ _ _ => us1 fun _ => rfl),
    y61.top X G (fun _ _ _ _ _ _ => us1 fun _ => rfl),
    y62.top X G (fun _ _ _ _ _ _ => us1 fun _ => rfl),
    y63.top X G (fun _ _ _ _ _ _ => us1 fun _ => rfl),
    y64.top X G (fun _ _ _ _ _ _ => us1 fun _ => rfl),
    y65.top X G (fun _ _ _ _ _ _ => us1 fun _ => rfl),
    y66.top X G (fun _ _ _ _ _ _ => us1 fun _ => rfl),
    y67.top X G (fun _ _ _ _ _ _ => us1 fun _ => rfl),
    y68.top X G (fun _ _ _ _ _ _ => us1 fun _ => rfl),
    y69.top X G (fun _ _ _ _ _ _ => us2 fun _ _ => rfl),
    y70.top X G (fun _ _ _ _ _ _ => us2 fun _ _ => rfl),
    y71.top X G (fun _ _ _ _ _ _ => us2 fun _ _ => rfl),
    y72.top X G (fun _ _ _ _ _ _ => us2 fun _ _ => rfl),
    y73.top X G (fun _ _ _ _ _ _ => us1 fun _ => rfl),
    y74.top X G (fun _ _ _ _ _ _ => us2 fun _ _ => rfl),
    y75.top X G (fun _ _ _ _ _ _ => us2 fun _ _ => rfl),
    y76.top X G (fun _ _ _ _ _ _ => us1 fun _ => rfl),
    y77.top X G (fun _ _ _ _ _ _ => us2 fun _ _ => rfl),
    y78.top X G (fun _ _ _ _ _ _ => us2 fun _ _ => rfl),
    y79.top X G (fun _ _ _ _ _ _ => us1 fun _ => rfl),
    y80.top X G (fun _ _ _ _ _ _ => us2 fun _ _ => rfl),
    y81.top X G (fun _ _ _ _ _ _ => us2 fun _ _ => rfl),
    y82.top X G (fun _ _ _ _ _ _ => us2 fun _ _ => rfl),
    y83.top X G (fun _ _ _ _ _ _ => us2 fun _ _ => rfl),
    y84.top X G (fun _ _ _ _ _ _ => us3 fun _ _ _ => rfl),
    y85.top X G (fun _ _ _ _ _ _ => us3 fun _ _ _ => rfl),
    y86.top X G (fun _ _ _ _ _ _ => us5 fun _ _ _ _ _ => rfl),
    y87.top X G (fun _ _ _ _ _ _ => us1 fun _ => rfl),
    y88.g X G,
    y88.at' X G,
    y89.g X G,
    y89.at' X G,
    y90.g X G,
    y90.at' X G,
    y91.g X G,
    y91.at' X G,
    y92.g X G,
    y92.at' X G,
    y93.g X G,
    y93.at' X G,
    y94.g X G,
    y94.at' X G,
    y95.g X G,
    y95.at' X G,
    y96.at' X G,
    y97.at' X G,
    y98.at' X G,
    y99.at' X G,
    y100.at' X G,
    y101.at' X G,
    y102.at' X G,
    y103.at' X G⟩
end Wy
open PySem PySem.W PyProof.Rows
namespace PySem.W.Fast
end PySem.W.Fast
namespace PySem.W.Fast
def tw6453434131486295250:=0
def tw18194894517937587200:=0
def tw15460315763602866478:=0
def tw2503702412290389149:=0
def tw1297364859335821134:=0
def tw2087787182326320543:=0
def tw10742205919202587702:=0
def tw1333748780277592074:=0
def tw15603881236246796978:=0
def tw14914085071813598941:=0
def tw8584048681546354032:=0
def tw18162165143660830210:=0
def tw9912422128247824025:=0
def tw5760919084951908581:=0
def tw15972560355586268197:=0
def tw13002600865812107390:=0
def tw15080666959740334960:=0
def tw285350877007319856:=0
def tw14621600063344003515:=0
def tw5179724147241263842:=0
def tw1719743391025024840:=0
def tw13057655726350454071:=0
def tw4494645299274187842:=0
def tw10049489780483220065:=0
def tw6942631065026841760:=0
def tw3305664540978359182:=0
def tw13535506478870903780:=0
def tw3847608892400325247:=0
def tw6424563240556185906:=0
def tw10480893430076891678:=0
def tw784617867614010349:=0
def tw8796275590660813442:=0
def tw18095607300774921806:=0
def tw9339636030594905559:=0
def tw16245198403138748501:=0
def tw2442500322745038932:=0
def tw17601283206654580660:=0
def tw14857665776374874330:=0
def tw6238719777144763648:=0
def tw2495625271865983222:=0
def tw10536145593163630585:=0
def tw9035453192784908475:=0
def tw5555870347828693788:=0
def tw14070384465081061770:=0
def tw759246727245842255:=0
def tw5991881613499180783:=0
def tw4255930883275600609:=0
def tw12517119141959747937:=0
def tw16467695468400384435:=0
def tw18074429418784903617:=0
def tw3118780976814238139:=0
def tw8440621114893282080:=0
def tw10106095497409397778:=0
def tw13107215564462134408:=0
def tw18058212317509530994:=0
def tw8095310876444296743:=0
def tw2253709700954945435:=0
def tw7857309971945869320:=0
def tw15712049476434011228:=0
def tw17190509123156369925:=0
def tw12140518310510074392:=0
def tw6691442108395142297:=0
def tw18117873139636108805:=0
def tw5936333358701042522:=0
def tw8434020089651023360:=0
def tw13331452593334195166:=0
def tw11974533265327843510:=0
def tw14116790363293454663:=0
def tw1511549810690657582:=0
def tw6102206703695296964:=0
def tw14148582524974588752:=0
def tw9456813548757698379:=0
def tw13787044057834351839:=0
def tw8169387828796632353:=0
def tw8181800089501054736:=0
def tw9442583190414725919:=0
def tw15078509622238824580:=0
def tw16947184618255876410:=0
def tw10165802038785901661:=0
def tw14513706393875922767:=0
def tw17282624375495052968:=0
def tw1440673139629682789:=0
def tw6752894674139074756:=0
def tw6928347553822901026:=0
def tw14056427847855140503:=0
def tw12146365369374440112:=0
def tw833645493885422978:=0
def tw4540377313817795125:=0
def tw16678039889181805473:=0
def tw9993018557021038589:=0
def tw11900930601636901280:=0
def tw6454417428179475766:=0
def tw13041086860479567516:=0
def tw16211188207957398252:=0
def tw17987306230311965805:=0
def tw9903904298931736131:=0
def tw4469218212979584760:=0
def tw16348501937691456321:=0
def tw5725944700015940151:=0
def tw17602246264532908801:=0
def tw16259710118783287677:=0
def tw12569388527566468416:=0
def tw8663439007730027002:=0
def tw12253761899626826951:=0
def tw18132608276330579397:=0
def tw9342295091737227921:=0
def tw13055846259406578451:=0
def tw3732380680901030621:=0
def tw9983130044459504928:=0
def tw6886836922076143699:=0
def tw17918140016477172248:=0
def tw111221726249739188:=0
def tw4675088078781687848:=0
def tw9908623142958620854:=0
def tw9346559731751778160:=0
end PySem.W.Fast
set_option maxRecDepth 100000 in
set_option maxHeartbeats 0 in
theorem PySem.Challenge.cw_whyrows_k82_no_text_holds : PySem.Challenge.rw_whyrows_k82_no_text.Holds := by
  w_on; o_law; k_head; (case hw => w_witness2)
  k_fill
  refine L2.walk_ofK (l := PySem.Challenge.rw_whyrows_k82_no_text) (n := 63) (k := 12) (x := "_law_script") (CX := L2.CX0) (sp := Wy.sp_law) rfl (by decide) rfl ⟨rfl, by decide, by decide⟩ (fun w h Y => PySem.W.kIn_of Y) ?F ?S ?C
  case F =>
    intro w mg fa h KX G hmg
    have T : Wy.Txt (L2.KOf KX) mg := by
      dsimp only [L2.KOf]
      refine' Wy.txt_mk KX G ?_ ?_ ?_ ?_ ?_ ?_ ?_ ?_ ?_ ?_ ?_ ?_ ?_ ?_ ?_ ?_ ?_ ?_ ?_ ?_ ?_ ?_ ?_ ?_ ?_ ?_ ?_ ?_ ?_ ?_ ?_ ?_ ?_ ?_ ?_ ?_ ?_ ?_ ?_ ?_ ?_ ?_ ?_ ?_ ?_ ?_ ?_ ?_ ?_ ?_ ?_ ?_ ?_ ?_ ?_ ?_ ?_ ?_ ?_ ?_ ?_ ?_ ?_ ?_ ?_ ?_ ?_ ?_ ?_ ?_ ?_ ?_ ?_ ?_ ?_ ?_ ?_ ?_ ?_ ?_ ?_ ?_ ?_ ?_ ?_ ?_ ?_ ?_
      all_goals first | (refine' L2.fiK ?_ ?_ ?_ ?_; all_goals first | k_is | skip) | (refine' L2.miK ?_ ?_ ?_ ?_ ?_ ?_; all_goals first | k_is | skip) | (refine' L2.ciK ?_ ?_ ?_ ?_ ?_ ?_ ?_; all_goals first | k_is | skip) | (refine' L2.aiK ?_ ?_; all_goals first | k_is | skip) | (refine' L2.xiK ?_ ?_ ?_ ?_ ?_ ?_ ?_ ?_ ?_ ?_; all_goals first | k_is | k_exc | skip) | (refine' L2.piK ?_ ?_ ?_; all_goals first | k_is | skip) | k_is | skip
    exact Wy.ok_law T hmg
  case S => exact fun K H a ns hl hO hS => ⟨a, ns, rfl, hS, hl, fun _ => rfl⟩
  case C => exact fun _ _ _ _ z => z
