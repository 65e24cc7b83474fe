import PyProof.Rows.All
import Wide.All
import OpenK.AllK
import PySem.Challenge.RW_whyrows_k50_rows_of_facts
set_option Elab.async false
set_option linter.all false
set_option maxRecDepth 100000
set_option maxHeartbeats 4000000
theorem zr {α:Sort u} {a:α}:a=a:=rfl
def z00:=@PySem.F.slot_dict_keyiterator_next
def z01:=@PySem.wpAny_typeNameOfWhole_keyiter
def z02:=@PyProof.Rows.callWith_type1
def z03:=@Array.perm_iff_toList_perm
def z04:=@List.getElem?_append_right
def z05:=@List.getD_eq_getElem?_getD
def z06:=@List.getElem?_eq_some_iff
def z07:=@List.pairwise_iff_getElem
def z08:=@List.drop_eq_getElem_cons
def z09:=@List.extract_eq_take_drop
def z0a:=@Array.getElem?_eq_getElem
def z0b:=@List.mem_of_find?_eq_some
def z0c:=@List.getElem?_eq_getElem
def z0d:=@PySem.F.slot_list_append
def z0e:=@PySem.F.type_list_append
def z0f:=@List.pairwise_singleton
def z0g:=@PySem.F.plain_list_iadd
def z0h:=@PySem.F.plainAttrs_list
def z0i:=@Int.eq_ofNat_of_zero_le
def z0j:=@List.take_of_length_le
def z0k:=@PySem.Heap.get?_push_of_some
def z0l:=@PySem.Heap.get?_update_other
def z0m:=@Option.map_eq_some_iff
def z0n:=@Array.getElem?_eq_none
def z0o:=@List.find?_cons_of_pos
def z0p:=@List.find?_cons_of_neg
def z0q:=@List.perm_append_comm
def z0r:=@List.take_append_drop
def z0s:=@List.mem_append_right
def z0t:=@Array.getElem?_toList
def z0u:=@PySem.Heap.get?_update_self
def z0v:=@List.pairwise_append
def z0w:=@List.mem_iff_getElem
def z0x:=@Array.toList_extract
def z0y:=@List.mem_of_mem_drop
def z0z:=@List.mem_of_mem_take
def z10:=@List.mem_cons_of_mem
def z11:=@List.mem_append_left
def z12:=@List.mem_of_getElem?
def z13:=@Array.length_toList
def z14:=@Array.toList_append
def z15:=@PySem.Heap.SameBut.update
def z16:=@PySem.Heap.get?_push_size
def z17:=@PySem.mem_of_lookup
def z18:=@List.replicate_succ
def z19:=@List.map_congr_left
def z1a:=@List.toList_toArray
def z1b:=@Bool.false_eq_true
def z1c:=@Bool.false_ne_true
def z1d:=@List.mem_singleton
def z1e:=@Array.size_extract
def z1f:=@List.length_append
def z1g:=@List.mem_cons_self
def z1h:=@List.pairwise_cons
def z1i:=@Nat.lt_of_lt_of_le
def z1j:=@PySem.wpAny_Call_Name_kw
def z1k:=@List.zip_cons_cons
def z1l:=@List.filter_append
def z1m:=@Int.emod_lt_of_pos
def z1n:=@PySem.W.mg_none_of
def z1o:=@List.append_assoc
def z1p:=@List.getElem_take
def z1q:=@Array.toList_push
def z1r:=@List.ext_getElem?
def z1s:=@List.getElem?_map
def z1t:=@List.size_toArray
def z1u:=@PySem.wpAny_truthy_bool
def z1v:=@PySem.wpAny_pyIter_list
def z1w:=@Int.toNat_natCast
def z1x:=@List.flatten_cons
def z1y:=@PySem.wpAny_newObj_type
def z1z:=@List.length_range
def z20:=@PySem.wpAny_dictEntries
def z21:=@List.mapM_toArray
def z22:=@List.nodup_append
def z23:=@Nat.lt_succ_of_lt
def z24:=@List.foldl_append
def z25:=@List.length_take
def z26:=@List.length_drop
def z27:=@List.length_cons
def z28:=@List.filter_cons
def z29:=@List.getElem_mem
def z2a:=@Nat.lt_succ_self
def z2b:=@Bool.and_eq_true
def z2c:=@List.all_eq_true
def z2d:=@PySem.wpAny_call_entry
def z2e:=@List.any_eq_true
def z2f:=@Nat.succ_le_succ
def z2g:=@List.not_mem_nil
def z2h:=@List.take_length
def z2i:=@List.mem_append
def z2j:=@List.cons.injEq
def z2k:=@decide_eq_false
def z2l:=@List.mem_filter
def z2m:=@PySem.wpAny_passesOwn
def z2n:=@Bool.eq_iff_iff
def z2o:=@List.length_map
def z2p:=@List.append_nil
def z2q:=@List.nodup_cons
def z2r:=@List.find?_cons
def z2s:=@List.length_nil
def z2t:=@List.map_append
def z2u:=@PySem.W.kia_one
def z2v:=@PySem.wpAny_dictEpoch
def z2w:=@PySem.codeAny_builtin
def z2x:=@Int.emod_nonneg
def z2y:=@decide_eq_true
def z2z:=@List.mem_range
def z30:=@Bool.false_and
def z31:=@PySem.Heap.size_push
def z32:=@List.nodup_nil
def z33:=@List.take_succ
def z34:=@PySem.wpAny_setField
def z35:=@List.map_cons
def z36:=@PySem.wpAny_attempt
def z37:=@List.mem_cons
def z38:=@PySem.wpAny_holding
def z39:=@Nat.lt_irrefl
def z3a:=@List.any_cons
def z3b:=@PySem.W.mg_of
def z3c:=@decide_false
def z3d:=@Int.le_of_lt
def z3e:=@Int.le_trans
def z3f:=@Nat.zero_add
def z3g:=@Nat.le_of_lt
def z3h:=@PySem.Heap.lt_size
def z3i:=@Nat.ne_of_lt
def z3j:=@Nat.le_trans
def z3k:=@Nat.ne_of_gt
def z3l:=@PySem.codeAny_mono
def z3m:=@List.map_nil
def z3n:=@List.mem_map
def z3o:=@List.all_map
def z3p:=@List.map_map
def z3q:=@Nat.le_refl
def z3r:=@decide_true
def z3s:=@Int.le_refl
def z3t:=@Nat.zero_le
def z3u:=@PySem.wpAny_rule
def z3v:=@PySem.wpAny_pure
def z3w:=@PySem.wpAny_bind
def z3x:=@PySem.wpAny_mono
namespace Tim
open PySem PyProof.Rows
def kx (rk:Keyed ->Int) (xs:Array Keyed) (i:Nat):Int:=match xs[i]? with
 | some p=>rk p
 | none=>0
def Up (rk:Keyed ->Int) (xs:Array Keyed) (lo hi:Nat):Prop:=∀ i j,lo<=i ->i<=j ->j < hi ->kx rk xs i<=kx rk xs j
def Dn (rk:Keyed ->Int) (xs:Array Keyed) (lo hi:Nat):Prop:=∀ i j,lo<=i ->i<=j ->j < hi ->kx rk xs j<=kx rk xs i
theorem q2v {rk:Keyed ->Int} {xs:Array Keyed} {i:Nat} {p:Keyed} (h:xs[i]? =some p):kx rk xs i=rk p:=by unfold kx;rw [h]
theorem q41 {rk:Keyed ->Int} {xs ys:Array Keyed} {i j:Nat} (h:xs[i]? =ys[j]?):kx rk xs i=kx rk ys j:=by unfold kx;rw [h]
def LtOk (M:Model) (A:Around) (E:Value ->Shared ->Prop) (s:Shared) (kd:SortKind) (S:Keyed ->Prop) (rk:Keyed ->Int):Prop:=
 ∀ (x y:Keyed) (st:SortSt) (Q:Option Bool ->SortSt ->Prop),S x ->S y ->kindOf st=kd ->Q (some (decide (rk x < rk y))) st ->wpS M A E s (lt' x y) Q st
structure Mv (lo hi:Nat) (st st':SortSt):Prop where
 perm:(arrOf st').Perm (arrOf st)
 out:∀ k,k < lo\/ hi<=k ->(arrOf st')[k]? =(arrOf st)[k]?
 kind:kindOf st'=kindOf st
 pend:pendingOf st'=pendingOf st
 failed:failedOf st'=failedOf st
theorem Mv.refl (lo hi:Nat) (st:SortSt):Mv lo hi st st:=⟨Array.Perm.refl _,λ _ _=>rfl,rfl,rfl,rfl⟩
theorem Mv.trans {lo hi:Nat} {a b c:SortSt} (h:Mv lo hi a b) (k:Mv lo hi b c):Mv lo hi a c:=
 ⟨k.perm.trans h.perm,λ i hi=>(k.out i hi).trans (h.out i hi),k.kind.trans h.kind,k.pend.trans h.pend,k.failed.trans h.failed⟩
theorem Mv.wide {lo hi L J:Nat} {a b:SortSt} (h:Mv lo hi a b) (h1:L<=lo) (h2:hi<=J):Mv L J a b:=
 ⟨h.perm,λ k hk=>h.out k (by omega),h.kind,h.pend,h.failed⟩
theorem Mv.size {lo hi:Nat} {a b:SortSt} (h:Mv lo hi a b):(arrOf b).size=(arrOf a).size:=h.perm.size_eq
structure Sane (kd:SortKind) (S:Keyed ->Prop) (n:Nat) (st:SortSt):Prop where
 size:(arrOf st).size=n
 all:∀ p∈(arrOf st).toList,S p
 kind:kindOf st=kd
 failed:failedOf st=none
theorem Mv.sane {lo hi:Nat} {a b:SortSt} {kd:SortKind} {S:Keyed ->Prop} {n:Nat} (h:Mv lo hi a b) (k:Sane kd S n a):Sane kd S n b:=
 ⟨h.size.trans k.size,λ p hp=>k.all p ((z03.mp h.perm).mem_iff.mp hp),h.kind.trans k.kind,h.failed.trans k.failed⟩
theorem Sane.at {kd:SortKind} {S:Keyed ->Prop} {n:Nat} {st:SortSt} (rk:Keyed ->Int) (k:Sane kd S n st) {i:Nat} (hi:i < n):∃ p,(arrOf st)[i]? =some p/\S p/\kx rk (arrOf st) i=rk p:=by
 have J:i < (arrOf st).size:=by rw [k.size];exact hi
 have e:(arrOf st)[i]? =some (arrOf st)[i]:=getElem?_pos _ i J;exact ⟨_,e,k.all _ (by simp),q2v e⟩
theorem Mv.mirrored {lo hi i j:Nat} {st:SortSt} (h1:lo<=i) (h2:j<=hi) (J:j<=(arrOf st).size):Mv lo hi st (setArr st (mirror (arrOf st) i j ((j - i) / 2))):=
 ⟨mirror_perm _ _ _ _,λ k hk=>(getElem?_mirror_all (i:=i) J k).trans (if_neg (by (clear J;omega))),rfl,rfl,rfl⟩
theorem Mv.sunk {lo hi J d:Nat} {st:SortSt} (h1:lo+d<=J) (h2:J < hi) (L:J < (arrOf st).size):Mv lo hi st (setArr st (bubble (arrOf st) J d)):=
 ⟨bubble_perm _ _ _,λ k hk=>(getElem?_bubble L d (by (clear hk L h2;omega)) k).trans (by rw [if_neg (by (clear L;omega)),if_neg (by (clear L;omega))]),rfl,rfl,rfl⟩
theorem q8h (rk:Keyed ->Int) {xs:Array Keyed} {i j:Nat} (hj:j<=xs.size) (k:Nat):
  kx rk (mirror xs i j ((j - i) / 2)) k=if i<=k/\k < j then kx rk xs (i+j - 1 - k) else kx rk xs k:=by
 have e:=getElem?_mirror_all (i:=i) hj k;by_cases c:i<=k/\k < j
 ·rw [if_pos c] at e ⊢;exact q41 e
 ·rw [if_neg c] at e ⊢;exact q41 e
theorem q2k (rk:Keyed ->Int) {xs:Array Keyed} {i j:Nat} (J:j<=xs.size) (L:∀ k,i<=k ->k < j ->kx rk xs k=kx rk xs (j - 1)) (k:Nat):
  kx rk (mirror xs i j ((j - i) / 2)) k=kx rk xs k:=by
 rw [q8h rk J];by_cases c:i<=k/\k < j
 ·rw [if_pos c,L _ (by (clear J;omega)) (by (clear J;omega)),L k c.1 c.2]
 ·rw [if_neg c]
theorem qdu (rk:Keyed ->Int) {xs:Array Keyed} {J d:Nat} (hs:J < xs.size) (hd:d<=J) (k:Nat):
  kx rk (bubble xs J d) k=if k=J - d then kx rk xs J else if J - d < k/\k<=J then kx rk xs (k - 1) else kx rk xs k:=by
 have e:=getElem?_bubble hs d hd k;by_cases c:k=J - d
 ·rw [if_pos c] at e ⊢;exact q41 e
 ·rw [if_neg c] at e ⊢;by_cases c2:J - d < k/\k<=J
  ·rw [if_pos c2] at e ⊢;exact q41 e
  ·rw [if_neg c2] at e ⊢;exact q41 e
section
variable {M:Model} {A:Around} {E:Value ->Shared ->Prop} {s:Shared} {kd:SortKind} {S:Keyed ->Prop} {rk:Keyed ->Int} {n:Nat}
theorem q8i (L:LtOk M A E s kd S rk) {st:SortSt} (B:Sane kd S n st) {i j:Nat} (hi:i < n) (hj:j < n) {Q:Option Bool ->SortSt ->Prop}
  (h:Q (some (decide (kx rk (arrOf st) i < kx rk (arrOf st) j))) st):wpS M A E s (ltAt' i j) Q st:=by
 obtain ⟨p,e1,s1,k1⟩:=B.at rk hi;obtain ⟨q,e2,s2,k2⟩:=B.at rk hj;rw [k1,k2] at h;rw [ltAt'_eq];refine wpS_bind (wpS_get ?_);show wpS M A E s (elem' (arrOf st) i >>=λ x=>elem' (arrOf st) j >>=λ y=>lt' x y) Q st;rw [elem'_eq,elem'_eq,e1,e2];exact wpS_bind (wpS_pure (wpS_bind (wpS_pure (L p q st Q s1 s2 B.kind h))))
theorem q63 {st:SortSt} {i j:Nat} {Q:Unit ->SortSt ->Prop} (h:Q () (setArr st (mirror (arrOf st) i j ((j - i) / 2)))):wpS M A E s (reverseSlice' i j) Q st:=by
 rw [reverseSlice'_eq];exact wpS_modify h
def q8j (lo a nrem:Nat):StateT SortSt Sem AscSt:=
 forIn [a:nrem] ((none,a):AscSt) λ _ c=>do
  let x <- ltAt' (lo+c.snd) (lo+c.snd - 1)
  match x with
  | some b=>if b=true then pure (ForInStep.done (none,c.snd)) else pure (ForInStep.yield (none,c.snd+1))
  | _=>pure (ForInStep.done (some none,c.snd))
def q8k (lo m nrem:Nat):StateT SortSt Sem (Option Nat):=do
 reverseSlice' lo (lo+m)
 let c <- q8j lo m nrem
 match c.fst with
 | some r=>pure r
 | none=>pure (some c.snd)
def qbq (lo m nrem:Nat):StateT SortSt Sem DescSt:=
 forIn [m:nrem] ((none,m,0):DescSt) λ _ c=>do
  let x <- ltAt' (lo+c.snd.fst) (lo+c.snd.fst - 1)
  match x with
  | some b=>
   if b=true then
    if c.snd.snd > 0 then do
     reverseSlice' (lo+c.snd.fst - (c.snd.snd+1)) (lo+c.snd.fst)
     pure (ForInStep.yield (none,c.snd.fst+1,0))
    else pure (ForInStep.yield (none,c.snd.fst+1,0))
   else do
    let y <- ltAt' (lo+c.snd.fst - 1) (lo+c.snd.fst)
    match y with
    | some g=>if g=true then pure (ForInStep.done (none,c.snd.fst,c.snd.snd)) else pure (ForInStep.yield (none,c.snd.fst+1,c.snd.snd+1))
    | _=>pure (ForInStep.done (some none,c.snd.fst,c.snd.snd))
  | _=>pure (ForInStep.done (some none,c.snd.fst,c.snd.snd))
def q8l (lo m nrem:Nat):StateT SortSt Sem (Option Nat):=do
 liftM (rule "list.sort.descending-run")
 let c <- qbq lo (m+1) nrem
 match c.fst with
 | some r=>pure r
 | none=>
  if c.snd.snd > 0 then do
   reverseSlice' (lo+c.snd.fst - (c.snd.snd+1)) (lo+c.snd.fst)
   q8k lo c.snd.fst nrem
  else q8k lo c.snd.fst nrem
theorem qhv (lo J:Nat):countRun' lo J=(do
  let c <- q8j lo 1 J
  match c.fst with
  | some r=>pure r
  | none=>
   if (c.snd==J)=true then pure (some c.snd)
   else if c.snd > 1 then do
    let x <- ltAt' lo (lo+c.snd - 1)
    match x with
    | some L=>if L=true then pure (some c.snd) else do
      reverseSlice' lo (lo+c.snd)
      q8l lo c.snd J
    | _=>pure none
   else q8l lo c.snd J):=by
 rw [countRun'_eq]
 dsimp only
 unfold q8l q8k qbq q8j
 congr 1
 funext c
 obtain ⟨r,m⟩:=c;cases r with
 | some r=>rfl
 | none=>
  dsimp only
  split
  ·rfl
  ·split
   ·congr 1
    funext x
    cases x with
    | none=>rfl
    | some L=>
     dsimp only
     split
     ·rfl
     ·congr 1
      funext _u
      congr 1
      funext _v
      congr 1
      congr 1
      funext c2
      obtain ⟨r2,n2,q2⟩:=c2;cases r2 with
      | some r2=>rfl
      | none=>
       dsimp only
       split
       ·congr 1
        funext _w
        congr 1
        funext _z
        congr 1
        funext c3
        obtain ⟨r3,O⟩:=c3;cases r3 <;> rfl
       ·congr 1
        funext _z
        congr 1
        funext c3
        obtain ⟨r3,O⟩:=c3;cases r3 <;> rfl
   ·congr 1
    funext _v
    congr 1
    congr 1
    funext c2
    obtain ⟨r2,n2,q2⟩:=c2;cases r2 with
    | some r2=>rfl
    | none=>
     dsimp only
     split
     ·congr 1
      funext _w
      congr 1
      funext _z
      congr 1
      funext c3
      obtain ⟨r3,O⟩:=c3;cases r3 <;> rfl
     ·congr 1
      funext _z
      congr 1
      funext c3
      obtain ⟨r3,O⟩:=c3;cases r3 <;> rfl
theorem qfj (L:LtOk M A E s kd S rk) {st:SortSt} {lo a O:Nat} {Q:AscSt ->SortSt ->Prop} (B:Sane kd S n st) (hn:lo+O<=n) (ha:1<=a) (Y:a<=O) (hs:Up rk (arrOf st) lo (lo+a))
  (h:∀ m,a<=m ->m<=O ->Up rk (arrOf st) lo (lo+m) ->(m=O\/ kx rk (arrOf st) (lo+m) < kx rk (arrOf st) (lo+m - 1)) ->Q (none,m) st):wpS M A E s (q8j lo a O) Q st:=by
 unfold q8j;refine wpS_forRange (I:=λ x c a3=>a3=st/\c=(none,x)/\Up rk (arrOf st) lo (lo+x)) ?turn ?last ⟨zr,zr,hs⟩
 case last=>
  rintro c a3 ⟨rfl,rfl,a0⟩;have e:max a O=O:=by (clear ha hn;omega)
  rw [e] at a0 ⊢;exact h O Y (z3q _) a0 (.inl rfl)
 case turn=>
  rintro x c a3 Z a2 ⟨rfl,rfl,a0⟩
  dsimp only
  refine wpS_bind (q8i L B (by (clear Z Y ha;omega)) (by (clear Z Y ha;omega)) ?_);by_cases J:kx rk (arrOf a3) (lo+x) < kx rk (arrOf a3) (lo+x - 1)
  ·simp only [J,z3r,if_true];exact wpS_pure (h x Z (by (clear J Z Y ha hn;omega)) a0 (.inr J))
  ·simp only [J,z3c,z1b,if_false];refine wpS_pure ⟨zr,zr,λ i j h1 h2 h3=> ?_⟩;by_cases hj:j < lo+x
   ·exact a0 i j h1 h2 hj
   ·have a5:j=lo+x:=by (clear h2 h1 J a2 Z Y ha hn;omega)
    subst a5;by_cases hi:i=lo+x
    ·subst hi
     (clear h2 h1 hj h3 J a2 Z Y ha hn;omega)
    ·have:=a0 i (lo+x - 1) h1 (by (clear hj h3 h1 J a2 Z Y ha hn;omega)) (by (clear hi hj h3 h2 h1 J a2 Y hn;omega))
     (clear hi hj h3 h2 h1 a2 Z Y ha hn;omega)
theorem qfk (L:LtOk M A E s kd S rk) {st:SortSt} {lo m J:Nat} {Q:Option Nat ->SortSt ->Prop} (B:Sane kd S n st) (hn:lo+J<=n) (h1:1<=m) (Y:m<=J) (hs:Dn rk (arrOf st) lo (lo+m))
  (h:∀ k Z,Mv lo (lo+J) st Z ->1<=k ->k<=J ->Up rk (arrOf Z) lo (lo+k) ->Q (some k) Z):wpS M A E s (q8k lo m J) Q st:=by
 unfold q8k;have O:lo+m<=(arrOf st).size:=by rw [B.size];(clear h1;omega)
 have v:Mv lo (lo+J) st (setArr st (mirror (arrOf st) lo (lo+m) ((lo+m - lo) / 2))):=Mv.mirrored (z3q _) (by (clear O h1 hn;omega)) O;refine wpS_bind (q63 (wpS_bind (qfj L (v.sane B) hn h1 Y ?_ λ k k1 k2 k3 _=>wpS_pure (h k _ v (by (clear k2 O Y hn;omega)) k2 k3))));intro i j a b c;show kx rk (mirror (arrOf st) lo (lo+m) ((lo+m - lo) / 2)) i<=kx rk (mirror (arrOf st) lo (lo+m) ((lo+m - lo) / 2)) j;rw [q8h rk O,q8h rk O,if_pos (by (clear O Y h1 hn;omega)),if_pos (by (clear O Y h1 hn;omega))];exact hs _ _ (by (clear b a O Y h1 hn;omega)) (by (clear c a O Y h1 hn;omega)) (by (clear c b O Y hn;omega))
theorem qoc (L:LtOk M A E s kd S rk) {st:SortSt} {lo m a2:Nat} {Q:DescSt ->SortSt ->Prop} (B:Sane kd S n st) (hn:lo+a2<=n) (h1:1<=m) (hm:m<=a2) (hs:Dn rk (arrOf st) lo (lo+m))
  (h:∀ k q Y,Mv lo (lo+a2) st Y ->m<=k ->k<=a2 ->Dn rk (arrOf Y) lo (lo+k) ->q+1<=k ->(∀ i,lo+k - (q+1)<=i ->i < lo+k ->kx rk (arrOf Y) i=kx rk (arrOf Y) (lo+k - 1)) ->Q (none,k,q) Y):
  wpS M A E s (qbq lo m a2) Q st:=by
 unfold qbq;refine wpS_forRange (I:=λ x c Y=>∃ q,c=(none,x,q)/\Mv lo (lo+a2) st Y/\Dn rk (arrOf Y) lo (lo+x)/\q+1<=x/\
  (∀ i,lo+x - (q+1)<=i ->i < lo+x ->kx rk (arrOf Y) i=kx rk (arrOf Y) (lo+x - 1))) ?turn ?last ⟨0,rfl,Mv.refl _ _ _,hs,by (clear hm hn;omega),λ i a b=>by rw [show i=lo+m - 1 by (clear hm h1 hn;omega)]⟩
 case last=>
  rintro c Y ⟨q,rfl,v,a5,hq,he⟩;have e:max m a2=a2:=by (clear hq h1 hn;omega)
  rw [e] at a5 hq he ⊢;exact h a2 q Y v hm (z3q _) a5 hq he
 case turn=>
  rintro x c Y O Z ⟨q,rfl,v,a5,hq,he⟩
  dsimp only
  have B':=v.sane B;have hz:lo+x<=(arrOf Y).size:=by rw [B'.size];(clear hq O hm h1;omega)
  refine wpS_bind (q8i L B' (by (clear hz hq O hm h1;omega)) (by (clear hz hq O hm h1;omega)) ?_);by_cases J:kx rk (arrOf Y) (lo+x) < kx rk (arrOf Y) (lo+x - 1)
  ·simp only [J,z3r,if_true];have more:∀ xs:Array Keyed,(∀ k,kx rk xs k=kx rk (arrOf Y) k) ->Dn rk xs lo (lo+(x+1)):=by
    intro xs hk i j a b c;rw [hk,hk];by_cases hj:j < lo+x
    ·exact a5 i j a b hj
    ·have a6:j=lo+x:=by (clear b a J hz hq Z O hm h1 hn;omega)
     subst a6;by_cases hi:i=lo+x
     ·subst hi
      (clear b a hj c J hz hq Z O hm h1 hn;omega)
     ·have:=a5 i (lo+x - 1) a (by (clear hj c a J hz hq Z O hm h1 hn;omega)) (by (clear hi hj c b a J hz hq Z hm hn;omega))
      (clear hi hj c b a hz hq Z O hm h1 hn;omega)
   by_cases a3:q > 0
   ·rw [if_pos a3];exact wpS_bind (q63 (wpS_pure ⟨0,rfl,v.trans (Mv.mirrored (by (clear a3 J hz Z O hm h1 hn;omega)) (by (clear a3 J hz hq O hm h1 hn;omega)) hz),more _ (q2k rk hz he),by (clear a3 J hz hq Z O hm h1 hn;omega),λ i a b=>by rw [show i=lo+(x+1) - 1 by (clear a3 J hz hq Z O hm h1 hn;omega)]⟩))
   ·rw [if_neg a3];exact wpS_pure ⟨0,rfl,v,more _ (λ _=>rfl),by (clear a3 J hz hq Z O hm h1 hn;omega),λ i a b=>by rw [show i=lo+(x+1) - 1 by (clear a3 J hz hq Z O hm h1 hn;omega)]⟩
  ·simp only [J,z3c,z1b,if_false];refine wpS_bind (q8i L B' (by (clear J hz hq O hm h1;omega)) (by (clear J hz hq O hm h1;omega)) ?_);by_cases a0:kx rk (arrOf Y) (lo+x - 1) < kx rk (arrOf Y) (lo+x)
   ·simp only [a0,z3r,if_true];exact wpS_pure (h x q Y v O (by (clear a0 J hz hq O hm h1 hn;omega)) a5 hq he)
   ·simp only [a0,z3c,z1b,if_false];have ex:kx rk (arrOf Y) (lo+x)=kx rk (arrOf Y) (lo+x - 1):=by (clear hz hq Z O hm h1 hn;omega)
    refine wpS_pure ⟨q+1,rfl,v,λ i j a b c=> ?_,by (clear ex a0 J hz Z O hm h1 hn;omega),λ i a b=> ?_⟩
    ·by_cases hj:j < lo+x
     ·exact a5 i j a b hj
     ·have a6:j=lo+x:=by (clear b a ex a0 J hz hq Z O hm h1 hn;omega)
      subst a6;by_cases hi:i=lo+x
      ·subst hi
       (clear b a hj c ex a0 J hz hq Z O hm h1 hn;omega)
      ·have:=a5 i (lo+x - 1) a (by (clear hj c a ex a0 J hz hq Z O hm h1 hn;omega)) (by (clear hi hj c b a ex a0 J hz hq Z hm hn;omega))
       (clear hi hj c b a ex J hz hq Z O hm h1 hn;omega)
    ·rw [show lo+(x+1) - 1=lo+x by (clear b a ex a0 J hz hq Z O hm h1 hn;omega)];by_cases hi:i=lo+x
     ·rw [hi]
     ·rw [ex];exact he i (by (clear hi b ex a0 J hz hq Z O hm h1 hn;omega)) (by (clear a ex a0 J hz hq Z O hm h1 hn;omega))
theorem qfl (L:LtOk M A E s kd S rk) {st:SortSt} {lo m O:Nat} {Q:Option Nat ->SortSt ->Prop} (B:Sane kd S n st) (hn:lo+O<=n) (Z:m+1<=O) (hs:Dn rk (arrOf st) lo (lo+(m+1)))
  (h:∀ k J,Mv lo (lo+O) st J ->1<=k ->k<=O ->Up rk (arrOf J) lo (lo+k) ->Q (some k) J):wpS M A E s (q8l lo m O) Q st:=by
 unfold q8l;refine wpS_bind (wpS_lift (z3u ⟨zr,?_⟩));refine wpS_bind (qoc L B hn (by (clear Z hn;omega)) Z hs λ k q J v k1 k2 a2 hq he=> ?_)
 dsimp only
 have B':=v.sane B;have hz:lo+k<=(arrOf J).size:=by rw [B'.size];(clear hq k1 Z;omega)
 by_cases Y:q > 0
 ·rw [if_pos Y];have v2:Mv lo (lo+O) J (setArr J (mirror (arrOf J) (lo+k - (q+1)) (lo+k) ((lo+k - (lo+k - (q+1))) / 2))):=Mv.mirrored (by (clear Y hz k2 k1 Z hn;omega)) (by (clear Y hz hq k1 Z hn;omega)) hz;refine wpS_bind (q63 (qfk L (v2.sane B') hn (by (clear Y hz hq k2 Z hn;omega)) k2 ?_ λ j a0 v3=>h j a0 ((v.trans v2).trans v3)));intro i j a b c;show kx rk (mirror (arrOf J) (lo+k - (q+1)) (lo+k) ((lo+k - (lo+k - (q+1))) / 2)) j<=kx rk (mirror (arrOf J) (lo+k - (q+1)) (lo+k) ((lo+k - (lo+k - (q+1))) / 2)) i;rw [q2k rk hz he,q2k rk hz he];exact a2 i j a b c
 ·rw [if_neg Y];exact qfk L B' hn (by (clear Y hz hq k2 Z hn;omega)) k2 a2 λ j a0 v3=>h j a0 (v.trans v3)
theorem qbr (L:LtOk M A E s kd S rk) {st:SortSt} {lo Z:Nat} {Q:Option Nat ->SortSt ->Prop} (B:Sane kd S n st) (hn:lo+Z<=n) (h1:1<=Z)
  (h:∀ k a3,Mv lo (lo+Z) st a3 ->1<=k ->k<=Z ->Up rk (arrOf a3) lo (lo+k) ->Q (some k) a3):wpS M A E s (countRun' lo Z) Q st:=by
 rw [qhv];refine wpS_bind (qfj L B hn (z3q 1) h1 (λ i j a b c=>by rw [show i=j by (clear h1 hn;omega)];exact z3s _) λ m m1 m2 hs Y=> ?_)
 dsimp only
 by_cases hm:m=Z
 ·rw [if_pos (by simpa using hm)];exact wpS_pure (h m st (Mv.refl _ _ _) m1 m2 hs)
 ·rw [if_neg (by simpa using hm)];have O:=Y.resolve_left hm;by_cases hg:m > 1
  ·rw [if_pos hg];refine wpS_bind (q8i L B (by (clear hg O hm Y m2 m1;omega)) (by (clear hg O hm Y m1;omega)) ?_);by_cases J:kx rk (arrOf st) lo < kx rk (arrOf st) (lo+m - 1)
   ·simp only [J,z3r,if_true];exact wpS_pure (h m st (Mv.refl _ _ _) m1 m2 hs)
   ·simp only [J,z3c,z1b,if_false];have hz:lo+m<=(arrOf st).size:=by rw [B.size];(clear J hg O hm Y m1 h1;omega)
    have a0:∀ k,lo<=k ->k < lo+m ->kx rk (arrOf st) k=kx rk (arrOf st) (lo+m - 1):=by
     intro k a b;have a1:=hs lo k (z3q _) a b;have a2:=hs k (lo+m - 1) a (by (clear a1 a hz J hg O hm Y m2 m1 h1 hn;omega)) (by (clear a1 b a hz J hg O hm Y m2 h1 hn;omega))
     (clear b a hz hg O hm Y m2 m1 h1 hn;omega)
    have v:Mv lo (lo+Z) st (setArr st (mirror (arrOf st) lo (lo+m) ((lo+m - lo) / 2))):=Mv.mirrored (z3q _) (by (clear hz J hg O hm Y m1 h1 hn;omega)) hz;refine wpS_bind (q63 (qfl L (v.sane B) hn (by (clear hz J hg O Y m1 h1 hn;omega)) ?_ λ j a7 v3=>h j a7 (v.trans v3)));intro i j a b c;show kx rk (mirror (arrOf st) lo (lo+m) ((lo+m - lo) / 2)) j<=kx rk (mirror (arrOf st) lo (lo+m) ((lo+m - lo) / 2)) i;rw [q2k rk hz a0,q2k rk hz a0];by_cases hj:j < lo+m
    ·rw [a0 i a (by (clear c a hz J hg O hm Y m2 m1 h1 hn;omega)),a0 j (by (clear hj c hz J hg O hm Y m2 m1 h1 hn;omega)) hj];exact z3s _
    ·have a5:j=lo+m:=by (clear b a hz J hg O hm Y m2 m1 h1 hn;omega)
     subst a5;by_cases hi:i=lo+m
     ·subst hi
      (clear b a hj c hz J hg O hm Y m2 m1 h1 hn;omega)
     ·rw [a0 i a (by (clear hj c a hz J hg O hm Y m2 m1 h1 hn;omega))]
      (clear hi hj c b a hz J hg O m2 m1 h1 hn;omega)
  ·rw [if_neg hg];have a6:m=1:=by (clear O hm Y m2 h1 hn;omega)
   subst a6;refine qfl L B hn (by (clear hg O Y m2 m1 hn;omega)) ?_ h;intro i j a b c;by_cases hi:i=j
   ·rw [hi];exact z3s _
   ·have e1:i=lo:=by (clear hg O hm Y m2 m1 h1 hn;omega)
    have e2:j=lo+1:=by (clear e1 hg O hm Y m2 m1 h1 hn;omega)
    subst e1 e2;have:i+1 - 1=i:=by (clear c hi b a O Y hn hg hm m2 m1 h1;omega)
    rw [this] at O
    (clear this c hi b a Y hn hg hm m2 m1 h1;omega)
theorem q8m (L:LtOk M A E s kd S rk) {st:SortSt} {lo m ok:Nat} {Q:Bool ->SortSt ->Prop} (B:Sane kd S n st) (hn:lo+m<=n) (hok:ok<=m) (hs:Up rk (arrOf st) lo (lo+ok))
    (h:∀ Z,Mv lo (lo+m) st Z ->Up rk (arrOf Z) lo (lo+m) ->Q true Z):wpS M A E s (binarySort' lo m ok) Q st:=by
  rw [binarySort'_eq];refine wpS_bind (wpS_mono (wpS_forRange (I:=λ k c Z=>c=(none,())/\Mv lo (lo+m) st Z/\Up rk (arrOf Z) lo (lo+min k m))
    (Q:=λ c Z=>c=(none,())/\Mv lo (lo+m) st Z/\Up rk (arrOf Z) lo (lo+m)) ?turn ?last ?first) ?after)
  case after=>
    rintro c Z ⟨rfl,v,a8⟩;exact wpS_pure (h Z v a8)
  case first=>
    refine ⟨zr,Mv.refl _ _ _,λ i j a b c=> ?_⟩;by_cases h0:ok=0
    · rw [show i=j by (clear hok hn;omega)]
      exact z3s _
    · exact hs i j a b (by (clear b a hok hn;omega))
  case last=>
    rintro c Z ⟨hc,v,a8⟩;refine ⟨hc,v,?_⟩
    rwa [show min (max (max ok 1) m) m=m by (clear hc hok hn;omega)] at a8
  case turn=>
    rintro k c Z J O ⟨rfl,v,a8⟩;have e0:min k m=k:=by (clear J hok hn;omega)
    rw [e0] at a8;have B':=v.sane B;refine wpS_bind (wpS_mono (wpS_forRange (I:=λ x c a5=>a5=Z/\∃ l r,c=(none,l,r)/\l<=r/\r<=k/\r - l<=k - x/\
        (∀ i,i < l ->kx rk (arrOf Z) (lo+i)<=kx rk (arrOf Z) (lo+k))/\(∀ i,r<=i ->i < k ->kx rk (arrOf Z) (lo+k) < kx rk (arrOf Z) (lo+i)))
      (Q:=λ c a5=>a5=Z/\∃ l r,c=(none,l,r)/\l<=k/\
        (∀ i,i < l ->kx rk (arrOf Z) (lo+i)<=kx rk (arrOf Z) (lo+k))/\(∀ i,l<=i ->i < k ->kx rk (arrOf Z) (lo+k) < kx rk (arrOf Z) (lo+i))) ?iturn ?ilast ?ifirst) ?iafter)
    case ifirst=>exact ⟨rfl,0,k,rfl,by (clear e0 O J hok hn;omega),by (clear e0 O J hok hn;omega),by (clear e0 O J hok hn;omega),λ i hi=>by (clear e0 O J hok hn;omega),λ i a b=>by (clear e0 O J hok hn;omega)⟩
    case ilast=>
      rintro c a5 ⟨rfl,l,r,rfl,a7,a0,hd,b0,a9⟩;have e:l=r:=by (clear a0 e0 O J hok hn;omega)
      subst e;exact ⟨zr,l,l,zr,a0,b0,a9⟩
    case iturn=>
      rintro x c a5 _ a2 ⟨rfl,l,r,rfl,a7,a0,hd,b0,a9⟩
      dsimp only
      by_cases a3:l >=r
      · rw [if_pos a3]
        have e:l=r:=by (clear hd a0 a2 e0 O J hok hn;omega)
        subst e;exact wpS_pure ⟨zr,l,l,zr,a0,b0,a9⟩
      · rw [if_neg a3]
        refine wpS_bind (q8i L B' (by (clear a3 hd a0 a7 a2 e0 J hok;omega)) (by (clear a3 hd a2 e0 J hok;omega)) ?_);by_cases Y:kx rk (arrOf a5) (lo+k) < kx rk (arrOf a5) (lo+(l+r) / 2)
        · simp only [Y,z3r,if_true]
          refine wpS_pure ⟨rfl,l,(l+r) / 2,rfl,by (clear Y a3 hd a0 a2 e0 O J hok hn;omega),by (clear Y a3 hd a2 e0 O J hok hn;omega),by (clear Y a3 a0 a7 a2 e0 O J hok hn;omega),b0,λ i a b=> ?_⟩;have:=a8 (lo+(l+r) / 2) (lo+i) (by (clear b a Y a3 hd a0 a7 a2 e0 O J hok hn;omega)) (by (clear b Y a3 hd a0 a7 a2 e0 O J hok hn;omega)) (by (clear a Y a3 hd a0 a7 a2 e0 O J hok hn;omega))
          (clear b a a3 hd a0 a7 a2 e0 O J hok hn;omega)
        · simp only [Y,z3c,z1b,if_false]
          refine wpS_pure ⟨rfl,(l+r) / 2+1,r,rfl,by (clear Y hd a0 a7 a2 e0 O J hok hn;omega),by (clear Y a3 hd a7 a2 e0 O J hok hn;omega),by (clear Y a3 a0 a7 a2 e0 O J hok hn;omega),λ i a=> ?_,a9⟩;have:=a8 (lo+i) (lo+(l+r) / 2) (by (clear a Y a3 hd a0 a7 a2 e0 O J hok hn;omega)) (by (clear Y a3 hd a0 a7 a2 e0 O J hok hn;omega)) (by (clear a Y hd a7 a2 e0 O J hok hn;omega))
          (clear a a3 hd a0 a7 a2 e0 O J hok hn;omega)
    case iafter=>
      rintro c a5 ⟨rfl,l,r,rfl,a6,b0,a9⟩;show wpS M A E s (moveDown' (lo+k) (lo+l) >>=λ _=>pure (ForInStep.yield (none,()))) _ a5;rw [moveDown'_eq];have hz:lo+k < (arrOf a5).size:=by rw [B'.size];(clear a6 e0 J hok;omega)
      refine wpS_bind (wpS_modify (wpS_pure ⟨rfl,v.trans (Mv.sunk (by (clear hz a6 e0 O J hok hn;omega)) (by (clear hz a6 e0 J hok hn;omega)) hz),?_⟩));rw [show min (k+1) m=k+1 by (clear hz a6 e0 J hok hn;omega)];intro i j a b c;show kx rk (bubble (arrOf a5) (lo+k) (lo+k - (lo+l))) i<=kx rk (bubble (arrOf a5) (lo+k) (lo+k - (lo+l))) j;rw [qdu rk hz (by (clear c b a hz a6 e0 O J hok hn;omega)),qdu rk hz (by (clear c b a hz a6 e0 O J hok hn;omega)),show lo+k - (lo+k - (lo+l))=lo+l by (clear c b a hz e0 O J hok hn;omega)];have b2:∀ q,lo<=q ->q < lo+l ->kx rk (arrOf a5) q<=kx rk (arrOf a5) (lo+k):=λ q a b=>by
        have:=b0 (q - lo) (by (clear c hz a6 e0 O J hok hn;omega))
        rwa [show lo+(q - lo)=q by (clear this b c hz a6 e0 O J hok hn;omega)] at this
      have b1:∀ q,lo+l<=q ->q < lo+k ->kx rk (arrOf a5) (lo+k) < kx rk (arrOf a5) q:=λ q a b=>by
        have:=a9 (q - lo) (by (clear b c hz a6 e0 O J hok hn;omega)) (by (clear a c hz a6 e0 O hok hn;omega))
        rwa [show lo+(q - lo)=q by (clear this b c hz a6 e0 O J hok hn;omega)] at this
      repeat' split
      all_goals first
        | (exfalso;omega)
        | exact z3s _
        | exact b2 _ (by (clear c b hz a6 e0 O J hok hn;omega)) (by (clear c a hz a6 e0 O J hok hn;omega))
        | exact z3d (b1 _ (by (clear c b a hz a6 e0 O J hok hn;omega)) (by (clear c b a hz a6 e0 O J hok hn;omega)))
        | exact a8 _ _ (by omega) (by omega) (by omega)
end
end Tim
namespace Tim
section
variable {α:Type} {rk:α ->Int} {as bs out:List α} {ia ib:Nat}
def Asc (rk:α ->Int) (l:List α):Prop:=l.Pairwise λ p q=>rk p<=rk q
structure Jn (rk:α ->Int) (as bs out:List α) (ia ib:Nat):Prop where
 perm:out.Perm (as.take ia++bs.take ib)
 asc:Asc rk out
 la:∀ p∈out,∀ q∈as.drop ia,rk p<=rk q
 lb:∀ p∈out,∀ q∈bs.drop ib,rk p<=rk q
theorem Jn.swap (h:Jn rk as bs out ia ib):Jn rk bs as out ib ia:=⟨h.perm.trans z0q,h.asc,h.lb,h.la⟩
theorem Jn.start:Jn rk as bs [] 0 0:=⟨by simp,List.Pairwise.nil,(λ _ z=>nomatch z),(λ _ z=>nomatch z)⟩
theorem qas (h:Asc rk as) (i:Nat):Asc rk (as.drop i):=List.Pairwise.sublist (List.drop_sublist i as) h
theorem q5g (as:List α) (i k:Nat):as.drop i=(as.drop i).take k++as.drop (i+k):=by
 rw [<- List.drop_drop,z0r]
theorem Jn.moreA (h:Jn rk as bs out ia ib) (ha:Asc rk as) (k:Nat) (hx:∀ p∈(as.drop ia).take k,∀ q∈bs.drop ib,rk p<=rk q):Jn rk as bs (out++(as.drop ia).take k) (ia+k) ib:=by
 have hd:=qas ha ia;rw [q5g as ia k] at hd;obtain ⟨d1,d2,d3⟩:=z0v.mp hd;have L:∀ q,q∈(as.drop ia).take k ->q∈as.drop ia:=λ q hq=>(List.take_sublist _ _).mem hq;have O:∀ q,q∈as.drop (ia+k) ->q∈as.drop ia:=λ q hq=>by
  rw [q5g as ia k];exact z0s _ hq
 refine ⟨?_,?_,λ p J q hq=> ?_,λ p J q hq=> ?_⟩
 ·rw [List.take_add,z1o];refine (h.perm.append_right _).trans ?_;rw [z1o];exact List.Perm.append_left _ z0q
 ·exact z0v.mpr ⟨h.asc,d1,λ p J q hq=>h.la p J q (L q hq)⟩
 ·rcases z2i.mp J with J | J
  ·exact h.la p J q (O q hq)
  ·exact d3 p J q hq
 ·rcases z2i.mp J with J | J
  ·exact h.lb p J q hq
  ·exact hx p J q hq
theorem Jn.done (h:Jn rk as bs out ia ib) (ha:Asc rk as) (hb:Asc rk bs) (hx:∀ p∈as.drop ia,∀ q∈bs.drop ib,rk p<=rk q):
  (out++as.drop ia++bs.drop ib).Perm (as++bs)/\Asc rk (out++as.drop ia++bs.drop ib):=by
 constructor
 ·refine ((h.perm.append_right _).append_right _).trans ?_;have e1:as=as.take ia++as.drop ia:=(z0r ..).symm;have e2:bs=bs.take ib++bs.drop ib:=(z0r ..).symm;refine List.Perm.trans ?_ (List.Perm.of_eq (show (as.take ia++as.drop ia)++(bs.take ib++bs.drop ib)=as++bs by rw [<- e1,<- e2]));simp only [z1o];refine List.Perm.append_left _ ?_;rw [<- z1o,<- z1o];exact List.Perm.append_right _ z0q
 ·refine z0v.mpr ⟨z0v.mpr ⟨h.asc,qas ha _,h.la⟩,qas hb _,λ p J q hq=> ?_⟩;rcases z2i.mp J with J | J
  ·exact h.lb p J q hq
  ·exact hx p J q hq
theorem Jn.done2 (h:Jn rk as bs out ia ib) (ha:Asc rk as) (hb:Asc rk bs) (hx:∀ p∈bs.drop ib,∀ q∈as.drop ia,rk p<=rk q):
  (out++bs.drop ib++as.drop ia).Perm (as++bs)/\Asc rk (out++bs.drop ib++as.drop ia):=
 let ⟨a,b⟩:=h.swap.done hb ha hx
 ⟨a.trans z0q,b⟩
theorem qd0 (h:Asc rk as):Asc (λ p=>- rk p) as.reverse:=by
 unfold Asc;rw [List.pairwise_reverse];exact List.Pairwise.imp (λ {p q} (z:rk p<=rk q)=>show - rk q<= - rk p by omega) h
theorem asc_rev' (h:Asc (λ p=>- rk p) as):Asc rk as.reverse:=by
 unfold Asc;rw [List.pairwise_reverse];exact List.Pairwise.imp (λ {p q} (z: - rk p<= - rk q)=>show rk q<=rk p by omega) h
theorem qfm (as:List α) (k:Nat) (h:k<=as.length):as.reverse.drop (as.length - k)=(as.take k).reverse:=by
 rw [List.drop_reverse]
 congr 1
 congr 1
 omega
theorem qqx (as:List α) (i k:Nat) (hi:i<=k) (h:k<=as.length):(as.reverse.drop (as.length - k)).take (k - i)=((as.drop i).take (k - i)).reverse:=by
 rw [qfm as k h,List.take_reverse,z25,Nat.min_eq_left h]
 congr 1
 rw [List.drop_take]
 congr 1
 ·omega
 ·congr 1
  omega
theorem qip (ha:Asc rk as) {i:Nat} {x:α} (hx:as[i]? =some x):∀ q∈as.drop i,rk x<=rk q:=by
 intro q hq;obtain ⟨j,hj,e⟩:=z0w.mp hq;rw [List.getElem_drop] at e;obtain ⟨hi,ex⟩:=z06.mp hx;subst e ex;rcases Nat.eq_zero_or_pos j with h | h
 ·subst h;exact z3s _
 ·exact z07.mp ha i (i+j) hi (by rw [z26] at hj;omega) (by omega)
theorem qiq (ha:Asc rk as) {i:Nat} {x:α} (hx:as[i]? =some x):∀ q∈as.take (i+1),rk q<=rk x:=by
 intro q hq;obtain ⟨j,hj,e⟩:=z0w.mp hq;rw [z1p] at e;obtain ⟨hi,ex⟩:=z06.mp hx;subst e ex;have hj':j<=i:=by rw [z25] at hj;omega
 rcases Nat.lt_or_ge j i with h | h
 ·exact z07.mp ha j i (by omega) hi h
 ·have:j=i:=by omega
  subst this;exact z3s _
theorem qat {i:Nat} {x:α} (hx:as[i]? =some x):(as.drop i).take 1=[x]:=by
 obtain ⟨hi,ex⟩:=z06.mp hx;rw [z08 hi,ex];rfl
end
end Tim
namespace Tim
open PySem PyProof.Rows
def q2j:Bool ->Keyed ->Array Keyed ->Nat ->Nat ->Nat ->StateT SortSt Sem (Option Nat):=sortPriv%PySem.Builtin.gallop
def beyd (left:Bool) (key:Keyed) (arr:Array Keyed) (i:Nat):StateT SortSt Sem (Option Bool):=do
 let p <- elem' arr i
 if left then lt' p key else return (<- lt' key p).map (!·)
theorem qjz (left:Bool) (key:Keyed) (arr:Array Keyed) (base n hint:Nat):q2j left key arr base n hint=(do
 let mut bk:=0
 let mut fw:=1
 let mut lo:=0
 let mut up:=0
 let some rt <- beyd left key arr (base+hint) | return none
 if rt then
  let most:=n - hint
  for _ in [0:n] do
   if fw >=most then break
   let some mr <- beyd left key arr (base+(hint+fw)) | return none
   if !mr then break
   bk:=fw
   fw:=2*fw+1
  lo:=hint+bk+1
  up:=hint+min fw most
 else
  let most:=hint+1
  for _ in [0:n] do
   if fw >=most then break
   let some fd <- beyd left key arr (base+(hint - fw)) | return none
   if fd then break
   bk:=fw
   fw:=2*fw+1
  lo:=hint+1 - min fw most
  up:=hint - bk
 for _ in [0:n] do
  if lo >=up then break
  let J:=lo+(up - lo) / 2
  let some mr <- beyd left key arr (base+J) | return none
  if mr then lo:=J+1 else up:=J
 return some up):=rfl
def ahd (left:Bool) (k v:Int):Bool:=if left then decide (v < k) else decide (v<=k)
theorem qau {left:Bool} {k v u:Int} (h:v<=u) (e:ahd left k u=true):ahd left k v=true:=by
 unfold ahd at*;cases left
 ·simp at*
  omega
 ·simp at*
  omega
def gBin (left:Bool) (key:Keyed) (arr:Array Keyed) (base n lo0 up0:Nat):StateT SortSt Sem (Option Nat):=do
 let mut lo:=lo0
 let mut up:=up0
 for _ in [0:n] do
  if lo >=up then break
  let md:=lo+(up - lo) / 2
  let some mr <- beyd left key arr (base+md) | return none
  if mr then lo:=md+1 else up:=md
 return some up
section
variable {M:Model} {A:Around} {E:Value ->Shared ->Prop} {s:Shared} {kd:SortKind} {S:Keyed ->Prop} {rk:Keyed ->Int}
theorem q1o {st:SortSt} {arr:Array Keyed} {i:Nat} {p:Keyed} {Q:Keyed ->SortSt ->Prop} (e:arr[i]? =some p) (h:Q p st):wpS M A E s (elem' arr i) Q st:=by
 rw [elem'_eq,e];exact wpS_pure h
theorem qbs (L:LtOk M A E s kd S rk) {st:SortSt} {left:Bool} {key:Keyed} {arr:Array Keyed} {i:Nat} {Q:Option Bool ->SortSt ->Prop} (O:kindOf st=kd) (J:S key) (hp:∃ p,arr[i]? =some p/\S p)
  (h:Q (some (ahd left (rk key) (kx rk arr i))) st):wpS M A E s (beyd left key arr i) Q st:=by
 obtain ⟨p,e,sp⟩:=hp;rw [q2v e] at h;unfold beyd;refine wpS_bind (q1o e ?_);cases left with
 | true=>exact L p key st Q sp J O h
 | false=>
  refine wpS_bind (L key p st _ J sp O (wpS_pure ?_));have e2:(!decide (rk key < rk p))=ahd false (rk key) (rk p):=by
   unfold ahd;simp
   rw [<- decide_not];simp
  show Q (some (!decide (rk key < rk p))) st;rw [e2];exact h
theorem qlk (L:LtOk M A E s kd S rk) {st:SortSt} {left:Bool} {key:Keyed} {arr:Array Keyed} {base n lo up:Nat} {Q:Option Nat ->SortSt ->Prop} (hk:kindOf st=kd) (hS:S key)
  (hp:∀ i,i < n ->∃ p,arr[base+i]? =some p/\S p) (hu:Up rk arr base (base+n)) (Y:lo<=up) (Z:up<=n) (h1:∀ i,i < lo ->ahd left (rk key) (kx rk arr (base+i))=true)
  (h2:∀ i,up<=i ->i < n ->ahd left (rk key) (kx rk arr (base+i))=false)
  (h:∀ k,k<=n ->(∀ i,i < k ->ahd left (rk key) (kx rk arr (base+i))=true) ->(∀ i,k<=i ->i < n ->ahd left (rk key) (kx rk arr (base+i))=false) ->Q (some k) st):
  wpS M A E s (gBin left key arr base n lo up) Q st:=by
 unfold gBin
 dsimp only
 refine wpS_bind (wpS_mono (wpS_forRange (I:=λ x c J=>J=st/\∃ lo up,c=(none,lo,up)/\lo<=up/\up<=n/\up - lo<=n - x/\
   (∀ i,i < lo ->ahd left (rk key) (kx rk arr (base+i))=true)/\(∀ i,up<=i ->i < n ->ahd left (rk key) (kx rk arr (base+i))=false))
  (Q:=λ c J=>J=st/\∃ lo up,c=(none,lo,up)/\up<=n/\
   (∀ i,i < up ->ahd left (rk key) (kx rk arr (base+i))=true)/\(∀ i,up<=i ->i < n ->ahd left (rk key) (kx rk arr (base+i))=false)) ?turn ?last ⟨rfl,lo,up,rfl,Y,Z,by omega,h1,h2⟩) ?after)
 case after=>
  rintro c J ⟨rfl,lo,up,rfl,a,b,d⟩;exact wpS_pure (h up a b d)
 case last=>
  rintro c J ⟨rfl,lo,up,rfl,a,b,d,e1,e2⟩;have e:lo=up:=by omega
  subst e;exact ⟨zr,lo,lo,zr,b,e1,e2⟩
 case turn=>
  rintro x c J _ hx ⟨rfl,lo,up,rfl,a,b,d,e1,e2⟩
  dsimp only
  by_cases O:lo >=up
  ·rw [if_pos O];have e:lo=up:=by omega
   subst e;exact wpS_pure ⟨zr,lo,lo,zr,b,e1,e2⟩
  ·rw [if_neg O];refine wpS_bind (qbs L hk hS (hp _ (by omega)) ?_);cases em:ahd left (rk key) (kx rk arr (base+(lo+(up - lo) / 2))) with
   | true=>
    dsimp only
    rw [if_pos rfl];refine wpS_pure ⟨zr,_,_,zr,by omega,b,by omega,λ i hi=> ?_,e2⟩;exact qau (hu _ _ (by omega) (by omega) (by omega)) em
   | false=>
    dsimp only
    rw [if_neg z1c];refine wpS_pure ⟨zr,_,_,zr,by omega,by omega,by omega,e1,λ i hi hn=> ?_⟩;cases ei:ahd left (rk key) (kx rk arr (base+i)) with
    | false=>rfl
    | true=>
     have:=qau (hu (base+(lo+(up - lo) / 2)) (base+i) (by omega) (by omega) (by omega)) ei;rw [em] at this;cases this
theorem q4l (L:LtOk M A E s kd S rk) {st:SortSt} {left:Bool} {key:Keyed} {arr:Array Keyed} {base n hint:Nat} {Q:Option Nat ->SortSt ->Prop} (hk:kindOf st=kd) (Z:S key)
  (hp:∀ i,i < n ->∃ p,arr[base+i]? =some p/\S p) (hu:Up rk arr base (base+n)) (hh:hint < n)
  (h:∀ k,k<=n ->(∀ i,i < k ->ahd left (rk key) (kx rk arr (base+i))=true) ->(∀ i,k<=i ->i < n ->ahd left (rk key) (kx rk arr (base+i))=false) ->Q (some k) st):
  wpS M A E s (q2j left key arr base n hint) Q st:=by
 have dn:∀ i j,i<=j ->j < n ->ahd left (rk key) (kx rk arr (base+j))=true ->ahd left (rk key) (kx rk arr (base+i))=true:=λ i j a b e=>qau (hu _ _ (by omega) (by omega) (by omega)) e;have nu:∀ i j,i<=j ->j < n ->ahd left (rk key) (kx rk arr (base+i))=false ->ahd left (rk key) (kx rk arr (base+j))=false:=λ i j a b e=>by
  cases ej:ahd left (rk key) (kx rk arr (base+j)) with
  | false=>rfl
  | true=>
   rw [dn i j a b ej] at e;cases e
 rw [qjz]
 dsimp only
 refine wpS_bind (qbs L hk Z (hp hint hh) ?_);cases e0:ahd left (rk key) (kx rk arr (base+hint)) with
 | true=>
  dsimp only
  rw [if_pos rfl];refine wpS_bind (wpS_mono (wpS_forRange (I:=λ x c J=>J=st/\∃ bk fw,c=(none,bk,fw)/\bk < fw/\x+1<=fw/\hint+bk < n/\ahd left (rk key) (kx rk arr (base+(hint+bk)))=true)
   (Q:=λ c J=>J=st/\∃ bk fw,c=(none,bk,fw)/\bk < fw/\hint+bk < n/\ahd left (rk key) (kx rk arr (base+(hint+bk)))=true/\(n - hint<=fw\/ hint+fw < n/\ahd left (rk key) (kx rk arr (base+(hint+fw)))=false)) ?turn ?last ⟨rfl,0,1,rfl,by omega,by omega,by omega,e0⟩) ?after)
  case last=>
   rintro c J ⟨rfl,bk,fw,rfl,a,b,d,e⟩;exact ⟨zr,bk,fw,zr,a,d,e,.inl (by omega)⟩
  case turn=>
   rintro x c J _ hx ⟨rfl,bk,fw,rfl,a,b,d,e⟩
   dsimp only
   by_cases O:fw >=n - hint
   ·rw [if_pos O];exact wpS_pure ⟨zr,bk,fw,zr,a,d,e,.inl O⟩
   ·rw [if_neg O];refine wpS_bind (qbs L hk Z (hp _ (by omega)) ?_);cases Y:ahd left (rk key) (kx rk arr (base+(hint+fw))) with
    | true=>
     dsimp only
     rw [if_neg (by simp)];exact wpS_pure ⟨zr,fw,_,zr,by omega,by omega,by omega,Y⟩
    | false=>
     dsimp only
     rw [if_pos (by simp)];exact wpS_pure ⟨zr,bk,fw,zr,a,d,e,.inr ⟨by omega,Y⟩⟩
  case after=>
   rintro c J ⟨rfl,bk,fw,rfl,a,d,e,f⟩
   dsimp only
   refine qlk L hk Z hp hu (lo:=hint+bk+1) (up:=hint+min fw (n - hint)) (by omega) (by omega) (λ i hi=>dn i (hint+bk) (by omega) d e) (λ i hi hn=> ?_) h;rcases f with f | ⟨f1,f2⟩
   ·omega
   ·exact nu (hint+fw) i (by omega) hn f2
 | false=>
  dsimp only
  rw [if_neg z1c];refine wpS_bind (wpS_mono (wpS_forRange (I:=λ x c J=>J=st/\∃ bk fw,c=(none,bk,fw)/\bk < fw/\x+1<=fw/\bk<=hint/\ahd left (rk key) (kx rk arr (base+(hint - bk)))=false)
   (Q:=λ c J=>J=st/\∃ bk fw,c=(none,bk,fw)/\bk < fw/\bk<=hint/\ahd left (rk key) (kx rk arr (base+(hint - bk)))=false/\(hint+1<=fw\/ fw<=hint/\ahd left (rk key) (kx rk arr (base+(hint - fw)))=true)) ?turn ?last ⟨rfl,0,1,rfl,by omega,by omega,by omega,e0⟩) ?after)
  case last=>
   rintro c J ⟨rfl,bk,fw,rfl,a,b,d,e⟩;exact ⟨zr,bk,fw,zr,a,d,e,.inl (by omega)⟩
  case turn=>
   rintro x c J _ hx ⟨rfl,bk,fw,rfl,a,b,d,e⟩
   dsimp only
   by_cases O:fw >=hint+1
   ·rw [if_pos O];exact wpS_pure ⟨zr,bk,fw,zr,a,d,e,.inl O⟩
   ·rw [if_neg O];refine wpS_bind (qbs L hk Z (hp _ (by omega)) ?_);cases Y:ahd left (rk key) (kx rk arr (base+(hint - fw))) with
    | true=>
     dsimp only
     rw [if_pos rfl];exact wpS_pure ⟨zr,bk,fw,zr,a,d,e,.inr ⟨by omega,Y⟩⟩
    | false=>
     dsimp only
     rw [if_neg z1c];exact wpS_pure ⟨zr,fw,_,zr,by omega,by omega,by omega,Y⟩
  case after=>
   rintro c J ⟨rfl,bk,fw,rfl,a,d,e,f⟩
   dsimp only
   refine qlk L hk Z hp hu (lo:=hint+1 - min fw (hint+1)) (up:=hint - bk) (by omega) (by omega) (λ i hi=> ?_) (λ i hi hn=>nu (hint - bk) i hi hn e) h;rcases f with f | ⟨f1,f2⟩
   ·omega
   ·exact dn i (hint - fw) (by omega) (by omega) f2
end
def qav:Array Keyed ->Array Keyed ->StateT SortSt Sem (Array Keyed):=sortPriv%PySem.Builtin.mergeLo
abbrev q5o (st:SortSt) (g:Nat):SortSt:=SortSt.mk' (kindOf st) (arrOf st) (pendingOf st) g (failedOf st)
def q2w (a b out:Array Keyed) (ia ib:Nat):Array Keyed:=out++a.extract ia a.size++b.extract ib b.size
def q64 (a b out:Array Keyed) (ia ib:Nat):Array Keyed:=out++b.extract ib b.size++a.extract ia a.size
theorem qhw (a b:Array Keyed):qav a b=(do
 rule "list.sort.merge-lo"
 let all:=a.size+b.size
 let mut o:Array Keyed:=#[<- elem' b 0]
 let mut x:=0
 let mut y:=1
 if y==b.size then return q2w a b o x y
 if x+1==a.size then return q64 a b o x y
 let mut g:=gallopOf (<- get)
 for _ in [0:all] do
  let mut ca:=0
  let mut cb:=0
  for _ in [0:all] do
   let some won <- lt' (<- elem' b y) (<- elem' a x) | return q2w a b o x y
   if won then
    o:=o.push (<- elem' b y);y:=y+1;cb:=cb+1;ca:=0
    if y==b.size then return q2w a b o x y
    if cb >=g then break
   else
    o:=o.push (<- elem' a x);x:=x+1;ca:=ca+1;cb:=0
    if x+1==a.size then return q64 a b o x y
    if ca >=g then break
  rule "list.sort.gallop"
  g:=g+1
  for _ in [0:all] do
   if g > 1 then g:=g - 1
   modify λ st=>q5o st g
   let some k <- q2j false (<- elem' b y) a x (a.size - x) 0 | return q2w a b o x y
   ca:=k
   if k > 0 then
    o:=o++a.extract x (x+k);x:=x+k
    if x+1==a.size then return q64 a b o x y
    if x==a.size then return q2w a b o x y
   o:=o.push (<- elem' b y);y:=y+1
   if y==b.size then return q2w a b o x y
   let some k <- q2j true (<- elem' a x) b y (b.size - y) 0 | return q2w a b o x y
   cb:=k
   if k > 0 then
    o:=o++b.extract y (y+k);y:=y+k
    if y==b.size then return q2w a b o x y
   o:=o.push (<- elem' a x);x:=x+1
   if x+1==a.size then return q64 a b o x y
   if ca < 7&&cb < 7 then break
  g:=g+1
  modify λ st=>q5o st g
 unsupported "internal:list.sort.merge-bound"):=rfl
structure Gl (st st':SortSt):Prop where
 arr:arrOf st'=arrOf st
 kind:kindOf st'=kindOf st
 pend:pendingOf st'=pendingOf st
 failed:failedOf st'=failedOf st
theorem Gl.refl (st:SortSt):Gl st st:=⟨rfl,rfl,rfl,rfl⟩
theorem Gl.set {st J:SortSt} (h:Gl st J) (g:Nat):Gl st (q5o J g):=⟨h.arr,h.kind,h.pend,h.failed⟩
section
variable {rk:Keyed ->Int} {a b o:Array Keyed} {x y:Nat}
theorem q27 (xs:Array Keyed) (i:Nat) {p:Keyed} (h:xs.toList[i]? =some p):kx rk xs i=rk p:=q2v (by rw [<- h,z0t])
theorem q6q {l:List Keyed} {i k:Nat} {p:Keyed} (h:p∈(l.drop i).take k):∃ j,j < k/\l[i+j]? =some p:=by
 obtain ⟨j,hj,e⟩:=z0w.mp h;rw [z25] at hj;refine ⟨j,by (clear e;omega),?_⟩;rw [<- e,z1p,List.getElem_drop,z0c]
theorem qaw {l:List Keyed} {i:Nat} {p:Keyed} (h:p∈l.drop i):∃ j,i<=j/\j < l.length/\l[j]? =some p:=by
 obtain ⟨j,J,e⟩:=z0w.mp h;rw [z26] at J;refine ⟨i+j,by (clear e J;omega),by (clear e;omega),?_⟩;rw [<- e,List.getElem_drop,z0c]
theorem qbt {xs:Array Keyed} (h:Asc rk xs.toList) (lo hi:Nat) (hh:hi<=xs.size):Up rk xs lo hi:=by
 intro i j _ O hj;have J:i < xs.toList.length:=by rw [z13];omega
 have L:j < xs.toList.length:=by rw [z13];(clear J O;omega)
 rw [q27 xs i (z0c J),q27 xs j (z0c L)];rcases Nat.lt_or_ge i j with q | q
 ·exact z07.mp h i j J L q
 ·have:i=j:=by (clear L J hj hh;omega)
  subst this;exact z3s _
theorem qod (xs:Array Keyed) (i k:Nat):(xs.extract i (i+k)).toList=(xs.toList.drop i).take k:=by
 rw [z0x,z09]
 congr 1
 omega
theorem q7b (xs:Array Keyed) (i:Nat):(xs.extract i xs.size).toList=xs.toList.drop i:=by
 rw [z0x,z09,z0j];rw [z26,z13];omega
theorem qax {p:Keyed} (h:Jn rk a.toList b.toList o.toList x y) (ha:Asc rk a.toList) (e:a[x]? =some p) (J:∀ q∈b.toList.drop y,rk p<=rk q):Jn rk a.toList b.toList (o.push p).toList (x+1) y:=by
 have e':a.toList[x]? =some p:=by rw [z0t];exact e
 have:=h.moreA ha 1 (by rw [qat e'];intro z hz;rw [z1d.mp hz];exact J)
 rwa [qat e',<- z1q] at this
theorem qay {p:Keyed} (h:Jn rk a.toList b.toList o.toList x y) (hb:Asc rk b.toList) (e:b[y]? =some p) (J:∀ q∈a.toList.drop x,rk p<=rk q):Jn rk a.toList b.toList (o.push p).toList x (y+1):=
 (qax h.swap hb e J).swap
theorem qir (h:Jn rk a.toList b.toList o.toList x y) (ha:Asc rk a.toList) (k:Nat) (hx:∀ p∈(a.toList.drop x).take k,∀ q∈b.toList.drop y,rk p<=rk q):Jn rk a.toList b.toList (o++a.extract x (x+k)).toList (x+k) y:=by
 rw [z14,qod];exact h.moreA ha k hx
theorem qqy (h:Jn rk a.toList b.toList o.toList x y) (hb:Asc rk b.toList) (k:Nat) (hx:∀ p∈(b.toList.drop y).take k,∀ q∈a.toList.drop x,rk p<=rk q):Jn rk a.toList b.toList (o++b.extract y (y+k)).toList x (y+k):=
 (qir h.swap hb k hx).swap
def Good (rk:Keyed ->Int) (a b r:Array Keyed):Prop:=r.toList.Perm (a.toList++b.toList)/\Asc rk r.toList
theorem q5h (h:Jn rk a.toList b.toList o.toList x y) (ha:Asc rk a.toList) (hb:Asc rk b.toList) (hy:y=b.size):Good rk a b (q2w a b o x y):=by
 have hx:∀ p∈a.toList.drop x,∀ q∈b.toList.drop y,rk p<=rk q:=λ p _ q hq=>by
  rw [List.drop_of_length_le (by rw [z13];omega)] at hq;cases hq
 have:=h.done ha hb hx;unfold Good q2w;rw [z14,z14,q7b,q7b];exact this
end
structure Mg (S:Keyed ->Prop) (rk:Keyed ->Int) (a b:Array Keyed):Prop where
 sa:∀ p∈a.toList,S p
 sb:∀ p∈b.toList,S p
 aa:Asc rk a.toList
 ab:Asc rk b.toList
 na:0 < a.size
 nb:0 < b.size
 top:∃ z,a[a.size - 1]? =some z/\∀ p∈b.toList,rk p < rk z
 bot:∃ z,b[0]? =some z/\∀ p∈a.toList,rk z < rk p
section
variable {S:Keyed ->Prop} {rk:Keyed ->Int} {a b o:Array Keyed} {x y:Nat}
theorem Mg.atA (m:Mg S rk a b) {i:Nat} (h:i < a.size):∃ p,a[i]? =some p/\S p/\p∈a.toList:=
 ⟨a[i],getElem?_pos a i h,m.sa _ (by simp),by simp⟩
theorem Mg.atB (m:Mg S rk a b) {i:Nat} (h:i < b.size):∃ p,b[i]? =some p/\S p/\p∈b.toList:=
 ⟨b[i],getElem?_pos b i h,m.sb _ (by simp),by simp⟩
theorem q5i (m:Mg S rk a b) (h:Jn rk a.toList b.toList o.toList x y) (hx:x+1=a.size):Good rk a b (q64 a b o x y):=by
 obtain ⟨z,J,hz⟩:=m.top;have hq:∀ p∈b.toList.drop y,∀ q∈a.toList.drop x,rk p<=rk q:=λ p hp q hq=>by
  obtain ⟨j,h1,h2,e⟩:=qaw hq;rw [z13] at h2;have ej:j=a.size - 1:=by (clear e J;omega)
  rw [z0t,ej,J] at e;cases e
  exact z3d (hz p (z0y hp))
 have:=h.done2 m.aa m.ab hq;unfold Good q64;rw [z14,z14,q7b,q7b];exact this
theorem qfn (m:Mg S rk a b) {i:Nat} {p:Keyed} (e:a[i]? =some p):∀ q∈a.toList.drop i,rk p<=rk q:=qip m.aa (by rw [z0t];exact e)
theorem qfo (m:Mg S rk a b) {i:Nat} {p:Keyed} (e:b[i]? =some p):∀ q∈b.toList.drop i,rk p<=rk q:=qip m.ab (by rw [z0t];exact e)
end
abbrev LoSt:=Option (Array Keyed)×Array Keyed×Nat×Nat×Nat×Nat×Nat
def qbu (a b:Array Keyed) (ca cb g:Nat) (o:Array Keyed) (x y:Nat):StateT SortSt Sem (ForInStep LoSt):=do
 let p <- elem' a x
 if (x+1+1==a.size)=true then pure (ForInStep.done (some (q64 a b (o.push p) (x+1) y),o.push p,x+1,y,g,ca,cb))
 else if (decide (ca < 7)&&decide (cb < 7))=true then pure (ForInStep.done (none,o.push p,x+1,y,g,ca,cb))
 else pure (ForInStep.yield (none,o.push p,x+1,y,g,ca,cb))
def qfb (a b:Array Keyed) (ca cb g:Nat) (o:Array Keyed) (x y:Nat):StateT SortSt Sem (ForInStep LoSt):=do
 let p <- elem' b y
 if (y+1==b.size)=true then pure (ForInStep.done (some (q2w a b (o.push p) x (y+1)),o.push p,x,y+1,g,ca,cb))
 else do
  let some k <- q2j true (<- elem' a x) b (y+1) (b.size - (y+1)) 0 | pure (ForInStep.done (some (q2w a b (o.push p) x (y+1)),o.push p,x,y+1,g,ca,cb))
  if k > 0 then
   if (y+1+k==b.size)=true then pure (ForInStep.done (some (q2w a b (o.push p++b.extract (y+1) (y+1+k)) x (y+1+k)),o.push p++b.extract (y+1) (y+1+k),x,y+1+k,g,ca,k))
   else qbu a b ca k g (o.push p++b.extract (y+1) (y+1+k)) x (y+1+k)
  else qbu a b ca k g (o.push p) x (y+1)
def qk0 (a b:Array Keyed) (ca cb g:Nat) (o:Array Keyed) (x y:Nat):StateT SortSt Sem (ForInStep LoSt):=do
 modify λ st=>q5o st g
 let some k <- q2j false (<- elem' b y) a x (a.size - x) 0 | pure (ForInStep.done (some (q2w a b o x y),o,x,y,g,ca,cb))
 if k > 0 then
  if (x+k+1==a.size)=true then pure (ForInStep.done (some (q64 a b (o++a.extract x (x+k)) (x+k) y),o++a.extract x (x+k),x+k,y,g,k,cb))
  else if (x+k==a.size)=true then pure (ForInStep.done (some (q2w a b (o++a.extract x (x+k)) (x+k) y),o++a.extract x (x+k),x+k,y,g,k,cb))
  else qfb a b k cb g (o++a.extract x (x+k)) (x+k) y
 else qfb a b k cb g o x y
section
variable {M:Model} {A:Around} {E:Value ->Shared ->Prop} {s:Shared} {kd:SortKind} {S:Keyed ->Prop} {rk:Keyed ->Int} {a b:Array Keyed} {st:SortSt}
structure Go (rk:Keyed ->Int) (a b o:Array Keyed) (x y:Nat):Prop where
 jn:Jn rk a.toList b.toList o.toList x y
 hx:x+1 < a.size
 hy:y < b.size
def LoQ (rk:Keyed ->Int) (a b:Array Keyed) (st:SortSt) (n:Nat) (r:ForInStep LoSt) (st':SortSt):Prop:=Gl st st'/\match r with
 | .done c=>(∃ r,c.1=some r/\Good rk a b r)\/ (c.1=none/\Go rk a b c.2.1 c.2.2.1 c.2.2.2.1/\n<=c.2.2.1+c.2.2.2.1)
 | .yield c=>c.1=none/\Go rk a b c.2.1 c.2.2.1 c.2.2.2.1/\n<=c.2.2.1+c.2.2.2.1
theorem qfp (m:Mg S rk a b) {O:SortSt} {n ca cb g x y:Nat} {o:Array Keyed} (Z:Gl st O) (J:Jn rk a.toList b.toList o.toList x y) (hx:x+1 < a.size) (hy:y < b.size)
  (a0:∀ p,a[x]? =some p ->∀ q∈b.toList.drop y,rk p<=rk q) (hn:n<=x+y):wpS M A E s (qbu a b ca cb g o x y) (LoQ rk a b st (n+1)) O:=by
 obtain ⟨p,e,_,_⟩:=m.atA (i:=x) (by (clear hn hy;omega));have Y:=qax J m.aa e (a0 p e);unfold qbu;refine wpS_bind (q1o e ?_);by_cases L:x+1+1=a.size
 ·rw [if_pos (by simpa using L)];exact wpS_pure ⟨Z,.inl ⟨_,zr,q5i m Y L⟩⟩
 ·rw [if_neg (by simpa using L)];by_cases c2:(decide (ca < 7)&&decide (cb < 7))=true
  ·rw [if_pos c2];exact wpS_pure ⟨Z,.inr ⟨rfl,⟨Y,by show x+1+1 < a.size;(clear c2 e hn hy;omega),hy⟩,by show n+1<=x+1+y;(clear c2 L e hy hx;omega)⟩⟩
  ·rw [if_neg c2];exact wpS_pure ⟨Z,rfl,⟨Y,by show x+1+1 < a.size;(clear c2 e hn hy;omega),hy⟩,by show n+1<=x+1+y;(clear c2 L e hy hx;omega)⟩
theorem qis (L:LtOk M A E s kd S rk) (O:kindOf st=kd) (m:Mg S rk a b) {a0:SortSt} {n ca cb g x y:Nat} {o:Array Keyed} (hg:Gl st a0) (J:Jn rk a.toList b.toList o.toList x y) (hx:x+1 < a.size) (hy:y < b.size)
  (a2:∀ p,b[y]? =some p ->∀ q∈a.toList.drop x,rk p<=rk q) (hn:n<=x+y):wpS M A E s (qfb a b ca cb g o x y) (LoQ rk a b st (n+1)) a0:=by
 obtain ⟨p,e,_,_⟩:=m.atB hy;have J':=qay J m.ab e (a2 p e);unfold qfb;refine wpS_bind (q1o e ?_);by_cases Y:y+1=b.size
 ·rw [if_pos (by simpa using Y)];exact wpS_pure ⟨hg,.inl ⟨_,zr,q5h J' m.aa m.ab Y⟩⟩
 ·rw [if_neg (by simpa using Y)];obtain ⟨q,eq,sq,_⟩:=m.atA (i:=x) (by (clear Y e hn hy O;omega));refine wpS_bind (q1o eq ?_);refine wpS_bind (q4l L (hg.kind.trans O) sq (λ i hi=> ?_) (qbt m.ab _ _ (by (clear eq Y e hn hx O;omega))) (by (clear eq e hn hx O;omega)) λ k Z k2 k3=> ?_)
  ·obtain ⟨p,e,sp,_⟩:=m.atB (i:=y+1+i) (by (clear eq Y e hn hy hx O;omega));exact ⟨p,e,sp⟩
  dsimp only
  have after:∀ p',a[x]? =some p' ->∀ z∈b.toList.drop (y+1+k),rk p'<=rk z:=λ p' ep z hz=>by
   rw [eq] at ep;cases ep
   obtain ⟨j,h1,h2,ez⟩:=qaw hz;rw [z13] at h2;have:=k3 (j - (y+1)) (by (clear ez h2 Z eq Y e hn hy hx O;omega)) (by (clear ez h1 Z eq e hn hx O;omega));rw [show y+1+(j - (y+1))=j by (clear this ez h2 Z eq Y e hn hy hx O;omega),q27 b j ez] at this;simp [ahd] at this
   (clear ez h2 h1 Z eq Y e hn hy hx O;omega)
  by_cases c2:k > 0
  ·rw [if_pos c2];have J2:=qqy J' m.ab k λ z hz w hw=>by
    obtain ⟨j,h1,ez⟩:=q6q hz;have:=k2 j h1;rw [q27 b _ ez] at this;simp [ahd] at this
    have:=qfn m eq w hw
    (clear ez h1 c2 Z eq Y e hn hy hx O;omega)
   by_cases c3:y+1+k=b.size
   ·rw [if_pos (by simpa using c3)];exact wpS_pure ⟨hg,.inl ⟨_,zr,q5h J2 m.aa m.ab c3⟩⟩
   ·rw [if_neg (by simpa using c3)];exact qfp m hg J2 hx (by (clear c2 eq Y e hn hx O;omega)) after (by (clear c3 c2 Z eq Y e hy hx O;omega))
  ·rw [if_neg c2];have k0:k=0:=by (clear Z eq Y e hn hy hx O;omega)
   subst k0;exact qfp m hg J' hx (by (clear c2 Z eq e hn hx O;omega)) after (by (clear c2 Z eq Y e hy hx O;omega))
theorem qqz (L:LtOk M A E s kd S rk) (O:kindOf st=kd) (m:Mg S rk a b) {a2:SortSt} {n ca cb g x y:Nat} {o:Array Keyed} (hg:Gl st a2) (G:Go rk a b o x y) (hn:n<=x+y):
  wpS M A E s (qk0 a b ca cb g o x y) (LoQ rk a b st (n+1)) a2:=by
 obtain ⟨J,hx,hy⟩:=G;unfold qk0;refine wpS_bind (wpS_modify ?_);have a0:=hg.set g;obtain ⟨q,eq,sq,mq⟩:=m.atB hy;refine wpS_bind (q1o eq ?_);refine wpS_bind (q4l L (a0.kind.trans O) sq (λ i hi=> ?_) (qbt m.aa _ _ (by (clear eq hy hn O;omega))) (by (clear eq hy hn O;omega)) λ k Z k2 k3=> ?_)
 ·obtain ⟨p,e,sp,_⟩:=m.atA (i:=x+i) (by (clear eq hy hx hn O;omega));exact ⟨p,e,sp⟩
 dsimp only
 have after:∀ p',b[y]? =some p' ->∀ z∈a.toList.drop (x+k),rk p'<=rk z:=λ p' ep z hz=>by
  rw [eq] at ep;cases ep
  obtain ⟨j,h1,h2,Y⟩:=qaw hz;rw [z13] at h2;have:=k3 (j - x) (by (clear Y h2 Z eq hy hx hn O;omega)) (by (clear Y h1 Z eq hy hn O;omega));rw [show x+(j - x)=j by (clear this Y h2 Z eq hy hx hn O;omega),q27 a j Y] at this;simp [ahd] at this
  (clear Y h2 h1 Z eq hy hx hn O;omega)
 by_cases c2:k > 0
 ·rw [if_pos c2];have J2:=qir J m.aa k λ z hz w hw=>by
   obtain ⟨j,h1,Y⟩:=q6q hz;have:=k2 j h1;rw [q27 a _ Y] at this;simp [ahd] at this
   have:=qfo m eq w hw
   (clear Y h1 c2 Z eq hy hx hn O;omega)
  by_cases c3:x+k+1=a.size
  ·rw [if_pos (by simpa using c3)];exact wpS_pure ⟨a0,.inl ⟨_,zr,q5i m J2 c3⟩⟩
  ·rw [if_neg (by simpa using c3)];have c4:¬ x+k=a.size:=λ c4=>by
    obtain ⟨z,Y,hz⟩:=m.top;have:=k2 (a.size - 1 - x) (by (clear Y c3 c2 Z eq hy hn O;omega));rw [show x+(a.size - 1 - x)=a.size - 1 by (clear this Y c4 c3 c2 Z eq hy hn O;omega),q2v Y] at this;simp [ahd] at this
    have:=hz q mq
    (clear Y c4 c3 c2 Z eq hy hx hn O;omega)
   rw [if_neg (by simpa using c4)];exact qis L O m a0 J2 (by (clear c2 eq hy hn O;omega)) hy after (by (clear c4 c3 c2 Z eq hy hx O;omega))
 ·rw [if_neg c2];have k0:k=0:=by (clear Z eq hy hx hn O;omega)
  subst k0;exact qis L O m a0 J hx hy after hn
theorem qll (L:LtOk M A E s kd S rk) (hk:kindOf st=kd) (m:Mg S rk a b) {Q:Array Keyed ->SortSt ->Prop} (h:∀ r Z,Gl st Z ->Good rk a b r ->Q r Z):wpS M A E s (qav a b) Q st:=by
 rw [qhw];refine wpS_bind (wpS_lift (z3u ⟨zr,?_⟩));obtain ⟨q,eq,sq,mq⟩:=m.atB m.nb;refine wpS_bind (q1o eq ?_);have J1:Jn rk a.toList b.toList (#[q]:Array Keyed).toList 0 1:=by
  obtain ⟨z,ez,hz⟩:=m.bot;rw [eq] at ez;cases ez
  exact qay (o:=#[]) Jn.start m.ab eq λ w hw=>z3d (hz w (z0y hw))
 by_cases c1:1=b.size
 ·rw [if_pos (by simpa using c1)];exact wpS_pure (h _ _ (Gl.refl _) (q5h J1 m.aa m.ab c1))
 ·rw [if_neg (by simpa using c1)];by_cases c2:0+1=a.size
  ·rw [if_pos (by simpa using c2)];exact wpS_pure (h _ _ (Gl.refl _) (q5i m J1 c2))
  ·rw [if_neg (by simpa using c2)];refine wpS_bind (wpS_get ?_);have na:=m.na;have nb:=m.nb;have G1:Go rk a b #[q] 0 1:=⟨J1,by (clear nb c1 eq hk;omega),by (clear na c2 eq hk;omega)⟩;refine wpS_bind (wpS_mono (wpS_forRange (I:=λ i c Z=>Gl st Z/\∃ o x y g,c=(none,o,x,y,g)/\Go rk a b o x y/\i+1<=x+y)
    (Q:=λ c Z=>Gl st Z/\∃ r o x y g,c=(some r,o,x,y,g)/\Good rk a b r) ?turn ?last ⟨Gl.refl _,#[q],0,1,_,rfl,G1,by (clear nb na c2 c1 eq hk;omega)⟩) ?after)
   case after=>
    rintro c Z ⟨hg,r,o,x,y,g,rfl,hr⟩;exact wpS_pure (h r Z hg hr)
   case last=>
    rintro c Z ⟨hg,o,x,y,g,rfl,G,hi⟩;have:=G.hx;have:=G.hy
    exfalso
    (clear nb na c2 c1 eq hk;omega)
   case turn=>
    rintro i c Z _ hi ⟨hg,o,x,y,g,rfl,G,J⟩
    dsimp only
    refine wpS_bind (wpS_mono (wpS_forRange (I:=λ j c a0=>Gl st a0/\∃ o x y ca cb,c=(none,o,x,y,ca,cb)/\Go rk a b o x y/\i+1+j<=x+y)
     (Q:=λ c a0=>Gl st a0/\∃ r o x y ca cb,c=(r,o,x,y,ca,cb)/\match r with
      | some r=>Good rk a b r
      | none=>Go rk a b o x y/\i+2<=x+y) ?iturn ?ilast ⟨hg,o,x,y,0,0,rfl,G,by (clear hi nb na c2 c1 eq hk;omega)⟩) ?iafter)
    case ilast=>
     rintro c a0 ⟨O,o,x,y,ca,cb,rfl,G,hj⟩;have:=G.hx;have:=G.hy
     exfalso
     (clear J hi nb na c2 c1 eq hk;omega)
    case iturn=>
     rintro j c a0 _ hj ⟨O,o,x,y,ca,cb,rfl,G,Y⟩
     dsimp only
     obtain ⟨pb,eb,sb,mb⟩:=m.atB G.hy;obtain ⟨pa,ea,sa,ma⟩:=m.atA (i:=x) (by have:=G.hx;(clear eb Y hj J hi nb na c2 c1 eq hk;omega));refine wpS_bind (q1o eb (wpS_bind (q1o ea (wpS_bind (L pb pa a0 _ sb sa (O.kind.trans hk) ?_)))));by_cases hw:rk pb < rk pa
     ·simp only [hw,z3r,if_true];refine wpS_bind (q1o eb ?_);have J2:=qay G.jn m.ab eb λ z hz=>z3e (z3d hw) (qfn m ea z hz);by_cases c3:y+1=b.size
      ·rw [if_pos (by simpa using c3)];exact wpS_pure ⟨O,_,_,_,_,_,_,zr,q5h J2 m.aa m.ab c3⟩
      ·rw [if_neg (by simpa using c3)];have G2:Go rk a b (o.push pb) x (y+1):=⟨J2,G.hx,by have:=G.hy;(clear hw ea eb Y hj J hi nb na c2 c1 eq hk;omega)⟩;split
       ·exact wpS_pure ⟨O,_,_,_,_,_,_,rfl,G2,by (clear c3 hw ea eb hj J hi nb na c2 c1 eq hk;omega)⟩
       ·exact wpS_pure ⟨O,_,_,_,_,_,rfl,G2,by (clear c3 hw ea eb hj J hi nb na c2 c1 eq hk;omega)⟩
     ·simp only [hw,z3c,z1b,if_false];refine wpS_bind (q1o ea ?_);have J2:=qax G.jn m.aa ea λ z hz=>z3e (by (clear ea eb Y hj J hi nb na c2 c1 eq hk;omega)) (qfo m eb z hz);by_cases c3:x+1+1=a.size
      ·rw [if_pos (by simpa using c3)];exact wpS_pure ⟨O,_,_,_,_,_,_,zr,q5i m J2 c3⟩
      ·rw [if_neg (by simpa using c3)];have G2:Go rk a b (o.push pa) (x+1) y:=⟨J2,by have:=G.hx;(clear hw ea eb Y hj J hi nb na c2 c1 eq hk;omega),G.hy⟩;split
       ·exact wpS_pure ⟨O,_,_,_,_,_,_,rfl,G2,by (clear c3 hw ea eb hj J hi nb na c2 c1 eq hk;omega)⟩
       ·exact wpS_pure ⟨O,_,_,_,_,_,rfl,G2,by (clear c3 hw ea eb hj J hi nb na c2 c1 eq hk;omega)⟩
    case iafter=>
     rintro c a0 ⟨O,r,o2,x2,y2,ca,cb,rfl,hr⟩;cases r with
     | some r=>exact wpS_pure ⟨O,r,_,_,_,_,rfl,hr⟩
     | none=>
      obtain ⟨G2,Y⟩:=hr
      dsimp only
      refine wpS_bind (wpS_lift (z3u ⟨zr,?_⟩));refine wpS_bind (wpS_mono (wpS_forRange (I:=λ j c a2=>Gl st a2/\∃ o x y g ca cb,c=(none,o,x,y,g,ca,cb)/\Go rk a b o x y/\i+2+j<=x+y)
       (Q:=λ c a2=>Gl st a2/\∃ r o x y g ca cb,c=(r,o,x,y,g,ca,cb)/\match r with
        | some r=>Good rk a b r
        | none=>Go rk a b o x y/\i+2<=x+y) ?gturn ?glast ⟨O,o2,x2,y2,_,_,_,rfl,G2,by (clear J hi nb na c2 c1 eq hk;omega)⟩) ?gafter)
      case glast=>
       rintro c a2 ⟨a3,o,x,y,g,ca,cb,rfl,G,hj⟩;have:=G.hx;have:=G.hy
       exfalso
       (clear Y J hi nb na c2 c1 eq hk;omega)
      case gturn=>
       rintro j c a2 _ hj ⟨a3,o,x,y,g,ca,cb,rfl,G,a5⟩;have go:∀ g',wpS M A E s (qk0 a b ca cb g' o x y) (LoQ rk a b st (i+2+j+1)) a2:=λ g'=>qqz L hk m a3 G a5
       dsimp only
       by_cases a7:g > 1
       case' pos=>
        rw [if_pos a7];refine wpS_mono (go (g - 1)) ?_
       case' neg=>
        rw [if_neg a7];refine wpS_mono (go g) ?_
       all_goals
        intro r st4 q;obtain ⟨a6,q⟩:=q;cases r with
        | done c'=>
         obtain ⟨r,o,x,y,g,ca,cb⟩:=c';rcases q with ⟨r',e,q⟩ | ⟨e,q,q'⟩
         ·simp only at e;subst e;exact ⟨a6,_,_,_,_,_,_,_,zr,q⟩
         ·simp only at e q q';subst e;exact ⟨a6,_,_,_,_,_,_,_,zr,q,by omega⟩
        | yield c'=>
         obtain ⟨r,o,x,y,g,ca,cb⟩:=c';obtain ⟨e,q,q'⟩:=q;simp only at e q q';subst e;exact ⟨a6,_,_,_,_,_,_,zr,q,by omega⟩
      case gafter=>
       rintro c a2 ⟨a3,r,o3,x3,y3,g3,ca3,cb3,rfl,hr⟩;cases r with
       | some r=>exact wpS_pure ⟨a3,r,_,_,_,_,rfl,hr⟩
       | none=>
        obtain ⟨G3,a5⟩:=hr
        dsimp only
        exact wpS_bind (wpS_modify (wpS_pure ⟨a3.set _,_,_,_,_,rfl,G3,by (clear Y J hi nb na c2 c1 eq hk;omega)⟩))
end
def qaz:Array Keyed ->Array Keyed ->StateT SortSt Sem (Array Keyed):=sortPriv%PySem.Builtin.mergeHi
def q2x (a b out:Array Keyed) (na nb:Nat):Array Keyed:=a.extract 0 na++b.extract 0 nb++out.reverse
def q4s (a b out:Array Keyed) (na nb:Nat):Array Keyed:=b.extract 0 nb++a.extract 0 na++out.reverse
theorem qhx (a b:Array Keyed):qaz a b=(do
 rule "list.sort.merge-hi"
 let all:=a.size+b.size
 let mut x:=a.size - 1
 let mut y:=b.size
 let mut o:Array Keyed:=#[<- elem' a x]
 if x==0 then return q2x a b o x y
 if y==1 then return q4s a b o x y
 let mut g:=gallopOf (<- get)
 for _ in [0:all] do
  let mut ca:=0
  let mut cb:=0
  for _ in [0:all] do
   let some won <- lt' (<- elem' b (y - 1)) (<- elem' a (x - 1)) | return q2x a b o x y
   if won then
    x:=x - 1;o:=o.push (<- elem' a x);ca:=ca+1;cb:=0
    if x==0 then return q2x a b o x y
    if ca >=g then break
   else
    y:=y - 1;o:=o.push (<- elem' b y);cb:=cb+1;ca:=0
    if y==1 then return q4s a b o x y
    if cb >=g then break
  rule "list.sort.gallop"
  g:=g+1
  for _ in [0:all] do
   if g > 1 then g:=g - 1
   modify λ st=>q5o st g
   let some j <- q2j false (<- elem' b (y - 1)) a 0 x (x - 1) | return q2x a b o x y
   let k:=x - j
   ca:=k
   if k > 0 then
    o:=o++(a.extract j x).reverse;x:=j
    if x==0 then return q2x a b o x y
   y:=y - 1;o:=o.push (<- elem' b y)
   if y==1 then return q4s a b o x y
   let some j <- q2j true (<- elem' a (x - 1)) b 0 y (y - 1) | return q2x a b o x y
   let k:=y - j
   cb:=k
   if k > 0 then
    o:=o++(b.extract j y).reverse;y:=j
    if y==1 then return q4s a b o x y
    if y==0 then return q2x a b o x y
   x:=x - 1;o:=o.push (<- elem' a x)
   if x==0 then return q2x a b o x y
   if ca < 7&&cb < 7 then break
  g:=g+1
  modify λ st=>q5o st g
 unsupported "internal:list.sort.merge-bound"):=rfl
section
variable {rk:Keyed ->Int} {a b o:Array Keyed} {x y:Nat}
def JH (rk:Keyed ->Int) (a b o:Array Keyed) (x y:Nat):Prop:=Jn (λ p=>- rk p) a.toList.reverse b.toList.reverse o.toList (a.size - x) (b.size - y)/\x<=a.size/\y<=b.size
theorem JH.swap (h:JH rk a b o x y):JH rk b a o y x:=⟨h.1.swap,h.2.2,h.2.1⟩
theorem qbv (xs:Array Keyed) {k:Nat} (h:k<=xs.size):xs.toList.reverse.drop (xs.size - k)=(xs.toList.take k).reverse:=by
 have:=qfm xs.toList k (by rw [z13];exact h)
 rwa [z13] at this
theorem rcut (xs:Array Keyed) {i k:Nat} (hi:i<=k) (h:k<=xs.size):(xs.toList.reverse.drop (xs.size - k)).take (k - i)=((xs.toList.drop i).take (k - i)).reverse:=by
 have:=qqx xs.toList i k hi (by rw [z13];exact h)
 rwa [z13] at this
theorem qd1 (h:JH rk a b o x y) (ha:Asc rk a.toList) {j:Nat} (L:j<=x) (hx:∀ p∈(a.toList.drop j).take (x - j),∀ q∈b.toList.take y,rk q<=rk p):JH rk a b (o++(a.extract j x).reverse) j y:=by
 obtain ⟨J,h1,h2⟩:=h;refine ⟨?_,by (clear h2;omega),h2⟩;have:=J.moreA (qd0 ha) (x - j) (λ p O q hq=>by
  rw [rcut a L h1] at O;rw [qbv b h2] at hq;have:=hx p (List.mem_reverse.mp O) q (List.mem_reverse.mp hq);show - rk p<= - rk q
  (clear h2 h1 L;omega))
 rw [rcut a L h1,show a.size - x+(x - j)=a.size - j by (clear h2;omega)] at this;rw [z14,Array.toList_reverse,z0x,z09];exact this
theorem q7c {p:Keyed} (h:JH rk a b o x y) (ha:Asc rk a.toList) (h1:1<=x) (e:a[x - 1]? =some p) (J:∀ q∈b.toList.take y,rk q<=rk p):JH rk a b (o.push p) (x - 1) y:=by
 have e':a.toList[x - 1]? =some p:=by rw [z0t];exact e
 have t1:(a.toList.drop (x - 1)).take (x - (x - 1))=[p]:=by
  rw [show x - (x - 1)=1 by (clear e' e;omega)];exact qat e'
 have:=qd1 h ha (j:=x - 1) (by (clear t1 e' e h1;omega)) (by rw [t1];intro z hz;rw [z1d.mp hz];exact J);have e2:(o++(a.extract (x - 1) x).reverse)=o.push p:=by
  apply Array.toList_inj.mp
  rw [z14,Array.toList_reverse,z0x,z09,t1,z1q];rfl
 rwa [e2] at this
theorem qr0 (h:JH rk a b o x y) (hb:Asc rk b.toList) {j:Nat} (hj:j<=y) (hx:∀ p∈(b.toList.drop j).take (y - j),∀ q∈a.toList.take x,rk q<=rk p):JH rk a b (o++(b.extract j y).reverse) x j:=(qd1 h.swap hb hj hx).swap
theorem qfq {p:Keyed} (h:JH rk a b o x y) (hb:Asc rk b.toList) (h1:1<=y) (e:b[y - 1]? =some p) (J:∀ q∈a.toList.take x,rk q<=rk p):JH rk a b (o.push p) x (y - 1):=(q7c h.swap hb h1 e J).swap
theorem qfr (xs:Array Keyed) (k:Nat):(xs.extract 0 k).toList=xs.toList.take k:=by
 rw [z0x,z09,List.drop_zero,Nat.sub_zero]
theorem good_headB' (h:JH rk a b o x y) (ha:Asc rk a.toList) (hb:Asc rk b.toList) (hq:∀ p∈a.toList.take x,∀ q∈b.toList.take y,rk q<=rk p):Good rk a b (q4s a b o x y):=by
 obtain ⟨J,h1,h2⟩:=h;have:=J.done (qd0 ha) (qd0 hb) (λ p O q L=>by
  rw [qbv a h1] at O;rw [qbv b h2] at L;have:=hq p (List.mem_reverse.mp O) q (List.mem_reverse.mp L);show - rk p<= - rk q
  (clear h2 h1;omega))
 rw [qbv a h1,qbv b h2] at this;have e:(q4s a b o x y).toList=(o.toList++(a.toList.take x).reverse++(b.toList.take y).reverse).reverse:=by
  unfold q4s;rw [z14,z14,qfr,qfr,Array.toList_reverse];simp
 unfold Good;rw [e];exact ⟨(List.reverse_perm _).trans (this.1.trans ((List.reverse_perm _).append (List.reverse_perm _))),asc_rev' this.2⟩
theorem good_headA' (h:JH rk a b o x y) (ha:Asc rk a.toList) (hb:Asc rk b.toList) (hq:∀ p∈b.toList.take y,∀ q∈a.toList.take x,rk q<=rk p):Good rk a b (q2x a b o x y):=by
 obtain ⟨p,q⟩:=good_headB' h.swap hb ha hq;exact ⟨p.trans z0q,q⟩
theorem q5j (h:JH rk a b o x y) (ha:Asc rk a.toList) (hb:Asc rk b.toList) (hx:x=0):Good rk a b (q2x a b o x y):=by
 refine good_headA' h ha hb λ p _ q hq=> ?_;rw [hx,List.take_zero] at hq;cases hq
end
section
variable {S:Keyed ->Prop} {rk:Keyed ->Int} {a b o:Array Keyed} {x y:Nat}
theorem q5k (m:Mg S rk a b) (h:JH rk a b o x y) (hy:y=1):Good rk a b (q4s a b o x y):=by
 obtain ⟨z,J,hz⟩:=m.bot;refine good_headB' h m.aa m.ab λ p hp q hq=> ?_;subst hy;obtain ⟨j,hj,e⟩:=z0w.mp hq;rw [z25] at hj;have j0:j=0:=by (clear e J;omega)
 subst j0;rw [z1p] at e;have:b.toList[0]? =some q:=by rw [<- e,z0c]
 rw [z0t,J] at this;cases this
 exact z3d (hz p (z0z hp))
theorem qfs (m:Mg S rk a b) {i:Nat} {p:Keyed} (h1:1<=i) (e:a[i - 1]? =some p):∀ q∈a.toList.take i,rk q<=rk p:=by
 have:=qiq m.aa (i:=i - 1) (x:=p) (by rw [z0t];exact e)
 rwa [show i - 1+1=i by (clear e;omega)] at this
theorem qft (m:Mg S rk a b) {i:Nat} {p:Keyed} (h1:1<=i) (e:b[i - 1]? =some p):∀ q∈b.toList.take i,rk q<=rk p:=by
 have:=qiq m.ab (i:=i - 1) (x:=p) (by rw [z0t];exact e)
 rwa [show i - 1+1=i by (clear e;omega)] at this
theorem qfu {l:List Keyed} {k:Nat} {p:Keyed} (h:p∈l.take k):∃ j,j < k/\l[j]? =some p:=by
 have:=q6q (l:=l) (i:=0) (k:=k) (p:=p) (by simpa using h);obtain ⟨j,a,b⟩:=this;exact ⟨j,a,by rwa [z3f] at b⟩
end
abbrev HiSt:=Option (Array Keyed)×Nat×Nat×Array Keyed×Nat×Nat×Nat
def qbw (a b:Array Keyed) (ca cb g:Nat) (o:Array Keyed) (x y:Nat):StateT SortSt Sem (ForInStep HiSt):=do
 let p <- elem' a (x - 1)
 if (x - 1==0)=true then pure (ForInStep.done (some (q2x a b (o.push p) (x - 1) y),x - 1,y,o.push p,g,ca,cb))
 else if (decide (ca < 7)&&decide (cb < 7))=true then pure (ForInStep.done (none,x - 1,y,o.push p,g,ca,cb))
 else pure (ForInStep.yield (none,x - 1,y,o.push p,g,ca,cb))
def qfc (a b:Array Keyed) (ca cb g:Nat) (o:Array Keyed) (x y:Nat):StateT SortSt Sem (ForInStep HiSt):=do
 let p <- elem' b (y - 1)
 if (y - 1==1)=true then pure (ForInStep.done (some (q4s a b (o.push p) x (y - 1)),x,y - 1,o.push p,g,ca,cb))
 else do
  let some j <- q2j true (<- elem' a (x - 1)) b 0 (y - 1) (y - 1 - 1) | pure (ForInStep.done (some (q2x a b (o.push p) x (y - 1)),x,y - 1,o.push p,g,ca,cb))
  if y - 1 - j > 0 then
   if (j==1)=true then pure (ForInStep.done (some (q4s a b (o.push p++(b.extract j (y - 1)).reverse) x j),x,j,o.push p++(b.extract j (y - 1)).reverse,g,ca,y - 1 - j))
   else if (j==0)=true then pure (ForInStep.done (some (q2x a b (o.push p++(b.extract j (y - 1)).reverse) x j),x,j,o.push p++(b.extract j (y - 1)).reverse,g,ca,y - 1 - j))
   else qbw a b ca (y - 1 - j) g (o.push p++(b.extract j (y - 1)).reverse) x j
  else qbw a b ca (y - 1 - j) g (o.push p) x (y - 1)
def qk1 (a b:Array Keyed) (ca cb g:Nat) (o:Array Keyed) (x y:Nat):StateT SortSt Sem (ForInStep HiSt):=do
 modify λ st=>q5o st g
 let some j <- q2j false (<- elem' b (y - 1)) a 0 x (x - 1) | pure (ForInStep.done (some (q2x a b o x y),x,y,o,g,ca,cb))
 if x - j > 0 then
  if (j==0)=true then pure (ForInStep.done (some (q2x a b (o++(a.extract j x).reverse) j y),j,y,o++(a.extract j x).reverse,g,x - j,cb))
  else qfc a b (x - j) cb g (o++(a.extract j x).reverse) j y
 else qfc a b (x - j) cb g o x y
section
variable {M:Model} {A:Around} {E:Value ->Shared ->Prop} {s:Shared} {kd:SortKind} {S:Keyed ->Prop} {rk:Keyed ->Int} {a b:Array Keyed} {st:SortSt}
structure GoH (rk:Keyed ->Int) (a b o:Array Keyed) (x y:Nat):Prop where
 jn:JH rk a b o x y
 hx:1<=x
 hy:2<=y
def HiQ (rk:Keyed ->Int) (a b:Array Keyed) (st:SortSt) (n:Nat) (r:ForInStep HiSt) (st':SortSt):Prop:=Gl st st'/\match r with
 | .done c=>(∃ r,c.1=some r/\Good rk a b r)\/ (c.1=none/\GoH rk a b c.2.2.2.1 c.2.1 c.2.2.1/\c.2.1+c.2.2.1<=n)
 | .yield c=>c.1=none/\GoH rk a b c.2.2.2.1 c.2.1 c.2.2.1/\c.2.1+c.2.2.1<=n
theorem qfv (m:Mg S rk a b) {O:SortSt} {n ca cb g x y:Nat} {o:Array Keyed} (hg:Gl st O) (J:JH rk a b o x y) (hx:1<=x) (hy:2<=y)
  (a0:∀ p,a[x - 1]? =some p ->∀ q∈b.toList.take y,rk q<=rk p) (hn:x+y<=n+1):wpS M A E s (qbw a b ca cb g o x y) (HiQ rk a b st n) O:=by
 have Y:=J.2.1;obtain ⟨p,e,_,_⟩:=m.atA (i:=x - 1) (by (clear hn hy;omega));have Z:=q7c J m.aa hx e (a0 p e);unfold qbw;refine wpS_bind (q1o e ?_);by_cases L:x - 1=0
 ·rw [if_pos (by simpa using L)];exact wpS_pure ⟨hg,.inl ⟨_,zr,q5j Z m.aa m.ab L⟩⟩
 ·rw [if_neg (by simpa using L)];by_cases c2:(decide (ca < 7)&&decide (cb < 7))=true
  ·rw [if_pos c2];exact wpS_pure ⟨hg,.inr ⟨rfl,⟨Z,by show 1<=x - 1;(clear c2 e Y hn hy hx;omega),hy⟩,by show x - 1+y<=n;(clear c2 L e Y hy;omega)⟩⟩
  ·rw [if_neg c2];exact wpS_pure ⟨hg,rfl,⟨Z,by show 1<=x - 1;(clear c2 e Y hn hy hx;omega),hy⟩,by show x - 1+y<=n;(clear c2 L e Y hy;omega)⟩
theorem qit (L:LtOk M A E s kd S rk) (Z:kindOf st=kd) (m:Mg S rk a b) {a0:SortSt} {n ca cb g x y:Nat} {o:Array Keyed} (hg:Gl st a0) (J:JH rk a b o x y) (hx:1<=x) (hy:2<=y)
  (a2:∀ p,b[y - 1]? =some p ->∀ q∈a.toList.take x,rk q<=rk p) (hn:x+y<=n+1):wpS M A E s (qfc a b ca cb g o x y) (HiQ rk a b st n) a0:=by
 have O:=J.2.1;have Y:=J.2.2;obtain ⟨p,e,_,_⟩:=m.atB (i:=y - 1) (by (clear O hn hx Z;omega));have J':=qfq J m.ab (by (clear e Y O hn hx Z;omega)) e (a2 p e);unfold qfc;refine wpS_bind (q1o e ?_);by_cases c1:y - 1=1
 ·rw [if_pos (by simpa using c1)];exact wpS_pure ⟨hg,.inl ⟨_,zr,q5k m J' c1⟩⟩
 ·rw [if_neg (by simpa using c1)];obtain ⟨q,eq,sq,mq⟩:=m.atA (i:=x - 1) (by (clear c1 e Y hn hy Z;omega));refine wpS_bind (q1o eq ?_);refine wpS_bind (q4l L (hg.kind.trans Z) sq (λ i hi=> ?_) (qbt m.ab _ _ (by (clear eq c1 e O hn hy hx Z;omega))) (by (clear eq c1 e Y O hn hx Z;omega)) λ j j1 j2 j3=> ?_)
  ·obtain ⟨p,e,sp,_⟩:=m.atB (i:=0+i) (by (clear eq c1 e O hn hy hx Z;omega));exact ⟨p,e,sp⟩
  dsimp only
  have after:∀ p',a[x - 1]? =some p' ->∀ z∈b.toList.take j,rk z<=rk p':=λ p' ep z hz=>by
   rw [eq] at ep;cases ep
   obtain ⟨i,h1,ez⟩:=qfu hz;have:=j2 i h1;rw [z3f,q27 b i ez] at this;simp [ahd] at this
   (clear ez h1 j1 eq c1 e Y O hn hy hx Z;omega)
  by_cases c2:y - 1 - j > 0
  ·rw [if_pos c2];have J2:=qr0 J' m.ab (j:=j) (by (clear c2 eq c1 e Y O hn hy hx Z;omega)) λ z hz w hw=>by
    obtain ⟨i,h1,ez⟩:=q6q hz;have:=j3 (j+i) (by (clear ez h1 c2 j1 eq c1 e Y O hn hy hx Z;omega)) (by (clear ez c2 j1 eq c1 e Y O hn hy hx Z;omega));rw [z3f,q27 b _ ez] at this;simp [ahd] at this
    have:=qfs m hx eq w hw
    (clear ez h1 c2 j1 eq c1 e Y O hn hy hx Z;omega)
   by_cases c3:j=1
   ·rw [if_pos (by simpa using c3)];exact wpS_pure ⟨hg,.inl ⟨_,zr,q5k m J2 c3⟩⟩
   ·rw [if_neg (by simpa using c3)];have c4:¬ j=0:=λ c4=>by
     obtain ⟨z,ez,hz⟩:=m.bot;have:=j3 0 (by (clear ez c3 c2 j1 eq c1 e Y O hn hy hx Z;omega)) (by (clear ez c4 c3 c2 j1 eq c1 e Y O hn hx Z;omega));rw [z3f,q2v ez] at this;simp [ahd] at this
     have:=hz q mq
     (clear ez c4 c3 c2 j1 eq c1 e Y O hn hy hx Z;omega)
    rw [if_neg (by simpa using c4)];exact qfv m hg J2 hx (by (clear c2 j1 eq c1 e Y O hn hy hx Z;omega)) after (by (clear c4 c3 c2 eq c1 e Y O hy hx Z;omega))
  ·rw [if_neg c2];have ej:j=y - 1:=by (clear eq c1 e Y O hn hy hx Z;omega)
   subst ej;exact qfv m hg J' hx (by (clear c2 j1 eq e Y O hn hx Z;omega)) after (by (clear c2 j1 eq c1 e Y O hy hx Z;omega))
theorem qr1 (L:LtOk M A E s kd S rk) (Z:kindOf st=kd) (m:Mg S rk a b) {a2:SortSt} {n ca cb g x y:Nat} {o:Array Keyed} (hg:Gl st a2) (G:GoH rk a b o x y) (hn:x+y<=n+1):
  wpS M A E s (qk1 a b ca cb g o x y) (HiQ rk a b st n) a2:=by
 obtain ⟨J,hx,hy⟩:=G;have Y:=J.2.1;have O:=J.2.2;unfold qk1;refine wpS_bind (wpS_modify ?_);have a0:=hg.set g;obtain ⟨q,eq,sq,mq⟩:=m.atB (i:=y - 1) (by (clear Y hx hn Z;omega));refine wpS_bind (q1o eq ?_);refine wpS_bind (q4l L (a0.kind.trans Z) sq (λ i hi=> ?_) (qbt m.aa _ _ (by (clear eq O hy hx hn Z;omega))) (by (clear eq O Y hy hn Z;omega)) λ j j1 j2 j3=> ?_)
 ·obtain ⟨p,e,sp,_⟩:=m.atA (i:=0+i) (by (clear eq O hy hx hn Z;omega));exact ⟨p,e,sp⟩
 dsimp only
 have after:∀ p',b[y - 1]? =some p' ->∀ z∈a.toList.take j,rk z<=rk p':=λ p' ep z hz=>by
  rw [eq] at ep;cases ep
  obtain ⟨i,h1,ez⟩:=qfu hz;have:=j2 i h1;rw [z3f,q27 a i ez] at this;simp [ahd] at this
  (clear ez h1 j1 eq O Y hy hx hn Z;omega)
 by_cases c2:x - j > 0
 ·rw [if_pos c2];have J2:=qd1 J m.aa (j:=j) (by (clear c2 eq O Y hy hx hn Z;omega)) λ z hz w hw=>by
   obtain ⟨i,h1,ez⟩:=q6q hz;have:=j3 (j+i) (by (clear ez h1 c2 j1 eq O Y hy hx hn Z;omega)) (by (clear ez c2 j1 eq O Y hy hx hn Z;omega));rw [z3f,q27 a _ ez] at this;simp [ahd] at this
   have:=qft m (by (clear this ez h1 c2 j1 eq O Y hx hn Z;omega)) eq w hw
   (clear ez h1 c2 j1 eq O Y hy hx hn Z;omega)
  by_cases c3:j=0
  ·rw [if_pos (by simpa using c3)];exact wpS_pure ⟨a0,.inl ⟨_,zr,q5j J2 m.aa m.ab c3⟩⟩
  ·rw [if_neg (by simpa using c3)];exact qit L Z m a0 J2 (by (clear c2 j1 eq O Y hy hx hn Z;omega)) hy after (by (clear c3 c2 eq O Y hy hx Z;omega))
 ·rw [if_neg c2];have ej:j=x:=by (clear eq O Y hy hx hn Z;omega)
  subst ej;exact qit L Z m a0 J hx hy after hn
theorem qlm (L:LtOk M A E s kd S rk) (Y:kindOf st=kd) (m:Mg S rk a b) {Q:Array Keyed ->SortSt ->Prop} (h:∀ r a2,Gl st a2 ->Good rk a b r ->Q r a2):wpS M A E s (qaz a b) Q st:=by
 rw [qhx];refine wpS_bind (wpS_lift (z3u ⟨zr,?_⟩));have na:=m.na;have nb:=m.nb;obtain ⟨q,eq,sq,mq⟩:=m.atA (i:=a.size - 1) (by (clear nb Y;omega));refine wpS_bind (q1o eq ?_);have J1:JH rk a b #[q] (a.size - 1) b.size:=by
  obtain ⟨z,ez,hz⟩:=m.top;rw [eq] at ez;cases ez
  have J0:JH rk a b #[] a.size b.size:=⟨by rw [Nat.sub_self,Nat.sub_self];exact Jn.start,z3q _,z3q _⟩;exact q7c (o:=#[]) J0 m.aa na eq λ w hw=>z3d (hz w (z0z hw))
 by_cases Z:a.size - 1=0
 ·rw [if_pos (by simpa using Z)];exact wpS_pure (h _ _ (Gl.refl _) (q5j J1 m.aa m.ab Z))
 ·rw [if_neg (by simpa using Z)];by_cases c2:b.size=1
  ·rw [if_pos (by simpa using c2)];exact wpS_pure (h _ _ (Gl.refl _) (q5k m J1 c2))
  ·rw [if_neg (by simpa using c2)];refine wpS_bind (wpS_get ?_);have G1:GoH rk a b #[q] (a.size - 1) b.size:=⟨J1,by (clear c2 eq nb na Y;omega),by (clear Z eq na Y;omega)⟩;refine wpS_bind (wpS_mono (wpS_forRange (I:=λ i c a2=>Gl st a2/\∃ x y o g,c=(none,x,y,o,g)/\GoH rk a b o x y/\x+y+i+1<=a.size+b.size)
    (Q:=λ c a2=>Gl st a2/\∃ r x y o g,c=(some r,x,y,o,g)/\Good rk a b r) ?turn ?last ⟨Gl.refl _,_,_,#[q],_,rfl,G1,by (clear c2 Z eq nb Y;omega)⟩) ?after)
   case after=>
    rintro c a2 ⟨hg,r,x,y,o,g,rfl,hr⟩;exact wpS_pure (h r a2 hg hr)
   case last=>
    rintro c a2 ⟨hg,x,y,o,g,rfl,G,hi⟩;have:=G.hx;have:=G.hy
    exfalso
    (clear this c2 Z eq nb na Y;omega)
   case turn=>
    rintro i c a2 _ hi ⟨hg,x,y,o,g,rfl,G,O⟩
    dsimp only
    refine wpS_bind (wpS_mono (wpS_forRange (I:=λ j c a3=>Gl st a3/\∃ x y o ca cb,c=(none,x,y,o,ca,cb)/\GoH rk a b o x y/\x+y+i+1+j<=a.size+b.size)
     (Q:=λ c a3=>Gl st a3/\∃ r x y o ca cb,c=(r,x,y,o,ca,cb)/\match r with
      | some r=>Good rk a b r
      | none=>GoH rk a b o x y/\x+y+i+2<=a.size+b.size) ?iturn ?ilast ⟨hg,x,y,o,0,0,rfl,G,by (clear hi c2 Z eq nb na Y;omega)⟩) ?iafter)
    case ilast=>
     rintro c a3 ⟨a0,x,y,o,ca,cb,rfl,G,hj⟩;have:=G.hx;have:=G.hy
     exfalso
     (clear this O hi c2 Z eq nb na Y;omega)
    case iturn=>
     rintro j c a3 _ hj ⟨a0,x,y,o,ca,cb,rfl,G,J⟩
     dsimp only
     have g1:=G.hx;have g2:=G.hy;have z1:=G.jn.2.1;have z2:=G.jn.2.2;obtain ⟨pb,eb,sb,mb⟩:=m.atB (i:=y - 1) (by (clear z1 g2 g1 J hj O hi c2 Z eq na Y;omega));obtain ⟨pa,ea,sa,ma⟩:=m.atA (i:=x - 1) (by (clear eb z2 g2 g1 J hj O hi c2 Z eq nb Y;omega));refine wpS_bind (q1o eb (wpS_bind (q1o ea (wpS_bind (L pb pa a3 _ sb sa (a0.kind.trans Y) ?_)))));by_cases hw:rk pb < rk pa
     ·simp only [hw,z3r,if_true];refine wpS_bind (q1o ea ?_);have J2:=q7c G.jn m.aa g1 ea λ z hz=>z3e (qft m (by (clear hw ea eb z2 z1 g1 J hj O hi c2 Z eq nb na Y;omega)) eb z hz) (z3d hw);by_cases c3:x - 1=0
      ·rw [if_pos (by simpa using c3)];exact wpS_pure ⟨a0,_,_,_,_,_,_,zr,q5j J2 m.aa m.ab c3⟩
      ·rw [if_neg (by simpa using c3)];have G2:GoH rk a b (o.push pa) (x - 1) y:=⟨J2,by (clear hw ea eb z2 z1 g2 g1 J hj O hi c2 Z eq nb na Y;omega),g2⟩;split
       ·exact wpS_pure ⟨a0,_,_,_,_,_,_,rfl,G2,by (clear c3 hw ea eb z2 z1 g2 hj O hi c2 Z eq nb na Y;omega)⟩
       ·exact wpS_pure ⟨a0,_,_,_,_,_,rfl,G2,by (clear c3 hw ea eb z2 z1 g2 hj O hi c2 Z eq nb na Y;omega)⟩
     ·simp only [hw,z3c,z1b,if_false];refine wpS_bind (q1o eb ?_);have J2:=qfq G.jn m.ab (by (clear hw ea eb z2 z1 g1 J hj O hi c2 Z eq nb na Y;omega)) eb λ z hz=>z3e (qfs m g1 ea z hz) (by (clear ea eb z2 z1 g2 g1 J hj O hi c2 Z eq nb na Y;omega));by_cases c3:y - 1=1
      ·rw [if_pos (by simpa using c3)];exact wpS_pure ⟨a0,_,_,_,_,_,_,zr,q5k m J2 c3⟩
      ·rw [if_neg (by simpa using c3)];have G2:GoH rk a b (o.push pb) x (y - 1):=⟨J2,g1,by (clear hw ea eb z2 z1 g1 J hj O hi c2 Z eq nb na Y;omega)⟩;split
       ·exact wpS_pure ⟨a0,_,_,_,_,_,_,rfl,G2,by (clear c3 hw ea eb z2 z1 g1 hj O hi c2 Z eq nb na Y;omega)⟩
       ·exact wpS_pure ⟨a0,_,_,_,_,_,rfl,G2,by (clear c3 hw ea eb z2 z1 g1 hj O hi c2 Z eq nb na Y;omega)⟩
    case iafter=>
     rintro c a3 ⟨a0,r,x2,y2,o2,ca,cb,rfl,hr⟩;cases r with
     | some r=>exact wpS_pure ⟨a0,r,_,_,_,_,rfl,hr⟩
     | none=>
      obtain ⟨G2,J⟩:=hr
      dsimp only
      refine wpS_bind (wpS_lift (z3u ⟨zr,?_⟩));refine wpS_bind (wpS_mono (wpS_forRange (I:=λ j c a5=>Gl st a5/\∃ x y o g ca cb,c=(none,x,y,o,g,ca,cb)/\GoH rk a b o x y/\x+y+i+2+j<=a.size+b.size)
       (Q:=λ c a5=>Gl st a5/\∃ r x y o g ca cb,c=(r,x,y,o,g,ca,cb)/\match r with
        | some r=>Good rk a b r
        | none=>GoH rk a b o x y/\x+y+i+2<=a.size+b.size) ?gturn ?glast ⟨a0,x2,y2,o2,_,_,_,rfl,G2,by (clear O hi c2 Z eq nb na Y;omega)⟩) ?gafter)
      case glast=>
       rintro c a5 ⟨a6,x,y,o,g,ca,cb,rfl,G,hj⟩;have:=G.hx;have:=G.hy
       exfalso
       (clear this J O hi c2 Z eq nb na Y;omega)
      case gturn=>
       rintro j c a5 _ hj ⟨a6,x,y,o,g,ca,cb,rfl,G,a7⟩;have go:∀ g',wpS M A E s (qk1 a b ca cb g' o x y) (HiQ rk a b st (x+y - 1)) a5:=λ g'=>qr1 L Y m a6 G (by (clear a7 hj J O hi c2 Z eq nb na Y;omega));have g1:=G.hx
       dsimp only
       by_cases a9:g > 1
       case' pos=>
        rw [if_pos a9];refine wpS_mono (go (g - 1)) ?_
       case' neg=>
        rw [if_neg a9];refine wpS_mono (go g) ?_
       all_goals
        intro r st4 q;obtain ⟨a8,q⟩:=q;cases r with
        | done c'=>
         obtain ⟨r,x',y',o',g',b0,b1⟩:=c';rcases q with ⟨r',e,q⟩ | ⟨e,q,q'⟩
         ·simp only at e;subst e;exact ⟨a8,_,_,_,_,_,_,_,zr,q⟩
         ·simp only at e q q';subst e;exact ⟨a8,_,_,_,_,_,_,_,zr,q,by omega⟩
        | yield c'=>
         obtain ⟨r,x',y',o',g',b0,b1⟩:=c';obtain ⟨e,q,q'⟩:=q;simp only at e q q';subst e;exact ⟨a8,_,_,_,_,_,_,zr,q,by omega⟩
      case gafter=>
       rintro c a5 ⟨a6,r,x3,y3,o3,g3,ca3,cb3,rfl,hr⟩;cases r with
       | some r=>exact wpS_pure ⟨a6,r,_,_,_,_,rfl,hr⟩
       | none=>
        obtain ⟨G3,a7⟩:=hr
        dsimp only
        exact wpS_bind (wpS_modify (wpS_pure ⟨a6.set _,_,_,_,_,rfl,G3,by (clear J O hi c2 Z eq nb na Y;omega)⟩))
end
theorem qr2 {M:Model} {A:Around} {E:Value ->Shared ->Prop} {s:Shared} {σ:Type} {v:σ} {Q:PUnit ->σ ->Prop} {st:σ} (h:Q ⟨⟩ v):wpS M A E s (set v:StateT σ Sem PUnit) Q st:=by
 unfold wpS;rw [StateT.run_set];exact z3v ⟨zr,h⟩
def wrt (base:Nat) (l:List (Keyed×Nat)) (xs:Array Keyed):Array Keyed:=l.foldl (λ a q=>a.setIfInBounds (base+q.2) q.1) xs
theorem qk2 (i:Nat):mergeAt' i=(do
 let c <- get
 let (some (sa,na,pw),some (sb,nb,_)):=((pendingOf c)[i]?,(pendingOf c)[i+1]?) | unsupported "internal:list.sort.pending"
 set (setPending c (((pendingOf c).setIfInBounds i (sa,na+nb,pw)).eraseIdxIfInBounds (i+1)))
 let some k <- q2j false (<- elem' (arrOf c) sb) (arrOf c) sa na 0 | return false
 let (sa,na):=(sa+k,na - k)
 if na==0 then return true
 let some nb <- q2j true (<- elem' (arrOf c) (sa+na - 1)) (arrOf c) sb nb (nb - 1) | return false
 if nb==0 then return true
 let x:=(arrOf c).extract sa sb
 let y:=(arrOf c).extract sb (sb+nb)
 let r <- if na<=nb then qav x y else qaz x y
 modify λ c=>setArr c (wrt sa r.toList.zipIdx (arrOf c))
 return (failedOf (<- get)).isNone):=rfl
theorem qfw (base:Nat):∀ (l:List Keyed) (k:Nat) (xs:Array Keyed),base+k+l.length<=xs.size ->∀ j,(wrt base (l.zipIdx k) xs)[j]? =if base+k<=j/\j < base+k+l.length then l[j - (base+k)]? else xs[j]?
 | [],k,xs,_,j=>by
  rw [if_neg (by simp)];rfl
 | p::r,k,xs,h,j=>by
  have h':base+k+(r.length+1)<=xs.size:=h;have J:=qfw base r (k+1) (xs.setIfInBounds (base+k) p) (by rw [Array.size_setIfInBounds];(clear h;omega)) j;rw [List.zipIdx_cons];show (wrt base (r.zipIdx (k+1)) (xs.setIfInBounds (base+k) p))[j]? =_;rw [J,z27];by_cases L:base+(k+1)<=j/\j < base+(k+1)+r.length
  ·rw [if_pos L,if_pos (by (clear J h' h;omega)),show j - (base+k)=j - (base+(k+1))+1 by (clear J h' h;omega),List.getElem?_cons_succ]
  ·rw [if_neg L,Array.getElem?_setIfInBounds];by_cases c2:base+k=j
   ·rw [if_pos c2,if_pos (by (clear c2 L J h;omega)),if_pos (by (clear L J h' h;omega)),show j - (base+k)=0 by (clear L J h' h;omega)];rfl
   ·rw [if_neg c2,if_neg (by (clear J h' h;omega))]
theorem qoe (base:Nat) (l:List Keyed) (xs:Array Keyed) (h:base+l.length<=xs.size):(wrt base l.zipIdx xs).toList=xs.toList.take base++l++xs.toList.drop (base+l.length):=by
 apply z1r
 intro j;have:=qfw base l 0 xs (by omega) j;rw [z0t];rw [this];have e1:(xs.toList.take base).length=base:=by rw [z25,z13];(clear this;omega)
 by_cases J:j < base
 ·rw [if_neg (by (clear e1 this h;omega)),z1o,List.getElem?_append_left (by (clear this h;omega)),List.getElem?_take_of_lt J,z0t]
 ·rw [z1o,z04 (by (clear this h;omega)),e1];by_cases c2:j < base+l.length
  ·rw [if_pos (by (clear e1 this h;omega)),List.getElem?_append_left (by (clear e1 this h;omega))];rfl
  ·rw [if_neg (by (clear J e1 this h;omega)),z04 (by (clear J e1 this h;omega)),List.getElem?_drop,<- z0t]
   congr 1
   (clear J e1 this h;omega)
def Runs (rk:Keyed ->Int) (xs:Array Keyed):Nat ->List (Nat×Nat×Nat) ->Nat ->Prop
 | u,[],v=>u=v
 | u,r::l,v=>r.1=u/\1<=r.2.1/\Up rk xs u (u+r.2.1)/\Runs rk xs (u+r.2.1) l v
section
variable {rk:Keyed ->Int} {xs ys:Array Keyed}
theorem Runs.split:∀ {l1 l2:List (Nat×Nat×Nat)} {u v:Nat},Runs rk xs u (l1++l2) v↔∃ w,Runs rk xs u l1 w/\Runs rk xs w l2 v
 | [],l2,u,v=>⟨λ h=>⟨u,rfl,h⟩,λ ⟨w,e,h⟩=>by cases e;exact h⟩
 | r::l1,l2,u,v=>by
  constructor
  ·rintro ⟨a,b,c,d⟩;obtain ⟨w,h1,h2⟩:=Runs.split.mp d;exact ⟨w,⟨a,b,c,h1⟩,h2⟩
  ·rintro ⟨w,⟨a,b,c,d⟩,h2⟩;exact ⟨a,b,c,Runs.split.mpr ⟨w,d,h2⟩⟩
theorem Runs.le:∀ {l:List (Nat×Nat×Nat)} {u v:Nat},Runs rk xs u l v ->u+l.length<=v
 | [],u,v,h=>by cases h;simp
 | r::l,u,v,⟨_,b,_,d⟩=>by
  have:=Runs.le d;rw [z27];omega
theorem Up.same {lo hi:Nat} (h:Up rk xs lo hi) (e:∀ k,lo<=k ->k < hi ->ys[k]? =xs[k]?):Up rk ys lo hi:=λ i j a b c=>by
 rw [q41 (e i a (by (clear a;omega))),q41 (e j (by (clear c;omega)) c)];exact h i j a b c
theorem Runs.same:∀ {l:List (Nat×Nat×Nat)} {u v:Nat},Runs rk xs u l v ->(∀ k,u<=k ->k < v ->ys[k]? =xs[k]?) ->Runs rk ys u l v
 | [],u,v,h,_=>h
 | r::l,u,v,⟨a,b,c,d⟩,e=>by
  have:=Runs.le d;exact ⟨a,b,c.same λ k h1 h2=>e k h1 (by (clear h1 b a;omega)),d.same λ k h1 h2=>e k (by (clear h2 this b a;omega)) h2⟩
theorem Runs.pow:∀ {l J:List (Nat×Nat×Nat)} {u v:Nat},Runs rk xs u l v ->J.map (λ r=>(r.1,r.2.1))=l.map (λ r=>(r.1,r.2.1)) ->Runs rk xs u J v
 | [],J,u,v,h,e=>by
  have:J=[]:=by simpa using e
  subst this;exact h
 | r::l,J,u,v,⟨a,b,c,d⟩,e=>by
  cases J with
  | nil=>simp at e
  | cons r' J=>
   simp only [z35,z2j,Prod.mk.injEq] at e;obtain ⟨⟨e1,e2⟩,e3⟩:=e;exact ⟨e1.trans a,by (clear e1 e3 a;omega),by rw [e2];exact c,by rw [e2];exact d.pow e3⟩
end
section
variable {M:Model} {A:Around} {E:Value ->Shared ->Prop} {s:Shared} {kd:SortKind} {S:Keyed ->Prop} {rk:Keyed ->Int} {n:Nat}
theorem qiu {xs:Array Keyed} {i j:Nat} (O:j<=xs.size) (h:Up rk xs i j):Asc rk (xs.extract i j).toList:=by
 unfold Asc;rw [z07];intro p q L hq J;have hl:(xs.extract i j).toList.length=j - i:=by rw [z13,z1e];(clear J hq L;omega)
 have e:∀ p (L:p < (xs.extract i j).toList.length),rk (xs.extract i j).toList[p]=kx rk xs (i+p):=λ p L=>by
  refine (q2v ?_).symm;have h1:(xs.extract i j)[p]? =some (xs.extract i j).toList[p]:=by rw [<- z0t,z0c]
  rw [<- h1,Array.getElem?_extract,if_pos (by (clear h1 J hq;omega))]
 rw [e p L,e q hq];exact h _ _ (by (clear hl J hq L O;omega)) (by (clear hl hq L O;omega)) (by (clear J L O;omega))
theorem q5m {xs:Array Keyed} {i j:Nat} (J:j<=xs.size) {p:Keyed} (h:p∈(xs.extract i j).toList):∃ k,i<=k/\k < j/\xs[k]? =some p:=by
 obtain ⟨q,hq,e⟩:=z0w.mp h;have hl:(xs.extract i j).toList.length=j - i:=by rw [z13,z1e];(clear e hq;omega)
 refine ⟨i+q,by (clear hl e hq J;omega),by (clear e J;omega),?_⟩;have h1:(xs.extract i j)[q]? =some p:=by rw [<- z0t,z0c hq,e]
 rw [<- h1,Array.getElem?_extract,if_pos (by (clear h1 e;omega))]
theorem qln {xs:Array Keyed} {i j k:Nat} (h:i+k < j) (hj:j<=xs.size):(xs.extract i j)[k]? =xs[i+k]? :=by
 rw [Array.getElem?_extract,if_pos (by omega)]
theorem Mv.wrote {st:SortSt} {a m b:Nat} {r:Array Keyed} (h1:a<=m) (h2:m<=b) (L:b<=(arrOf st).size) (hr:r.toList.Perm (((arrOf st).extract a m).toList++((arrOf st).extract m b).toList)):
  Mv a b st (setArr st (wrt a r.toList.zipIdx (arrOf st)))/\(∀ j,a<=j ->j < b ->∃ p,(wrt a r.toList.zipIdx (arrOf st))[j]? =some p/\p∈r.toList/\r.toList[j - a]? =some p):=by
 have hl:r.toList.length=b - a:=by
  rw [hr.length_eq,z1f,z13,z13,z1e,z1e];omega
 have hw:=qoe a r.toList (arrOf st) (by omega);have O:=qfw a r.toList 0 (arrOf st) (by (clear hw;omega));refine ⟨⟨?_,λ k hk=> ?_,zr,zr,zr⟩,λ j ha hb'=> ?_⟩
 ·rw [z03];show (wrt a r.toList.zipIdx (arrOf st)).toList.Perm (arrOf st).toList;rw [hw,hl,show a+(b - a)=b by (clear hw hl L;omega)];have e:(arrOf st).toList=(arrOf st).toList.take a++(((arrOf st).extract a m).toList++((arrOf st).extract m b).toList)++(arrOf st).toList.drop b:=by
   rw [z0x,z0x,z09,z09];have e1:(arrOf st).toList.drop a=((arrOf st).toList.drop a).take (m - a)++(arrOf st).toList.drop m:=by
    have:=q5g (arrOf st).toList a (m - a)
    rwa [show a+(m - a)=m by (clear this hw hl L h2;omega)] at this
   have e2:(arrOf st).toList.drop m=((arrOf st).toList.drop m).take (b - m)++(arrOf st).toList.drop b:=by
    have:=q5g (arrOf st).toList m (b - m)
    rwa [show m+(b - m)=b by (clear this e1 hw hl L h1;omega)] at this
   rw [z1o,z1o,<- e2,<- e1,z0r]
  refine List.Perm.trans ?_ (List.Perm.of_eq e.symm);exact (hr.append_left _).append_right _
 ·show (wrt a r.toList.zipIdx (arrOf st))[k]? =_;rw [O k,if_neg (by (clear hw L h2 h1;omega))]
 ·have J:j - a < r.toList.length:=by (clear hw L h2 h1;omega)
  refine ⟨r.toList[j - a],?_,by simp,z0c J⟩;rw [O j,if_pos (by (clear J hw L h2 h1;omega)),Nat.add_zero,z0c J]
structure Merged (rk:Keyed ->Int) (lo hi:Nat) (p:Array (Nat×Nat×Nat)) (st st':SortSt):Prop where
 perm:(arrOf st').Perm (arrOf st)
 out:∀ k,k < lo\/ hi<=k ->(arrOf st')[k]? =(arrOf st)[k]?
 kind:kindOf st'=kindOf st
 failed:failedOf st'=failedOf st
 pend:pendingOf st'=p
 up:Up rk (arrOf st') lo hi
theorem qdv (L:LtOk M A E s kd S rk) {st:SortSt} (B:Sane kd S n st) {i sa na pw nb p2:Nat} (e1:(pendingOf st)[i]? =some (sa,na,pw)) (e2:(pendingOf st)[i+1]? =some (sa+na,nb,p2)) (ha:1<=na) (Z:1<=nb) (hn:sa+na+nb<=n)
  (u1:Up rk (arrOf st) sa (sa+na)) (u2:Up rk (arrOf st) (sa+na) (sa+na+nb)) {Q:Bool ->SortSt ->Prop}
  (h:∀ a2,Merged rk sa (sa+na+nb) (((pendingOf st).setIfInBounds i (sa,na+nb,pw)).eraseIdxIfInBounds (i+1)) st a2 ->Q true a2):wpS M A E s (mergeAt' i) Q st:=by
 rw [qk2];refine wpS_bind (wpS_get ?_);rw [e1,e2]
 dsimp only
 refine wpS_bind (qr2 ?_);have a3:∀ j,j < n ->∃ p,(arrOf st)[j]? =some p/\S p:=λ j hj=>by
  obtain ⟨p,a,b,_⟩:=B.at rk hj;exact ⟨p,a,b⟩
 have hz:=B.size;obtain ⟨q,eq,sq⟩:=a3 (sa+na) (by (clear hz ha e2 e1;omega));have Y:kx rk (arrOf st) (sa+na)=rk q:=q2v eq;refine wpS_bind (q1o eq ?_);refine wpS_bind (q4l L B.kind sq (λ j hj=>a3 (sa+j) (by (clear Y eq hz Z ha e2 e1;omega))) u1 (by (clear Y eq hz hn Z e2 e1;omega)) λ k k1 k2 k3=> ?_)
 dsimp only
 have b1:∀ j,sa<=j ->j < sa+k ->kx rk (arrOf st) j<=kx rk (arrOf st) (sa+na):=λ j a b=>by
  have:=k2 (j - sa) (by (clear k1 Y eq hz hn Z ha e2 e1;omega));rw [show sa+(j - sa)=j by (clear this b k1 Y eq hz hn Z ha e2 e1;omega)] at this;simp [ahd] at this
  rw [Y];exact this
 have a6:∀ j,sa+k<=j ->j < sa+na ->kx rk (arrOf st) (sa+na) < kx rk (arrOf st) j:=λ j a b=>by
  have:=k3 (j - sa) (by (clear b k1 Y eq hz hn Z ha e2 e1;omega)) (by (clear a k1 Y eq hz hn Z e2 e1;omega));rw [show sa+(j - sa)=j by (clear this b k1 Y eq hz hn Z ha e2 e1;omega)] at this;simp [ahd] at this
  rw [Y]
  (clear b a k1 Y eq hz hn Z ha e2 e1;omega)
 have J:kx rk (arrOf st) (sa+na - 1)<=kx rk (arrOf st) (sa+na) ->Up rk (arrOf st) sa (sa+na+nb):=λ a9 i j a b c=>by
  by_cases c1:j < sa+na
  ·exact u1 i j a b c1
  ·by_cases c2:sa+na<=i
   ·exact u2 i j c2 b c
   ·have h1:=u1 i (sa+na - 1) a (by (clear c1 c b a a9 k1 Y eq hz hn Z ha e2 e1;omega)) (by (clear c2 c1 c b a a9 k1 Y eq hz hn Z e2 e1;omega));have h2:=u2 (sa+na) j (z3q _) (by (clear h1 c2 c b a a9 k1 Y eq hz hn Z ha e2 e1;omega)) c
    (clear c2 c1 c b a k1 Y eq hz hn Z ha e2 e1;omega)
 by_cases c0:na - k=0
 ·rw [if_pos (by simpa using c0)];exact wpS_pure (h _ ⟨Array.Perm.refl _,λ _ _=>rfl,rfl,rfl,rfl,J (b1 _ (by (clear c0 J k1 Y eq hz hn Z e2 e1;omega)) (by (clear J k1 Y eq hz hn Z e2 e1;omega)))⟩)
 ·rw [if_neg (by simpa using c0)];have el:sa+k+(na - k) - 1=sa+na - 1:=by (clear c0 J Y eq hz hn Z ha e2 e1;omega)
  rw [el];obtain ⟨z,ez,sz⟩:=a3 (sa+na - 1) (by (clear el c0 J k1 Y eq hz Z e2 e1;omega));have kz:kx rk (arrOf st) (sa+na - 1)=rk z:=q2v ez;refine wpS_bind (q1o ez ?_);refine wpS_bind (q4l L B.kind sz (λ j hj=>a3 (sa+na+j) (by (clear kz ez el c0 J k1 Y eq hz Z ha e2 e1;omega))) u2 (by (clear kz ez el c0 J k1 Y eq hz hn ha e2 e1;omega)) λ k' O b6 b7=> ?_)
  dsimp only
  have a7:∀ j,sa+na<=j ->j < sa+na+k' ->kx rk (arrOf st) j < kx rk (arrOf st) (sa+na - 1):=λ j a b=>by
   have:=b6 (j - (sa+na)) (by (clear O kz ez el c0 J k1 Y eq hz hn Z ha e2 e1;omega));rw [show sa+na+(j - (sa+na))=j by (clear this b O kz ez el c0 J k1 Y eq hz hn Z ha e2 e1;omega)] at this;simp [ahd] at this
   rw [kz];exact this
  have a5:∀ j,sa+na+k'<=j ->j < sa+na+nb ->kx rk (arrOf st) (sa+na - 1)<=kx rk (arrOf st) j:=λ j a b=>by
   have:=b7 (j - (sa+na)) (by (clear b O kz ez el c0 J k1 Y eq hz hn Z ha e2 e1;omega)) (by (clear a O kz ez el c0 J k1 Y eq hz hn ha e2 e1;omega));rw [show sa+na+(j - (sa+na))=j by (clear this b O kz ez el c0 J k1 Y eq hz hn Z ha e2 e1;omega)] at this;simp [ahd] at this
   rw [kz]
   (clear b a O kz ez el c0 J k1 Y eq hz hn Z ha e2 e1;omega)
  by_cases c1:k'=0
  ·rw [if_pos (by simpa using c1)];exact wpS_pure (h _ ⟨Array.Perm.refl _,λ _ _=>rfl,rfl,rfl,rfl,J (a5 _ (by (clear O kz ez el c0 J k1 Y eq hz hn Z ha e2 e1;omega)) (by (clear c1 O kz ez el c0 J k1 Y eq hz hn ha e2 e1;omega)))⟩)
  ·rw [if_neg (by simpa using c1)];have m:Mg S rk ((arrOf st).extract (sa+k) (sa+na)) ((arrOf st).extract (sa+na) (sa+na+k')):=by
    refine ⟨λ p hp=> ?_,λ p hp=> ?_,qiu (by (clear c1 O kz ez el c0 J k1 Y eq Z ha e2 e1;omega)) λ i j a b c=>u1 i j (by (clear c b c1 O kz ez el c0 J k1 Y eq hz hn Z ha e2 e1;omega)) b c,qiu (by (clear c1 kz ez el c0 J k1 Y eq Z ha e2 e1;omega)) λ i j a b c=>u2 i j a b (by (clear b a c1 kz ez el c0 J k1 Y eq hz hn Z ha e2 e1;omega)),by rw [z1e];(clear c1 O kz ez el J k1 Y eq Z ha e2 e1;omega),by rw [z1e];(clear O kz ez el c0 J k1 Y eq ha e2 e1;omega),⟨z,?_,λ p hp=> ?_⟩,⟨q,?_,λ p hp=> ?_⟩⟩
    ·obtain ⟨j,h1,h2,e⟩:=q5m (by (clear c1 O kz ez el c0 J k1 Y eq Z ha e2 e1;omega)) hp;obtain ⟨p',e',sp⟩:=a3 j (by (clear e h1 c1 O kz ez el c0 J k1 Y eq hz Z ha e2 e1;omega));rw [e] at e';cases e'
     exact sp
    ·obtain ⟨j,h1,h2,e⟩:=q5m (by (clear c1 kz ez el c0 J k1 Y eq Z ha e2 e1;omega)) hp;obtain ⟨p',e',sp⟩:=a3 j (by (clear e h1 c1 kz ez el c0 J k1 Y eq hz Z ha e2 e1;omega));rw [e] at e';cases e'
     exact sp
    ·rw [z1e,qln (by (clear c1 O kz ez el J k1 Y eq hz hn Z ha e2 e1;omega)) (by (clear c1 O kz ez el c0 J k1 Y eq Z ha e2 e1;omega)),<- ez]
     congr 1
     (clear c1 O kz ez el J k1 Y eq Z ha e2 e1;omega)
    ·obtain ⟨j,h1,h2,e⟩:=q5m (by (clear c1 kz ez el c0 J k1 Y eq Z ha e2 e1;omega)) hp;have:=a7 j h1 h2
     rwa [kz,q2v e] at this
    ·rw [qln (by (clear O kz ez el c0 J k1 Y eq hz hn Z ha e2 e1;omega)) (by (clear c1 kz ez el c0 J k1 Y eq Z ha e2 e1;omega)),<- eq];rfl
    ·obtain ⟨j,h1,h2,e⟩:=q5m (by (clear c1 O kz ez el c0 J k1 Y eq Z ha e2 e1;omega)) hp;have:=a6 j h1 h2
     rwa [Y,q2v e] at this
   have fin:∀ (r:Array Keyed) (a2:SortSt),Gl (setPending st (((pendingOf st).setIfInBounds i (sa,na+nb,pw)).eraseIdxIfInBounds (i+1))) a2 ->Good rk ((arrOf st).extract (sa+k) (sa+na)) ((arrOf st).extract (sa+na) (sa+na+k')) r ->
     wpS M A E s ((modify λ c=>setArr c (wrt (sa+k) r.toList.zipIdx (arrOf c)):StateT SortSt Sem PUnit) >>=λ _=>get >>=λ c=>pure (failedOf c).isNone) Q a2:=by
    intro r a2 hg hr;have a0:arrOf a2=arrOf st:=hg.arr;refine wpS_bind (wpS_modify (wpS_bind (wpS_get (wpS_pure ?_))));have hf:failedOf a2=none:=hg.failed.trans B.failed;show Q (failedOf a2).isNone _;rw [hf];have hw:=Mv.wrote (st:=st) (a:=sa+k) (m:=sa+na) (b:=sa+na+k') (r:=r) (by (clear hf a0 c1 O kz ez el c0 J Y eq hz hn Z ha e2 e1;omega)) (by (clear hf a0 c1 O kz ez el c0 J k1 Y eq hz hn Z ha e2 e1;omega)) (by (clear hf a0 c1 kz ez el c0 J k1 Y eq Z ha e2 e1;omega)) hr.1;obtain ⟨v,at'⟩:=hw;have b0:=z07.mp hr.2;have b2:∀ j,sa+k<=j ->j < sa+na+k' ->kx rk (arrOf st) (sa+na)<=kx rk (wrt (sa+k) r.toList.zipIdx (arrOf st)) j/\kx rk (wrt (sa+k) r.toList.zipIdx (arrOf st)) j<=kx rk (arrOf st) (sa+na - 1):=λ j a b=>by
     obtain ⟨p,e,hp,_⟩:=at' j a b;rw [q2v e];rcases z2i.mp (hr.1.mem_iff.mp hp) with hp | hp
     ·obtain ⟨j',h1,h2,e'⟩:=q5m (by (clear e b a hf a0 c1 O kz ez el c0 J k1 Y eq Z ha e2 e1;omega)) hp;rw [<- q2v (rk:=rk) e'];exact ⟨z3d (a6 j' h1 h2),u1 j' (sa+na - 1) (by (clear e' h2 e b a hf a0 c1 O kz ez el c0 J k1 Y eq hz hn Z ha e2 e1;omega)) (by (clear e' h1 e b a hf a0 c1 O kz ez el c0 J k1 Y eq hz hn Z ha e2 e1;omega)) (by (clear e' h2 h1 e b a hf a0 c1 O kz ez el c0 J k1 Y eq hz hn Z e2 e1;omega))⟩
     ·obtain ⟨j',h1,h2,e'⟩:=q5m (by (clear e b a hf a0 c1 kz ez el c0 J k1 Y eq Z ha e2 e1;omega)) hp;rw [<- q2v (rk:=rk) e'];exact ⟨u2 _ j' (z3q _) h1 (by (clear e' h1 e b a hf a0 c1 kz ez el c0 J k1 Y eq hz hn Z ha e2 e1;omega)),z3d (a7 j' h1 h2)⟩
    have out:∀ j,j < sa+k\/ sa+na+k'<=j ->kx rk (wrt (sa+k) r.toList.zipIdx (arrOf st)) j=kx rk (arrOf st) j:=λ j hj=>q41 (v.out j hj);rw [show (setArr a2 (wrt (sa+k) r.toList.zipIdx (arrOf a2)))=setArr a2 (wrt (sa+k) r.toList.zipIdx (arrOf st)) by rw [a0]];refine h _ ⟨v.perm,λ j hj=>v.out j (by (clear hf a0 c1 kz ez el c0 J k1 Y eq hz hn Z ha e2 e1;omega)),hg.kind,hg.failed,hg.pend,λ i j a b c=> ?_⟩;show kx rk (wrt (sa+k) r.toList.zipIdx (arrOf st)) i<=kx rk (wrt (sa+k) r.toList.zipIdx (arrOf st)) j;by_cases i1:i < sa+k
    ·rw [out i (.inl i1)];have li:=b1 i a i1;by_cases j1:j < sa+k
     ·rw [out j (.inl j1)];exact u1 i j a b (by (clear li i1 c b a hf a0 c1 O kz ez el c0 J Y eq hz hn Z ha e2 e1;omega))
     ·by_cases j2:j < sa+na+k'
      ·have:=(b2 j (by (clear j2 li i1 c b a hf a0 c1 O kz ez el c0 J k1 Y eq hz hn Z ha e2 e1;omega)) j2).1
       (clear j2 j1 i1 c b a hf a0 c1 O kz ez el c0 J k1 Y eq hz hn Z ha e2 e1;omega)
      ·rw [out j (.inr (by (clear j1 li i1 c b a hf a0 c1 O kz ez el c0 J k1 Y eq hz hn Z ha e2 e1;omega)))];have:=u2 (sa+na) j (z3q _) (by (clear j1 li i1 c b a hf a0 c1 O kz ez el c0 J k1 Y eq hz hn Z ha e2 e1;omega)) c
       (clear j2 j1 i1 c b a hf a0 c1 O kz ez el c0 J k1 Y eq hz hn Z ha e2 e1;omega)
    ·by_cases i2:i < sa+na+k'
     ·by_cases j2:j < sa+na+k'
      ·obtain ⟨p,ep,_,gp⟩:=at' i (by (clear j2 i2 c b a hf a0 c1 O kz ez el c0 J k1 Y eq hz hn Z ha e2 e1;omega)) i2;obtain ⟨p',b4,_,a8⟩:=at' j (by (clear gp ep j2 i2 c a hf a0 c1 O kz ez el c0 J k1 Y eq hz hn Z ha e2 e1;omega)) j2;rw [q2v ep,q2v b4];obtain ⟨l1,x1⟩:=z06.mp gp;obtain ⟨l2,x2⟩:=z06.mp a8;rcases Nat.lt_or_ge i j with b5 | b5
       ·have:=b0 (i - (sa+k)) (j - (sa+k)) l1 l2 (by omega)
        rwa [x1,x2] at this
       ·have b3:i=j:=by omega
        subst b3;rw [gp] at a8;cases a8
        exact z3s _
      ·rw [out j (.inr (by omega))];have h1:=(b2 i (by omega) i2).2;have h2:=a5 j (by omega) c;omega
     ·rw [out i (.inr (by omega)),out j (.inr (by omega))];exact u2 i j (by omega) b c
   by_cases c2:na - k<=k'
   ·rw [if_pos c2];exact wpS_bind (qll (st:=setPending st (((pendingOf st).setIfInBounds i (sa,na+nb,pw)).eraseIdxIfInBounds (i+1))) L B.kind m λ r a2 hg hr=>fin r a2 hg hr)
   ·rw [if_neg c2];exact wpS_bind (qlm (st:=setPending st (((pendingOf st).setIfInBounds i (sa,na+nb,pw)).eraseIdxIfInBounds (i+1))) L B.kind m λ r a2 hg hr=>fin r a2 hg hr)
end
theorem qdw {p:Array (Nat×Nat×Nat)} {l1 l2:List (Nat×Nat×Nat)} {r1 r2 r:Nat×Nat×Nat} {i:Nat} (h:p.toList=l1++r1::r2::l2) (hi:l1.length=i):
  ((p.setIfInBounds i r).eraseIdxIfInBounds (i+1)).toList=l1++r::l2:=by
 have hs:i+1 < (p.setIfInBounds i r).size:=by
  rw [Array.size_setIfInBounds,<- z13,h];simp
  omega
 rw [Array.eraseIdxIfInBounds,dif_pos hs,Array.toList_eraseIdx,Array.toList_setIfInBounds,h,<- hi,List.set_append_right _ _ (z3q _),Nat.sub_self,List.set_cons_zero,
  List.eraseIdx_append_of_length_le (by omega)]
 congr 1
 rw [show l1.length+1 - l1.length=1 by omega];rfl
theorem qof {α:Type} {l:List α} {i:Nat} (h:i+1 < l.length):∃ l1 r1 r2 l2,l=l1++r1::r2::l2/\l1.length=i:=by
 refine ⟨l.take i,l[i],l[i+1],l.drop (i+2),?_,by rw [z25];omega⟩;rw [<- z08 h,<- z08 (by omega),z0r]
section
variable {M:Model} {A:Around} {E:Value ->Shared ->Prop} {s:Shared} {kd:SortKind} {S:Keyed ->Prop} {rk:Keyed ->Int} {n:Nat}
structure Sr (rk:Keyed ->Int) (kd:SortKind) (S:Keyed ->Prop) (n:Nat) (st:SortSt) (lo:Nat) (st':SortSt):Prop where
 perm:(arrOf st').Perm (arrOf st)
 sane:Sane kd S n st'
 runs:Runs rk (arrOf st') 0 (pendingOf st').toList lo
theorem Sr.merge {st J:SortSt} {lo i:Nat} (h:Sr rk kd S n st lo J) (hi:i+1 < (pendingOf J).size):
  ∃ sa na pw nb p2,(pendingOf J)[i]? =some (sa,na,pw)/\(pendingOf J)[i+1]? =some (sa+na,nb,p2)/\1<=na/\1<=nb/\sa+na+nb<=lo/\Up rk (arrOf J) sa (sa+na)/\Up rk (arrOf J) (sa+na) (sa+na+nb)/\
   ∀ L,Merged rk sa (sa+na+nb) (((pendingOf J).setIfInBounds i (sa,na+nb,pw)).eraseIdxIfInBounds (i+1)) J L ->
    Sr rk kd S n st lo L/\(pendingOf L).size+1=(pendingOf J).size/\∀ k,lo<=k ->(arrOf L)[k]? =(arrOf J)[k]? :=by
 obtain ⟨l1,⟨a1,O,q1⟩,⟨a2,Y,q2⟩,l2,e,el⟩:=qof (l:=(pendingOf J).toList) (i:=i) (by rw [z13];exact hi);have R:=h.runs;rw [e] at R;obtain ⟨w,R1,R2⟩:=Runs.split.mp R;obtain ⟨x1,x2,x3,x4,x5,x6,x7⟩:=R2;simp only at x1 x2 x3 x4 x5 x6 x7;subst x1 x4;have le:=Runs.le x7;have g1:(pendingOf J)[i]? =some (a1,O,q1):=by
  rw [<- z0t,e,z04 (by omega),<- el,Nat.sub_self];rfl
 have g2:(pendingOf J)[i+1]? =some (a1+O,Y,q2):=by
  rw [<- z0t,e,z04 (by omega),show i+1 - l1.length=1 by omega];rfl
 refine ⟨a1,O,q1,Y,q2,g1,g2,x2,x5,by omega,x3,x6,λ L m=>⟨⟨m.perm.trans h.perm,?_,?_⟩,?_,λ k Z=>m.out k (by omega)⟩⟩
 ·exact ⟨m.perm.size_eq.trans h.sane.size,λ p hp=>h.sane.all p ((z03.mp m.perm).mem_iff.mp hp),m.kind.trans h.sane.kind,m.failed.trans h.sane.failed⟩
 ·rw [m.pend,qdw e el];refine Runs.split.mpr ⟨a1,R1.same λ k _ Z=>m.out k (.inl Z),rfl,by show 1<=O+Y;omega,?_,?_⟩
  ·show Up rk (arrOf L) a1 (a1+(O+Y));rw [<- Nat.add_assoc];exact m.up
  ·show Runs rk (arrOf L) (a1+(O+Y)) l2 lo;rw [<- Nat.add_assoc];exact x7.same λ k Z _=>m.out k (.inr Z)
 ·rw [m.pend,<- z13,qdw e el,<- z13,e];simp
  omega
theorem Sr.mv {st J L:SortSt} {lo hi:Nat} (h:Sr rk kd S n st lo J) (v:Mv lo hi J L):Sr rk kd S n st lo L:=
 ⟨v.perm.trans h.perm,v.sane h.sane,by rw [v.pend];exact h.runs.same λ k _ hk=>v.out k (.inl hk)⟩
theorem Sr.setP {st J:SortSt} {lo hi:Nat} {p:Array (Nat×Nat×Nat)} (h:Sr rk kd S n st lo J) (r:Runs rk (arrOf J) 0 p.toList hi):Sr rk kd S n st hi (setPending J p):=
 ⟨h.perm,⟨h.sane.size,h.sane.all,h.sane.kind,h.sane.failed⟩,r⟩
theorem qog (p:Array (Nat×Nat×Nat)) (pw:Nat):(p.modify (p.size - 1) λ (x:Nat×Nat×Nat)=>(x.1,x.2.1,pw)).toList.map (λ r=>(r.1,r.2.1))=p.toList.map (λ r=>(r.1,r.2.1)):=by
 apply z1r
 intro j;rw [z1s,z1s,z0t,z0t,Array.getElem?_modify];split
 ·cases p[j]? <;> rfl
 ·rfl
theorem qbx (L:LtOk M A E s kd S rk) {st:SortSt} (B:Sane kd S n st) (h2:2<=n) (hp:pendingOf st=#[]) {Q:Unit ->SortSt ->Prop}
  (h:∀ Y,(arrOf Y).Perm (arrOf st) ->failedOf Y=none ->Up rk (arrOf Y) 0 n ->Q () Y):wpS M A E s sortRuns' Q st:=by
 rw [sortRuns'_eq];refine wpS_bind (wpS_get ?_)
 dsimp only
 simp only [B.size];have start:Sr rk kd S n st 0 st:=⟨Array.Perm.refl _,B,by rw [hp];rfl⟩;refine wpS_bind (wpS_mono (wpS_forRange (I:=λ x c Y=>∃ lo,c=(none,lo)/\Sr rk kd S n st lo Y/\lo<=n/\min x n<=lo)
  (Q:=λ c Y=>c=(none,n)/\Sr rk kd S n st n Y) ?turn ?last ⟨0,rfl,start,by omega,by omega⟩) ?after)
 case last=>
  rintro c Y ⟨lo,rfl,R,h1,h3⟩;have e:lo=n:=by omega
  subst e;exact ⟨zr,R⟩
 case turn=>
  rintro x c Y _ hx ⟨lo,rfl,R,hlo,hxl⟩
  dsimp only
  by_cases a8:lo >=n
  ·rw [if_pos a8];have e:lo=n:=by omega
   subst e;exact wpS_pure ⟨zr,R⟩
  rw [if_neg a8];refine wpS_bind (qbr L R.sane (by omega) (by omega) λ k a9 v2 k1 k2 u2=> ?_);have R2:=R.mv v2
  dsimp only
  by_cases a0:k < minRun' n n 0
  case' pos=>
   rw [if_pos a0];refine wpS_bind (wpS_lift (z3u ⟨zr,?_⟩));refine wpS_bind (q8m L R2.sane (by omega) (by omega) u2 λ a7 v3 u3=> ?_);have R3:=R2.mv v3;simp only [Bool.not_true,z1b,if_false];have m1:1<=min (n - lo) (minRun' n n 0):=by omega
   have m2:min (n - lo) (minRun' n n 0)<=n - lo:=by omega
   clear a0 v3;generalize min (n - lo) (minRun' n n 0)=m at*
  case' neg=>
   rw [if_neg a0];have R3:=R2;have u3:=u2;have m1:=k1;have m2:=k2;clear a0;generalize a9=a7 at*;generalize k=m at*
  all_goals
   refine wpS_bind (wpS_get ?_);have fin:∀ (O:SortSt) (p:Array (Nat×Nat×Nat)),Sr rk kd S n st lo O ->Up rk (arrOf O) lo (lo+m) ->Runs rk (arrOf O) 0 p.toList lo ->
     Sr rk kd S n st (lo+m) (setPending (setPending O p) ((pendingOf (setPending O p)).push (lo,m,0))):=λ O p R5 u5 rp=>by
    refine (R5.setP rp).setP ?_;show Runs rk (arrOf O) 0 (p.push (lo,m,0)).toList (lo+m);rw [z1q];exact Runs.split.mpr ⟨lo,rp,zr,m1,u5,zr⟩
   cases hb:(pendingOf a7).back? with
   | none=>
    dsimp only
    exact wpS_bind (wpS_modify (wpS_pure ⟨lo+m,zr,fin a7 (pendingOf a7) R3 u3 R3.runs,by omega,by omega⟩))
   | some q=>
    obtain ⟨s1,n1,q1⟩:=q
    dsimp only
    refine wpS_bind (wpS_mono (wpS_forRange (I:=λ _ c J=>c=(none,())/\Sr rk kd S n st lo J/\Up rk (arrOf J) lo (lo+m))
     (Q:=λ c J=>c=(none,())/\Sr rk kd S n st lo J/\Up rk (arrOf J) lo (lo+m)) ?mturn (λ _ _ z=>z) ⟨rfl,R3,u3⟩) ?mafter)
    case mturn=>
     rintro j c J _ hj ⟨rfl,Z,u4⟩;refine wpS_bind (wpS_get ?_);by_cases c1:(pendingOf J).size > 1
     ·obtain ⟨sa,na,pw,nb,p2,g1,g2,a1,a2,a3,a4,a5,a6⟩:=Z.merge (i:=(pendingOf J).size - 2) (by omega);rw [if_pos c1,g1]
      dsimp only
      split
      ·exact wpS_pure ⟨zr,Z,u4⟩
      ·refine wpS_bind (qdv L Z.sane g1 g2 a1 a2 (by omega) a4 a5 λ O mm=> ?_);obtain ⟨R5,_,o5⟩:=a6 O mm;simp only [Bool.not_true,z1b,if_false];exact wpS_pure ⟨zr,R5,u4.same λ k hk _=>o5 k hk⟩
     ·rw [if_neg c1];exact wpS_pure ⟨zr,Z,u4⟩
    case mafter=>
     rintro c J ⟨rfl,Z,u4⟩
     dsimp only
     refine wpS_bind (wpS_modify (wpS_bind (wpS_modify (wpS_pure ⟨lo+m,zr,?_,by omega,by omega⟩))));exact fin J _ Z u4 (Z.runs.pow (qog _ _))
 case after=>
  rintro c Y ⟨rfl,R⟩
  dsimp only
  refine wpS_bind (wpS_mono (wpS_forRange (I:=λ x c J=>c=(none,())/\Sr rk kd S n st n J/\(pendingOf J).size<=max 1 (n - x))
   (Q:=λ c J=>c=(none,())/\Sr rk kd S n st n J/\(pendingOf J).size<=1) ?fturn ?flast ⟨rfl,R,?ffirst⟩) ?fafter)
  case ffirst=>
   have:=Runs.le R.runs;rw [z13] at this;omega
  case flast=>
   rintro c J ⟨hc,Z,h4⟩;exact ⟨hc,Z,by omega⟩
  case fturn=>
   rintro j c J _ hj ⟨rfl,Z,h4⟩;refine wpS_bind (wpS_get ?_);by_cases c1:(pendingOf J).size<=1
   ·rw [if_pos c1];exact wpS_pure ⟨zr,Z,c1⟩
   ·rw [if_neg c1];have go:∀ i,i+1 < (pendingOf J).size ->wpS M A E s (mergeAt' i) (λ b O=>b=true/\Sr rk kd S n st n O/\(pendingOf O).size<=max 1 (n - (j+1))) J:=λ i hi=>by
     obtain ⟨sa,na,pw,nb,p2,g1,g2,a1,a2,a3,a4,a5,a6⟩:=Z.merge hi;refine qdv L Z.sane g1 g2 a1 a2 (by omega) a4 a5 λ O mm=> ?_;obtain ⟨R5,z5,_⟩:=a6 O mm;exact ⟨zr,R5,by omega⟩
    refine wpS_bind (wpS_mono (go _ ?_) ?_)
    ·repeat' split
     all_goals omega
    ·rintro b O ⟨rfl,R5,z5⟩;simp only [Bool.not_true,z1b,if_false];exact wpS_pure ⟨zr,R5,z5⟩
  case fafter=>
   rintro c J ⟨rfl,Z,h4⟩;refine wpS_pure (h J Z.perm Z.sane.failed ?_);have hr:=Z.runs;have hl:(pendingOf J).toList.length<=1:=by rw [z13];exact h4
   cases e:(pendingOf J).toList with
   | nil=>
    rw [e] at hr;have:0=n:=hr;omega
   | cons r l=>
    rw [e] at hr hl;have:l=[]:=by simpa using hl
    subst this;obtain ⟨_,_,u,z⟩:=hr;have z':0+r.2.1=n:=z
    rwa [z'] at u
end
def KLt (prog:Program) (w:World) (A:Around) (s:Shared) (kd:SortKind) (x y:Value) (r:Bool):Prop:=
 ∀ (E:Value ->Shared ->Prop) (Q:Bool ->Shared ->Prop),Q r s ->wpAny (model prog w) A (keyLt' kd x y) Q E s
theorem qd2 {prog:Program} {w:World} {A:Around} {E:Value ->Shared ->Prop} {s:Shared} {kd:SortKind} {S:Keyed ->Prop} {rk:Keyed ->Int} (h:∀ x y,S x ->S y ->KLt prog w A s kd x.1 y.1 (decide (rk x < rk y))):
  LtOk (model prog w) A E s kd S rk:=by
 intro x y st Q sx sy hk q;rw [lt'_eq];refine wpS_bind (wpS_get ?_);rw [hk];refine wpS_bind (wpS_lift (z36 (h x y sx sy _ _ ⟨zr,?_⟩)));exact wpS_pure q
section
variable {α:Type}
theorem qb0 {p q:α ->Bool}:∀ (l:List α),(∀ z∈l,p z=true ->q z=true) ->(l.filter p).length<=(l.filter q).length
 | [],_=>z3q _
 | z::l,h=>by
  have ih:=qb0 (p:=p) (q:=q) l λ y hy=>h y (z10 _ hy);rw [z28,z28];cases e:p z with
  | true=>
   rw [h z (z1g ..) e];simp only [if_true,z27];omega
  | false=>
   cases q z with
   | true=>simp only [z1b,if_false,if_true,z27];omega
   | false=>simpa using ih
theorem qfx {p q:α ->Bool} {y:α}:∀ (l:List α),(∀ z∈l,p z=true ->q z=true) ->y∈l ->p y=false ->q y=true ->(l.filter p).length < (l.filter q).length
 | [],_,hy,_,_=>nomatch hy
 | z::l,h,hy,h1,h2=>by
  have hl:∀ w∈l,p w=true ->q w=true:=λ w hw=>h w (z10 _ hw);rw [z28,z28];rcases z37.mp hy with rfl | hy
  ·rw [h1,h2];have:=qb0 l hl;simp only [z1b,if_false,if_true,z27];omega
  ·have ih:=qfx l hl hy h1 h2;cases e:p z with
   | true=>
    rw [h z (z1g ..) e];simp only [if_true,z27];omega
   | false=>
    cases q z with
    | true=>simp only [z1b,if_false,if_true,z27];omega
    | false=>simpa using ih
def rank (lt:α ->α ->Bool) (l:List α) (x:α):Int:=((l.filter λ y=>lt y x).length:Nat)
theorem qiv {lt:α ->α ->Bool} {l:List α} (irr:∀ x∈l,lt x x=false) (tr:∀ x∈l,∀ y∈l,∀ z∈l,lt x y=true ->lt y z=true ->lt x z=true)
  (nt:∀ x∈l,∀ y∈l,∀ z∈l,lt x z=true ->lt x y=true\/ lt y z=true) {x y:α} (hx:x∈l) (hy:y∈l):lt x y=decide (rank lt l x < rank lt l y):=by
 unfold rank;cases e:lt x y with
 | true=>
  have:=qfx (p:=λ z=>lt z x) (q:=λ z=>lt z y) l (λ z J h=>tr z J x hx y hy h e) hx (irr x hx) e;exact (z2y (by omega)).symm
 | false=>
  have:=qb0 (p:=λ z=>lt z y) (q:=λ z=>lt z x) l (λ z J h=>(nt z J x hx y hy h).resolve_right (by rw [e];exact z1c));exact (z2k (by omega)).symm
end
structure Sorted (rk:Value ->Int) (vs out:List Value):Prop where
 perm:out.Perm vs
 asc:out.Pairwise λ x y=>rk x<=rk y
theorem q8n {rk:Value ->Int} {vs:List Value} {xs:Array Keyed} (Y:xs.Perm (pairsOf vs)) (hu:Up (λ p=>rk p.1) xs 0 vs.length):Sorted rk vs (xs.map (·.2)).toList:=by
 have hl:xs.toList.Perm (vs.zip vs):=by
  rw [<- pairsOf_toList];exact z03.mp Y
 have hsz:xs.size=vs.length:=by
  rw [Y.size_eq,pairsOf_size]
 have same:∀ p,p∈xs.toList ->p.1=p.2:=λ p h=>(mem_zip_self (hl.mem_iff.mp h)).1;refine ⟨?_,?_⟩
 ·rw [Array.toList_map];have:=hl.map Prod.snd
  rwa [List.map_snd_zip (z3q _)] at this
 ·rw [Array.toList_map,z07];intro i j hi hj O;rw [List.getElem_map,List.getElem_map];have L:i < xs.toList.length:=by simpa using hi
  have J:j < xs.toList.length:=by simpa using hj
  have:=hu i j (z3t _) (z3g O) (by rw [z13] at J;omega);rw [q27 xs i (z0c L),q27 xs j (z0c J)] at this;rw [<- same _ (z29 L),<- same _ (z29 J)];exact this
section
variable {prog:Program} {w:World} {A:Around} {E:Value ->Shared ->Prop} {s:Shared}
def Keys (prog:Program) (w:World) (A:Around) (s:Shared) (a:Addr) (vs:List Value) (rk:Value ->Int):Prop:=2<=vs.length ->∀ s':Shared,(∀ b o,b≠a ->s.heap.get? b=some o ->s'.heap.get? b=some o) ->
 ∃ kd:SortKind,(∀ (E:Value ->Shared ->Prop) (Q:SortKind ->Shared ->Prop),Q kd s' ->wpAny (model prog w) A (keyKind' vs.toArray) Q E s')/\∀ x∈vs,∀ y∈vs,KLt prog w A s' kd x y (decide (rk x < rk y))
theorem qeq {a:Addr} {vs:List Value} {n:Nat} {rk:Value ->Int} {P:PySem.Fin ->Shared ->Prop} (ho:s.heap.get? a=some (seqObj "list" vs.toArray n)) (hz:vs.length<=sizeLine) (hk:Keys prog w A s a vs rk)
  (h:∀ out:Array Value,Sorted rk vs out.toList ->P (.done (.ret .none)) {s with heap:=sortedHeap s.heap a vs out}):wpAny (model prog w) A (Builtin.«list.sort» ⟨[.ref a],[]⟩) P E s:=by
 rw [list_sort_plain];have ha:a < s.heap.objs.size:=z3h ho;have a0:vs.toArray.size=vs.length:=z1t;refine z3w (listItems_at ho rfl (z3w (listUpdate_at ho rfl ?_ (by rw [a0];exact hz) (z3t _))));obtain ⟨e1,Y⟩:∃ e1,(s.heap.update a (Obj.mapSeq λ _=>#[])).get? a=some (seqObj "list" #[] e1):=⟨_,get?_update_seq ho (λ _=>#[])⟩;refine z3w (seqEpoch_at Y rfl (z3w (wpAny_newTuple (z3w (wpAny_newList (z38 ?_))))));have s1:=z15 s.heap a (Obj.mapSeq λ _=>(#[]:Array Value));have keep:∀ b o,(s.heap.update a (Obj.mapSeq λ _=>#[])).get? b=some o ->(((s.heap.update a (Obj.mapSeq λ _=>#[])).push (seqObj "tuple" vs.toArray 0)).push (seqObj "list" #[] 0)).get? b=some o:=
  λ b o e=>z0k _ (z0k _ e)
 have L:=keep a _ Y;have O:∀ b o,b≠a ->s.heap.get? b=some o ->(((s.heap.update a (Obj.mapSeq λ _=>#[])).push (seqObj "tuple" vs.toArray 0)).push (seqObj "list" #[] 0)).get? b=some o:=
  λ b o hb e=>keep b o ((s1.2 b hb).trans e)
 show wpAny (model prog w) A _ P E {s with heap:=((s.heap.update a (Obj.mapSeq λ _=>#[])).push (seqObj "tuple" vs.toArray 0)).push (seqObj "list" #[] 0)}
 dsimp only
 by_cases h2:vs.toArray.size < 2
 ·rw [if_pos h2,if_pos h2];refine z3w (z3v ?_);rw [StateT.run_pure];refine z3w (z3v ?_)
  dsimp only
  have es:((vs.toArray.zip vs.toArray).map (·.2)).toList=vs:=by
   rw [Array.toList_map];show (pairsOf vs).toList.map _=_;rw [pairsOf_toList,List.map_snd_zip (z3q _)]
  refine z3w (seqEpoch_at L rfl (z3w (listUpdate_at L rfl ?_ (z3t _) (by rw [<- z13,es];omega))));simp only [bne_self_eq_false,z1b,if_false];refine z3v (h _ ?_);rw [es];refine ⟨List.Perm.refl _,?_⟩;rw [a0] at h2
  match vs,h2 with
  | [],_=>exact .nil
  | [_],_=>exact z0f ..
 ·rw [if_neg h2,if_neg h2];obtain ⟨kd,kk,kl⟩:=hk (by omega) {s with heap:=((s.heap.update a (Obj.mapSeq λ _=>#[])).push (seqObj "tuple" vs.toArray 0)).push (seqObj "list" #[] 0)} O;refine z3w (kk _ _ ?_);have hS:∀ p∈(vs.toArray.zip vs.toArray).toList,p.1∈vs:=λ p hp=>by
   have Z:p∈(pairsOf vs).toList:=hp;rw [pairsOf_toList] at Z;exact (mem_zip_self Z).2
  refine z3w (z3x (qbx (S:=λ p=>p.1∈vs) (rk:=λ p=>rk p.1) (n:=vs.length) (st:=SortSt.mk' kd (vs.toArray.zip vs.toArray) #[] 7 none)
   (Q:=λ _ J=>(arrOf J).Perm (pairsOf vs)/\failedOf J=none/\Up (λ p=>rk p.1) (arrOf J) 0 vs.length)
   (qd2 λ x y hx hy=>kl x.1 hx y.1 hy) ⟨pairsOf_size vs,hS,rfl,rfl⟩ (by omega) rfl λ J a1 a2 a3=>⟨a1,a2,a3⟩) ?_ λ _ _ e=>e)
  rintro ⟨⟨⟩,J⟩ s' ⟨rfl,hp,hf,hu⟩
  dsimp only
  have so:=q8n hp hu;refine z3w (seqEpoch_at L rfl (z3w (listUpdate_at L rfl ?_ (z3t _) (by rw [<- z13,so.perm.length_eq];omega))));rw [hf];simp only [bne_self_eq_false,z1b,if_false];exact z3v (h _ so)
end
end Tim
namespace Tim
structure STO {α:Type} (lt:α ->α ->Bool):Prop where
 irr:∀ a,lt a a=false
 tr:∀ a b c,lt a b=true ->lt b c=true ->lt a c=true
 tri:∀ a b,lt a b=false ->lt b a=false ->a=b
section
variable {α β:Type}
theorem STO.asym {lt:α ->α ->Bool} (h:STO lt) {a b:α} (x:lt a b=true):lt b a=false:=by
 cases e:lt b a with
 | false=>rfl
 | true=>
  have:=h.tr a b a x e;rw [h.irr] at this;cases this
theorem STO.nt {lt:α ->α ->Bool} (h:STO lt) {a c:α} (b:α) (x:lt a c=true):lt a b=true\/ lt b c=true:=by
 cases e:lt a b with
 | true=>exact .inl rfl
 | false=>
  cases f:lt b a with
  | true=>exact .inr (h.tr b a c f x)
  | false=>
   have:=h.tri a b e f;subst this;exact .inr x
theorem STO.map {lt:α ->α ->Bool} (h:STO lt) (f:β ->α) (inj:∀ a b,f a=f b ->a=b):STO λ a b=>lt (f a) (f b):=
 ⟨λ a=>h.irr _,λ a b c=>h.tr _ _ _,λ a b x y=>inj a b (h.tri _ _ x y)⟩
def lexB [DecidableEq α] (lt:α ->α ->Bool):List α ->List α ->Bool
 | [],[]=>false
 | [],_::_=>true
 | _::_,[]=>false
 | a::as,b::bs=>if a=b then lexB lt as bs else lt a b
theorem STO.lex [DecidableEq α] {lt:α ->α ->Bool} (h:STO lt):STO (lexB lt):=by
 refine ⟨λ a=> ?_,λ a=> ?_,λ a=> ?_⟩
 ·induction a with
  | nil=>rfl
  | cons x a O=>rw [lexB,if_pos rfl];exact O
 ·induction a with
  | nil=>
   intro b c h1 h2;cases c with
   | nil=>cases b with
    | nil=>exact h1
    | cons y b=>cases h2
   | cons z c=>rfl
  | cons x a O=>
   intro b c h1 h2;cases b with
   | nil=>cases h1
   | cons y b=>
    cases c with
    | nil=>cases h2
    | cons z c=>
     rw [lexB] at h1 h2 ⊢;by_cases J:x=y
     ·subst J;rw [if_pos rfl] at h1;by_cases Y:x=z
      ·subst Y;rw [if_pos rfl] at h2 ⊢;exact O b c h1 h2
      ·rw [if_neg Y] at h2 ⊢;exact h2
     ·rw [if_neg J] at h1;by_cases Z:y=z
      ·subst Z;rw [if_neg J];exact h1
      ·rw [if_neg Z] at h2;have L:=h.tr x y z h1 h2;have:¬ x=z:=λ e=>by
        subst e;rw [h.irr] at L;cases L
       rw [if_neg this];exact L
 ·induction a with
  | nil=>
   intro b h1 h2;cases b with
   | nil=>rfl
   | cons y b=>cases h1
  | cons x a O=>
   intro b h1 h2;cases b with
   | nil=>cases h2
   | cons y b=>
    rw [lexB] at h1 h2;by_cases J:x=y
    ·subst J;rw [if_pos rfl] at h1 h2;rw [O b h1 h2]
    ·rw [if_neg J] at h1;rw [if_neg (Ne.symm J)] at h2;exact absurd (h.tri x y h1 h2) J
theorem qr3:STO (λ a b:Nat=>decide (a < b)):=
 ⟨λ a=>by simp,λ a b c h1 h2=>by simp at*;omega,λ a b h1 h2=>by simp at*;omega⟩
theorem qiw:STO (λ a b:Int=>decide (a < b)):=
 ⟨λ a=>by simp,λ a b c h1 h2=>by simp at*;omega,λ a b h1 h2=>by simp at*;omega⟩
theorem qd3:∀ (a b:List Nat),decide (a < b)=lexB (λ x y:Nat=>decide (x < y)) a b
 | [],[]=>rfl
 | [],_::_=>by simp [lexB]
 | _::_,[]=>by simp [lexB]
 | x::a,y::b=>by
  rw [lexB,<- qd3 a b];by_cases e:x=y
  ·subst e;rw [if_pos rfl];simp
  ·rw [if_neg e];have:(x::a < y::b)↔x < y:=by
    rw [List.cons_lt_cons_iff]
    constructor
    ·rintro (h | h)
     ·exact h
     ·exact absurd h.1 e
    ·exact .inl
   simp [this]
theorem STO.uniq {lt:α ->α ->Bool} (h:STO lt):∀ {a b:List α},a.Perm b ->a.Pairwise (λ x y=>lt y x=false) ->b.Pairwise (λ x y=>lt y x=false) ->a=b
 | [],b,p,_,_=>(List.nil_perm.mp p).symm ▸ rfl
 | x::a,[],p,_,_=>by have:=p.length_eq;simp at this
 | x::a,y::b,p,pa,pb=>by
  obtain ⟨J,L⟩:=z1h.mp pa;obtain ⟨O,Y⟩:=z1h.mp pb;have e:x=y:=by
   have hx:x∈y::b:=p.mem_iff.mp (z1g ..);have hy:y∈x::a:=p.mem_iff.mpr (z1g ..);rcases z37.mp hx with e | hx
   ·exact e
   ·rcases z37.mp hy with e | hy
    ·exact e.symm
    ·exact h.tri x y (O x hx) (J y hy)
  subst e;rw [h.uniq (List.Perm.cons_inv p) L Y]
theorem qd4 [DecidableEq α] {lt:α ->α ->Bool}:∀ (i:Nat) (a b:List α) (c d:α),a.take i=b.take i ->a[i]? =some c ->b[i]? =some d ->c≠d ->lexB lt a b=lt c d
 | 0,[],_,_,_,_,h,_,_=>by simp at h
 | 0,_::_,[],_,_,_,_,h,_=>by simp at h
 | 0,x::a,y::b,c,d,_,h1,h2,hn=>by
  simp at h1 h2
  subst h1 h2;rw [lexB,if_neg hn]
 | i+1,[],_,_,_,_,h,_,_=>by simp at h
 | i+1,_::_,[],_,_,_,_,h,_=>by simp at h
 | i+1,x::a,y::b,c,d,e,h1,h2,hn=>by
  rw [List.take_succ_cons,List.take_succ_cons] at e;obtain ⟨J,e'⟩:=List.cons.inj e;subst J;rw [lexB,if_pos rfl];exact qd4 i a b c d e' (by simpa using h1) (by simpa using h2) hn
theorem qb1 [DecidableEq α] {lt:α ->α ->Bool}:∀ (a b:List α),a.take (min a.length b.length)=b.take (min a.length b.length) ->lexB lt a b=decide (a.length < b.length)
 | [],[],_=>by simp [lexB]
 | [],_::_,_=>by simp [lexB]
 | _::_,[],_=>by simp [lexB]
 | x::a,y::b,e=>by
  rw [z27,z27,Nat.add_min_add_right,List.take_succ_cons,List.take_succ_cons] at e;obtain ⟨J,e'⟩:=List.cons.inj e;subst J;rw [lexB,if_pos rfl,qb1 a b e',z27,z27];simp
end
end Tim
namespace L2
open PySem PySem.Spec PyProof.Rows
abbrev Key:=Sum Int Str
def q65:Key ->Value ->Bool
 | .inl k,v=>Value.isInt k v
 | .inr x,v=>Value.isStrOf x v
def keyH (w:World):Key ->Int
 | .inl k=>hashInt k
 | .inr x=>hashStr w x
theorem q1p:∀ {k:Key} {v:Value},q65 k v=true ->(∃ i t,k=Sum.inl i/\v=Value.int i t)\/ (∃ x t,k=Sum.inr x/\v=Value.str x t)
 | .inl i,v,h=>by
  obtain ⟨t,e⟩:=Value.isInt_shape (k:=i) (v:=v) h;exact .inl ⟨i,t,zr,e⟩
 | .inr x,v,h=>by
  obtain ⟨t,e⟩:=Value.isStrOf_shape (x:=x) (v:=v) h;exact .inr ⟨x,t,zr,e⟩
theorem qlo (i:Int) (t:Tok):q65 (.inl i) (.int i t)=true:=by simp [q65,Value.isInt]
theorem qlp (x:Str) (t:Tok):q65 (.inr x) (.str x t)=true:=by simp [q65,Value.isStrOf]
theorem qth (a b:Int):decide ((Sum.inl a:Key)=Sum.inl b)=(a==b):=by
 by_cases e:a=b
 ·subst e;simp
 ·have h:¬ (Sum.inl a:Key)=Sum.inl b:=λ q=>e (Sum.inl.inj q);rw [z2k h];exact (beq_eq_false_iff_ne.mpr e).symm
theorem qti (a b:Str):decide ((Sum.inr a:Key)=Sum.inr b)=decide (a=b):=by
 by_cases e:a=b
 ·subst e;simp
 ·have h:¬ (Sum.inr a:Key)=Sum.inr b:=λ q=>e (Sum.inr.inj q);rw [z2k h,z2k e]
theorem qtj (a:Int) (b:Str):decide ((Sum.inl a:Key)=Sum.inr b)=false:=z2k (λ q=>nomatch q)
theorem qtk (a:Str) (b:Int):decide ((Sum.inr a:Key)=Sum.inl b)=false:=z2k (λ q=>nomatch q)
def qo (prog:Program) (w:World):PySem.KeyKind prog w Key where
 is:=q65
 hash:=keyH w
 inj:=λ v a b ha hb=>by
  rcases q1p ha with ⟨i,t,rfl,rfl⟩ | ⟨x,t,rfl,rfl⟩
  ·rcases q1p hb with ⟨j,u,rfl,e⟩ | ⟨y,u,rfl,e⟩
   ·injection e with e1 _;rw [e1]
   ·exact nomatch e
  ·rcases q1p hb with ⟨j,u,rfl,e⟩ | ⟨y,u,rfl,e⟩
   ·exact nomatch e
   ·injection e with e1 _;rw [e1]
 byValue:=λ k v h=>by
  rcases q1p h with ⟨i,t,rfl,rfl⟩ | ⟨x,t,rfl,rfl⟩ <;> rfl
 pyHash:=λ hv h=>by
  rcases q1p hv with ⟨i,t,rfl,rfl⟩ | ⟨x,t,rfl,rfl⟩
  ·exact wpAny_pyHash_int h
  ·exact wpAny_pyHash_str h
 eqBool:=λ hu hv h=>by
  rcases q1p hu with ⟨i,t,rfl,rfl⟩ | ⟨x,t,rfl,rfl⟩
  ·rcases q1p hv with ⟨j,u,rfl,rfl⟩ | ⟨y,u,rfl,rfl⟩
   ·rw [qth] at h;exact wpAny_eqBool_int h
   ·rw [qtj] at h;exact SeqAt.EqAt.int_str i t y u _ _ _ _ h
  ·rcases q1p hv with ⟨j,u,rfl,rfl⟩ | ⟨y,u,rfl,rfl⟩
   ·rw [qtk] at h;exact SeqAt.EqAt.str_int x t j u _ _ _ _ h
   ·rw [qti] at h;exact wpAny_eqBool_str h
 «strs»:=λ k x t v h=>by
  rcases q1p h with ⟨i,u,rfl,e⟩ | ⟨y,u,rfl,e⟩
  ·exact nomatch e
  ·injection e with e1 _;subst e1;cases v <;> rfl
theorem qhy (prog:Program) (w:World) (i:Int) (t:Tok):(qo prog w).is (.inl i) (.int i t)=true:=qlo i t
theorem qa8 (prog:Program) (w:World) (x:Str) (t:Tok):(qo prog w).is (.inr x) (.str x t)=true:=qlp x t
inductive V where
 | non | bl (b:Bool) | int (i:Int) | str (x:Str) | byt (b:Array UInt8) | flt (b:UInt64) | ref (a:Addr) | ty (n:String)
 deriving DecidableEq
def RelV:V ->Value ->Prop
 | .non,u=>u=Value.none
 | .bl b,u=>u=Value.bool b
 | .int i,u=>∃ t,u=Value.int i t
 | .str x,u=>∃ t,u=Value.str x t
 | .byt b,u=>∃ t,u=Value.bytes b t
 | .flt b,u=>∃ t,u=Value.float b t
 | .ref a,u=>u=Value.ref a
 | .ty n,u=>u=Value.type n
abbrev Vals:List V ->List Value ->Prop:=Paired RelV
theorem Vals.length {xs:List V} {us:List Value} (r:Vals xs us):xs.length=us.length:=Paired.length r
theorem Vals.get:∀ {xs:List V} {us:List Value} {i:Nat} {x:V},Vals xs us ->xs[i]? =some x ->∃ u,us[i]? =some u/\RelV x u
 | _,_,_,_,.nil,e=>by simp at e
 | _,_,0,_,.cons r _,e=>by simp at e;subst e;exact ⟨_,rfl,r⟩
 | _,_,i+1,x,.cons _ t,e=>by
  obtain ⟨u,h1,h2⟩:=Vals.get (i:=i) (x:=x) t (by simpa using e);exact ⟨u,by simpa using h1,h2⟩
theorem Vals.set {x:V} {u:Value} (r:RelV x u):∀ {xs:List V} {us:List Value} (i:Nat),Vals xs us ->Vals (xs.set i x) (us.set i u)
 | _,_,_,.nil=> .nil
 | _,_,0,.cons _ t=> .cons r t
 | _,_,i+1,.cons q t=> .cons q (Vals.set r i t)
theorem Vals.append:∀ {xs ys:List V} {us ws:List Value},Vals xs us ->Vals ys ws ->Vals (xs++ys) (us++ws)
 | _,_,_,_,.nil,s=>s
 | _,_,_,_,.cons r t,s=> .cons r (Vals.append t s)
theorem Vals.take:∀ {xs:List V} {us:List Value} (n:Nat),Vals xs us ->Vals (xs.take n) (us.take n)
 | _,_,0,_=> .nil
 | _,_,_+1,.nil=> .nil
 | _,_,n+1,.cons r t=> .cons r (Vals.take n t)
theorem Vals.drop:∀ {xs:List V} {us:List Value} (n:Nat),Vals xs us ->Vals (xs.drop n) (us.drop n)
 | _,_,0,r=>r
 | _,_,_+1,.nil=> .nil
 | _,_,n+1,.cons _ t=>Vals.drop n t
def RelO:Option V ->Option Value ->Prop
 | some v,some u=>RelV v u
 | none,none=>True
 | _,_=>False
def KV {κ:Type}:List (κ×V) ->List (κ×Value) ->Prop:=Paired λ (p:κ×V) (q:κ×Value)=>p.1=q.1/\RelV p.2 q.2
def kV:Key ->V
 | .inl i=> .int i
 | .inr x=> .str x
inductive HO where
 /-- a list -/
 | lst (xs:List V)
 /-- a tuple (never changes) -/
 | tup (xs:List V)
 /-- a dict whose keys are ints and texts;one whose keys are tuples of ints and texts (the empty one is both) -/
 | dK (kvs:List (Key×V)) | dT (kvs:List (List Key×V))
 /-- a set of ints:its members,its size -/
 | set (S:Int ->Bool) (n:Nat)
 /-- an instance of the class at C,its dict at dx,its attributes -/
 | ins (C dx:Addr) (fs:List (Str×V))
 /-- the dict of the instance at x -/
 | own (x:Addr)
 /-- the dict of an exception -/
 | xd (fs:List (Str×V))
 /-- a bound method,f of x -/
 | met (f x:Addr)
 /-- a range object lo,lo+1,.. below hi -/
 | rng (lo hi:Int)
 /-- a thing that is known to the object (the script;a dict while a loop walks it):read,never written while it is so -/
 | frz (o:Obj) (u:HO)
 /-- a code object's table -/
 | tbl (ps:Array Value)
 /-- any other thing,by what is true of its one object (a def of one's own:SetO a S n:=HO.ext λ h=> ..) -/
 | ext (φ:Heap ->Prop)
abbrev Hp:=Addr ->Option HO
def upd (H:Hp) (a:Addr) (o:HO):Hp:=λ b=>if b=a then some o else H b
theorem q0 {H:Hp} {a:Addr} {o:HO}:upd H a o a=some o:=by unfold upd;rw [if_pos rfl]
theorem qd {H:Hp} {a b:Addr} {o:HO} (h:b≠a):upd H a o b=H b:=by unfold upd;rw [if_neg h]
theorem q9l {H:Hp} {a:Addr} {o u:HO}:upd (upd H a o) a u=upd H a u:=by
 funext b;unfold upd;split <;> rfl
theorem qw9 {H:Hp} {a b:Addr} {o u:HO} (h:H a=some o) (h':H b=some u) (d:o≠u):a≠b:=by
 intro e;subst e;rw [h] at h';exact d (Option.some.inj h')
theorem q2d {H:Hp} {a b:Addr} {o:HO} (h:H a=some o) (h':H b=none):a≠b:=by
 intro e;subst e;rw [h] at h';cases h'
section
variable (P:Program) (w:World)
def ObjOk (H:Hp) (h:Heap) (a:Addr):HO ->Prop
 | .lst xs=>xs.length<=sizeLine/\∃ (its:List Value) (n:Nat),Vals xs its/\h.get? a=some {cls:= .type "list",data:= .seq its.toArray n}
 | .tup xs=>xs.length<=sizeLine/\∃ its:List Value,Vals xs its/\IsTup h a its.toArray
 | .dK kvs=>kvs.length<=sizeLine/\(a==sysModules)=false/\∃ vs,KV kvs vs/\h.DictOf (qo P w) a vs
 | .dT kvs=>kvs.length<=sizeLine/\(a==sysModules)=false/\∃ xs:List (List Key×Addr×Value),
   Paired (λ (p:List Key×V) (q:List Key×Addr×Value)=>p.1=q.1/\H q.2.1=some (.tup (p.1.map kV))/\RelV p.2 q.2.2) kvs xs/\
   ∃ o es ep,h.get? a=some o/\o.ExactDict/\o.data= .dict es ep/\es.toList=xs.map (entryOfKey (tupleKind (qo P w)))/\(xs.map (·.1)).Nodup
 | .set S n=>h.SetOf (intKind P w) a S n
 | .ins C dx fs=>H dx=some (.own a)/\fs.length<=1000/\dx≠a/\h.get? a=some (PySem.W.instObj C dx)/\
   ∃ mA,h.Ns1 dx mA/\(∀ f,RelO (fs.lookup f) (mA f))/\PySem.Within mA (fs.map (·.1))
 | .own _=>∃ o,h.get? a=some o
 | .xd fs=>∃ mA,h.Ns1 a mA/\∀ f,RelO (fs.lookup f) (mA f)
 | .rng lo hi=>∃ t u v,h.get? a=some {cls:= .type "range",data:= .fields #[.int lo t,.int hi u,.int 1 v]}
 | .frz o u=>h.get? a=some o/\ObjOk H h a u
 | .tbl ps=>h.get? a=some {cls:= .none,data:= .fields ps}
 | .met f x=>h.get? a=some (PySem.W.methodObj (.ref f) (.ref x))
 | .ext φ=>φ h/\(∃ o,h.get? a=some o)/\∀ h1 h2:Heap,φ h1 ->(∀ o,h1.get? a=some o ->h2.get? a=some o) ->φ h2
def HOk (H:Hp) (h:Heap):Prop:=∀ a o,H a=some o ->ObjOk P w H h a o
end
section
variable {P:Program} {w:World} {H H':Hp} {h h':Heap} {a:Addr} {o:HO}
theorem ObjOk.lt (x:ObjOk P w H h a o):a < h.objs.size:=by
 cases o with
 | lst xs=>obtain ⟨_,_,_,_,e⟩:=x;exact z3h e
 | tup xs=>obtain ⟨_,_,_,p⟩:=x;exact p.lt
 | dK kvs=>obtain ⟨_,_,_,_,o,_,_,e,_⟩:=x;exact z3h e
 | dT kvs=>obtain ⟨_,_,_,_,o,_,_,e,_⟩:=x;exact z3h e
 | set S n=>obtain ⟨o,_,_,_,e,_⟩:=x;exact z3h e
 | ins C dx fs=>obtain ⟨_,_,_,e,_⟩:=x;exact z3h e
 | own y=>obtain ⟨_,e⟩:=x;exact z3h e
 | xd fs=>obtain ⟨_,⟨_,_,_,e,_⟩,_⟩:=x;exact z3h e
 | rng lo hi=>obtain ⟨_,_,_,e⟩:=x;exact z3h e
 | frz ob u=>obtain ⟨e,_⟩:=x;exact z3h e
 | tbl ps=>exact z3h (show h.get? a=some _ from x)
 | met f y=>exact z3h (show h.get? a=some _ from x)
 | ext φ=>obtain ⟨_,⟨_,e⟩,_⟩:=x;exact z3h e
theorem Paired.mapP {α β:Type} {F G:α ->β ->Prop}:∀ {J:List α} {L:List β},Paired F J L ->(∀ a b,F a b ->G a b) ->Paired G J L
 | _,_,.nil,_=> .nil
 | _,_,.cons r t,f=> .cons (f _ _ r) (Paired.mapP t f)
theorem ObjOk.stay (x:ObjOk P w H h a o) (k:∀ b u,(b=a\/ H b=some (.own a)) ->h.get? b=some u ->h'.get? b=some u)
  (ho:∀ b,H b=some (.own a) ->H' b=some (.own a)) (ht:∀ b xs,H b=some (.tup xs) ->H' b=some (.tup xs)):ObjOk P w H' h' a o:=by
 induction o with
 | lst xs=>obtain ⟨z,its,n,r,e⟩:=x;exact ⟨z,its,n,r,k _ _ (.inl rfl) e⟩
 | tup xs=>obtain ⟨z,its,r,J,e,c⟩:=x;exact ⟨z,its,r,J,k _ _ (.inl rfl) e,c⟩
 | dK kvs=>obtain ⟨z,y,vs,r,J,es,ep,e,c⟩:=x;exact ⟨z,y,vs,r,J,es,ep,k _ _ (.inl rfl) e,c⟩
 | dT kvs=>
  obtain ⟨z,y,xs,r,J,es,ep,e,c⟩:=x;exact ⟨z,y,xs,Paired.mapP r λ p q z=>⟨z.1,ht _ _ z.2.1,z.2.2⟩,J,es,ep,k _ _ (.inl rfl) e,c⟩
 | set S n=>obtain ⟨J,es,ep,t,e,c⟩:=x;exact ⟨J,es,ep,t,k _ _ (.inl rfl) e,c⟩
 | ins C dx fs=>
  obtain ⟨d,z,ne,e,mA,⟨L,es,ep,e2,c⟩,r⟩:=x;exact ⟨ho _ d,z,ne,k _ _ (.inl rfl) e,mA,⟨L,es,ep,k _ _ (.inr d) e2,c⟩,r⟩
 | own y=>obtain ⟨J,e⟩:=x;exact ⟨J,k _ _ (.inl rfl) e⟩
 | xd fs=>obtain ⟨mA,⟨L,es,ep,e,c⟩,r⟩:=x;exact ⟨mA,⟨L,es,ep,k _ _ (.inl rfl) e,c⟩,r⟩
 | rng lo hi=>obtain ⟨t,u,v,e⟩:=x;exact ⟨t,u,v,k _ _ (.inl rfl) e⟩
 | frz J u ih=>obtain ⟨e,q⟩:=x;exact ⟨k _ _ (.inl rfl) e,ih q⟩
 | tbl ps=>
  have e:h.get? a=some {cls:= .none,data:= .fields ps}:=x;show h'.get? a=some {cls:= .none,data:= .fields ps};exact k a _ (.inl rfl) e
 | met f y=>
  have e:h.get? a=some (PySem.W.methodObj (.ref f) (.ref y)):=x;show h'.get? a=some (PySem.W.methodObj (.ref f) (.ref y));exact k a _ (.inl rfl) e
 | ext φ=>obtain ⟨p,⟨o,e⟩,st⟩:=x;exact ⟨st _ _ p λ o q=>k _ _ (.inl rfl) q,⟨o,k _ _ (.inl rfl) e⟩,st⟩
theorem HOk.lt (x:HOk P w H h) (e:H a=some o):a < h.objs.size:=(x a o e).lt
theorem HOk.fresh (x:HOk P w H h) (e:h.objs.size<=a):H a=none:=by
 cases q:H a with
 | none=>rfl
 | some u=>exact absurd (z1i (x.lt q) e) (z39 _)
theorem HOk.kept (x:HOk P w H h) (k:∀ b u,h.get? b=some u ->h'.get? b=some u):HOk P w H h':=λ a o e=>
 (x a o e).stay (λ b u _ q=>k b u q) (λ _ q=>q) λ _ _ q=>q
theorem HOk.laid (x:HOk P w H h) (k:∀ b u,h.get? b=some u ->h'.get? b=some u) (hp:h.objs.size<=a) (new:ObjOk P w (upd H a o) h' a o):HOk P w (upd H a o) h':=λ b u e=>by
 have hn:=x.fresh hp;by_cases J:b=a
 ·subst J;rw [q0] at e;cases e;exact new
 ·rw [qd J] at e;exact (x b u e).stay (λ c v _ q=>k c v q) (λ c q=>by rw [qd (q2d q hn)];exact q) λ c xs q=>by rw [qd (q2d q hn)];exact q
end
def Rd (H:Hp) (a:Addr) (u:HO):Prop:=H a=some u\/ ∃ o,H a=some (.frz o u)
theorem Rd.ok {P:Program} {w:World} {H:Hp} {h:Heap} {a:Addr} {u:HO} (r:Rd H a u) (x:HOk P w H h):ObjOk P w H h a u:=by
 rcases r with r | ⟨o,r⟩
 ·exact x a u r
 ·obtain ⟨_,q⟩:=x a _ r;exact q
def Mut:Option HO ->Prop
 | some (.lst _)=>True
 | some (.dK _)=>True
 | some (.dT _)=>True
 | some (.set _ _)=>True
 | some (.ins _ _ _)=>True
 | some (.ext _)=>True
 | _=>False
section
variable {P:Program} {w:World} {H:Hp} {h h':Heap} {x e:Addr} {o':HO}
theorem HOk.write (ok:HOk P w H h) (mu:Mut (H x)) (he:e=x\/ H e=some (.own x)) (k:∀ b u,b≠e ->h.get? b=some u ->h'.get? b=some u) (a0:∃ u,h'.get? e=some u)
    (new:ObjOk P w (upd H x o') h' x o'):HOk P w (upd H x o') h':=λ b u q=>by
  have L:∀ c y,H c=some (.own y) ->c≠x:=λ c y r z=>by subst z;rw [r] at mu;exact mu
  have O:∀ c xs,H c=some (.tup xs) ->c≠x:=λ c xs r z=>by subst z;rw [r] at mu;exact mu
  by_cases Y:b=x
  · subst Y;rw [q0] at q;cases q;exact new
  · rw [qd Y] at q
    by_cases J:b=e
    · have q':H b=some (.own x):=by
        rcases he with z | z
        · exact absurd (J.trans z) Y
        · rw [J];exact z
      rw [q] at q';cases q';obtain ⟨v,hv⟩:=a0;exact ⟨v,by rw [J];exact hv⟩
    · refine (ok b u q).stay (λ c v Z r=>k c v ?_ r) (λ c r=>by rw [qd (L c b r)];exact r) λ c xs r=>by rw [qd (O c xs r)];exact r
      rcases Z with rfl | Z
      · exact J
      · rintro rfl
        rcases he with z | z
        · exact L c b Z z
        · rw [Z] at z;cases z;exact Y rfl
end
structure Un (fs ex:List Addr) (H H':Hp) (h h':Heap):Prop where
 keep:∀ b o,h.get? b=some o ->H b=none ->b∉fs ->b∉ex ->h'.get? b=some o
 slot:∀ b o,h.get? b=some o ->H b=none ->b∈fs ->b∉ex ->∃ sl,h'.get? b=some {o with slots:=sl}
 free:∀ b o,h.get? b=some o ->H b=none ->b∉ex ->H' b=none
 there:∀ b o,h.get? b=some o ->b∉ex ->∃ o',h'.get? b=some o'
 tups:∀ b xs,H b=some (.tup xs) ->H' b=some (.tup xs)
 frzs:∀ b o u,H b=some (.frz o u) ->H' b=some (.frz o u)
 tbls:∀ b ps,H b=some (.tbl ps) ->∃ more,H' b=some (.tbl (ps++more))
section
variable {fs fs' ex ex':List Addr} {H H1 H2:Hp} {h h1 h2 h':Heap} {a x e:Addr} {o:HO}
theorem Un.any (u:Un fs ex H H1 h h1) {b:Addr} {J:Obj} (q:h.get? b=some J) (n:H b=none) (hx:b∉ex):∃ sl,h1.get? b=some {J with slots:=sl}:=by
 by_cases L:b∈fs
 ·exact u.slot b J q n L hx
 ·exact ⟨J.slots,u.keep b J q n L hx⟩
theorem Un.kept (k:∀ b u,h.get? b=some u ->h'.get? b=some u):Un fs ex H H h h':=
 ⟨λ b J q _ _ _=>k b J q,λ b J q _ _ _=>⟨J.slots,k b J q⟩,λ _ _ _ n _=>n,λ b J q _=>⟨J,k b J q⟩,λ _ _ q=>q,λ _ _ _ q=>q,λ _ ps q=>⟨#[],by rw [q];simp⟩⟩
theorem Un.refl:Un fs ex H H h h:=Un.kept λ _ _ q=>q
theorem Un.laid (k:∀ b u,h.get? b=some u ->h'.get? b=some u) (hp:h.objs.size<=a) (hn:H a=none):Un fs ex H (upd H a o) h h' where
 keep:=λ b u q _ _ _=>k b u q
 slot:=λ b u q _ _ _=>⟨u.slots,k b u q⟩
 free:=λ b u q n _=>by rw [qd (z3i (z1i (z3h q) hp))];exact n
 there:=λ b u q _=>⟨u,k b u q⟩
 tups:=λ b xs q=>by rw [qd (q2d q hn)];exact q
 frzs:=λ b u xs q=>by rw [qd (q2d q hn)];exact q
 tbls:=λ b ps q=>⟨#[],by rw [qd (q2d q hn),q];simp⟩
theorem Un.write (L:Mut (H x)) (he:e=x\/ H e=some (.own x)) (k:∀ b u,b≠e ->h.get? b=some u ->h'.get? b=some u) (O:∃ u,h'.get? e=some u):Un fs ex H (upd H x o) h h':=by
 have hx:∀ b,H b=none ->b≠x:=λ b n z=>by subst z;rw [n] at L;exact L
 have Z:∀ b,H b=none ->b≠e:=λ b n z=>by
  subst z;rcases he with r | r
  ·exact hx b n r
  ·rw [n] at r;cases r
 have Y:∀ b u,H b=some u ->¬ Mut (some u) ->b≠x:=λ b u q nm z=>by subst z;rw [q] at L;exact nm L
 refine ⟨λ b u q n _ _=>k b u (Z b n) q,λ b u q n _ _=>⟨u.slots,k b u (Z b n) q⟩,λ b u q n _=>by rw [qd (hx b n)];exact n,λ b u q _=> ?_,
  λ b xs q=>by rw [qd (Y b _ q λ z=>z)];exact q,λ b u xs q=>by rw [qd (Y b _ q λ z=>z)];exact q,λ b ps q=>⟨#[],by rw [qd (Y b _ q λ z=>z),q];simp⟩⟩
 by_cases J:b=e
 ·subst J;exact O
 ·exact ⟨u,k b u J q⟩
end
def trk (h:Heap) (H:Hp):List Addr:=(List.range h.objs.size).filter λ a=>(H a).isSome
def hidT (h:Heap) (H:Hp):Heap:=PySem.W.hideAll h (trk h H)
theorem qlq (h:Heap) (H:Hp):(hidT h H).objs.size=h.objs.size:=PySem.W.hideAll_size _ _
theorem qoh {h:Heap} {H:Hp} {b:Addr} {o:Obj} (e:h.get? b=some o) (n:H b=none):(hidT h H).get? b=some o:=
 PySem.W.hideAll_get _ e λ hm=>by
  have q:(H b).isSome=true:=(z2l.mp hm).2;rw [n] at q;simp at q
theorem qr4 {h:Heap} {H:Hp} {b:Addr} {o:Obj} (e:(hidT h H).get? b=some o):h.get? b=some o/\H b=none:=by
 have e':h.get? b=some o:=PySem.W.of_hideAll (trk h H) e;refine ⟨e',?_⟩;cases q:H b with
 | none=>rfl
 | some x=>
  have hm:b∈trk h H:=z2l.mpr ⟨z2z.mpr (z3h e'),by simp [q]⟩;have z:(hidT h H).get? b=none:=PySem.W.hideAll_none (trk h H) hm;rw [z] at e;cases e
structure Mod (K:PySem.W.Frag) (mg:Str ->Option Value) (base:Heap):Prop where
 kin:K.In base
 glob:base.Ns mainGlobals mg
 blt:∃ mb,base.Ns builtinsNs mb/\∀ x:Str,x≠"__name__" ->mb x=bootBuiltins x
 nolimit:base.NoLimit
structure Cx where
 prog:Program
 w:World
 K:PySem.W.Frag
 mg:Str ->Option Value
 base:Heap
 A:Around
 N:List Str
 s₀:Shared
 H₀:Hp
 env:Env
 outer:List Env
 stack:List Env
 ex:List Addr
 fn:Str ->Bool
 calm:Bool
 pn:List (Addr×Obj)
 xe:Value ->Shared ->Prop
def frs (l:List Env):List Addr:=l.filterMap (·.frame)
abbrev Cx.fs (X:Cx):List Addr:=frs X.outer
def Vis (sc:Scope) (x:Str):Prop:=sc.names.lookup x=some .local\/ sc.names.lookup x=some .cell\/ sc.names.lookup x=some .free
def Loc (sc:Scope) (x:Str):Prop:=sc.names.lookup x=some .local\/ sc.names.lookup x=some .cell
def Look (env:Env) (h:Heap) (m:Str ->Option Value) (x:Str) (u:Value):Prop:=
 (env.kindOf x=some .local/\m x=some u)\/ ((env.kindOf x=some .cell\/ env.kindOf x=some .free)/\∃ c,env.cells.lookup x=some c/\h.IsCell c (some u))
structure Cx.Ok (X:Cx):Prop where
 mod:Mod X.K X.mg X.base
 kind:X.env.scope.kind= .function
 glob:X.env.globals=mainGlobals
 blt:X.env.builtins=builtinsNs
 above:X.s₀.heap.objs.size<=X.env.locals
 inj:∀ x y c,X.env.cells.lookup x=some c ->X.env.cells.lookup y=some c ->x=y
 has:∀ x,(X.env.kindOf x=some .cell\/ X.env.kindOf x=some .free) ->∃ c,X.env.cells.lookup x=some c
 cab:∀ x c,X.fn x=true ->X.env.cells.lookup x=some c ->X.s₀.heap.objs.size<=c
 hd:X.calm=true ->X.A.handled=none
 frames:X.A.frames=some X.stack
 stk:X.stack=X.outer\/ (X.stack=X.env::X.outer/\X.env.frame=some X.env.locals)
 exf:∀ b∈X.ex,b≠X.env.locals/\∀ x c,X.env.cells.lookup x=some c ->c≠b
 bs:∀ b o,X.base.get? b=some o ->X.s₀.heap.get? b=some o/\X.H₀ b=none
 bsz:X.base.objs.size<=X.s₀.heap.objs.size
 noex:∀ b o,X.base.get? b=some o ->b∉X.ex
 exfs:∀ b∈X.ex,b∉X.fs
 funs:X.s₀.heap.FunFrames X.base X.outer
 frf:∀ b∈X.fs,X.H₀ b=none
structure Inv (X:Cx) (pins:List (Addr×Obj)) (σ:List (Option V)) (H:Hp) (s:Shared):Prop where
 ok:X.Ok
 os:s.os=X.s₀.os
 bare:AllBare s.gens
 base:Un X.fs X.ex X.H₀ H X.s₀.heap s.heap
 loc:∃ m,s.heap.Ns X.env.locals m/\∀ (i:Nat) (x:Str) (v:V),X.N[i]? =some x ->σ[i]? =some (some v) ->Vis X.env.scope x ->∃ u,RelV v u/\Look X.env s.heap m x u
 cell:∀ x c,X.env.cells.lookup x=some c ->∃ v,s.heap.IsCell c v
 free:H X.env.locals=none
 freeC:∀ x c,X.env.cells.lookup x=some c ->H c=none
 pin:∀ p∈X.pn++pins,s.heap.get? p.1=some p.2/\H p.1=none/\p.1≠X.env.locals/\p.1∉X.fs/\∀ v,p.2.data≠ .cell v
 hok:HOk X.prog X.w H s.heap
 len:σ.length=X.N.length
section
variable {X:Cx} {pins:List (Addr×Obj)} {σ:List (Option V)} {H H':Hp} {s:Shared} {h':Heap}
theorem Cx.Ok.nofr (ok:X.Ok) {b:Addr} {o:Obj} (e:X.base.get? b=some o):b∉X.fs:=λ hb=>by
 have:=(ok.funs.mem hb).1;rw [e] at this;cases this
theorem Inv.bs (I:Inv X pins σ H s):∀ b o,X.base.get? b=some o ->s.heap.get? b=some o/\H b=none:=λ b o e=>
 ⟨I.base.keep b o (I.ok.bs b o e).1 (I.ok.bs b o e).2 (I.ok.nofr e) (I.ok.noex b o e),I.base.free b o (I.ok.bs b o e).1 (I.ok.bs b o e).2 (I.ok.noex b o e)⟩
theorem Inv.bk (I:Inv X pins σ H s):∀ b o,X.base.get? b=some o ->s.heap.get? b=some o:=λ b o e=>(I.bs b o e).1
theorem Inv.mod (I:Inv X pins σ H s):Mod X.K X.mg X.base:=I.ok.mod
theorem Inv.kIn (I:Inv X pins σ H s):X.K.In s.heap:=I.ok.mod.kin.keeps I.bk
theorem Inv.lt (I:Inv X pins σ H s):X.env.locals < s.heap.objs.size:=let ⟨_,hn,_⟩:=I.loc;hn.lt
theorem Inv.sz (I:Inv X pins σ H s):X.s₀.heap.objs.size<=s.heap.objs.size:=z3j I.ok.above (z3g I.lt)
theorem Inv.nofs (I:Inv X pins σ H s) {a:Addr} (h:s.heap.objs.size<=a):a∉X.fs:=λ hb=>by
 obtain ⟨_,o,ho,_⟩:=I.ok.funs.mem hb;exact absurd (z1i (z3h ho) (z3j I.sz h)) (z39 _)
theorem Inv.cne (I:Inv X pins σ H s):∀ x c,X.env.cells.lookup x=some c ->c≠X.env.locals:=λ x c e z=>by
 obtain ⟨v,o,ho,hd⟩:=I.cell x c e;obtain ⟨m,⟨o',es,ep,L,J,_⟩,_⟩:=I.loc;rw [z,L] at ho;cases ho;rw [J] at hd;cases hd
theorem Inv.funs (I:Inv X pins σ H s):s.heap.FunFrames X.base X.outer:=by
 have all:∀ (l:List Env),(∀ b∈frs l,b∈X.fs) ->X.s₀.heap.FunFrames X.base l ->s.heap.FunFrames X.base l:=by
  intro l
  induction l with
  | nil=>intro _ _;trivial
  | cons env r ih=>
   intro Z hl;obtain ⟨hk,⟨L,o,Y,hn,ho,hd⟩,hr⟩:=hl;have J:L∈X.fs:=Z L (by unfold frs;rw [List.filterMap_cons,Y];exact z1g);obtain ⟨sl,e⟩:=I.base.slot L o ho (I.ok.frf L J) J λ z=>I.ok.exfs L z J;exact ⟨hk,⟨L,_,Y,hn,e,hd⟩,ih (λ b O=>Z b (by unfold frs;rw [List.filterMap_cons,Y];exact z10 _ O)) hr⟩
 exact all X.outer (λ _ O=>O) I.ok.funs
theorem Inv.stack (I:Inv X pins σ H s):s.heap.FunFrames X.base X.stack:=by
 rcases I.ok.stk with e | ⟨e,hf⟩
 ·rw [e];exact I.funs
 ·rw [e];obtain ⟨m,hn,_⟩:=I.loc;refine .cons (by rw [I.ok.kind];decide) hf hn ?_ I.funs;exact Heap.get?_none_of_le (z3j I.ok.bsz I.ok.above)
theorem Inv.stkSub (I:Inv X pins σ H s):∀ b∈frs X.stack,b∈X.env.locals::X.fs:=λ b J=>by
 rcases I.ok.stk with e | ⟨e,hf⟩
 ·rw [e] at J;exact z10 _ J
 ·rw [e] at J;unfold frs at J;rw [List.filterMap_cons,hf] at J;exact J
theorem Inv.stkFree (I:Inv X pins σ H s):∀ b∈frs X.stack,H b=none:=λ b J=>by
 rcases z37.mp (I.stkSub b J) with e | J
 ·rw [e];exact I.free
 ·obtain ⟨_,o,ho,_⟩:=I.ok.funs.mem J;exact I.base.free b o ho (I.ok.frf b J) λ z=>I.ok.exfs b z J
theorem Inv.step {g':Array GenState} {t':Nat} {d':Drawn} {ch:List Addr} (I:Inv X pins σ H s)
  (L:∀ b∈ch,(b∈X.ex\/ X.s₀.heap.objs.size<=b)/\b≠X.env.locals/\(∀ x c,X.env.cells.lookup x=some c ->c≠b)/\∀ p∈X.pn++pins,p.1≠b)
  (keep:∀ b o,b≠X.env.locals ->b∉X.fs ->b∉ch ->s.heap.get? b=some o ->H b=none ->h'.get? b=some o)
  (slot:∀ b o,b≠X.env.locals ->b∈X.fs ->b∉ch ->s.heap.get? b=some o ->H b=none ->∃ sl,h'.get? b=some {o with slots:=sl}) (free:∀ b o,b∉ch ->s.heap.get? b=some o ->H b=none ->H' b=none)
  (there:∀ b o,b∉ch ->s.heap.get? b=some o ->∃ o',h'.get? b=some o')
  (tups:∀ b xs,H b=some (.tup xs) ->H' b=some (.tup xs)) (frzs:∀ b o u,H b=some (.frz o u) ->H' b=some (.frz o u)) (tbls:∀ b ps,H b=some (.tbl ps) ->∃ more,H' b=some (.tbl (ps++more)))
  (ns:∀ m,s.heap.Ns X.env.locals m ->h'.Ns X.env.locals m) (hok:HOk X.prog X.w H' h') (hg:AllBare g'):
  Inv X pins σ H' {s with heap:=h',gens:=g',drawn:=d',toks:=t'}:=by
 have a0:∀ b o,X.s₀.heap.get? b=some o ->b≠X.env.locals:=λ b o e=>z3i (z1i (z3h e) I.ok.above);have Y:∀ b o,X.s₀.heap.get? b=some o ->b∉X.ex ->b∉ch:=λ b o e hx Z=>by
  rcases (L b Z).1 with z | z
  ·exact hx z
  ·exact absurd (z1i (z3h e) z) (z39 _)
 have J:∀ x c,X.env.cells.lookup x=some c ->∀ v,s.heap.IsCell c v ->h'.IsCell c v:=λ x c e v ⟨o,ho,hd⟩=>by
  have O:c∉ch:=λ z=>(L c z).2.2.1 x c e rfl;by_cases hc:c∈X.fs
  ·obtain ⟨sl,q⟩:=slot c o (I.cne x c e) hc O ho (I.freeC x c e);exact ⟨_,q,hd⟩
  ·exact ⟨o,keep c o (I.cne x c e) hc O ho (I.freeC x c e),hd⟩
 refine ⟨I.ok,I.os,hg,⟨λ b o e n Z hx=> ?_,λ b o e n Z hx=> ?_,λ b o e n hx=> ?_,λ b o e hx=> ?_,λ b xs e=>tups b xs (I.base.tups b xs e),λ b o xs e=>frzs b o xs (I.base.frzs b o xs e),λ b ps e=> ?_⟩,?_,λ x c e=> ?_,?_,λ x c e=> ?_,λ p hp=> ?_,hok,I.len⟩
 ·exact keep b o (a0 b o e) Z (Y b o e hx) (I.base.keep b o e n Z hx) (I.base.free b o e n hx)
 ·obtain ⟨sl,e1⟩:=I.base.slot b o e n Z hx;obtain ⟨a2,e2⟩:=slot b _ (a0 b o e) Z (Y b o e hx) e1 (I.base.free b o e n hx);exact ⟨a2,e2⟩
 ·obtain ⟨o',e1⟩:=I.base.there b o e hx;exact free b o' (Y b o e hx) e1 (I.base.free b o e n hx)
 ·obtain ⟨o',e1⟩:=I.base.there b o e hx;exact there b o' (Y b o e hx) e1
 ·obtain ⟨m1,e1⟩:=I.base.tbls b ps e;obtain ⟨m2,e2⟩:=tbls b _ e1;exact ⟨m1++m2,by rw [e2,Array.append_assoc]⟩
 ·obtain ⟨m,hn,hl⟩:=I.loc;refine ⟨m,ns m hn,λ i x v e1 e2 e3=> ?_⟩;obtain ⟨u,r,l⟩:=hl i x v e1 e2 e3;refine ⟨u,r,?_⟩;rcases l with l | ⟨k,c,e,z⟩
  ·exact .inl l
  ·exact .inr ⟨k,c,e,J x c e _ z⟩
 ·obtain ⟨v,z⟩:=I.cell x c e;exact ⟨v,J x c e v z⟩
 ·obtain ⟨m,⟨o,_,_,ho,_⟩,_⟩:=I.loc;exact free _ o (λ z=>(L _ z).2.1 rfl) ho I.free
 ·obtain ⟨v,o,ho,hd⟩:=I.cell x c e;exact free c o (λ z=>(L c z).2.2.1 x c e rfl) ho (I.freeC x c e)
 ·obtain ⟨e,n,ne,nf,d⟩:=I.pin p hp;have O:p.1∉ch:=λ z=>(L p.1 z).2.2.2 p hp rfl;exact ⟨keep p.1 p.2 ne nf O e n,free p.1 p.2 O e n,ne,nf,d⟩
theorem Inv.un {t':Nat} (I:Inv X pins σ H s) (u:Un X.fs [] H H' s.heap h') (hok:HOk X.prog X.w H' h'):Inv X pins σ H' {s with heap:=h',toks:=t'}:=by
 obtain ⟨m,⟨o,es,ep,ho,r⟩,_⟩:=id I.loc;obtain ⟨sl,hL⟩:=u.any ho I.free (by simp);exact I.step (g':=s.gens) (d':=s.drawn) (ch:=[]) (λ _ z=>nomatch z) (λ b o _ Y _ e n=>u.keep b o e n Y (by simp)) (λ b o _ Y _ e n=>u.slot b o e n Y (by simp)) (λ b o _ e n=>u.free b o e n (by simp)) (λ b o _ e=>u.there b o e (by simp)) u.tups u.frzs u.tbls (λ m' hm=>by
  obtain ⟨o',O,L,J,r'⟩:=hm;rw [ho] at J;cases J;exact ⟨_,O,L,hL,r'⟩) hok I.bare
theorem Inv.call {g':Array GenState} {t':Nat} {d':Drawn} {ch:List Addr} (I:Inv X pins σ H s) (u:Un (frs X.stack) ch H H' s.heap h') (hok:HOk X.prog X.w H' h') (hg:AllBare g')
  (L:∀ b∈ch,(b∈X.ex\/ X.s₀.heap.objs.size<=b)/\b≠X.env.locals/\(∀ x c,X.env.cells.lookup x=some c ->c≠b)/\∀ p∈X.pn++pins,p.1≠b):
  Inv X pins σ H' {s with heap:=h',gens:=g',drawn:=d',toks:=t'}:=by
 obtain ⟨m,⟨o,es,ep,ho,r⟩,_⟩:=id I.loc;obtain ⟨sl,hL⟩:=u.any ho I.free λ z=>(L _ z).2.1 rfl;exact I.step (ch:=ch) L (λ b o hL hb J e n=>u.keep b o e n (λ z=>(z37.mp (I.stkSub b z)).elim hL hb) J) (λ b o _ _ J e n=>u.any e n J) (λ b o J e n=>u.free b o e n J) (λ b o J e=>u.there b o e J) u.tups u.frzs u.tbls (λ m' hm=>by
  obtain ⟨o',Z,Y,O,r'⟩:=hm;rw [ho] at O;cases O;exact ⟨_,Z,Y,hL,r'⟩) hok hg
theorem Inv.turned {t':Nat} {it:Addr} (I:Inv X pins σ H s) (k:∀ b o,b≠it ->s.heap.get? b=some o ->h'.get? b=some o) (hn:H it=none) (O:it≠X.env.locals)
  (h1:it∈X.ex\/ X.s₀.heap.objs.size<=it) (h2:∀ x c,X.env.cells.lookup x=some c ->c≠it) (h3:∀ p∈X.pn++pins,p.1≠it):Inv X pins σ H {s with heap:=h',toks:=t'}:=by
 have L:∀ b u,H b=some u ->b≠it:=λ b u e z=>by rw [z,hn] at e;cases e
 refine I.step (g':=s.gens) (d':=s.drawn) (ch:=[it]) (λ b hb=> ?_) (λ b o _ _ J e _=>k b o (λ z=>J (by simp [z])) e) (λ b o _ _ J e _=>⟨o.slots,k b o (λ z=>J (by simp [z])) e⟩) (λ _ _ _ _ n=>n)
  (λ b o J e=>⟨o,k b o (λ z=>J (by simp [z])) e⟩) (λ _ _ e=>e) (λ _ _ _ e=>e) (λ b ps e=>⟨#[],by rw [e];simp⟩) (λ m hm=> ?_) (λ b u e=> ?_) I.bare
 ·have e:b=it:=by simpa using hb
  subst e;exact ⟨h1,O,h2,h3⟩
 ·obtain ⟨o,es,ep,ho,r⟩:=hm;exact ⟨o,es,ep,k _ o (Ne.symm O) ho,r⟩
 ·refine (I.hok b u e).stay (λ c v J q=>k c v ?_ q) (λ _ q=>q) λ _ _ q=>q;rcases J with z | z
  ·rw [z];exact L b u e
  ·exact L c _ z
theorem Inv.tok (I:Inv X pins σ H s) (t:Nat):Inv X pins σ H {s with toks:=t}:=I.un (h':=s.heap) (t':=t) Un.refl I.hok
theorem Inv.kept {t':Nat} (I:Inv X pins σ H s) (k:∀ b u,s.heap.get? b=some u ->h'.get? b=some u):Inv X pins σ H {s with heap:=h',toks:=t'}:=I.un (Un.kept k) (I.hok.kept k)
theorem Inv.laid {a:Addr} {o:HO} {t':Nat} (I:Inv X pins σ H s) (k:∀ b u,s.heap.get? b=some u ->h'.get? b=some u) (J:s.heap.objs.size<=a) (new:ObjOk X.prog X.w (upd H a o) h' a o):
  Inv X pins σ (upd H a o) {s with heap:=h',toks:=t'}:=I.un (Un.laid k J (I.hok.fresh J)) (I.hok.laid k J new)
theorem Inv.write {x e:Addr} {o:HO} {t':Nat} (I:Inv X pins σ H s) (O:Mut (H x)) (L:e=x\/ H e=some (.own x)) (k:∀ b u,b≠e ->s.heap.get? b=some u ->h'.get? b=some u) (J:∃ u,h'.get? e=some u)
  (new:ObjOk X.prog X.w (upd H x o) h' x o):Inv X pins σ (upd H x o) {s with heap:=h',toks:=t'}:=I.un (Un.write O L k J) (I.hok.write O L k J new)
theorem Inv.q9m {J:List (Addr×Obj)} (I:Inv X pins σ H s) (h:∀ p∈J,s.heap.get? p.1=some p.2/\H p.1=none/\p.1≠X.env.locals/\p.1∉X.fs/\∀ v,p.2.data≠ .cell v):Inv X J σ H s:=
 ⟨I.ok,I.os,I.bare,I.base,I.loc,I.cell,I.free,I.freeC,λ p hp=>(z2i.mp hp).elim (λ z=>I.pin p (z11 _ z)) (h p),I.hok,I.len⟩
theorem qfy {N:List Str} (hN:N.Nodup) {i j:Nat} {x:Str} (a:N[i]? =some x) (b:N[j]? =some x):i=j:=by
 obtain ⟨h1,e1⟩:=z06.mp a;obtain ⟨h2,e2⟩:=z06.mp b;exact (List.getElem_inj hN).mp (e1.trans e2.symm)
theorem qlr {M:Model} {A:Around} {E:Value ->Shared ->Prop} {i:Nat} {x:Str} {v:V} {u:Value} {Q:Unit ->Shared ->Prop} (I:Inv X pins σ H s) (hN:X.N.Nodup) (hi:X.N[i]? =some x) (hx:Loc X.env.scope x) (r:RelV v u)
    (h:∀ s',Inv X pins (σ.set i (some v)) H s' ->(∃ a,Heap.SameBut a s.heap s'.heap/\(a=X.env.locals\/ X.env.cells.lookup x=some a)) ->Q () s') (hf:X.fn x=true\/ X.env.scope.names.lookup x=some .local:=by first | exact .inl rfl | exact .inr rfl | assumption):wpAny M A (storeName X.env x u) Q E s:=by
  obtain ⟨m,hn,hl⟩:=id I.loc;have a5:(X.env.scope.kind== .class || (X.env.scope.kind== .module&&X.env.locals !=X.env.globals))=false:=by rw [I.ok.kind];rfl
  have a6:i < σ.length:=by rw [I.len];exact (z06.mp hi).1
  have cne:=I.cne;have L:∀ {a:Addr} {h':Heap},(∃ o,s.heap.get? a=some o/\H a=none) ->Heap.SameBut a s.heap h' ->HOk X.prog X.w H h':=λ {a h'} ha J b ob e=>by
    obtain ⟨_,_,Y⟩:=ha;refine (I.hok b ob e).stay (λ c w' O q=>(J.2 c ?_).trans q) (λ _ q=>q) λ _ _ q=>q;rintro rfl;rcases O with rfl | O
    · rw [Y] at e;cases e
    · rw [Y] at O;cases O
  rcases hx with Z | Z
  · refine wpAny_storeName_local Z hn (λ h' a9 J=> ?_) a5
    obtain ⟨oL,_,_,b0,_⟩:=id hn;refine h _ ⟨I.ok,I.os,I.bare,⟨λ b o e n hb hx=> ?_,λ b o e n hb hx=> ?_,I.base.free,λ b o e hx=> ?_,I.base.tups,I.base.frzs,I.base.tbls⟩,⟨_,a9,λ j y v' e1 e2 e3=> ?_⟩,λ y c e=> ?_,I.free,I.freeC,λ p hp=> ?_,L ⟨oL,b0,I.free⟩ J,by simpa using I.len⟩ ⟨_,J,.inl rfl⟩
    · exact (J.2 b (z3i (z1i (z3h e) I.ok.above))).trans (I.base.keep b o e n hb hx)
    · obtain ⟨sl,e1⟩:=I.base.slot b o e n hb hx
      exact ⟨sl,(J.2 b (z3i (z1i (z3h e) I.ok.above))).trans e1⟩
    · obtain ⟨o',e1⟩:=I.base.there b o e hx
      exact ⟨o',(J.2 b (z3i (z1i (z3h e) I.ok.above))).trans e1⟩
    · by_cases hj:j=i
      · subst hj
        rw [hi] at e1;cases e1;rw [List.getElem?_set_self a6] at e2;cases e2
        exact ⟨u,r,.inl ⟨Z,by simp⟩⟩
      · rw [List.getElem?_set_ne (Ne.symm hj)] at e2
        obtain ⟨u',r',q⟩:=hl j y v' e1 e2 e3;refine ⟨u',r',?_⟩;rcases q with ⟨k,e⟩ | ⟨k,c,e,z⟩
        · refine .inl ⟨k,?_⟩
          have:y≠x:=λ e=>hj (qfy hN e1 (e ▸ hi));simp [this,e]
        · exact .inr ⟨k,c,e,z.sameBut J (cne y c e)⟩
    · obtain ⟨w',z⟩:=I.cell y c e
      exact ⟨w',z.sameBut J (cne y c e)⟩
    · obtain ⟨e,n,ne,nf,d⟩:=I.pin p hp
      exact ⟨(J.2 p.1 ne).trans e,n,ne,nf,d⟩
  · have a0:X.fn x=true:=by
      rcases hf with z | z
      · exact z
      · rw [z] at Z;cases Z
    obtain ⟨c,O⟩:=I.ok.has x (.inl Z);obtain ⟨w',z⟩:=I.cell x c O;refine wpAny_storeName_cell I.ok.kind Z O z (λ h' a2 J=> ?_);obtain ⟨oc,a7,a8⟩:=id z;refine h {s with heap:=h'} ⟨I.ok,I.os,I.bare,⟨λ b o e n hb hx=> ?_,λ b o e n hb hx=> ?_,I.base.free,λ b o e hx=> ?_,I.base.tups,I.base.frzs,I.base.tbls⟩,⟨m,hn.sameBut J (Ne.symm (cne x c O)),λ j y v' e1 e2 e3=> ?_⟩,λ y c' e=> ?_,I.free,I.freeC,λ p hp=> ?_,L ⟨oc,a7,I.freeC x c O⟩ J,by simpa using I.len⟩ ⟨c,J,.inr O⟩
    · exact (J.2 b (z3i (z1i (z3h e) (I.ok.cab x c a0 O)))).trans (I.base.keep b o e n hb hx)
    · obtain ⟨sl,e1⟩:=I.base.slot b o e n hb hx
      exact ⟨sl,(J.2 b (z3i (z1i (z3h e) (I.ok.cab x c a0 O)))).trans e1⟩
    · obtain ⟨o',e1⟩:=I.base.there b o e hx
      exact ⟨o',(J.2 b (z3i (z1i (z3h e) (I.ok.cab x c a0 O)))).trans e1⟩
    · by_cases hj:j=i
      · subst hj
        rw [hi] at e1;cases e1;rw [List.getElem?_set_self a6] at e2;cases e2
        exact ⟨u,r,.inr ⟨.inl Z,c,O,a2⟩⟩
      · rw [List.getElem?_set_ne (Ne.symm hj)] at e2
        obtain ⟨u',r',q⟩:=hl j y v' e1 e2 e3;refine ⟨u',r',?_⟩;rcases q with q | ⟨k,c',e,z'⟩
        · exact .inl q
        · refine .inr ⟨k,c',e,z'.sameBut J ?_⟩
          rintro rfl;exact hj (qfy hN e1 (I.ok.inj _ _ _ e O ▸ hi))
    · by_cases a3:c'=c
      · subst a3;exact ⟨_,a2⟩
      · obtain ⟨w2,z2⟩:=I.cell y c' e
        exact ⟨w2,z2.sameBut J a3⟩
    · obtain ⟨e,n,ne,nf,d⟩:=I.pin p hp
      refine ⟨(J.2 p.1 ?_).trans e,n,ne,nf,d⟩;intro q;rw [q,a7] at e;have q':oc=p.2:=Option.some.inj e;exact d w' (by rw [<- q'];exact a8)
theorem qb2 {M:Model} {A:Around} {E:Value ->Shared ->Prop} {i:Nat} {x:Str} {v:V} {u:Value} {Q:Unit ->Shared ->Prop} (I:Inv X pins σ H s) (hN:X.N.Nodup) (hi:X.N[i]? =some x) (hx:Loc X.env.scope x) (r:RelV v u)
  (h:∀ s',Inv X pins (σ.set i (some v)) H s' ->Q () s') (hf:X.fn x=true\/ X.env.scope.names.lookup x=some .local:=by first | exact .inl rfl | exact .inr rfl | assumption):wpAny M A (storeName X.env x u) Q E s:=
 qlr I hN hi hx r (λ s' I' _=>h s' I') hf
theorem Inv.call' {s':Shared} {ch:List Addr} (I:Inv X pins σ H s) (ho:s'.os=s.os) (u:Un (frs X.stack) ch H H' s.heap s'.heap) (hok:HOk X.prog X.w H' s'.heap) (hg:AllBare s'.gens)
  (J:∀ b∈ch,(b∈X.ex\/ X.s₀.heap.objs.size<=b)/\b≠X.env.locals/\(∀ x c,X.env.cells.lookup x=some c ->c≠b)/\∀ p∈X.pn++pins,p.1≠b):Inv X pins σ H' s':=by
 obtain ⟨h',g',d',t',o'⟩:=s';have e:o'=s.os:=ho;subst e;exact I.call (g':=g') (t':=t') (d':=d') u hok hg J
end
abbrev XK:=Value ->Option Addr ->Hp ->Prop
abbrev St:=List (Option V)
abbrev VK:=V ->Hp ->Prop
abbrev TE:=St ->Hp ->VK ->Prop
abbrev TT:=St ->Hp ->(Bool ->Hp ->Prop) ->Prop
abbrev TA:=St ->Hp ->(List V ->Hp ->Prop) ->Prop
structure Ends where
 nx:St ->Hp ->Prop
 rt:VK
 bk:St ->Hp ->Prop:=λ _ _=>False
 ct:St ->Hp ->Prop:=λ _ _=>False
abbrev TS:=Ends ->St ->Hp ->Prop
def EP (X:Cx) (pins:List (Addr×Obj)) (σ:St) (Q:VK) (u:Value) (s':Shared):Prop:=∃ v H',Inv X pins σ H' s'/\RelV v u/\Q v H'
def TP (X:Cx) (pins:List (Addr×Obj)) (σ:St) (Q:Bool ->Hp ->Prop) (b:Bool) (s':Shared):Prop:=∃ H',Inv X pins σ H' s'/\Q b H'
def AP (X:Cx) (pins:List (Addr×Obj)) (σ:St) (Q:List V ->Hp ->Prop) (us:List Value) (s':Shared):Prop:=∃ vs H',Inv X pins σ H' s'/\Vals vs us/\Q vs H'
def SP (X:Cx) (pins:List (Addr×Obj)) (D:Ends) (f:Flow) (s':Shared):Prop:=
 match f with
 | .next=>∃ σ' H',Inv X pins σ' H' s'/\D.nx σ' H'
 | .brk=>∃ σ' H',Inv X pins σ' H' s'/\D.bk σ' H'
 | .cont=>∃ σ' H',Inv X pins σ' H' s'/\D.ct σ' H'
 | .ret u=>∃ v σ' H',Inv X pins σ' H' s'/\RelV v u/\D.rt v H'
def PE (X:Cx) (e:Expr) (t:TE):Prop:=
 ∀ (pins:List (Addr×Obj)) (s:Shared) (σ:St) (H:Hp) (Q:VK),Inv X pins σ H s ->t σ H Q ->wpAny (model X.prog X.w) X.A (eval e X.env) (EP X pins σ Q) X.xe s
def PT (X:Cx) (e:Expr) (t:TT):Prop:=
 ∀ (pins:List (Addr×Obj)) (s:Shared) (σ:St) (H:Hp) (Q:Bool ->Hp ->Prop),Inv X pins σ H s ->t σ H Q ->wpAny (model X.prog X.w) X.A (isTrue e X.env (eval e X.env)) (TP X pins σ Q) X.xe s
def PW (X:Cx) (e:Expr) (t:TT):Prop:=
 ∀ (whole:Sem Value) (pins:List (Addr×Obj)) (s:Shared) (σ:St) (H:Hp) (Q:Bool ->Hp ->Prop),Inv X pins σ H s ->t σ H Q ->wpAny (model X.prog X.w) X.A (isTrue e X.env whole) (TP X pins σ Q) X.xe s
theorem PW.pt {X:Cx} {e:Expr} {t:TT} (h:PW X e t):PT X e t:=h _
def PA (X:Cx) (es:List Expr) (t:TA):Prop:=
 ∀ (pos:Pos) (pins:List (Addr×Obj)) (s:Shared) (σ:St) (H:Hp) (Q:List V ->Hp ->Prop),Inv X pins σ H s ->t σ H Q ->wpAny (model X.prog X.w) X.A (spliced (backTo pos (starEach es X.env))) (AP X pins σ Q) X.xe s
def PS (X:Cx) (st:Stmt) (t:TS):Prop:=
 ∀ (pins:List (Addr×Obj)) (s:Shared) (σ:St) (H:Hp) (D:Ends),Inv X pins σ H s ->t D σ H ->wpAny (model X.prog X.w) X.A (exec st X.env) (SP X pins D) X.xe s
def PSs (X:Cx) (st:List Stmt) (t:TS):Prop:=
 ∀ (pins:List (Addr×Obj)) (s:Shared) (σ:St) (H:Hp) (D:Ends),Inv X pins σ H s ->t D σ H ->wpAny (model X.prog X.w) X.A (execs st X.env) (SP X pins D) X.xe s
theorem thn {α:Type} {t:Sem α} {Q J:α ->Shared ->Prop} {M:Model} {A:Around} {E:Value ->Shared ->Prop} {s:Shared} (h:wpAny M A t Q E s) (hQ:∀ a s,Q a s ->J a s):wpAny M A t J E s:=z3x h hQ λ _ _ x=>x
section
variable {X:Cx}
def tVar (i:Nat):TE:=λ σ H Q=>∃ v,σ[i]? =some (some v)/\Q v H
def tC (v:V):TE:=λ _ H Q=>Q v H
theorem qtl {i:Nat} {x:Str} {pos:Pos} (hN:X.N[i]? =some x) (hv:Vis X.env.scope x) (hd:(x==("__debug__":Str))=false:=by decide) (O:(x==("__classdict__":Str))=false:=by decide):PE X (.Name x pos) (tVar i):=by
 intro pins s σ H Q I h;obtain ⟨v,e,h⟩:=h;obtain ⟨m,hn,hl⟩:=I.loc;obtain ⟨u,r,l⟩:=hl i x v hN e hv;have fin:EP X pins σ Q u s:=⟨v,H,I,r,h⟩;rcases l with ⟨L,hm⟩ | ⟨L,c,Y,J⟩
 ·exact wpAny_Name (wpAny_loadName_local I.ok.kind L hn hm fin) hd
 ·rcases L with L | L
  ·exact wpAny_Name (wpAny_loadName_cell I.ok.kind L Y J fin) hd
  ·exact wpAny_Name (wpAny_loadName_free I.ok.kind L Y J fin O) hd
theorem qa {i j pos}:PE X (.Constant (.int i) j pos) (tC (.int i)):=λ _ _ _ H _ I h=>wpAny_Constant_int ⟨.int i,H,I.tok _,⟨_,rfl⟩,h⟩
theorem q3a {b j pos}:PE X (.Constant (.bool b) j pos) (tC (.bl b)):=λ _ _ _ H _ I h=>Constant_bool ⟨.bl b,H,I,rfl,h⟩
theorem q4z {j pos}:PE X (.Constant .none j pos) (tC .non):=λ _ _ _ H _ I h=>Constant_none ⟨.non,H,I,rfl,h⟩
theorem q6r {x j pos}:PE X (.Constant (.str x) j pos) (tC (.str x)):=λ _ _ _ H _ I h=>Calls.Constant_str ⟨.str x,H,I.tok _,⟨_,rfl⟩,h⟩
def Gl (X:Cx) (x:Str):Prop:=X.env.kindOf x=some .globalImplicit
theorem q9n {E:Value ->Shared ->Prop} {pins:List (Addr×Obj)} {s:Shared} {σ:St} {H:Hp} {x:Str} {u:Value} {pos:Pos} {Q:Value ->Shared ->Prop} (I:Inv X pins σ H s) (hg:Gl X x) (hm:X.mg x=some u) (h:Q u s)
  (hd:(x==("__debug__":Str))=false:=by decide):wpAny (model X.prog X.w) X.A (eval (.Name x pos) X.env) Q E s:=
 Calls.Name_function_global I.ok.kind hg (Calls.loadGlobal_global (by rw [I.ok.glob];exact I.mod.glob.keeps I.bk) hm h) hd
theorem q5p {E:Value ->Shared ->Prop} {pins:List (Addr×Obj)} {s:Shared} {σ:St} {H:Hp} {x:Str} {u:Value} {pos:Pos} {Q:Value ->Shared ->Prop} (I:Inv X pins σ H s) (hg:Gl X x) (hm:X.mg x=none) (hv:bootBuiltins x=some u) (h:Q u s)
  (hn:x≠"__name__":=by decide) (hd:(x==("__debug__":Str))=false:=by decide):wpAny (model X.prog X.w) X.A (eval (.Name x pos) X.env) Q E s:=by
 obtain ⟨mb,h1,h2⟩:=I.mod.blt;exact Calls.Name_function_global I.ok.kind hg (Calls.loadGlobal_builtin (by rw [I.ok.glob];exact I.mod.glob.keeps I.bk) hm (by rw [I.ok.blt];exact h1.keeps I.bk) ((h2 x hn).trans hv) h) hd
theorem qd5 {x:Str} {v:V} {u:Value} {pos:Pos} (hg:Gl X x) (hm:X.mg x=some u) (r:RelV v u) (hd:(x==("__debug__":Str))=false:=by decide):PE X (.Name x pos) (tC v):=
 λ _ _ _ H _ I h=>q9n I hg hm ⟨v,H,I,r,h⟩ hd
theorem qr5 {x:Str} {v:V} {u:Value} {pos:Pos} (hg:Gl X x) (hm:X.mg x=none) (hv:bootBuiltins x=some u) (r:RelV v u) (hn:x≠"__name__":=by decide) (hd:(x==("__debug__":Str))=false:=by decide):PE X (.Name x pos) (tC v):=
 λ _ _ _ H _ I h=>q5p I hg hm hv ⟨v,H,I,r,h⟩ hn hd
variable {a b:Expr} {ta tb:TE} {pos:Pos}
def PC (X:Cx) (op:CmpOp) (a b:Expr) (t:TE):Prop:=
 ∀ (pins:List (Addr×Obj)) (s:Shared) (σ:St) (H:Hp) (Q:VK),Inv X pins σ H s ->t σ H Q ->
  wpAny (model X.prog X.w) X.A (eval a X.env) (λ v s₁=>wpAny (model X.prog X.w) X.A (eval b X.env) (λ u s₂=>wpAny (model X.prog X.w) X.A (compareOp op v u) (EP X pins σ Q) X.xe s₂) X.xe s₁) X.xe s
def tB (t:TE):TT:=λ σ H Q=>t σ H λ x H1=>∃ c,x= .bl c/\Q c H1
theorem qls {op:CmpOp} {t:TE} (h:PC X op a b t) (h1:behindInMarks op b=false:=by first | exact nobehind _ (by decide) (by decide) | rfl):PT X (.Compare a [op] [b] pos) (tB t):=by
 intro pins s σ H Q I hw;refine wpAny_isTrue_Compare1 (thn (h pins s σ H _ I hw) λ v s1 h1=>thn h1 λ u s2 h2=>thn h2 λ c s3 J=> ?_) h1;obtain ⟨x,H1,I1,r1,q1⟩:=J;obtain ⟨d,rfl,q⟩:=q1;cases r1
 exact z1u ⟨H1,I1,q⟩
theorem q2b {e:Expr} {t:TE} (h:PE X e t) (he:∀ J,isTrue e X.env J=(do let v <- J;standAt e.pos;holding [v] (truthy v)):=by intro _;rfl):PT X e (tB t):=by
 intro pins s σ H Q I hw;refine isTrue_plain (thn (h pins s σ H _ I hw) λ v s1 L=> ?_) (he _);obtain ⟨x,H1,I1,r1,q1⟩:=L;obtain ⟨d,rfl,q⟩:=q1;cases r1
 exact z1u ⟨H1,I1,q⟩
variable {tA tB':TT} {rest:List Expr}
def tAnd (t u:TT):TT:=λ σ H Q=>t σ H λ c H1=>if c=true then u σ H1 Q else Q false H1
def tOr (t u:TT):TT:=λ σ H Q=>t σ H λ c H1=>if c=true then Q true H1 else u σ H1 Q
def tNot (t:TT):TT:=λ σ H Q=>t σ H λ c H1=>Q (!c) H1
theorem qr6 (ha:PT X a tA):PW X (.BoolOp .And [a] pos) tA:=by
 intro wh pins s σ H Q I h;refine isTrue_and (thn (ha pins s σ H Q I h) λ c s1 e=> ?_);cases c with
 | true=>exact isTrue_and_nil e
 | false=>exact e
theorem q50 (ha:PT X a tA):PW X (.BoolOp .Or [a] pos) tA:=by
 intro wh pins s σ H Q I h;refine isTrue_or (thn (ha pins s σ H Q I h) λ c s1 e=> ?_);cases c with
 | false=>exact isTrue_or_nil e
 | true=>exact e
theorem qtm (ha:PT X a tA) (hb:PW X (.BoolOp .And (b::rest) pos) tB'):PW X (.BoolOp .And (a::b::rest) pos) (tAnd tA tB'):=by
 intro wh pins s σ H Q I h;refine isTrue_and (thn (ha pins s σ H _ I h) λ c s1 J=> ?_);obtain ⟨H1,I1,q1⟩:=J;cases c with
 | true=>exact hb wh pins s1 σ H1 Q I1 q1
 | false=>exact ⟨H1,I1,q1⟩
theorem q3b (ha:PT X a tA) (hb:PW X (.BoolOp .Or (b::rest) pos) tB'):PW X (.BoolOp .Or (a::b::rest) pos) (tOr tA tB'):=by
 intro wh pins s σ H Q I h;refine isTrue_or (thn (ha pins s σ H _ I h) λ c s1 J=> ?_);obtain ⟨H1,I1,q1⟩:=J;cases c with
 | true=>exact ⟨H1,I1,q1⟩
 | false=>exact hb wh pins s1 σ H1 Q I1 q1
theorem q2q (ha:PT X a tA):PT X (.UnaryOp .Not a pos) (tNot tA):=by
 intro pins s σ H Q I h;exact isTrue_not (ha pins s σ H (λ c H1=>Q (!c) H1) I h)
def qwa (ta tb:TE):TE:=λ σ H Q=>ta σ H λ x H1=>∃ c,x= .bl c/\if c=true then tb σ H1 Q else Q (.bl false) H1
def tOrV (ta tb:TE):TE:=λ σ H Q=>ta σ H λ x H1=>∃ c,x= .bl c/\if c=true then Q (.bl true) H1 else tb σ H1 Q
def qwb (ta:TE):TE:=λ σ H Q=>ta σ H λ x H1=>∃ c,x= .bl c/\Q (.bl (!c)) H1
theorem q6s {op} {t:TE} (h:PE X a t):PE X (.BoolOp op [a] pos) t:=λ pins s σ H Q I hw=>BoolOp_one (h pins s σ H Q I hw)
theorem q8o (ha:PE X a ta) (hb:PE X (.BoolOp .And (b::rest) pos) tb):PE X (.BoolOp .And (a::b::rest) pos) (qwa ta tb):=by
 intro pins s σ H Q I h;refine BoolOp_and (thn (ha pins s σ H _ I h) λ v s1 J=> ?_);obtain ⟨x,H1,I1,r1,q1⟩:=J;obtain ⟨c,rfl,q1⟩:=q1;cases r1
 refine z1u ?_;cases c with
 | true=>exact hb pins s1 σ H1 Q I1 q1
 | false=>exact ⟨.bl false,H1,I1,rfl,q1⟩
theorem qqc (ha:PE X a ta) (hb:PE X (.BoolOp .Or (b::rest) pos) tb):PE X (.BoolOp .Or (a::b::rest) pos) (tOrV ta tb):=by
 intro pins s σ H Q I h;refine BoolOp_or (thn (ha pins s σ H _ I h) λ v s1 J=> ?_);obtain ⟨x,H1,I1,r1,q1⟩:=J;obtain ⟨c,rfl,q1⟩:=q1;cases r1
 refine z1u ?_;cases c with
 | false=>exact hb pins s1 σ H1 Q I1 q1
 | true=>exact ⟨.bl true,H1,I1,rfl,q1⟩
theorem qtn (ha:PE X a ta):PE X (.UnaryOp .Not a pos) (qwb ta):=by
 intro pins s σ H Q I h;refine UnaryOp_ (thn (ha pins s σ H _ I h) λ v s1 J=> ?_);obtain ⟨x,H1,I1,r1,q1⟩:=J;obtain ⟨c,rfl,q1⟩:=q1;cases r1
 exact not_of (z1u ⟨.bl (!c),H1,I1,zr,q1⟩)
end
def SqL (K:PySem.W.Frag) (H:Hp) (a:Addr) (xs:List V):Prop:=
 Rd H a (.lst xs)\/
  ∃ (o:Obj) (its:Array Value) (n:Nat),K.lookup a=some o/\o.cls= .type "list"/\o.dict=none/\o.data= .seq its n/\its.size<=sizeLine/\Vals xs its.toList
def SqT (K:PySem.W.Frag) (H:Hp) (a:Addr) (xs:List V):Prop:=
 Rd H a (.tup xs)\/
  ∃ (o:Obj) (its:Array Value) (n:Nat),K.lookup a=some o/\o.cls= .type "tuple"/\o.data= .seq its n/\its.size<=sizeLine/\Vals xs its.toList
def absV:Value ->Option V
 | .none=>some .non
 | .bool b=>some (.bl b)
 | .int i _=>some (.int i)
 | .str x _=>some (.str x)
 | .bytes b _=>some (.byt b)
 | .float b _=>some (.flt b)
 | .ref a=>some (.ref a)
 | .type n=>some (.ty n)
 | _=>none
theorem RelV.abs {x:V} {u:Value} (r:RelV x u):absV u=some x:=by
 cases x with
 | non=>cases r;rfl
 | bl _=>cases r;rfl
 | int _=>obtain ⟨t,rfl⟩:=r;rfl
 | str _=>obtain ⟨t,rfl⟩:=r;rfl
 | byt _=>obtain ⟨t,rfl⟩:=r;rfl
 | flt _=>obtain ⟨t,rfl⟩:=r;rfl
 | ref _=>cases r;rfl
 | ty _=>cases r;rfl
theorem RelV.inj {x y:V} {u:Value} (r:RelV x u) (q:RelV y u):x=y:=Option.some.inj (r.abs.symm.trans q.abs)
theorem Vals.inj:∀ {xs ys:List V} {us:List Value},Vals xs us ->Vals ys us ->xs=ys
 | _,_,_,.nil,.nil=>rfl
 | _,_,_,.cons r t,.cons r' t'=>by rw [r.inj r',Vals.inj t t']
section
variable {X:Cx} {pins:List (Addr×Obj)} {σ:St} {H:Hp} {s:Shared} {a:Addr} {xs ys:List V}
theorem SqL.of {K:PySem.W.Frag} (h:H a=some (.lst xs)):SqL K H a xs:= .inl (.inl h)
theorem SqT.of {K:PySem.W.Frag} (h:H a=some (.tup xs)):SqT K H a xs:= .inl (.inl h)
theorem Inv.list (I:Inv X pins σ H s) (h:SqL X.K H a xs):∃ its:List Value,Vals xs its/\PlainL s.heap a its.toArray/\xs.length<=sizeLine:=by
 rcases h with h | ⟨o,its,n,hk,hc,hd,hs,hz,r⟩
 ·obtain ⟨z,its,n,r,e⟩:=h.ok I.hok;exact ⟨its,r,⟨_,n,e,zr,zr,zr⟩,z⟩
 ·refine ⟨its.toList,r,⟨o,n,I.kIn a o hk,hc,hd,by simpa using hs⟩,?_⟩;have e:=r.length;simp only [z13] at e;omega
theorem Inv.tuple (I:Inv X pins σ H s) (h:SqT X.K H a xs):∃ its:List Value,Vals xs its/\IsTup s.heap a its.toArray/\xs.length<=sizeLine:=by
 rcases h with h | ⟨o,its,n,hk,hc,hs,hz,r⟩
 ·obtain ⟨z,its,r,p⟩:=h.ok I.hok;exact ⟨its,r,p,z⟩
 ·refine ⟨its.toList,r,⟨o,I.kIn a o hk,hc,n,by simpa using hs⟩,?_⟩;have e:=r.length;simp only [z13] at e;omega
theorem Inv.qoi (I:Inv X pins σ H s) (h:SqL X.K H a xs) (h':SqL X.K H a ys):xs=ys:=by
 obtain ⟨its,r,⟨o,n,e,_,_,d⟩,_⟩:=I.list h;obtain ⟨its',r',⟨o',n',e',_,_,d'⟩,_⟩:=I.list h';rw [e] at e';cases e';rw [d] at d';injection d' with d1 _;have:its=its':=by simpa using congrArg Array.toList d1
 subst this;exact r.inj r'
theorem Inv.q8p (I:Inv X pins σ H s) (h:SqT X.K H a xs) (h':SqT X.K H a ys):xs=ys:=by
 obtain ⟨its,r,⟨o,e,_,n,d⟩,_⟩:=I.tuple h;obtain ⟨its',r',⟨o',e',_,n',d'⟩,_⟩:=I.tuple h';rw [e] at e';cases e';rw [d] at d';injection d' with d1 _;have:its=its':=by simpa using congrArg Array.toList d1
 subst this;exact r.inj r'
end
abbrev Cx.wish (X:Cx) (E:Value ->Shared ->Prop):Cx:={X with xe:=E}
abbrev Cx.nox (X:Cx):Cx:=X.wish λ _ _=>False
theorem Cx.Ok.wish {X:Cx} (ok:X.Ok) (E:Value ->Shared ->Prop):(X.wish E).Ok:=
 ⟨ok.mod,ok.kind,ok.glob,ok.blt,ok.above,ok.inj,ok.has,ok.cab,ok.hd,ok.frames,ok.stk,ok.exf,ok.bs,ok.bsz,ok.noex,ok.exfs,ok.funs,ok.frf⟩
theorem Cx.Ok.unwish {X:Cx} {E:Value ->Shared ->Prop} (ok:(X.wish E).Ok):X.Ok:=
 ⟨ok.mod,ok.kind,ok.glob,ok.blt,ok.above,ok.inj,ok.has,ok.cab,ok.hd,ok.frames,ok.stk,ok.exf,ok.bs,ok.bsz,ok.noex,ok.exfs,ok.funs,ok.frf⟩
section
variable {X:Cx} {pins:List (Addr×Obj)} {σ:St} {H:Hp} {s:Shared} {E:Value ->Shared ->Prop}
theorem Inv.wish (I:Inv X pins σ H s) (E:Value ->Shared ->Prop):Inv (X.wish E) pins σ H s:=⟨I.ok.wish E,I.os,I.bare,I.base,I.loc,I.cell,I.free,I.freeC,I.pin,I.hok,I.len⟩
theorem Inv.unwish (I:Inv (X.wish E) pins σ H s):Inv X pins σ H s:=⟨I.ok.unwish,I.os,I.bare,I.base,I.loc,I.cell,I.free,I.freeC,I.pin,I.hok,I.len⟩
theorem SP.unwish {D:Ends} {f:Flow} {s':Shared} (h:SP (X.wish E) pins D f s'):SP X pins D f s':=by
 cases f with
 | next=>obtain ⟨σ',H',I,q⟩:=h;exact ⟨σ',H',I.unwish,q⟩
 | brk=>obtain ⟨σ',H',I,q⟩:=h;exact ⟨σ',H',I.unwish,q⟩
 | cont=>obtain ⟨σ',H',I,q⟩:=h;exact ⟨σ',H',I.unwish,q⟩
 | ret u=>obtain ⟨v,σ',H',I,r,q⟩:=h;exact ⟨v,σ',H',I.unwish,r,q⟩
theorem PSs.nox {st:List Stmt} {t:TS} (h:PSs X.nox st t):PSs X st t:=λ pins s σ H D I hw=>
 z3x (h pins s σ H D (I.wish _) hw) (λ _ _ q=>q.unwish) λ _ _ z=>False.elim z
end
section
variable {X:Cx} {st:Stmt} {rest:List Stmt} {t u:TS} {e:Expr} {te:TE} {pos:Pos}
def qwc:TS:=λ D σ H=>D.nx σ H
def tSeq (t u:TS):TS:=λ D σ H=>t {D with nx:=u D} σ H
theorem q15:PSs X [] qwc:=λ _ _ σ H _ I h=>wpAny_execs_nil ⟨σ,H,I,h⟩
theorem q12 (h1:PS X st t) (h2:PSs X rest u):PSs X (st::rest) (tSeq t u):=by
 intro pins s σ H D I h;refine wpAny_execs_cons (thn (h1 pins s σ H {D with nx:=u D} I h) λ f s1 q=> ?_);cases f with
 | next=>
  obtain ⟨σ',H',I',q⟩:=q;exact h2 pins s1 σ' H' D I' q
 | ret v=>exact q
 | brk=>exact q
 | cont=>exact q
theorem qg (h1:PS X st t):PSs X [st] t:=by
 intro pins s σ H D I h;refine wpAny_execs_cons (thn (h1 pins s σ H D I h) λ f s1 q=> ?_);cases f with
 | next=>exact wpAny_execs_nil q
 | ret v=>exact q
 | brk=>exact q
 | cont=>exact q
theorem Inv.quiet {pins:List (Addr×Obj)} {σ:St} {H:Hp} {s:Shared} (I:Inv X pins σ H s):interactive X.env=false:=by simp [interactive,I.ok.kind]
def qwd (te:TE):TS:=λ D σ H=>te σ H λ _ H1=>D.nx σ H1
theorem q1j (he:PE X e te) (hs:swapsWith e none pos.line X.env=pure false:=by rfl):PS X (.Expr e pos) (qwd te):=by
 intro pins s σ H D I h;exact wpAny_Expr_any (thn (he pins s σ H _ I h) λ v s1 ⟨x,H1,I1,r1,q1⟩=>⟨σ,H1,I1,q1⟩) I.quiet hs
def tRet (te:TE):TS:=λ D σ H=>te σ H D.rt
theorem qi (he:PE X e te):PS X (.Return (some e) pos) (tRet te):=by
 intro pins s σ H D I h;exact wpAny_Return_some (thn (he pins s σ H _ I h) λ v s1 ⟨x,H1,I1,r1,q1⟩=>⟨x,σ,H1,I1,r1,q1⟩)
def tIfS (c:TT) (t u:TS):TS:=λ D σ H=>c σ H λ b H1=>if b=true then t D σ H1 else u D σ H1
theorem q1m {c:Expr} {a b:List Stmt} {tc:TT} (hc:PT X c tc) (ha:PSs X a t) (hb:PSs X b u):PS X (.If c a b pos) (tIfS tc t u):=by
 intro pins s σ H D I h;refine wpAny_If (thn (hc pins s σ H _ I h) λ d s1 J=> ?_);obtain ⟨H1,I1,q1⟩:=J;cases d with
 | true=>exact ha pins s1 σ H1 D I1 q1
 | false=>exact hb pins s1 σ H1 D I1 q1
end
abbrev TG:=V ->St ->Hp ->(St ->Hp ->Prop) ->Prop
abbrev TGs:=List V ->St ->Hp ->(St ->Hp ->Prop) ->Prop
def PG (X:Cx) (target:Expr) (t:TG):Prop:=
 ∀ (pins:List (Addr×Obj)) (s:Shared) (σ:St) (H:Hp) (v:V) (u:Value) (Q:St ->Hp ->Prop),Inv X pins σ H s ->RelV v u ->t v σ H Q ->
  wpAny (model X.prog X.w) X.A (assign target X.env u) (λ _ s'=>∃ σ' H',Inv X pins σ' H' s'/\Q σ' H') X.xe s
def PGs (X:Cx) (ts:List Expr) (t:TGs):Prop:=
 ∀ (pins:List (Addr×Obj)) (s:Shared) (σ:St) (H:Hp) (vs:List V) (us:List Value) (Q:St ->Hp ->Prop),Inv X pins σ H s ->Vals vs us ->t vs σ H Q ->
  wpAny (model X.prog X.w) X.A (assignInOrder ((assignEach ts X.env).map (·.2)) us) (λ _ s'=>∃ σ' H',Inv X pins σ' H' s'/\Q σ' H') X.xe s
abbrev TSet:=V ->V ->V ->Hp ->(Hp ->Prop) ->Prop
def PSet (X:Cx) (t:TSet):Prop:=
 ∀ (pins:List (Addr×Obj)) (s:Shared) (σ:St) (H:Hp) (o i v:V) (ov iv u:Value) (Q:Hp ->Prop),Inv X pins σ H s ->RelV o ov ->RelV i iv ->RelV v u ->t o i v H Q ->
  wpAny (model X.prog X.w) X.A (setItem ov iv u) (λ _ s'=>∃ H',Inv X pins σ H' s'/\Q H') X.xe s
section
variable {X:Cx} {pos:Pos}
def q66 (i:Nat):TG:=λ v σ H Q=>Q (σ.set i (some v)) H
theorem qh {i:Nat} {x:Str} (hN:X.N.Nodup) (hi:X.N[i]? =some x) (hx:Loc X.env.scope x) (hf:X.fn x=true\/ X.env.scope.names.lookup x=some .local:=by first | exact .inl rfl | exact .inr rfl | assumption):PG X (.Name x pos) (q66 i):=by
 intro pins s σ H v u Q I r h;exact wpAny_assign_Name (qb2 I hN hi hx r (λ s' I'=>⟨_,H,I',h⟩) hf)
def gNil:TGs:=λ vs σ H Q=>vs=[]/\Q σ H
def qwe (t:TG) (u:TGs):TGs:=λ vs σ H Q=>∃ v r,vs=v::r/\t v σ H λ σ' H'=>u r σ' H' Q
theorem q33:PGs X [] gNil:=by
 intro pins s σ H vs us Q I r h;obtain ⟨e,h⟩:=h;subst e;cases r
 exact assignInOrder_nil ⟨σ,H,I,h⟩
theorem q13 {e:Expr} {es:List Expr} {t:TG} {u:TGs} (h1:PG X e t) (h2:PGs X es u)
  (hs:(assignEach (e::es) X.env).map (·.2)=assign e X.env::(assignEach es X.env).map (·.2):=by rfl):PGs X (e::es) (qwe t u):=by
 intro pins s σ H vs us Q I r h;obtain ⟨v,vr,e1,h⟩:=h;subst e1;cases r with
 | cons r rr=>
  rw [hs];refine assignInOrder_cons (thn (h1 pins s σ H _ _ _ I r h) λ _ s1 J=> ?_);obtain ⟨σ1,H1,I1,q1⟩:=J;exact h2 pins s1 σ1 H1 _ _ Q I1 rr q1
def gTup (K:PySem.W.Frag) (n:Nat) (t:TGs):TG:=λ v σ H Q=>∃ a xs,v= .ref a/\SqT K H a xs/\xs.length=n/\t xs σ H Q
theorem q51 {es:List Expr} {k:Nat} {t:TGs} {n:Nat} (hc:X.calm=true) (h:PGs X es t)
  (hn:(assignEach es X.env).length=n:=by rfl) (J:(assignEach es X.env).findIdx? (·.1)=none:=by rfl):PG X (.Tuple es k pos) (gTup X.K n t):=by
 intro pins s σ H v u Q I r hw;obtain ⟨a,xs,e1,hq,hl,hw⟩:=hw;subst e1;cases r
 obtain ⟨its,rv,ht,hz⟩:=I.tuple hq;refine assign_Tuple_tuple (I.ok.hd hc) ht (by simp [hn,<- hl,rv.length]) J λ h' hx=> ?_;have I1:Inv X pins σ H {s with heap:=h'}:=I.kept (t':=s.toks) λ b o e=>hx b o (z3i (z3h e)) e;exact h pins _ σ H xs _ Q I1 (by simpa using rv) hw
def gSub (to ti:TE) (t:TSet):TG:=λ v σ H Q=>to σ H λ o H1=>ti σ H1 λ i H2=>t o i v H2 λ H3=>Q σ H3
theorem qlt {o i:Expr} {to ti:TE} {t:TSet} (ho:PE X o to) (hi:PE X i ti) (hs:PSet X t)
  (ha:∀ v,assign (.Subscript o i pos) X.env v=(do
   let ov <- holding [v] (eval o X.env)
   let L <- holding [v,ov] (eval i X.env)
   standAt pos
   holding [v,ov,L] (setItem ov L v)
   release [v,ov,L] []):=by intro _;rfl):PG X (.Subscript o i pos) (gSub to ti t):=by
 intro pins s σ H v u Q I r h;rw [ha];refine z3w (z38 (thn (ho pins s σ H _ I h) λ ov s1 J=> ?_));obtain ⟨x,H1,I1,r1,q1⟩:=J;refine z3w (z38 (thn (hi pins s1 σ H1 _ I1 q1) λ L s2 J=> ?_));obtain ⟨y,H2,I2,r2,q2⟩:=J;refine z3w (wpAny_standAt (z3w (z38 (thn (hs pins s2 σ H2 x y v ov L u _ I2 r1 r2 r q2) λ _ s3 J=> ?_))));obtain ⟨H3,I3,q3⟩:=J;exact wpAny_release ⟨σ,H3,I3,q3⟩
def tAsg (te:TE) (g:TG):TS:=λ D σ H=>te σ H λ x H1=>g x σ H1 D.nx
theorem qlu {tg e:Expr} {te:TE} {g:TG} (he:PE X e te) (hg:PG X tg g) (hs:swapsWithSole [tg] e pos.line X.env=pure false:=by rfl) (hw:swappedStores [tg] e X.env=pure none:=by rfl)
  (h1:(assignEach [tg] X.env).map (·.2)=[assign tg X.env]:=by rfl):PS X (.Assign [tg] e pos) (tAsg te g):=by
 intro pins s σ H D I h;refine wpAny_Assign_stores (thn (he pins s σ H _ I h) λ v s1 J=> ?_) hs hw;obtain ⟨x,H1,I1,r1,q1⟩:=J;rw [h1];exact thn (hg pins s1 σ H1 x v _ I1 r1 q1) λ _ s2 q=>q
theorem qr {i:Nat} {x:Str} {e:Expr} {te:TE} {pos':Pos} (hN:X.N.Nodup) (hi:X.N[i]? =some x) (hx:Loc X.env.scope x) (he:PE X e te) (hs:swapsWith e (some (.Name x pos')) pos.line X.env=pure false:=by rfl) (hf:X.fn x=true\/ X.env.scope.names.lookup x=some .local:=by first | exact .inl rfl | exact .inr rfl | assumption):
  PS X (.Assign [.Name x pos'] e pos) (tAsg te (q66 i)):=by
 intro pins s σ H D I h;refine wpAny_Assign_Name (thn (he pins s σ H _ I h) λ v s1 J=> ?_) hs;obtain ⟨y,H1,I1,r1,q1⟩:=J;exact qb2 I1 hN hi hx r1 (λ s2 I2=>⟨_,H1,I2,q1⟩) hf
end
section
variable {X:Cx} {pos:Pos}
def qto (c:TT) (tb:TS):TS:=λ D σ H=>∃ W:Nat ->St ->Hp ->Prop,(∃ m,W m σ H)/\∀ m σ H,W m σ H ->
 c σ H λ b H1=>if b=true then ∃ N:St ->Hp ->Prop,(∀ σ' H',N σ' H' ->∃ m',m' < m/\W m' σ' H')/\tb {D with nx:=N,ct:=N,bk:=D.nx} σ H1 else D.nx σ H1
theorem qoj {c:Expr} {body:List Stmt} {tc:TT} {tb:TS} (hp:PassesOwn (model X.prog X.w) X.A X.env X.xe) (hc:PT X c tc) (hb:PSs X body tb):PS X (.While c body [] pos) (qto tc tb):=by
 intro pins s σ H D I h;obtain ⟨W,⟨m0,w0⟩,turn⟩:=h;refine wpAny_While (codeAny_whileLoop (λ n s'=>∃ σ' H',Inv X pins σ' H' s'/\W n σ' H') ?_ m0 ⟨σ,H,I,w0⟩);rintro n s1 ⟨σ1,H1,I1,w1⟩;refine z2m hp (thn (hc pins s1 σ1 H1 _ I1 (turn n σ1 H1 w1)) λ b s2 Z=> ?_);obtain ⟨H2,I2,q2⟩:=Z;cases b with
 | true=>
  obtain ⟨N,hN,q2⟩:=q2;rw [if_pos rfl];refine z2m hp (thn (hb pins s2 σ1 H2 _ I2 q2) λ f s3 q3=> ?_);cases f with
  | next=>
   obtain ⟨σ3,H3,I3,O⟩:=q3;obtain ⟨L,J,Y⟩:=hN σ3 H3 O;exact ⟨L,J,σ3,H3,I3,Y⟩
  | cont=>
   obtain ⟨σ3,H3,I3,O⟩:=q3;obtain ⟨L,J,Y⟩:=hN σ3 H3 O;exact ⟨L,J,σ3,H3,I3,Y⟩
  | brk=>exact q3
  | ret v=>exact q3
 | false=>
  rw [if_neg z1c];exact wpAny_execs_nil ⟨σ1,H2,I2,q2⟩
end
structure It where
 go:Nat ->Hp ->Prop
 yld:Nat ->Hp ->V ->Hp ->Prop
 stop:Nat ->Hp ->Prop
def FpOk (X:Cx) (pins:List (Addr×Obj)) (H:Hp) (b:Addr):Prop:=
 H b=none/\b≠X.env.locals/\b∉X.fs/\(b∈X.ex\/ X.s₀.heap.objs.size<=b)/\(∀ x c,X.env.cells.lookup x=some c ->c≠b)/\∀ p∈X.pn++pins,p.1≠b
theorem Inv.fpOk {X:Cx} {pins:List (Addr×Obj)} {σ:St} {H H':Hp} {s:Shared} {b:Addr} (I:Inv X pins σ H s) (J:s.heap.objs.size<=b) (hn:H' b=none):FpOk X pins H' b:=by
 refine ⟨hn,z3k (z1i I.lt J),I.nofs J,.inr (z3j I.sz J),λ x c e z=> ?_,λ p hp z=> ?_⟩
 ·obtain ⟨v,q⟩:=I.cell x c e;exact absurd (z1i q.lt (by rw [z];exact J)) (z39 _)
 ·exact absurd (z1i (z3h (I.pin p hp).1) (by rw [z];exact J)) (z39 _)
structure Turn (P:Program) (w:World) (K:PySem.W.Frag) (tg:Expr) (J:It) (fp:List Addr) (it:Addr) (tn:Nat ->Heap ->Prop):Prop where
 mem:it∈fp
 obj:∀ i h,tn i h ->∀ b∈fp,∃ o,h.get? b=some o/\∀ v,o.data≠ .cell v
 keep:∀ i h h',tn i h ->(∀ b∈fp,∀ o,h.get? b=some o ->h'.get? b=some o) ->tn i h'
 item:∀ (X:Cx),X.prog=P ->X.w=w ->X.K=K ->X.calm=true ->∀ (i:Nat) (pins:List (Addr×Obj)) (s:Shared) (σ:St) (H:Hp) (E:Value ->Shared ->Prop),Inv X pins σ H s ->(∀ b∈fp,FpOk X pins H b) ->tn i s.heap ->J.go i H ->
  wpAny (model P w) X.A (pyNext (.ref it)) (λ r s1=>∃ u,r=some u/\
   wpAny (model P w) X.A (letOwnedTupleGo tg (.ref it) u) (λ _ s2=>∃ x H',Inv X pins σ H' s2/\RelV x u/\J.yld i H x H'/\tn (i+1) s2.heap/\∀ b∈fp,H' b=none) E s1) E s
 done:∀ (X:Cx),X.prog=P ->X.w=w ->X.K=K ->X.calm=true ->∀ (i:Nat) (pins:List (Addr×Obj)) (s:Shared) (σ:St) (H:Hp) (E:Value ->Shared ->Prop),Inv X pins σ H s ->(∀ b∈fp,FpOk X pins H b) ->tn i s.heap ->J.stop i H ->
  wpAny (model P w) X.A (pyNext (.ref it)) (λ r s1=>r=none/\Inv X pins σ H s1) E s
 self:∀ (A:Around) (i:Nat) (s:Shared) (Q:Value ->Shared ->Prop) (E:Value ->Shared ->Prop),tn i s.heap ->Q (.ref it) s ->wpAny (model P w) A (pyIter (.ref it)) Q E s
abbrev TI:=St ->Hp ->(It ->Hp ->Prop) ->Prop
def PIE (X:Cx) (pins:List (Addr×Obj)) (σ:St) (tg:Expr) (R:It ->Hp ->Prop) (itv:Value) (s2:Shared):Prop:=
 ∃ (it:Addr) (fp:List Addr) (tn:Nat ->Heap ->Prop) (J:It) (H':Hp),itv= .ref it/\Inv X pins σ H' s2/\Turn X.prog X.w X.K tg J fp it tn/\tn 0 s2.heap/\(∀ b∈fp,FpOk X pins H' b)/\R J H'
def PI (X:Cx) (tg iter:Expr) (wi:TI):Prop:=
 ∀ (pins:List (Addr×Obj)) (s:Shared) (σ:St) (H:Hp) (R:It ->Hp ->Prop),Inv X pins σ H s ->wi σ H R ->
  wpAny (model X.prog X.w) X.A (eval iter X.env) (λ v s1=>wpAny (model X.prog X.w) X.A (pyIter v) (PIE X pins σ tg R) X.xe s1) X.xe s
theorem qk3 {M:Model} {A:Around} {E:Value ->Shared ->Prop} {s:Shared} {tg:Expr} {it:Addr} {u:Value} {o:Obj} {n:String} {vs:Array Value} {Q:Unit ->Shared ->Prop} (ho:s.heap.get? it=some o) (hc:o.cls= .type n) (hd:o.data= .fields vs)
    (hn: ["enumerate","zip","dict_itemiterator","dict_reverseitemiterator","odict_iterator","itertools.zip_longest","itertools.pairwise"].contains n=false) (J:Q () s):wpAny M A (letOwnedTupleGo tg (.ref it) u) Q E s:=by
  unfold letOwnedTupleGo;cases tg <;> first
    | exact z3v J
    | (cases u <;> first
        | exact z3v J
        | (refine z3w (wpAny_load ho ?_)
           rw [hc,hd];show wpAny M A (if (["enumerate","zip","dict_itemiterator","dict_reverseitemiterator","odict_iterator","itertools.zip_longest","itertools.pairwise"].contains n&&vs[0]? ==some (rawInt _))=true then _ else _) Q E s;rw [if_neg (by intro h;rw [hn,z30] at h;cases h)];exact z3v J))
def Itl (K:PySem.W.Frag) (a:Addr):It:=
 ⟨λ i H=>∃ xs x,SqL K H a xs/\xs[i]? =some x,λ i H x H'=>H'=H/\∀ xs,SqL K H a xs ->xs[i]? =some x,λ i H=>∃ xs,SqL K H a xs/\xs.length<=i⟩
def Itt (K:PySem.W.Frag) (a:Addr):It:=
 ⟨λ i H=>∃ xs x,SqT K H a xs/\xs[i]? =some x,λ i H x H'=>H'=H/\∀ xs,SqT K H a xs ->xs[i]? =some x,λ i H=>∃ xs,SqT K H a xs/\xs.length<=i⟩
def Itr (lo:Int) (n:Nat):It:=⟨λ i _=>i < n,λ i H x H'=>H'=H/\x= .int (lo+i),λ i _=>n<=i⟩
theorem qlv {P:Program} {w:World} {K:PySem.W.Frag} {tg:Expr} (a it:Addr):Turn P w K tg (Itl K a) [it] it (λ i h=>h.IsListIter it a i) where
 mem:=by simp
 obj:=λ i h st b J=>by
  have e:b=it:=by simpa using J
  subst e;obtain ⟨o,e,c,d⟩:=st;exact ⟨o,e,λ v z=>by rw [d] at z;cases z⟩
 keep:=λ i h h' st k=>st.at λ o e=>k it (by simp) o e
 item:=by
  intro X hP hw Z hc i pins s σ H E I O st hg;subst hP hw Z;obtain ⟨xs,x,hq,hx⟩:=hg;obtain ⟨its,rv,p,hz⟩:=I.list hq;obtain ⟨u,hu,ru⟩:=rv.get hx;obtain ⟨Y,f1,f2,f3,f4,f5⟩:=O it (by simp);refine wpAny_pyNext_list_item st p.isList (x:=u) (by simpa using hu) λ h' L sb=> ?_;have I1:Inv X pins σ H {s with heap:=h'}:=I.turned (t':=s.toks) (λ b o J e=>(sb.2 b J).trans e) Y f1 f3 f4 f5;obtain ⟨o,e,c,d⟩:=id L;exact ⟨u,rfl,qk3 (s:={s with heap:=h'}) e c d (by decide) ⟨x,H,I1,ru,⟨rfl,λ ys hy=>by rw [I.qoi hy hq];exact hx⟩,L,λ b J=>(O b J).1⟩⟩
 done:=by
  intro X hP hw Z hc i pins s σ H E I O st hg;subst hP hw Z;obtain ⟨xs,hq,hx⟩:=hg;obtain ⟨its,rv,p,hz⟩:=I.list hq;obtain ⟨Y,f1,f2,f3,f4,f5⟩:=O it (by simp);have hl:=rv.length;exact wpAny_pyNext_list_end (I.ok.hd hc) st p.isList (by simp;omega) λ h' eb=>⟨rfl,I.turned (t':=s.toks) (λ b o J e=>eb b o J e) Y f1 f3 f4 f5⟩
 self:=λ _ _ _ _ _ st h=>wpAny_pyIter_listiter st h
theorem qk4 {P:Program} {w:World} {K:PySem.W.Frag} {tg:Expr} (a it:Addr):Turn P w K tg (Itt K a) [it] it (λ i h=>h.IsTupleIter it a i) where
 mem:=by simp
 obj:=λ i h st b J=>by
  have e:b=it:=by simpa using J
  subst e;obtain ⟨o,e,c,d⟩:=st;exact ⟨o,e,λ v z=>by rw [d] at z;cases z⟩
 keep:=λ i h h' st k=>st.at λ o e=>k it (by simp) o e
 item:=by
  intro X hP hw Z hc i pins s σ H E I O st hg;subst hP hw Z;obtain ⟨xs,x,hq,hx⟩:=hg;obtain ⟨its,rv,p,hz⟩:=I.tuple hq;obtain ⟨u,hu,ru⟩:=rv.get hx;obtain ⟨Y,f1,f2,f3,f4,f5⟩:=O it (by simp);refine wpAny_pyNext_tuple_item st (show s.heap.IsTuple a its.toArray from p) (x:=u) (by simpa using hu) λ h' L sb=> ?_;have I1:Inv X pins σ H {s with heap:=h'}:=I.turned (t':=s.toks) (λ b o J e=>(sb.2 b J).trans e) Y f1 f3 f4 f5;obtain ⟨o,e,c,d⟩:=id L;exact ⟨u,rfl,qk3 (s:={s with heap:=h'}) e c d (by decide) ⟨x,H,I1,ru,⟨rfl,λ ys hy=>by rw [I.q8p hy hq];exact hx⟩,L,λ b J=>(O b J).1⟩⟩
 done:=by
  intro X hP hw Z hc i pins s σ H E I O st hg;subst hP hw Z;obtain ⟨xs,hq,hx⟩:=hg;obtain ⟨its,rv,p,hz⟩:=I.tuple hq;obtain ⟨Y,f1,f2,f3,f4,f5⟩:=O it (by simp);have hl:=rv.length;exact wpAny_pyNext_tuple_end (I.ok.hd hc) st (show s.heap.IsTuple a its.toArray from p) (by simp;omega) λ h' eb=>⟨rfl,I.turned (t':=s.toks) (λ b o J e=>eb b o J e) Y f1 f3 f4 f5⟩
 self:=λ _ _ _ _ _ st h=>wpAny_pyIter_tupleiter st h
theorem qk5 {P:Program} {w:World} {K:PySem.W.Frag} {tg:Expr} (it:Addr) (lo:Int) (n:Nat):Turn P w K tg (Itr lo n) [it] it (λ i h=>IsRangeIter h it (lo+(i:Nat)*1) ((n:Int) - (i:Nat)) 1) where
 mem:=by simp
 obj:=λ i h st b J=>by
  have e:b=it:=by simpa using J
  subst e;exact ⟨_,st,λ v z=>by
   have z':Data.fields _=Data.cell v:=z;cases z'⟩
 keep:=λ i h h' st k=>k it (by simp) _ st
 item:=by
  intro X hP hw Z hc i pins s σ H E I O st hg;subst hP hw Z;obtain ⟨Y,f1,f2,f3,f4,f5⟩:=O it (by simp);have W:=Walks.range (prog:=X.prog) (w:=X.w) (I.ok.hd hc) it lo 1 n;refine W.item i s _ _ hg st λ v h' tk hv L kk=> ?_;obtain ⟨t,rfl⟩:=hv;have I1:Inv X pins σ H {s with heap:=h',toks:=tk}:=I.turned (λ b o J e=>kk b o (by simpa using J) e) Y f1 f3 f4 f5;refine ⟨_,rfl,qk3 (s:={s with heap:=h',toks:=tk}) (n:="range_iterator") L rfl rfl (by decide) ⟨.int (lo+i),H,I1,⟨t,?_⟩,⟨rfl,rfl⟩,L,λ b J=>(O b J).1⟩⟩;rw [Int.mul_one]
 done:=by
  intro X hP hw Z hc i pins s σ H E I O st hg;subst hP hw Z;obtain ⟨Y,f1,f2,f3,f4,f5⟩:=O it (by simp);exact wpAny_pyNext_range_end (I.ok.hd hc) st (by have:n<=i:=hg;omega) λ h' eb=>⟨rfl,I.turned (t':=s.toks) (λ b o J e=>eb b o J e) Y f1 f3 f4 f5⟩
 self:=λ _ _ _ _ _ st h=>wpAny_pyIter_rangeiter st h
section
variable {X:Cx} {tg:Expr}
def qqd (K:PySem.W.Frag) (tl:TE):TI:=λ σ H R=>tl σ H λ x H1=>∃ a,x= .ref a/\(∃ xs,SqL K H1 a xs)/\R (Itl K a) H1
def iTup (K:PySem.W.Frag) (tl:TE):TI:=λ σ H R=>tl σ H λ x H1=>∃ a,x= .ref a/\(∃ xs,SqT K H1 a xs)/\R (Itt K a) H1
theorem qr7 {l:Expr} {tl:TE} (hl:PE X l tl):PI X tg l (qqd X.K tl):=by
 intro pins s σ H R I h;refine thn (hl pins s σ H _ I h) λ v s1 J=> ?_;obtain ⟨x,H1,I1,r1,q1⟩:=J;obtain ⟨a,e,⟨xs,hq⟩,q⟩:=q1;subst e;cases r1
 obtain ⟨its,rv,p,hz⟩:=I1.list hq;refine z1v p.isList ?_;refine ⟨s1.heap.objs.size,[s1.heap.objs.size],_,_,H1,zr,I1.kept (t':=s1.toks) λ b o e=>z0k _ e,qlv a _,⟨_,z16 _ rfl,zr,zr⟩,λ b hb=> ?_,q⟩;have e:b=s1.heap.objs.size:=by simpa using hb
 subst e;exact I1.fpOk (z3q _) (I1.hok.fresh (z3q _))
theorem qtp {l:Expr} {tl:TE} (hl:PE X l tl):PI X tg l (iTup X.K tl):=by
 intro pins s σ H R I h;refine thn (hl pins s σ H _ I h) λ v s1 J=> ?_;obtain ⟨x,H1,I1,r1,q1⟩:=J;obtain ⟨a,e,⟨xs,hq⟩,q⟩:=q1;subst e;cases r1
 obtain ⟨its,rv,p,hz⟩:=I1.tuple hq;refine wpAny_pyIter_tuple (show s1.heap.IsTuple a its.toArray from p) ?_;refine ⟨s1.heap.objs.size,[s1.heap.objs.size],_,_,H1,zr,I1.kept (t':=s1.toks) λ b o e=>z0k _ e,qk4 a _,⟨_,z16 _ rfl,zr,zr⟩,λ b hb=> ?_,q⟩;have e:b=s1.heap.objs.size:=by simpa using hb
 subst e;exact I1.fpOk (z3q _) (I1.hok.fresh (z3q _))
theorem qok {pins:List (Addr×Obj)} {σ:St} {H:Hp} {s:Shared} {R:It ->Hp ->Prop} {E:Value ->Shared ->Prop} {lo hi:Int} {t u v:Tok} {tk:Nat} (I:Inv X pins σ H s) (h1: -(2^62)<=lo) (h2:lo < 2^62) (h3: -(2^62)<=hi) (h4:hi < 2^62)
  (q:R (Itr lo (hi - lo).toNat) H):wpAny (model X.prog X.w) X.A (pyIter (.ref s.heap.objs.size)) (PIE X pins σ tg R) E {s with heap:=s.heap.push {cls:= .type "range",data:= .fields #[.int lo t,.int hi u,.int 1 v]},toks:=tk}:=by
 refine wpAny_pyIter_range (IsRange.new ..) (small_one h1 h2 h3 h4) ?_;have I1:Inv X pins σ H {s with heap:=s.heap.push {cls:= .type "range",data:= .fields #[.int lo t,.int hi u,.int 1 v]},toks:=tk}:=I.kept λ b o e=>z0k _ e;refine ⟨(s.heap.push {cls:= .type "range",data:= .fields #[.int lo t,.int hi u,.int 1 v]}).objs.size,[(s.heap.push {cls:= .type "range",data:= .fields #[.int lo t,.int hi u,.int 1 v]}).objs.size],_,_,H,zr,
  I1.kept (t':=tk) λ b o e=>z0k _ e,qk5 _ lo (hi - lo).toNat,?_,λ b hb=> ?_,q⟩
 ·have e1:lo+((0:Nat):Int)*1=lo:=by simp
  have e2:(((hi - lo).toNat:Nat):Int) - ((0:Nat):Int)=Builtin.Range.rangeSize lo hi 1:=by rw [rangeSize_one];split <;> omega
  show IsRangeIter _ _ (lo+((0:Nat):Int)*1) ((((hi - lo).toNat:Nat):Int) - ((0:Nat):Int)) 1;rw [e1,e2];exact z16 _ rfl
 ·have e:b=(s.heap.push {cls:= .type "range",data:= .fields #[.int lo t,.int hi u,.int 1 v]}).objs.size:=by simpa using hb
  subst e;exact I1.fpOk (z3q _) (I1.hok.fresh (z3q _))
def qwf (ta:TA):TI:=λ σ H R=>ta σ H λ vs H1=>∃ j:Int,vs=[.int j]/\ -(2^62)<=j/\j < 2^62/\R (Itr 0 j.toNat) H1
theorem q2l {a:Expr} {ta:TA} {p pos:Pos} (hg:Gl X "range") (hm:X.mg "range"=none) (ha:PA X [a] ta) (hs:starEach [a] X.env=[(false,eval a X.env)]:=by rfl):PI X tg (.Call (.Name "range" p) [a] [] pos) (qwf ta):=by
 intro pins s σ H R I h;refine Call_ (q5p I hg hm boot_range (z02 (thn (ha pos pins s σ H _ I h) λ us s1 J=> ?_) hs rfl));obtain ⟨vs,H1,I1,r1,q1⟩:=J;obtain ⟨j,e,q1,q2,q⟩:=q1;subst e;cases r1 with
 | cons r rr=>
  cases rr
  obtain ⟨t,rfl⟩:=r;exact call_range_1 (qok I1 (by omega) (by omega) q1 q2 (by simpa using q))
def tFor (wi:TI) (g:TG) (tb:TS):TS:=λ D σ H=>wi σ H λ J H1=>∃ W:Nat ->Nat ->St ->Hp ->Prop,(∃ m,W 0 m σ H1)/\∀ i m σ H,W i m σ H ->
 (J.stop i H/\D.nx σ H)\/ (J.go i H/\∃ N:St ->Hp ->Prop,(∀ σ' H',N σ' H' ->∃ m',m' < m/\W (i+1) m' σ' H')/\∀ x H',J.yld i H x H' ->g x σ H' λ σ2 H2=>tb {D with nx:=N,ct:=N,bk:=D.nx} σ2 H2)
def q8q (fp:List Addr) (h:Heap):List (Addr×Obj):=fp.filterMap λ b=>(h.get? b).map λ o=>(b,o)
theorem q46 {fp:List Addr} {h:Heap} {b:Addr} {o:Obj} (hb:b∈fp) (e:h.get? b=some o):(b,o)∈q8q fp h:=List.mem_filterMap.mpr ⟨b,hb,by rw [e];rfl⟩
theorem qlw {fp:List Addr} {h:Heap} {p:Addr×Obj} (hp:p∈q8q fp h):p.1∈fp/\h.get? p.1=some p.2:=by
 obtain ⟨b,hb,e⟩:=List.mem_filterMap.mp hp;cases q:h.get? b with
 | none=>rw [q] at e;cases e
 | some o=>
  rw [q] at e;have e':(b,o)=p:=Option.some.inj e;subst e';exact ⟨hb,q⟩
theorem Inv.pinned {pins:List (Addr×Obj)} {σ:St} {H:Hp} {s:Shared} {fp:List Addr} (I:Inv X pins σ H s) (hf:∀ b∈fp,FpOk X pins H b) (ho:∀ b∈fp,∃ o,s.heap.get? b=some o/\∀ v,o.data≠ .cell v):Inv X (pins++q8q fp s.heap) σ H s:=
 I.q9m λ p hp=>(z2i.mp hp).elim (λ z=>I.pin p (z0s _ z)) λ z=>by
  obtain ⟨J,e⟩:=qlw z;obtain ⟨f0,f1,f2,_⟩:=hf p.1 J;obtain ⟨o,e',d⟩:=ho p.1 J;rw [e] at e';cases e';exact ⟨e,f0,f1,f2,d⟩
theorem Inv.unpinned {pins pl:List (Addr×Obj)} {σ:St} {H:Hp} {s:Shared} (I:Inv X (pins++pl) σ H s):Inv X pins σ H s:=I.q9m λ p hp=>I.pin p (z0s _ (z11 _ hp))
theorem q1s {iter:Expr} {body:List Stmt} {wi:TI} {g:TG} {tb:TS} {pos:Pos} (hp:PassesOwn (model X.prog X.w) X.A X.env X.xe) (hc:X.calm=true) (hi:PI X tg iter wi) (hg:PG X tg g) (Z:PSs X body tb)
  (hs:∀ x,foldedSetIterable iter X.env x=pure x:=by intro _;rfl):PS X (.For tg iter body [] pos) (tFor wi g tb):=by
 intro pins s σ H D I h;refine wpAny_For (thn (hi pins s σ H _ I h) λ v s1 h1=>thn h1 λ itv s2 h2=> ?_) hs;obtain ⟨it,fp,tn,J,H2,e,I2,T,a8,f2,W,⟨m0,w0⟩,turn⟩:=h2;subst e;have a0:∀ {H':Hp},(∀ b∈fp,H' b=none) ->∀ b∈fp,FpOk X pins H' b:=λ hn b Z=>⟨hn b Z,(f2 b Z).2⟩;refine codeAny_forLoop_any (λ n s'=>∃ i σ' H',Inv X pins σ' H' s'/\tn i s'.heap/\(∀ b∈fp,H' b=none)/\W i n σ' H') ?_ m0 ⟨0,σ,H2,I2,a8,λ b Z=>(f2 b Z).1,w0⟩;rintro n s3 ⟨i,σ3,H3,I3,a5,a3,w3⟩;rcases turn i n σ3 H3 w3 with ⟨stop,qn⟩ | ⟨go,N,hN,step⟩
 ·refine z2m hp (thn (T.done X rfl rfl rfl hc i pins s3 σ3 H3 X.xe I3 (a0 a3) a5 stop) λ r s4 L=> ?_);obtain ⟨hr,I4⟩:=L;subst hr;exact wpAny_execs_nil ⟨σ3,H3,I4,qn⟩
 ·refine z2m hp (thn (T.item X rfl rfl rfl hc i pins s3 σ3 H3 X.xe I3 (a0 a3) a5 go) λ r s4 L=> ?_);obtain ⟨u,hr,h4⟩:=L;subst hr;refine z2m hp (thn h4 λ _ s5 L=> ?_);obtain ⟨x,H5,I5,r5,y5,a2,a7⟩:=L;have a6:=I5.pinned (a0 a7) (T.obj _ _ a2);refine z2m hp (thn (hg _ s5 σ3 H5 x u _ a6 r5 (step x H5 y5)) λ _ s6 L=> ?_);obtain ⟨σ6,H6,I6,q6⟩:=L;refine z2m hp (thn (Z _ s6 σ6 H6 _ I6 q6) λ f s7 q7=> ?_);have again:∀ {σ7:St} {O:Hp},Inv X (pins++q8q fp s5.heap) σ7 O s7 ->N σ7 O ->∃ m,m < n/\∃ i σ' H',Inv X pins σ' H' s7/\tn i s7.heap/\(∀ b∈fp,H' b=none)/\W i m σ' H':=λ {σ7 O} Y n7=>by
   obtain ⟨m',hm,w7⟩:=hN σ7 O n7;refine ⟨m',hm,i+1,σ7,O,Y.unpinned,T.keep _ _ _ a2 λ b Z o e=>(Y.pin (b,o) (z0s _ (z0s _ (q46 Z e)))).1,λ b Z=> ?_,w7⟩;obtain ⟨o,e,d⟩:=T.obj _ _ a2 b Z;exact (Y.pin (b,o) (z0s _ (z0s _ (q46 Z e)))).2.1
  cases f with
  | next=>obtain ⟨σ7,O,Y,n7⟩:=q7;exact again Y n7
  | cont=>obtain ⟨σ7,O,Y,n7⟩:=q7;exact again Y n7
  | brk=>obtain ⟨σ7,O,Y,q7⟩:=q7;exact ⟨σ7,O,Y.unpinned,q7⟩
  | ret v=>obtain ⟨x7,σ7,O,Y,r7,q7⟩:=q7;exact ⟨x7,σ7,O,Y.unpinned,r7,q7⟩
end
theorem q29 {K:PySem.W.Frag} {a:Addr} {xs:List V} {g:TG} {tb:TS} {D:Ends} {σ:St} {H:Hp} (J:Nat ->St ->Hp ->Prop) (h0:J 0 σ H) (hl:∀ i σ H,i<=xs.length ->J i σ H ->SqL K H a xs)
  (hs:∀ i x σ H,xs[i]? =some x ->J i σ H ->g x σ H λ σ2 H2=>tb {D with nx:=J (i+1),ct:=J (i+1),bk:=D.nx} σ2 H2) (hd:∀ σ H,J xs.length σ H ->D.nx σ H):
  ∃ W:Nat ->Nat ->St ->Hp ->Prop,(∃ m,W 0 m σ H)/\∀ i m σ H,W i m σ H ->
   ((Itl K a).stop i H/\D.nx σ H)\/ ((Itl K a).go i H/\∃ N:St ->Hp ->Prop,(∀ σ' H',N σ' H' ->∃ O,O < m/\W (i+1) O σ' H')/\∀ x H',(Itl K a).yld i H x H' ->g x σ H' λ σ2 H2=>tb {D with nx:=N,ct:=N,bk:=D.nx} σ2 H2):=by
 refine ⟨λ i m σ H=>m=xs.length - i/\i<=xs.length/\J i σ H,⟨xs.length,by simp,z3t _,h0⟩,?_⟩;rintro i m σ H ⟨rfl,hi,p⟩;have q:=hl i σ H hi p;by_cases L:i < xs.length
 ·refine .inr ⟨⟨xs,xs[i],q,by simp [L]⟩,J (i+1),λ σ' H' p'=>⟨xs.length - (i+1),by omega,zr,L,p'⟩,λ x H' y=> ?_⟩;obtain ⟨e,y⟩:=y;subst e;exact hs i x σ _ (y xs q) p
 ·have e:i=xs.length:=by omega
  subst e;exact .inl ⟨⟨xs,q,z3q _⟩,hd σ H p⟩
theorem q42 {lo:Int} {n:Nat} {g:TG} {tb:TS} {D:Ends} {σ:St} {H:Hp} (J:Nat ->St ->Hp ->Prop) (h0:J 0 σ H)
  (hs:∀ i σ H,i < n ->J i σ H ->g (.int (lo+i)) σ H λ σ2 H2=>tb {D with nx:=J (i+1),ct:=J (i+1),bk:=D.nx} σ2 H2) (hd:∀ σ H,J n σ H ->D.nx σ H):
  ∃ W:Nat ->Nat ->St ->Hp ->Prop,(∃ m,W 0 m σ H)/\∀ i m σ H,W i m σ H ->
   ((Itr lo n).stop i H/\D.nx σ H)\/ ((Itr lo n).go i H/\∃ N:St ->Hp ->Prop,(∀ σ' H',N σ' H' ->∃ O,O < m/\W (i+1) O σ' H')/\∀ x H',(Itr lo n).yld i H x H' ->g x σ H' λ σ2 H2=>tb {D with nx:=N,ct:=N,bk:=D.nx} σ2 H2):=by
 refine ⟨λ i m σ H=>m=n - i/\i<=n/\J i σ H,⟨n,by simp,z3t _,h0⟩,?_⟩;rintro i m σ H ⟨rfl,hi,p⟩;by_cases L:i < n
 ·refine .inr ⟨L,J (i+1),λ σ' H' p'=>⟨n - (i+1),by omega,zr,L,p'⟩,λ x H' y=> ?_⟩;obtain ⟨e,y⟩:=y;subst e y;exact hs i σ _ L p
 ·have e:i=n:=by omega
  subst e;exact .inl ⟨z3q _,hd σ H p⟩
abbrev R2:=V ->V ->Hp ->VK ->Prop
def OpR (X:Cx) (f:Value ->Value ->Sem Value) (r:R2):Prop:=
 ∀ (pins:List (Addr×Obj)) (s:Shared) (σ:St) (H:Hp) (x y:V) (v u:Value) (Q:VK),Inv X pins σ H s ->RelV x v ->RelV y u ->r x y H Q ->
  wpAny (model X.prog X.w) X.A (f v u) (EP X pins σ Q) X.xe s
def UnR (X:Cx) (f:Value ->Sem Value) (r:V ->Hp ->VK ->Prop):Prop:=
 ∀ (pins:List (Addr×Obj)) (s:Shared) (σ:St) (H:Hp) (x:V) (v:Value) (Q:VK),Inv X pins σ H s ->RelV x v ->r x H Q ->
  wpAny (model X.prog X.w) X.A (f v) (EP X pins σ Q) X.xe s
def q23 (X:Cx) (f:Value) (r:List V ->Hp ->VK ->Prop):Prop:=
 ∀ (pins:List (Addr×Obj)) (s:Shared) (σ:St) (H:Hp) (xs:List V) (us:List Value) (Q:VK),Inv X pins σ H s ->Vals xs us ->r xs H Q ->
  wpAny (model X.prog X.w) X.A (call f us) (EP X pins σ Q) X.xe s
def tOp (r:R2) (ta tb:TE):TE:=λ σ H Q=>ta σ H λ x H1=>tb σ H1 λ y H2=>r x y H2 Q
def tUn (r:V ->Hp ->VK ->Prop) (ta:TE):TE:=λ σ H Q=>ta σ H λ x H1=>r x H1 Q
def rI (C:Int ->Int ->Prop) (g:Int ->Int ->V):R2:=λ x y H Q=>∃ i j,x= .int i/\y= .int j/\C i j/\Q (g i j) H
def rI0 (g:Int ->Int ->V):R2:=λ x y H Q=>∃ i j,x= .int i/\y= .int j/\Q (g i j) H
def rU (g:Int ->V):V ->Hp ->VK ->Prop:=λ x H Q=>∃ i,x= .int i/\Q (g i) H
section
variable {X:Cx} {a b c:Expr} {ta tb tc:TE} {pos:Pos}
theorem binT (ha:PE X a ta) (hb:PE X b tb) {pins:List (Addr×Obj)} {s:Shared} {σ:St} {H:Hp} {R:V ->V ->Hp ->Prop} (I:Inv X pins σ H s)
  (h:ta σ H λ x H1=>tb σ H1 λ y H2=>R x y H2) {Q:Value ->Shared ->Prop} {f:Value ->Value ->Sem Value}
  (hf:∀ v u L x y H2,Inv X pins σ H2 L ->RelV x v ->RelV y u ->R x y H2 ->wpAny (model X.prog X.w) X.A (f v u) Q X.xe L):
  wpAny (model X.prog X.w) X.A (eval a X.env) (λ v s₁=>wpAny (model X.prog X.w) X.A (eval b X.env) (λ u s₂=>wpAny (model X.prog X.w) X.A (f v u) Q X.xe s₂) X.xe s₁) X.xe s:=by
 refine thn (ha pins s σ H _ I h) λ v s1 J=> ?_;obtain ⟨x,H1,I1,r1,q1⟩:=J;refine thn (hb pins s1 σ H1 _ I1 q1) λ u L J=> ?_;obtain ⟨y,H2,I2,r2,q2⟩:=J;exact hf v u L x y H2 I2 r1 r2 q2
theorem qk {op:Operator} {r:R2} (ho:OpR X (binaryOp op) r) (ha:PE X a ta) (hb:PE X b tb):PE X (.BinOp a op b pos) (tOp r ta tb):=by
 intro pins s σ H Q I h;exact wpAny_BinOp (binT ha hb I h λ v u s2 x y H2 I2 rx ry q=>ho pins s2 σ H2 x y v u Q I2 rx ry q)
theorem qqe {op:UnaryOp} {r:V ->Hp ->VK ->Prop} (ho:UnR X (unaryOp op) r) (ha:PE X a ta):PE X (.UnaryOp op a pos) (tUn r ta):=by
 intro pins s σ H Q I h;exact UnaryOp_ (thn (ha pins s σ H _ I h) λ v s1 ⟨x,H1,I1,r1,q1⟩=>ho pins s1 σ H1 x v Q I1 r1 q1)
theorem opI {f:Value ->Value ->Sem Value} {C:Int ->Int ->Prop} {g:Int ->Int ->Int}
  (rule:∀ (i j:Int) (t u:Tok) (s:Shared) (Q:Value ->Shared ->Prop) (E:Value ->Shared ->Prop),C i j ->Q (.int (g i j) s.toks) {s with toks:=s.toks+1} ->wpAny (model X.prog X.w) X.A (f (.int i t) (.int j u)) Q E s):
  OpR X f (rI C λ i j=> .int (g i j)):=by
 intro pins s σ H x y v u Q I rx ry h;obtain ⟨i,j,rfl,rfl,hc,q⟩:=h;obtain ⟨t,rfl⟩:=rx;obtain ⟨t',rfl⟩:=ry;exact rule i j t t' s _ _ hc ⟨.int (g i j),H,I.tok _,⟨_,zr⟩,q⟩
theorem opI0 {f:Value ->Value ->Sem Value} {g:Int ->Int ->Int}
  (rule:∀ (i j:Int) (t u:Tok) (s:Shared) (Q:Value ->Shared ->Prop) (E:Value ->Shared ->Prop),Q (.int (g i j) s.toks) {s with toks:=s.toks+1} ->wpAny (model X.prog X.w) X.A (f (.int i t) (.int j u)) Q E s):
  OpR X f (rI0 λ i j=> .int (g i j)):=by
 intro pins s σ H x y v u Q I rx ry h;obtain ⟨i,j,rfl,rfl,q⟩:=h;obtain ⟨t,rfl⟩:=rx;obtain ⟨t',rfl⟩:=ry;exact rule i j t t' s _ _ ⟨.int (g i j),H,I.tok _,⟨_,zr⟩,q⟩
theorem opB0 {f:Value ->Value ->Sem Value} {g:Int ->Int ->Bool}
  (rule:∀ (i j:Int) (t u:Tok) (s:Shared) (Q:Value ->Shared ->Prop) (E:Value ->Shared ->Prop),Q (.bool (g i j)) s ->wpAny (model X.prog X.w) X.A (f (.int i t) (.int j u)) Q E s):
  OpR X f (rI0 λ i j=> .bl (g i j)):=by
 intro pins s σ H x y v u Q I rx ry h;obtain ⟨i,j,rfl,rfl,q⟩:=h;obtain ⟨t,rfl⟩:=rx;obtain ⟨t',rfl⟩:=ry;exact rule i j t t' s _ _ ⟨.bl (g i j),H,I,zr,q⟩
def CDiv (i j:Int):Prop:=0 < j/\j < 1073741824
def CPow (i j:Int):Prop:=0<=j/\j<=1000000/\i.natAbs < 2^64
def CMul (i j:Int):Prop:=(-(2^64) < i/\i < 2^64)\/ (-(2^64) < j/\j < 2^64)
theorem CMul.ok {i j:Int} (h:CMul i j):IntMulOk i j:=by
 rcases h with ⟨h1,h2⟩ | ⟨h1,h2⟩
 ·exact .of_left (intBits_le_64 h1 h2)
 ·exact .of_right (intBits_le_64 h1 h2)
theorem q21:OpR X (binaryOp .Add) (rI0 λ i j=> .int (i+j)):=opI0 λ _ _ _ _ _ _ _ q=>add_int q
theorem qlx:OpR X (binaryOp .Sub) (rI0 λ i j=> .int (i - j)):=opI0 λ _ _ _ _ _ _ _ q=>sub_int q
theorem q5q:OpR X (binaryOp .Mult) (rI CMul λ i j=> .int (i*j)):=opI λ _ _ _ _ _ _ _ hc q=>mul_int q hc.ok
theorem q2r:OpR X (binaryOp .FloorDiv) (rI CDiv λ i j=> .int (i / j)):=opI λ i j _ _ _ _ _ J q=>by
 have h1:(0:Int) < j:=J.1;have h2:j < 1073741824:=J.2;exact floordiv_int (by omega) (by rw [Int.fdiv_eq_ediv_of_nonneg i (by omega)];exact q) (.inl (PyProof.noPylong_small (by omega)))
theorem q1q:OpR X (binaryOp .Mod) (rI (λ _ j=>0 < j) λ i j=> .int (i%j)):=opI λ i j _ _ _ _ _ hc q=>by
 have h1:(0:Int) < j:=hc;exact mod_int' (by omega) (by rw [Int.fmod_eq_emod_of_nonneg i (by omega)];exact q)
theorem qly:OpR X (binaryOp .Pow) (rI CPow λ i j=> .int (i^j.toNat)):=opI λ _ _ _ _ _ _ _ J q=>pow_int_small J.1 J.2.1 J.2.2 q
theorem unI {f:Value ->Sem Value} {g:Int ->Int}
  (rule:∀ (i:Int) (t:Tok) (s:Shared) (Q:Value ->Shared ->Prop) (E:Value ->Shared ->Prop),Q (.int (g i) s.toks) {s with toks:=s.toks+1} ->wpAny (model X.prog X.w) X.A (f (.int i t)) Q E s):
  UnR X f (rU λ i=> .int (g i)):=by
 intro pins s σ H x v Q I rx h;obtain ⟨i,rfl,q⟩:=h;obtain ⟨t,rfl⟩:=rx;exact rule i t s _ _ ⟨.int (g i),H,I.tok _,⟨_,zr⟩,q⟩
theorem qlz:UnR X (unaryOp .USub) (rU λ i=> .int (-i)):=unI λ _ _ _ _ _ q=>neg_int q
end
def scal:V ->V ->Bool
 | .non,.non=>true | .non,.int _=>true | .int _,.non=>true | .non,.bl _=>true | .bl _,.non=>true | .non,.str _=>true | .str _,.non=>true
 | .int _,.int _=>true | .bl _,.bl _=>true | .str _,.str _=>true | .byt _,.byt _=>true
 | .int _,.str _=>true | .str _,.int _=>true | .bl _,.str _=>true | .str _,.bl _=>true
 | _,_=>false
def rEq:R2:=λ x y H Q=>scal x y=true/\Q (.bl (decide (x=y))) H
def rNe:R2:=λ x y H Q=>scal x y=true/\Q (.bl (!decide (x=y))) H
theorem qix {i j:Int}:decide (V.int i=V.int j)=(i==j):=by
 rw [z2n];simp
theorem qm0 {i j:Bool}:decide (V.bl i=V.bl j)=(i==j):=by
 rw [z2n];simp
theorem qiy {i j:Str}:decide (V.str i=V.str j)=(i==j):=by
 rw [z2n];simp
theorem qiz {i j:Array UInt8}:decide (V.byt i=V.byt j)=(i.toList==j.toList):=by
 rw [z2n];cases i
 cases j
 simp
section
variable {X:Cx} {a b c:Expr} {ta tb tc:TE} {pos:Pos}
theorem qy {pins:List (Addr×Obj)} {σ:St} {H:Hp} {s:Shared} {Q:VK} {k k':Bool} (I:Inv X pins σ H s) (q:Q (.bl k) H) (e:k=k'):EP X pins σ Q (.bool k') s:=by
 subst e;exact ⟨.bl k,H,I,zr,q⟩
theorem qfd:OpR X (compareOp .Eq) rEq:=by
 intro pins s σ H x y v u Q I rx ry h;obtain ⟨J,q⟩:=h;cases x with
 | non=>
  cases rx
  cases y with
  | non=>cases ry;exact PySem.EqNone.eq_none_none (qy I q (by simp))
  | bl j=>cases ry;exact PySem.EqNone.eq_none_bool (qy I q (by simp))
  | int j=>obtain ⟨t',rfl⟩:=ry;exact PySem.EqNone.eq_none_int (qy I q (by simp))
  | str j=>obtain ⟨t',rfl⟩:=ry;exact PySem.EqNone.eq_none_str (qy I q (by simp))
  | _=>exact absurd (show false=true from J) z1c
 | bl i=>
  cases rx
  cases y with
  | non=>cases ry;exact PySem.EqNone.eq_bool_none (qy I q (by simp))
  | bl j=>cases ry;exact eq_bool (qy I q qm0)
  | str j=>obtain ⟨t',rfl⟩:=ry;exact PySem.EqMixed.eq_bool_str (qy I q (by simp))
  | _=>exact absurd (show false=true from J) z1c
 | int i=>
  obtain ⟨t,rfl⟩:=rx;cases y with
  | non=>cases ry;exact PySem.EqNone.eq_int_none (qy I q (by simp))
  | int j=>obtain ⟨t',rfl⟩:=ry;exact eq_int (qy I q qix)
  | str j=>obtain ⟨t',rfl⟩:=ry;exact PySem.EqMixed.eq_int_str (qy I q (by simp))
  | _=>exact absurd (show false=true from J) z1c
 | str i=>
  obtain ⟨t,rfl⟩:=rx;cases y with
  | non=>cases ry;exact PySem.EqNone.eq_str_none (qy I q (by simp))
  | bl j=>cases ry;exact PySem.EqMixed.eq_str_bool (qy I q (by simp))
  | int j=>obtain ⟨t',rfl⟩:=ry;exact PySem.EqMixed.eq_str_int (qy I q (by simp))
  | str j=>obtain ⟨t',rfl⟩:=ry;exact eq_str (qy I q qiy)
  | _=>exact absurd (show false=true from J) z1c
 | byt i=>
  obtain ⟨t,rfl⟩:=rx;cases y with
  | byt j=>obtain ⟨t',rfl⟩:=ry;exact PySem.W.eq_bytes (qy I q qiz)
  | _=>exact absurd (show false=true from J) z1c
 | _=>cases y <;> exact absurd (show false=true from J) z1c
theorem q7d:OpR X (compareOp .NotEq) rNe:=by
 intro pins s σ H x y v u Q I rx ry h;obtain ⟨J,q⟩:=h;cases x with
 | non=>
  cases rx
  cases y with
  | non=>cases ry;exact PySem.EqNone.ne_none_none (qy I q (by simp))
  | bl j=>cases ry;exact PySem.EqNone.ne_none_bool (qy I q (by simp))
  | int j=>obtain ⟨t',rfl⟩:=ry;exact PySem.EqNone.ne_none_int (qy I q (by simp))
  | str j=>obtain ⟨t',rfl⟩:=ry;exact PySem.EqNone.ne_none_str (qy I q (by simp))
  | _=>exact absurd (show false=true from J) z1c
 | bl i=>
  cases rx
  cases y with
  | non=>cases ry;exact PySem.EqNone.ne_bool_none (qy I q (by simp))
  | bl j=>cases ry;exact ne_bool (qy I q (congrArg not qm0))
  | str j=>obtain ⟨t',rfl⟩:=ry;exact PySem.EqMixed.ne_bool_str (qy I q (by simp))
  | _=>exact absurd (show false=true from J) z1c
 | int i=>
  obtain ⟨t,rfl⟩:=rx;cases y with
  | non=>cases ry;exact PySem.EqNone.ne_int_none (qy I q (by simp))
  | int j=>obtain ⟨t',rfl⟩:=ry;exact ne_int (qy I q (congrArg not qix))
  | str j=>obtain ⟨t',rfl⟩:=ry;exact PySem.EqMixed.ne_int_str (qy I q (by simp))
  | _=>exact absurd (show false=true from J) z1c
 | str i=>
  obtain ⟨t,rfl⟩:=rx;cases y with
  | non=>cases ry;exact PySem.EqNone.ne_str_none (qy I q (by simp))
  | bl j=>cases ry;exact PySem.EqMixed.ne_str_bool (qy I q (by simp))
  | int j=>obtain ⟨t',rfl⟩:=ry;exact PySem.EqMixed.ne_str_int (qy I q (by simp))
  | str j=>obtain ⟨t',rfl⟩:=ry;exact ne_str (qy I q (congrArg not qiy))
  | _=>exact absurd (show false=true from J) z1c
 | byt i=>
  obtain ⟨t,rfl⟩:=rx;cases y with
  | byt j=>obtain ⟨t',rfl⟩:=ry;exact PySem.W.ne_bytes (qy I q (congrArg not qiz))
  | _=>exact absurd (show false=true from J) z1c
 | _=>cases y <;> exact absurd (show false=true from J) z1c
theorem q9o:OpR X (compareOp .Lt) (rI0 λ i j=> .bl (decide (i < j))):=opB0 λ _ _ _ _ _ _ _ q=>lt_int q
theorem qfe:OpR X (compareOp .LtE) (rI0 λ i j=> .bl (decide (i<=j))):=opB0 λ _ _ _ _ _ _ _ q=>le_int q
theorem qff:OpR X (compareOp .Gt) (rI0 λ i j=> .bl (decide (j < i))):=opB0 λ _ _ _ _ _ _ _ q=>gt_int q
theorem qdx:OpR X (compareOp .In) (λ x y H Q=>∃ i j,x= .str i/\y= .str j/\Q (.bl (!(Builtin.Str.occurrences j i 0 j.length 1).isEmpty)) H):=by
 intro pins s σ H x y v u Q I rx ry h;obtain ⟨i,j,rfl,rfl,q⟩:=h;obtain ⟨t,rfl⟩:=rx;obtain ⟨t',rfl⟩:=ry;exact in_str (qy I q rfl)
theorem qfz:OpR X (compareOp .Is) (λ x y H Q=>y= .non/\Q (.bl (decide (x= .non))) H):=by
  intro pins s σ H x y v u Q I rx ry h;obtain ⟨rfl,q⟩:=h;cases ry
  refine is_none_gen (qy I q ?_);cases x <;> first
    | (cases rx;rfl)
    | (obtain ⟨t,rfl⟩:=rx;rfl)
theorem qr8:OpR X (compareOp .IsNot) (λ x y H Q=>y= .non/\Q (.bl (!decide (x= .non))) H):=by
  intro pins s σ H x y v u Q I rx ry h;obtain ⟨rfl,q⟩:=h;cases ry
  refine isnot_none_gen (qy I q ?_);cases x <;> first
    | (cases rx;rfl)
    | (obtain ⟨t,rfl⟩:=rx;rfl)
theorem q17 (b:Expr) {op:CmpOp} (h:op≠ .In:=by decide) (h2:op≠ .NotIn:=by decide):behindInMarks op b=false:=by
 have e1:(op==CmpOp.In)=false:=by cases op <;> first | rfl | exact absurd rfl h
 have e2:(op==CmpOp.NotIn)=false:=by cases op <;> first | rfl | exact absurd rfl h2
 cases b <;> simp [behindInMarks,e1,e2]
theorem q43 {op:CmpOp} {r:R2} (ho:OpR X (compareOp op) r) (ha:PE X a ta) (hb:PE X b tb) (hm:behindInMarks op b=false):PE X (.Compare a [op] [b] pos) (tOp r ta tb):=by
 intro pins s σ H Q I h;exact wpAny_Compare1 (binT ha hb I h λ v u s2 x y H2 I2 rx ry q=>ho pins s2 σ H2 x y v u Q I2 rx ry q) hm
def qqf (t:TE):TT:=λ σ H Q=>t σ H λ x H'=>∃ k,x= .bl k/\Q k H'
theorem q1a {op:CmpOp} {r:R2} (ho:OpR X (compareOp op) r) (ha:PE X a ta) (hb:PE X b tb) (hm:behindInMarks op b=false):PT X (.Compare a [op] [b] pos) (qqf (tOp r ta tb)):=by
 intro pins s σ H Q I h;refine wpAny_isTrue_Compare1 (thn (ha pins s σ H _ I h) λ v s1 ⟨x,H1,I1,r1,q1⟩=>thn (hb pins s1 σ H1 _ I1 q1) λ u s2 ⟨y,H2,I2,r2,q2⟩=>
  thn (ho pins s2 σ H2 x y v u _ I2 r1 r2 q2) λ c s3 ⟨z,H3,I3,r3,k,e,q3⟩=> ?_) hm
 subst e;cases r3
 exact z1u ⟨H3,I3,q3⟩
def qtq (r r':R2) (ta tb tc:TE):TE:=λ σ H Q=>ta σ H λ x H1=>tb σ H1 λ y H2=>r x y H2 λ z H3=>∃ k,z= .bl k/\
 (if k=true then tc σ H3 λ w' H4=>r' y w' H4 Q else Q (.bl false) H3)
theorem qg0 {op J:CmpOp} {r Y:R2} (ho:OpR X (compareOp op) r) (L:OpR X (compareOp J) Y) (ha:PE X a ta) (hb:PE X b tb) (hc:PE X c tc)
  (hm:lastMarks [op,J] [b,c]=false:=by with_unfolding_all rfl):PT X (.Compare a [op,J] [b,c] pos) (qqf (qtq r Y ta tb tc)):=by
 intro pins s σ H Q I h;refine isTrue_chain (thn (ha pins s σ H _ I h) λ v s1 ⟨x,H1,I1,r1,q1⟩=>test_link (thn (hb pins s1 σ H1 _ I1 q1) λ u s2 ⟨y,H2,I2,r2,q2⟩=>
  thn (ho pins s2 σ H2 x y v u _ I2 r1 r2 q2) λ d s3 ⟨z,H3,I3,r3,k,e,q3⟩=> ?_)) hm
 subst e;cases r3
 refine z1u ?_;cases k with
 | false=>
  obtain ⟨k',e',q'⟩:=q3;cases e'
  exact ite_ff ⟨H3,I3,q'⟩
 | true=>
  refine ite_tt (test_last (thn (hc pins s3 σ H3 _ I3 q3) λ w' s4 ⟨z',H4,I4,r4,q4⟩=>thn (L pins s4 σ H4 y z' u w' _ I4 r2 r4 q4) λ d' s5 O=> ?_));obtain ⟨z2,H5,I5,r5,k2,e2,q5⟩:=O;subst e2;cases r5
  exact z1u ⟨H5,I5,q5⟩
theorem q8r:(sizeLine:Nat) < 2^63:=by rw [sizeLine_eq];decide
theorem qk6:OpR X (binaryOp .Add) (λ x y H Q=>∃ i j,x= .str i/\y= .str j/\i.length+j.length<=sizeLine/\Q (.str (i++j)) H):=by
 intro pins s σ H x y v u Q I rx ry h;obtain ⟨i,j,rfl,rfl,hz,q⟩:=h;obtain ⟨t,rfl⟩:=rx;obtain ⟨t',rfl⟩:=ry;exact add_str (λ t' tk=>⟨.str (i++j),H,I.tok _,⟨_,zr⟩,q⟩) hz
theorem q2y {x:V} {us:List Value} (r:Vals [x] us):∃ u,us=[u]/\RelV x u:=by
 cases r with
 | cons r1 r2=>cases r2;exact ⟨_,rfl,r1⟩
theorem qfg {x y:V} {us:List Value} (r:Vals [x,y] us):∃ u J,us=[u,J]/\RelV x u/\RelV y J:=by
 cases r with
 | cons r1 r2=>
  cases r2 with
  | cons r3 r4=>cases r4;exact ⟨_,_,rfl,r1,r3⟩
theorem qm1 (hc:X.calm=true):q23 X (.builtin "min") (λ xs H Q=>∃ i j,xs=[.int i,.int j]/\Q (.int (if j < i then j else i)) H):=by
 intro pins s σ H xs us Q I r h;obtain ⟨i,j,rfl,q⟩:=h;obtain ⟨u,w',rfl,⟨t,rfl⟩,⟨t',rfl⟩⟩:=qfg r;refine min_two_ints (I.ok.hd hc) λ h' tk k=>⟨_,H,I.kept k,?_,q⟩;by_cases J:j < i
 ·rw [if_pos J,if_pos J];exact ⟨_,rfl⟩
 ·rw [if_neg J,if_neg J];exact ⟨_,rfl⟩
def LenV (K:PySem.W.Frag) (x:V) (H:Hp) (n:Nat):Prop:=
 match x with
 | .str y=>y.length<=sizeLine/\n=y.length
 | .byt y=>y.size<=sizeLine/\n=y.size
 | .ref p=>(∃ xs,SqL K H p xs/\n=xs.length)\/ ∃ xs,SqT K H p xs/\n=xs.length
 | _=>False
theorem qol:q23 X (.builtin "len") (λ xs H Q=>∃ x n,xs=[x]/\LenV X.K x H n/\Q (.int n) H):=by
 intro pins s σ H xs us Q I r h;obtain ⟨x,n,rfl,e,q⟩:=h;obtain ⟨u,rfl,rx⟩:=q2y r;have hl:=q8r;have hs:sizeLine=16777216:=sizeLine_eq;cases x with
 | str y=>
  obtain ⟨t,rfl⟩:=rx;obtain ⟨hy,e'⟩:y.length<=sizeLine/\n=y.length:=e;subst e';exact len_str (by omega) ⟨.int _,H,I.tok _,⟨_,zr⟩,q⟩
 | byt y=>
  obtain ⟨t,rfl⟩:=rx;obtain ⟨hy,e'⟩:y.size<=sizeLine/\n=y.size:=e;subst e';exact PySem.W.len_bytes (by omega) ⟨.int _,H,I.tok _,⟨_,zr⟩,q⟩
 | ref p=>
  cases rx
  have e':(∃ xs,SqL X.K H p xs/\n=xs.length)\/ ∃ xs,SqT X.K H p xs/\n=xs.length:=e;rcases e' with ⟨xs,hx,e'⟩ | ⟨xs,hx,e'⟩
  ·subst e';obtain ⟨its,L,pl,hz⟩:=I.list hx;have J:=L.length;exact Calls.call_len_list pl.isList (by simp only [z1t];omega) ⟨.int xs.length,H,I.tok _,⟨_,by simp only [z1t];rw [J]⟩,q⟩
  ·subst e';obtain ⟨its,L,pl,hz⟩:=I.tuple hx;have J:=L.length;exact len_tuple pl (by simp only [z1t];omega) ⟨.int xs.length,H,I.tok _,⟨_,by simp only [z1t];rw [J]⟩,q⟩
 | _=>exact (show False from e).elim
end
structure ObjM (h:Heap) (x dx C:Addr) (mA:Str ->Option Value):Prop where
 obj:h.get? x=some (PySem.W.instObj C dx)
 ns:h.Ns1 dx mA
 ne:dx≠x
theorem qm2 {h:Heap} {dx:Addr} {mA:Str ->Option Value} (n:h.Ns1 dx mA):∃ L,h.get? dx=some L/\∀ name,PySem.W.lookIn name L=some (mA name):=by
 obtain ⟨o,es,ep,ho,hd,hk,_,hm⟩:=n;refine ⟨o,ho,λ name=> ?_⟩;have e:=hm name;unfold nsFind findBy at e;rw [<- Array.find?_toList] at e;unfold PySem.W.lookIn;rw [hd]
 dsimp only
 split
 ·rename_i y q;rw [q] at e;exact congrArg some e
 ·rename_i q;rw [q] at e;have a:es.toList.any (·.refKey)=false:=by
   rw [List.any_eq_false];intro y hy;obtain ⟨z,t,J⟩:=hk y (Array.mem_toList_iff.mp hy);simp [DictEntry.refKey,J]
  have a':¬ es.toList.any (·.refKey)=true:=by rw [a];exact z1c
  rw [if_neg a'];exact congrArg some e
theorem ObjM.look {h:Heap} {x dx C:Addr} {mA:Str ->Option Value} (I:ObjM h x dx C mA):∃ J,PySem.W.InstAt h x (PySem.W.instObj C dx) C (some J)/\∀ name,PySem.W.lookIn name J=some (mA name):=
 let ⟨J,ho,hl⟩:=qm2 I.ns
 ⟨J,⟨I.obj,rfl,rfl,ho⟩,hl⟩
section
variable {prog:Program} {w:World} {A:Around} {E:Value ->Shared ->Prop} {s:Shared} {K:PySem.W.Frag} {x dx C f:Addr} {mA:Str ->Option Value} {name:Str} {v:Value}
theorem qom {pl:Sem Bool} {Q:Value×List Value ->Shared ->Prop} (X:K.In s.heap) (I:ObjM s.heap x dx C mA) (L:PySem.W.plainGet K C name=true)
  (hf:PySem.W.findIn K (.ref C) name=some (some (.ref f))) (ht:PySem.W.isFn K (.ref f)=true) (hv:mA name=none) (h:Q (.ref f,[.ref x]) s):
  wpAny (model prog w) A (getMethod (.ref x) name pl) Q E s:=by
 obtain ⟨od,J,hl⟩:=I.look;exact PySem.W.method_fn X J (PySem.W.plainGet_of L).1 (PySem.W.plainGet_of L).2 hf (beq_iff_eq.mp ht) (by show (PySem.W.lookIn name od).map (·.isSome)=some false;rw [hl,hv];rfl) h
theorem qr9 {ns:List Str} {Q:Unit ->Shared ->Prop} (X:K.In s.heap) (I:ObjM s.heap x dx C mA)
  (hs:PySem.W.findIn K (.ref C) "__setattr__"=some (some (.builtin "object.__setattr__"))) (hp:PySem.W.plainOver K C=true) (ht:PySem.W.takerIn K C name=some none) (hh:PySem.W.hasDictIn K C=true)
  (hw:PySem.Within mA ns) (hsz:ns.length<=sizeLine)
  (h:∀ h',ObjM h' x dx C (λ y=>if y=name then some v else mA y) ->Heap.SameBut dx s.heap h' ->Q () {s with heap:=h',toks:=s.toks+2}):
  wpAny (model prog w) A (setAttr (.ref x) name v) Q E s:=by
 obtain ⟨od,J,hl⟩:=I.look;refine PySem.W.set_plain X J hs (PySem.W.osa_open (s:={s with toks:=s.toks+1}) (r:=none) X J hp ht λ b=> ?_);obtain ⟨cd,hc,Z⟩:=PySem.W.any_some hh;have hx:s.heap.get? x=some ⟨.ref C,some dx,.plain,#[]⟩:=I.obj;refine z3w (z3v (z3w (z3w (wpAny_loadPart hx (z3w (PySem.W.Looks.here (s:={s with toks:=s.toks+1}) (PySem.W.looks_clsIn X hc) ?_))))));rw [Z];refine z3v (a:=some dx) (z3w (z3v (z3w ?_)));refine wpAny_nsSet1 (s:={s with toks:=s.toks+1}) I.ns λ h' L O=> ?_;obtain ⟨oD,esD,epD,a2,a0,Y⟩:=L.count (PySem.Within.cons name v hw);refine z3w (wpAny_lookBehind a2 (by rw [a0];exact pastItsLine_dict (z3j Y (by rw [z27];omega))) ?_);exact z3v (h _ ⟨(O.2 _ (Ne.symm I.ne)).trans I.obj,L,I.ne⟩ O)
theorem qon {R:Result ->Shared ->Prop} {vs:List Value} {J:List (Str×Value)} (X:K.In s.heap) (hm:PySem.W.makesIn K C=true)
  (hi:PySem.W.findIn K (.ref C) "__init__"=some (some (.ref f))) (hf:PySem.W.typeIn K (.ref f)=some (.type "function"))
  (h:codeAny (model prog w) (A.under (.builtin "type.__call__" ⟨.ref C::vs,J⟩)) (.call (.ref f) ⟨.ref (s.heap.objs.size+1)::vs,J⟩) (PySem.W.InitBack (s.heap.objs.size+1) R)
   {s with heap:=(s.heap.push PySem.W.emptyDict).push (PySem.W.instObj C s.heap.objs.size)}):
  codeAny (model prog w) A (.call (.ref C) ⟨vs,J⟩) R s:=by
 obtain ⟨hh,g,d,t,os⟩:=s;exact PySem.W.make_core (PySem.W.makes_of X hm) (PySem.W.looks_findIn X hi) (λ self=>PySem.W.bind_fn X self hf) (.inl rfl) h
theorem qm3 {R:Result ->Shared ->Prop} (X:K.In s.heap) (hm:PySem.W.makesIn K C=true)
  (hi:PySem.W.findIn K (.ref C) "__init__"=some (some (.builtin "object.__init__")))
  (hb:∀ self,PySem.W.Looks (model prog w) s.heap (bindSpecial (.builtin "object.__init__") self) (.builtin "object.__init__",[self]))
  (h:codeAny (model prog w) (A.under (.builtin "type.__call__" ⟨[.ref C],[]⟩)) (.call (.builtin "object.__init__") ⟨[.ref (s.heap.objs.size+1)],[]⟩) (PySem.W.InitBack (s.heap.objs.size+1) R)
   {s with heap:=(s.heap.push PySem.W.emptyDict).push (PySem.W.instObj C s.heap.objs.size)}):
  codeAny (model prog w) A (.call (.ref C) ⟨[],[]⟩) R s:=by
 obtain ⟨hh,g,d,t,os⟩:=s;exact PySem.W.make_core (PySem.W.makes_of X hm) (PySem.W.looks_findIn X hi) hb (.inr ⟨zr,zr⟩) h
end
def putF (f:Str) (v:V):List (Str×V) ->List (Str×V)
 | []=>[(f,v)]
 | (g,x)::r=>if g=f then (g,v)::r else (g,x)::putF f v r
theorem qa9 (f g:Str) (v:V):∀ fs:List (Str×V),(putF f v fs).lookup g=if g=f then some v else fs.lookup g
  | []=>by
    show List.lookup g [(f,v)]=_;by_cases h:g=f
    · have J:(g==f)=true:=beq_iff_eq.mpr h
      simp only [List.lookup,J,if_pos h]
    · have J:(g==f)=false:=beq_eq_false_iff_ne.mpr h
      simp only [List.lookup,J,if_neg h]
  | (k,x)::r=>by
    have ih:=qa9 f g v r;rw [show putF f v ((k,x)::r)=(if k=f then (k,v)::r else (k,x)::putF f v r) from rfl];by_cases L:k=f
    · rw [if_pos L]
      by_cases h:g=k
      · have J:(g==k)=true:=beq_iff_eq.mpr h
        simp only [List.lookup,J,if_pos (h.trans L)]
      · have J:(g==k)=false:=beq_eq_false_iff_ne.mpr h
        simp only [List.lookup,J,if_neg (λ e:g=f=>h (e.trans L.symm))]
    · rw [if_neg L]
      by_cases h:g=k
      · have J:(g==k)=true:=beq_iff_eq.mpr h
        simp only [List.lookup,J,if_neg (λ e:g=f=>L (h.symm.trans e))]
      · have J:(g==k)=false:=beq_eq_false_iff_ne.mpr h
        simp only [List.lookup,J];exact ih
theorem q8s (f:Str) (v:V):∀ fs:List (Str×V),f∈(putF f v fs).map (·.1)/\∀ g,g∈fs.map (·.1) ->g∈(putF f v fs).map (·.1)
  | []=>⟨by simp [putF],λ g h=>by simp at h⟩
  | (k,x)::r=>by
    obtain ⟨i1,i2⟩:=q8s f v r;rw [show putF f v ((k,x)::r)=(if k=f then (k,v)::r else (k,x)::putF f v r) from rfl];by_cases J:k=f
    · rw [if_pos J]
      subst J;exact ⟨by simp,λ g h=>by simpa using h⟩
    · rw [if_neg J]
      refine ⟨?_,λ g h=> ?_⟩
      · rw [z35]
        exact z10 _ i1
      · rw [z35] at h ⊢
        rcases z37.mp h with e | e
        · exact z37.mpr (.inl e)
        · exact z10 _ (i2 g e)
theorem qaa (f:Str) (v:V):∀ fs:List (Str×V),(putF f v fs).length<=fs.length+1
  | []=>by simp [putF]
  | (k,x)::r=>by
    have ih:=qaa f v r;rw [show putF f v ((k,x)::r)=(if k=f then (k,v)::r else (k,x)::putF f v r) from rfl];by_cases J:k=f
    · rw [if_pos J,z27,z27];omega
    · rw [if_neg J,z27,z27];omega
theorem RelO.qd6 {v:V} {o:Option Value} (r:RelO (some v) o):∃ u,o=some u/\RelV v u:=by
 cases o with
 | none=>exact (show False from r).elim
 | some u=>exact ⟨u,rfl,r⟩
theorem RelO.qra {o:Option Value} (r:RelO none o):o=none:=by
 cases o with
 | none=>rfl
 | some u=>exact (show False from r).elim
section
variable {P:Program} {w:World} {H H':Hp} {h h':Heap} {a C dx:Addr} {fs fs':List (Str×V)}
theorem qd7 (hok:HOk P w H h) (e:H a=some (.ins C dx fs)):∃ mA,ObjM h a dx C mA/\(∀ f,RelO (fs.lookup f) (mA f))/\PySem.Within mA (fs.map (·.1))/\fs.length<=1000/\H dx=some (.own a):=by
 obtain ⟨d,z,ne,ob,mA,n,r,q⟩:=(show ObjOk P w H h a (.ins C dx fs) from hok a _ e);exact ⟨mA,⟨ob,n,ne⟩,r,q,z,d⟩
end
structure Cls (K:PySem.W.Frag) (C:Addr):Prop where
 pg:PySem.W.plainGet K C Str.empty=true
 hd:PySem.W.hasDictIn K C=true
 po:PySem.W.plainOver K C=true
 sa:PySem.W.findIn K (.ref C) "__setattr__"=some (some (.builtin "object.__setattr__"))
theorem Cls.get {K:PySem.W.Frag} {C:Addr} (c:Cls K C) (f:Str):PySem.W.plainGet K C f=true:=c.pg
def NoAttr (K:PySem.W.Frag) (C:Addr) (f:Str):Prop:=PySem.W.findIn K (.ref C) f=some none
theorem NoAttr.taker {K:PySem.W.Frag} {C:Addr} {f:Str} (n:NoAttr K C f):PySem.W.takerIn K C f=some none:=by
 unfold PySem.W.takerIn;rw [show PySem.W.findIn K (.ref C) f=some none from n];rfl
structure Meth (K:PySem.W.Frag) (C:Addr) (m:Str) (f:Addr):Prop where
 at_:PySem.W.findIn K (.ref C) m=some (some (.ref f))
 fn:PySem.W.isFn K (.ref f)=true
 kp:PySem.W.keepIn K (.ref f)=true
section
variable {X:Cx} {pins:List (Addr×Obj)} {σ:St} {H:Hp} {s:Shared} {a C dx:Addr} {fs:List (Str×V)} {f:Str} {v:V} {A:Around} {E:Value ->Shared ->Prop}
theorem q7e {m:Str} {g:Addr} {pl:Sem Bool} {Q:Value×List Value ->Shared ->Prop} (I:Inv X pins σ H s) (e:H a=some (.ins C dx fs)) (c:Cls X.K C) (k:Meth X.K C m g) (l:fs.lookup m=none)
  (h:Q (.ref g,[.ref a]) s):wpAny (model X.prog X.w) A (getMethod (.ref a) m pl) Q E s:=by
 obtain ⟨mA,O,r,_,_,_⟩:=qd7 I.hok e;have hn:mA m=none:=RelO.qra (by rw [<- l];exact r m);exact qom I.kIn O (c.get m) k.at_ k.fn hn h
theorem qk7 {y:V} {u:Value} {Q:Unit ->Shared ->Prop} (I:Inv X pins σ H s) (e:H a=some (.ins C dx fs)) (c:Cls X.K C) (n:NoAttr X.K C f) (hl:fs.length < 1000) (ry:RelV y u)
  (h:∀ s',Inv X pins σ (upd H a (.ins C dx (putF f y fs))) s' ->Q () s'):wpAny (model X.prog X.w) A (setAttr (.ref a) f u) Q E s:=by
 obtain ⟨mA,O,r,wi,_,ho⟩:=qd7 I.hok e;have hz:(fs.map (·.1)).length<=sizeLine:=by rw [z2o,sizeLine_eq];omega
 refine qr9 I.kIn O c.sa c.po n.taker c.hd wi hz λ h' J sb=>h _ ?_;have hd:∃ o,h'.get? dx=some o:=let ⟨o,_,_,e',_⟩:=J.ns;⟨o,e'⟩
 refine I.write (x:=a) (e:=dx) (by rw [e];exact True.intro) (.inr ho) (λ b q hb z=>(sb.2 b hb).trans z) hd ?_;refine ⟨by rw [qd O.ne];exact ho,?_,O.ne,J.obj,_,J.ns,λ g=> ?_,λ g hg=> ?_⟩
 ·have:=qaa f y fs;omega
 ·show RelO ((putF f y fs).lookup g) (if g=f then some u else mA g);rw [qa9];by_cases q:g=f
  ·rw [if_pos q,if_pos q];exact ry
  ·rw [if_neg q,if_neg q];exact r g
 ·by_cases q:g=f
  ·rw [q];exact (q8s f y fs).1
  ·refine (q8s f y fs).2 g (wi g λ z=>hg ?_);show (if g=f then some u else mA g)=none;rw [if_neg q];exact z
theorem Inv.made (I:Inv X pins σ H s):Inv X pins σ (upd (upd H s.heap.objs.size (.own (s.heap.objs.size+1))) (s.heap.objs.size+1) (.ins C s.heap.objs.size []))
  {s with heap:=(s.heap.push PySem.W.emptyDict).push (PySem.W.instObj C s.heap.objs.size)}:=by
 have e1:(s.heap.push PySem.W.emptyDict).get? s.heap.objs.size=some PySem.W.emptyDict:=z16 s.heap rfl;have e2:((s.heap.push PySem.W.emptyDict).push (PySem.W.instObj C s.heap.objs.size)).get? (s.heap.objs.size+1)=some (PySem.W.instObj C s.heap.objs.size):=by
  have:=z16 (s.heap.push PySem.W.emptyDict) (o:=PySem.W.instObj C s.heap.objs.size) rfl
  rwa [z31] at this
 have e3:(s.heap.push PySem.W.emptyDict).Ns s.heap.objs.size (λ _=>none):=⟨PySem.W.emptyDict,#[],_,e1,rfl,(λ e he=>absurd he (by simp)),λ _=>rfl⟩;have I1:=I.laid (a:=s.heap.objs.size) (o:= .own (s.heap.objs.size+1)) (h':=s.heap.push PySem.W.emptyDict) (t':=s.toks) (λ b u q=>z0k _ q) (z3q _) ⟨_,e1⟩;refine I1.laid (a:=s.heap.objs.size+1) (o:= .ins C s.heap.objs.size []) (t':=s.toks) (λ b u q=>z0k _ q) (Nat.le_of_eq (z31 _ _)) ?_;have ne:s.heap.objs.size≠s.heap.objs.size+1:=z3i (z2a _);refine ⟨by rw [qd ne,q0],z3t _,ne,e2,λ _=>none,(Heap.Ns1.of_empty e3).at λ o q=>z0k _ q,λ _=>True.intro,λ y hy=>absurd rfl hy⟩
end
def sFld (K:PySem.W.Frag) (ta tv:TE) (f:Str):TS:=λ D σ H=>tv σ H λ y H1=>ta σ H1 λ x H2=>∃ a C dx fs,x= .ref a/\H2 a=some (.ins C dx fs)/\Cls K C/\NoAttr K C f/\fs.length < 1000/\
 D.nx σ (upd H2 a (.ins C dx (putF f y fs)))
section
variable {X:Cx} {o e value:Expr} {f:Str} {pos pos' tpos:Pos} {ta tv:TE}
theorem q6t (ha:PE X o ta) (hv:PE X value tv) (hs:swapsWith value (some (.Attribute o f pos')) pos.line X.env=pure false):PS X (.Assign [.Attribute o f pos'] value pos) (sFld X.K ta tv f):=by
 intro pins s σ H D I h;refine plainObj_wpAny_Assign_Attribute (thn (hv pins s σ H _ I h) λ u s1 ⟨y,H1,I1,ry,q⟩=>thn (ha pins s1 σ H1 _ I1 q) λ ov s2 J=> ?_) hs;obtain ⟨x,H2,I2,rx,a,C,dx,fs,ex,ea,c,n,l,q2⟩:=J;subst ex;obtain rfl:ov=Value.ref a:=rx;exact qk7 I2 ea c n l ry λ s3 I3=>⟨σ,_,I3,q2⟩
end
section
variable {X:Cx} {pins:List (Addr×Obj)} {σ:St} {H:Hp} {s:Shared} {A:Around} {E:Value ->Shared ->Prop} {Q:Value ->Shared ->Prop} {c:Value} {b:Bool}
inductive TyOf (K:PySem.W.Frag) (H:Hp):V ->Value ->Prop where
 | non:TyOf K H .non (.type "NoneType")
 | bl (x:Bool):TyOf K H (.bl x) (.type "bool")
 | int (i:Int):TyOf K H (.int i) (.type "int")
 | str (x:Str):TyOf K H (.str x) (.type "str")
 | flt (x:UInt64):TyOf K H (.flt x) (.type "float")
 | lst {a:Addr} {xs:List V} (e:H a=some (.lst xs)):TyOf K H (.ref a) (.type "list")
 | frz {a:Addr} {o:Obj} {xs:List V} (e:H a=some (.frz o (.lst xs))):TyOf K H (.ref a) (.type "list")
 | tup {a:Addr} {xs:List V} (e:H a=some (.tup xs)):TyOf K H (.ref a) (.type "tuple")
 | dK {a:Addr} {kvs:List (Key×V)} (e:H a=some (.dK kvs)):TyOf K H (.ref a) (.type "dict")
 | dT {a:Addr} {kvs:List (List Key×V)} (e:H a=some (.dT kvs)):TyOf K H (.ref a) (.type "dict")
 | ins {a C dx:Addr} {fs:List (Str×V)} (e:H a=some (.ins C dx fs)) (cl:Cls K C) (ha:PySem.W.findIn K (.ref C) "__class__"=some (some (.builtin "object.__class__")))
   (hn:PySem.W.specialIn K (.builtin "object.__class__") "__get__"=some (some (.builtin "getset_descriptor.__get__"))) (htk:PySem.W.takesIn K (.builtin "object.__class__")=some true)
   (hm:PySem.W.mroIn K C (.type "object")=some true):TyOf K H (.ref a) (.ref C)
theorem qm4 {x:V} {u t:Value} (I:Inv X pins σ H s) (rx:RelV x u) (ty:TyOf X.K H x t) (e:PySem.W.kitOne X.K t c=some b) (h:∀ tk,Q (.bool b) {s with toks:=tk}):
  wpAny (model X.prog X.w) A (call (.builtin "isinstance") [u,c]) Q E s:=by
 cases ty with
 | non=>cases (show u=Value.none from rx);exact z2u PySem.W.kitx_none I.kIn True.intro e (λ z=>nomatch z) h
 | bl y=>cases (show u=Value.bool y from rx);exact z2u PySem.W.kitx_bool I.kIn True.intro e (λ z=>nomatch z) h
 | int i=>obtain ⟨t,q⟩:=(show ∃ t,u=Value.int i t from rx);cases q;exact z2u PySem.W.kitx_int I.kIn True.intro e (λ z=>nomatch z) h
 | str y=>obtain ⟨t,q⟩:=(show ∃ t,u=Value.str y t from rx);cases q;exact z2u PySem.W.kitx_str I.kIn True.intro e (λ z=>nomatch z) h
 | flt y=>obtain ⟨t,q⟩:=(show ∃ t,u=Value.float y t from rx);cases q;exact z2u PySem.W.kitx_float I.kIn True.intro e (λ z=>nomatch z) h
 | @lst a xs L=>
  cases (show u=Value.ref a from rx)
  obtain ⟨_,_,n,_,h1⟩:=(show ObjOk X.prog X.w H s.heap a (.lst xs) from I.hok a _ L);exact z2u PySem.W.kitx_list I.kIn ⟨_,h1,rfl⟩ e (λ z=>nomatch z) h
 | @frz a ob xs L=>
  cases (show u=Value.ref a from rx)
  obtain ⟨_,_,_,n,_,h1⟩:=(show ObjOk X.prog X.w H s.heap a (.frz ob (.lst xs)) from I.hok a _ L);exact z2u PySem.W.kitx_list I.kIn ⟨_,h1,rfl⟩ e (λ z=>nomatch z) h
 | @tup a xs L=>
  cases (show u=Value.ref a from rx)
  obtain ⟨_,_,_,p⟩:=(show ObjOk X.prog X.w H s.heap a (.tup xs) from I.hok a _ L);obtain ⟨o,h1,h2,_⟩:=p;exact z2u PySem.W.kitx_tuple I.kIn ⟨o,h1,h2⟩ e (λ z=>nomatch z) h
 | @dK a kvs L=>
  cases (show u=Value.ref a from rx)
  obtain ⟨_,_,vs,_,p⟩:=(show ObjOk X.prog X.w H s.heap a (.dK kvs) from I.hok a _ L);obtain ⟨o,es,ep,h1,h2,_⟩:=p;exact z2u PySem.W.kitx_dict I.kIn ⟨o,h1,h2.1⟩ e (λ z=>nomatch z) h
 | @dT a kvs L=>
  cases (show u=Value.ref a from rx)
  obtain ⟨_,_,xs,_,o,es,ep,h1,h2,_⟩:=(show ObjOk X.prog X.w H s.heap a (.dT kvs) from I.hok a _ L);exact z2u PySem.W.kitx_dict I.kIn ⟨o,h1,h2.1⟩ e (λ z=>nomatch z) h
 | @ins a C dx fs L cl ha hn Y hm=>
  cases (show u=Value.ref a from rx)
  obtain ⟨mA,O,_⟩:=qd7 I.hok L;obtain ⟨od,J,_⟩:=O.look;exact z2u (PySem.W.kitx_own (cl.get _) cl.hd ha hn Y hm) I.kIn J e (λ z=>nomatch z) h
end
structure Room (k:Nat) (A:Around):Prop where
 hd:A.handled=none
 dp:A.depth+3*k+5 < recursionLimit
 un:A.units+16*k+200 < cLine
theorem Room.mono {j k:Nat} {A:Around} (r:Room k A) (h:j<=k):Room j A:=⟨r.hd,by have:=r.dp;omega,by have:=r.un;omega⟩
theorem Room.deeper {k:Nat} {A:Around} (r:Room (k+1) A) (env:Env):Room k (A.deeper env):=
 ⟨r.hd,by have:=r.dp;show A.depth+1+3*k+5 < _;omega,by have:=r.un;show A.units+3+16*k+200 < _;omega⟩
theorem Room.in1 {k:Nat} {A:Around} (r:Room (k+1) A):Room k A.in1:=
 ⟨r.hd,by have:=r.dp;show A.depth+3*k+5 < _;omega,by have:=r.un;show A.units+1+16*k+200 < _;omega⟩
theorem qk8 {A:Around} {C:Addr} {us:List Value} {kw:List (Str×Value)}:(A.under (.builtin "type.__call__" ⟨.ref C::us,kw⟩)).depth=A.depth+1:=by
 first | rfl | simp [Around.under,Code.weight,Code.isCreation,Code.isGuard,Code.isCaller,Code.frames,Code.isFrame,guardIds]
theorem qk9 {A:Around} {C:Addr} {us:List Value} {kw:List (Str×Value)}:(A.under (.builtin "type.__call__" ⟨.ref C::us,kw⟩)).units=A.units+1:=by
 first | rfl | simp [Around.under,Code.cUnits,Code.frames,Code.isFrame]
theorem Room.make {k:Nat} {A:Around} (r:Room (k+1) A) (C:Addr) (us:List Value) (kw:List (Str×Value)):Room k (A.under (.builtin "type.__call__" ⟨.ref C::us,kw⟩)):=
 ⟨r.hd,by have:=r.dp;rw [qk8];omega,by have:=r.un;rw [qk9];omega⟩
theorem Room.depth {k:Nat} {A:Around} (r:Room k A):A.depth < recursionLimit:=by have:=r.dp;omega
theorem Room.units {k:Nat} {A:Around} (r:Room k A):A.units+64 < cLine:=by have:=r.un;omega
def tNil:TA:=λ _ H Q=>Q [] H
def q1w (ta:TE) (tr:TA):TA:=λ σ H Q=>ta σ H λ x H1=>tr σ H1 λ xs H2=>Q (x::xs) H2
section
variable {X:Cx} {e:Expr} {es:List Expr} {te:TE} {t:TA} {pos:Pos}
theorem q2c:PA X [] tNil:=λ _ _ _ _ H Q I h=>Calls.spliced_nil ⟨[],H,I,.nil,h⟩
theorem qrb (ha:PE X e te) (hr:PA X es t) (hs:starEach (e::es) X.env=(false,eval e X.env)::starEach es X.env:=by rfl):PA X (e::es) (q1w te t):=by
 intro pos pins s σ H Q I h;rw [hs];show wpAny _ _ (spliced ((false,eval e X.env)::backTo pos (starEach es X.env))) _ _ s;refine Calls.spliced_cons (thn (ha pins s σ H _ I h) λ u s1 J=> ?_);obtain ⟨x,H1,I1,r1,q1⟩:=J;exact thn (hr pos pins s1 σ H1 _ I1 q1) λ us s2 ⟨xs,H2,I2,r2,q2⟩=>⟨x::xs,H2,I2,.cons r1 r2,q2⟩
def tTup (t:TA):TE:=λ σ H Q=>t σ H λ xs H1=>xs.length<=sizeLine/\∀ p,H1 p=none ->Q (.ref p) (upd H1 p (.tup xs))
def tLst (t:TA):TE:=λ σ H Q=>t σ H λ xs H1=>xs.length<=sizeLine/\∀ p,H1 p=none ->Q (.ref p) (upd H1 p (.lst xs))
theorem q1n {x1} (h:PA X es t):PE X (.Tuple es x1 pos) (tTup t):=by
 intro pins s σ H Q I hq;refine wpAny_Tuple_spliced (thn (h pos pins s σ H _ I hq) λ us s1 ⟨xs,H1,I1,r,z,q⟩=>⟨by rw [<- r.length];exact z,?_⟩);have hf:H1 s1.heap.objs.size=none:=I1.hok.fresh (z3q _);refine ⟨.ref s1.heap.objs.size,upd H1 s1.heap.objs.size (.tup xs),I1.laid (t':=s1.toks) (λ b u e=>z0k _ e) (z3q _) ?_,zr,q _ hf⟩;exact ⟨z,us,r,⟨_,z16 _ rfl,zr,_,zr⟩⟩
theorem q1l (h:PA X es t):PE X (.List es pos) (tLst t):=by
 intro pins s σ H Q I hq;refine wpAny_List_spliced (thn (h pos pins s σ H _ I hq) λ us s1 ⟨xs,H1,I1,r,z,q⟩=>⟨by rw [<- r.length];exact z,?_⟩);have hf:H1 s1.heap.objs.size=none:=I1.hok.fresh (z3q _);refine ⟨.ref s1.heap.objs.size,upd H1 s1.heap.objs.size (.lst xs),I1.laid (t':=s1.toks) (λ b u e=>z0k _ e) (z3q _) ?_,zr,q _ hf⟩;exact ⟨z,us,0,r,z16 _ rfl⟩
end
abbrev Sp:=List V ->Hp ->VK ->XK ->Prop
abbrev CXT:=List Env ->Hp ->Shared ->XK ->Value ->Shared ->Prop
structure Env0 (P:Program) (w:World) (K:PySem.W.Frag) (mg:Str ->Option Value) (base:Heap) (A:Around) (outer:List Env) (s:Shared) (H:Hp):Prop where
 frames:A.frames=some outer
 mod:Mod K mg base
 bs:∀ b o,base.get? b=some o ->s.heap.get? b=some o/\H b=none
 bsz:base.objs.size<=s.heap.objs.size
 funs:s.heap.FunFrames base outer
 frf:∀ b∈frs outer,H b=none
 hok:HOk P w H s.heap
 bare:AllBare s.gens
def CE (outer:List Env) (P:Program) (w:World) (H:Hp) (s:Shared) (Q:VK) (u:Value) (s':Shared):Prop:=
 ∃ v H',s'.os=s.os/\AllBare s'.gens/\Un (frs outer) [] H H' s.heap s'.heap/\HOk P w H' s'.heap/\RelV v u/\Q v H'
def CR (CX:CXT) (outer:List Env) (P:Program) (w:World) (H:Hp) (s:Shared) (Q:VK) (E:XK) (r:Result) (s':Shared):Prop:=
 match r with
 | .ok (.ret u)=>CE outer P w H s Q u s'
 | .ok _=>False
 | .error e=>CX outer H s E e s'
structure FnOk (P:Program) (w:World) (K:PySem.W.Frag) (mg:Str ->Option Value) (base:Heap) (CX:CXT) (k:Nat) (f:Addr) (fd:FuncData) (ps:List Str) (sp:Sp):Prop where
 len:∀ vs H Q E,sp vs H Q E ->vs.length=ps.length
 run:∀ (A:Around) (outer:List Env) (s:Shared) (H:Hp) (args:Args) (us:List Value) (vs:List V) (Q:VK) (E:XK),Room k A ->Env0 P w K mg base A outer s H ->BindsTo s fd args (ps.zip us) ->Vals vs us ->sp vs H Q E ->
  codeAny (model P w) A (.call (.ref f) args) (CR CX outer P w H s Q E) s
theorem FnOk.mono {P:Program} {w:World} {K:PySem.W.Frag} {mg:Str ->Option Value} {base:Heap} {CX:CXT} {j k:Nat} {f:Addr} {fd:FuncData} {ps:List Str} {sp:Sp} (F:FnOk P w K mg base CX j f fd ps sp) (h:j<=k):
  FnOk P w K mg base CX k f fd ps sp:=⟨F.len,λ A outer s H args us vs Q E hr=>F.run A outer s H args us vs Q E (hr.mono h)⟩
theorem Env0.make {P:Program} {w:World} {K:PySem.W.Frag} {mg:Str ->Option Value} {base:Heap} {A:Around} {outer:List Env} {s:Shared} {H:Hp} (e:Env0 P w K mg base A outer s H) (C:Addr) (us:List Value) (kw:List (Str×Value)):
  Env0 P w K mg base (A.under (.builtin "type.__call__" ⟨.ref C::us,kw⟩)) outer s H:=⟨by first | exact e.frames | (simpa [Around.under,Code.envs,Code.isFrame,pushEnvs] using e.frames),e.mod,e.bs,e.bsz,e.funs,e.frf,e.hok,e.bare⟩
theorem Env0.in1 {P:Program} {w:World} {K:PySem.W.Frag} {mg:Str ->Option Value} {base:Heap} {A:Around} {outer:List Env} {s:Shared} {H:Hp} (e:Env0 P w K mg base A outer s H):
  Env0 P w K mg base A.in1 outer s H:=⟨e.frames,e.mod,e.bs,e.bsz,e.funs,e.frf,e.hok,e.bare⟩
section
variable {X:Cx} {pins:List (Addr×Obj)} {σ:St} {H:Hp} {s s':Shared}
theorem Inv.env0 (I:Inv X pins σ H s):Env0 X.prog X.w X.K X.mg X.base X.A X.stack s H:=
 ⟨I.ok.frames,I.ok.mod,I.bs,z3j I.ok.bsz I.sz,I.stack,I.stkFree,I.hok,I.bare⟩
theorem Inv.after {Q:VK} {u:Value} (I:Inv X pins σ H s) (h:CE X.stack X.prog X.w H s Q u s'):EP X pins σ Q u s':=by
 obtain ⟨v,H',os,bare,un,hok,r,q⟩:=h;obtain ⟨hh,g,d,t,J⟩:=s';obtain rfl:J=s.os:=os;exact ⟨v,H',I.call (h':=hh) (g':=g) (d':=d) (t':=t) (ch:=[]) un hok bare (λ b z=>absurd z (by simp)),r,q⟩
end
def qqg (sp:Sp) (dvs:List V) (E:XK) (t:TA):TE:=λ σ H Q=>t σ H λ vs H1=>sp (vs++dvs) H1 Q E
def qqh (C:Addr) (m:Str) (sp:Sp) (dvs:List V) (E:XK) (ta:TE) (t:TA):TE:=λ σ H Q=>ta σ H λ x H1=>∃ a dx fs,x= .ref a/\H1 a=some (.ins C dx fs)/\fs.lookup m=none/\
 t σ H1 λ vs H2=>sp (x::(vs++dvs)) H2 Q E
def qqi (C:Addr) (sp:Sp) (dvs:List V) (E:XK) (t:TA):TE:=λ σ H Q=>t σ H λ vs H1=>∀ x dx,H1 x=none ->H1 dx=none ->dx≠x ->
 sp (.ref x::(vs++dvs)) (upd (upd H1 dx (.own x)) x (.ins C dx [])) (λ v H2=>v= .non/\Q (.ref x) H2) E
def Binds (K:PySem.W.Frag) (fd:FuncData) (ps:List Str) (ds:List Value):Prop:=
 ∀ (s:Shared) (us:List Value),K.In s.heap ->(us++ds).length=ps.length ->BindsTo s fd ⟨us,[]⟩ (ps.zip (us++ds))
theorem Binds.all {K:PySem.W.Frag} {fd:FuncData} {ps:List Str} (h:∀ us:List Value,us.length=ps.length ->bindArgs fd ⟨us,[]⟩=pure (ps.zip us)):Binds K fd ps []:=λ s us _ hl=>by
 rw [z2p] at hl ⊢;exact .of_eq (h us hl)
def q6u (CX:CXT) (X:Cx) (E:XK):Prop:=∀ (pins:List (Addr×Obj)) (σ:St) (H:Hp) (s:Shared) (e:Value) (s':Shared),Inv X pins σ H s ->CX X.stack H s E e s' ->X.xe e s'
section
variable {X:Cx} {CX:CXT} {k:Nat} {f C:Addr} {fd:FuncData} {ps:List Str} {sp:Sp} {dvs:List V} {ds:List Value} {E:XK} {x m:Str} {p pos apos:Pos} {e o:Expr} {es:List Expr} {ta:TE} {t:TA}
theorem qby {pins:List (Addr×Obj)} {σ:St} {H:Hp} {s:Shared} {Q:VK} {us:List Value} {vs:List V} (F:FnOk X.prog X.w X.K X.mg X.base CX k f fd ps sp) (hr:Room k X.A) (hb:Binds X.K fd ps ds) (hd:Vals dvs ds) (hx:q6u CX X E)
  (I:Inv X pins σ H s) (r:Vals vs us) (h:sp (vs++dvs) H Q E):wpAny (model X.prog X.w) X.A (call (.ref f) us) (EP X pins σ Q) X.xe s:=by
 have r2:Vals (vs++dvs) (us++ds):=r.append hd;have hl:(us++ds).length=ps.length:=by rw [<- r2.length];exact F.len _ _ _ _ h
 refine wpAny_call (z3l (F.run X.A X.stack s H ⟨us,[]⟩ (us++ds) (vs++dvs) Q E hr I.env0 (hb s us I.kIn hl) r2 h) λ r s' hq=> ?_);cases r with
 | error e=>exact hx pins σ H s e s' I hq
 | ok fl=>
  cases fl with
  | ret u=>exact I.after hq
  | next=>exact False.elim hq
  | brk=>exact False.elim hq
  | cont=>exact False.elim hq
theorem qrc (F:FnOk X.prog X.w X.K X.mg X.base CX k f fd ps sp) (hr:Room k X.A) (hg:Gl X x) (hm:X.mg x=some (.ref f)) (hk:PySem.W.keepIn X.K (.ref f)=true) (hb:Binds X.K fd ps ds) (hd:Vals dvs ds) (hx:q6u CX X E)
  (ha:PA X (e::es) t) (J:(x==("__debug__":Str))=false:=by decide) (he:starEach (e::es) X.env=(false,eval e X.env)::starEach es X.env:=by rfl) (L:(backTo pos (starEach es X.env)).any (·.1)=false:=by rfl):
  PE X (.Call (.Name x p) (e::es) [] pos) (qqg sp dvs E t):=by
 intro pins s σ H Q I h;refine z1j (q9n I hg hm ?_ J);refine PySem.W.callWith_K (h₀:=X.base) I.ok.mod.kin hk (thn (ha pos pins s σ H _ I h) λ us s1 ⟨vs,H1,I1,r,q⟩=>⟨I1.kIn,?_⟩) he L;exact qby F hr hb hd hx I1 r q
theorem qrd {pl:Sem Bool} (he:PE X o ta) (c:Cls X.K C) (Y:Meth X.K C m f) (F:FnOk X.prog X.w X.K X.mg X.base CX k f fd ps sp) (hr:Room k X.A) (hb:Binds X.K fd ps ds) (hd:Vals dvs ds) (hx:q6u CX X E) (ha:PA X (e::es) t)
  (L:starEach (e::es) X.env=(false,eval e X.env)::starEach es X.env:=by rfl) (J:(backTo pos (starEach es X.env)).any (·.1)=false:=by rfl)
  (ht:eval (.Call (.Attribute o m apos) (e::es) [] pos) X.env=(do
   let ov <- eval o X.env
   standAt apos.atName
   let (f,first) <- holding [ov] (getMethod ov m pl)
   callWith pos f first (backTo pos (starEach (e::es) X.env)) (backToKw pos (keywordEach [] X.env))):=by rfl):
  PE X (.Call (.Attribute o m apos) (e::es) [] pos) (qqh C m sp dvs E ta t):=by
 intro pins s σ H Q I h;refine PySem.W.methodCall_KW (pl:=pl) (thn (he pins s σ H _ I h) λ u s1 O=> ?_) ht;obtain ⟨x,H1,I1,rx,a,dx,fs,ex,ea,l,q⟩:=O;subst ex;obtain rfl:u=Value.ref a:=rx;refine q7e I1 ea c Y l ?_;refine PySem.W.callWith_K (first:=[.ref a]) (h₀:=X.base) I.ok.mod.kin Y.kp (thn (ha pos pins s1 σ H1 _ I1 q) λ us s2 ⟨vs,H2,I2,r,q2⟩=>⟨I2.kIn,?_⟩) L J;exact qby (us:= .ref a::us) (vs:= .ref a::vs) F hr hb hd hx I2 (.cons rfl r) q2
structure Mk (K:PySem.W.Frag) (C f:Addr):Prop where
 makes:PySem.W.makesIn K C=true
 init:PySem.W.findIn K (.ref C) "__init__"=some (some (.ref f))
 fn:PySem.W.isFn K (.ref f)=true
 kp:PySem.W.keepIn K (.ref C)=true
theorem qoo {pins:List (Addr×Obj)} {σ:St} {H:Hp} {s:Shared} {Q:VK} {us:List Value} {vs:List V} (M:Mk X.K C f) (F:FnOk X.prog X.w X.K X.mg X.base CX k f fd ps sp) (hr:Room (k+1) X.A) (hb:Binds X.K fd ps ds) (hd:Vals dvs ds)
  (hx:q6u CX X E) (I:Inv X pins σ H s) (r:Vals vs us)
  (h:∀ x dx,H x=none ->H dx=none ->dx≠x ->sp (.ref x::(vs++dvs)) (upd (upd H dx (.own x)) x (.ins C dx [])) (λ v H2=>v= .non/\Q (.ref x) H2) E):
  wpAny (model X.prog X.w) X.A (call (.ref C) us) (EP X pins σ Q) X.xe s:=by
 have hq:=h (s.heap.objs.size+1) s.heap.objs.size (I.hok.fresh (Nat.le_succ _)) (I.hok.fresh (z3q _)) (z3i (z2a _));have I2:=Inv.made (C:=C) I;have r2:Vals (V.ref (s.heap.objs.size+1)::(vs++dvs)) (Value.ref (s.heap.objs.size+1)::(us++ds)):= .cons rfl (r.append hd);have hl:(Value.ref (s.heap.objs.size+1)::us++ds).length=ps.length:=by
  have e:=r2.length;rw [F.len _ _ _ _ hq] at e;exact e.symm
 refine wpAny_call (qon (f:=f) I.kIn M.makes M.init (beq_iff_eq.mp M.fn) (z3l (F.run _ X.stack _ _ ⟨Value.ref (s.heap.objs.size+1)::us,[]⟩ (Value.ref (s.heap.objs.size+1)::(us++ds)) _ _ E (hr.make C us [])
  (I2.env0.make C us []) (hb _ (Value.ref (s.heap.objs.size+1)::us) I2.kIn hl) r2 hq) λ r s' J=> ?_))
 cases r with
 | error e=>exact hx pins σ _ _ e s' I2 J
 | ok fl=>
  cases fl with
  | ret u=>
   obtain ⟨v,H',I3,rv,ev,q3⟩:=I2.after J;subst ev;exact ⟨rv,⟨V.ref (s.heap.objs.size+1),H',I3,zr,q3⟩⟩
  | next=>exact False.elim J
  | brk=>exact False.elim J
  | cont=>exact False.elim J
theorem qre (M:Mk X.K C f) (F:FnOk X.prog X.w X.K X.mg X.base CX k f fd ps sp) (hr:Room (k+1) X.A) (hg:Gl X x) (hm:X.mg x=some (.ref C)) (hb:Binds X.K fd ps ds) (hd:Vals dvs ds) (hx:q6u CX X E)
  (ha:PA X (e::es) t) (J:(x==("__debug__":Str))=false:=by decide) (he:starEach (e::es) X.env=(false,eval e X.env)::starEach es X.env:=by rfl) (L:(backTo pos (starEach es X.env)).any (·.1)=false:=by rfl):
  PE X (.Call (.Name x p) (e::es) [] pos) (qqi C sp dvs E t):=by
 intro pins s σ H Q I h;refine z1j (q9n I hg hm ?_ J);refine PySem.W.callWith_K (h₀:=X.base) I.ok.mod.kin M.kp (thn (ha pos pins s σ H _ I h) λ us s1 ⟨vs,H1,I1,r,q⟩=>⟨I1.kIn,?_⟩) he L;exact qoo M F hr hb hd hx I1 r q
end
def PK (X:Cx) (kws:List Keyword) (t:TA):Prop:=
 ∀ (pos:Pos) (pins:List (Addr×Obj)) (s:Shared) (σ:St) (H:Hp) (Q:List V ->Hp ->Prop),Inv X pins σ H s ->t σ H Q ->wpAny (model X.prog X.w) X.A (evalAll ((backToKw pos (keywordEach kws X.env)).map (·.2))) (AP X pins σ Q) X.xe s
section
variable {X:Cx} {CX:CXT} {k:Nat} {f C:Addr} {fd:FuncData} {ps ks:List Str} {sp:Sp} {E:XK} {x m:Str} {p pos apos kpos:Pos} {e o:Expr} {es:List Expr} {kws:List Keyword} {te ta:TE} {t tk:TA} {nm:Option Str}
theorem qtr:PK X [] tNil:=λ _ _ _ _ H Q I h=>wpAny_evalAll_nil ⟨[],H,I,.nil,h⟩
theorem qrf (ha:PE X e te) (hr:PK X kws t):PK X (⟨nm,e,kpos⟩::kws) (q1w te t):=by
 intro pos pins s σ H Q I h;show wpAny _ _ (evalAll ((do let v <- eval e X.env;standAt pos;pure v)::(backToKw pos (keywordEach kws X.env)).map (·.2))) _ _ s;refine wpAny_evalAll_cons (z3w (thn (ha pins s σ H _ I h) λ u s1 ⟨x,H1,I1,r1,q1⟩=>z3w (wpAny_standAt (z3v ?_))));exact thn (hr pos pins s1 σ H1 _ I1 q1) λ us s2 ⟨xs,H2,I2,r2,q2⟩=>⟨x::xs,H2,I2,.cons r1 r2,q2⟩
variable {g:List Value ->List Value ->List Value} {gV:List V ->List V ->List V}
end
structure FnScope (N P:List Str) (sc:Scope):Prop where
 kind:sc.kind= .function
 co:sc.isCoroutine=false
 gen:sc.isGenerator=false
 nd:N.Nodup
 pre:N.take P.length=P
 par:∀ x∈P,sc.names.lookup x=some .local\/ sc.names.lookup x=some .cell
 nofree:∀ y∈sc.names,y.2≠ .free
theorem qdy {kindOf:Str ->Option NameKind} {x:Str}:∀ {J:List (Str×Value)} {m:Str ->Option Value},(∀ v,(x,v)∉J) ->bindL kindOf J m x=m x
  | [],_,_=>rfl
  | (n,v)::r,m,h=>by
    unfold bindL;rw [qdy λ w hw=>h w (z10 _ hw)];split
    · have:x≠n:=by rintro rfl;exact h v z1g
      simp [this]
    · rfl
theorem qdz {kindOf:Str ->Option NameKind} {x:Str}:∀ {J:List (Str×Value)} {m:Str ->Option Value},(∀ v,(x,v)∉J) ->bindC kindOf J m x=m x
  | [],_,_=>rfl
  | (n,v)::r,m,h=>by
    unfold bindC;rw [qdz λ w hw=>h w (z10 _ hw)];split
    · rfl
    · have:x≠n:=by rintro rfl;exact h v z1g
      simp [this]
theorem qe0 {kindOf:Str ->Option NameKind} {x:Str} {v:Value}:∀ {P:List Str} {vs:List Value} {i:Nat} {m:Str ->Option Value},P.Nodup ->P[i]? =some x ->vs[i]? =some v ->kindOf x=some .local ->
  bindL kindOf (P.zip vs) m x=some v
 | [],_,_,_,_,h,_,_=>by simp at h
 | _::_,[],_,_,_,_,h,_=>by simp at h
 | p::P,w::vs,0,m,nd,h1,h2,J=>by
  simp at h1 h2;subst h1;subst h2
  show bindL kindOf ((p,w)::P.zip vs) m p=_;unfold bindL;rw [qdy λ v hv=>(z2q.mp nd).1 (List.of_mem_zip hv).1,if_pos J];simp
 | p::P,w::vs,i+1,m,nd,h1,h2,J=>by
  show bindL kindOf ((p,w)::P.zip vs) m x=_;unfold bindL;exact qe0 (i:=i) (z2q.mp nd).2 (by simpa using h1) (by simpa using h2) J
theorem qe1 {kindOf:Str ->Option NameKind} {x:Str} {v:Value}:∀ {P:List Str} {vs:List Value} {i:Nat} {m:Str ->Option Value},P.Nodup ->P[i]? =some x ->vs[i]? =some v ->kindOf x≠some .local ->
  bindC kindOf (P.zip vs) m x=some v
 | [],_,_,_,_,h,_,_=>by simp at h
 | _::_,[],_,_,_,_,h,_=>by simp at h
 | p::P,w::vs,0,m,nd,h1,h2,J=>by
  simp at h1 h2;subst h1;subst h2
  show bindC kindOf ((p,w)::P.zip vs) m p=_;unfold bindC;rw [qdz λ v hv=>(z2q.mp nd).1 (List.of_mem_zip hv).1,if_neg J];simp
 | p::P,w::vs,i+1,m,nd,h1,h2,J=>by
  show bindC kindOf ((p,w)::P.zip vs) m x=_;unfold bindC;exact qe1 (i:=i) (z2q.mp nd).2 (by simpa using h1) (by simpa using h2) J
def start (N:List Str) (vs:List V):St:=vs.map some++List.replicate (N.length - vs.length) none
def cxOf (CX:CXT) (P:Program) (w:World) (K:PySem.W.Frag) (mg:Str ->Option Value) (base:Heap) (N:List Str) (qual:Str) (scope:Scope) (f:Addr) (cd:Value) (A:Around) (outer:List Env) (s:Shared) (H:Hp) (E:XK):Cx where
 prog:=P
 w:=w
 K:=K
 mg:=mg
 base:=base
 A:=A.deeper (envOfC qual scope s.heap.objs.size f cd)
 N:=N
 s₀:=s
 H₀:=H
 env:=envOfC qual scope s.heap.objs.size f cd
 outer:=outer
 stack:=envOfC qual scope s.heap.objs.size f cd::outer
 ex:=[]
 calm:=true
 fn:=λ _=>true
 pn:=[]
 xe:=λ e s'=>wpAny (model P w) (A.deeper (envOfC qual scope s.heap.objs.size f cd)) (leaving (envOfC qual scope s.heap.objs.size f cd) e) (λ _ s''=>CX outer H s E e s'') (λ e' s''=>CX outer H s E e' s'') s'
theorem qg1 {J:Scope} {n:Nat} {x:Str} (h:J.names.lookup x=some .cell):∃ c,(cellsFrom n J.names []).lookup x=some c:=by
 have q:=PySem.W.cellsFrom_some J.names n [] (.inl h);exact Option.isSome_iff_exists.mp q
theorem qm5 {CX:CXT} {P:Program} {w:World} {K:PySem.W.Frag} {mg:Str ->Option Value} {base:Heap} {N ps:List Str} {qual:Str} {scope:Scope} {f:Addr} {cd:Value} {A:Around} {outer:List Env} {s s1:Shared} {H:Hp} {E:XK} {us:List Value} {vs:List V}
    (S:FnScope N ps scope) (hd:A.handled=none) (J:Env0 P w K mg base A outer s H) (hl:vs.length=ps.length) (r:Vals vs us)
    (x:InCallC s s.heap.objs.size (bindL (envOfC qual scope s.heap.objs.size f cd).kindOf (ps.zip us) λ _=>none) (cellsFrom (s.heap.objs.size+1) scope.names []) (bindC (envOfC qual scope s.heap.objs.size f cd).kindOf (ps.zip us) λ _=>none) s1):
    Inv (cxOf CX P w K mg base N qual scope f cd A outer s H E) [] (start N vs) H s1:=by
  have hpl:ps.length<=N.length:=by have:=congrArg List.length S.pre;rw [z25] at this;omega
  obtain ⟨h1,tk,rfl,Z⟩:=x.done;have L:∀ b:Addr,b∉(cxOf CX P w K mg base N qual scope f cd A outer s H E).ex:=λ b z=>absurd (show b∈([]:List Addr) from z) (by simp);refine ⟨⟨J.mod,S.kind,zr,zr,z3q _,λ y z c h1 h2=> ?_,λ y hy=> ?_,λ y c _ h=> ?_,λ _=>hd,Around.frames_deeper J.frames,.inr ⟨zr,zr⟩,λ b z=>absurd z (L b),J.bs,J.bsz,λ b _ _=>L b,λ b z=>absurd z (L b),J.funs,J.frf⟩,
    rfl,J.bare,Un.kept Z,⟨_,x.toInCall.ns,λ i y v h1 h2 h3=> ?_⟩,λ y c h=>⟨_,x.cell y c h⟩,J.hok.fresh (z3q _),λ y c h=> ?_,λ p O=>absurd (show p∈([]:List (Addr×Obj)) from O) (by simp),J.hok.kept Z,?_⟩
  · exact name_of_addr x.apart (z17 h1) (z17 h2)
  · have hy:scope.names.lookup y=some .cell\/ scope.names.lookup y=some .free:=hy
    rcases hy with hy | hy
    · exact qg1 hy
    · exact absurd rfl (S.nofree _ (z17 hy))
  · exact z3g (x.above y c (z17 h))
  · have hi:i < vs.length:=by
      unfold start at h2;by_cases hi:i < vs.length
      · exact hi
      · rw [z04 (by simpa using hi)] at h2
        rw [List.getElem?_replicate] at h2;split at h2 <;> cases h2
    have ha:vs[i]? =some v:=by
      unfold start at h2;rw [List.getElem?_append_left (by simpa using hi),z1s] at h2;cases e:vs[i]? with
      | none=>rw [e] at h2;cases h2
      | some a=>rw [e] at h2;cases h2;rfl
    obtain ⟨u,hu,rv⟩:=r.get ha;have O:ps[i]? =some y:=by
      rw [<- S.pre,List.getElem?_take_of_lt (by omega)];exact h1
    have Y:ps.Nodup:=by rw [<- S.pre];exact S.nd.sublist (List.take_sublist _ _)
    refine ⟨u,rv,?_⟩;rcases S.par y (z12 O) with k | k
    · exact .inl ⟨k,qe0 Y O hu k⟩
    · obtain ⟨c,e⟩:=qg1 (n:=s.heap.objs.size+1) k
      refine .inr ⟨.inl k,c,e,?_⟩;have q:=x.cell y c e;rw [qe1 Y O hu (by show scope.names.lookup y≠_;rw [k];decide)] at q;exact q
  · exact J.hok.fresh (z3g (x.above y c (z17 h)))
  · unfold start
    show _=N.length;rw [z1f,z2o,List.length_replicate];omega
theorem qwg {CX:CXT} {P:Program} {w:World} {K:PySem.W.Frag} {mg:Str ->Option Value} {base:Heap} {k:Nat} {f:Addr} {name qual:Str} {params:Arguments} {body:List Stmt} {scope:Scope} {dV kV Z pm cdv ct oc:Value} {an od:Option Addr}
  {a5:Array (Option Value)} {N ps:List Str} {sp:Sp} (lk:K.lookup f=some ⟨oc,od,.func (PySem.W.fnOf name qual params body scope dV kV Z pm an cdv ct),a5⟩) (a2:PySem.W.codeIn K cdv qual=true) (S:FnScope N ps scope)
  (len:∀ vs H Q E,sp vs H Q E ->vs.length=ps.length)
  (L:∀ (A:Around) (outer:List Env) (s:Shared) (H:Hp) (vs:List V) (Q:VK) (E:XK),Room k (A.deeper (envOfC qual scope s.heap.objs.size f cdv)) ->sp vs H Q E ->
   ∃ t,PSs (cxOf CX P w K mg base N qual scope f cdv A outer s H E) body t/\t {nx:=λ _ H'=>Q .non H',rt:=Q} (start N vs) H):
  FnOk P w K mg base CX (k+1) f (PySem.W.fnOf name qual params body scope dV kV Z pm an cdv ct) ps sp:=by
 refine ⟨len,λ A outer s H args us vs Q E hr e0 hb r a0=> ?_⟩;have hl:=len _ _ _ _ a0;have KX:K.In s.heap:=e0.mod.kin.keeps λ b o e=>(e0.bs b o e).1;have a3:s.heap.NoLimit:=e0.mod.nolimit.keeps λ b o e=>(e0.bs b o e).1;have O:∀ y∈ps.zip us,scope.names.lookup y.1=some .local\/ (scope.names.lookup y.1=some .cell/\((cellsFrom (s.heap.objs.size+1) scope.names []).lookup y.1).isSome=true):=λ ⟨n,v⟩ hy=>by
  rcases S.par n (List.of_mem_zip hy).1 with q | q
  ·exact .inl q
  ·exact .inr ⟨q,PySem.W.cellsFrom_some _ _ _ (.inl q)⟩
 refine codeAny_call_function hr.depth (KX _ _ lk) rfl S.co S.gen rfl (PySem.W.codeRec_of KX a2) (hb _ _ _ _ ?_);refine wpAny_newFunctionEnv_cells S.kind O λ env he s1 x=> ?_;subst he;refine ⟨a3.keeps x.toInCall.keep,codeAny_func ?_⟩;obtain ⟨t,ht,hq⟩:=L A outer s H vs Q E (hr.deeper _) a0;have I:Inv (cxOf CX P w K mg base N qual scope f cdv A outer s H E) [] (start N vs) H s1:=qm5 S hr.hd e0 hl r x;refine z3x (ht [] s1 (start N vs) H _ I hq) (λ fl s' Y=> ?_) λ e s' Y=>Y;have fin:∀ {σ':St} {H':Hp} {v:V} {u:Value},Inv (cxOf CX P w K mg base N qual scope f cdv A outer s H E) [] σ' H' s' ->RelV v u ->Q v H' ->CE outer P w H s Q u s':=
  λ {σ' H' v u} J rv q=>⟨v,H',J.os,J.bare,J.base,J.hok,rv,q⟩
 cases fl with
 | ret u=>
  obtain ⟨v,σ',H',J,rv,q⟩:=Y;exact fin J rv q
 | next=>
  obtain ⟨σ',H',J,q⟩:=Y;exact fin (v:=V.non) (u:=Value.none) J rfl q
 | brk=>
  obtain ⟨_,_,_,q⟩:=Y;exact False.elim q
 | cont=>
  obtain ⟨_,_,_,q⟩:=Y;exact False.elim q
section
variable {X:Cx} {x:Str} {p pos:Pos} {e:Expr} {es:List Expr} {t:TA} {id T:String} {r:List V ->Hp ->VK ->Prop}
def tCB (r:List V ->Hp ->VK ->Prop) (t:TA):TE:=λ σ H Q=>t σ H λ vs H1=>r vs H1 Q
theorem ql (hc:q23 X (.builtin id) r) (hg:Gl X x) (hm:X.mg x=none) (hv:bootBuiltins x=some (.builtin id)) (ha:PA X (e::es) t) (hn:x≠"__name__":=by decide) (J:(x==("__debug__":Str))=false:=by decide)
  (he:starEach (e::es) X.env=(false,eval e X.env)::starEach es X.env:=by rfl) (L:(backTo pos (starEach es X.env)).any (·.1)=false:=by rfl):PE X (.Call (.Name x p) (e::es) [] pos) (tCB r t):=by
 intro pins s σ H Q I h;refine z1j (q5p I hg hm hv ?_ hn J);exact PyProof.Rows.callWith_builtin1 (thn (ha pos pins s σ H _ I h) λ us s1 ⟨vs,H1,I1,r1,q1⟩=>hc pins s1 σ H1 vs us Q I1 r1 q1) he L
theorem q2u (hc:q23 X (.type T) r) (hg:Gl X x) (hm:X.mg x=none) (hv:bootBuiltins x=some (.type T)) (ha:PA X (e::es) t) (hn:x≠"__name__":=by decide) (J:(x==("__debug__":Str))=false:=by decide)
  (he:starEach (e::es) X.env=(false,eval e X.env)::starEach es X.env:=by rfl) (L:(backTo pos (starEach es X.env)).any (·.1)=false:=by rfl):PE X (.Call (.Name x p) (e::es) [] pos) (tCB r t):=by
 intro pins s σ H Q I h;refine z1j (q5p I hg hm hv ?_ hn J);exact z02 (thn (ha pos pins s σ H _ I h) λ us s1 ⟨vs,H1,I1,r1,q1⟩=>hc pins s1 σ H1 vs us Q I1 r1 q1) he L
end
end L2
namespace HT
open PySem PyProof.Rows
section
open PySem.SeqAt
open PySem.AutoSeq1 (wpAny_loadPart')
open PySem.MeetsSeq PySem.MeetsSeq2 PySem.MeetsSeq3
end
section
variable {prog:Program} {w:World} {A:Around} {E:Value ->Shared ->Prop} {s:Shared}
theorem cat_tup {t b:Addr} {vs ws:List Value} {Q:Value ->Shared ->Prop} (ht:IsTup s.heap t vs.toArray) (hb:IsTup s.heap b ws.toArray) (hv:vs≠ [])
  (h1:ws=[] ->Q (.ref t) s) (h2:ws≠ [] ->Q (.ref s.heap.objs.size) {s with heap:=s.heap.push {cls:= .type "tuple",data:= .seq (vs++ws).toArray}})
  (hsz:vs.length+ws.length<=sizeLine):wpAny (model prog w) A (binaryOp .Add (.ref t) (.ref b)) Q E s:=by
 obtain ⟨⟨cls,dd,data,sl⟩,ho,hc,n,hd⟩:=id ht;obtain ⟨⟨a2,L,a0,Z⟩,J,O,n2,Y⟩:=id hb;simp only at hc hd O Y;subst hc hd O Y;have e:vs.toArray++ws.toArray=(vs++ws).toArray:=by simp
 by_cases hw:ws=[]
 ·exact concat_meets ⟨_,ho,zr⟩ ⟨_,J,zr⟩ noFill_tuple_add seq_tuple_add PySem.F.slot_tuple_add PySem.F.entry_tuple_add (PySem.F.args_tuple_add_2 _ _)
   (tuple_addW1 t b vs.toArray ws.toArray n n2 dd L sl Z (by simpa using hv) (by simp [hw])) ⟨ho,J,h1 hw⟩
 ·refine concat_meets ⟨_,ho,zr⟩ ⟨_,J,zr⟩ noFill_tuple_add seq_tuple_add PySem.F.slot_tuple_add PySem.F.entry_tuple_add (PySem.F.args_tuple_add_2 _ _)
   (tuple_addW2 t b vs.toArray ws.toArray n n2 dd L sl Z (by simpa using hv) (by simpa using hw) (by rw [z1t,z1t];exact hsz)) ⟨ho,J,?_⟩
  rw [e];exact h2 hw
def sIx (n d:Nat):Option Int ->Nat
 | none=>d
 | some v=>if v < 0 then (v+(n:Int)).toNat else min v.toNat n
theorem sIx_none (n d:Nat):sIx n d none=d:=rfl
theorem sIx_nat (n d k:Nat):sIx n d (some (k:Int))=min k n:=by
 show (if (k:Int) < 0 then ((k:Int)+(n:Int)).toNat else min (k:Int).toNat n)=min k n;rw [if_neg (by omega),z1w]
theorem sIx_le (n d:Nat) (hd:d<=n) (o:Option Int):sIx n d o<=n:=by
 cases o with
 | none=>exact hd
 | some v=>
  show (if v < 0 then (v+(n:Int)).toNat else min v.toNat n)<=n;by_cases J:v < 0
  ·rw [if_pos J];omega
  ·rw [if_neg J];exact Nat.min_le_right _ _
theorem clip_eq (v:Int) (n d:Nat):(if v < 0 then max (v+(n:Int)) 0 else min v (n:Int))=((sIx n d (some v):Nat):Int):=by
 show (if v < 0 then max (v+(n:Int)) 0 else min v (n:Int))=(((if v < 0 then (v+(n:Int)).toNat else min v.toNat n):Nat):Int);by_cases J:v < 0
 ·simp only [if_pos J];omega
 ·simp only [if_neg J];omega
theorem qka (lo hi:Option Int) (n:Nat):Builtin.Slice.sliceAdjust lo hi 1 (n:Int)=(((sIx n 0 lo:Nat):Int),((sIx n n hi:Nat):Int)):=by
 have h1:¬ ((1:Int) < 0):=by omega
 unfold Builtin.Slice.sliceAdjust;simp only [h1,if_false];refine Prod.ext ?_ ?_
 ·cases lo with
  | none=>rfl
  | some v=>exact clip_eq v n 0
 ·cases hi with
  | none=>rfl
  | some v=>exact clip_eq v n n
theorem qkb (i j:Nat):Builtin.Slice.slicePlaces (i:Int) (j:Int) 1=j - i:=by
 unfold Builtin.Slice.slicePlaces;have h1:(1:Int) > 0:=by omega
 simp only [h1,if_true,Int.ediv_one];split <;> omega
theorem qbz {v:Value} {o:Option Int} {Q:Option Int ->Shared ->Prop} (p:IsPart v o) (h:Q o s):wpAny (model prog w) A (Builtin.Slice.slicePartIndex v) Q E s:=by
 cases p with
 | none=>exact slicePart_none h
 | int i t=>exact slicePart_int h
theorem qb3 {Z:Addr} {O Y:Value} {lo hi:Option Int} {n:Nat} {Q:Int×Int×Nat ->Shared ->Prop} (hs:s.heap.IsSliceOf Z O Y .none) (pl:IsPart O lo) (pu:IsPart Y hi)
  (h:Q (((sIx n 0 lo:Nat):Int),1,sIx n n hi - sIx n 0 lo) s):wpAny (model prog w) A (Builtin.Slice.sliceApplied (.ref Z) (pure (n:Int))) Q E s:=by
 obtain ⟨os,L,hcs,J⟩:=id hs;unfold Builtin.Slice.sliceApplied Builtin.Slice.sliceFields;refine z3w (z3w (wpAny_field L J (x:=O) rfl (z3w (wpAny_field L J (x:=Y) rfl (z3w (wpAny_field L J (x:= .none) rfl (z3v ?_)))))));refine z3w (slicePart_none ?_);show wpAny _ _ (if ((1:Int)==0)=true then _ else _) _ _ s;rw [if_neg (by decide)];refine z3w (qbz pl (z3w (qbz pu (z3w (z3v ?_)))));show wpAny _ _ (match Builtin.Slice.sliceAdjust lo hi 1 (n:Int) with | (lo,hi)=>pure (lo,(1:Int),Builtin.Slice.slicePlaces lo hi 1)) _ _ s;rw [qka lo hi n];show wpAny _ _ (pure (((sIx n 0 lo:Nat):Int),(1:Int),Builtin.Slice.slicePlaces ((sIx n 0 lo:Nat):Int) ((sIx n n hi:Nat):Int) 1)) _ _ s;rw [qkb];exact z3v h
theorem qop (xs:Array Value) (i k:Nat):((List.range k).filterMap λ (m:Nat)=>xs[((i:Int)+(m:Int)*1).toNat]?).toArray=((xs.toList.drop i).take k).toArray:=by
 have e:(λ (m:Nat)=>xs[((i:Int)+(m:Int)*1).toNat]?)=λ m=>xs[i+m]? :=by
  funext m
  have:((i:Int)+(m:Int)*1).toNat=i+m:=by omega
  rw [this]
 rw [e];have:=pick_run xs i k;rw [List.filterMap_map] at this;have e2:((λ x=>xs[x]?)∘λ x=>i+x)=λ m=>xs[i+m]? :=rfl;rw [e2] at this;rw [this]
theorem getItem_tuple_cut {t sl:Addr} {J:Array Value} {vl vu:Value} {lo hi:Option Int} {Q:Value ->Shared ->Prop} (O:IsTup s.heap t J) (hs:s.heap.IsSliceOf sl vl vu .none) (pl:IsPart vl lo) (pu:IsPart vu hi)
    (hw:¬ (sIx J.size 0 lo=0/\sIx J.size J.size hi=J.size))
    (h:Q (.ref s.heap.objs.size) {s with heap:=s.heap.push {cls:= .type "tuple",data:= .seq ((J.toList.drop (sIx J.size 0 lo)).take (sIx J.size J.size hi - sIx J.size 0 lo)).toArray}})
    (hsz:J.size<=sizeLine):wpAny (model prog w) A (getItem (.ref t) (.ref sl)) Q E s:=by
  have L:sizeOk (.seq ((J.toList.drop (sIx J.size 0 lo)).take (sIx J.size J.size hi - sIx J.size 0 lo)).toArray):=by
    show ((J.toList.drop (sIx J.size 0 lo)).take (sIx J.size J.size hi - sIx J.size 0 lo)).toArray.size<=sizeLine;rw [z1t,z25,z26,z13];omega
  have hj:sIx J.size J.size hi<=J.size:=sIx_le _ _ (z3q _) hi;obtain ⟨os,a2,Z,hds⟩:=id hs;have Y:s.TypeIs (.ref sl) "slice":=⟨os,a2,Z⟩;unfold getItem
  try with_reducible refine z38 ?_
  first | refine z3w (z3v ?_) | skip
  refine z3w (wpAny_sequenceKey O.typeIs (by decide) ?_);refine z3w (wpAny_callSpecial?_slot (name:=Str.ofString "__getitem__") O.typeIs PyProof.Rows.slot_tuple_getitem
    (z2d PyProof.Rows.slot_tuple_getitem O.typeIs entry_tuple_getitem ?_ (args_tuple_getitem _ _)))
  show wpAny _ _ (Builtin.Tuple.tupleItemsOf (.ref t) >>=_) _ _ s;refine z3w (tupleItemsOf_ O ?_);refine z3w (wpAny_typeOf Y ?_);rw [if_pos (by decide)];refine z3w (qb3 hs pl pu ?_);have a0:¬ ((((sIx J.size 0 lo:Nat):Int)==0&&(1:Int)==1&&(sIx J.size J.size hi - sIx J.size 0 lo)==J.size)=true):=by
    intro q;rw [z2b,z2b] at q;have q1:((sIx J.size 0 lo:Nat):Int)=0:=eq_of_beq q.1.1;have q2:sIx J.size J.size hi - sIx J.size 0 lo=J.size:=eq_of_beq q.2;exact hw ⟨by omega,by omega⟩
  show wpAny _ _ (if (((sIx J.size 0 lo:Nat):Int)==0&&(1:Int)==1&&(sIx J.size J.size hi - sIx J.size 0 lo)==J.size)=true then _ else _) _ _ s;rw [if_neg a0,qop]
  first
    | exact z3w (m:=Builtin.Tuple.tupleExact _) (z1y (z3v ⟨_,rfl,z3v h⟩) L)
    | exact z3w (m:=Builtin.Tuple.tupleExact _) (z1y (z3w (z3v (z3v ⟨_,rfl,z3v h⟩))) L)
    | exact z3w (z3w (m:=Builtin.Tuple.tupleExact _) (z1y (z3v (z3v ⟨_,rfl,z3v h⟩)) L))
    | exact z3w (z3w (m:=Builtin.Tuple.tupleExact _) (z1y (z3v ⟨_,rfl,z3v h⟩) L))
end
end HT
namespace L2
open PySem PySem.Spec PyProof.Rows
abbrev TO:=St ->Hp ->(Option Int ->Hp ->Prop) ->Prop
def PO (X:Cx) (e:Option Expr) (t:TO):Prop:=
 ∀ (pins:List (Addr×Obj)) (s:Shared) (σ:St) (H:Hp) (Q:Option Int ->Hp ->Prop),Inv X pins σ H s ->t σ H Q ->
  wpAny (model X.prog X.w) X.A (evalPart e X.env) (λ u s'=>∃ o H',Inv X pins σ H' s'/\IsPart u o/\Q o H') X.xe s
def qrg:TO:=λ _ H Q=>Q none H
def qwh (t:TE):TO:=λ σ H Q=>t σ H λ x H1=>∃ i,x= .int i/\Q (some i) H1
section
variable {X:Cx} {e:Expr} {te:TE} {lo hi:Option Expr} {tl th:TO} {pos p2:Pos}
theorem qj0:PO X none qrg:=by
 intro pins s σ H Q I h;rw [evalPart_none];exact z3v ⟨none,H,I,.none,h⟩
theorem q9p (h:PE X e te):PO X (some e) (qwh te):=by
 intro pins s σ H Q I hw;rw [evalPart_some];refine thn (h pins s σ H _ I hw) λ u s1 J=> ?_;obtain ⟨x,H1,I1,r1,q1⟩:=J;obtain ⟨i,rfl,q⟩:=q1;obtain ⟨t,rfl⟩:=r1;exact ⟨some i,H1,I1,.int i t,q⟩
def SlR (X:Cx) (r:V ->Option Int ->Option Int ->Hp ->VK ->Prop):Prop:=
 ∀ (pins:List (Addr×Obj)) (s:Shared) (σ:St) (H:Hp) (x:V) (v vl vu:Value) (lo hi:Option Int) (sl:Addr) (Q:VK),Inv X pins σ H s ->RelV x v ->s.heap.IsSliceOf sl vl vu .none ->IsPart vl lo ->IsPart vu hi ->r x lo hi H Q ->
  ∃ T id,typeLookup (.type T) "__getitem__"=pure (some (.builtin id))/\s.TypeIs v T/\wpAny (model X.prog X.w) X.A (getItem v (.ref sl)) (EP X pins σ Q) X.xe s
def tSl (r:V ->Option Int ->Option Int ->Hp ->VK ->Prop) (te:TE) (tl th:TO):TE:=λ σ H Q=>te σ H λ x H1=>tl σ H1 λ l H2=>th σ H2 λ u H3=>r x l u H3 Q
theorem qb4 {r:V ->Option Int ->Option Int ->Hp ->VK ->Prop} (hr:SlR X r) (he:PE X e te) (hl:PO X lo tl) (hu:PO X hi th):PE X (.Subscript e (.Slice lo hi none p2) pos) (tSl r te tl th):=by
 intro pins s σ H Q I h;refine Subscript_ (thn (he pins s σ H _ I h) λ v s1 J=> ?_);obtain ⟨x,H1,I1,r1,q1⟩:=J;refine wpAny_Slice (thn (hl pins s1 σ H1 _ I1 q1) λ L s2 ⟨l,H2,I2,pl,q2⟩=>thn (hu pins s2 σ H2 _ I2 q2) λ O s3 J=> ?_);obtain ⟨u,H3,I3,pu,q3⟩:=J;rw [evalPart_none];refine z3v ?_;have I4:Inv X pins σ H3 {s3 with heap:=s3.heap.push {cls:= .type "slice",data:= .fields #[L,O,.none]}}:=I3.kept (t':=s3.toks) λ b ob q=>z0k _ q;obtain ⟨T,id,hT,ht,hg⟩:=hr pins {s3 with heap:=s3.heap.push {cls:= .type "slice",data:= .fields #[L,O,.none]}} σ H3 x v L O l u s3.heap.objs.size Q I4 r1 (Heap.IsSliceOf.new ..) pl pu q3;show wpAny (model X.prog X.w) X.A (subscriptTail e (.Slice lo hi none p2) v (.ref s3.heap.objs.size)) (EP X pins σ Q) X.xe {s3 with heap:=s3.heap.push {cls:= .type "slice",data:= .fields #[L,O,.none]}};exact tail_any (ops:=[.ref s3.heap.objs.size,v]) ht hT hg (by with_unfolding_all rfl)
def cutV (xs:List V) (lo hi:Option Int):List V:=(xs.drop (HT.sIx xs.length 0 lo)).take (HT.sIx xs.length xs.length hi - HT.sIx xs.length 0 lo)
theorem qab (xs:List V) (lo hi:Option Int):(cutV xs lo hi).length<=xs.length:=by
 unfold cutV;rw [z25,z26];omega
def rSlT (K:PySem.W.Frag):V ->Option Int ->Option Int ->Hp ->VK ->Prop:=λ x lo hi H Q=>∃ a xs,x= .ref a/\SqT K H a xs/\
 ¬ (HT.sIx xs.length 0 lo=0/\HT.sIx xs.length xs.length hi=xs.length)/\∀ p,H p=none ->Q (.ref p) (upd H p (.tup (cutV xs lo hi)))
theorem qts:SlR X (rSlT X.K):=by
 intro pins s σ H x v vl vu lo hi sl Q I rx hs pl pu h;obtain ⟨a,xs,rfl,hx,hw,q⟩:=h;cases rx
 obtain ⟨its,r,L,O⟩:=I.tuple hx;have J:its.toArray.size=xs.length:=by rw [z1t];exact r.length.symm
 refine ⟨"tuple",_,PyProof.Rows.slot_tuple_getitem.lookup,L.typeIs,?_⟩;refine HT.getItem_tuple_cut L hs pl pu (by rw [J];exact hw) ?_ (by rw [J];exact O);rw [J];refine ⟨.ref s.heap.objs.size,_,I.laid (t':=s.toks) (o:= .tup (cutV xs lo hi)) (λ b ob q=>z0k _ q) (z3q _) ?_,zr,q _ (I.hok.fresh (z3q _))⟩;exact ⟨z3j (qab xs lo hi) O,_,(r.drop (HT.sIx xs.length 0 lo)).take (HT.sIx xs.length xs.length hi - HT.sIx xs.length 0 lo),IsTup.new _ _⟩
def qqj (K:PySem.W.Frag):R2:=λ x y H Q=>∃ a b xs ys,x= .ref a/\y= .ref b/\SqT K H a xs/\SqT K H b ys/\xs≠ []/\xs.length+ys.length<=sizeLine/\
 (ys=[] ->Q (.ref a) H)/\(ys≠ [] ->∀ p,H p=none ->Q (.ref p) (upd H p (.tup (xs++ys))))
theorem Vals.qd8 {xs:List V} {us:List Value} (r:Vals xs us):us=[]↔xs=[]:=by
 cases r with
 | nil=>simp
 | cons _ _=>simp
theorem qrh:OpR X (binaryOp .Add) (qqj X.K):=by
 intro pins s σ H x y v u Q I rx ry h;obtain ⟨a,b,xs,ys,rfl,rfl,ha,hb,hx,J,q1,q2⟩:=h;cases rx
 cases ry
 obtain ⟨its,r1,p1,_⟩:=I.tuple ha;obtain ⟨L,r2,p2,_⟩:=I.tuple hb;refine HT.cat_tup p1 p2 (λ z=>hx (r1.qd8.mp z)) (λ z=>⟨.ref a,H,I,rfl,q1 (r2.qd8.mp z)⟩) (λ z=> ?_) (by rw [<- r1.length,<- r2.length];exact J);refine ⟨.ref s.heap.objs.size,_,I.laid (t':=s.toks) (o:= .tup (xs++ys)) (λ b ob q=>z0k _ q) (z3q _) ?_,zr,q2 (λ w=>z (r2.qd8.mpr w)) _ (I.hok.fresh (z3q _))⟩;exact ⟨by rw [z1f];exact J,_,r1.append r2,IsTup.new _ _⟩
end
def ixN (n:Nat) (i:Int):Option Nat:=if 0<=i then (if i < n then some i.toNat else none) else if -(n:Int)<=i then some (i+n).toNat else none
def atI {α:Type} (xs:List α) (i:Int):Option α:=(ixN xs.length i).bind λ j=>xs[j]?
theorem qj1 {n:Nat} {i:Int} {j:Nat} (h:ixN n i=some j):seqIndex? i n=some j/\j < n/\ -(n:Int)<=i/\i < n:=by
 unfold ixN at h;by_cases h0:0<=i
 ·rw [if_pos h0] at h;by_cases h1:i < n
  ·rw [if_pos h1] at h;have e:i.toNat=j:=Option.some.inj h;exact ⟨by rw [seqIndex_of h0 h1,e],by omega,by omega,h1⟩
  ·rw [if_neg h1] at h;cases h
 ·rw [if_neg h0] at h;by_cases h1: -(n:Int)<=i
  ·rw [if_pos h1] at h;have e:(i+n).toNat=j:=Option.some.inj h;exact ⟨by rw [seqIndex_neg (by omega) h1,e],by omega,h1,by omega⟩
  ·rw [if_neg h1] at h;cases h
theorem qd9 {α:Type} {xs:List α} {i:Int} {v:α} (h:atI xs i=some v):∃ j,seqIndex? i xs.length=some j/\xs[j]? =some v/\j < xs.length/\ -(xs.length:Int)<=i/\i < xs.length:=by
 unfold atI at h;cases e:ixN xs.length i with
 | none=>rw [e] at h;cases h
 | some j=>
  rw [e] at h;obtain ⟨h1,h2,h3,h4⟩:=qj1 e;exact ⟨j,h1,h,h2,h3,h4⟩
theorem qp {α:Type} {xs:List α} {j:Nat} {v:α} (h:xs[j]? =some v):atI xs (j:Int)=some v:=by
 have hj:j < xs.length:=(z06.mp h).1;have e:ixN xs.length (j:Int)=some j:=by
  unfold ixN;rw [if_pos (by omega),if_pos (by omega)];simp
 unfold atI;rw [e];exact h
def qri (b:Expr):Prop:=∀ o i,subscripted b false o i=operate [o,i] (getItem o i)
def IxR (X:Cx) (r:R2):Prop:=
 ∀ (value slice:Expr) (pins:List (Addr×Obj)) (s:Shared) (σ:St) (H:Hp) (x y:V) (v u:Value) (Q:VK),Inv X pins σ H s ->RelV x v ->RelV y u ->r x y H Q ->
  subscripted slice false v u=operate [v,u] (getItem v u) ->wpAny (model X.prog X.w) X.A (subscriptTail value slice v u) (EP X pins σ Q) X.xe s
def MtR (X:Cx) (id:String) (r:V ->List V ->Hp ->VK ->Prop):Prop:=
 ∀ (pins:List (Addr×Obj)) (s:Shared) (σ:St) (H:Hp) (x:V) (xs:List V) (v:Value) (us:List Value) (Q:VK),Inv X pins σ H s ->RelV x v ->Vals xs us ->r x xs H Q ->
  wpAny (model X.prog X.w) X.A (call (.builtin id) (v::us)) (EP X pins σ Q) X.xe s
section
variable {X:Cx} {a b:Expr} {ta tb:TE} {pos:Pos}
theorem qm {r:R2} (hr:IxR X r) (ha:PE X a ta) (hb:PE X b tb) (hs:qri b):PE X (.Subscript a b pos) (tOp r ta tb):=by
 intro pins s σ H Q I h;exact Subscript_ (binT ha hb I h λ v u s2 x y H2 I2 rx ry q=>hr a b pins s2 σ H2 x y v u Q I2 rx ry q (hs _ _))
def rIxL (K:PySem.W.Frag):R2:=λ x y H Q=>∃ p xs i v,x= .ref p/\y= .int i/\SqL K H p xs/\atI xs i=some v/\Q v H
def rIxT (K:PySem.W.Frag):R2:=λ x y H Q=>∃ p xs i v,x= .ref p/\y= .int i/\SqT K H p xs/\atI xs i=some v/\Q v H
def rIxS:R2:=λ x y H Q=>∃ z i c,x= .str z/\y= .int i/\z.length<=sizeLine/\atI z.cps.toList i=some c/\Q (.str ⟨#[c]⟩) H
theorem qrj:IxR X (rIxL X.K):=by
  intro value O pins s σ H x y v u Q I rx ry h Z;obtain ⟨p,xs,i,z,rfl,rfl,hq,he,q⟩:=h;cases rx
  obtain ⟨t,rfl⟩:=ry;obtain ⟨its,r,pl,hz⟩:=I.list hq;obtain ⟨j,h1,h2,h3,h4,h5⟩:=qd9 he;obtain ⟨w,Y,L⟩:=r.get h2;have hl:=r.length;have hn:=q8r;have fin:EP X pins σ Q w s:=⟨z,H,I,L,q⟩;by_cases h0:0<=i
  · have J:i.toNat=j:=by
      rw [seqIndex_of h0 h5] at h1;exact Option.some.inj h1
    exact item_listR pl.isList h0 (by omega) (by rw [J];simpa using Y) fin Z
  · have J:(i+(its.toArray.size:Int)).toNat=j:=by
      rw [seqIndex_neg (by omega) h4] at h1;rw [z1t,<- hl];exact Option.some.inj h1
    exact subscriptTail_builtinR (x:=w) pl.isList.typeIs slot_list_getitem.lookup
      (wpAny_getItem_list_neg (Q:=λ r s'=>r=w/\EP X pins σ Q r s') pl.isList (by omega) (by rw [z1t] <;> omega) (by omega) (by rw [J];simpa using Y) ⟨rfl,fin⟩) Z
theorem qtt:IxR X (rIxT X.K):=by
 intro value L pins s σ H x y v u Q I rx ry h hs;obtain ⟨p,xs,i,z,rfl,rfl,hq,he,q⟩:=h;cases rx
 obtain ⟨t,rfl⟩:=ry;obtain ⟨its,r,pl,hz⟩:=I.tuple hq;obtain ⟨j,h1,h2,h3,h4,h5⟩:=qd9 he;obtain ⟨w,ew,J⟩:=r.get h2;have hl:=r.length;have hn:=q8r;have fin:EP X pins σ Q w s:=⟨z,H,I,J,q⟩;exact subscriptTail_builtinR (x:=w) pl.typeIs slot_tuple_getitem.lookup
  (getItem_tuple (j:=j) (Q:=λ r s'=>r=w/\EP X pins σ Q r s') pl (by omega) (by omega) (by rw [z1t,<- hl];exact h1) (by simpa using ew) ⟨rfl,fin⟩) hs
theorem qm6:IxR X rIxS:=by
 intro value J pins s σ H x y v u Q I rx ry h hs;obtain ⟨z,i,c,rfl,rfl,hz,he,q⟩:=h;obtain ⟨t,rfl⟩:=rx;obtain ⟨t',rfl⟩:=ry;obtain ⟨j,h1,h2,h3,h4,h5⟩:=qd9 he;have hl:z.cps.toList.length=z.length:=by simp [Str.length]
 rw [hl] at h1 h4 h5;have hn:=q8r;exact tail_any (typeIs_str s z t) slot_str_getitem.lookup (getItem_str (c:=c) (by
  have e1:decide (i < -(2^63:Int))=false:=z2k (by omega);have e2:decide (i >=2^63)=false:=z2k (by omega);rw [e1,e2,Bool.or_false]) (by rw [h1];simpa using h2) ⟨.str ⟨#[c]⟩,H,I.tok _,⟨_,rfl⟩,q⟩) hs
theorem qkc (its:List Value) (n j:Nat) (u:Value):Obj.mapSeq (·.setIfInBounds j u) {cls:= .type "list",data:= .seq its.toArray n}={cls:= .type "list",data:= .seq (its.set j u).toArray n}:=by
 simp [Obj.mapSeq]
theorem Inv.lst {pins:List (Addr×Obj)} {σ:St} {H:Hp} {s:Shared} {p:Addr} {xs:List V} (I:Inv X pins σ H s) (h:H p=some (.lst xs)):
  ∃ (its:List Value) (n:Nat),Vals xs its/\s.heap.get? p=some {cls:= .type "list",data:= .seq its.toArray n}/\xs.length<=sizeLine:=by
 obtain ⟨z,its,n,r,e⟩:=I.hok p _ h;exact ⟨its,n,r,e,z⟩
theorem Inv.lstUpd {pins:List (Addr×Obj)} {σ:St} {H:Hp} {s:Shared} {p:Addr} {xs ys:List V} {its its':List Value} {n J:Nat} {f:Obj ->Obj} (I:Inv X pins σ H s) (h:H p=some (.lst xs))
  (ho:s.heap.get? p=some {cls:= .type "list",data:= .seq its.toArray n}) (L:f {cls:= .type "list",data:= .seq its.toArray n}={cls:= .type "list",data:= .seq its'.toArray J}) (r:Vals ys its') (hz:ys.length<=sizeLine) (t:Nat):
  Inv X pins σ (upd H p (.lst ys)) {s with heap:=s.heap.update p f,toks:=t}:=by
 have e:(s.heap.update p f).get? p=some {cls:= .type "list",data:= .seq its'.toArray J}:=by
  rw [z0u f ho (by rw [L] <;> rfl),L]
 refine I.write (x:=p) (e:=p) (by rw [h];trivial) (.inl rfl) (λ b u hb q=>(z0l _ _ (Ne.symm hb)).trans q) ⟨_,e⟩ ?_;exact ⟨hz,its',J,r,e⟩
def qwi:V ->V ->V ->Hp ->(Hp ->Prop) ->Prop:=λ o i v H Q=>∃ p xs k j,o= .ref p/\i= .int k/\H p=some (.lst xs)/\ixN xs.length k=some j/\Q (upd H p (.lst (xs.set j v)))
theorem qg2:PSet X qwi:=by
  intro pins s σ H o i v ov iv u Q I ro ri rv h;obtain ⟨p,xs,k,j,rfl,rfl,O,hj,q⟩:=h;cases ro
  obtain ⟨t,rfl⟩:=ri;obtain ⟨its,n,r,ho,hz⟩:=I.lst O;obtain ⟨h1,h2,h3,h4⟩:=qj1 hj;have hl:=r.length;have hn:=q8r;have L:Inv X pins σ (upd H p (.lst (xs.set j v))) {s with heap:=s.heap.update p (Obj.mapSeq (·.setIfInBounds j u))}:=
    I.lstUpd O ho (qkc its n j u) (r.set rv j) (by rw [List.length_set];exact hz) s.toks
  by_cases h0:0<=k
  · have J:k.toNat=j:=by
      rw [seqIndex_of h0 h4] at h1;exact Option.some.inj h1
    exact PySem.W.ki_setAt ho h0 (by omega) (by rw [z1t,<- hl];exact h4) (by rw [J];exact ⟨_,L,q⟩)
  · have J:(k+(its.toArray.size:Int)).toNat=j:=by
      rw [seqIndex_neg (by omega) h3] at h1;rw [z1t,<- hl];exact Option.some.inj h1
    exact PySem.W.ki_setBack ho (by omega) (by rw [z1t,<- hl];exact h3) (by omega) (by rw [J];exact ⟨_,L,q⟩)
theorem qg3 (lo hi:Option Int) (n:Nat):(sliceBounds lo hi none n).1=((HT.sIx n 0 lo:Nat):Int)/\(sliceBounds lo hi none n).2.1=((HT.sIx n n hi:Nat):Int)/\(sliceBounds lo hi none n).2.2=1:=by
 refine ⟨?_,?_,zr⟩
 ·cases lo with
  | none=>simp [sliceBounds,HT.sIx]
  | some i=>
   simp only [sliceBounds,HT.sIx,Option.getD_none,show (1:Int) > 0 by decide,if_true];by_cases h:i < 0
   ·simp only [h,if_true] <;> omega
   ·simp only [h,if_false] <;> omega
 ·cases hi with
  | none=>simp [sliceBounds,HT.sIx]
  | some i=>
   simp only [sliceBounds,HT.sIx,Option.getD_none,show (1:Int) > 0 by decide,if_true];by_cases h:i < 0
   ·simp only [h,if_true] <;> omega
   ·simp only [h,if_false] <;> omega
theorem qer (its:List Value) (lo hi:Option Int):slicePick its.toArray lo hi none=((its.drop (HT.sIx its.length 0 lo)).take (HT.sIx its.length its.length hi - HT.sIx its.length 0 lo)).toArray:=by
 obtain ⟨h1,h2,h3⟩:=qg3 lo hi its.toArray.size;unfold slicePick;rw [h1,h2,h3];simp only [sliceRange_one,pick_run,z1t] <;> rfl
def rSlL (K:PySem.W.Frag):V ->Option Int ->Option Int ->Hp ->VK ->Prop:=λ x lo hi H Q=>∃ a xs,x= .ref a/\SqL K H a xs/\∀ p,H p=none ->Q (.ref p) (upd H p (.lst (cutV xs lo hi)))
theorem qrk:SlR X (rSlL X.K):=by
 intro pins s σ H x v vl vu lo hi sl Q I rx hs pl pu h;obtain ⟨a,xs,rfl,hx,q⟩:=h;cases rx
 obtain ⟨its,r,L,hz⟩:=I.list hx;have J:=r.length;refine ⟨"list",_,slot_list_getitem.lookup,L.isList.typeIs,?_⟩;refine wpAny_getItem_list_slice L.isList hs pl pu .none (by simp) ?_ (by rw [z1t] <;> omega);rw [qer,<- J];refine ⟨.ref s.heap.objs.size,_,I.laid (t':=s.toks) (o:= .lst (cutV xs lo hi)) (λ b ob q=>z0k _ q) (z3q _) ?_,zr,q _ (I.hok.fresh (z3q _))⟩;exact ⟨z3j (qab xs lo hi) hz,_,0,(r.drop (HT.sIx xs.length 0 lo)).take (HT.sIx xs.length xs.length hi - HT.sIx xs.length 0 lo),z16 _ rfl⟩
theorem qg4:q23 X (.type "list") (λ xs H Q=>∃ p ys,xs=[.ref p]/\(SqL X.K H p ys\/ SqT X.K H p ys)/\∀ l,H l=none ->Q (.ref l) (upd H l (.lst ys))):=by
 intro pins s σ H xs us Q I r h;obtain ⟨p,ys,rfl,hq,q⟩:=h;obtain ⟨u,rfl,rx⟩:=q2y r;cases rx
 have fin:∀ (its:List Value),Vals ys its ->ys.length<=sizeLine ->∀ (h':Heap) (J:Nat),(∀ b o',s.heap.get? b=some o' ->h'.get? b=some o') ->
   h'.get? s.heap.objs.size=some {cls:= .type "list",dict:=none,data:= .seq its.toArray J,slots:=#[]} ->EP X pins σ Q (.ref s.heap.objs.size) {s with heap:=h'}:=λ its L Y h' J kp e=>
  ⟨.ref s.heap.objs.size,_,I.laid (t':=s.toks) kp (z3q _) (show ObjOk X.prog X.w _ h' _ (.lst ys) from ⟨Y,its,J,L,e⟩),rfl,q _ (I.hok.fresh (z3q _))⟩
 rcases hq with hq | hq
 ·obtain ⟨its,L,pl,Y⟩:=I.list hq;have O:=L.length;obtain ⟨o,ho,Z,n,hd⟩:=pl.isList;exact call_list_seq p (.inl rfl) ho Z hd (λ h' J kp e=>fin its L Y h' J kp e) (by simp only [z1t] <;> omega)
 ·obtain ⟨its,L,pl,Y⟩:=I.tuple hq;have O:=L.length;obtain ⟨o,ho,Z,n,hd⟩:=pl;exact call_list_seq p (.inr rfl) ho Z hd (λ h' J kp e=>fin its L Y h' J kp e) (by simp only [z1t] <;> omega)
theorem qes:q23 X (.type "tuple") (λ xs H Q=>∃ p ys,xs=[.ref p]/\((SqL X.K H p ys/\∀ l,H l=none ->Q (.ref l) (upd H l (.tup ys)))\/ (SqT X.K H p ys/\Q (.ref p) H))):=by
 intro pins s σ H xs us Q I r h;obtain ⟨p,ys,rfl,h⟩:=h;obtain ⟨u,rfl,rx⟩:=q2y r;cases rx
 rcases h with ⟨hq,q⟩ | ⟨hq,q⟩
 ·obtain ⟨its,J,pl,O⟩:=I.list hq;have L:=J.length;refine call_tuple_list pl.isList (λ h' kp=> ?_) (by simp only [z1t] <;> omega);have I1:Inv X pins σ H {s with heap:=h'}:=I.kept (t':=s.toks) kp;have I2:Inv X pins σ (upd H h'.objs.size (.tup ys)) {s with heap:=h'.push {cls:= .type "tuple",data:= .seq its.toArray}}:=
   I1.laid (t':=s.toks) (λ b o e=>z0k _ e) (z3q _) (show ObjOk X.prog X.w _ _ _ (.tup ys) from ⟨O,its,J,IsTup.new _ _⟩)
  exact ⟨.ref h'.objs.size,_,I2,zr,q _ (I1.hok.fresh (z3q _))⟩
 ·obtain ⟨its,J,pl,O⟩:=I.tuple hq;exact call_tuple_same pl ⟨.ref p,H,I,zr,q⟩
def tyV (K:PySem.W.Frag) (T:String) (x:V) (H:Hp):Prop:=match x with
 | .str _=>T="str"
 | .int _=>T="int"
 | .ref p=>(T="list"/\∃ xs,SqL K H p xs)\/ (T="tuple"/\∃ o,K.lookup p=some o/\o.cls= .type "tuple"/\o.dict=none)\/
   (T="dict"/\((∃ kvs,H p=some (.dK kvs))\/ ∃ kvs,H p=some (.dT kvs)))\/ (T="set"/\∃ S n,H p=some (.set S n))
 | _=>False
theorem qtu {pins:List (Addr×Obj)} {σ:St} {H:Hp} {s:Shared} {T:String} {x:V} {v:Value} (I:Inv X pins σ H s) (r:RelV x v) (ty:tyV X.K T x H):
    s.TypeIs v T/\∀ a,v= .ref a ->∃ L,s.heap.get? a=some L/\L.dict=none:=by
  cases x with
  | str z=>
    obtain ⟨t,rfl⟩:=r;cases (show T="str" from ty)
    exact ⟨typeIs_str s z t,λ _ e=>nomatch e⟩
  | int i=>
    obtain ⟨t,rfl⟩:=r;cases (show T="int" from ty)
    exact ⟨typeIs_int s i t,λ _ e=>nomatch e⟩
  | ref p=>
    cases r
    rcases ty with ⟨rfl,xs,hq⟩ | ⟨rfl,o,J,hc,hd⟩ | ⟨rfl,J⟩ | ⟨rfl,S,n,J⟩
    · obtain ⟨its,_,pl,_⟩:=I.list hq
      refine ⟨pl.isList.typeIs,λ a e=> ?_⟩;cases e
      obtain ⟨o,n,e,c,hd,_⟩:=pl;exact ⟨o,e,hd⟩
    · refine ⟨⟨o,I.kIn p o J,hc⟩,λ a e=> ?_⟩
      cases e
      exact ⟨o,I.kIn _ o J,hd⟩
    · have z:∃ o,s.heap.get? p=some o/\o.ExactDict:=by
        rcases J with ⟨kvs,J⟩ | ⟨kvs,J⟩
        · obtain ⟨_,_,_,_,o,_,_,e,ex,_⟩:=I.hok p _ J
          exact ⟨o,e,ex⟩
        · obtain ⟨_,_,_,_,o,_,_,e,ex,_⟩:=I.hok p _ J
          exact ⟨o,e,ex⟩
      obtain ⟨o,e,ex⟩:=z;refine ⟨⟨o,e,ex.1⟩,λ a e2=> ?_⟩;cases e2
      exact ⟨o,e,ex.2.1⟩
    · obtain ⟨o,_,_,_,e,ex,_⟩:=I.hok p _ J
      refine ⟨⟨o,e,ex.1⟩,λ a e2=> ?_⟩;cases e2
      exact ⟨o,e,ex.2.1⟩
  | _=>exact False.elim ty
def tBM (K:PySem.W.Frag) (T:String) (r:V ->List V ->Hp ->VK ->Prop) (to:TE) (t:TA):TE:=λ σ H Q=>to σ H λ x H1=>tyV K T x H1/\t σ H1 λ xs H2=>r x xs H2 Q
variable {o e:Expr} {es:List Expr} {to:TE} {t:TA} {name:Str} {apos cpos:Pos} {T id:String} {r:V ->List V ->Hp ->VK ->Prop}
theorem q3c (pa:PlainAttrs T) (slot:Slot T name id) (Z:typeOf (.builtin id)=pure (.type "method_descriptor")) (hm:MtR X id r) (ho:PE X o to) (ha:PA X (e::es) t)
  (L:attributeBase o name X.env (eval o X.env)=eval o X.env:=by rfl)
  (Y:((backTo cpos (starEach (e::es) X.env)).all (λ x=> !x.1)&&(backToKw cpos (keywordEach [] X.env)).all (λ x=>x.1.isSome)
   &&decide ((e::es).length+([]:List Keyword).length+(if ([]:List Keyword).isEmpty then 0 else 1) < 30))=true:=by rfl)
  (O:(apos.endLine==cpos.line)=true:=by rfl) (hs:starEach (e::es) X.env=(false,eval e X.env)::starEach es X.env:=by rfl) (J:(backTo cpos (starEach es X.env)).any (·.1)=false:=by rfl):
  PE X (.Call (.Attribute o name apos) (e::es) [] cpos) (tBM X.K T r to t):=by
 intro pins s σ H Q I h;refine wpAny_Call_method_late L Y O rfl (thn (ho pins s σ H _ I h) λ v s1 a0=> ?_);obtain ⟨x,H1,I1,r1,ty,q1⟩:=a0;obtain ⟨h1,h2⟩:=qtu I1 r1 ty;refine ⟨T,id,pa,slot,Z,h1,h2,?_⟩;have hA:=ha cpos pins s1 σ H1 _ I1 q1;rw [hs] at hA ⊢;refine Calls.callWith_builtin (by show (false || (backTo cpos (starEach es X.env)).any (·.1))=false;rw [J] <;> rfl) (Calls.evalArgs_plain ?_);exact thn hA λ us s2 ⟨vs,H2,I2,r2,q2⟩=>hm pins s2 σ H2 x vs v us Q I2 r1 r2 q2
/- xs.append(e),list.index on a module's tuple .. are MtR facts of 06m -/
end
def MtM (X:Cx) (id:String) (r:V ->List V ->Hp ->VK ->Prop):Prop:=
 ∀ (pins:List (Addr×Obj)) (s:Shared) (σ:St) (H:Hp) (x:V) (xs:List V) (v:Value) (us:List Value) (Q:VK),Inv X pins σ H s ->RelV x v ->Vals xs us ->r x xs H Q ->
  wpAny (model X.prog X.w) X.A (call (.builtin id) (v::us)) (EP X pins σ Q) X.xe s
theorem Vals.one:∀ {x:V} {us:List Value},Vals [x] us ->∃ u,us=[u]/\RelV x u
 | _,_,.cons r .nil=>⟨_,rfl,r⟩
section
variable {X:Cx} {pins:List (Addr×Obj)} {σ:St} {H:Hp} {s:Shared} {l b:Addr} {xs ys zs:List V}
theorem Inv.lset {its its':List Value} {n:Nat} {f:Array Value ->Array Value} {t':Nat} (I:Inv X pins σ H s) (hH:H l=some (.lst xs))
  (e:s.heap.get? l=some {cls:= .type "list",data:= .seq its.toArray n}) (hf:f its.toArray=its'.toArray) (hv:Vals ys its') (hz:ys.length<=sizeLine):
  Inv X pins σ (upd H l (.lst ys)) {s with heap:=s.heap.update l (Obj.mapSeq f),toks:=t'}:=by
 have q:=PySem.IsL.update e f;rw [hf] at q;refine I.write (x:=l) (e:=l) (by rw [hH];exact trivial) (.inl rfl) (λ b' u hb hu=>(z0l s.heap (Obj.mapSeq f) (Ne.symm hb)).trans hu) ⟨_,q⟩ ?_;exact ⟨hz,its',_,hv,q⟩
theorem Inv.lnew {its:List Value} {t':Nat} (I:Inv X pins σ H s) (hv:Vals ys its) (hz:ys.length<=sizeLine):
  Inv X pins σ (upd H s.heap.objs.size (.lst ys)) {s with heap:=s.heap.push {cls:= .type "list",data:= .seq its.toArray},toks:=t'}:=
 I.laid (λ _ _ q=>z0k _ q) (z3q _) ⟨hz,its,0,hv,z16 _ rfl⟩
theorem Inv.fresh (I:Inv X pins σ H s):H s.heap.objs.size=none:=I.hok.fresh (z3q _)
theorem Inv.lstM (I:Inv X pins σ H s) (hH:H l=some (.lst xs)):xs.length<=sizeLine/\∃ (its:List Value) (n:Nat),Vals xs its/\xs.length=its.length/\s.heap.get? l=some {cls:= .type "list",data:= .seq its.toArray n}:=by
 obtain ⟨z,its,n,r,e⟩:=I.hok l _ hH;exact ⟨z,its,n,r,r.length,e⟩
end
section
variable {X:Cx}
def qrl:V ->List V ->Hp ->VK ->Prop:=λ x vs H Q=>∃ l xs y,x= .ref l/\vs=[y]/\H l=some (.lst xs)/\xs.length < sizeLine/\Q .non (upd H l (.lst (xs++ [y])))
theorem q2e:MtM X "list.append" qrl:=by
 intro pins s σ H x vs v us Q I rx rv h;obtain ⟨l,xs,y,rfl,rfl,J,hz,q⟩:=h;cases rx
 obtain ⟨u,rfl,ru⟩:=rv.one;obtain ⟨z,its,n,r,hl,e⟩:=I.lstM J;refine call_meets F.slot_list_append ⟨_,e,rfl⟩ F.entry_list_append (F.args_list_append_2 _ _) (PySem.list_append l its.toArray n u (by rw [z1t];omega)) ⟨e,?_⟩;refine ⟨.non,_,I.lset (its':=its++ [u]) J e (by simp) (r.append (.cons ru .nil)) ?_,zr,q⟩;rw [z1f,List.length_singleton];omega
def rCat:R2:=λ x y H Q=>∃ l b xs zs,x= .ref l/\y= .ref b/\H l=some (.lst xs)/\H b=some (.lst zs)/\xs.length+zs.length<=sizeLine/\∀ p,H p=none ->Q (.ref p) (upd H p (.lst (xs++zs)))
theorem qg5:OpR X (binaryOp .Add) rCat:=by
 intro pins s σ H x y v u Q I rx ry h;obtain ⟨l,b,xs,zs,rfl,rfl,hH,hB,hz,q⟩:=h;cases rx
 cases ry
 obtain ⟨z,its,n,r,hl,e⟩:=I.lstM hH;obtain ⟨z2,J,n2,r2,hl2,e2⟩:=I.lstM hB;refine PySem.P.add_list e e2 ?_ (by rw [z1t,z1t];omega);have ea:its.toArray++J.toArray=(its++J).toArray:=by simp
 rw [ea];exact ⟨.ref _,_,I.lnew (t':=s.toks) (r.append r2) (by rw [z1f];omega),rfl,q _ I.fresh⟩
end
section
variable {prog:Program} {w:World} {A:Around} {E:Value ->Shared ->Prop} {s:Shared}
end
section
variable {X:Cx}
end
section
variable {κ:Type} [DecidableEq κ]
def valV (kvs:List (κ×V)) (k:κ):Option V:=(kvs.find? λ kv=>decide (kv.1=k)).map (·.2)
def putK (kvs:List (κ×V)) (k:κ) (v:V):List (κ×V):=
 if (kvs.any λ kv=>decide (kv.1=k))=true then kvs.map (λ kv=>if kv.1=k then (kv.1,v) else kv) else kvs++ [(k,v)]
theorem q1x {p:κ×V} {r:List (κ×V)} {k:κ} (e:p.1=k):valV (p::r) k=some p.2:=by simp [valV,z2r,e]
theorem q1y {p:κ×V} {r:List (κ×V)} {k:κ} (e:¬ p.1=k):valV (p::r) k=valV r k:=by simp [valV,z2r,e]
theorem q2n (k:κ):∀ kvs:List (κ×V),(kvs.any λ kv=>decide (kv.1=k))=(valV kvs k).isSome
 | []=>rfl
 | p::r=>by
  rw [z3a];by_cases e:p.1=k
  ·simp only [q1x e,z2y e,Bool.true_or,Option.isSome_some]
  ·rw [q1y e,z2k e,Bool.false_or];exact q2n k r
theorem qg6 (k j:κ) (y:V):∀ kvs:List (κ×V),valV (kvs.map λ J=>if J.1=k then (J.1,y) else J) j=(valV kvs j).map λ x=>if j=k then y else x
 | []=>rfl
 | p::r=>by
  have L:=qg6 k j y r;rw [z35];by_cases h:p.1=k
  ·rw [if_pos h];by_cases e:p.1=j
   ·rw [q1x (p:=(p.1,y)) e,q1x e,Option.map_some,if_pos (e.symm.trans h)]
   ·rw [q1y (p:=(p.1,y)) e,q1y e,L]
  ·rw [if_neg h];by_cases e:p.1=j
   ·rw [q1x (p:=p) e,q1x e,Option.map_some,if_neg (λ z=>h (e.trans z))]
   ·rw [q1y (p:=p) e,q1y e,L]
theorem qe2 (k j:κ) (y:V):∀ kvs:List (κ×V),valV kvs k=none ->valV (kvs++ [(k,y)]) j=if j=k then some y else valV kvs j
 | [],_=>by
  by_cases e:k=j
  ·rw [if_pos e.symm];exact q1x (p:=(k,y)) e
  ·rw [if_neg (λ z=>e z.symm)];exact q1y (p:=(k,y)) e
 | p::r,hn=>by
  rw [List.cons_append];have J:¬ p.1=k:=λ z=>by rw [q1x z] at hn;cases hn
  rw [q1y J] at hn;have ih:=qe2 k j y r hn;by_cases e:p.1=j
  ·rw [q1x e,q1x e,if_neg (λ z=>J (e.trans z))]
  ·rw [q1y e,q1y e,ih]
theorem q2o (kvs:List (κ×V)) (k j:κ) (y:V):valV (putK kvs k y) j=if j=k then some y else valV kvs j:=by
 unfold putK;by_cases a:(kvs.any λ kv=>decide (kv.1=k))=true
 ·rw [if_pos a,qg6];rw [q2n] at a;by_cases e:j=k
  ·obtain ⟨x,hx⟩:=Option.isSome_iff_exists.mp a;rw [if_pos e,e,hx,Option.map_some,if_pos rfl]
  ·rw [if_neg e];cases valV kvs j with
   | none=>rfl
   | some x=>rw [Option.map_some,if_neg e]
 ·rw [if_neg a];refine qe2 k j y kvs ?_;rw [q2n] at a;cases q:valV kvs k with
  | none=>rfl
  | some x=>rw [q] at a;exact (a rfl).elim
theorem q1i (kvs:List (κ×V)) (k:κ) (v:V):(putK kvs k v).length<=kvs.length+1:=by
 unfold putK;split
 ·rw [z2o];omega
 ·rw [z1f,z27,z2s];omega
theorem RelO.q44 {o:Option V} {u:Option Value} (r:RelO o u):o.isSome=u.isSome:=by
 cases o with
 | none=>cases u with
  | none=>rfl
  | some _=>exact (show False from r).elim
 | some _=>cases u with
  | none=>exact (show False from r).elim
  | some _=>rfl
theorem RelO.getD {o:Option V} {u:Option Value} {d:V} {d':Value} (r:RelO o u) (rd:RelV d d'):RelV (o.getD d) (u.getD d'):=by
 cases o with
 | none=>cases u with
  | none=>exact rd
  | some _=>exact (show False from r).elim
 | some _=>cases u with
  | none=>exact (show False from r).elim
  | some _=>exact r
theorem KV.val {kvs:List (κ×V)} {vs:List (κ×Value)} (r:KV kvs vs) (k:κ):RelO (valV kvs k) (valueAt vs k):=by
 unfold KV at r
 induction r with
 | nil=>exact True.intro
 | @cons p q ps J h t ih=>
  obtain ⟨h1,h2⟩:=h;by_cases e:p.1=k
  ·have e':q.1=k:=h1.symm.trans e;have b:valueAt (q::J) k=some q.2:=by simp [valueAt,z2r,e']
   rw [q1x e,b];exact h2
  ·have e':¬ q.1=k:=λ z=>e (h1.trans z);have b:valueAt (q::J) k=valueAt J k:=by simp [valueAt,z2r,e']
   rw [q1y e,b];exact ih
theorem KV.any {kvs:List (κ×V)} {vs:List (κ×Value)} (r:KV kvs vs) (k:κ):(kvs.any λ J=>decide (J.1=k))=vs.any λ J=>decide (J.1=k):=by
 unfold KV at r
 induction r with
 | nil=>rfl
 | cons h t ih=>rw [z3a,z3a,ih,h.1]
theorem KV.repl {kvs:List (κ×V)} {vs:List (κ×Value)} (r:KV kvs vs) (k:κ) {y:V} {u:Value} (ry:RelV y u):
  KV (kvs.map λ J=>if J.1=k then (J.1,y) else J) (vs.map λ J=>if J.1=k then (J.1,u) else J):=by
 unfold KV at r ⊢
 induction r with
 | nil=>exact .nil
 | @cons p q ps qs h t ih=>
  rw [z35,z35];refine .cons ?_ ih;obtain ⟨h1,h2⟩:=h;by_cases e:p.1=k
  ·rw [if_pos e,if_pos (h1.symm.trans e)];exact ⟨h1,ry⟩
  ·rw [if_neg e,if_neg (λ z=>e (h1.trans z))];exact ⟨h1,h2⟩
theorem KV.put {kvs:List (κ×V)} {vs:List (κ×Value)} (r:KV kvs vs) (k:κ) {y:V} {u:Value} (ry:RelV y u):KV (putK kvs k y) (stored vs k u):=by
 unfold putK stored;rw [r.any k];by_cases e:(vs.any λ kv=>decide (kv.1=k))=true
 ·rw [if_pos e,if_pos e];exact r.repl k ry
 ·rw [if_neg e,if_neg e];exact Paired.snoc r ⟨rfl,ry⟩
theorem KV.length {kvs:List (κ×V)} {vs:List (κ×Value)} (r:KV kvs vs):kvs.length=vs.length:=Paired.length r
end
theorem q67 {P:Program} {w:World} {k:Key} {u:Value} (r:RelV (kV k) u):(qo P w).is k u=true:=by
 cases k with
 | inl i=>obtain ⟨t,e⟩:=(show ∃ t,u=Value.int i t from r);subst e;exact qhy P w i t
 | inr x=>obtain ⟨t,e⟩:=(show ∃ t,u=Value.str x t from r);subst e;exact qa8 P w x t
theorem qm7 {a b:Key} (e:kV a=kV b):a=b:=by
 cases a with
 | inl i=>cases b with
  | inl j=>have e':V.int i=V.int j:=e;injection e' with e';rw [e']
  | inr y=>exact nomatch (show V.int i=V.str y from e)
 | inr x=>cases b with
  | inl j=>exact nomatch (show V.str x=V.int j from e)
  | inr y=>have e':V.str x=V.str y:=e;injection e' with e';rw [e']
theorem qe3 {P:Program} {w:World}:∀ {ks:List Key} {us:List Value},Vals (ks.map kV) us ->ItemsAre (qo P w) ks us
 | [],_,r=>by rw [z3m] at r;cases r;exact .nil
 | k::ks,_,r=>by
  rw [z35] at r;cases r with
  | cons h t=>exact .cons (q67 h) (qe3 t)
abbrev KT (H:Hp):List (List Key×V) ->List (List Key×Addr×Value) ->Prop:=Paired λ p q=>p.1=q.1/\H q.2.1=some (.tup (p.1.map kV))/\RelV p.2 q.2.2
theorem KT.val {H:Hp} {kvs:List (List Key×V)} {xs:List (List Key×Addr×Value)} (r:KT H kvs xs) (k:List Key):RelO (valV kvs k) ((atKey xs k).map (·.2)):=by
 induction r with
 | nil=>exact True.intro
 | @cons p q ps J h t ih=>
  obtain ⟨h1,_,h2⟩:=h;by_cases e:p.1=k
  ·have e':q.1=k:=h1.symm.trans e;have b:atKey (q::J) k=some q.2:=by simp [atKey,z2r,e']
   rw [q1x e,b];exact h2
  ·have e':¬ q.1=k:=λ z=>e (h1.trans z);have b:atKey (q::J) k=atKey J k:=by simp [atKey,z2r,e']
   rw [q1y e,b];exact ih
theorem KT.repl {H:Hp} {kvs:List (List Key×V)} {xs:List (List Key×Addr×Value)} (r:KT H kvs xs) (k:List Key) {y:V} {u:Value} (ry:RelV y u):
  KT H (kvs.map λ J=>if J.1=k then (J.1,y) else J) (xs.map (putAt k u)):=by
 induction r with
 | nil=>exact .nil
 | @cons p q ps qs h t ih=>
  rw [z35,z35];refine .cons ?_ ih;obtain ⟨h1,h2,h3⟩:=h;unfold putAt;by_cases e:p.1=k
  ·rw [if_pos e,if_pos (h1.symm.trans e)];exact ⟨h1,h2,ry⟩
  ·rw [if_neg e,if_neg (λ z=>e (h1.trans z))];exact ⟨h1,h2,h3⟩
theorem KT.put {H:Hp} {kvs:List (List Key×V)} {xs:List (List Key×Addr×Value)} (r:KT H kvs xs) (k:List Key) {b:Addr} {y:V} {u:Value} (hb:H b=some (.tup (k.map kV))) (ry:RelV y u):
  KT H (putK kvs k y) (storedH xs k b u):=by
 have e:(kvs.any λ kv=>decide (kv.1=k))=(atKey xs k).isSome:=by
  rw [q2n,(r.val k).q44,Option.isSome_map]
 unfold putK storedH;rw [e];by_cases q:(atKey xs k).isSome=true
 ·rw [if_pos q,if_pos q];exact r.repl k ry
 ·rw [if_neg q,if_neg q];exact Paired.snoc r ⟨rfl,hb,ry⟩
theorem KT.keeps {H H':Hp} {kvs:List (List Key×V)} {xs:List (List Key×Addr×Value)} (r:KT H kvs xs) (ht:∀ b ys,H b=some (.tup ys) ->H' b=some (.tup ys)):KT H' kvs xs:=
 Paired.mapP r λ _ _ z=>⟨z.1,ht _ _ z.2.1,z.2.2⟩
section
variable {P:Program} {w:World} {H:Hp} {h:Heap} {a:Addr}
theorem qqk {u:HO} (ok:HOk P w H h) (e:Rd H a u):ObjOk P w H h a u:=e.ok ok
theorem q7f {kvs:List (Key×V)} (ok:HOk P w H h) (e:Rd H a (.dK kvs)):kvs.length<=sizeLine/\(a==sysModules)=false/\∃ vs,KV kvs vs/\h.DictOf (qo P w) a vs:=
 show ObjOk P w H h a (.dK kvs) from qqk ok e
theorem qql {kvs:List (Key×V)} (ok:HOk P w H h) (e:H a=some (.dK kvs)):kvs.length<=sizeLine/\(a==sysModules)=false/\∃ vs,KV kvs vs/\h.DictOf (qo P w) a vs:=q7f ok (.inl e)
theorem q6v {ks:List Key} (ok:HOk P w H h) (e:H a=some (.tup (ks.map kV))):(tupleKind (qo P w)).is h ks a:=by
 obtain ⟨_,its,r,o,h1,h2,n,h3⟩:=(show ObjOk P w H h a (.tup (ks.map kV)) from ok a _ e);exact ⟨o,its.toArray,n,h1,h2,h3,by simpa using qe3 r⟩
theorem q7g {kvs:List (List Key×V)} (ok:HOk P w H h) (e:Rd H a (.dT kvs)):kvs.length<=sizeLine/\(a==sysModules)=false/\
  ∃ xs,KT H kvs xs/\h.DictOfH (tupleKind (qo P w)) a xs:=by
 obtain ⟨z,y,xs,r,o,es,ep,h1,h2,h3,h4,h5⟩:=(show ObjOk P w H h a (.dT kvs) from qqk ok e);refine ⟨z,y,xs,r,o,es,ep,h1,h2,h3,h4,λ x hx=> ?_,h5⟩;have all:∀ {l:List (List Key×V)} {m:List (List Key×Addr×Value)},KT H l m ->∀ x∈m,(tupleKind (qo P w)).is h x.1 x.2.1:=by
  intro l m q
  induction q with
  | nil=>intro x hx;exact nomatch hx
  | @cons p q ps qs hq t ih=>
   intro x hx;rcases z37.mp hx with e | hx
   ·subst e;exact q6v ok (by rw [<- hq.1];exact hq.2.1)
   ·exact ih x hx
 exact all r x hx
theorem qwj {kvs:List (List Key×V)} (ok:HOk P w H h) (e:H a=some (.dT kvs)):kvs.length<=sizeLine/\(a==sysModules)=false/\
  ∃ xs,KT H kvs xs/\h.DictOfH (tupleKind (qo P w)) a xs:=q7g ok (.inl e)
end
def DGet (H:Hp) (a:Addr) (y:V) (r:Option V):Prop:=
 (∃ kvs k,Rd H a (.dK kvs)/\y=kV k/\r=valV kvs k)\/ ∃ kvs k b,Rd H a (.dT kvs)/\y= .ref b/\H b=some (.tup (k.map kV))/\r=valV kvs k
def DPut (H:Hp) (a:Addr) (y v:V) (H':Hp):Prop:=
 (∃ kvs k,H a=some (.dK kvs)/\y=kV k/\kvs.length < sizeLine/\H'=upd H a (.dK (putK kvs k v)))\/
 ∃ kvs k b,H a=some (.dT kvs)/\y= .ref b/\H b=some (.tup (k.map kV))/\kvs.length < sizeLine/\H'=upd H a (.dT (putK kvs k v))
theorem DGet.k {H:Hp} {a:Addr} {kvs:List (Key×V)} {k:Key} (e:H a=some (.dK kvs)):DGet H a (kV k) (valV kvs k):= .inl ⟨kvs,k,.inl e,rfl,rfl⟩
theorem DGet.t {H:Hp} {a b:Addr} {kvs:List (List Key×V)} {k:List Key} (e:H a=some (.dT kvs)) (eb:H b=some (.tup (k.map kV))):DGet H a (.ref b) (valV kvs k):= .inr ⟨kvs,k,b,.inl e,rfl,eb,rfl⟩
theorem DPut.k {H:Hp} {a:Addr} {kvs:List (Key×V)} {k:Key} {v:V} (e:H a=some (.dK kvs)) (hl:kvs.length < sizeLine):DPut H a (kV k) v (upd H a (.dK (putK kvs k v))):= .inl ⟨kvs,k,e,rfl,hl,rfl⟩
theorem DPut.t {H:Hp} {a b:Addr} {kvs:List (List Key×V)} {k:List Key} {v:V} (e:H a=some (.dT kvs)) (eb:H b=some (.tup (k.map kV))) (hl:kvs.length < sizeLine):
  DPut H a (.ref b) v (upd H a (.dT (putK kvs k v))):= .inr ⟨kvs,k,b,e,rfl,eb,hl,rfl⟩
section
variable {X:Cx} {pins:List (Addr×Obj)} {σ:St} {H:Hp} {s:Shared} {a:Addr} {y v:V} {u r:Value} {o:Option V} {A:Around} {E:Value ->Shared ->Prop}
theorem Inv.big (I:Inv X pins σ H s):sysModules < s.heap.objs.size:=by
 have h:mainGlobals < s.heap.objs.size:=(I.mod.glob.keeps I.bk).lt;exact Nat.lt_trans (by decide) h
theorem qm8 {Q:Value ->Shared ->Prop} (hu:A.units+1 < cLine) (I:Inv X pins σ H s) (g:DGet H a y (some v)) (ry:RelV y u) (h:∀ O s',Inv X pins σ H s' ->RelV v O ->Q O s'):
  wpAny (model X.prog X.w) A (getItem (.ref a) u) Q E s:=by
 rcases g with ⟨kvs,k,e,ey,l⟩ | ⟨kvs,k,b,e,ey,eb,l⟩
 ·subst ey;obtain ⟨z,hd,vs,J,Y⟩:=q7f I.hok e;obtain ⟨O,hw,L⟩:=RelO.qd6 (v:=v) (o:=valueAt vs k) (by rw [l];exact J.val k);exact wpAny_getItem_of (q67 ry) Y.mapOf hw (h O _ (I.tok _) L)
 ·subst ey;cases (show u=Value.ref b from ry)
  obtain ⟨z,hd,xs,J,Y⟩:=q7g I.hok e;obtain ⟨O,hw,L⟩:=RelO.qd6 (v:=v) (o:=(atKey xs k).map (·.2)) (by rw [l];exact J.val k);obtain ⟨p,hp,Z⟩:=z0m.mp hw;refine wpAny_getItem_heap (tupleKind_room_in1 hu) (q6v I.hok eb) Y hp ?_;rw [Z];exact h O _ (I.tok _) L
theorem d_in {Q:Value ->Shared ->Prop} (hu:A.units+1 < cLine) (I:Inv X pins σ H s) (g:DGet H a y o) (ry:RelV y u) (h:∀ s',Inv X pins σ H s' ->Q (.bool o.isSome) s'):
  wpAny (model X.prog X.w) A (compareOp .In u (.ref a)) Q E s:=by
 rcases g with ⟨kvs,k,e,ey,l⟩ | ⟨kvs,k,b,e,ey,eb,l⟩
 ·subst ey;obtain ⟨z,hd,vs,J,L⟩:=q7f I.hok e;refine wpAny_in_of (q67 ry) hd L.mapOf ?_;rw [<- (J.val k).q44,<- l];exact h _ (I.tok _)
 ·subst ey;cases (show u=Value.ref b from ry)
  obtain ⟨z,hd,xs,J,L⟩:=q7g I.hok e;refine wpAny_in_heap (tupleKind_room_in1 hu) (q6v I.hok eb) hd L ?_;have q:=(J.val k).q44;rw [Option.isSome_map] at q;rw [<- q,<- l];exact h _ (I.tok _)
theorem qrm {Q:Value ->Shared ->Prop} (hu:A.units+1 < cLine) (I:Inv X pins σ H s) (g:DGet H a y o) (ry:RelV y u) (h:∀ s',Inv X pins σ H s' ->Q (.bool (!o.isSome)) s'):
  wpAny (model X.prog X.w) A (compareOp .NotIn u (.ref a)) Q E s:=by
 rcases g with ⟨kvs,k,e,ey,l⟩ | ⟨kvs,k,b,e,ey,eb,l⟩
 ·subst ey;obtain ⟨z,hd,vs,J,L⟩:=q7f I.hok e;refine wpAny_notIn_of (q67 ry) hd L.mapOf ?_;rw [<- (J.val k).q44,<- l];exact h _ (I.tok _)
 ·subst ey;cases (show u=Value.ref b from ry)
  obtain ⟨z,hd,xs,J,L⟩:=q7g I.hok e;refine wpAny_notIn_heap (tupleKind_room_in1 hu) (q6v I.hok eb) hd L ?_;have q:=(J.val k).q44;rw [Option.isSome_map] at q;rw [<- q,<- l];exact h _ (I.tok _)
theorem q9q {h':Heap} {t':Nat} {J:HO} (I:Inv X pins σ H s) (mu:Mut (H a)) (hs:Heap.SameBut a s.heap h') (he:∃ q,h'.get? a=some q) (new:ObjOk X.prog X.w (upd H a J) h' a J):
  Inv X pins σ (upd H a J) {s with heap:=h',toks:=t'}:=
 I.write (x:=a) (e:=a) mu (.inl rfl) (λ b q hb z=>(hs.2 b hb).trans z) he new
theorem qm9 {P:Program} {w:World} {H':Hp} {h':Heap} {kvs:List (Key×V)} {vs:List (Key×Value)} (z:kvs.length<=sizeLine) (hd:(a==sysModules)=false) (J:KV kvs vs) (dd:h'.DictOf (qo P w) a vs):
  ObjOk P w H' h' a (.dK kvs):=⟨z,hd,vs,J,dd⟩
theorem qma {H':Hp} {Q:Unit ->Shared ->Prop} (hu:A.units+1 < cLine) (I:Inv X pins σ H s) (g:DPut H a y v H') (ry:RelV y u) (rv:RelV v r) (h:∀ s',Inv X pins σ H' s' ->Q () s'):
  wpAny (model X.prog X.w) A (setItem (.ref a) u r) Q E s:=by
 rcases g with ⟨kvs,k,e,ey,l,eH⟩ | ⟨kvs,k,b,e,ey,eb,l,eH⟩
 ·subst ey eH;obtain ⟨z,hd,vs,J,O⟩:=qql I.hok e;have Z:vs.length<=sizeLine:=by rw [<- J.length];exact z
  have hl:(putK kvs k v).length<=sizeLine:=by have:=q1i kvs k v;omega
  refine wpAny_setItem_pairs (hsz:=Z) (q67 ry) O λ h' L Y=>h _ ?_;have he:∃ q,h'.get? a=some q:=let ⟨q,_,_,hq,_⟩:=L;⟨q,hq⟩
  exact q9q I (by rw [e];exact True.intro) Y he (qm9 hl hd (J.put k rv) L)
 ·subst ey eH;cases (show u=Value.ref b from ry)
  obtain ⟨z,hd,xs,J,O⟩:=qwj I.hok e;have Z:xs.length<=sizeLine:=by rw [<- Paired.length J];exact z
  have hl:(putK kvs k v).length<=sizeLine:=by have:=q1i kvs k v;omega
  refine wpAny_setItem_heap (hsz:=Z) (tupleKind_room_in1 hu) (q6v I.hok eb) O λ h' L Y=>h _ ?_;obtain ⟨q,es,ep,hq,h2,h3,h4,_,h5⟩:=L;refine q9q I (by rw [e];exact True.intro) Y ⟨q,hq⟩ ⟨hl,hd,_,(J.put k eb rv).keeps λ c ys ec=> ?_,q,es,ep,hq,h2,h3,h4,h5⟩;rw [qd (qw9 ec e (λ z=>nomatch z))];exact ec
end
section
variable {X:Cx} {pins:List (Addr×Obj)} {σ:St} {H:Hp} {s:Shared} {a:Addr} {kvs:List (Key×V)} {k:Key} {u:Value} {A:Around} {E:Value ->Shared ->Prop}
end
def NoSl (i:Expr):Prop:=∀ ov iv,subscripted i false ov iv=operate [ov,iv] (getItem ov iv)
theorem qj2 {prog:Program} {w:World} {A:Around} {E:Value ->Shared ->Prop} {s:Shared} {env:Env} {value J:Expr} {pos:Pos} {T id:String} {Q:Value ->Shared ->Prop}
    (hl:typeLookup (.type T) "__getitem__"=pure (some (.builtin id))) (hs:NoSl J)
    (h:wpAny (model prog w) A (eval value env) (λ o Z=>wpAny (model prog w) A (eval J env) (λ i L=>L.TypeIs o T/\wpAny (model prog w) A (getItem o i) Q E L) E Z) E s):
    wpAny (model prog w) A (eval (.Subscript value J pos) env) Q E s:=by
  refine Subscript_ (z3x h (λ o Z h₁=>z3x h₁ (λ i L O=> ?_) λ _ _ x=>x) λ _ _ x=>x);obtain ⟨Y,O⟩:=O;unfold subscriptTail;refine z3w ?_;rw [getitemInPython_of_ne Y.not_modules];refine z3w (wpAny_specialOf Y hl ?_);have fin:wpAny (model prog w) A (subscripted J false o i) (λ r s₃=>wpAny (model prog w) A (letTemporaryGo value o r >>=λ _=>pure r) Q E s₃) E L:=by
    rw [hs o i];exact wpAny_operating (z3x O (λ r s₃ h₃=>z3w (wpAny_letTemporaryGo (z3v h₃))) λ _ _ x=>x)
  first
    | exact z3v (z3w fin)
    | exact z3w (z3v (z3w fin))
    | exact z3w fin
theorem qhz {X:Cx} {pins:List (Addr×Obj)} {σ:St} {H:Hp} {s:Shared} {a:Addr} {y:V} {o:Option V} (I:Inv X pins σ H s) (g:DGet H a y o):s.TypeIs (.ref a) "dict":=by
 rcases g with ⟨kvs,k,e,_,_⟩ | ⟨kvs,k,b,e,_,_,_⟩
 ·obtain ⟨_,_,vs,_,J⟩:=q7f I.hok e;exact J.typeIs
 ·obtain ⟨_,_,xs,_,J⟩:=q7g I.hok e;exact J.typeIs
def qwk (td ty:TE):TE:=λ σ H Q=>td σ H λ x H1=>ty σ H1 λ y H2=>∃ a v,x= .ref a/\DGet H2 a y (some v)/\Q v H2
def tDIn (ty td:TE):TE:=λ σ H Q=>ty σ H λ y H1=>td σ H1 λ x H2=>∃ a o,x= .ref a/\DGet H2 a y o/\Q (.bl o.isSome) H2
def qrn (ty td:TE):TE:=λ σ H Q=>ty σ H λ y H1=>td σ H1 λ x H2=>∃ a o,x= .ref a/\DGet H2 a y o/\Q (.bl (!o.isSome)) H2
def qwl (td ty tv:TE):TS:=λ D σ H=>tv σ H λ v H1=>td σ H1 λ x H2=>ty σ H2 λ y H3=>∃ a H4,x= .ref a/\DPut H3 a y v H4/\D.nx σ H4
section
variable {X:Cx} {o i e value:Expr} {pos pos' tpos:Pos} {td ty tv:TE}
theorem q6w (hu:X.A.units+1 < cLine) (ho:PE X o td) (hi:PE X i ty) (hs:NoSl i):PE X (.Subscript o i pos) (qwk td ty):=by
 intro pins s σ H Q I h;refine qj2 PySem.F.slot_dict_getitem.lookup hs (thn (ho pins s σ H _ I h) λ u s1 ⟨x,H1,I1,rx,q1⟩=>thn (hi pins s1 σ H1 _ I1 q1) λ iv s2 L=> ?_);obtain ⟨y,H2,I2,ry,a,v,ex,g,q2⟩:=L;subst ex;obtain rfl:u=Value.ref a:=rx;exact ⟨qhz I2 g,qm8 hu I2 g ry λ w' s3 I3 J=>⟨v,H2,I3,J,q2⟩⟩
theorem qtv (hu:X.A.units+1 < cLine) (hi:PE X i ty) (ho:PE X o td):PC X .In i o (tDIn ty td):=by
 intro pins s σ H Q I h;refine thn (hi pins s σ H _ I h) λ iv s1 ⟨y,H1,I1,ry,q1⟩=>thn (ho pins s1 σ H1 _ I1 q1) λ u s2 J=> ?_;obtain ⟨x,H2,I2,rx,a,ov,ex,g,q2⟩:=J;subst ex;obtain rfl:u=Value.ref a:=rx;exact d_in hu I2 g ry λ s3 I3=>⟨.bl ov.isSome,H2,I3,zr,q2⟩
theorem qmb (hu:X.A.units+1 < cLine) (hi:PE X i ty) (ho:PE X o td):PC X .NotIn i o (qrn ty td):=by
 intro pins s σ H Q I h;refine thn (hi pins s σ H _ I h) λ iv s1 ⟨y,H1,I1,ry,q1⟩=>thn (ho pins s1 σ H1 _ I1 q1) λ u s2 J=> ?_;obtain ⟨x,H2,I2,rx,a,ov,ex,g,q2⟩:=J;subst ex;obtain rfl:u=Value.ref a:=rx;exact qrm hu I2 g ry λ s3 I3=>⟨.bl (!ov.isSome),H2,I3,zr,q2⟩
theorem q9r (hu:X.A.units+1 < cLine) (ho:PE X o td) (hi:PE X i ty) (hv:PE X value tv) (hs:swapsWith value (some (.Subscript o i pos')) pos.line X.env=pure false):
  PS X (.Assign [.Subscript o i pos'] value pos) (qwl td ty tv):=by
 intro pins s σ H D I h;refine wpAny_Assign_Subscript (thn (hv pins s σ H _ I h) λ r s1 ⟨v,H1,I1,rv,q1⟩=>thn (ho pins s1 σ H1 _ I1 q1) λ u s2 ⟨x,H2,I2,rx,q2⟩=>thn (hi pins s2 σ H2 _ I2 q2) λ iv s3 J=> ?_) hs;obtain ⟨y,H3,I3,ry,a,H4,ex,g,q3⟩:=J;subst ex;obtain rfl:u=Value.ref a:=rx;exact qma hu I3 g ry rv λ s4 I4=>⟨σ,H4,I4,q3⟩
end
theorem qoq {P:Program} {w:World} {H:Hp} (h:Heap) (hb:sysModules < h.objs.size):ObjOk P w H (h.push {cls:= .type "dict",data:= .dict #[]}) h.objs.size (.dK []):=
 ⟨z3t _,beq_eq_false_iff_ne.mpr (Ne.symm (z3i hb)),[],.nil,Heap.DictOf.new h⟩
theorem qor {P:Program} {w:World} {H:Hp} (h:Heap) (hb:sysModules < h.objs.size):ObjOk P w H (h.push {cls:= .type "dict",data:= .dict #[]}) h.objs.size (.dT []):=
 ⟨z3t _,beq_eq_false_iff_ne.mpr (Ne.symm (z3i hb)),[],.nil,_,#[],0,z16 _ rfl,⟨rfl,rfl,rfl⟩,rfl,rfl,z32⟩
def qtw:TE:=λ _ H Q=>∀ p,H p=none ->Q (.ref p) (upd H p (.dK []))
def qtx:TE:=λ _ H Q=>∀ p,H p=none ->Q (.ref p) (upd H p (.dT []))
section
variable {X:Cx} {pos:Pos}
theorem q5r:PE X (.Dict [] [] pos) qtw:=λ pins s σ H Q I h=>
 wpAny_Dict_empty ⟨.ref s.heap.objs.size,_,I.laid (a:=s.heap.objs.size) (o:= .dK []) (t':=s.toks) (λ _ _ q=>z0k _ q) (z3q _) (qoq s.heap I.big),rfl,h _ (I.hok.fresh (z3q _))⟩
theorem qos:PE X (.Dict [] [] pos) qtx:=λ pins s σ H Q I h=>
 wpAny_Dict_empty ⟨.ref s.heap.objs.size,_,I.laid (a:=s.heap.objs.size) (o:= .dT []) (t':=s.toks) (λ _ _ q=>z0k _ q) (z3q _) (qor s.heap I.big),rfl,h _ (I.hok.fresh (z3q _))⟩
end
structure M2 (X:Cx) (o:Expr) (m:Str) (apos:Pos) (e f:Expr) (cpos:Pos):Prop where
 base:attributeBase o m X.env (eval o X.env)=eval o X.env
 few:((backTo cpos (starEach [e,f] X.env)).all (λ x=> !x.1)&&(backToKw cpos (keywordEach [] X.env)).all (λ x=>x.1.isSome)
  &&decide (([e,f]:List Expr).length+([]:List Keyword).length+(if ([]:List Keyword).isEmpty then 0 else 1) < 30))=true
 line:(apos.endLine==cpos.line)=true
 trees:backTo cpos (starEach [e,f] X.env)=[(false,eval e X.env),(false,eval f X.env)]
def IsD (H:Hp) (a:Addr):Prop:=(∃ kvs,Rd H a (.dK kvs))\/ ∃ kvs,Rd H a (.dT kvs)
theorem qmc {X:Cx} {pins:List (Addr×Obj)} {σ:St} {H:Hp} {s:Shared} {a:Addr} (I:Inv X pins σ H s) (d:IsD H a):
  s.TypeIs (.ref a) "dict"/\(∀ b,Value.ref a= .ref b ->∃ J,s.heap.get? b=some J/\J.dict=none)/\(a==sysModules)=false:=by
 rcases d with ⟨kvs,e⟩ | ⟨kvs,e⟩
 ·obtain ⟨_,hd,vs,_,L⟩:=q7f I.hok e;refine ⟨L.typeIs,λ b q=> ?_,hd⟩;cases q
  obtain ⟨J,_,_,h1,h2,_⟩:=L;exact ⟨J,h1,h2.2.1⟩
 ·obtain ⟨_,hd,xs,_,L⟩:=q7g I.hok e;refine ⟨L.typeIs,λ b q=> ?_,hd⟩;cases q
  obtain ⟨J,_,_,h1,h2,_⟩:=L;exact ⟨J,h1,h2.2.1⟩
section
variable {X:Cx} {pins:List (Addr×Obj)} {σ:St} {H:Hp} {s:Shared} {a:Addr} {y d:V} {u r:Value} {o:Option V} {A:Around} {E:Value ->Shared ->Prop}
theorem qty {Q:Value ->Shared ->Prop} (hu:A.units+1 < cLine) (I:Inv X pins σ H s) (g:DGet H a y o) (ry:RelV y u) (O:RelV d r) (h:∀ Y s',Inv X pins σ H s' ->RelV (o.getD d) Y ->Q Y s'):
  wpAny (model X.prog X.w) A (call (.builtin "dict.get") [.ref a,u,r]) Q E s:=by
 rcases g with ⟨kvs,k,e,ey,l⟩ | ⟨kvs,k,b,e,ey,eb,l⟩
 ·subst ey;obtain ⟨z,hd,vs,J,L⟩:=q7f I.hok e;refine call_meetsIn PySem.F.slot_dict_get L.typeIs PySem.F.entry_dict_get (PySem.F.args_dict_get_3 _ _ _) (meets_dict_get_default (qo X.prog X.w) a (q67 ry) hd r) ⟨_,L.mapOf,h _ _ (I.tok _) ?_⟩;rw [l];exact (J.val k).getD O
 ·subst ey;cases (show u=Value.ref b from ry)
  obtain ⟨z,hd,xs,J,L⟩:=q7g I.hok e;refine call_meetsIn PySem.F.slot_dict_get L.typeIs PySem.F.entry_dict_get (PySem.F.args_dict_get_3 _ _ _) (meetsH_dict_get_default (tupleKind (qo X.prog X.w)) a b hd r) ⟨tupleKind_room_in1 hu,k,xs,q6v I.hok eb,L,h _ _ (I.tok _) ?_⟩;rw [l];exact (J.val k).getD O
end
def qtz (td ty tx:TE):TE:=λ σ H Q=>td σ H λ x H1=>∃ a,x= .ref a/\IsD H1 a/\ty σ H1 λ y H2=>tx σ H2 λ z H3=>∃ o,DGet H3 a y o/\Q (o.getD z) H3
section
variable {X:Cx} {o e f:Expr} {apos cpos:Pos} {td ty tx:TE}
theorem qg7 (hu:X.A.units+1 < cLine) (ho:PE X o td) (he:PE X e ty) (hf:PE X f tx) (m:M2 X o "get" apos e f cpos):PE X (.Call (.Attribute o "get" apos) [e,f] [] cpos) (qtz td ty tx):=by
 intro pins s σ H Q I h;refine wpAny_Call_method m.base m.few m.line PySem.F.plainAttrs_dict PySem.F.slot_dict_get PySem.F.type_dict_get (thn (ho pins s σ H _ I h) λ u s1 L=> ?_);obtain ⟨x,H1,I1,rx,a,ex,d,q1⟩:=L;subst ex;obtain rfl:u=Value.ref a:=rx;obtain ⟨t1,t2,_⟩:=qmc I1 d;refine ⟨t1,t2,?_⟩;rw [m.trees];refine Calls.callWith_builtin rfl (Calls.evalArgs_plain (Calls.spliced_cons (thn (he pins s1 σ H1 _ I1 q1) λ iv s2 ⟨y,H2,I2,ry,q2⟩=>
  Calls.spliced_cons (thn (hf pins s2 σ H2 _ I2 q2) λ fv s3 ⟨z,H3,I3,rz,ov,g,q3⟩=>Calls.spliced_nil ?_))))
 exact qty hu I3 g ry rz λ w' s4 I4 J=>⟨_,H3,I4,J,q3⟩
end
section
variable {X:Cx} {pins:List (Addr×Obj)} {σ:St} {H:Hp} {s:Shared} {a:Addr} {kvs:List (Key×V)} {A:Around} {E:Value ->Shared ->Prop}
end
section
variable {X:Cx} {pins:List (Addr×Obj)} {σ:St} {H:Hp} {s:Shared} {a:Addr} {y:V} {u:Value} {A:Around} {E:Value ->Shared ->Prop}
end
end L2
namespace Att
open PySem PySem.W PySem.Calls PyProof.Rows
theorem qc0 {P:Params} {h:Heap}:∀ (ns:List Int) (vs:List Value),WellAll P h vs (ns.map WData.int) ->IntsAre vs ns:=by
 intro ns
 induction ns with
 | nil=>
  intro vs w;rw [z3m] at w;cases w
  exact .nil
 | cons n ns ih=>
  intro vs w;rw [z35] at w;cases w with
  | cons a b=>
   cases a
   exact .cons _ _ (ih _ b)
theorem qmd {l:OpenLaw} {n:Nat} (hn:l.most=some n) {P:Params} {h:Heap} {args:List WData} {L:List Value}
    (J:l.row.toRowW.claim.pre args=true) (a0:WellAll P h L args):
    ∃ a vs ns,L=[Value.ref a]/\args=[WData.list (ns.map WData.int)]/\h.get? a=some {cls:= .type "list",data:= .seq vs.toArray}/\IntsAre vs ns/\ns.length<=n:=by
  have Z:WShape.hasAll [] args [.list .int]=true:=(pre_splitW J).1;have hc:l.pre.holds [] {args:=args}=true:=(pre_splitW J).2;obtain ⟨d,r,rfl,h1,h2⟩:=hasAllW_cons Z;obtain rfl:=hasAllW_nil h2;obtain ⟨xs,rfl,h3⟩:=hasW_list h1;obtain ⟨ns,rfl⟩:=items_int h3;have Y:ns.length<=n:=by
    unfold OpenLaw.pre at hc;have h4:(WTm.not (.lt (.lit (.int (n:Int))) (.len (.arg 0)))).holds [] {args:=[.list (ns.map .int)]}=true:=by
      have h4:=(holds_andW hc).1;rw [hn] at h4;exact h4
    have h5:=condW_of h4 (w_not (w_lt w_lit (w_len_list (w_arg rfl))));rw [z2o] at h5;refine Nat.le_of_not_lt λ q=> ?_;have q':(n:Int) < ((ns.length:Nat):Int):=by omega
    first
      | (rw [z2y q'] at h5;exact absurd h5 (by decide))
      | (simp at h5;omega)
  cases a0 with
  | cons w1 w2=>
    cases w2
    cases w1 with
    | list ho O=>exact ⟨_,_,ns,rfl,rfl,ho,qc0 ns _ O,Y⟩
theorem qme (l:OpenLaw) (args:List WData):l.row.toRowW.claim.post args (.bool true) args=true:=
 postW_of (r:=l.row.toRowW) (X:=(true==true))
  (show WShape.has [] (.bool true) .bool=true by first | rfl | decide | simp [WShape.has,WShape.arms,WShape.armsAll])
  (show (WTm.eq .res (.lit (.bool true))).value [] {args:=args,res:=some (.bool true),after:=args}=some (.bool (true==true)) from w_eq_bool (w_res rfl) w_lit) rfl
theorem qi0 {l:OpenLaw} {n:Nat} {q:Program} {J:List Str} {XP:(Str ->Option Value) ->Heap ->Prop} {YP:World ->Heap ->Prop} {d:DefRec}
  (hn:l.most=some n) (a6:d.params.defaults=[])
  (call:∀ (w:World) (s₀ L:Shared) (mg mb:Str ->Option Value) (fa:Addr) (o:Obj) (pm cd O:Value) (a:Addr) (vs:List Value) (ns:List Int),
   Ground q J [] XP w s₀ mg mb L.heap ->YP w L.heap ->
   L.heap.get? fa=some o ->o.data= .func (docDef d.name d.params d.body d.scope pm cd O) ->L.heap.CodeRec cd d.name ->mg d.name=some (.ref fa) ->
   L.heap.get? a=some {cls:= .type "list",data:= .seq vs.toArray} ->IntsAre vs ns ->ns.length<=n ->L.gens=#[] ->
   codeAny (model l.prog w) callerA (.call (.ref fa) ⟨[.ref a],[]⟩) (λ r s'=>r= .ok (.ret (.bool true))/\OldK L.heap s'.heap/\s'.os=L.os/\AllBare s'.gens) L):
  WalkO q J XP YP l.row.toRowW d [] (λ f vs=>PySem.call f vs):=by
 intro w s₀ L mg mb G Y fa o pm cd O dV kV ho hd a5 hD a7 hg args b0 as a3 a9 hrd a8 hlo;obtain rfl:dV= .none:=Dflts.none hD a6;obtain rfl:kV= .none:=Dflts.noKw hD;obtain ⟨a,vs,ns,rfl,rfl,a2,Z,a0⟩:=qmd hn a3 a8;refine enter_call (z3l (call w s₀ L mg mb fa o pm cd O a vs ns G Y ho (fd_plain hd) a5 a7 a2 Z a0 hg) λ r s' hq=> ?_);obtain ⟨rfl,h2,h3,h4⟩:=hq;exact ⟨.inl ⟨.bool true,.bool true,[],rfl,λ _=>rfl,.bool true,qme l _,λ _=>⟨List.Pairwise.nil,λ _ hm=>(nomatch hm)⟩⟩,h2,h3,h4⟩
section
variable {prog:Program} {w:World} {A:Around} {E:Value ->Shared ->Prop} {s:Shared} {K:Frag}
end
end Att
namespace L2
open PySem PySem.Spec PyProof.Rows
theorem qe4:∀ {vs:List Value} {ns:List Int},IntsAre vs ns ->Vals (ns.map V.int) vs
 | _,_,.nil=> .nil
 | _,_,.cons n t h=> .cons ⟨t,rfl⟩ (qe4 h)
def Only (H:Hp):Prop:=∀ b,H b=none\/ ∃ o xs,H b=some (.frz o (.lst xs))
theorem qot {P:Program} {w:World} {K:PySem.W.Frag} {mg mb:Str ->Option Value} {CX:CXT} {k:Nat} {fa a:Addr} {fd:FuncData} {x:Str} {sp:Sp} {J:Shared} {vs:List Value} {ns:List Int}
  (KX:K.In J.heap) (a5:J.heap.Ns mainGlobals mg) (O:J.heap.Ns builtinsNs mb) (a9:∀ x:Str,x≠"__name__" ->mb x=bootBuiltins x) (a3:J.heap.NoLimit) (hg:J.gens=#[])
  (ha:J.heap.get? a=some {cls:= .type "list",data:= .seq vs.toArray}) (hi:IntsAre vs ns) (hl:ns.length<=sizeLine) (hr:Room k callerA)
  (F:∀ base:Heap,K.In base ->base.Ns mainGlobals mg ->FnOk P w K mg base CX k fa fd [x] sp) (a0:∀ (s:Shared) (u:Value),BindsTo s fd ⟨[u],[]⟩ [(x,u)])
  (b0:∀ H:Hp,Only H ->SqL K H a (ns.map V.int) ->sp [.ref a] H (λ v _=>v= .bl true) λ _ _ _=>False)
  (a8:∀ H e s',CX [] H J (λ _ _ _=>False) e s' ->False):
  codeAny (model P w) callerA (.call (.ref fa) ⟨[.ref a],[]⟩) (λ r s'=>r= .ok (.ret (.bool true))/\OldK J.heap s'.heap/\s'.os=J.os/\AllBare s'.gens) J:=by
 have rv:=qe4 hi;have a7:=hi.length;have Z:∀ H:Hp,Only H ->SqL K H a (ns.map V.int) ->HOk P w H J.heap ->(∀ b,H b≠none ->b=a) ->(H a≠none ->K.lookup a=none) ->
   codeAny (model P w) callerA (.call (.ref fa) ⟨[.ref a],[]⟩) (λ r s'=>r= .ok (.ret (.bool true))/\OldK J.heap s'.heap/\s'.os=J.os/\AllBare s'.gens) J:=by
  intro H hO hS hok hA hK;have L:∀ {b:Addr} {o:Obj},J.heap.get? b=some o ->H b=none ->(hidT J.heap H).get? b=some o:=λ e n=>qoh e n;have b1:∀ {b:Addr} {o:Obj} {es:Array DictEntry} {ep:Nat},J.heap.get? b=some o ->o.data= .dict es ep ->H b=none:=λ {b o es ep} e d=>by
   cases q:H b with
   | none=>rfl
   | some u=>
    have e':b=a:=hA b (by rw [q];simp);subst e';rw [ha] at e;cases e;have d':Data.seq vs.toArray _=Data.dict es ep:=d;cases d'
  have Y:∀ {b:Addr} {m:Str ->Option Value},J.heap.Ns b m ->(hidT J.heap H).Ns b m:=λ {b m} ⟨o,es,ep,e,d,r⟩=>⟨o,es,ep,L e (b1 e d),d,r⟩;have a2:K.In (hidT J.heap H):=λ b o e=>L (KX b o e) (by
   cases q:H b with
   | none=>rfl
   | some u=>
    have e':b=a:=hA b (by rw [q];simp);subst e';rw [hK (by rw [q];simp)] at e;cases e)
  have hM:Mod K mg (hidT J.heap H):=⟨a2,Y a5,⟨mb,Y O,a9⟩,let ⟨mc,h1,h2⟩:=a3;⟨mc,Y h1,h2⟩⟩;have e0:Env0 P w K mg (hidT J.heap H) callerA [] J H:=⟨rfl,hM,λ b o e=>qr4 e,Nat.le_of_eq (qlq _ _),trivial,λ b O=>absurd (show b∈([]:List Addr) from O) (by simp),hok,.of_eq hg⟩;refine z3l ((F _ a2 (Y a5)).run callerA [] J H ⟨[.ref a],[]⟩ [.ref a] [.ref a] _ _ hr e0 (a0 J (.ref a)) (.cons rfl .nil) (b0 H hO hS)) λ r s' h=> ?_;cases r with
  | error e=>exact (a8 H e s' h).elim
  | ok fl=>
   cases fl with
   | next=>exact False.elim h
   | brk=>exact False.elim h
   | cont=>exact False.elim h
   | ret u=>
    obtain ⟨v,H',os,bare,un,a6,r',q⟩:=h;have q':v= .bl true:=q;subst q';obtain rfl:u=Value.bool true:=r';refine ⟨zr,OldK.of_keep λ b o e=> ?_,os,bare⟩;cases q:H b with
    | none=>exact un.keep b o e q (by intro z;exact absurd (show b∈([]:List Addr) from z) (by simp)) (by simp)
    | some u=>
     rcases hO b with z | ⟨ob,xs,z⟩
     ·rw [q] at z;cases z
     ·have z2:=un.frzs b ob _ z;obtain ⟨e1,_⟩:=hok b _ z;obtain ⟨e2,_⟩:=a6 b _ z2;rw [e] at e1;cases e1;exact e2
 cases hk:K.lookup a with
 | some o=>
  have e:=KX a o hk;rw [ha] at e;cases e
  refine Z (λ _=>none) (λ _=> .inl rfl) (.inr ⟨_,vs.toArray,_,hk,rfl,rfl,rfl,by rw [z1t,a7];exact hl,by simpa using rv⟩) (λ b u z=>by have z':(none:Option HO)=some u:=z;cases z') (λ b z=>absurd rfl z) λ z=>absurd rfl z
 | none=>
  refine Z (λ b=>if b=a then some (.frz {cls:= .type "list",data:= .seq vs.toArray} (.lst (ns.map V.int))) else none) (λ b=> ?_) (.inl (.inr ⟨{cls:= .type "list",data:= .seq vs.toArray},if_pos rfl⟩)) (λ b u z=> ?_) (λ b z=> ?_) λ _=>hk
  ·by_cases O:b=a
   ·exact .inr ⟨_,_,if_pos O⟩
   ·exact .inl (if_neg O)
  ·by_cases O:b=a
   ·have z':=(if_pos O).symm.trans z;cases z'
    subst O;exact ⟨ha,by rw [z2o];exact hl,vs,_,rv,ha⟩
   ·have z':=(if_neg O).symm.trans z;cases z'
  ·by_cases O:b=a
   ·exact O
   ·exact absurd (if_neg O) z
abbrev KOf {K:PySem.W.Frag} {h:Heap} (_:K.In h):PySem.W.Frag:=K
theorem qj3 {l:PySem.W.OpenLaw} {n k:Nat} {q:Program} {O:List Str} {XP:(Str ->Option Value) ->Heap ->Prop} {YP:World ->Heap ->Prop} {d:DefRec} {K:Params ->PySem.W.Frag} {CX:World ->CXT} {sp:World ->Sp} {x:Str}
  (hn:l.most=some n) (a5:n<=sizeLine) (a2:d.params.defaults=[]) (hr:Room k callerA)
  (hY:∀ (w:World) (h:Heap),YP w h ->(K w.params).In h)
  (F:∀ (w:World) (mg:Str ->Option Value) (fa:Addr) (h:Heap),(K w.params).In h ->h.Ns mainGlobals mg ->mg d.name=some (.ref fa) ->
   ∃ fd:FuncData,(∀ (s:Shared) (u:Value),BindsTo s fd ⟨[u],[]⟩ [(x,u)])/\
    ∀ base:Heap,(K w.params).In base ->base.Ns mainGlobals mg ->FnOk l.prog w (K w.params) mg base (CX w) k fa fd [x] (sp w))
  (a6:∀ (w:World) (H:Hp) (a:Addr) (ns:List Int),ns.length<=n ->Only H ->SqL (K w.params) H a (ns.map V.int) ->sp w [.ref a] H (λ v _=>v= .bl true) λ _ _ _=>False)
  (a0:∀ (w:World) (H:Hp) (s:Shared) (e:Value) (s':Shared),CX w [] H s (λ _ _ _=>False) e s' ->False):
  PySem.W.WalkO q O XP YP l.row.toRowW d [] (λ f vs=>PySem.call f vs):=by
 refine Att.qi0 hn a2 λ w s₀ s₁ mg mb fa o pm cd doc a vs ns G Y ho hd hcd a3 Z L J hg=> ?_;have KX:=hY w _ Y;obtain ⟨fd,hb,hF⟩:=F w mg fa _ KX G.T.g a3;exact qot KX G.T.g G.T.b G.T.builtins G.T.nolimit hg Z L (z3j J a5) hr hF hb (λ H hO hS=>a6 w H a ns J hO hS) λ H e s'=>a0 w H s₁ e s'
theorem qou {l:PySem.W.OpenLaw} {n k:Nat} {q:Program} {J:List Str} {XP:(Str ->Option Value) ->Heap ->Prop} {YP:World ->Heap ->Prop} {d:DefRec} {K:Params ->PySem.W.Frag} {CX:CXT} {sp:PySem.W.Frag ->Sp} {x:Str}
  (hn:l.most=some n) (Y:n<=sizeLine) (O:d.params.defaults=[]) (hr:Room k callerA)
  (hY:∀ (w:World) (h:Heap),YP w h ->(K w.params).In h)
  (F:∀ (w:World) (mg:Str ->Option Value) (fa:Addr) (h:Heap),(K w.params).In h ->h.Ns mainGlobals mg ->mg d.name=some (.ref fa) ->
   ∃ fd:FuncData,(∀ (s:Shared) (u:Value),BindsTo s fd ⟨[u],[]⟩ [(x,u)])/\
    ∀ base:Heap,(K w.params).In base ->base.Ns mainGlobals mg ->FnOk l.prog w (K w.params) mg base CX k fa fd [x] (sp (K w.params)))
  (Z:∀ (K:PySem.W.Frag) (H:Hp) (a:Addr) (ns:List Int),ns.length<=n ->Only H ->SqL K H a (ns.map V.int) ->sp K [.ref a] H (λ v _=>v= .bl true) λ _ _ _=>False)
  (L:∀ (H:Hp) (s:Shared) (e:Value) (s':Shared),CX [] H s (λ _ _ _=>False) e s' ->False):
  PySem.W.WalkO q J XP YP l.row.toRowW d [] (λ f vs=>PySem.call f vs):=
 qj3 (K:=K) (CX:=λ _=>CX) (sp:=λ w=>sp (K w.params)) hn Y O hr hY F (λ w H a ns h1 h2 h3=>Z (K w.params) H a ns h1 h2 h3) λ _ H s e s'=>L H s e s'
end L2
/- THE LAST THEOREM (shape;LID,My.*are yours):
   My.Adr:a structure of the addresses that your layer names (classes,functions);My.Txt K t:a structure (Prop) of the equations over K;
   My.qhh:{K} {implicit addresses ..} (e1:nsIn K mainGlobals "law"=some (some (.ref f))) (e2:K.lookup f=some ⟨oc,od,.func (fnOf "law" "law" params body scope dV kV doc pm an cdv ct),sl⟩) (e3:codeIn K cdv "law"=true) .. :∃ t,My.Txt K t
set_option maxRecDepth 100000 in
set_option maxHeartbeats 0 in
theorem PySem.Challenge.cw_LID_holds : PySem.Challenge.rw_LID.Holds := by
 w_on;o_law;k_head;(case hw=>w_witness2)
 k_fill
 refine L2.qj3 (l:=PySem.Challenge.rw_LID) (n:=63) (k:=40) (x:="script") (CX:=λ w=> ..) (sp:=λ _=>My.sp_law) rfl (by decide) rfl ⟨zr,by decide,by decide⟩ (λ w h Y=>PySem.W.kIn_of Y) ?F ?S ?C
 case F=>
  intro w mg fa h KX G hmg;have T:∃ t,My.Txt (L2.KOf KX) t:=by
   dsimp only [L2.KOf] -- K must stand as «<heap const> w.params» for k_is
   refine' My.qhh ?e1 ?e2 ?e3 ..
   (case e1=>PySem.W.k_is) -- in the order:a name ->its address ->its object ->its parts
   (case e2=>PySem.W.k_is)
   ..
  obtain ⟨t,T⟩:=T;have e0:=hmg.symm.trans (z3b KX G T.law);cases e0 -- fa is the law's own address
  exact ⟨_,λ s u=> .of_eq rfl,λ base kb nb=>My.law_fn T kb nb⟩ -- if «.of_eq rfl» comes too early:refine' ⟨_,?b,λ base kb nb=>My.law_fn T kb nb⟩;exact λ s u=> .of_eq rfl
 case S=>exact λ w H a ns hl hO hS=> ..
 case C=>exact ..
(the tactic k_is has no namespace:write k_is) -/
namespace L2
open PySem PySem.Spec PyProof.Rows
def q1b (s:Stmt) (j:Nat):Stmt:=match s with
 | .ClassDef _ _ _ body _ _ _ _ _ _ _=>body.getD j (.Pass ⟨0,0,0,0⟩)
 | _=> .Pass ⟨0,0,0,0⟩
def q2g (s:Stmt):Arguments:=match s with
 | .FunctionDef _ a _ _ _ _ _ _ _ _=>a
 | _=>{posonlyargs:=[],args:=[],vararg:=none,kwonlyargs:=[],kw_defaults:=[],kwarg:=none,defaults:=[]}
def q1t (s:Stmt):List Stmt:=match s with
 | .FunctionDef _ _ b _ _ _ _ _ _ _=>b
 | _=>[]
def qc (s:Stmt):Scope:=match s with
 | .FunctionDef _ _ _ _ _ _ sc _ _ _=>sc
 | _=>{kind:= .function,names:=[],isGenerator:=false,isCoroutine:=false}
abbrev CX0:CXT:=λ _ _ _ _ _ _=>False
abbrev E0:XK:=λ _ _ _=>False
theorem qc1 {X:Cx}:q6u CX0 X E0:=λ _ _ _ _ _ _ _ h=>h.elim
structure Fun (K:PySem.W.Frag) (x qual:Str) (st:Stmt) (f:Addr) (fd:FuncData):Prop where
 ex:∃ (oc:Value) (od:Option Addr) (kV doc pm:Value) (an:Option Addr) (cdv ct:Value) (osl:Array (Option Value)),
  fd=PySem.W.fnOf x qual (q2g st) (q1t st) (qc st) .none kV doc pm an cdv ct/\K.lookup f=some ⟨oc,od,.func fd,osl⟩/\PySem.W.codeIn K cdv qual=true
 kp:PySem.W.keepIn K (.ref f)=true
section
variable {P:Program} {w:World} {K:PySem.W.Frag} {mg:Str ->Option Value} {base:Heap}
theorem Fun.ok {x qual:Str} {st:Stmt} {f:Addr} {fd:FuncData} {N ps:List Str} {k:Nat} {sp:Sp} (F:Fun K x qual st f fd) (S:FnScope N ps (qc st)) (len:∀ vs H Q E,sp vs H Q E ->vs.length=ps.length)
  (J:∀ (cdv:Value) (A:Around) (outer:List Env) (s:Shared) (H:Hp) (vs:List V) (Q:VK) (E:XK),Room k (A.deeper (envOfC qual (qc st) s.heap.objs.size f cdv)) ->sp vs H Q E ->
   ∃ t,PSs (cxOf CX0 P w K mg base N qual (qc st) f cdv A outer s H E).nox (q1t st) t/\t {nx:=λ _ H'=>Q .non H',rt:=Q} (start N vs) H):FnOk P w K mg base CX0 (k+1) f fd ps sp:=by
 obtain ⟨oc,od,kV,doc,pm,an,cdv,ct,osl,rfl,lk,L⟩:=F.ex;refine qwg lk L S len λ A outer s H vs Q E hr O=> ?_;obtain ⟨t,h,q⟩:=J cdv A outer s H vs Q E hr O;exact ⟨t,h.nox,q⟩
theorem qmf {x qual:Str} {st:Stmt} {f:Addr} {Z:Value} {od O:Option Addr} {L:Array (Option Value)} {kV J Y cdv ct:Value} (l:K.lookup f=some ⟨Z,od,.func (PySem.W.fnOf x qual (q2g st) (q1t st) (qc st) .none kV J Y O cdv ct),L⟩)
  (c:PySem.W.codeIn K cdv qual=true) (k:PySem.W.keepIn K (.ref f)=true):Fun K x qual st f (PySem.W.fnOf x qual (q2g st) (q1t st) (qc st) .none kV J Y O cdv ct):=⟨⟨Z,od,kV,J,Y,O,cdv,ct,L,rfl,l,c⟩,k⟩
end
theorem q3d {A:Around} {k:Nat} (hr:Room k A):A.units+1 < cLine:=Nat.lt_of_le_of_lt (Nat.add_le_add_left (by decide:1<=64) _) hr.units
theorem qz {n:Nat} (h:n<=1000):n < sizeLine:=Nat.lt_of_le_of_lt h (by decide)
section
variable {X:Cx}
theorem pv (i:Nat) {x:Str} {pos:Pos} (hN:X.N[i]? =some x:=by rfl) (hv:Vis X.env.scope x:=by first | exact Or.inl rfl | exact Or.inr (Or.inl rfl) | exact Or.inr (Or.inr rfl)) (hd:(x==("__debug__":Str))=false:=by decide)
  (J:(x==("__classdict__":Str))=false:=by decide):PE X (.Name x pos) (tVar i):=qtl hN hv hd J
end
theorem iteF {A B:Prop} (h:B):if false=true then A else B:=by
 rw [if_neg z1c];exact h
theorem iteT {A B:Prop} (h:A):if true=true then A else B:=by
 rw [if_pos rfl];exact h
theorem ite2 {c A B:Prop} [Decidable c] (h1:c ->A) (h2:¬ c ->B):if c then A else B:=by
 by_cases h:c
 ·rw [if_pos h];exact h1 h
 ·rw [if_neg h];exact h2 h
def Same (H H':Hp):Prop:=∀ b o,H b=some o ->H' b=some o
theorem Same.refl (H:Hp):Same H H:=λ _ _ h=>h
theorem Same.trans {H H1 H2:Hp} (a:Same H H1) (b:Same H1 H2):Same H H2:=λ c o h=>b c o (a c o h)
theorem Same.free {H H':Hp} (e:Same H H') {l:Addr} (h:H' l=Option.none):H l=Option.none:=by
 cases q:H l with
 | none=>rfl
 | some o=>
  rw [e l o q] at h;cases h
theorem Same.seq {K:PySem.W.Frag} {H H':Hp} {a:Addr} {xs:List V} (e:Same H H') (h:SqL K H a xs):SqL K H' a xs:=by
 rcases h with (h | ⟨o,h⟩) | h
 ·exact .inl (.inl (e _ _ h))
 ·exact .inl (.inr ⟨o,e _ _ h⟩)
 ·exact .inr h
section
variable {X:Cx}
end
section
variable {κ:Type} [DecidableEq κ]
theorem qj4:∀ {l:List κ} {k:κ},l.Nodup ->¬ k∈l ->(l++ [k]).Nodup
 | [],k,_,_=>by simp
 | a::r,k,h,J=>by
  obtain ⟨h1,h2⟩:=z2q.mp h;show (a::(r++ [k])).Nodup;refine z2q.mpr ⟨λ m=> ?_,qj4 h2 λ m=>J (z37.mpr (Or.inr m))⟩;rcases z2i.mp m with q | q
  ·exact h1 q
  ·exact J (z37.mpr (Or.inl (z1d.mp q).symm))
end
theorem qda {β:Type} {x n:Str} {b c:β} {l:List (Str×β)} (h:((n,b)::l).lookup x=some c):(x=n/\b=c)\/ l.lookup x=some c:=by
 rw [List.lookup_cons] at h;cases e:x==n with
 | true=>
  rw [e] at h;exact .inl ⟨eq_of_beq e,Option.some.inj h⟩
 | false=>
  rw [e] at h;exact .inr h
theorem qb5 {β:Type} {x n:Str} {b:β} {l:List (Str×β)} (h:x=n\/ ∃ c,l.lookup x=some c):∃ c,((n,b)::l).lookup x=some c:=by
 rw [List.lookup_cons];cases e:x==n with
 | true=>exact ⟨b,rfl⟩
 | false=>
  rcases h with h | h
  ·subst h;simp at e
  ·exact h
theorem q7h {env:Env}:∀ (names:List (Str×NameKind)) (J:List (Str×Addr)),(∀ y∈names,y.2= .free ->∃ c,env.cells.lookup y.1=some c) ->
    (∀ x c,J.lookup x=some c ->env.cells.lookup x=some c) ->
    ∃ cl,(forIn names J (λ x r=>if (x.2==NameKind.free)=true then (cellOf env x.1 >>=λ c=>pure (ForInStep.yield ((x.1,c)::r))) else pure (ForInStep.yield r)):Sem (List (Str×Addr)))=pure cl/\
      (∀ x c,cl.lookup x=some c ->env.cells.lookup x=some c)/\(∀ y∈names,y.2= .free ->∃ c,cl.lookup y.1=some c)/\(∀ x c,J.lookup x=some c ->∃ L,cl.lookup x=some L)
  | [],J,_,h=>⟨J,rfl,h,(λ _ z=>nomatch z),λ x c e=>⟨c,e⟩⟩
  | (n,k)::r,J,hn,h=>by
    rw [List.forIn_cons];by_cases Z:k= .free
    · subst Z
      obtain ⟨c,hc⟩:=hn (n,.free) z1g rfl;have e1:(cellOf env n:Sem Addr)=pure c:=by
        have Y:env.cells.lookup n=some c:=hc;unfold cellOf;rw [Y]
      obtain ⟨cl,e,h1,h2,h3⟩:=q7h r ((n,c)::J) (λ y hy=>hn y (z10 _ hy)) (λ x L e=>by
        rcases qda e with ⟨e1,e2⟩ | e
        · subst e1;subst e2;exact hc
        · exact h x L e)
      refine ⟨cl,?_,h1,?_,λ x L e=> ?_⟩
      · show ((if ((n,NameKind.free).2==NameKind.free)=true then (cellOf env n >>=λ c=>pure (ForInStep.yield ((n,c)::J))) else pure (ForInStep.yield J)) >>=_)=_
        rw [if_pos (show ((n,NameKind.free).2==NameKind.free)=true from rfl),e1];exact e
      · intro y hy O
        rcases z37.mp hy with rfl | hy
        · exact h3 n c (by simp)
        · exact h2 y hy O
      · obtain ⟨c2,e2⟩:=qb5 (n:=n) (b:=c) (.inr ⟨L,e⟩)
        exact h3 x c2 e2
    · obtain ⟨cl,e,h1,h2,h3⟩:=q7h r J (λ y hy=>hn y (z10 _ hy)) h
      refine ⟨cl,?_,h1,?_,h3⟩
      · show ((if ((n,k).2==NameKind.free)=true then (cellOf env n >>=λ c=>pure (ForInStep.yield ((n,c)::J))) else pure (ForInStep.yield J)) >>=_)=_
        rw [if_neg (by simpa using Z)];exact e
      · intro y hy O
        rcases z37.mp hy with rfl | hy
        · exact absurd O Z
        · exact h2 y hy O
theorem qj5 {scope:Scope} {env:Env} (h:∀ y∈scope.names,y.2= .free ->∃ c,env.cells.lookup y.1=some c):
  ∃ cl,closureFor scope env=pure cl/\(∀ x c,cl.lookup x=some c ->env.cells.lookup x=some c)/\(∀ y∈scope.names,y.2= .free ->∃ c,cl.lookup y.1=some c):=by
 obtain ⟨cl,e,h1,h2,_⟩:=q7h scope.names [] h (λ x c e=>by simp at e);refine ⟨cl,?_,h1,h2⟩;unfold closureFor;show ((forIn scope.names [] (λ x r=>if (x.2==NameKind.free)=true then (cellOf env x.1 >>=λ c=>pure (ForInStep.yield ((x.1,c)::r))) else pure (ForInStep.yield r)):Sem (List (Str×Addr))) >>=λ r=>pure r)=_;rw [e];rfl
def relK (env:Env) (x:Str) (k:NameKind):NameKind:=if (k== .free&&env.scope.kind== .function&&env.kindOf x==some .cell)=true then .cell else k
theorem q6x {env:Env} {x:Str}:∀ (names:List (Str×NameKind)),
    (names.map λ (n,k)=>if (k==NameKind.free&&env.scope.kind== .function&&env.kindOf n==some .cell)=true then (n,NameKind.cell) else (n,k)).lookup x=(names.lookup x).map (relK env x)
  | []=>rfl
  | (n,k)::r=>by
    have ih:=q6x (env:=env) (x:=x) r;have e:(if (k==NameKind.free&&env.scope.kind== .function&&env.kindOf n==some .cell)=true then (n,NameKind.cell) else (n,k))=(n,relK env n k):=by
      unfold relK;split <;> rfl
    show List.lookup x ((if (k==NameKind.free&&env.scope.kind== .function&&env.kindOf n==some .cell)=true then (n,NameKind.cell) else (n,k))::_)=_;rw [e,List.lookup_cons,List.lookup_cons];cases hx:x==n with
    | true=>
      have:=eq_of_beq hx;subst this;rfl
    | false=>exact ih
theorem qac {scope:Scope} {cl:List (Str×Addr)} {C:Addr} {env:Env} {x:Str}:(compEnvC scope cl C env).kindOf x=(scope.names.lookup x).map (relK env x):=q6x (env:=env) (x:=x) scope.names
theorem qmg {env:Env} {x:Str}:relK env x .free= .cell\/ relK env x .free= .free:=by
 unfold relK;split
 ·exact .inl rfl
 ·exact .inr rfl
theorem qro {env:Env} {x:Str} {k:NameKind} (h:relK env x k= .cell\/ relK env x k= .free):k= .cell\/ k= .free:=by
 unfold relK at h;split at h
 ·rename_i z;simp only [z2b,beq_iff_eq] at z;exact .inr z.1.1
 ·exact h
def capt (caps:List (Option Nat)) (σ:St):St:=caps.map λ o=>match o with
 | none=>none
 | some j=>(σ[j]?).join
def qc2 (oN:List Str) (osc:Scope) (N:List Str) (caps:List (Option Nat)) (sc:Scope):Bool:=
 (sc.kind== .function)&&decide N.Nodup&&(N.length==caps.length)&&sc.names.all (λ y=> !(y.2== .cell))&&
 sc.names.all (λ y=> !(y.2== .local) || sc.names.lookup y.1==some .local)&&
 sc.names.all (λ y=> !(y.2== .free) || (osc.names.lookup y.1==some .cell || osc.names.lookup y.1==some .free))&&
 (N.zip caps).all (λ p=>match p.2 with
  | none=>true
  | some j=>oN[j]? ==some p.1&&sc.names.lookup p.1==some .free)
structure CompOk (oN:List Str) (osc:Scope) (N:List Str) (caps:List (Option Nat)) (sc:Scope):Prop where
 kind:sc.kind= .function
 nd:N.Nodup
 len:N.length=caps.length
 nocell:∀ y∈sc.names,y.2≠ .cell
 loc:∀ y∈sc.names,y.2= .local ->sc.names.lookup y.1=some .local
 fr:∀ y∈sc.names,y.2= .free ->osc.names.lookup y.1=some .cell\/ osc.names.lookup y.1=some .free
 cap:∀ (i j:Nat) (x:Str),N[i]? =some x ->caps[i]? =some (some j) ->oN[j]? =some x/\sc.names.lookup x=some .free
theorem qe5 {L:List Str} {J:Scope} {N:List Str} {caps:List (Option Nat)} {O:Scope} (h:qc2 L J N caps O=true):CompOk L J N caps O:=by
  unfold qc2 at h;simp only [z2b,z2c,decide_eq_true_eq,beq_iff_eq,Bool.or_eq_true,Bool.not_eq_true',beq_eq_false_iff_ne,ne_eq] at h;obtain ⟨⟨⟨⟨⟨⟨h1,h2⟩,h3⟩,h4⟩,h5⟩,h6⟩,h7⟩:=h;refine ⟨h1,h2,h3,h4,λ y hy e=> ?_,λ y hy e=> ?_,λ i j x hi hj=> ?_⟩
  · rcases h5 y hy with z | z
    · exact absurd e z
    · exact z
  · rcases h6 y hy with z | z
    · exact absurd e z
    · exact z
  · have hm:(x,some j)∈N.zip caps:=by
      refine z12 (i:=i) ?_;rw [List.getElem?_zip_eq_some];exact ⟨hi,hj⟩
    have:=h7 _ hm
    simpa using this
def q32 (X:Cx) (N:List Str) (scope:Scope) (cl:List (Str×Addr)) (C:Addr) (fp:List Addr) (s:Shared) (H:Hp):Cx:=
 {X with N:=N,s₀:=s,H₀:=H,env:=compEnvC scope cl C X.env,outer:=X.stack,ex:=fp,fn:=λ _=>false,pn:=[],xe:=λ _ _=>False}
section
variable {X:Cx} {pins:List (Addr×Obj)} {σ:St} {H:Hp} {s:Shared} {N:List Str} {caps:List (Option Nat)} {scope:Scope} {cl:List (Str×Addr)} {fp:List Addr}
theorem qov (I:Inv X pins σ H s) (hf:∀ b∈fp,FpOk X pins H b) (ho:∀ b∈fp,∃ o,s.heap.get? b=some o) (S:CompOk X.N X.env.scope N caps scope)
    (c1:∀ x c,cl.lookup x=some c ->X.env.cells.lookup x=some c) (c2:∀ y∈scope.names,y.2= .free ->∃ c,cl.lookup y.1=some c)
    {h':Heap} {m:Str ->Option Value} {tk:Nat} (hn:h'.Ns s.heap.objs.size m) (hk:∀ b u,s.heap.get? b=some u ->h'.get? b=some u):
    Inv (q32 X N scope cl s.heap.objs.size fp s H) [] (capt caps σ) H {s with heap:=h',toks:=tk}:=by
  have a2:∀ b∈fp,b∉frs X.stack:=λ b hb z=>by
    obtain ⟨_,f1,f2,_⟩:=hf b hb;rcases z37.mp (I.stkSub b z) with e | e
    · exact f1 e
    · exact f2 e
  have O:∀ x,scope.names.lookup x=some .free ->∃ c,cl.lookup x=some c:=λ x e=>c2 (x,.free) (z17 e) rfl;refine ⟨⟨I.ok.mod,S.kind,I.ok.glob,I.ok.blt,z3q _,λ x y c e1 e2=>I.ok.inj x y c (c1 x c e1) (c1 y c e2),λ x hx=> ?_,λ x c z _=>absurd (show false=true from z) (by decide),I.ok.hd,I.ok.frames,.inl rfl,
    λ b hb=>⟨?_,λ x c e=>(hf b hb).2.2.2.2.1 x c (c1 x c e)⟩,I.bs,z3j I.ok.bsz I.sz,λ b o e hb=> ?_,a2,I.stack,I.stkFree⟩,
    rfl,I.bare,Un.kept hk,⟨m,hn,λ i x v e1 e2 e3=> ?_⟩,λ x c e=> ?_,I.hok.fresh (z3q _),λ x c e=>I.freeC x c (c1 x c e),λ p hp=>absurd (show p∈([]:List (Addr×Obj)) from hp) (by simp),I.hok.kept hk,?_⟩
  · have J:(scope.names.lookup x).map (relK X.env x)=some .cell\/ (scope.names.lookup x).map (relK X.env x)=some .free:=by
      rw [<- qac (cl:=cl) (C:=s.heap.objs.size)];exact hx
    cases e:scope.names.lookup x with
    | none=>
      rw [e] at J;rcases J with z | z <;> cases z
    | some k=>
      rw [e] at J;have z:relK X.env x k= .cell\/ relK X.env x k= .free:=by
        rcases J with z | z
        · exact .inl (Option.some.inj z)
        · exact .inr (Option.some.inj z)
      rcases qro z with z | z
      · subst z
        exact absurd rfl (S.nocell _ (z17 e))
      · subst z
        exact O x e
  · obtain ⟨o,e⟩:=ho b hb
    exact z3i (z3h e)
  · obtain ⟨_,_,_,f3,_⟩:=hf b hb
    rcases f3 with z | z
    · exact I.ok.noex b o e z
    · exact absurd (z1i (z3h e) (z3j I.ok.bsz z)) (z39 _)
  · have hi:i < caps.length:=by
      unfold capt at e2;obtain ⟨h1,_⟩:=z06.mp e2
      simpa using h1
    have L:(capt caps σ)[i]? =(caps[i]?).map λ o=>match o with
        | none=>none
        | some j=>(σ[j]?).join:=by
      unfold capt;rw [z1s]
    rw [e2] at L;cases q:caps[i]? with
    | none=>
      rw [q] at L;cases L
    | some o=>
      rw [q] at L;cases o with
      | none=>
        cases (Option.some.inj L)
      | some j=>
        have ej:σ[j]? =some (some v):=by
          have z:some v=(σ[j]?).join:=Option.some.inj L;cases q2:σ[j]? with
          | none=>rw [q2] at z;cases z
          | some w=>rw [q2] at z;exact congrArg some z.symm
        obtain ⟨n1,n2⟩:=S.cap i j x e1 q;have a0:X.env.kindOf x=some .cell\/ X.env.kindOf x=some .free:=S.fr (x,.free) (z17 n2) rfl;obtain ⟨m0,_,hl⟩:=I.loc;obtain ⟨u,r,l⟩:=hl j x v n1 ej (.inr a0);refine ⟨u,r,?_⟩;rcases l with ⟨k,_⟩ | ⟨_,c,L,z⟩
        · rw [k] at a0
          rcases a0 with z | z <;> cases z
        · obtain ⟨c',e'⟩:=O x n2
          have:c'=c:=Option.some.inj ((c1 x c' e').symm.trans L);subst this;refine .inr ⟨?_,c',e',?_⟩
          · have kk:(compEnvC scope cl s.heap.objs.size X.env).kindOf x=some (relK X.env x .free):=by rw [qac,n2];rfl
            rcases qmg (env:=X.env) (x:=x) with z | z
            · rw [z] at kk;exact .inl kk
            · rw [z] at kk;exact .inr kk
          · obtain ⟨o,Y,Z⟩:=z
            exact ⟨o,hk _ _ Y,Z⟩
  · obtain ⟨v,o,Y,Z⟩:=I.cell x c (c1 x c e)
    exact ⟨v,o,hk _ _ Y,Z⟩
  · show (capt caps σ).length=N.length
    unfold capt;rw [z2o];exact S.len.symm
end
def PF (X:Cx) (ifs:List Expr) (t:TT):Prop:=
 ∀ (pins:List (Addr×Obj)) (s:Shared) (σ:St) (H:Hp) (Q:Bool ->Hp ->Prop),Inv X pins σ H s ->t σ H Q ->
  wpAny (model X.prog X.w) X.A (forIn ifs true λ c r=>if r=true then do let ok <- isTrue c X.env (eval c X.env);pure (ForInStep.yield ok) else pure (ForInStep.yield r)) (TP X pins σ Q) X.xe s
def tYes:TT:=λ _ H Q=>Q true H
section
variable {X:Cx}
theorem q25:PF X [] tYes:=λ _ _ _ H _ I h=>z3v ⟨H,I,h⟩
theorem qg8 {c:Expr} {t:TT} (hc:PT X c t):PF X [c] t:=by
 intro pins s σ H Q I h;rw [List.forIn_cons];refine z3w ?_;rw [if_pos rfl];refine z3w (thn (hc pins s σ H Q I h) λ ok s1 q=>z3v ?_);exact z3v q
end
theorem qg9 {prog:Program} {w:World} {A:Around} {R:Result ->Shared ->Prop} {s:Shared} {elt J iter:Expr} {ifs:List Expr} {scope:Scope} {pos:Pos} {it L:Value} {env:Env} (I:Nat ->Shared ->Prop)
  (turn:∀ n s,I n s ->wpAny (model prog w) A (pyNext it) (λ r Z=>match r with
   | none=>R (.ok .next) Z
   | some v=>wpAny (model prog w) A (letOwnedTupleGo J it v) (λ _ O=>wpAny (model prog w) A (assign J env v) (λ _ s₂=>
     wpAny (model prog w) A (forIn ifs true λ c r=>if r=true then do let ok <- isTrue c env (eval c env);pure (ForInStep.yield ok) else pure (ForInStep.yield r)) (λ ok s₃=>
      if ok=true then wpAny (model prog w) A (eval elt env) (λ x s₄=>
       wpAny (model prog w) A (call (.builtin "list.append") [L,x]) (λ _ s₅=>∃ m,m < n/\I m s₅) (λ _ _=>False) s₄) (λ _ _=>False) s₃
      else ∃ m,m < n/\I m s₃) (λ _ _=>False) s₂) (λ _ _=>False) O) (λ _ _=>False) Z) (λ _ _=>False) s)
  (n:Nat) (h:I n s):
  codeAny (model prog w) A (.compLoop (.ListComp elt [⟨J,iter,ifs,0⟩] scope pos) 0 it L env) R s:=by
 refine codeAny_loop rfl I (λ n s hI=> ?_) n h;show wpAny _ A ((compTurn (.ListComp elt [⟨J,iter,ifs,0⟩] scope pos) 0 it L env).onRaise (λ x=>do noteFrame x env;theTreesLotGoes x)) _ _ s;refine wpAny_noted ?_;rw [compTurn_list];refine z3w (wpAny_standAt (z3w (z3x (turn n s hI) (λ r Z h₁=> ?_) λ _ _ z=>False.elim z)));cases r with
 | none=>exact z3v h₁
 | some v=>
  refine z3w (z3x h₁ (λ _ O Y=> ?_) λ _ _ z=>False.elim z);refine z3w (z3x Y (λ _ s₂ h₂=>z3w (z3x h₂ (λ ok s₃ h₃=> ?_) λ _ _ z=>False.elim z)) λ _ _ z=>False.elim z);cases ok with
  | false=>exact z3v ⟨rfl,h₃⟩
  | true=>
   exact z3w (z3w (z3x h₃ (λ x s₄ h₄=>z3w (z3x h₄ (λ _ s₅ h₅=>z3v (z3v ⟨zr,h₅⟩)) λ _ _ z=>False.elim z)) λ _ _ z=>False.elim z))
def qqm (J:It) (g:TG) (tf:TT) (te:TE) (D:Addr) (QE:Hp ->Prop) (W:Nat ->Nat ->St ->Hp ->Prop):Prop:=∀ i m σ H,W i m σ H ->
 (J.stop i H/\QE H)\/ (J.go i H/\∃ N:St ->Hp ->Prop,(∀ σ' H',N σ' H' ->∃ m',m' < m/\W (i+1) m' σ' H')/\∀ x H',J.yld i H x H' ->g x σ H' λ σ2 H2=>tf σ2 H2 λ b H3=>
  if b=true then te σ2 H3 λ v H4=>∃ xs,H4 D=some (.lst xs)/\xs.length < sizeLine/\N σ2 (upd H4 D (.lst (xs++ [v]))) else N σ2 H3)
def qkd (caps:List (Option Nat)) (wi:TI) (g:TG) (tf:TT) (te:TE):TE:=λ σ H Q=>wi σ H λ J H1=>∀ D,H1 D=none ->
 ∃ W:Nat ->Nat ->St ->Hp ->Prop,(∃ m,W 0 m (capt caps σ) (upd H1 D (.lst [])))/\qqm J g tf te D (λ H'=>Q (.ref D) H') W
section
variable {X:Cx} {pins:List (Addr×Obj)} {σ:St} {H:Hp} {s:Shared} {N:List Str} {caps:List (Option Nat)} {scope:Scope} {elt tg iter:Expr} {ifs:List Expr} {wi:TI} {g:TG} {tf:TT} {te:TE} {pos:Pos}
theorem qe6 {RR:Value ->Addr ->Result ->Shared ->Prop} {cl:List (Str×Addr)} {Q:VK} (hc:X.calm=true) (S:CompOk X.N X.env.scope N caps scope) (hi:PI X tg iter wi)
  (hg:∀ cl C fp s H,PG (q32 X N scope cl C fp s H) tg g) (hf:∀ cl C fp s H,PF (q32 X N scope cl C fp s H) ifs tf) (he:∀ cl C fp s H,PE (q32 X N scope cl C fp s H) elt te)
  (c1:∀ x c,cl.lookup x=some c ->X.env.cells.lookup x=some c) (c2:∀ y∈scope.names,y.2= .free ->∃ c,cl.lookup y.1=some c)
  (I:Inv X pins σ H s) (h:qkd caps wi g tf te σ H Q)
  (fin:∀ (D C:Addr) (m:Str ->Option Value) (H5:Hp) (s5:Shared),Inv X pins σ H5 s5 ->s5.heap.Ns C m ->FpOk X pins H5 C ->Q (.ref D) H5 ->RR (.ref D) C (.ok .next) s5):
  wpAny (model X.prog X.w) X.A (eval iter X.env) (λ x s₁=>wpAny (model X.prog X.w) X.A (pyIter x) (λ it s₂=>wpAny (model X.prog X.w) X.A (newList []) (λ a6 s₃=>
   wpAny (model X.prog X.w) X.A (newFunctionEnv scope X.env.globals cl [] X.env.qual none .none (some X.env)) (λ a2 s₄=>
    codeAny (model X.prog X.w) X.A (.compStart (.ListComp elt [⟨tg,iter,ifs,0⟩] scope pos) 0 it a6 {a2 with scope:=relabel scope X.env}) (RR a6 a2.locals) s₄) X.xe s₃) X.xe s₂) X.xe s₁) X.xe s:=by
 refine thn (hi pins s σ H _ I h) λ v s1 h1=>thn h1 λ itv Y h2=> ?_;obtain ⟨it,fp,tn,J,H2,e,I2,T,b1,f2,q⟩:=h2;subst e;have nD:H2 Y.heap.objs.size=none:=I2.hok.fresh (z3q _);obtain ⟨W,⟨m0,w0⟩,turn⟩:=q Y.heap.objs.size nD;refine z1y ?_;have I3:Inv X pins σ (upd H2 Y.heap.objs.size (.lst [])) {Y with heap:=Y.heap.push {cls:= .type "list",data:= .seq ([]:List Value).toArray}}:=
  I2.laid (t':=Y.toks) (o:= .lst []) (λ b ob e=>z0k _ e) (z3q _) ⟨z3t _,[],0,.nil,z16 _ rfl⟩
 have b0:∀ b∈fp,∃ o,Y.heap.get? b=some o:=λ b O=>let ⟨o,e,_⟩:=T.obj 0 Y.heap b1 b O;⟨o,e⟩
 have b9:∀ b∈fp,b≠Y.heap.objs.size:=λ b O=>let ⟨o,e⟩:=b0 b O;z3i (z3h e)
 generalize b8:({Y with heap:=Y.heap.push {cls:= .type "list",data:= .seq ([]:List Value).toArray}}:Shared)=s3 at I3;have eh:s3.heap=Y.heap.push {cls:= .type "list",data:= .seq ([]:List Value).toArray}:=by rw [<- b8]
 generalize hD:Y.heap.objs.size=D at*;generalize b6:upd H2 D (.lst [])=H3 at I3 w0;have f3:∀ b∈fp,FpOk X pins H3 b:=λ b O=>⟨by rw [<- b6,qd (b9 b O)];exact (f2 b O).1,(f2 b O).2⟩;have c0:∀ b∈fp,∃ o,s3.heap.get? b=some o:=λ b O=>let ⟨o,e⟩:=b0 b O;⟨o,by rw [eh];exact z0k _ e⟩
 have c4:tn 0 s3.heap:=T.keep 0 _ _ b1 λ b O o e=>by rw [eh];exact z0k _ e
 show wpAny (model X.prog X.w) X.A (newFunctionEnv scope X.env.globals cl [] X.env.qual none .none (some X.env)) _ X.xe s3;refine wpAny_newFunctionEnv S.nocell (by intro y hy;simp at hy) (λ h₁ a8 a9=> ?_) S.kind;have k1:∀ b u,s3.heap.get? b=some u ->h₁.get? b=some u:=λ b u e=>a9.extBut b u (z3i (z3h e)) (z0k _ e);have J0:=qov (tk:=s3.toks+([]:List (Str×Value)).length) I3 f3 c0 S c1 c2 a8 k1;generalize hC:s3.heap.objs.size=C at*;generalize L:q32 X N scope cl C fp s3 H3=X' at J0;have Z:tn 0 h₁:=T.keep 0 _ _ c4 λ b O o e=>k1 b o e;have a0:∀ {H':Hp},(∀ b∈fp,H' b=none) ->∀ b∈fp,FpOk X' [] H' b:=λ {H'} hn b O=>by
  subst L;exact ⟨hn b O,(J0.ok.exf b O).1,J0.ok.exfs b O,.inl O,(J0.ok.exf b O).2,λ p hp=>absurd (show p∈([]:List (Addr×Obj)) from hp) (by simp)⟩
 have loop:∀ s4:Shared,s4={s3 with heap:=h₁,toks:=s3.toks+([]:List (Str×Value)).length} ->
   codeAny (model X.prog X.w) X.A (.compLoop (.ListComp elt [⟨tg,iter,ifs,0⟩] scope pos) 0 (.ref it) (.ref D) (compEnvC scope cl C X.env)) (RR (.ref D) C) s4:=by
  rintro s4 rfl;refine qg9 (λ n s'=>∃ i σ' H',Inv X' [] σ' H' s'/\tn i s'.heap/\(∀ b∈fp,H' b=none)/\W i n σ' H') ?_ m0 ⟨0,_,H3,J0,Z,λ b O=>(f3 b O).1,w0⟩;rintro n s4 ⟨i,σ4,H4,J4,Z,a7,w4⟩;rcases turn i n σ4 H4 w4 with ⟨stop,qn⟩ | ⟨go,Nn,b7,step⟩
  ·have d:=T.done X' (by subst L;rfl) (by subst L;rfl) (by subst L;rfl) (by subst L;exact hc) i [] s4 σ4 H4 (λ _ _=>False) J4 (a0 a7) Z stop;have eA:X'.A=X.A:=by subst L;rfl
   rw [eA] at d;refine z3x d (λ r s5 hr=> ?_) λ _ _ z=>z;obtain ⟨hr,J5⟩:=hr;subst hr;have I5:Inv X pins σ H4 s5:=by
    subst L;exact I3.call' J5.os J5.base J5.hok J5.bare λ b O=>⟨(f3 b O).2.2.2.1,(f3 b O).2.1,(f3 b O).2.2.2.2.1,(f3 b O).2.2.2.2.2⟩
   obtain ⟨m,hn,_⟩:=J5.loc;have fr:=J5.free;subst L;exact fin D C m H4 s5 I5 hn (I3.fpOk (b:=C) (Nat.le_of_eq hC) fr) qn
  ·have d:=T.item X' (by subst L;rfl) (by subst L;rfl) (by subst L;rfl) (by subst L;exact hc) i [] s4 σ4 H4 (λ _ _=>False) J4 (a0 a7) Z go;have eA:X'.A=X.A:=by subst L;rfl
   rw [eA] at d;refine z3x d (λ r s5 hr=> ?_) λ _ _ z=>z;obtain ⟨u,hr,h5⟩:=hr;subst hr;refine z3x h5 (λ _ s6 q6=> ?_) λ _ _ z=>z;obtain ⟨x,H6,J6,r6,y6,a5,b4⟩:=q6;have b3:=J6.pinned (a0 b4) (T.obj _ _ a5);have again:∀ {H9:Hp} {s9:Shared} {σ9:St},Inv X' ([]++q8q fp s6.heap) σ9 H9 s9 ->Nn σ9 H9 ->∃ m,m < n/\∃ i σ' H',Inv X' [] σ' H' s9/\tn i s9.heap/\(∀ b∈fp,H' b=none)/\W i m σ' H':=λ {H9 s9 σ9} J9 q9=>by
    obtain ⟨m',hm,w9⟩:=b7 σ9 H9 q9;refine ⟨m',hm,i+1,σ9,H9,J9.unpinned,T.keep _ _ _ a5 λ b O o e=>(J9.pin (b,o) (z0s _ (z0s _ (q46 O e)))).1,λ b O=> ?_,w9⟩;obtain ⟨o,e,d⟩:=T.obj _ _ a5 b O;exact (J9.pin (b,o) (z0s _ (z0s _ (q46 O e)))).2.1
   subst L;refine z3x (hg cl C fp s3 H3 _ s6 σ4 H6 x u _ b3 r6 (step x H6 y6)) (λ _ s7 q7=> ?_) λ _ _ z=>z;obtain ⟨σ7,H7,J7,q7⟩:=q7;refine z3x (hf cl C fp s3 H3 _ s7 σ7 H7 _ J7 q7) (λ ok s8 q8=> ?_) λ _ _ z=>z;obtain ⟨H8,J8,q8⟩:=q8;cases ok with
   | false=>
    rw [if_neg (by decide)] at q8;rw [if_neg (by decide)];exact again J8 q8
   | true=>
    rw [if_pos rfl] at q8;rw [if_pos rfl];refine z3x (he cl C fp s3 H3 _ s8 σ7 H8 _ J8 q8) (λ v9 s9 q9=> ?_) λ _ _ z=>z;obtain ⟨y,H9,J9,r9,xs,b5,hz,q9⟩:=q9;refine z3x (q2e (X:=q32 X N scope cl C fp s3 H3) _ s9 σ7 H9 (.ref D) [y] (.ref D) [v9] (λ _ H'=>Nn σ7 H') J9 rfl (.cons r9 .nil) ⟨D,xs,y,zr,zr,b5,hz,q9⟩) (λ _ s10 a3=> ?_) λ _ _ z=>z;obtain ⟨_,H10,b2,_,a3⟩:=a3;exact again b2 a3
 exact codeAny_compStart_list (loop _ rfl) (T.self _ 0 _ _ _ Z (loop _ rfl))
theorem q20 (hc:X.calm=true) (ho:qc2 X.N X.env.scope N caps scope=true) (hi:PI X tg iter wi)
  (hg:∀ cl C fp s H,PG (q32 X N scope cl C fp s H) tg g) (hf:∀ cl C fp s H,PF (q32 X N scope cl C fp s H) ifs tf) (he:∀ cl C fp s H,PE (q32 X N scope cl C fp s H) elt te)
  (hs:∀ x,foldedSetIterable iter X.env x=pure x:=by intro _;rfl):PE X (.ListComp elt [⟨tg,iter,ifs,0⟩] scope pos) (qkd caps wi g tf te):=by
 intro pins s σ H Q I h;have S:=qe5 ho;obtain ⟨cl,O,c1,c2⟩:=qj5 (scope:=scope) (env:=X.env) (λ y hy e=>I.ok.has y.1 (S.fr y hy e));rw [eval_ListComp];refine wpAny_comprehension_free (use:=none) rfl hs O S.kind S.loc (qe6 (RR:=λ L C=>compPost (model X.prog X.w) X.A X.xe none (EP X pins σ Q) L C) hc S hi hg hf he c1 c2 I h ?_);intro D C m H5 s5 I5 hn J q;exact ⟨m,hn,λ h' sb=>⟨.ref D,H5,I5.turned (t':=s5.toks) (λ b o hb e=>(sb.2 b hb).trans e) J.1 J.2.1 J.2.2.2.1 J.2.2.2.2.1 J.2.2.2.2.2,zr,q⟩⟩
theorem q5l {i:Nat} {x:Str} {Y J:Pos} (hN:X.N.Nodup) (a6:X.N[i]? =some x) (hx:X.env.scope.names.lookup x=some .local) (hc:X.calm=true) (ho:qc2 X.N X.env.scope N caps scope=true) (hi:PI X tg iter wi)
  (hg:∀ cl C fp s H,PG (q32 X N scope cl C fp s H) tg g) (hf:∀ cl C fp s H,PF (q32 X N scope cl C fp s H) ifs tf) (he:∀ cl C fp s H,PE (q32 X N scope cl C fp s H) elt te)
  (a7:swapsWith (.ListComp elt [⟨tg,iter,ifs,0⟩] scope pos) (some (.Name x Y)) J.line X.env=pure true:=by rfl)
  (hs:∀ x,foldedSetIterable iter X.env x=pure x:=by intro _;rfl):PS X (.Assign [.Name x Y] (.ListComp elt [⟨tg,iter,ifs,0⟩] scope pos) J) (tAsg (qkd caps wi g tf te) (q66 i)):=by
 intro pins s σ H D I h;have S:=qe5 ho;obtain ⟨cl,a5,c1,c2⟩:=qj5 (scope:=scope) (env:=X.env) (λ y hy e=>I.ok.has y.1 (S.fr y hy e));rw [exec_Assign_Name_used _ _ _ _ a7];refine z3w (wpAny_standAt (z3w ?_));show wpAny _ X.A (do let _ <- comprehension (.ListComp elt [⟨tg,iter,ifs,0⟩] scope pos) scope X.env _ (newList []) false (eval iter X.env) (some (assign (.Name x Y) X.env))) _ _ s;refine z3w (z3x (wpAny_comprehension_free (use:=some (assign (.Name x Y) X.env)) (Q:=λ _ s'=>SP X pins D .next s') rfl hs a5 S.kind S.loc
  (qe6 (RR:=λ a3 C=>compPost (model X.prog X.w) X.A X.xe (some (assign (.Name x Y) X.env)) (λ _ s'=>SP X pins D .next s') a3 C) hc S hi hg hf he c1 c2 I h ?_)) (λ _ s' hq=>z3v (z3v hq)) λ _ _ e=>e)
 intro Da C m H5 s5 I5 hn O q;obtain ⟨oC,es,ep,a0,hd,L⟩:=id hn;have a2:=I5.pinned (fp:=[C]) (λ b Z=>by
  have e:b=C:=by simpa using Z
  subst e;exact O) (λ b Z=>by
  have e:b=C:=by simpa using Z
  subst e;exact ⟨oC,a0,λ v z=>by rw [hd] at z;cases z⟩)
 show wpAny _ X.A (assign (.Name x Y) X.env (.ref Da)) _ _ _;refine wpAny_assign_Name (qb2 a2 hN a6 (.inl hx) (v:= .ref Da) rfl (λ s6 I6=> ?_) (.inr hx));have pC:=I6.pin (C,oC) (z0s _ (z0s _ (q46 (by simp) a0)));refine ⟨m,⟨oC,es,ep,pC.1,hd,L⟩,λ h' sb=> ?_⟩;exact ⟨_,H5,I6.unpinned.turned (t':=s6.toks) (λ b o Z e=>(sb.2 b Z).trans e) O.1 O.2.1 O.2.2.2.1 O.2.2.2.2.1 O.2.2.2.2.2,q⟩
end
theorem q1k {J:It} {g:TG} {tf:TT} {te:TE} {D:Addr} {QE:Hp ->Prop} {σ:St} {H:Hp} (n:Nat) (L:Nat ->St ->Hp ->Prop) (h0:L 0 σ H) (Y:∀ i σ H,i < n ->L i σ H ->J.go i H) (Z:∀ σ H,L n σ H ->J.stop n H/\QE H)
  (hs:∀ i σ H,i < n ->L i σ H ->∀ x H',J.yld i H x H' ->g x σ H' λ σ2 H2=>tf σ2 H2 λ b H3=>if b=true then te σ2 H3 λ v H4=>∃ xs,H4 D=some (.lst xs)/\xs.length < sizeLine/\L (i+1) σ2 (upd H4 D (.lst (xs++ [v]))) else L (i+1) σ2 H3):
  ∃ W:Nat ->Nat ->St ->Hp ->Prop,(∃ m,W 0 m σ H)/\qqm J g tf te D QE W:=by
 refine ⟨λ i m σ H=>m=n - i/\i<=n/\L i σ H,⟨n,by simp,z3t _,h0⟩,?_⟩;rintro i m σ H ⟨rfl,hi,p⟩;by_cases O:i < n
 ·exact .inr ⟨Y i σ H O p,L (i+1),λ σ' H' p'=>⟨n - (i+1),by omega,zr,O,p'⟩,hs i σ H O p⟩
 ·have e:i=n:=by omega
  subst e;exact .inl (Z σ H p)
theorem qmh {J:It} {g:TG} {tb:TS} {D:Ends} {σ:St} {H:Hp} (n:Nat) (L:Nat ->St ->Hp ->Prop) (h0:L 0 σ H) (Y:∀ i σ H,i < n ->L i σ H ->J.go i H) (Z:∀ σ H,L n σ H ->J.stop n H/\D.nx σ H)
  (hs:∀ i σ H,i < n ->L i σ H ->∀ x H',J.yld i H x H' ->g x σ H' λ σ2 H2=>tb {D with nx:=L (i+1),ct:=L (i+1),bk:=D.nx} σ2 H2):
  ∃ W:Nat ->Nat ->St ->Hp ->Prop,(∃ m,W 0 m σ H)/\∀ i m σ H,W i m σ H ->
   (J.stop i H/\D.nx σ H)\/ (J.go i H/\∃ N:St ->Hp ->Prop,(∀ σ' H',N σ' H' ->∃ m',m' < m/\W (i+1) m' σ' H')/\∀ x H',J.yld i H x H' ->g x σ H' λ σ2 H2=>tb {D with nx:=N,ct:=N,bk:=D.nx} σ2 H2):=by
 refine ⟨λ i m σ H=>m=n - i/\i<=n/\L i σ H,⟨n,by simp,z3t _,h0⟩,?_⟩;rintro i m σ H ⟨rfl,hi,p⟩;by_cases O:i < n
 ·exact .inr ⟨Y i σ H O p,L (i+1),λ σ' H' p'=>⟨n - (i+1),by omega,zr,O,p'⟩,hs i σ H O p⟩
 ·have e:i=n:=by omega
  subst e;exact .inl (Z σ H p)
def Its (z:Str):It:=⟨λ i _=>i < z.cps.size,λ i H x H'=>H'=H/\∃ c,z.cps[i]? =some c/\x= .str ⟨#[c]⟩,λ i _=>i=z.cps.size⟩
theorem qu0 {M:Model} {A:Around} {E:Value ->Shared ->Prop} {s:Shared} {tg:Expr} {it:Addr} {x:Str} {t:Tok} {Q:Unit ->Shared ->Prop} (hQ:Q () s):wpAny M A (letOwnedTupleGo tg (.ref it) (.str x t)) Q E s:=by
 unfold letOwnedTupleGo;cases tg <;> exact z3v hQ
theorem qow {P:Program} {w:World} {K:PySem.W.Frag} {tg:Expr} (it:Addr) (z:Str) (t:Tok) (ty:String) (L:ty="str_ascii_iterator"\/ ty="str_iterator"):
  Turn P w K tg (Its z) [it] it (λ i h=>h.IsStrIter it ty z t i) where
 mem:=by simp
 obj:=λ i h st b J=>by
  have e:b=it:=by simpa using J
  subst e;obtain ⟨o,e,c,d⟩:=st;exact ⟨o,e,λ v z=>by rw [d] at z;cases z⟩
 keep:=λ i h h' st k=>let ⟨o,ho,r⟩:=st;⟨o,k it (by simp) o ho,r⟩
 item:=by
  intro X hP hw hK O i pins s σ H E I Y st hg;subst hP hw hK;obtain ⟨Z,f1,f2,f3,f4,f5⟩:=Y it (by simp);have W:Walks X.prog X.w X.A it [it] [it] z.cps.size (SignAt z) (λ i h=>h.IsStrIter it ty z t i):=by
   rcases L with rfl | rfl
   ·exact Walks.strAscii (I.ok.hd O) it z t
   ·exact Walks.strWide (I.ok.hd O) it z t
  refine W.item i s _ _ hg st λ v h' tk hv a0 kk=> ?_;obtain ⟨c,u,hx,rfl⟩:=hv;have I1:Inv X pins σ H {s with heap:=h',toks:=tk}:=I.turned (λ b o J e=>kk b o (by simpa using J) e) Z f1 f3 f4 f5;exact ⟨_,zr,qu0 ⟨.str ⟨#[c]⟩,H,I1,⟨u,zr⟩,⟨zr,c,hx,zr⟩,a0,λ b J=>(Y b J).1⟩⟩
 done:=by
  intro X hP hw hK O i pins s σ H E I Y st hg;subst hP hw hK;obtain ⟨Z,f1,f2,f3,f4,f5⟩:=Y it (by simp);have W:Walks X.prog X.w X.A it [it] [it] z.cps.size (SignAt z) (λ i h=>h.IsStrIter it ty z t i):=by
   rcases L with rfl | rfl
   ·exact Walks.strAscii (I.ok.hd O) it z t
   ·exact Walks.strWide (I.ok.hd O) it z t
  have e:i=z.cps.size:=hg;subst e;exact W.done s _ _ st λ h' tk kk=>⟨zr,I.turned (λ b o J e=>kk b o (by simpa using J) e) Z f1 f3 f4 f5⟩
 self:=λ _ _ _ _ _ st h=>by
  rcases L with rfl | rfl
  ·exact wpAny_pyIter_striter_ascii st h
  ·exact wpAny_pyIter_striter_wide st h
section
variable {X:Cx} {tg:Expr}
def iStr (tl:TE):TI:=λ σ H R=>tl σ H λ x H1=>∃ z,x= .str z/\R (Its z) H1
theorem qu1 {l:Expr} {tl:TE} (hl:PE X l tl):PI X tg l (iStr tl):=by
 intro pins s σ H R I h;refine thn (hl pins s σ H _ I h) λ v s1 L=> ?_;obtain ⟨x,H1,I1,r1,q1⟩:=L;obtain ⟨z,e,q⟩:=q1;subst e;obtain ⟨t,rfl⟩:=r1;have fin:∀ ty,(ty="str_ascii_iterator"\/ ty="str_iterator") ->PIE X pins σ tg R (.ref s1.heap.objs.size) {s1 with heap:=s1.heap.push {cls:= .type ty,data:= .fields #[.str z t,.int 0 0]}}:=λ ty J=>by
  refine ⟨s1.heap.objs.size,[s1.heap.objs.size],_,_,H1,zr,I1.kept (t':=s1.toks) λ b o e=>z0k _ e,qow _ z t ty J,⟨_,z16 _ rfl,zr,zr⟩,λ b hb=> ?_,q⟩;have e:b=s1.heap.objs.size:=by simpa using hb
  subst e;exact I1.fpOk (z3q _) (I1.hok.fresh (z3q _))
 cases O:z.cps.all (· < 128)
 ·exact wpAny_pyIter_wide O (fin _ (.inr rfl))
 ·exact wpAny_pyIter_ascii O (fin _ (.inl rfl))
end
def cutS (z:Str) (lo hi:Option Int):Str:=⟨((z.cps.toList.drop (HT.sIx z.length 0 lo)).take (HT.sIx z.length z.length hi - HT.sIx z.length 0 lo)).toArray⟩
theorem qet (lo hi:Option Int) (n:Nat):Builtin.Str.strSliceIndices lo hi 1 n=(List.range (HT.sIx n n hi - HT.sIx n 0 lo)).map (HT.sIx n 0 lo+ ·):=by
 have h:Builtin.Str.strSliceIndices lo hi 1 n=sliceRange ((HT.sIx n 0 lo:Nat):Int) ((HT.sIx n n hi:Nat):Int) 1:=by
  unfold Builtin.Str.strSliceIndices;simp only [show (1:Int) > 0 by decide,if_true]
  congr 1
  ·cases lo with
   | none=>rfl
   | some i=>
    rw [<- HT.clip_eq i n 0];show max 0 (min (if i < 0 then i+(n:Int) else i) (n:Int))=_;split <;> omega
  ·cases hi with
   | none=>rfl
   | some i=>
    rw [<- HT.clip_eq i n n];show max 0 (min (if i < 0 then i+(n:Int) else i) (n:Int))=_;split <;> omega
 rw [h];unfold sliceRange;simp only [show (1:Int) > 0 by decide,if_true];have e2:(if ((HT.sIx n 0 lo:Nat):Int) < ((HT.sIx n n hi:Nat):Int) then (((HT.sIx n n hi:Nat):Int) - ((HT.sIx n 0 lo:Nat):Int)+1 - 1) / 1 else 0).toNat=HT.sIx n n hi - HT.sIx n 0 lo:=by
  split
  ·rw [Int.ediv_one];omega
  ·omega
 rw [e2]
 apply z19
 intro k _;omega
theorem qke (xs:Array Nat) (i k:Nat):(((List.range k).map (i+ ·)).filterMap (xs[·]?))=(xs.toList.drop i).take k:=by
 induction k with
 | zero=>simp
 | succ k ih=>
  rw [List.range_succ,z2t,List.filterMap_append,ih,z33]
  congr 1
  simp only [z35,z3m,List.getElem?_drop,z0t];cases h:xs[i+k]? <;> simp [h]
theorem qi1 (z:Str) (lo hi:Option Int):(cutS z lo hi).length<=z.length:=by
 show ((z.cps.toList.drop _).take _).toArray.size<=z.length;rw [z1t,z25,z26];have:z.cps.toList.length=z.length:=by simp [Str.length]
 omega
section
variable {X:Cx}
def rSlS:V ->Option Int ->Option Int ->Hp ->VK ->Prop:=λ x lo hi H Q=>∃ z,x= .str z/\z.length<=sizeLine/\Q (.str (cutS z lo hi)) H
theorem qu2:SlR X rSlS:=by
  intro pins s σ H x v vl vu lo hi sl Q I rx hs pl pu h;obtain ⟨z,rfl,O,q⟩:=h;obtain ⟨t,rfl⟩:=rx;refine ⟨"str",_,F.slot_str_getitem.lookup,typeIs_str s z t,?_⟩;obtain ⟨l,rfl,el⟩:∃ l:Option (Int×Tok),vl=partValue l/\l.map (·.1)=lo:=by
    cases pl with
    | none=>exact ⟨none,rfl,rfl⟩
    | int i t=>exact ⟨some (i,t),rfl,rfl⟩
  obtain ⟨u,rfl,eu⟩:∃ u:Option (Int×Tok),vu=partValue u/\u.map (·.1)=hi:=by
    cases pu with
    | none=>exact ⟨none,rfl,rfl⟩
    | int i t=>exact ⟨some (i,t),rfl,rfl⟩
  refine wpAny_getItem_str_slice (l:=l) (u:=u) (st:=none) hs rfl ?_;have ep:slicePicked z l u none=(List.range (HT.sIx z.length z.length hi - HT.sIx z.length 0 lo)).map (HT.sIx z.length 0 lo+ ·):=by
    unfold slicePicked;rw [el,eu];exact qet lo hi z.length
  have ec:(slicePicked z l u none).filterMap (z.cps[·]?)=(z.cps.toList.drop (HT.sIx z.length 0 lo)).take (HT.sIx z.length z.length hi - HT.sIx z.length 0 lo):=by
    rw [ep,qke]
  unfold sliceMade;split
  · rename_i hw
    have J:(slicePicked z l u none).length=z.length:=by simpa using hw
    have e:cutS z lo hi=z:=by
      have hl:z.cps.toList.length=z.length:=by simp [Str.length]
      rw [ep,z2o,z1z] at J;have h1:=HT.sIx_le z.length z.length (z3q _) hi;have L:HT.sIx z.length 0 lo=0\/ z.length=0:=by omega
      unfold cutS;rcases L with L | L
      · rw [J,L,List.drop_zero,z0j (by omega)]
      · have Y:z.cps.toList=[]:=List.eq_nil_of_length_eq_zero (by omega)
        rw [Y,List.drop_nil,List.take_nil];cases z with
        | mk cps=>
          congr 1
          exact (Array.toList_inj.mp Y).symm
    rw [e] at q;exact ⟨.str z,H,I,⟨t,zr⟩,q⟩
  · have e:(⟨((slicePicked z l u none).filterMap (z.cps[·]?)).toArray⟩:Str)=cutS z lo hi:=by
      unfold cutS;rw [ec]
    rw [e];exact ⟨z3j (qi1 z lo hi) O,.str (cutS z lo hi),H,I.tok _,⟨_,zr⟩,q⟩
end
theorem qmi (bs:List Bool):(List.range bs.length).all (λ i=>(bs[i]?).getD true)=bs.all id:=by
 rw [z2n,z2c,z2c]
 constructor
 ·intro h b hb;obtain ⟨i,hi,e⟩:=z0w.mp hb;have:=h i (z2z.mpr hi);rw [z0c hi,e] at this;exact this
 ·intro h i hi;have J:=z2z.mp hi;rw [z0c J];exact h _ (z29 J)
theorem qj6 {bs:List Bool} {us:List Value} (r:Vals (bs.map V.bl) us) {i:Nat} {v:Value} (h:us[i]? =some v):∃ b,bs[i]? =some b/\v= .bool b:=by
 have hl:=r.length;obtain ⟨hi,_⟩:=z06.mp h;rw [<- hl,z2o] at hi;have e:(bs.map V.bl)[i]? =some (V.bl bs[i]):=by rw [z1s,z0c hi];rfl
 obtain ⟨u,J,ru⟩:=r.get e;rw [h] at J;cases J
 exact ⟨bs[i],z0c hi,ru⟩
section
variable {X:Cx}
theorem q8t (hc:X.calm=true) (K:PySem.W.Frag) (hK:X.K=K:=by rfl):q23 X (.builtin "all") (λ xs H Q=>∃ (p:Addr) (bs:List Bool),xs=[.ref p]/\SqL K H p (bs.map V.bl)/\Q (.bl (bs.all id)) H):=by
 subst hK;intro pins s σ H xs us Q I r h;obtain ⟨p,bs,rfl,hp,q⟩:=h;obtain ⟨u,rfl,ru⟩:=q2y r;cases ru
 obtain ⟨its,rv,pl,hz⟩:=I.list hp;have hl:its.toArray.size=bs.length:=by
  have:=rv.length;rw [z2o] at this;rw [z1t];exact this.symm
 have hh:X.A.in1.handled=none:=I.ok.hd hc;have L:p≠s.heap.objs.size:=λ e=>by
  obtain ⟨o,n,e1,_⟩:=pl;exact absurd (z3h e1) (by rw [e];exact z39 _)
 refine call_all_walk (z1v pl.isList ?_);refine ⟨s.heap.objs.size,_,_,_,_,_,λ i=>(bs[i]?).getD true,zr,Walks.list hh _ p L its.toArray,⟨⟨_,z16 _ rfl,zr,zr⟩,pl.isList.at λ o e=>z0k _ e⟩,?_,λ h' tk kk=> ?_⟩
 ·intro i v s' Q' E' hv hq;have O:its[i]? =some v:=by simpa using hv
  obtain ⟨b,e,rfl⟩:=qj6 rv O;have J:Q' ((bs[i]?).getD true) s':=hq;rw [e] at J;exact z1u J
 ·rw [hl,qmi];exact ⟨.bl _,H,I.kept λ b o e=>kk b o (by simp;exact z3i (z3h e)) (z0k _ e),rfl,q⟩
def tyTs:List String:=["NoneType","bool","int","str","list","tuple","dict"]
def tyNs:List String:=["bool","int","str","list","tuple","dict"]
def tyIs (T n:String):Bool:=T==n || (T=="bool"&&n=="int")
theorem qrp:∀ T∈tyTs,∀ n∈tyNs,PySem.W.kitMeta n=true/\(PySem.fastBuiltinMro T).map (·.contains (Value.type n))=some (tyIs T n):=by decide+kernel
theorem qj7 {K:PySem.W.Frag} {T n:String} (hT:T∈tyTs) (hn:n∈tyNs):PySem.W.kitOne K (.type T) (.type n)=some (tyIs T n):=by
 obtain ⟨h1,h2⟩:=qrp T hT n hn;unfold PySem.W.kitOne;split
 ·rename_i e;have e':=eq_of_beq e;injection e' with J;subst J;simp [tyIs]
 ·unfold PySem.W.kitCls;show (if PySem.W.kitMeta n=true then PySem.W.subIn K (.type T) (.type n) else none)=_;rw [if_pos h1];exact h2
theorem q7i (K:PySem.W.Frag) (hK:X.K=K:=by rfl):q23 X (.builtin "isinstance") (λ xs H Q=>∃ x n T,xs=[x,.ty n]/\TyOf K H x (.type T)/\T∈tyTs/\n∈tyNs/\Q (.bl (tyIs T n)) H):=by
 subst hK;intro pins s σ H xs us Q I r h;obtain ⟨x,n,T,rfl,ty,hT,hn,q⟩:=h;obtain ⟨u,c,rfl,ru,rc⟩:=qfg r;cases rc
 exact qm4 I ru ty (qj7 hT hn) λ tk=>⟨.bl _,H,I.tok tk,zr,q⟩
theorem qc3 {x:Str} {i:Int} {pos:Pos} (hg:Gl X x) (hm:∃ t,X.mg x=some (.int i t)) (hd:(x==("__debug__":Str))=false:=by decide):PE X (.Name x pos) (tC (.int i)):=by
 obtain ⟨t,e⟩:=hm;exact qd5 hg e ⟨t,zr⟩ hd
theorem qqn {x z:Str} {pos:Pos} (hg:Gl X x) (hm:∃ t,X.mg x=some (.str z t)) (hd:(x==("__debug__":Str))=false:=by decide):PE X (.Name x pos) (tC (.str z)):=by
 obtain ⟨t,e⟩:=hm;exact qd5 hg e ⟨t,zr⟩ hd
theorem q3e {x:Str} {n:String} {pos:Pos} (hg:Gl X x) (hm:X.mg x=none) (hv:bootBuiltins x=some (.type n)) (hn:x≠"__name__":=by decide) (hd:(x==("__debug__":Str))=false:=by decide):PE X (.Name x pos) (tC (.ty n)):=
 qr5 hg hm hv rfl hn hd
end
structure Top (K:PySem.W.Frag) (mg:Str ->Option Value) (x:Str) (st:Stmt) (ps:List Str):Prop where
 ex:∃ f fd,Fun K x x st f fd/\mg x=some (.ref f)/\∀ us:List Value,us.length=ps.length ->bindArgs fd ⟨us,[]⟩=pure (ps.zip us)
theorem qu3 {K:PySem.W.Frag} {h:Heap} {mg:Str ->Option Value} {x:Str} {st:Stmt} {ps:List Str} {f:Addr} {oc:Value} {od L:Option Addr} {Y:Array (Option Value)} {kV J O cdv ct:Value} (X:K.In h) (G:h.Ns mainGlobals mg)
  (b:∀ (kV J O:Value) (L:Option Addr) (cdv ct:Value) (us:List Value),us.length=ps.length ->bindArgs (PySem.W.fnOf x x (q2g st) (q1t st) (qc st) .none kV J O L cdv ct) ⟨us,[]⟩=pure (ps.zip us))
  (a:PySem.W.nsIn K mainGlobals x=some (some (.ref f)))
  (l:K.lookup f=some ⟨oc,od,.func (PySem.W.fnOf x x (q2g st) (q1t st) (qc st) .none kV J O L cdv ct),Y⟩) (c:PySem.W.codeIn K cdv x=true) (k:PySem.W.keepIn K (.ref f)=true):Top K mg x st ps:=by
 have F:=qmf (st:=st) l c k;exact ⟨f,_,F,z3b X G a,b kV J O L cdv ct⟩
structure Def (P:Program) (w:World) (K:PySem.W.Frag) (mg:Str ->Option Value) (base:Heap) (k:Nat) (x:Str) (ps:List Str) (sp:Sp):Prop where
 ex:∃ f fd,FnOk P w K mg base CX0 k f fd ps sp/\mg x=some (.ref f)/\PySem.W.keepIn K (.ref f)=true/\Binds K fd ps []
theorem Top.ok {P:Program} {w:World} {K:PySem.W.Frag} {mg:Str ->Option Value} {base:Heap} {x:Str} {st:Stmt} {N ps:List Str} {k:Nat} {sp:Sp} (T:Top K mg x st ps) (S:FnScope N ps (qc st)) (len:∀ vs H Q E,sp vs H Q E ->vs.length=ps.length)
  (J:∀ (f:Addr) (cdv:Value) (A:Around) (outer:List Env) (s:Shared) (H:Hp) (vs:List V) (Q:VK) (E:XK),Room k (A.deeper (envOfC x (qc st) s.heap.objs.size f cdv)) ->sp vs H Q E ->
   ∃ t,PSs (cxOf CX0 P w K mg base N x (qc st) f cdv A outer s H E).nox (q1t st) t/\t {nx:=λ _ H'=>Q .non H',rt:=Q} (start N vs) H):Def P w K mg base (k+1) x ps sp:=by
 obtain ⟨f,fd,F,hm,hb⟩:=T.ex;exact ⟨f,fd,F.ok S len (J f),hm,F.kp,Binds.all hb⟩
theorem Top.fin {l:PySem.W.OpenLaw} {w:World} {K:PySem.W.Frag} {mg:Str ->Option Value} {fa:Addr} {x:Str} {st:Stmt} {N:List Str} {k:Nat} {sp:Sp} (T:Top K mg "law" st [x]) (L:mg "law"=some (.ref fa)) (S:FnScope N [x] (qc st))
  (len:∀ vs H Q E,sp vs H Q E ->vs.length=[x].length)
  (J:∀ (base:Heap) (f:Addr) (cdv:Value) (A:Around) (outer:List Env) (s:Shared) (H:Hp) (vs:List V) (Q:VK) (E:XK),Room k (A.deeper (envOfC "law" (qc st) s.heap.objs.size f cdv)) ->sp vs H Q E ->
   ∃ t,PSs (cxOf CX0 l.prog w K mg base N "law" (qc st) f cdv A outer s H E).nox (q1t st) t/\t {nx:=λ _ H'=>Q .non H',rt:=Q} (start N vs) H):
  ∃ fd:FuncData,(∀ (s:Shared) (v:Value),BindsTo s fd ⟨[v],[]⟩ [(x,v)])/\∀ base:Heap,K.In base ->base.Ns mainGlobals mg ->FnOk l.prog w K mg base CX0 (k+1) fa fd [x] sp:=by
 obtain ⟨f,fd,F,hm,hb⟩:=T.ex;have e:=L.symm.trans hm;injection e with e;injection e with e;subst e;exact ⟨fd,λ s v=> .of_eq (hb [v] rfl),λ base _ _=>F.ok S len (J base fa)⟩
section
variable {X:Cx} {k k':Nat} {x:Str} {ps:List Str} {sp:Sp} {p pos:Pos} {e:Expr} {es:List Expr} {t:TA}
theorem qf (D:Def X.prog X.w X.K X.mg X.base k x ps sp) (hr:Room k' X.A) (hg:Gl X x) (ha:PA X (e::es) t) (L:k<=k':=by decide)
  (J:(x==("__debug__":Str))=false:=by decide) (he:starEach (e::es) X.env=(false,eval e X.env)::starEach es X.env:=by rfl) (O:(backTo pos (starEach es X.env)).any (·.1)=false:=by rfl):
  PE X (.Call (.Name x p) (e::es) [] pos) (qqg sp [] E0 t):=by
 obtain ⟨f,fd,F,hm,hk,hb⟩:=D.ex;exact qrc F (hr.mono L) hg hm hk hb .nil qc1 ha J he O
end
section
variable {X:Cx} {tg:Expr}
theorem q1g (K:PySem.W.Frag) (hK:X.K=K:=by rfl):q23 X (.builtin "len") (λ xs H Q=>∃ x n,xs=[x]/\LenV K x H n/\Q (.int n) H):=by subst hK;exact qol
theorem qx (K:PySem.W.Frag) (hK:X.K=K:=by rfl):IxR X (rIxL K):=by subst hK;exact qrj
theorem q11 (K:PySem.W.Frag) (hK:X.K=K:=by rfl):IxR X (rIxT K):=by subst hK;exact qtt
theorem qox (K:PySem.W.Frag) (hK:X.K=K:=by rfl):SlR X (rSlL K):=by subst hK;exact qrk
theorem qrq (K:PySem.W.Frag) (hK:X.K=K:=by rfl):SlR X (rSlT K):=by subst hK;exact qts
theorem q14 (K:PySem.W.Frag) {l:Expr} {tl:TE} (hl:PE X l tl) (hK:X.K=K:=by rfl):PI X tg l (qqd K tl):=by subst hK;exact qr7 hl
theorem qdb (K:PySem.W.Frag) {l:Expr} {tl:TE} (hl:PE X l tl) (hK:X.K=K:=by rfl):PI X tg l (iTup K tl):=by subst hK;exact qtp hl
theorem qga (K:PySem.W.Frag) (hK:X.K=K:=by rfl):OpR X (binaryOp .Add) (qqj K):=by subst hK;exact qrh
theorem qkf (K:PySem.W.Frag) (hK:X.K=K:=by rfl):q23 X (.type "list") (λ xs H Q=>∃ p ys,xs=[.ref p]/\(SqL K H p ys\/ SqT K H p ys)/\∀ l,H l=none ->Q (.ref l) (upd H l (.lst ys))):=by subst hK;exact qg4
theorem q6g (K:PySem.W.Frag) (hK:X.K=K:=by rfl):q23 X (.type "tuple") (λ xs H Q=>∃ p ys,xs=[.ref p]/\((SqL K H p ys/\∀ l,H l=none ->Q (.ref l) (upd H l (.tup ys)))\/ (SqT K H p ys/\Q (.ref p) H))):=by subst hK;exact qes
end
theorem q6y {α:Type} {xs:List α} {i:Int} (h0:0<=i) (h1:i < xs.length):∃ v,atI xs i=some v/\v∈xs:=by
 have J:i.toNat < xs.length:=by omega
 refine ⟨xs[i.toNat],?_,z29 J⟩;unfold atI ixN;rw [if_pos h0,if_pos h1];show xs[i.toNat]? =_;exact z0c J
theorem qu4 {α:Type} {xs:List α} {i:Int} (h0:0<=i) (h1:i < xs.length):atI xs i=xs[i.toNat]? :=by
 unfold atI ixN;rw [if_pos h0,if_pos h1];rfl
theorem qb {H:Hp} {a:Addr} {o:HO} (h:H a=none):Same H (upd H a o):=λ b u e=>by
 rw [qd (q2d e h)];exact e
theorem Same.set {H H':Hp} {a:Addr} {o:HO} (h:Same H H') (n:H a=none):Same H (upd H' a o):=λ b u e=>by
 rw [qd (q2d e n)];exact h b u e
theorem Same.seqT {K:PySem.W.Frag} {H H':Hp} {a:Addr} {xs:List V} (e:Same H H') (h:SqT K H a xs):SqT K H' a xs:=by
 rcases h with (h | ⟨o,h⟩) | h
 ·exact .inl (.inl (e _ _ h))
 ·exact .inl (.inr ⟨o,e _ _ h⟩)
 ·exact .inr h
def q1e:Expr ->Bool
 | .Starred _ _=>false
 | _=>true
theorem qeu {e:Expr} {es:List Expr} {env:Env} (h:q1e e=true):starEach (e::es) env=(false,eval e env)::starEach es env:=by
 cases e <;> first
  | rfl
  | cases h
theorem q1r {X:Cx} {e:Expr} {es:List Expr} {te:TE} {t:TA} (ha:PE X e te) (hr:PA X es t) (hs:q1e e=true:=by rfl):PA X (e::es) (q1w te t):=qrb ha hr (qeu hs)
theorem q1u:bootBuiltins "len"=some (.builtin "len"):=by decide+kernel
theorem q1c:bootBuiltins "isinstance"=some (.builtin "isinstance"):=by decide+kernel
theorem qgb:bootBuiltins "all"=some (.builtin "all"):=by decide+kernel
theorem qu5:bootBuiltins "any"=some (.builtin "any"):=by decide+kernel
theorem q68:bootBuiltins "sorted"=some (.builtin "sorted"):=by decide+kernel
theorem qmj:bootBuiltins "min"=some (.builtin "min"):=by decide+kernel
theorem qmk:bootBuiltins "zip"=some (.type "zip"):=by decide+kernel
theorem qc4:bootBuiltins "str"=some (.type "str"):=by decide+kernel
theorem qml:bootBuiltins "int"=some (.type "int"):=by decide+kernel
theorem qdc:bootBuiltins "bool"=some (.type "bool"):=by decide+kernel
theorem qj8:bootBuiltins "list"=some (.type "list"):=by decide+kernel
theorem q3w:bootBuiltins "tuple"=some (.type "tuple"):=by decide+kernel
theorem qdd:bootBuiltins "dict"=some (.type "dict"):=by decide+kernel
theorem qj9 {α:Type} {l:List α} {i:Nat} {d:α} (h:i < l.length):l.getD i d=l[i]:=by
 rw [z05,z0c h];rfl
theorem qrr {α:Type} {l:List α} {i:Nat} {d:α} (h:l.length<=i):l.getD i d=d:=by
 rw [z05,List.getElem?_eq_none_iff.mpr h];rfl
theorem pa_1 {X:Cx} {J:Expr} {O:TE} (h0:PE X J O) (L:q1e J=true:=by rfl):PA X [J] (q1w O tNil):=(q1r h0 q2c L)
theorem pa_2 {X:Cx} {J e1:Expr} {Y t1:TE} (h0:PE X J Y) (h1:PE X e1 t1) (L:q1e J=true:=by rfl) (O:q1e e1=true:=by rfl):PA X [J,e1] (q1w Y (q1w t1 tNil)):=(q1r h0 (q1r h1 q2c O) L)
theorem pa_3 {X:Cx} {J e1 e2:Expr} {Z t1 t2:TE} (h0:PE X J Z) (h1:PE X e1 t1) (h2:PE X e2 t2) (L:q1e J=true:=by rfl) (O:q1e e1=true:=by rfl) (Y:q1e e2=true:=by rfl):PA X [J,e1,e2] (q1w Z (q1w t1 (q1w t2 tNil))):=(q1r h0 (q1r h1 (q1r h2 q2c Y) O) L)
theorem pa_4 {X:Cx} {J e1 e2 e3:Expr} {t0 t1 t2 t3:TE} (h0:PE X J t0) (h1:PE X e1 t1) (h2:PE X e2 t2) (h3:PE X e3 t3) (L:q1e J=true:=by rfl) (O:q1e e1=true:=by rfl) (Y:q1e e2=true:=by rfl) (Z:q1e e3=true:=by rfl):PA X [J,e1,e2,e3] (q1w t0 (q1w t1 (q1w t2 (q1w t3 tNil)))):=(q1r h0 (q1r h1 (q1r h2 (q1r h3 q2c Z) Y) O) L)
theorem pa_5 {X:Cx} {J e1 e2 e3 L:Expr} {t0 t1 t2 t3 t4:TE} (h0:PE X J t0) (h1:PE X e1 t1) (h2:PE X e2 t2) (h3:PE X e3 t3) (h4:PE X L t4) (O:q1e J=true:=by rfl) (Y:q1e e1=true:=by rfl) (Z:q1e e2=true:=by rfl) (a0:q1e e3=true:=by rfl) (a2:q1e L=true:=by rfl):PA X [J,e1,e2,e3,L] (q1w t0 (q1w t1 (q1w t2 (q1w t3 (q1w t4 tNil))))):=(q1r h0 (q1r h1 (q1r h2 (q1r h3 (q1r h4 q2c a2) a0) Z) Y) O)
theorem pa_6 {X:Cx} {J e1 e2 e3 L O:Expr} {t0 t1 t2 t3 t4 t5:TE} (h0:PE X J t0) (h1:PE X e1 t1) (h2:PE X e2 t2) (h3:PE X e3 t3) (h4:PE X L t4) (h5:PE X O t5) (Y:q1e J=true:=by rfl) (Z:q1e e1=true:=by rfl) (a0:q1e e2=true:=by rfl) (a2:q1e e3=true:=by rfl) (a3:q1e L=true:=by rfl) (a5:q1e O=true:=by rfl):PA X [J,e1,e2,e3,L,O] (q1w t0 (q1w t1 (q1w t2 (q1w t3 (q1w t4 (q1w t5 tNil)))))):=(q1r h0 (q1r h1 (q1r h2 (q1r h3 (q1r h4 (q1r h5 q2c a5) a3) a2) a0) Z) Y)
theorem q3q {X:Cx} {J s1:Stmt} {L t1:TS} (h0:PS X J L) (h1:PS X s1 t1):PSs X [J,s1] (tSeq L t1):=(q12 h0 (qg h1))
theorem q2z {X:Cx} {J s1 L:Stmt} {O t1 t2:TS} (h0:PS X J O) (h1:PS X s1 t1) (h2:PS X L t2):PSs X [J,s1,L] (tSeq O (tSeq t1 t2)):=(q12 h0 (q12 h1 (qg h2)))
theorem q9s {X:Cx} {J s1 L s3:Stmt} {O t1 t2 t3:TS} (h0:PS X J O) (h1:PS X s1 t1) (h2:PS X L t2) (h3:PS X s3 t3):PSs X [J,s1,L,s3] (tSeq O (tSeq t1 (tSeq t2 t3))):=(q12 h0 (q12 h1 (q12 h2 (qg h3))))
theorem qkg {X:Cx} {J s1 L s3 O:Stmt} {Y t1 t2 t3 Z:TS} (h0:PS X J Y) (h1:PS X s1 t1) (h2:PS X L t2) (h3:PS X s3 t3) (h4:PS X O Z):PSs X [J,s1,L,s3,O] (tSeq Y (tSeq t1 (tSeq t2 (tSeq t3 Z)))):=(q12 h0 (q12 h1 (q12 h2 (q12 h3 (qg h4)))))
theorem qkh {X:Cx} {J s1 L s3 O Y:Stmt} {Z t1 t2 t3 t4 t5:TS} (h0:PS X J Z) (h1:PS X s1 t1) (h2:PS X L t2) (h3:PS X s3 t3) (h4:PS X O t4) (h5:PS X Y t5):PSs X [J,s1,L,s3,O,Y] (tSeq Z (tSeq t1 (tSeq t2 (tSeq t3 (tSeq t4 t5))))):=(q12 h0 (q12 h1 (q12 h2 (q12 h3 (q12 h4 (qg h5))))))
theorem qwm {X:Cx} {J s1 L s3:Stmt} {O:List Stmt} {Y t1 t2 t3 u:TS} (h0:PS X J Y) (h1:PS X s1 t1) (h2:PS X L t2) (h3:PS X s3 t3) (hu:PSs X O u):PSs X (J::s1::L::s3::O) (tSeq Y (tSeq t1 (tSeq t2 (tSeq t3 u)))):=(q12 h0 (q12 h1 (q12 h2 (q12 h3 hu))))
theorem qwn {X:Cx} {J s1 L s3 O Y Z:Stmt} {ss:List Stmt} {t0 t1 t2 t3 t4 t5 t6 u:TS} (h0:PS X J t0) (h1:PS X s1 t1) (h2:PS X L t2) (h3:PS X s3 t3) (h4:PS X O t4) (h5:PS X Y t5) (h6:PS X Z t6) (hu:PSs X ss u):PSs X (J::s1::L::s3::O::Y::Z::ss) (tSeq t0 (tSeq t1 (tSeq t2 (tSeq t3 (tSeq t4 (tSeq t5 (tSeq t6 u))))))):=(q12 h0 (q12 h1 (q12 h2 (q12 h3 (q12 h4 (q12 h5 (q12 h6 hu)))))))
theorem qja {X:Cx} {body:List Stmt} {D:Ends} {σ:St} {H:Hp} (n:Nat) (C:St ->Hp ->Prop) (rest:∃ u,PSs X (body.drop n) u/\∀ σ H,C σ H ->u D σ H)
  (first:∀ u,PSs X (body.drop n) u ->(∀ σ H,C σ H ->u D σ H) ->∃ t,PSs X body t/\t D σ H):∃ t,PSs X body t/\t D σ H:=
 let ⟨u,h1,h2⟩:=rest
 first u h1 h2
mutual
inductive Dat (K:PySem.W.Frag) (H:Hp):PyData ->V ->Prop
 | non:Dat K H .none .non
 | bl (b:Bool):Dat K H (.bool b) (.bl b)
 | int (i:Int):Dat K H (.int i) (.int i)
 | str (x:Str) (h:PyData.strOk x=true):Dat K H (.str x) (.str x)
 | lst {a:Addr} {xs:List V} {ds:List PyData}:SqL K H a xs ->Dats K H ds xs ->Dat K H (.list ds) (.ref a)
 | tup {a:Addr} {xs:List V} {ds:List PyData}:SqT K H a xs ->Dats K H ds xs ->Dat K H (.tuple ds) (.ref a)
inductive Dats (K:PySem.W.Frag) (H:Hp):List PyData ->List V ->Prop
 | nil:Dats K H [] []
 | cons {d:PyData} {x:V} {ds:List PyData} {xs:List V}:Dat K H d x ->Dats K H ds xs ->Dats K H (d::ds) (x::xs)
end
section
variable {K:PySem.W.Frag} {H H':Hp}
mutual
theorem Dat.same (s:Same H H'):∀ (d:PyData) (x:V),Dat K H d x ->Dat K H' d x
 | _,_,.non=> .non
 | _,_,.bl b=> .bl b
 | _,_,.int i=> .int i
 | _,_,.str x h=> .str x h
 | _,_,.lst h r=> .lst (s.seq h) (Dats.same s _ _ r)
 | _,_,.tup h r=> .tup (s.seqT h) (Dats.same s _ _ r)
theorem Dats.same (s:Same H H'):∀ (ds:List PyData) (xs:List V),Dats K H ds xs ->Dats K H' ds xs
 | _,_,.nil=> .nil
 | _,_,.cons a b=> .cons (Dat.same s _ _ a) (Dats.same s _ _ b)
end
mutual
theorem Dat.lay:∀ (d:PyData) (x:V),Dat K H d x ->d.canLay0=true
 | _,_,.non=>rfl
 | _,_,.bl _=>rfl
 | _,_,.int _=>rfl
 | _,_,.str _ h=>h
 | _,_,.lst _ r=>Dats.lay _ _ r
 | _,_,.tup _ r=>Dats.lay _ _ r
theorem Dats.lay:∀ (ds:List PyData) (xs:List V),Dats K H ds xs ->PyData.canLayAll0 ds=true
 | _,_,.nil=>rfl
 | _,_,.cons a b=>by rw [PyData.canLayAll0,Dat.lay _ _ a,Dats.lay _ _ b];rfl
end
end
section
variable {X:Cx} {pins:List (Addr×Obj)} {σ:St} {H:Hp} {s:Shared}
mutual
theorem Dat.reads (I:Inv X pins σ H s):∀ (d:PyData) (x:V) (u:Value),Dat X.K H d x ->RelV x u ->∃ as,Reads s.heap u d as
 | _,_,_,.non,r=>by cases r;exact ⟨_,.none⟩
 | _,_,_,.bl b,r=>by cases r;exact ⟨_,.bool b⟩
 | _,_,_,.int i,r=>by obtain ⟨t,rfl⟩:=r;exact ⟨_,.int i t⟩
 | _,_,_,.str x _,r=>by obtain ⟨t,rfl⟩:=r;exact ⟨_,.str x t⟩
 | _,_,_,.lst h q,r=>by
  cases r
  obtain ⟨its,rv,⟨o,n,e,c,_,d⟩,_⟩:=I.list h;obtain ⟨as,J⟩:=Dats.reads I _ _ _ q rv;exact ⟨_,.list e c d (by simpa using J)⟩
 | _,_,_,.tup h q,r=>by
  cases r
  obtain ⟨its,rv,⟨o,e,c,n,d⟩,_⟩:=I.tuple h;obtain ⟨as,J⟩:=Dats.reads I _ _ _ q rv;exact ⟨_,.tuple e c d (by simpa using J)⟩
theorem Dats.reads (I:Inv X pins σ H s):∀ (ds:List PyData) (xs:List V) (us:List Value),Dats X.K H ds xs ->Vals xs us ->∃ as,ReadsAll s.heap us ds as
 | _,_,_,.nil,r=>by cases r;exact ⟨_,.nil⟩
 | _,_,_,.cons a b,r=>by
  cases r with
  | cons r1 r2=>
   obtain ⟨as,h1⟩:=Dat.reads I _ _ _ a r1;obtain ⟨bs,h2⟩:=Dats.reads I _ _ _ b r2;exact ⟨_,.cons h1 h2⟩
end
end
section
variable {X:Cx}
theorem qgc {u d e:Nat} (hu:u+64 < cLine) (hd:d<=60):u+min d e < cLine:=by
 have:min d e<=d:=Nat.min_le_left _ _;omega
def rEqD (K:PySem.W.Frag):R2:=λ x y H Q=>∃ d e,Dat K H d x/\Dat K H e y/\d.depth<=60/\Q (.bl (PyData.eqv d e)) H
theorem qmm (hu:X.A.units+64 < cLine) (K:PySem.W.Frag) (hK:X.K=K:=by rfl):OpR X (compareOp .Eq) (rEqD K):=by
 subst hK;intro pins s σ H x y v u Q I rx ry h;obtain ⟨d,e,hd,J,hz,q⟩:=h;obtain ⟨as,ra⟩:=Dat.reads I _ _ _ hd rx;obtain ⟨bs,rb⟩:=Dat.reads I _ _ _ J ry;exact SeqAt.rcAt_reads ra rb (Dat.lay _ _ hd) (Dat.lay _ _ J) (qgc hu hz) X.prog X.w X.xe _ (qy I q rfl)
end
def LtAt (A:Around) (s:Shared) (u v:Value) (r:Bool):Prop:=
 ∀ (prog:Program) (w:World) (E:Value ->Shared ->Prop) (Q:Value ->Shared ->Prop),Q (.bool r) s ->wpAny (model prog w) A (richCompare .Lt u v) Q E s
inductive LexAt (A:Around) (s:Shared):List Value ->List Value ->Bool ->Prop
 | nn:LexAt A s [] [] false
 | nc {v:Value} {vs:List Value}:LexAt A s [] (v::vs) true
 | cn {u:Value} {us:List Value}:LexAt A s (u::us) [] false
 | eq {u v:Value} {us vs:List Value} {r:Bool}:SeqAt.EqAt A s u v true ->LexAt A s us vs r ->LexAt A s (u::us) (v::vs) r
 | lt {u v:Value} {us vs:List Value} {r:Bool}:SeqAt.EqAt A s u v false ->LtAt A s u v r ->LexAt A s (u::us) (v::vs) r
section
open PySem.SeqAt
open PySem.AutoSeq1 (wpAny_loadPart')
open PySem.MeetsSeq PySem.MeetsSeq2 PySem.MeetsSeq3
theorem q8u (l b:Addr) (L J:Array Value) (n n2:Nat) (dd a5:Option Addr) (sl a7:Array (Option Value)) (r:Bool):
  Meets (Builtin.«tuple.__lt__» ⟨[.ref l,.ref b],[]⟩)
   (λ A R s=>s.heap.get? l=some {cls:= .type "tuple",dict:=dd,data:= .seq L n,slots:=sl}/\s.heap.get? b=some {cls:= .type "tuple",dict:=a5,data:= .seq J n2,slots:=a7}/\
    LexAt A.in1 s L.toList J.toList r/\R (.ok (.ret (.bool r))) s):=
 .of_wp λ prog w A R s h=>by
  obtain ⟨hp,g,d,tk,os⟩:=s;obtain ⟨hl,hb,hx,h⟩:=h;have f2:=AutoSeq1.sub_tuple_tuple
  wp_walk using wpAny_loadPart' hl,wpAny_loadPart' hb,wpAny_forIn_list _ (λ rest b s'=>b.1=none/\s'=⟨hp,g,d,tk,os⟩/\∃ (vs ws:List Value),rest=vs.zip ws/\
   LexAt A.in1 ⟨hp,g,d,tk,os⟩ vs ws r/\vs.length+J.size=ws.length+L.size) _
  case turn=>
   rintro ⟨y,x⟩ rest b s' ⟨a0,rfl,vs,ws,Y,a2,O⟩;cases a2 with
   | nn=>rw [List.zip_nil_left] at Y;cases Y
   | nc=>rw [List.zip_nil_left] at Y;cases Y
   | cn=>rw [List.zip_nil_right] at Y;cases Y
   | eq he hr=>
    rw [z1k] at Y;injection Y with a3 Z;injection a3 with hy hx;subst hy hx;simp only [z27] at O;refine z3w (he prog w _ _ ?_)
    wp_walk
    exact ⟨zr,zr,_,_,Z,hr,by omega⟩
   | lt he hr=>
    rw [z1k] at Y;injection Y with a3 Z;injection a3 with hy hx;subst hy hx;refine z3w (he prog w _ _ ?_);have a6:=hr prog w
    wp_walk using a6
    exact ⟨_,zr,by simpa using h⟩
  case fin=>
   rintro ⟨b1,b2⟩ s' ⟨a0,rfl,vs,ws,Y,a2,O⟩;simp only at a0;subst a0;have hv:r=decide (L.size < J.size):=by
    cases a2 with
    | nn=>
     simp only [z2s] at O;exact (z2k (by omega)).symm
    | nc=>
     simp only [z2s,z27] at O;exact (z2y (by omega)).symm
    | cn=>
     simp only [z2s,z27] at O;exact (z2k (by omega)).symm
    | eq _ _=>rw [z1k] at Y;cases Y
    | lt _ _=>rw [z1k] at Y;cases Y
   rw [hv] at h
   wp_walk
   exact ⟨_,zr,by simpa [Builtin.Tuple.tupleCompareSizes] using h⟩
  case h=>
   exact ⟨rfl,rfl,L.toList,J.toList,rfl,hx,by simp;omega⟩
end
theorem qgd {A:Around} {s:Shared} {l b:Addr} {L J:Array Value} {r:Bool} (hl:IsTup s.heap l L) (hb:IsTup s.heap b J) (hx:LexAt A.in1 s L.toList J.toList r) (hu:A.units < cLine):LtAt A s (.ref l) (.ref b) r:=by
 intro prog w E Q h;obtain ⟨⟨cls,dd,data,sl⟩,ho,hc,n,hd⟩:=id hl;obtain ⟨⟨a5,a2,a0,a3⟩,Z,O,n2,Y⟩:=id hb;simp only at hc hd O Y;subst hc hd O Y;exact richCompare_meets_room (op:= .Lt) ⟨_,ho,zr⟩ ⟨_,Z,zr⟩ PySem.F.slot_tuple_lt PySem.F.entry_tuple_lt (PySem.F.args_tuple_lt_2 _ _) (q8u l b L J n n2 dd a2 sl a3 r)
  ⟨ho,Z,hx,show Value.bool r≠Value.notImplemented/\Q (.bool r) s from ⟨(λ x=>nomatch x),h⟩⟩ hu
mutual
def ltD? :PyData ->PyData ->Option Bool
 | .int a,.int b=>some (decide (a < b))
 | .str a,.str b=>some (decide (a.cps.toList < b.cps.toList))
 | .tuple as,.tuple bs=>lexD? as bs
 | _,_=>none
def lexD? :List PyData ->List PyData ->Option Bool
 | [],[]=>some false
 | [],_::_=>some true
 | _::_,[]=>some false
 | a::as,b::bs=>if PyData.eqv a b=true then lexD? as bs else ltD? a b
end
mutual
theorem qc5:∀ (Z J:PyData) (A:Around) (s:Shared) (a b:Value) (as bs:List Addr) (r:Bool),Reads s.heap a Z as ->Reads s.heap b J bs ->Z.canLay0=true ->J.canLay0=true ->
    A.units+min Z.depth J.depth < cLine ->ltD? Z J=some r ->LtAt A s a b r
  | .int x,J,A,s,_,_,_,_,r,O,Y,L,hb,hu,e=>by
    cases O
    cases Y <;> first
      | (cases e;intro prog w E Q h;exact show wpAny (model prog w) A (compareOp .Lt _ _) Q E s from lt_int h)
      | (exact nomatch e)
  | .str x,J,A,s,_,_,_,_,r,O,Y,L,hb,hu,e=>by
    cases O
    cases Y <;> first
      | (cases e;intro prog w E Q h;exact show wpAny (model prog w) A (compareOp .Lt _ _) Q E s from lt_str h)
      | (exact nomatch e)
  | .tuple xs,J,A,s,_,_,_,_,r,O,Y,L,hb,hu,e=>by
    cases O with
    | tuple h1 h2 h3 h4=>
      cases Y with
      | tuple k1 k2 k3 k4=>
        exact qgd ⟨_,h1,h2,_,h3⟩ ⟨_,k1,k2,_,k3⟩ (qad xs _ A.in1 s _ _ _ _ r h4 k4 L hb (SeqAt.room_in hu) e) (SeqAt.room_here hu)
      | none=>exact nomatch e
      | bool=>exact nomatch e
      | int=>exact nomatch e
      | str=>exact nomatch e
      | list=>exact nomatch e
      | dict=>exact nomatch hb
  | .none,_,_,_,_,_,_,_,_,_,_,_,_,_,e=>by simp [ltD?] at e
  | .bool _,_,_,_,_,_,_,_,_,_,_,_,_,_,e=>by simp [ltD?] at e
  | .list _,_,_,_,_,_,_,_,_,_,_,_,_,_,e=>by simp [ltD?] at e
  | .dict _,_,_,_,_,_,_,_,_,_,_,L,_,_,_=>nomatch L
theorem qad:∀ (xs ys:List PyData) (A:Around) (s:Shared) (vs ws:List Value) (as bs:List Addr) (r:Bool),ReadsAll s.heap vs xs as ->ReadsAll s.heap ws ys bs ->PyData.canLayAll0 xs=true ->PyData.canLayAll0 ys=true ->
  A.units+min (PyData.depthAll xs) (PyData.depthAll ys) < cLine ->lexD? xs ys=some r ->LexAt A s vs ws r
 | [],[],_,_,_,_,_,_,r,O,Y,_,_,_,e=>by cases O;cases Y;cases e;exact .nn
 | [],_::_,_,_,_,_,_,_,r,O,Y,_,_,_,e=>by cases O;cases Y;cases e;exact .nc
 | _::_,[],_,_,_,_,_,_,r,O,Y,_,_,_,e=>by cases O;cases Y;cases e;exact .cn
 | x::xs,y::ys,A,s,_,_,_,_,r,O,Y,ha,hb,hu,e=>by
  have J:x.canLay0=true/\PyData.canLayAll0 xs=true:=by simpa [PyData.canLayAll0] using ha
  have L:y.canLay0=true/\PyData.canLayAll0 ys=true:=by simpa [PyData.canLayAll0] using hb
  cases O with
  | cons r1 rs=>
   cases Y with
   | cons Z a0=>
    have eq:=SeqAt.eqAt_reads x y A s _ _ _ _ r1 Z J.1 L.1 (SeqAt.room_head hu);rw [lexD?] at e;cases q:PyData.eqv x y with
    | true=>
     rw [q] at eq;rw [if_pos q] at e;exact .eq eq (qad xs ys A s _ _ _ _ r rs a0 J.2 L.2 (SeqAt.room_tail hu) e)
    | false=>
     rw [q] at eq;rw [if_neg (by rw [q];exact z1c)] at e;exact .lt eq (qc5 x y A s _ _ _ _ r r1 Z J.1 L.1 (SeqAt.room_head hu) e)
end
section
variable {X:Cx}
end
def tyD:PyData ->String
 | .none=>"NoneType"
 | .bool _=>"bool"
 | .int _=>"int"
 | .str _=>"str"
 | .list _=>"list"
 | .tuple _=>"tuple"
 | .dict _=>"dict"
theorem qu6 (d:PyData):tyD d∈tyTs:=by
 cases d <;> simp [tyD,tyTs]
section
variable {X:Cx}
theorem q2m (K:PySem.W.Frag) (hK:X.K=K:=by rfl):q23 X (.builtin "isinstance") (λ xs H Q=>∃ x n d,xs=[x,.ty n]/\Dat K H d x/\n∈tyNs/\Q (.bl (tyIs (tyD d) n)) H):=by
 subst hK;intro pins s σ H xs us Q I r h;obtain ⟨x,n,d,rfl,hd,hn,q⟩:=h;obtain ⟨u,c,rfl,J,rc⟩:=qfg r;cases rc
 have e:=qj7 (K:=X.K) (qu6 d) hn;have fin:∀ tk,EP X pins σ Q (.bool (tyIs (tyD d) n)) {s with toks:=tk}:=λ tk=>⟨.bl _,H,I.tok tk,rfl,q⟩;cases hd with
 | non=>cases J;exact z2u PySem.W.kitx_none I.kIn True.intro e (λ z=>nomatch z) fin
 | bl b=>cases J;exact z2u PySem.W.kitx_bool I.kIn True.intro e (λ z=>nomatch z) fin
 | int i=>obtain ⟨t,rfl⟩:=J;exact z2u PySem.W.kitx_int I.kIn True.intro e (λ z=>nomatch z) fin
 | str z h=>obtain ⟨t,rfl⟩:=J;exact z2u PySem.W.kitx_str I.kIn True.intro e (λ z=>nomatch z) fin
 | lst hq _=>
  cases J
  obtain ⟨its,_,⟨o,m,e1,c,_,_⟩,_⟩:=I.list hq;exact z2u PySem.W.kitx_list I.kIn ⟨o,e1,c⟩ e (λ z=>nomatch z) fin
 | tup hq _=>
  cases J
  obtain ⟨its,_,⟨o,e1,c,_⟩,_⟩:=I.tuple hq;exact z2u PySem.W.kitx_tuple I.kIn ⟨o,e1,c⟩ e (λ z=>nomatch z) fin
def rNeD (K:PySem.W.Frag):R2:=λ x y H Q=>∃ d e,Dat K H d x/\Dat K H e y/\d.depth<=60/\Q (.bl (!PyData.eqv d e)) H
theorem qge (hu:X.A.units+64 < cLine) (K:PySem.W.Frag) (hK:X.K=K:=by rfl):OpR X (compareOp .NotEq) (rNeD K):=by
 subst hK;intro pins s σ H x y v u Q I rx ry h;obtain ⟨d,e,hd,J,hz,q⟩:=h;obtain ⟨as,ra⟩:=Dat.reads I _ _ _ hd rx;obtain ⟨bs,rb⟩:=Dat.reads I _ _ _ J ry;exact SeqAt.compareNe_reads ra rb (Dat.lay _ _ hd) (Dat.lay _ _ J) (qgc hu hz) (qy I q rfl)
def q9t (x y:Str):Int:=match Builtin.Str.occurrences x y 0 x.length 1 with | i::_=>(i:Int) | []=>-1
def qwo:V ->List V ->Hp ->VK ->Prop:=λ x xs H Q=>∃ z y,x= .str z/\xs=[.str y]/\Q (.int (q9t z y)) H
theorem qjb:MtR X "str.find" qwo:=by
 intro pins s σ H x xs v us Q I rx rv h;obtain ⟨z,y,rfl,rfl,q⟩:=h;obtain ⟨t,rfl⟩:=rx;obtain ⟨u,rfl,ru⟩:=rv.one;obtain ⟨t2,rfl⟩:=ru;exact call_gives F.slot_str_find (typeIs_str _ _ _) F.entry_str_find (F.args_str_find_2 _ _) (gives_str_find z y t t2) ⟨.int _,H,I.tok _,⟨_,zr⟩,q⟩
end
end L2
namespace L2
open PySem PySem.Spec PyProof.Rows PySem.W
def RawD (h:Heap) (d:Addr) (es:Array DictEntry) (ep:Nat):Prop:=∃ o,h.get? d=some o/\o.ExactDict/\o.data= .dict es ep
theorem RawD.lt {h:Heap} {d:Addr} {es:Array DictEntry} {ep:Nat} (x:RawD h d es ep):d < h.objs.size:=let ⟨_,e,_⟩:=x;z3h e
theorem RawD.ty {s:Shared} {d:Addr} {es:Array DictEntry} {ep:Nat} (x:RawD s.heap d es ep):s.TypeIs (.ref d) "dict":=let ⟨o,e,c,_⟩:=x;⟨o,e,c.1⟩
theorem RawD.at {h h':Heap} {d:Addr} {es:Array DictEntry} {ep:Nat} (x:RawD h d es ep) (k:∀ o,h.get? d=some o ->h'.get? d=some o):RawD h' d es ep:=let ⟨o,e,r⟩:=x;⟨o,k o e,r⟩
section
variable {prog:Program} {w:World} {A:Around} {E:Value ->Shared ->Prop} {s:Shared} {d it:Addr} {es:Array DictEntry} {ep i:Nat}
theorem qoy {Q:Value ->Shared ->Prop} (hd:(d==sysModules)=false) (x:RawD s.heap d es ep)
  (q:Q (.ref s.heap.objs.size) {s with heap:=s.heap.push {cls:= .type "dict_keyiterator",data:= .fields #[.ref d,.int 0 0,.int es.size 0,.int ep 0]}}):wpAny (model prog w) A (pyIter (.ref d)) Q E s:=by
 obtain ⟨o,ho,hc,J⟩:=id x;refine wpAny_pyIter_slot x.ty PySem.F.slot_dict_iter (z2d PySem.F.slot_dict_iter x.ty PySem.F.entry_dict_iter ?_ (PySem.F.args_dict_iter_1 _));unfold Builtin.«dict.__iter__» Builtin.Dict.dictSlotNone;refine z3w (z3w (wpAny_notOrdered_dict x.ty ?_));show wpAny _ _ (pure (Value.ref d)) _ _ s;refine z3v ?_;show wpAny _ _ (Builtin.Dict.showsAll d >>=_) _ _ s;unfold Builtin.Dict.showsAll;rw [if_neg (by rw [hd];exact z1c)];refine z3w (z3v (z3w (z20 ho J (z3w (z2v ho J ?_)))));refine z3w (z1y (z3v ⟨_,zr,"dict_keyiterator",_,⟨_,z16 _ rfl,zr⟩,z00.lookup,?_⟩))
 simpa [rawInt] using q
theorem qoz {e:DictEntry} {Q:Option Value ->Shared ->Prop} (J:s.heap.IsKeyIter it d i es.size ep) (x:RawD s.heap d es ep) (hx:es[i]? =some e)
  (q:∀ h',h'.IsKeyIter it d (i+1) es.size ep ->Heap.SameBut it s.heap h' ->Q (some e.key) {s with heap:=h'}):wpAny (model prog w) A (pyNext (.ref it)) Q E s:=by
 obtain ⟨o,ho,hc,hd⟩:=id J;obtain ⟨od,Y,hcd,O⟩:=id x;unfold pyNext;refine z3w (z36 (wpAny_callSpecial?_slot (name:=Str.ofString "__next__") J.typeIs z00
  (z2d z00 J.typeIs PySem.F.entry_dict_keyiterator_next ?_ (PySem.F.args_dict_keyiterator_next_1 _))))
 refine z3w (z3v (z3w (z3w ?_)));refine z3w (z01 J.typeIs (z3v ?_));refine z3w (wpAny_fieldsOf ho hd ?_);simp only [show Builtin.Dict_items.ownsTuple "dict_keyiterator"=false by decide,z1b,if_false];show wpAny _ _ (if (Value.ref d==Value.none)=true then _ else _) _ _ s;rw [if_neg (show ¬ ((Value.ref d==Value.none)=true) from z1c)];refine z3w (z3v (z3w (z20 Y O ?_)));rw [if_neg (by simp)];refine z3w (z3v (z3w (z2v Y O ?_)));rw [if_neg (by simp)];refine z3v ?_;simp only [show ¬ ((i:Int) < 0) from by omega,if_false,z1w,hx];refine z3w ?_;refine z3w (z01 J.typeIs (z3v ?_));refine z3w (wpAny_isOneOf_keyiter J.typeIs ?_);show wpAny _ _ (setField (.ref it) 1 (rawInt ((i:Int)+1)) >>=_) _ _ s;refine z3w (z34 ho hd (by simp) ?_);have L:(s.heap.update it (Obj.mapFields (·.setIfInBounds 1 (rawInt ((i:Int)+1))))).IsKeyIter it d (i+1) es.size ep:=
  ⟨_,z0u _ ho (Obj.isFreed_of_fields (Obj.data_mapFields hd _)),(Obj.cls_mapFields ..).trans hc,by rw [Obj.data_mapFields hd];simp [rawInt]⟩
 refine z3w (z38 ?_);refine z3w (wpAny_isOneOf_keyiter (s:={s with heap:=s.heap.update it (Obj.mapFields (·.setIfInBounds 1 (rawInt ((i:Int)+1))))}) L.typeIs ?_);show wpAny _ _ (pure e.key) _ _ _;exact z3v (z3v ⟨_,zr,z3v (q _ L (z15 ..))⟩)
theorem qrs {Q:Option Value ->Shared ->Prop} (hh:A.handled=none) (J:s.heap.IsKeyIter it d i es.size ep) (x:RawD s.heap d es ep) (hx:es.size<=i)
  (q:∀ h',Heap.ExtBut it s.heap h' ->Q none {s with heap:=h'}):wpAny (model prog w) A (pyNext (.ref it)) Q E s:=by
 obtain ⟨o,ho,hc,hd⟩:=id J;obtain ⟨od,O,hcd,L⟩:=id x;unfold pyNext;refine z3w (z36 (wpAny_callSpecial?_slot (name:=Str.ofString "__next__") J.typeIs z00
  (z2d z00 J.typeIs PySem.F.entry_dict_keyiterator_next ?_ (PySem.F.args_dict_keyiterator_next_1 _))))
 refine z3w (z3v (z3w (z3w ?_)));refine z3w (z01 J.typeIs (z3v ?_));refine z3w (wpAny_fieldsOf ho hd ?_);simp only [show Builtin.Dict_items.ownsTuple "dict_keyiterator"=false by decide,z1b,if_false];show wpAny _ _ (if (Value.ref d==Value.none)=true then _ else _) _ _ s;rw [if_neg (show ¬ ((Value.ref d==Value.none)=true) from z1c)];refine z3w (z3v (z3w (z20 O L ?_)));rw [if_neg (by simp)];refine z3w (z3v (z3w (z2v O L ?_)));rw [if_neg (by simp)];refine z3v ?_;simp only [show ¬ ((i:Int) < 0) from by omega,if_false,z1w,z0n hx];refine z3w ?_;refine z3w (z01 J.typeIs (z3v ?_));show wpAny _ _ (setField (.ref it) 0 .none >>=_) _ _ s;refine z3w (z34 ho hd (by simp) ?_);show wpAny _ _ (newExc (.type "StopIteration") [] >>=_) _ _ _;refine z3w ?_;simp only [newExc,newTuple];refine z3w (z1y ?_ (by size_fits));refine z3w (m:=firstArgMember _ _) (wpAny_of_eq (a:=Value.none) (by first | rfl | (simp only [firstArgMember];rfl)) ?_);refine z1y ?_ (by size_fits);simp only [raiseNew];refine z3w (wpAny_handled ?_);rw [show A.in1.handled=none from hh];refine z3w (z3v (wpAny_throw ?_));refine z3w (wpAny_isInstance (T:="StopIteration") (b:=true) ⟨_,z16 _ rfl,zr⟩ isSubtype_stop ?_);exact z3v (q _ (((z15 ..).extBut.push _).push _))
theorem qmn (hh:A.handled=none) (I d:Addr) (a0:d≠I) (es:Array DictEntry) (ep:Nat):
  Walks prog w A I [I,d] [I] es.size (λ i v=>∃ e,es[i]? =some e/\v=e.key) (λ i h=>h.IsKeyIter I d i es.size ep/\RawD h d es ep) where
 sub:=λ b J=>by simp at J;simp [J]
 frame:=λ _ _ _ st hk=>⟨st.1.at λ o e=>hk I (by simp) o e,st.2.at λ o e=>hk d (by simp) o e⟩
 item:=λ i s Q E hi st L=>by
  have hx:es[i]? =some es[i]:=z0a hi;refine qoz st.1 st.2 hx λ h' O Y=> ?_;exact L es[i].key h' s.toks ⟨es[i],hx,zr⟩ ⟨O,st.2.at λ o e=>Y.extBut d o a0 e⟩ λ b o J e=>Y.extBut b o (λ h=>J (by simp [h])) e
 done:=λ s Q E st L=>qrs hh st.1 st.2 (z3q _) λ h' Z=>L h' s.toks λ b o J e=>Z b o (λ h=>J (by simp [h])) e
 self:=λ _ _ _ _ st L=>wpAny_pyIter_keyiter st.1 L
theorem qrt (lo:(d==sysModules)=false):KdlSrc prog w "dict" d d es.size (λ i v=>∃ e,es[i]? =some e/\v=e.key) (λ h=>RawD h d es ep) where
 type:=λ _ J=>J.ty
 there:=λ _ J=>⟨J.lt,J.lt⟩
 keep:=λ _ _ J hk=>J.at λ o e=>hk d (.inl rfl) o e
 notList:=by decide
 notTuple:=by decide
 hint:=λ _ _ _ _ J hq=>kdl_hint_dict J.ty hq
 iter:=λ _ _ hh J=>⟨_,_,(λ _ _ hq=>qoy lo J hq),qmn hh _ d (z3i J.lt) es ep,⟨⟨_,z16 _ rfl,rfl,rfl⟩,J.at λ o e=>z0k _ e⟩⟩
theorem qae {R:List Value ->Shared ->Prop} (hh:A.handled=none) (lo:(d==sysModules)=false) (x:RawD s.heap d es ep) (hn:es.size<=sizeLine)
  (h:∀ (h':Heap) (tk:Nat),(∀ b o,s.heap.get? b=some o ->h'.get? b=some o) ->s.heap.objs.size<=h'.objs.size ->R (es.toList.map (·.key)) {s with heap:=h',toks:=tk}):wpAny (model prog w) A (collect (.ref d)) R E s:=by
 have fin:∀ (O:Array Value),ItemsOf (λ i v=>∃ e,es[i]? =some e/\v=e.key) O es.size ->O.toList=es.toList.map (·.key):=λ O Y=>by
  apply z1r
  intro j;rw [z1s,z0t,z0t];cases e:O[j]? with
  | some v=>
   obtain ⟨e',he,rfl⟩:=Y.2 j v e;rw [he];rfl
  | none=>
   have:O.size<=j:=by simpa using e
   rw [Y.1] at this;rw [z0n this];rfl
 unfold collect;refine z3w (wpAny_runValue (z2w entry_proto_collect' ?_));rw [Around.under_plainId PySem.F.plain_proto_collect _];show wpAny _ A.in1 (newList [] >>=λ l=>again (.builtin "list.__iadd__" ⟨[l,.ref d],[]⟩)) _ _ s;refine z3w (z1y ?_);refine z3v ⟨plainId_quiet z0g _,z2w entry_list_iadd' ?_⟩;rw [Around.under_plainId z0g _];have hS:(s.heap.push {cls:= .type "list",data:= .seq ([]:List Value).toArray}).get? s.heap.objs.size=some {cls:= .type "list",data:= .seq #[]}:=z16 _ rfl;show wpAny _ A.in1 (Builtin.List.listExtendWith (.ref s.heap.objs.size) (.ref d) (.ref s.heap.objs.size)) _ _ _;have key:=kdl_extend (A:=A) (s:={s with heap:=s.heap.push {cls:= .type "list",data:= .seq ([]:List Value).toArray}}) (qrt (prog:=prog) (w:=w) (es:=es) (ep:=ep) lo) hh (x.at λ o e=>z0k _ e) s.heap.objs.size
  (z3k x.lt) (z3k x.lt) (.ref s.heap.objs.size) 0 hS
  (R:=λ (q:Result) (s':Shared)=>∃ (h':Heap) (tk:Nat) (J:Array Value) (Z:Nat),q= .ok (.ret (.ref s.heap.objs.size))/\s'={s with heap:=h',toks:=tk}/\(∀ b o,s.heap.get? b=some o ->h'.get? b=some o)/\
   h'.get? s.heap.objs.size=some {cls:= .type "list",dict:=none,data:= .seq J Z,slots:=#[]}/\J.toList=es.toList.map (·.key))
  (λ h' tk J Z hk L a0=>⟨h',tk,J,Z,rfl,rfl,λ b o e=>hk b o (z3i (z3h e)) (z0k _ e),L,fin J a0⟩) hn
 refine z3x key (λ f s' y=> ?_) λ e s' y=> ?_
 ·cases f with
  | done f=>
   obtain ⟨h',tk,J,Z,e,rfl,hk,L,Y⟩:=y;cases e
   show wpAny _ A (load s.heap.objs.size >>=_) _ _ _;refine z3w (wpAny_load L (z3v ?_));show R J.toList _;rw [Y];exact h h' tk hk (z3g (z3h L))
  | again c=>
   refine ⟨y.1,z3l y.2 λ q s2 z=> ?_⟩;obtain ⟨h',tk,J,Z,rfl,rfl,hk,L,Y⟩:=z;show wpAny _ A (load s.heap.objs.size >>=_) _ _ _;refine z3w (wpAny_load L (z3v ?_));show R J.toList _;rw [Y];exact h h' tk hk (z3g (z3h L))
 ·obtain ⟨_,_,_,_,e',_⟩:=y;cases e'
theorem qc6 {T:String} {o:Obj} {J:Array Value} {n:Nat} {l:Addr} {R:List Value ->Shared ->Prop} (hT:T="list"\/ T="tuple") (ho:s.heap.get? l=some o) (hc:o.cls= .type T) (hd:o.data= .seq J n) (hz:J.size<=sizeLine)
  (h:∀ (h':Heap) (tk:Nat),(∀ b o,s.heap.get? b=some o ->h'.get? b=some o) ->s.heap.objs.size<=h'.objs.size ->R J.toList {s with heap:=h',toks:=tk}):wpAny (model prog w) A (collect (.ref l)) R E s:=by
 unfold collect;refine z3w (wpAny_runValue (z2w entry_proto_collect' ?_));show wpAny _ _ (do again (.builtin "list.__iadd__" ⟨[<- newList [],.ref l],[]⟩)) _ _ s;refine z3w (wpAny_newList (z3v ⟨Code.quiet_builtin _ (by decide+kernel),z2w entry_list_iadd' ?_⟩));show wpAny _ _ (Builtin.List.listExtendWith (.ref s.heap.objs.size) (.ref l) (.ref s.heap.objs.size)) _ _ {s with heap:=s.heap.push (seqObj "list" #[] 0)};unfold Builtin.List.listExtendWith;have L:(s.heap.push (seqObj "list" #[] 0)).get? l=some o:=z0k _ ho;refine z3w (wpAny_typeOf (T:=T) ⟨o,L,hc⟩ ?_);have ht:((Value.type T==Value.type "list") || (Value.type T==Value.type "tuple"))=true:=by rcases hT with rfl | rfl <;> rfl
 rw [if_pos (by rw [Bool.or_assoc,ht];simp)];refine z3w (listItems_at L hd ?_);refine z3w (listItems_at (xs:=#[]) (n:=0) (z16 _ rfl) rfl ?_);rw [if_neg (by simp)];refine z3w (listUpdate_at (xs:=#[]) (n:=0) (z16 _ rfl) rfl ?_ (z3t _) (by rw [Array.size_append];simp;omega));refine z3v ?_;show wpAny (model prog w) A (load s.heap.objs.size >>=λ o=>match o.data with
   | .seq xs _=>pure xs.toList
   | _=>unsupported "internal:collect") R E {s with heap:=(s.heap.push (seqObj "list" #[] 0)).update s.heap.objs.size (Obj.mapSeq (· ++J))}
 refine z3w (wpAny_load (get?_update_seq (z16 _ rfl) _) ?_);show wpAny _ _ (pure ((#[]:Array Value)++J).toList) R E _;rw [show ((#[]:Array Value)++J).toList=J.toList by simp];refine z3v (h _ s.toks (λ b o e=> ?_) (by rw [Heap.size_update,size_push'];omega));exact (z0l _ _ (z3k (z3h e))).trans (z0k _ e)
theorem qc7 {x:Value} {vs:List Value} {rk:Value ->Int} {Q:Value ->Shared ->Prop} (Z:vs.length<=sizeLine)
  (hc:∀ (O:Around) (E':Value ->Shared ->Prop) (R:List Value ->Shared ->Prop),O.handled=A.handled ->(∀ h' tk,(∀ b o,s.heap.get? b=some o ->h'.get? b=some o) ->s.heap.objs.size<=h'.objs.size ->R vs {s with heap:=h',toks:=tk}) ->wpAny (model prog w) O (collect x) R E' s)
  (hk:∀ (O:Around) (s':Shared) (a:Addr),O.units<=A.units+4 ->s.heap.objs.size<=a ->(∀ b o,s.heap.get? b=some o ->s'.heap.get? b=some o) ->Tim.Keys prog w O s' a vs rk)
  (h:∀ (out:Array Value) (l:Addr) (n:Nat) (h':Heap) (tk:Nat),Tim.Sorted rk vs out.toList ->(∀ b o,s.heap.get? b=some o ->h'.get? b=some o) ->s.heap.objs.size<=l ->h'.get? l=some (seqObj "list" out n) ->Q (.ref l) {s with heap:=h',toks:=tk}):
  wpAny (model prog w) A (call (.builtin "sorted") [x]) Q E s:=by
 refine Calls.call_function_entry kind_sorted plain_sorted entry_sorted (args_sorted1 _) ?_;unfold Builtin.«sorted»;refine z3w (m:=checkCount "sorted" 1 1 _) (z3v ?_);refine z3w (hc _ _ _ rfl λ h1 tk keep hsz=> ?_);refine z3w (wpAny_newList ?_ Z);have L:(h1.push (seqObj "list" vs.toArray 0)).get? h1.objs.size=some (seqObj "list" vs.toArray 0):=z16 _ rfl;show wpAny _ _ _ _ _ {s with heap:=h1.push (seqObj "list" vs.toArray 0),toks:=tk};have J:∀ b o,s.heap.get? b=some o ->(h1.push (seqObj "list" vs.toArray 0)).get? b=some o:=λ b o e=>z0k _ (keep b o e);refine z3w (z38 (z2d slot_list_sort ⟨_,L,zr⟩ entry_list_sort (Tim.qeq L Z (hk _ _ _ ?_ hsz J) λ out so=>⟨_,zr,?_⟩) (args_list_sort _)))
 ·show A.units+2<=A.units+4;omega
 ·have Y:∀ b o,s.heap.get? b=some o ->b≠h1.objs.size:=λ b o e=>z3i (z1i (z3h e) hsz);have u1:=z15 (h1.push (seqObj "list" vs.toArray 0)) h1.objs.size (Obj.mapSeq λ _=>(#[]:Array Value));obtain ⟨e1,g1⟩:∃ e1,((h1.push (seqObj "list" vs.toArray 0)).update h1.objs.size (Obj.mapSeq λ _=>(#[]:Array Value))).get? h1.objs.size=some (seqObj "list" #[] e1):=⟨_,get?_update_seq L λ _=>#[]⟩;have g2:=z0k (seqObj "list" #[] 0) (z0k (seqObj "tuple" vs.toArray 0) g1);have g3:=get?_update_seq g2 λ _=>out;have u4:=z15 (((((h1.push (seqObj "list" vs.toArray 0)).update h1.objs.size (Obj.mapSeq λ _=>(#[]:Array Value))).push (seqObj "tuple" vs.toArray 0)).push (seqObj "list" #[] 0))) h1.objs.size (Obj.mapSeq λ _=>out);refine z3v ⟨_,zr,h out h1.objs.size _ _ tk so (λ b o e=> ?_) hsz g3⟩;refine (u4.2 b (Y b o e)).trans (z0k _ (z0k _ ((u1.2 b (Y b o e)).trans (J b o e))))
end
end L2
namespace Tim
section
variable {α:Type}
def srt (lt:α ->α ->Bool) (l:List α):List α:=l.mergeSort λ a b=> !lt b a
theorem q19 (lt:α ->α ->Bool) (l:List α):(srt lt l).Perm l:=List.mergeSort_perm _ _
theorem qde {lt:α ->α ->Bool} (h:STO lt) (l:List α):(srt lt l).Pairwise λ a b=>lt b a=false:=by
 have:=List.pairwise_mergeSort (le:=λ a b=> !lt b a) (λ a b c h1 h2=>by
  cases e:lt c a with
  | false=>rfl
  | true=>
   rcases h.nt b e with q | q
   ·rw [q] at h2;cases h2
   ·rw [q] at h1;cases h1) (λ a b=>by
  cases e:lt b a with
  | false=>rfl
  | true=>
   rw [h.asym e];rfl) l
 exact List.Pairwise.imp (λ {a b} (z:(!lt b a)=true)=>by simpa using z) this
theorem q8v {lt:α ->α ->Bool} (h:STO lt) {l k:List α} (p:k.Perm l) (a:k.Pairwise λ a b=>lt b a=false):k=srt lt l:=h.uniq (p.trans (q19 lt l).symm) a (qde h l)
end
section
open PySem
theorem q4t {α:Type} {lt:α ->α ->Bool} (h:STO lt) (J:Value ->α) {vs out:List Value} (L:Sorted (λ v=>rank lt (vs.map J) (J v)) vs out):out.map J=srt lt (vs.map J):=by
 refine q8v h (L.perm.map J) ?_;rw [List.pairwise_map];refine List.Pairwise.imp_of_mem (λ {x y} hx hy hr=> ?_) L.asc;have mx:J x∈vs.map J:=z3n.mpr ⟨x,L.perm.mem_iff.mp hx,rfl⟩;have my:J y∈vs.map J:=z3n.mpr ⟨y,L.perm.mem_iff.mp hy,rfl⟩;rw [qiv (λ a _=>h.irr a) (λ a _ b _ c _=>h.tr a b c) (λ a _ b _ c _ z=>h.nt b z) my mx];exact z2k (by omega)
theorem qb6 {α:Type} {lt:α ->α ->Bool} (h:STO lt) (J:Value ->α) {vs:List Value} {x y:Value} (hx:x∈vs) (hy:y∈vs):lt (J x) (J y)=decide (rank lt (vs.map J) (J x) < rank lt (vs.map J) (J y)):=
 qiv (λ a _=>h.irr a) (λ a _ b _ c _=>h.tr a b c) (λ a _ b _ c _ z=>h.nt b z) (z3n.mpr ⟨x,hx,rfl⟩) (z3n.mpr ⟨y,hy,rfl⟩)
end
end Tim
namespace L2
open PySem PySem.Spec PyProof.Rows PySem.W
def strLt (x y:Str):Bool:=decide (x.cps.toList < y.cps.toList)
theorem q34:Tim.STO strLt:=by
 have h:=(Tim.qr3.lex).map (λ z:Str=>z.cps.toList) (λ a b e=>by
  cases a
  cases b
  congr
  exact Array.toList_inj.mp e)
 have e:strLt=λ a b:Str=>Tim.lexB (λ x y:Nat=>decide (x < y)) a.cps.toList b.cps.toList:=by
  funext a b
  exact Tim.qd3 _ _
 rw [e];exact h
def q1z (a b:List Str):Bool:=Tim.lexB strLt a b
theorem qb7:Tim.STO q1z:=q34.lex
def sOf:Value ->Str
 | .str x _=>x
 | _=>""
theorem q5s {ws:List Str}:∀ {us:List Value},Vals (ws.map V.str) us ->us.map sOf=ws/\(∀ u∈us,∃ x t,u= .str x t)/\StrsAre us ws:=by
 induction ws with
 | nil=>
  intro us r;cases r
  exact ⟨rfl,(λ _ z=>nomatch z),.nil⟩
 | cons x ws ih=>
  intro us r;cases r with
  | cons r1 rr=>
   obtain ⟨t,rfl⟩:=r1;obtain ⟨a,b,c⟩:=ih rr;refine ⟨by rw [z35,a];rfl,λ u J=> ?_,.cons x t c⟩;rcases z37.mp J with rfl | J
   ·exact ⟨x,t,zr⟩
   ·exact b u J
theorem q5t:∀ {us:List Value},(∀ u∈us,∃ x t,u= .str x t) ->Vals ((us.map sOf).map V.str) us
 | [],_=> .nil
 | u::us,h=>by
  obtain ⟨x,t,rfl⟩:=h u (z1g ..);exact .cons ⟨t,zr⟩ (q5t λ v hv=>h v (z10 _ hv))
section
variable {prog:Program} {w:World} {A:Around} {s:Shared} {a:Addr}
theorem qe7 {ws:List Str} {vs:List Value} (r:Vals (ws.map V.str) vs):Tim.Keys prog w A s a vs (λ v=>Tim.rank strLt (vs.map sOf) (sOf v)):=by
 intro h2 s' _;obtain ⟨e1,e2,e3⟩:=q5s r;refine ⟨oneType',λ E Q q=> ?_,λ x hx y hy E Q q=> ?_⟩
 ·match vs,h2,e3 with
  | v1::v2::vr,_,e3=>
   rw [keyKind_strs e3];exact z3v q
 ·rw [<- Tim.qb6 q34 sOf hx hy] at q;obtain ⟨x',t,rfl⟩:=e2 x hx;obtain ⟨y',u,rfl⟩:=e2 y hy;rw [keyLt'_oneType];exact oneLt_str q
end
section
variable {X:Cx}
theorem Inv.q6h {pins:List (Addr×Obj)} {σ:St} {H:Hp} {s:Shared} {xs:List V} {out:Array Value} {l:Addr} {n tk:Nat} {h':Heap} {Q:VK} (I:Inv X pins σ H s) (rv:Vals xs out.toList) (hz:xs.length<=sizeLine)
  (keep:∀ b o,s.heap.get? b=some o ->h'.get? b=some o) (hl:s.heap.objs.size<=l) (hg:h'.get? l=some (seqObj "list" out n)) (q:Q (.ref l) (upd H l (.lst xs))):EP X pins σ Q (.ref l) {s with heap:=h',toks:=tk}:=by
 refine ⟨.ref l,_,I.laid (a:=l) (o:= .lst xs) (t':=tk) keep hl ⟨hz,out.toList,n,rv,?_⟩,zr,q⟩;rw [Array.toArray_toList];exact hg
theorem qgf (K:PySem.W.Frag) (hK:X.K=K:=by rfl):q23 X (.builtin "sorted") (λ xs H Q=>∃ p ws,xs=[.ref p]/\(SqL K H p (ws.map V.str)\/ SqT K H p (ws.map V.str))/\∀ l,H l=none ->Q (.ref l) (upd H l (.lst ((Tim.srt strLt ws).map V.str)))):=by
 subst hK;intro pins s σ H xs us Q I r h;obtain ⟨p,ws,rfl,L,q⟩:=h;obtain ⟨u,rfl,ru⟩:=q2y r;cases ru
 obtain ⟨T,o,its,n,hT,ho,hc,hd,rv,Z⟩:∃ (T:String) (o:Obj) (its:List Value) (n:Nat),(T="list"\/ T="tuple")/\s.heap.get? p=some o/\o.cls= .type T/\o.data= .seq its.toArray n/\Vals (ws.map V.str) its/\(ws.map V.str).length<=sizeLine:=by
  rcases L with L | L
  ·obtain ⟨its,rv,⟨o,n,e,c,_,d⟩,z⟩:=I.list L;exact ⟨"list",o,its,n,.inl rfl,e,c,d,rv,z⟩
  ·obtain ⟨its,rv,⟨o,e,c,n,d⟩,z⟩:=I.tuple L;exact ⟨"tuple",o,its,n,.inr rfl,e,c,d,rv,z⟩
 have hl:its.length<=sizeLine:=by rw [<- rv.length];exact Z
 obtain ⟨e1,e2,_⟩:=q5s rv;refine qc7 (vs:=its) (rk:=λ v=>Tim.rank strLt (its.map sOf) (sOf v)) hl (λ A' E' R _ k=>qc6 hT ho hc hd (by rw [z1t];exact hl) (by rw [z1a];exact k)) (λ A' s' a _ _ _=>qe7 rv) λ out l n h' tk so keep J hg=> ?_;have Y:∀ u∈out.toList,∃ x t,u= .str x t:=λ u hu=>e2 u (so.perm.mem_iff.mp hu);have ed:=Tim.q4t q34 sOf so;rw [e1] at ed;have O:=q5t Y;rw [ed] at O;exact I.q6h O (by rw [z2o,(Tim.q19 strLt ws).length_eq];rw [z2o] at Z;exact Z) keep J hg (q l (I.hok.fresh J))
end
def TupAt (h:Heap) (v:Value) (p:List Str):Prop:=∃ (b:Addr) (o:Obj) (its:Array Value) (n:Nat),v= .ref b/\h.get? b=some o/\o.cls= .type "tuple"/\o.data= .seq its n/\Vals (p.map V.str) its.toList
section
variable {prog:Program} {w:World} {A:Around} {E:Value ->Shared ->Prop} {s:Shared} {a:Addr}
theorem qgg (x y:Str) (t u:Tok):SeqAt.EqAt A s (.str x t) (.str y u) (decide (x=y)):=λ prog w E Q h=>wpAny_eqBool_str h
theorem qaf (x y:Str) (p q:List Str):q1z (x::p) (y::q)=if x=y then q1z p q else strLt x y:=rfl
theorem q7j:∀ (p q:List Str) (us vs:List Value),Vals (p.map V.str) us ->Vals (q.map V.str) vs ->LexAt A s us vs (q1z p q)
 | [],[],_,_,r1,r2=>by cases r1;cases r2;exact .nn
 | [],_::_,_,_,r1,r2=>by cases r1;cases r2;exact .nc
 | _::_,[],_,_,r1,r2=>by cases r1;cases r2;exact .cn
 | x::p,y::q,_,_,r1,r2=>by
  cases r1 with
  | cons a1 r1=>
   cases r2 with
   | cons a2 r2=>
    obtain ⟨t,rfl⟩:=a1;obtain ⟨u,rfl⟩:=a2;have J:=qgg (A:=A) (s:=s) x y t u;rw [qaf];by_cases h:x=y
    ·rw [if_pos h];rw [z2y h] at J;exact .eq J (q7j p q _ _ r1 r2)
    ·rw [if_neg h];rw [z2k h] at J;exact .lt J λ prog w E Q k=>(lt_str k:wpAny (model prog w) A (compareOp .Lt _ _) Q E s)
theorem qc8 (c:Bool) (x y:Str) (t u:Tok) {Q:Bool ->Shared ->Prop} (h:Q (strLt x y) s):wpAny (model prog w) A (oneLt' c (.str x t) (.str y u)) Q E s:=by
 cases c with
 | true=>exact oneLt_str h
 | false=>exact kat_one _ _ (lt_str h)
theorem qag {c fin:Bool} {Q:Bool ->Shared ->Prop}:∀ (p q:List Str) (us vs:List Value) (i:Nat),Vals (p.map V.str) us ->Vals (q.map V.str) vs ->fin=decide (us.length < vs.length) ->Q (q1z p q) s ->KatLex prog w A c fin Q (us.zip vs) i s
 | [],[],_,_,i,r1,r2,J,h=>by
  cases r1
  cases r2
  rw [List.zip_nil_left,J];exact h
 | [],_::_,_,_,i,r1,r2,J,h=>by
  cases r1
  cases r2
  rw [List.zip_nil_left,J];refine kat_nil ?_;rw [z2y (by simp)];exact h
 | _::_,[],_,_,i,r1,r2,J,h=>by
  cases r1
  cases r2
  rw [List.zip_nil_right,J];refine kat_nil ?_;rw [z2k (by simp)];exact h
 | x::p,y::q,_,_,i,r1,r2,J,h=>by
  cases r1 with
  | cons a1 r1=>
   cases r2 with
   | cons a2 r2=>
    obtain ⟨t,rfl⟩:=a1;obtain ⟨u,rfl⟩:=a2;rw [z1k];rw [qaf] at h;refine kat_cons (qgg x y t u prog w _ _ ?_);by_cases e:x=y
    ·rw [if_pos e] at h;rw [z2y e];exact kat_yes (qag p q _ _ (i+1) r1 r2 (by rw [J];simp) h)
    ·rw [if_neg e] at h;rw [z2k e];exact kat_no (qc8 _ x y t u h)
theorem qki {x y:Value} {p q:List Str} (hx:TupAt s.heap x p) (hy:TupAt s.heap y q) (c:Bool):Tim.KLt prog w A s (tuples' c) x y (q1z p q):=by
 obtain ⟨b,o,its,n,rfl,e1,_,d1,r1⟩:=hx;obtain ⟨b',o',its',n',rfl,e2,_,d2,r2⟩:=hy;intro E Q k;exact kat_lt e1 d1 e2 d2 (qag p q _ _ 0 r1 r2 (by rw [z13,z13]) k)
theorem qru {x y:Value} {p q:List Str} (hx:TupAt s.heap x p) (hy:TupAt s.heap y q) (hu:A.units < cLine):LtAt A s x y (q1z p q):=by
 obtain ⟨b,o,its,n,rfl,e1,c1,d1,r1⟩:=hx;obtain ⟨b',o',its',n',rfl,e2,c2,d2,r2⟩:=hy;exact qgd ⟨o,e1,c1,n,d1⟩ ⟨o',e2,c2,n',d2⟩ (q7j p q _ _ r1 r2) hu
theorem qi2 {x y:Value} {p q:List Str} (hx:TupAt s.heap x p) (hy:TupAt s.heap y q) (hu:A.units < cLine):Tim.KLt prog w A s general' x y (q1z p q):=by
 intro E Q k;exact kat_one x y (qru hx hy hu prog w E _ k)
theorem qrv {x y:Value} {p q:List Str} (hx:TupAt s.heap x p) (hy:TupAt s.heap y q) (hu:A.units < cLine):Tim.KLt prog w A s oneType' x y (q1z p q):=by
 obtain ⟨b,⟨cls,dd,data,sl⟩,its,n,rfl,e1,Y,d1,r1⟩:=hx;obtain ⟨b',⟨Z,L,J,O⟩,its',n',rfl,e2,c2,d2,r2⟩:=hy;simp only at Y d1 c2 d2;subst Y d1 c2 d2;intro E Q k;rw [keyLt'_oneType,oneLt'_eq];simp only [if_true];refine z3w (wpAny_cRoomFor hu ?_);refine z3w (wpAny_callSpecialIfBound?_slot ⟨_,e1,zr⟩ PySem.F.slot_tuple_lt (call_meets PySem.F.slot_tuple_lt ⟨_,e1,zr⟩ PySem.F.entry_tuple_lt (PySem.F.args_tuple_lt_2 _ _) (q8u b b' its its' n n' dd L sl O (q1z p q)) ⟨e1,e2,q7j p q _ _ r1 r2,?_⟩));exact z1u k
theorem TupAt.keep {h h':Heap} {v:Value} {p:List Str} (x:TupAt h v p) (k:∀ b o,v= .ref b ->h.get? b=some o ->h'.get? b=some o):TupAt h' v p:=
 let ⟨b,o,its,n,e,g,r⟩:=x
 ⟨b,o,its,n,e,k b o e g,r⟩
theorem qah:∀ (vs:List Value) (ps:List (List Str)),Paired (TupAt s.heap) vs ps ->∃ fs:List (Option Value),(∀ (M:Model) (A:Around) (E:Value ->Shared ->Prop) (Q:List (Option Value) ->Shared ->Prop),Q fs s ->wpAny M A (vs.mapM firstOfTuple') Q E s)/\fs.length=vs.length/\
  ∀ f∈fs,∀ v,f=some v ->∃ x t,v= .str x t
 | [],[],_=>⟨[],λ M A E Q q=>by rw [List.mapM_nil];exact z3v q,rfl,λ _ z=>nomatch z⟩
 | v::vs,p::ps,.cons h hr=>by
  obtain ⟨fs,g1,g2,g3⟩:=qah vs ps hr;obtain ⟨b,o,its,n,rfl,ho,hc,hd,r⟩:=h;refine ⟨its[0]? ::fs,λ M A E Q q=> ?_,by rw [z27,g2,z27],λ f J v e=> ?_⟩
  ·rw [List.mapM_cons];refine z3w ?_;rw [kas_first_eq];refine z3w (Looks.here (show Looks M s.heap (typeOf (.ref b)) o.cls from (Looks.ld ho).andThen .now) ?_);rw [hc,if_neg (by decide)];refine z3w (listItems_at ho hd (z3v ?_));exact z3w (g1 M A E (λ bs s'=>wpAny M A (pure (its[0]? ::bs)) Q E s') (z3v q))
  ·rcases z37.mp J with rfl | J
   ·obtain ⟨_,h2,_⟩:=q5s r;exact h2 v (by rw [<- z0t] at e;exact z12 e)
   ·exact g3 f J v e
theorem q6i:∀ (vs:List Value),(∀ v∈vs,∃ x t,v= .str x t) ->vs.mapM typeOf=pure (vs.map λ _=>Value.type "str")
 | [],_=>by simp
 | v::vs,h=>by
  obtain ⟨x,t,rfl⟩:=h v (z1g ..);rw [List.mapM_cons,q6i vs λ u hu=>h u (z10 _ hu)];show (pure (Value.type "str") >>=λ b=>pure _ >>=λ bs=>pure (b::bs))=_;simp
theorem qmo {vs:List Value} {ps:List (List Str)} (h:Paired (TupAt s.heap) vs ps) (h2:2<=vs.length):∃ kd:SortKind,(kd=tuples' true\/ kd=general'\/ kd=oneType')/\∀ (M:Model) (A:Around) (E:Value ->Shared ->Prop) (Q:SortKind ->Shared ->Prop),Q kd s ->wpAny M A (keyKind' vs.toArray) Q E s:=by
 obtain ⟨fs,Z,g2,g3⟩:=qah vs ps h;by_cases J:(fs.toArray.all λ x=>x.isSome)=true
 ·refine ⟨tuples' true,.inl rfl,λ M A E Q q=> ?_⟩;rw [kat_kind_eq,z21,map_eq_pure_bind];refine z3w (z3w (Z M A E _ (z3v ?_)));rw [if_pos J];refine z3w (z3u ?_);obtain ⟨f1,fr,e⟩:∃ f1 fr,fs=f1::fr:=by
   cases e:fs with
   | nil=>rw [e] at g2;simp at g2;omega
   | cons f1 fr=>exact ⟨f1,fr,rfl⟩
  have hs:∀ v∈fs.filterMap id,∃ x t,v= .str x t:=λ v O=>by
   obtain ⟨f,Y,e⟩:=List.mem_filterMap.mp O;exact g3 f Y v e
  have a0:fs.toArray.filterMap id=(fs.filterMap id).toArray:=by simp
  rw [a0,oneTypeOnly'_eq,z21,q6i _ hs];simp only [map_pure,pure_bind];have h0:∃ v L,fs.filterMap id=v::L:=by
   rw [e] at J ⊢;cases f1 with
   | none=>simp at J
   | some v=>exact ⟨v,fr.filterMap id,rfl⟩
  obtain ⟨v,L,ev⟩:=h0;rw [ev];have ha:((List.map (λ _=>Value.type "str") (v::L)).toArray.all λ x=>x==Value.type "str")=true:=by
   simp only [List.all_toArray,z3o,z2c];intro _ _;rfl
  have hz:(List.map (λ _=>Value.type "str") (v::L)).toArray[0]? =some (Value.type "str"):=by simp
  rw [hz];simp only [ha,if_true,pure_bind];exact z3v q
 ·by_cases Y:(fs.toArray[0]?.bind id).isSome=true
  ·refine ⟨general',.inr (.inl rfl),λ M A E Q q=> ?_⟩;rw [kat_kind_eq,z21,map_eq_pure_bind];refine z3w (z3w (Z M A E _ (z3v ?_)));rw [if_neg J,if_pos Y];exact z3v q
  ·refine ⟨oneType',.inr (.inr rfl),λ M A E Q q=> ?_⟩;rw [kat_kind_eq,z21,map_eq_pure_bind];refine z3w (z3w (Z M A E _ (z3v ?_)));rw [if_neg J,if_neg Y,oneTypeOnly'_eq,z21,map_eq_pure_bind];have a2:∀ v∈vs,Looks M s.heap (typeOf v) (.type "tuple"):=λ v O=>by
    obtain ⟨p,b,o,its,n,rfl,ho,hc,_⟩:∃ p,TupAt s.heap v p:=by
     clear Z g2 g3 J Y h2 q
     induction h with
     | nil=>cases O
     | cons a r ih=>
      rcases z37.mp O with e | O
      ·rw [e];exact ⟨_,a⟩
      ·exact ih O
    rw [<- hc];exact (Looks.ld ho).andThen .now
   refine z3w (z3w (z3w (kas_mapM (r:=Value.type "tuple") _ (λ v O Q' hq=>(a2 v O).here hq) (z3v ?_))));obtain ⟨v,L,ev⟩:∃ v L,vs=v::L:=by
    cases e:vs with
    | nil=>rw [e] at h2;simp at h2
    | cons v L=>exact ⟨v,L,rfl⟩
   rw [ev];have ha:((List.map (λ _=>Value.type "tuple") (v::L)).toArray.all λ x=>x==Value.type "tuple")=true:=by
    simp only [List.all_toArray,z3o,z2c];intro _ _;rfl
   have hz:(List.map (λ _=>Value.type "tuple") (v::L)).toArray[0]? =some (Value.type "tuple"):=by simp
   rw [hz];simp only [ha,if_true];exact z3v (z3v q)
theorem paired_mem {α β:Type} {F:α ->β ->Prop} {f:α ->β}:∀ {l:List α} {k:List β},Paired F l k ->(∀ x y,F x y ->f x=y) ->l.map f=k/\∀ x∈l,F x (f x)
 | _,_,.nil,_=>⟨rfl,λ _ z=>nomatch z⟩
 | _,_,.cons a r,h=>by
  obtain ⟨e,m⟩:=paired_mem r h;have e1:=h _ _ a;refine ⟨by rw [z35,e,e1],λ x hx=> ?_⟩;rcases z37.mp hx with rfl | hx
  ·rw [e1];exact a
  ·exact m x hx
theorem qmp {vs:List Value} {ps:List (List Str)} (J:Value ->List Str) (h:Paired (λ v p=>TupAt s.heap v p/\J v=p) vs ps) (ha:s.heap.objs.size<=a) {s1:Shared} (hk:∀ b o,s.heap.get? b=some o ->s1.heap.get? b=some o) (Z:A.units < cLine):
  Tim.Keys prog w A s1 a vs (λ v=>Tim.rank q1z (vs.map J) (J v)):=by
 intro h2 s' keep;have up:∀ v p,TupAt s.heap v p ->TupAt s'.heap v p:=λ v p x=>x.keep λ b o _ e=>keep b o (z3i (z1i (z3h e) ha)) (hk b o e);obtain ⟨_,Y⟩:=paired_mem h λ _ _ z=>z.2;obtain ⟨kd,O,L⟩:=qmo (s:=s') (Paired.mapP h λ v p z=>up v p z.1) h2;refine ⟨kd,λ E Q q=>L _ A E Q q,λ x hx y hy=> ?_⟩;rw [<- Tim.qb6 qb7 J hx hy];have tx:=up x _ (Y x hx).1;have ty:=up y _ (Y y hy).1;rcases O with rfl | rfl | rfl
 ·exact qki tx ty true
 ·exact qi2 tx ty Z
 ·exact qrv tx ty Z
end
theorem qdf (p:List Str):(p.map (Sum.inr:Str ->Key)).map kV=p.map V.str:=by
 rw [z3p];rfl
def decT (H:Hp):Value ->List Str
 | .ref a=>match H a with
  | some (.tup xs)=>xs.map λ x=>match x with | .str z=>z | _=>""
  | _=>[]
 | _=>[]
theorem qjc {H:Hp} {a:Addr} {p:List Str} (h:H a=some (.tup (p.map V.str))):decT H (.ref a)=p:=by
 simp only [decT,h];rw [z3p];exact (z19 λ _ _=>rfl).trans (List.map_id p)
section
variable {X:Cx}
def qqo (H:Hp) (vs:List Value) (ps:List (List Str)):Prop:=Paired (λ v p=>∃ b,v=Value.ref b/\H b=some (.tup (p.map V.str))) vs ps
theorem qgh (hu:X.A.units+64 < cLine) (hc:X.calm=true) (K:PySem.W.Frag) (hK:X.K=K:=by rfl):q23 X (.builtin "sorted") (λ xs H Q=>∃ (d:Addr) (kvs:List (List Str×V)),xs=[.ref d]/\H d=some (.dT (kvs.map λ kv=>(kv.1.map Sum.inr,kv.2)))/\
  ∀ l zs,H l=none ->Paired (λ x p=>∃ b,x=V.ref b/\H b=some (.tup (p.map V.str))) zs (Tim.srt q1z (kvs.map (·.1))) ->Q (.ref l) (upd H l (.lst zs))):=by
 subst hK;intro pins s σ H xs us Q I r h;obtain ⟨d,kvs,rfl,hd,q⟩:=h;obtain ⟨u,rfl,ru⟩:=q2y r;cases ru
 obtain ⟨hz,a7,es0,L,o,es,ep,ho,hx,Y,a0,a6⟩:=I.hok d _ hd;have Z:es.size=kvs.length:=by
  rw [<- z13,a0,z2o,<- L.length,z2o]
 have J:qqo H (es.toList.map (·.key)) (kvs.map (·.1)):=by
  rw [a0,z3p];clear hz a0 Y Z ho q hd a6;unfold qqo;revert L;generalize hk:(kvs.map λ kv=>(kv.1.map (Sum.inr:Str ->Key),kv.2))=ks;intro L
  induction L generalizing kvs with
  | nil=>
   have:kvs=[]:=by simpa using hk
   subst this;exact .nil
  | cons a rr ih=>
   cases kvs with
   | nil=>simp at hk
   | cons kv kvs=>
    rw [z35,z2j] at hk;obtain ⟨rfl,hk⟩:=hk;refine .cons ⟨_,zr,?_⟩ (ih kvs hk);obtain ⟨_,a2,_⟩:=a;rw [qdf] at a2;exact a2
 have a3:∀ v p,(∃ b,v=Value.ref b/\H b=some (.tup (p.map V.str))) ->TupAt s.heap v p:=λ v p ⟨b,e,hb⟩=>by
  obtain ⟨_,its,rv,o,e1,c,n,dd⟩:=I.hok b _ hb;exact ⟨b,o,its.toArray,n,e,e1,c,dd,by rw [z1a];exact rv⟩
 have O:Paired (λ v p=>TupAt s.heap v p/\decT H v=p) (es.toList.map (·.key)) (kvs.map (·.1)):=Paired.mapP J λ v p z=>⟨a3 v p z,by
  obtain ⟨b,rfl,hb⟩:=z;exact qjc hb⟩
 have ev:(es.toList.map (·.key)).map (decT H)=kvs.map (·.1):=(paired_mem O λ _ _ z=>z.2).1;have mem:∀ v∈es.toList.map (·.key),∃ b,v=Value.ref b/\H b=some (.tup ((decT H v).map V.str)):=(paired_mem (f:=decT H) J λ v p ⟨b,e,hb⟩=>by
  rw [e];exact qjc hb).2
 have hl:(es.toList.map (·.key)).length<=sizeLine:=by
  rw [z2o,z13,Z];rw [z2o] at hz;exact hz
 refine qc7 (vs:=es.toList.map (·.key)) (rk:=λ v=>Tim.rank q1z ((es.toList.map (·.key)).map (decT H)) (decT H v)) hl
  (λ A' E' R hh k=>qae (hh.trans (I.ok.hd hc)) a7 ⟨o,ho,hx,Y⟩ (by rw [z2o,z13] at hl;exact hl) k)
  (λ A' s' a hu' ha keep=>qmp (s:=s) (decT H) O ha keep (by omega)) λ out l n h' tk so keep a5 hg=> ?_
 have ed:=Tim.q4t qb7 (decT H) so;rw [ev] at ed;have mo:∀ v∈out.toList,∃ b,v=Value.ref b/\H b=some (.tup ((decT H v).map V.str)):=λ v hv=>mem v (so.perm.mem_iff.mp hv);obtain ⟨zs,rv,hp⟩:∃ zs:List V,Vals zs out.toList/\Paired (λ x p=>∃ b,x=V.ref b/\H b=some (.tup (p.map V.str))) zs (out.toList.map (decT H)):=by
  revert mo;generalize out.toList=os;intro mo
  induction os with
  | nil=>exact ⟨[],.nil,.nil⟩
  | cons v os ih=>
   obtain ⟨zs,r1,r2⟩:=ih λ u hu=>mo u (z10 _ hu);obtain ⟨b,e,hb⟩:=mo v (z1g ..);exact ⟨.ref b::zs,.cons e r1,.cons ⟨b,zr,hb⟩ r2⟩
 rw [ed] at hp;refine I.q6h rv ?_ keep a5 hg (q l zs (I.hok.fresh a5) hp);rw [rv.length,so.perm.length_eq];exact hl
end
end L2
namespace L2
open PySem PySem.Spec PyProof.Rows
section
variable {X:Cx}
theorem qdg (K:PySem.W.Frag) {es:List Expr} {k:Nat} {t:TGs} {n:Nat} {pos:Pos} (hc:X.calm=true) (h:PGs X es t) (hK:X.K=K:=by rfl)
  (hn:(assignEach es X.env).length=n:=by rfl) (J:(assignEach es X.env).findIdx? (·.1)=none:=by rfl):PG X (.Tuple es k pos) (gTup K n t):=by
 subst hK;exact q51 hc h hn J
end
section
variable {X:Cx} {e:Expr} {lo hi:Option Expr} {se:Expr} {te:TE} {tl th ts:TO} {p2 pos:Pos}
end
section
variable {X:Cx}
end
theorem qmq (bs:List Bool):(List.range bs.length).any (λ i=>(bs[i]?).getD true)=bs.any id:=by
 rw [z2n,z2e,z2e]
 constructor
 ·rintro ⟨i,hi,h⟩;have J:=z2z.mp hi;rw [z0c J] at h;exact ⟨_,z29 J,h⟩
 ·rintro ⟨b,hb,h⟩;obtain ⟨i,hi,e⟩:=z0w.mp hb;refine ⟨i,z2z.mpr hi,?_⟩;rw [z0c hi,e];exact h
section
variable {X:Cx}
theorem qmr (hc:X.calm=true) (K:PySem.W.Frag) (hK:X.K=K:=by rfl):q23 X (.builtin "any") (λ xs H Q=>∃ (p:Addr) (bs:List Bool),xs=[.ref p]/\SqL K H p (bs.map V.bl)/\Q (.bl (bs.any id)) H):=by
 subst hK;intro pins s σ H xs us Q I r h;obtain ⟨p,bs,rfl,hp,q⟩:=h;obtain ⟨u,rfl,ru⟩:=q2y r;cases ru
 obtain ⟨its,rv,pl,hz⟩:=I.list hp;have hl:its.toArray.size=bs.length:=by
  have:=rv.length;rw [z2o] at this;rw [z1t];exact this.symm
 have hh:X.A.in1.handled=none:=I.ok.hd hc;have L:p≠s.heap.objs.size:=λ e=>by
  obtain ⟨o,n,e1,_⟩:=pl;exact absurd (z3h e1) (by rw [e];exact z39 _)
 refine call_any_walk (z1v pl.isList ?_);refine ⟨s.heap.objs.size,_,_,_,_,_,λ i=>(bs[i]?).getD true,zr,Walks.list hh _ p L its.toArray,⟨⟨_,z16 _ rfl,zr,zr⟩,pl.isList.at λ o e=>z0k _ e⟩,?_,λ h' tk kk=> ?_⟩
 ·intro i v s' Q' E' hv hq;have O:its[i]? =some v:=by simpa using hv
  obtain ⟨b,e,rfl⟩:=qj6 rv O;have J:Q' ((bs[i]?).getD true) s':=hq;rw [e] at J;exact z1u J
 ·rw [hl,qmq];exact ⟨.bl _,H,I.kept λ b o e=>kk b o (by simp;exact z3i (z3h e)) (z0k _ e),rfl,q⟩
end
section
variable {prog:Program} {w:World} {A:Around} {R:Result ->Shared ->Prop} {I:Addr} {fp wr:List Addr} {n:Nat} {P:Nat ->Value ->Prop} {St:Nat ->Heap ->Prop}
end
section
variable {X:Cx} {e d:Expr} {t tk:TA} {p pos kpos:Pos}
end
theorem qe8:entryFor table "dict.update.loop"=some Builtin.«dict.update.loop»:=entryFor_of_tree (by kernel_rfl)
theorem q69:plainId "dict.update.loop"=true:=by decide+kernel
theorem qdh:typeLookup (.type "list") "keys"=pure none:=by rw [typeLookup_type,builtinLookup_eq_fast];kernel_rfl
section
variable {prog:Program} {w:World} {A:Around} {E:Value ->Shared ->Prop} {s:Shared}
theorem qrw {a:Addr} {o:Obj} {xs:Array Value} {k:Nat} {Q:Option Value ->Shared ->Prop} (hx:s.heap.get? a=some o) (Z:o.cls= .type "list") (J:o.data= .seq xs k) (hd:o.dict=none) (hA:A.handled=none)
  (h:∀ h' tk,(∀ b o,s.heap.get? b=some o ->h'.get? b=some o) ->Q none {s with heap:=h',toks:=tk}):wpAny (model prog w) A (getAttr? (.ref a) "keys") Q E s:=by
 obtain ⟨c,dct,dat,sl⟩:=o;simp only at Z J hd;subst Z J hd;obtain ⟨hp,g,d,tk,os⟩:=s;have Y:∀ L,(⟨hp,g,d,L,os⟩:Shared).TypeIs (.ref a) "list":=λ _=>⟨_,hx,rfl⟩;have f1:=sub_AttributeError;have f3:=PySem.F.slot_list_getattribute.lookup;have f4:=PySem.F.slot_list_getattribute.bind (.ref a);have f5:=am_list_getattr_none;unfold getAttr? getAttrBy? getAttrBy
 repeat (any_goals (first | assumption | exact Y _ | ((with_reducible show wpAny _ _ (call (Value.builtin "list.__getattribute__") _ _) _ _ _);refine call_meets PySem.F.slot_list_getattribute (Y _) am_entry_list_getattribute (PySem.F.args_list_getattribute_2 _ _) (meets_getattribute_miss_list a xs k sl "keys" _ qdh (by decide+kernel) (by show 4+100<=sizeLine;decide)) ⟨hx,hA,λ h' L e O=> ?_⟩) | wp_step))
 obtain ⟨t',u',he⟩:=O.there;show wpAny _ _ (getattributeRaised _ _ _ _ _ _ _) _ _ _;unfold getattributeRaised
 repeat (any_goals (first | assumption | wp_step))
 exact h h' L O.of.keeps
end
def qc9 (f:Nat ->Str×Value):Nat ->Nat ->List (Key×Value) ->List (Key×Value)
 | 0,_,kvs=>kvs
 | k+1,i,kvs=>qc9 f k (i+1) (stored kvs (Sum.inr (f i).1) (f i).2)
theorem qkj {kvs:List (Key×Value)} {k:Key} {v:Value}:(stored kvs k v).length<=kvs.length+1:=by
 unfold stored;split
 ·rw [z2o];omega
 ·rw [z1f];exact z3q _
section
variable {prog:Program} {w:World} {A:Around} {R:Result ->Shared ->Prop} {I:Addr} {fp wr:List Addr} {n:Nat} {P:Nat ->Value ->Prop} {St:Nat ->Heap ->Prop}
theorem qgi {h0:Heap} (W:Walks prog w A.in1 I fp wr n P St) (d:Addr) (L:d∉fp) (a0:h0.get? d=none) (Z:∀ b∈wr,h0.get? b=none) (hn:n<=sizeLine) (f:Nat ->Str×Value) (hf:∀ i v,P i v ->∃ q t,v= .ref q/\IsTup h0 q #[.str (f i).1 t,(f i).2]):
  ∀ (k i:Nat) (s:Shared) (kvs:List (Key×Value)) (j:Int) (ti:Tok),i+k=n ->St i s.heap ->s.heap.DictOf (qo prog w) d kvs ->kvs.length<=i ->(∀ b o,h0.get? b=some o ->s.heap.get? b=some o) ->
  (∀ h' tk,h'.DictOf (qo prog w) d (qc9 f k i kvs) ->(∀ b o,h0.get? b=some o ->h'.get? b=some o) ->R (.ok (.ret .none)) {s with heap:=h',toks:=tk}) ->
  codeAny (model prog w) A (.builtin "dict.update.loop" ⟨[.ref d,.ref I,.int j ti,.none],[]⟩) R s
 | 0,i,s,kvs,j,ti,hk,Y,hm,hl,kp,hR=>by
  have hi:i=n:=by omega
  subst hi;have O:d∉wr:=λ h=>L (W.sub _ h);refine z2w qe8 ?_;rw [Around.under_plainId q69 _];refine z3w (m:=pyNext (.ref I)) (W.done s _ _ Y λ h' tk J=> ?_);show wpAny _ _ (Builtin.Dict.addKeywords d [] >>=λ _=>ret .none) _ _ _;obtain ⟨o,es,ep,ho,r⟩:=hm;exact z3w (z3v (z3v (hR h' tk ⟨o,es,ep,J d o O ho,r⟩ λ b o e=>J b o (λ hb=>by rw [Z b hb] at e;cases e) (kp b o e))))
 | k+1,i,s,kvs,j,ti,hk,Y,hm,hl,kp,hR=>by
  have a8:i < n:=by omega
  have O:d∉wr:=λ h=>L (W.sub _ h);refine z2w qe8 ?_;rw [Around.under_plainId q69 _];refine z3w (m:=pyNext (.ref I)) (W.item i s _ _ a8 Y λ v h' tk hP a5 J=> ?_);obtain ⟨q,t,rfl,oq,hq,hc,nq,a7⟩:=hf i v hP;have a6:∀ b o,h0.get? b=some o ->h'.get? b=some o:=λ b o e=>J b o (λ hb=>by rw [Z b hb] at e;cases e) (kp b o e);have a9:h'.DictOf (qo prog w) d kvs:=by
   obtain ⟨o,es,ep,ho,r⟩:=hm;exact ⟨o,es,ep,J d o O ho,r⟩
  have a2:=a6 q _ hq;refine z3w (z38 (z3w (wpAny_tryCatch ?_)));unfold Builtin.Dict.pairItems;refine z3w (wpAny_typeOf (T:="tuple") ⟨oq,a2,hc⟩ ?_);rw [if_pos (by decide)];refine z3w (wpAny_seqItems a2 a7 (z3v ?_));show wpAny _ _ (holding [.str (f i).1 t,(f i).2] (dictSet d (.str (f i).1 t) (f i).2)) _ _ _;refine z38 (wpAny_dictSet_pairs (knd:=qo prog w) (k:=Sum.inr (f i).1) (qa8 _ _ _ _) a9 (λ h2 b0 a3=> ?_) (by omega));have b2:∀ b o,h0.get? b=some o ->h2.get? b=some o:=λ b o e=>(a3.2 b (λ z=>by rw [z,a0] at e;cases e)).trans (a6 b o e);refine z3v ⟨plainId_quiet q69 _,qgi W d L a0 Z hn f hf k (i+1) _ _ (j+1) _ (by omega) (W.frame _ _ _ a5 λ b hb o e=>(a3.2 b (λ z=>L (z ▸ hb))).trans e) b0 (z3j qkj (z2f hl)) b2 λ h3 b4 b1 b3=> ?_⟩;exact hR h3 b4 b1 b3
end
def q3r (ps:List (Str×V)) (m:List (Key×V)):List (Key×V):=ps.foldl (λ m kv=>putK m (Sum.inr kv.1) kv.2) m
theorem qe9:∀ (ps:List (Str×V)) (m:List (Key×V)),(q3r ps m).length<=m.length+ps.length
 | [],m=>z3q _
 | p::ps,m=>by
  have h:(putK m (Sum.inr p.1) p.2).length<=m.length+1:=by
   unfold putK;split
   ·rw [z2o];omega
   ·rw [z1f];exact z3q _
  have:=qe9 ps (putK m (Sum.inr p.1) p.2);show (q3r ps (putK m (Sum.inr p.1) p.2)).length<=m.length+(ps.length+1);omega
def PRel (p:Str×V) (q:Str×Value):Prop:=p.1=q.1/\RelV p.2 q.2
theorem qjd:∀ {ps:List (Str×V)} {us:List (Str×Value)} (_:Paired PRel ps us) (i:Nat) (hi:i < ps.length),PRel ps[i] (us.getD i ("",.none))
 | _,_,.nil,i,hi=>absurd hi (Nat.not_lt_zero _)
 | _,_,.cons a b,0,hi=>a
 | _,_,.cons a b,i+1,hi=>qjd b i (Nat.lt_of_succ_lt_succ hi)
theorem qca {ps:List (Str×V)} {us:List (Str×Value)} (r:Paired PRel ps us):∀ (k i:Nat) (m:List (Key×V)) (vs:List (Key×Value)),i+k=us.length ->KV m vs ->KV (q3r (ps.drop i) m) (qc9 (λ i=>us.getD i ("",.none)) k i vs)
 | 0,i,m,vs,h,J=>by
  have hl:=Paired.length r;rw [List.drop_eq_nil_of_le (by omega)];exact J
 | k+1,i,m,vs,h,J=>by
  have hl:=Paired.length r;have hi:i < ps.length:=by omega
  rw [z08 hi];show KV (q3r (ps.drop (i+1)) (putK m (Sum.inr ps[i].1) ps[i].2)) (qc9 _ k (i+1) (stored vs (Sum.inr (us.getD i ("",.none)).1) (us.getD i ("",.none)).2));have L:=qjd r i hi;rw [<- L.1];exact qca r k (i+1) _ _ (by omega) (J.put _ L.2)
section
variable {X:Cx}
def qkk (K:PySem.W.Frag) (H:Hp) (y:V) (kv:Str×V):Prop:=∃ q,y=V.ref q/\SqT K H q [.str kv.1,kv.2]
theorem qms {pins:List (Addr×Obj)} {σ:St} {H:Hp} {s:Shared} (I:Inv X pins σ H s) {ys:List V} {ps:List (Str×V)} (h:Paired (qkk X.K H) ys ps):∀ {its:List Value},Vals ys its ->∃ us:List (Str×Value),Paired PRel ps us/\∀ i v,its[i]? =some v ->∃ q t,v= .ref q/\IsTup s.heap q #[.str (us.getD i ("",.none)).1 t,(us.getD i ("",.none)).2]:=by
 induction h with
 | nil=>
  intro its r;cases r
  exact ⟨[],.nil,λ i v e=>by simp at e⟩
 | cons a b ih=>
  intro its r;cases r with
  | cons r1 rr=>
   obtain ⟨us,h1,h2⟩:=ih rr;obtain ⟨q,rfl,hq⟩:=a;cases r1
   obtain ⟨it2,rv,tp,_⟩:=I.tuple hq;cases rv with
   | cons c1 c2=>
    cases c2 with
    | cons c3 c4=>
     cases c4
     obtain ⟨t,rfl⟩:=c1;refine ⟨(_,_)::us,.cons ⟨zr,c3⟩ h1,λ i v e=> ?_⟩;cases i with
     | zero=>
      have:v=Value.ref q:=by simpa using e.symm
      subst this;exact ⟨q,t,zr,tp⟩
     | succ i=>exact h2 i v (by simpa using e)
theorem qcb (hc:X.calm=true) (K:PySem.W.Frag) (hK:X.K=K:=by rfl):q23 X (.type "dict") (λ xs H Q=>∃ (p:Addr) (ys:List V) (ps:List (Str×V)),xs=[.ref p]/\SqL K H p ys/\Paired (qkk K H) ys ps/\∀ d,H d=none ->Q (.ref d) (upd H d (.dK (q3r ps [])))):=by
 subst hK;intro pins s σ H xs vs Q I r h;obtain ⟨p,ys,ps,rfl,hp,hy,q⟩:=h;obtain ⟨u,rfl,ru⟩:=q2y r;cases ru
 obtain ⟨its,rv,⟨ol,nl,a5,O,a2,L⟩,hz⟩:=I.list hp;obtain ⟨us,a6,b3⟩:=qms I hy rv;have a7:us.length=its.length:=by rw [<- Paired.length a6,<- Paired.length hy,rv.length]
 have a3:p < s.heap.objs.size:=z3h a5;have hh:X.A.in1.in1.handled=none:=I.ok.hd hc;refine callType_codes (Q₁:=λ ob s1=>ob= .ref s.heap.objs.size/\s1={s with heap:=s.heap.push {cls:= .type "dict",data:= .dict #[]}}) PySem.F.kt_called_dict (PySem.F.kt_typeCall_dict_1 _) PySem.F.entry_dict_init (kt_code_dict_new _ ⟨rfl,rfl⟩) ?_;rintro ob s1 ⟨rfl,rfl⟩;have d0:(s.heap.push {cls:= .type "dict",data:= .dict #[]}).DictOf (qo X.prog X.w) s.heap.objs.size []:=Heap.DictOf.new s.heap;have l0:(s.heap.push {cls:= .type "dict",data:= .dict #[]}).get? p=some ol:=z0k _ a5;refine ⟨d0.typeIs,PySem.F.args_dict_init_2 _ _,?_⟩;unfold Builtin.«dict.__init__»;refine z3w ?_;unfold Builtin.Dict.selfAndRest;refine z3w (wpAny_notOrdered_dict d0.typeIs (z3v ?_));show wpAny _ _ (Builtin.Dict.updateFrom "dict.__init__" s.heap.objs.size (.ref p) [] .none) _ _ _;unfold Builtin.Dict.updateFrom;refine z3w (wpAny_typeOf (T:="list") ⟨ol,l0,O⟩ ?_);rw [if_pos (by decide)];refine z3w (qrw l0 O L a2 hh λ h1 tk1 Y=> ?_);rw [if_pos (by rfl)];refine z3w (z3u ?_);have a8:PlainL h1 p its.toArray:=⟨ol,nl,Y _ _ l0,O,a2,L⟩;obtain ⟨od,b0,b1,b2,rd⟩:=d0;have a0:=Y _ _ b2;have Z:s.heap.objs.size < h1.objs.size:=z3h a0;refine z3w (z1v a8.isList ?_);have J:∀ b,s.heap.objs.size<=b ->s.heap.get? b=none:=λ b hb=>by
  cases e:s.heap.get? b with
  | none=>rfl
  | some o=>exact absurd (z3h e) (Nat.not_lt_of_le hb)
 have hsz:us.length=its.toArray.size:=by rw [z1t];exact a7
 have W0:Walks X.prog X.w X.A.in1.in1 h1.objs.size [h1.objs.size,p] [h1.objs.size] us.length (λ i v=>its.toArray[i]? =some v) (λ i h=>h.IsListIter h1.objs.size p i/\h.IsList p its.toArray):=by
  rw [hsz];exact Walks.list hh h1.objs.size p (z3i (Nat.lt_trans a3 Z)) its.toArray
 refine z3v ⟨plainId_quiet q69 _,qgi (h0:=s.heap) (n:=us.length) (A:=X.A.in1) W0 s.heap.objs.size ?_ (J _ (z3q _)) ?_ (by rw [a7,<- rv.length];exact hz) (λ i=>us.getD i ("",.none)) ?_ us.length 0 _ [] 0 _ (z3f _) ⟨⟨_,z16 _ rfl,rfl,rfl⟩,a8.isList.at λ o e=>z0k _ e⟩ ⟨od,b0,b1,z0k _ a0,rd⟩ (z3q _) (λ b o e=>z0k _ (Y _ _ (z0k _ e))) λ h' tk hm keep=> ?_⟩
 ·intro hb;simp only [z37,z2g,or_false] at hb;rcases hb with e | e
  ·exact absurd e (z3i Z)
  ·exact absurd e.symm (z3i a3)
 ·intro b hb;rw [z1d.mp hb];exact J _ (z3g Z)
 ·intro i v hv;exact b3 i v (by simpa using hv)
 ·have a9:=qca a6 us.length 0 [] [] (z3f _) .nil;rw [List.drop_zero] at a9;refine ⟨zr,.ref s.heap.objs.size,_,I.laid (a:=s.heap.objs.size) (o:= .dK (q3r ps [])) (t':=tk) keep (z3q _) ⟨?_,beq_eq_false_iff_ne.mpr (Ne.symm (z3i I.big)),_,a9,hm⟩,zr,q _ (I.hok.fresh (z3q _))⟩;have h1:=qe9 ps [];rw [z2s,z3f] at h1;rw [<- Paired.length hy] at h1;exact z3j h1 hz
end
section
variable {X:Cx} {tg:Expr}
theorem qkl:q23 X (.type "dict") (λ xs H Q=>∃ (a:Addr) (kvs:List (Key×V)),xs=[.ref a]/\Rd H a (.dK kvs)/\∀ d,H d=none ->Q (.ref d) (upd H d (.dK kvs))):=by
 intro pins s σ H xs us Q I r h;obtain ⟨a,kvs,rfl,ha,q⟩:=h;obtain ⟨u,rfl,ru⟩:=q2y r;cases ru
 obtain ⟨hz,O,vs,J,hd⟩:=ha.ok I.hok;have hl:kvs.length=vs.length:=Paired.length J;refine kt_call_dict O hd (by omega) λ h' L hs=> ?_;exact ⟨.ref s.heap.objs.size,_,I.laid (a:=s.heap.objs.size) (o:= .dK kvs) (t':=s.toks) (λ b o e=>(hs.2 b (z3i (z3h e))).trans (z0k _ e)) (z3q _) ⟨hz,beq_eq_false_iff_ne.mpr (Ne.symm (z3i I.big)),vs,J,L⟩,zr,q _ (I.hok.fresh (z3q _))⟩
end
section
variable {X:Cx} {e:Expr} {lo hi:Option Expr} {se:Expr} {te:TE} {tl th ts:TO} {p2 pos:Pos}
end
section
variable {prog:Program} {w:World} {A:Around} {E:Value ->Shared ->Prop} {s:Shared}
theorem qrx {nm:String} {a b:Addr} {oa ob:Obj} {J eb:Array DictEntry} {pa pb:Nat} {Q:Bool ->Shared ->Prop} (na:(a==sysModules)=false) (nb:(b==sysModules)=false) (O:s.heap.get? a=some oa) (L:oa.data= .dict J pa)
  (Z:s.heap.get? b=some ob) (Y:ob.data= .dict eb pb) (a3:KeysOf (qo prog w) eb) (hsz:J.size=eb.size)
  (a2:∀ (i:Nat) (e:DictEntry),J[i]? =some e ->∃ k j f,(qo prog w).is k e.key=true/\e.hash=(qo prog w).hash k/\(eb.findIdx? λ g=>(qo prog w).is k g.key)=some j/\eb[j]? =some f/\SeqAt.EqAt A s e.val f.val true)
  (q:Q true s):wpAny (model prog w) A (Builtin.Dict.samePairs nm a b) Q E s:=by
 unfold Builtin.Dict.samePairs Builtin.Dict.showsAll;rw [if_neg (by rw [na];exact z1c),if_neg (by rw [nb];exact z1c)];refine z3w (z3v ?_);refine z3w (z3v ?_);refine z3w (z20 O L ?_);refine z3w (z20 Z Y ?_);rw [if_neg (by simp [hsz])];refine z3w (z2v O L ?_);refine z3w ?_;rw [Std.Legacy.Range.forIn_eq_forIn_range'];simp only [Std.Legacy.Range.size,Nat.sub_zero,Nat.add_sub_cancel,Nat.div_one];refine wpAny_forIn_list _ (λ rest x s'=>s'=s/\x=(none,())/\∃ i,i<=J.size/\rest=List.range' i (J.size - i)) _ ?_ ?_ _ _ ⟨rfl,rfl,0,z3t _,by simp⟩
 ·rintro x rest st s' ⟨rfl,rfl,i,hi,hr⟩;have lt:i < J.size:=by
   rcases Nat.lt_or_ge i J.size with h | h
   ·exact h
   ·rw [Nat.sub_eq_zero_of_le h] at hr;cases hr
  have e2:J.size - i=(J.size - (i+1))+1:=by omega
  rw [e2,List.range'_succ,z2j] at hr;obtain ⟨rfl,hr⟩:=hr;refine z3w (z20 O L ?_);have ge:=z0a lt;obtain ⟨k,j,f,h1,h2,h3,h4,h5⟩:=a2 x _ ge;rw [ge];have a0:wpAny (model prog w) A (holding [J[x].key,J[x].val] (do
     let __x <- dictFind b J[x].key J[x].hash
     match __x with
      | some j=>do
       let __do_lift <- dictEntries b
       match __do_lift[j]? with
        | some f=>holding [f.val] (eqBool J[x].val f.val)
        | x=>unsupported "internal:dict-equal"
      | x=>pure false)) (λ v s2=>v=true/\s2=s') E s':=by
   refine z38 (z3w ?_);rw [h2];refine wpAny_dictFind_of h1 Z Y a3 ?_;rw [h3];refine z3w (z20 Z Y ?_);rw [h4];exact z38 (h5 prog w _ _ ⟨zr,zr⟩)
  refine z3w (z3x a0 (λ v s2 hv=> ?_) λ _ _ z=>z);obtain ⟨rfl,rfl⟩:=hv;rw [if_neg (by decide)];refine z3w (z2v O L ?_);rw [if_neg (by simp)];exact z3v ⟨zr,zr,x+1,lt,hr⟩
 ·rintro st s' ⟨rfl,rfl,i,hi,hr⟩;exact z3v q
end
theorem q8w {P:Program} {w:World} {es:List DictEntry} {vs:List (Key×Value)} (p:Pairs (qo P w) es vs):∀ {i:Nat} {e:DictEntry},es[i]? =some e ->∃ J,vs[i]? =some J/\(qo P w).is J.1 e.key=true/\e.val=J.2:=by
 induction p with
 | nil=>
  intro i e h;simp at h
 | cons a b c ih=>
  intro i e h;cases i with
  | zero=>
   simp at h
   subst h;exact ⟨_,zr,a,b⟩
  | succ i=>simpa using ih (by simpa using h)
theorem qmt {P:Program} {w:World} {es:List DictEntry} {vs:List (Key×Value)} (p:Pairs (qo P w) es vs) {i:Nat} {kv:Key×Value} (h:vs[i]? =some kv):∃ e,es[i]? =some e:=by
 have hl:=p.length;have hi:=(z06.mp h).1;exact ⟨_,z0c (by omega)⟩
theorem qmu {kvs:List (Key×V)} {vs:List (Key×Value)} (r:KV kvs vs):∀ {i:Nat} {q:Key×Value},vs[i]? =some q ->∃ p,kvs[i]? =some p/\p.1=q.1/\RelV p.2 q.2:=by
 induction r with
 | nil=>
  intro i q h;simp at h
 | cons a b ih=>
  intro i q h;cases i with
  | zero=>
   simp at h
   subst h;exact ⟨_,zr,a⟩
  | succ i=>simpa using ih (by simpa using h)
theorem qu7 {kvs:List (Key×V)} {vs:List (Key×Value)} (r:KV kvs vs) {i:Nat} {p:Key×V} (h:kvs[i]? =some p):∃ q,vs[i]? =some q/\p.1=q.1/\RelV p.2 q.2:=by
 have hl:kvs.length=vs.length:=Paired.length r;have hi:=(z06.mp h).1;obtain ⟨p',h',e⟩:=qmu r (z0c (show i < vs.length by omega));rw [h] at h';cases h'
 exact ⟨_,z0c (show i < vs.length by omega),e⟩
theorem qry {F:(Key×V) ->(Key×V) ->Prop} {J L:List (Key×V)} (h:Paired F J L):∀ {i:Nat} {p:Key×V},J[i]? =some p ->∃ q,L[i]? =some q/\F p q:=by
 induction h with
 | nil=>
  intro i p h;simp at h
 | cons a b ih=>
  intro i p h;cases i with
  | zero=>
   simp at h
   subst h;exact ⟨_,zr,a⟩
  | succ i=>simpa using ih (by simpa using h)
section
variable {X:Cx}
def DatP (K:PySem.W.Frag) (H:Hp) (p q:Key×V):Prop:=p.1=q.1/\∃ d,Dat K H d p.2/\Dat K H d q.2/\d.depth<=60
end
def cA (mg:Str ->Option Value) (x:Str):Addr:=match mg x with
 | some (.ref a)=>a
 | _=>0
theorem q6a {mg:Str ->Option Value} {x:Str} {C:Addr} (h:mg x=some (.ref C)):cA mg x=C:=by
 unfold cA;rw [h]
structure MTop (K:PySem.W.Frag) (C:Addr) (m qual:Str) (st:Stmt) (ps:List Str):Prop where
 ex:∃ f fd,Fun K m qual st f fd/\Meth K C m f/\∀ us:List Value,us.length=ps.length ->bindArgs fd ⟨us,[]⟩=pure (ps.zip us)
theorem qrz {K:PySem.W.Frag} {C:Addr} {m qual:Str} {st:Stmt} {ps:List Str} {f:Addr} {oc:Value} {od L:Option Addr} {Y:Array (Option Value)} {kV J O cdv ct:Value}
  (b:∀ (kV J O:Value) (L:Option Addr) (cdv ct:Value) (us:List Value),us.length=ps.length ->bindArgs (PySem.W.fnOf m qual (q2g st) (q1t st) (qc st) .none kV J O L cdv ct) ⟨us,[]⟩=pure (ps.zip us))
  (a:PySem.W.findIn K (.ref C) m=some (some (.ref f))) (i:PySem.W.isFn K (.ref f)=true)
  (l:K.lookup f=some ⟨oc,od,.func (PySem.W.fnOf m qual (q2g st) (q1t st) (qc st) .none kV J O L cdv ct),Y⟩) (c:PySem.W.codeIn K cdv qual=true) (k:PySem.W.keepIn K (.ref f)=true):MTop K C m qual st ps:=
 ⟨f,_,qmf (st:=st) l c k,⟨a,i,k⟩,b kV J O L cdv ct⟩
structure MDef (P:Program) (w:World) (K:PySem.W.Frag) (mg:Str ->Option Value) (base:Heap) (k:Nat) (C:Addr) (m:Str) (ps:List Str) (sp:Sp):Prop where
 ex:∃ f fd,FnOk P w K mg base CX0 k f fd ps sp/\Meth K C m f/\Binds K fd ps []
theorem MTop.ok {P:Program} {w:World} {K:PySem.W.Frag} {mg:Str ->Option Value} {base:Heap} {C:Addr} {m qual:Str} {st:Stmt} {N ps:List Str} {k:Nat} {sp:Sp} (T:MTop K C m qual st ps) (S:FnScope N ps (qc st)) (len:∀ vs H Q E,sp vs H Q E ->vs.length=ps.length)
  (J:∀ (f:Addr) (cdv:Value) (A:Around) (outer:List Env) (s:Shared) (H:Hp) (vs:List V) (Q:VK) (E:XK),Room k (A.deeper (envOfC qual (qc st) s.heap.objs.size f cdv)) ->sp vs H Q E ->
   ∃ t,PSs (cxOf CX0 P w K mg base N qual (qc st) f cdv A outer s H E).nox (q1t st) t/\t {nx:=λ _ H'=>Q .non H',rt:=Q} (start N vs) H):MDef P w K mg base (k+1) C m ps sp:=by
 obtain ⟨f,fd,F,hm,hb⟩:=T.ex;exact ⟨f,fd,F.ok S len (J f),hm,Binds.all hb⟩
section
variable {X:Cx} {k k':Nat} {C:Addr} {ps ks:List Str} {sp:Sp} {x m:Str} {p pos apos:Pos} {e o:Expr} {es:List Expr} {ta:TE} {t tk:TA} {kws:List Keyword}
theorem qje {pl:Sem Bool} (D:MDef X.prog X.w X.K X.mg X.base k C m ps sp) (c:Cls X.K C) (hr:Room k' X.A) (he:PE X o ta) (ha:PA X (e::es) t) (J:k<=k':=by decide)
  (O:starEach (e::es) X.env=(false,eval e X.env)::starEach es X.env:=by rfl) (L:(backTo pos (starEach es X.env)).any (·.1)=false:=by rfl)
  (ht:eval (.Call (.Attribute o m apos) (e::es) [] pos) X.env=(do
   let ov <- eval o X.env
   standAt apos.atName
   let (f,first) <- holding [ov] (getMethod ov m pl)
   callWith pos f first (backTo pos (starEach (e::es) X.env)) (backToKw pos (keywordEach [] X.env))):=by rfl):
  PE X (.Call (.Attribute o m apos) (e::es) [] pos) (qqh C m sp [] E0 ta t):=by
 obtain ⟨f,fd,F,hm,hb⟩:=D.ex;exact qrd he c hm F (hr.mono J) hb .nil qc1 ha O L ht
def qu8 (C:Addr):TE:=λ _ H Q=>∀ x dx,H x=none ->H dx=none ->dx≠x ->Q (.ref x) (upd (upd H dx (.own x)) x (.ins C dx []))
theorem qmv {pins:List (Addr×Obj)} {σ:St} {H:Hp} {s:Shared} {Q:VK} (J:PySem.W.makesIn X.K C=true) (hi:PySem.W.findIn X.K (.ref C) "__init__"=some (some (.builtin "object.__init__"))) (I:Inv X pins σ H s)
  (h:∀ x dx,H x=none ->H dx=none ->dx≠x ->Q (.ref x) (upd (upd H dx (.own x)) x (.ins C dx []))):wpAny (model X.prog X.w) X.A (call (.ref C) []) (EP X pins σ Q) X.xe s:=by
 have hq:=h (s.heap.objs.size+1) s.heap.objs.size (I.hok.fresh (Nat.le_succ _)) (I.hok.fresh (z3q _)) (z3i (z2a _));have I2:=Inv.made (C:=C) I;have Y:=PySem.W.makes_of (M:=model X.prog X.w) I.kIn J;refine wpAny_call (qm3 I.kIn J hi (λ self=>PySem.W.Looks.of_pure (PySem.W.oi_bind self)) ?_);have g2:((s.heap.push PySem.W.emptyDict).push (PySem.W.instObj C s.heap.objs.size)).get? (s.heap.objs.size+1)=some (PySem.W.instObj C s.heap.objs.size):=by
  have:=z16 (s.heap.push PySem.W.emptyDict) (o:=PySem.W.instObj C s.heap.objs.size) rfl
  rwa [z31] at this
 have t1:PySem.W.Looks (model X.prog X.w) ((s.heap.push PySem.W.emptyDict).push (PySem.W.instObj C s.heap.objs.size)) (typeOf (.ref (s.heap.objs.size+1))) (.ref C):=(PySem.W.Looks.ld g2).andThen .now;have t2:PySem.W.Looks (model X.prog X.w) ((s.heap.push PySem.W.emptyDict).push (PySem.W.instObj C s.heap.objs.size)) (isInstance (.ref (s.heap.objs.size+1)) (.type "object")) true:=t1.andThen (Y.top.keeps λ b o e=>z0k _ (z0k _ e));refine codeAny_call_builtin PySem.W.oi_plain PySem.W.entry_oi (@PySem.W.check_slot (model X.prog X.w) _ _ _ "object.__init__" "object" "__init__" (.ref (s.heap.objs.size+1)) [] [] _ PySem.W.oi_kind PySem.W.oi_split t2 (PySem.W.oi_args _) ?_);rw [PySem.W.oi_run];exact z3v ⟨zr,V.ref (s.heap.objs.size+1),_,I2,zr,hq⟩
theorem qgj (hk:PySem.W.makesIn X.K C=true) (hi:PySem.W.findIn X.K (.ref C) "__init__"=some (some (.builtin "object.__init__"))) (kp:PySem.W.keepIn X.K (.ref C)=true) (hg:Gl X x) (hm:X.mg x=some (.ref C))
  (J:(x==("__debug__":Str))=false:=by decide):PE X (.Call (.Name x p) [] [] pos) (qu8 C):=by
 intro pins s σ H Q I h;refine z1j (q9n I hg hm ?_ J);exact PySem.W.callWith_K0 I.kIn kp (qmv hk hi I h)
variable {y:Str} {dv:V}
end
end L2
namespace L2
open PySem PySem.Spec PyProof.Rows PySem.W
section
variable {prog:Program} {w:World} {A:Around} {s:Shared} {a:Addr}
end
section
variable {X:Cx}
end
end L2
namespace L2
open PySem PySem.Spec PyProof.Rows
section
variable {X:Cx} {pins:List (Addr×Obj)} {σ:St} {H:Hp} {s:Shared} {a:Addr} {kvs:List (Key×V)} {k:Key} {z:V} {u r:Value} {A:Around} {E:Value ->Shared ->Prop}
theorem qu9 {Q:Value ->Shared ->Prop} (I:Inv X pins σ H s) (e:H a=some (.dK kvs)) (hl:kvs.length < sizeLine) (ry:RelV (kV k) u) (rz:RelV z r)
  (h1:∀ v Y s',valV kvs k=some v ->Inv X pins σ H s' ->RelV v Y ->Q Y s') (h2:valV kvs k=none ->∀ s',Inv X pins σ (upd H a (.dK (putK kvs k z))) s' ->Q r s'):
  wpAny (model X.prog X.w) A (call (.builtin "dict.setdefault") [.ref a,u,r]) Q E s:=by
 obtain ⟨zl,hd,vs,J,Z⟩:=qql I.hok e;have rv:=J.val k;refine call_meetsIn PySem.F.slot_dict_setdefault Z.typeIs PySem.F.entry_dict_setdefault (PySem.F.args_dict_setdefault_3 _ _ _) (kt_meets_setdefault (qo X.prog X.w) a (q67 ry) hd r) ⟨vs,Z,by rw [<- J.length];exact zl,λ Y hw=> ?_,λ hn h' L hs=> ?_⟩
 ·cases O:valV kvs k with
  | none=>
   rw [O,hw] at rv;exact rv.elim
  | some v=>
   rw [O,hw] at rv;exact h1 v Y _ O (I.tok _) rv
 ·have hp:(putK kvs k z).length<=sizeLine:=by have:=q1i kvs k z;omega
  have he:∃ q,h'.get? a=some q:=let ⟨q,_,_,hq,_⟩:=L;⟨q,hq⟩
  refine h2 ?_ _ (q9q I (by rw [e];exact True.intro) hs he (qm9 hp hd (J.put k rz) L));cases O:valV kvs k with
  | none=>rfl
  | some v=>
   rw [O,hn] at rv;exact rv.elim
end
def qua (td ty tx:TE):TE:=λ σ H Q=>td σ H λ x H1=>∃ a,x= .ref a/\IsD H1 a/\ty σ H1 λ y H2=>tx σ H2 λ z H3=>∃ kvs k,H3 a=some (.dK kvs)/\y=kV k/\kvs.length < sizeLine/\
 (∀ v,valV kvs k=some v ->Q v H3)/\(valV kvs k=none ->Q z (upd H3 a (.dK (putK kvs k z))))
section
variable {X:Cx} {o e f:Expr} {apos cpos:Pos} {td ty tx:TE}
theorem qp0 (ho:PE X o td) (he:PE X e ty) (hf:PE X f tx) (m:M2 X o "setdefault" apos e f cpos):PE X (.Call (.Attribute o "setdefault" apos) [e,f] [] cpos) (qua td ty tx):=by
 intro pins s σ H Q I h;refine wpAny_Call_method m.base m.few m.line PySem.F.plainAttrs_dict PySem.F.slot_dict_setdefault PySem.F.type_dict_setdefault (thn (ho pins s σ H _ I h) λ u s1 L=> ?_);obtain ⟨x,H1,I1,rx,a,ex,d,q1⟩:=L;subst ex;obtain rfl:u=Value.ref a:=rx;obtain ⟨t1,t2,_⟩:=qmc I1 d;refine ⟨t1,t2,?_⟩;rw [m.trees];refine Calls.callWith_builtin rfl (Calls.evalArgs_plain (Calls.spliced_cons (thn (he pins s1 σ H1 _ I1 q1) λ iv s2 ⟨y,H2,I2,ry,q2⟩=>
  Calls.spliced_cons (thn (hf pins s2 σ H2 _ I2 q2) λ fv s3 ⟨z,H3,I3,rz,kvs,k,eH,ey,hl,q3,q4⟩=>Calls.spliced_nil ?_))))
 subst ey;exact qu9 I3 eH hl ry rz (λ v w' s4 ev I4 J=>⟨_,H3,I4,J,q3 v ev⟩) λ en s4 I4=>⟨z,_,I4,rz,q4 en⟩
end
end L2
namespace L2
open PySem PySem.Spec PyProof.Rows PySem.W
section
variable {P:Program} {w:World} {A:Around} {E:Value ->Shared ->Prop} {s:Shared} {a:Addr} {xs:List Str}
end
section
variable {prog:Program} {w:World} {A:Around} {R:Result ->Shared ->Prop} {I:Addr} {fp wr:List Addr} {G:Array GenState ->Array GenState ->Prop} {n:Nat} {P:Nat ->Value ->Prop} {St:Nat ->Shared ->Prop}
end
section
variable {prog:Program} {w:World} {A:Around} {E:Value ->Shared ->Prop} {s:Shared}
end
section
variable {prog:Program} {w:World} {A:Around} {E:Value ->Shared ->Prop} {s:Shared}
end
section
variable {M:Model} {A:Around} {E:Value ->Shared ->Prop}
end
section
variable {prog:Program} {w:World} {A:Around} {E:Value ->Shared ->Prop} {s:Shared} {a:Addr}
end
section
variable {prog:Program} {w:World} {A:Around} {E:Value ->Shared ->Prop} {s:Shared} {a I:Addr} {es:Array (Int×Value)} {ep:Nat} {t:SetTable}
end
section
variable {prog:Program} {w:World} {A:Around} {E:Value ->Shared ->Prop} {s:Shared} {a I T:Addr} {es:Array (Int×Value)} {ep i:Nat} {t:SetTable} {o:Obj}
end
section
variable {prog:Program} {w:World} {A:Around} {E:Value ->Shared ->Prop} {s:Shared} {a I T:Addr} {es:Array (Int×Value)} {ep:Nat} {t:SetTable} {o:Obj}
end
section
variable {prog:Program} {w:World} {A:Around} {E:Value ->Shared ->Prop} {s:Shared} {a:Addr} {xs:List Str}
end
section
variable {prog:Program} {w:World} {A:Around} {E:Value ->Shared ->Prop} {s:Shared} {a:Addr} {xs:List Str}
end
section
variable {X:Cx} {pins:List (Addr×Obj)} {σ:St} {H:Hp} {s:Shared}
end
section
variable {X:Cx}
end
section
variable {X:Cx}
end
section
variable {X:Cx}
end
section
variable {X:Cx} {tg:Expr}
end
end L2
namespace L2
open PySem PySem.Spec PyProof.Rows
section
variable {X:Cx}
def catS (ws:List Str):Str:=⟨(ws.flatMap (·.cps.toList)).toArray⟩
theorem qjf (a b:Str):(a++b).cps=a.cps++b.cps:=rfl
theorem qgk:∀ ws:List Str,Str.join "" ws=catS ws
 | []=>rfl
 | [x]=>by
  show x=⟨_⟩;cases x
  simp [catS]
 | x::y::r=>by
  show x++""++Str.join "" (y::r)=_;rw [qgk (y::r)];have h:∀ a b:Str,a.cps.toList=b.cps.toList ->a=b:=λ a b h=>by
   cases a
   cases b
   congr
   exact Array.toList_inj.mp h
  apply h
  rw [qjf,qjf,z14,z14];show x.cps.toList++([]:List Nat)++_=_;simp [catS]
def qwp (K:PySem.W.Frag):V ->List V ->Hp ->VK ->Prop:=λ x xs H Q=>∃ a ws,x= .str ""/\xs=[.ref a]/\SqL K H a (ws.map V.str)/\(ws.map (·.length)).sum<=16777216/\Q (.str (catS ws)) H
theorem qp1 (K:PySem.W.Frag) (hK:X.K=K:=by rfl):MtR X "str.join" (qwp K):=by
 subst hK;intro pins s σ H x xs v us Q I rx rv h;obtain ⟨a,ws,rfl,rfl,hs,hl,q⟩:=h;obtain ⟨t,rfl⟩:=rx;obtain ⟨u,rfl,ru⟩:=rv.one;cases ru
 obtain ⟨its,r,pl,_⟩:=I.list hs;obtain ⟨_,_,e3⟩:=q5s r;have e:Txt.join "" ws=catS ws:=by
  show Builtin.Str.glued "" ws=_;rw [StrLaws.glued_eq_join,qgk]
 have l0:(Str.ofString "").length=0:=by decide
 refine join_list (ys:=ws) pl.isList (by rw [z1a];exact e3) (by rw [l0,Nat.mul_zero];exact hl) λ t' k=> ?_;exact ⟨.str (catS ws),H,I.tok _,⟨t',by rw [<- e]⟩,q⟩
def qub (K:PySem.W.Frag):R2:=λ x y H Q=>∃ a b k1 k2,x= .ref a/\y= .ref b/\Rd H a (.dK k1)/\Rd H b (.dK k2)/\Paired (DatP K H) k1 k2/\Q (.bl true) H
theorem qp2 (hu:X.A.units+64 < cLine) (K:PySem.W.Frag) (hK:X.K=K:=by rfl):OpR X (compareOp .Eq) (qub K):=by
  subst hK;intro pins s σ H x y v u Q I rx ry h;obtain ⟨a,b,k1,k2,rfl,rfl,ra,rb,hp,q⟩:=h;cases rx
  cases ry
  obtain ⟨hz1,c7,v1,b0,o1,e1,p1,L,a3,b5,c4,a8,d2⟩:=ra.ok I.hok;obtain ⟨hz2,c8,v2,b3,o2,e2,p2,a0,a9,b6,c5,O,a7⟩:=rb.ok I.hok;have l0:k1.length=k2.length:=Paired.length hp;have l1:k1.length=v1.length:=Paired.length b0;have l2:k2.length=v2.length:=Paired.length b3;have l3:=a8.length;have l4:=O.length;rw [z13] at l3 l4;show wpAny _ _ (richCompare .Eq (.ref a) (.ref b)) _ _ s;refine wpAny_richCompare_same_room (T:="dict") ⟨o1,L,a3.1⟩ ⟨o2,a0,a9.1⟩ PySem.F.slot_dict_eq (z2d PySem.F.slot_dict_eq ⟨o1,L,a3.1⟩ PySem.F.entry_dict_eq ?_ (PySem.F.args_dict_eq_2 _ _)) (by omega);unfold Builtin.«dict.__eq__»;have T1:s.TypeIs (.ref a) "dict":=⟨o1,L,a3.1⟩;have T2:s.TypeIs (.ref b) "dict":=⟨o2,a0,a9.1⟩;have same:∀ nm (Q2:Bool ->Shared ->Prop) (E2:Value ->Shared ->Prop),Q2 true s ->wpAny (model X.prog X.w) X.A.in1 (Builtin.Dict.samePairs nm a b) Q2 E2 s:=λ nm Q2 E2 q2=>by
    refine qrx c7 c8 L b5 a0 b6 c5 (by omega) (λ i e he=> ?_) q2;have b7:e1.toList[i]? =some e:=by simpa using he
    obtain ⟨kv,c6,i1,i2⟩:=q8w a8 b7;obtain ⟨pv,c9,pe,pr⟩:=qmu b0 c6;obtain ⟨qv,d1,qe,d,Z,a5,dz⟩:=qry hp c9;obtain ⟨qw,a2,we,wr⟩:=qu7 b3 d1;obtain ⟨f,hf⟩:=qmt O a2;obtain ⟨qw2,Y,j1,j2⟩:=q8w O hf;rw [a2] at Y;cases Y
    have ek:kv.1=qw.1:=by rw [<- pe,qe,we]
    obtain ⟨k',c0,b8⟩:=c4 e (Array.mem_of_getElem? he);have b4:k'=kv.1:=(qo X.prog X.w).inj _ _ _ c0 i1;have J:e2[i]? =some f:=by simpa using hf
    have a6:i < e2.size:=(Array.getElem?_eq_some_iff.mp J).1;refine ⟨kv.1,i,f,i1,by rw [b8,b4],?_,J,?_⟩
    · rw [Array.findIdx?_eq_some_iff_getElem]
      refine ⟨a6,?_,λ j hj=> ?_⟩
      · have:e2[i]=f:=by
          have:=z0a a6;rw [this] at J;exact Option.some.inj J
        rw [this,ek];exact j1
      · intro z
        have b9:j < e2.size:=by omega
        obtain ⟨qj,d0,z1,_⟩:=q8w O (i:=j) (e:=e2[j]) (by simp [b9]);have ej:kv.1=qj.1:=(qo X.prog X.w).inj _ _ _ z z1;have m1:(v2.map (·.1))[j]? =some qw.1:=by rw [z1s,d0];show some qj.1=_;rw [<- ej,ek]
        have m2:(v2.map (·.1))[i]? =some qw.1:=by rw [z1s,a2];rfl
        obtain ⟨b1,c1⟩:=z06.mp m1;obtain ⟨b2,c2⟩:=z06.mp m2;have:=(z07.mp a7) j i b1 b2 hj;exact this (c1.trans c2.symm)
    · rw [i2,j2]
      obtain ⟨as,r1⟩:=Dat.reads I _ _ _ Z pr;obtain ⟨bs,r2⟩:=Dat.reads I _ _ _ a5 wr;have hq:=SeqAt.eqAt_reads d d X.A.in1 s _ _ as bs r1 r2 (Dat.lay _ _ Z) (Dat.lay _ _ a5) (by
        have:X.A.in1.units=X.A.units+1:=rfl;rw [this];have:min d.depth d.depth<=d.depth:=Nat.min_le_left _ _;omega)
      rw [SeqAt.eqv_refl _ (Dat.lay _ _ Z)] at hq;exact hq
  refine z3w (m:=Builtin.Dict.dictSlotArgs "__eq__" ⟨[.ref a,.ref b],[]⟩) ?_;unfold Builtin.Dict.dictSlotArgs;refine z3w (wpAny_notOrdered_dict T1 ?_);refine z3v ?_;refine z3w (wpAny_isInstance T2 isSubtype_dict_dict ?_);rw [if_neg (by decide)];refine z3w (m:=Builtin.Dict.addrOf (Value.ref a)) (z3v ?_);refine z3w (m:=Builtin.Dict.addrOf (Value.ref b)) (z3v ?_);refine z3w (same _ _ _ ?_);exact z3v ⟨_,rfl,(λ z=>nomatch z),qy I q rfl⟩
end
section
variable {prog:Program} {w:World} {A:Around} {E:Value ->Shared ->Prop} {s:Shared}
end
section
variable {X:Cx}
end
section
variable {X:Cx}
end
section
variable {prog:Program} {w:World} {A:Around} {E:Value ->Shared ->Prop} {s:Shared}
theorem q9y {it t:Addr} {i:Nat} {J:Array Value} {x:Value} {Q:Value ->Shared ->Prop} (L:s.heap.IsTupleIter it t i) (ht:s.heap.IsTuple t J) (hx:J[i]? =some x)
  (hQ:∀ h',h'.IsTupleIter it t (i+1) ->Heap.SameBut it s.heap h' ->Q x {s with heap:=h'}):
  wpAny (model prog w) A (Builtin.SmallTypes.nextOf (.ref it)) Q E s:=by
 obtain ⟨o,ho,hc,hd⟩:=id L;obtain ⟨ol,Y,_,nl,O⟩:=ht;unfold Builtin.SmallTypes.nextOf;refine z3w (wpAny_callSpecial?_slot (name:=Str.ofString "__next__") L.typeIs F.slot_tuple_iterator_next
  (z2d F.slot_tuple_iterator_next L.typeIs F.entry_tuple_iterator_next ?_ (F.args_tuple_iterator_next_1 _)))
 show wpAny _ _ (field (.ref it) 0 >>=_) _ _ s;refine z3w (wpAny_field ho hd (x:= .ref t) rfl ?_);show wpAny _ _ (if (Value.ref t==Value.none)=true then _ else _) _ _ s;rw [if_neg (show ¬ ((Value.ref t==Value.none)=true) from z1c)];show wpAny _ _ (field (.ref it) 1 >>=_) _ _ s;refine z3w (wpAny_field ho hd (x:= .int i 0) rfl ?_);show wpAny _ _ (seqItems? (.ref t) >>=_) _ _ s;refine z3w (wpAny_seqItems Y O ?_);simp only [z1w,hx];refine z3w (z34 ho hd (by simp) (z3v ⟨x,zr,z3v (hQ _ ?_ (z15 ..))⟩));exact ⟨_,z0u _ ho (Obj.isFreed_of_fields (Obj.data_mapFields hd _)),(Obj.cls_mapFields ..).trans hc,by
  rw [Obj.data_mapFields hd];simp [rawInt]⟩
theorem qb8 {it t:Addr} {i:Nat} {J:Array Value} {Q:Value ->Shared ->Prop} (Z:A.handled=none) (L:s.heap.IsTupleIter it t i) (ht:s.heap.IsTuple t J) (hx:J[i]? =none)
    (hE:∀ h' e,Heap.ExtBut it s.heap h' ->(∃ o,h'.get? e=some o/\o.cls= .type "StopIteration") ->E (.ref e) {s with heap:=h'}):
    wpAny (model prog w) A (Builtin.SmallTypes.nextOf (.ref it)) Q E s:=by
  obtain ⟨o,ho,hc,hd⟩:=id L;obtain ⟨ol,Y,_,nl,O⟩:=ht;unfold Builtin.SmallTypes.nextOf;refine z3w (wpAny_callSpecial?_slot (name:=Str.ofString "__next__") L.typeIs F.slot_tuple_iterator_next
    (z2d F.slot_tuple_iterator_next L.typeIs F.entry_tuple_iterator_next ?_ (F.args_tuple_iterator_next_1 _)))
  show wpAny _ _ (field (.ref it) 0 >>=_) _ _ s;refine z3w (wpAny_field ho hd (x:= .ref t) rfl ?_);show wpAny _ _ (if (Value.ref t==Value.none)=true then _ else _) _ _ s;rw [if_neg (show ¬ ((Value.ref t==Value.none)=true) from z1c)];show wpAny _ _ (field (.ref it) 1 >>=_) _ _ s;refine z3w (wpAny_field ho hd (x:= .int i 0) rfl ?_);show wpAny _ _ (seqItems? (.ref t) >>=_) _ _ s;refine z3w (wpAny_seqItems Y O ?_);simp only [z1w,hx];refine z3w (z3u (z3w (z34 ho hd (by simp) ?_)));show wpAny _ _ (newExc (.type "StopIteration") [] >>=_) _ _ _;refine z3w ?_;simp only [newExc,newTuple];refine z3w (z1y ?_ (by size_fits));refine z3w (m:=firstArgMember _ _) (wpAny_of_eq (a:=Value.none) (by first | rfl | (simp only [firstArgMember];rfl)) ?_);refine z1y ?_ (by size_fits);simp only [raiseNew];refine z3w (wpAny_handled ?_)
  first | rw [show A.in1.handled=none from Z] | rw [Z]
  refine z3w (z3v (wpAny_throw ?_));exact hE _ _ (((z15 ..).extBut.push _).push _) ⟨_,z16 _ rfl,zr⟩
theorem q4u (hh:A.handled=none) (it t:Addr) (Y:t≠it) (J:Array Value):
  Draws prog w A it [it,t] J.size (λ i v=>J[i]? =some v) (λ i h=>h.IsTupleIter it t i/\h.IsTuple t J) where
 live:=λ _ _ st=>let ⟨o,ho,_⟩:=st.1;⟨o,ho⟩
 frame:=λ _ _ _ st Z=>⟨st.1.at λ o e=>Z it (by simp) o e,let ⟨o,e,r⟩:=st.2;⟨o,Z t (by simp) o e,r⟩⟩
 item:=λ i s Q E hi st hQ=>by
  refine q9y st.1 st.2 (x:=J[i]) (by simp [hi]) λ h' L O=> ?_;exact hQ _ h' s.toks (by simp [hi]) ⟨L,st.2.extBut O.extBut Y⟩ O
 done:=λ s Q E st hE=>qb8 hh st.1 st.2 (by simp) hE
structure ZAp (z TI TO i1 i2:Addr) (f1 f2:List Addr):Prop where
 TIz:TI≠z
 TOz:TO≠z
 i1z:i1≠z
 i2z:i2≠z
 TITO:TI≠TO
 TIi1:TI≠i1
 TIi2:TI≠i2
 TOi1:TO≠i1
 TOi2:TO≠i2
 i12:i1≠i2
 z1:z∉f1
 TO1:TO∉f1
 i21:i2∉f1
 z2:z∉f2
 TO2:TO∉f2
 i1f:i1∉f2
theorem q3s {it:Addr} {h h':Heap} {f:List Addr} (x:Heap.ExtBut it h h') (n:it∉f):∀ b∈f,∀ o,h.get? b=some o ->h'.get? b=some o:=λ b hb o e=>x b o (λ z=>n (z ▸ hb)) e
theorem qp3 {z TI TO i1 i2:Addr} {f1 f2:List Addr} {n1 n2 k1 k2:Nat} {P1 P2:Nat ->Value ->Prop} {S1 S2:Nat ->Heap ->Prop} {a b:Value} {Q:Value ->Shared ->Prop} (D:ZAp z TI TO i1 i2 f1 f2)
  (D1:Draws prog w A i1 f1 n1 P1 S1) (D2:Draws prog w A i2 f2 n2 P2 S2)
  (hz:IsZip s.heap z TI TO .none) (c8:IsPair s.heap TI (.ref i1) (.ref i2)) (c9:IsPair s.heap TO a b)
  (h1:S1 k1 s.heap) (h2:S2 k2 s.heap) (hx:k1 < n1) (hy:k2 < n2)
  (hQ:∀ x y h' tk,P1 k1 x ->P2 k2 y ->IsZip h' z TI TO (rawInt s.heap.objs.size) ->IsPair h' TO x y ->S1 (k1+1) h' ->S2 (k2+1) h' ->IsPair h' s.heap.objs.size x y ->h'.objs.size=s.heap.objs.size+1 ->
   (∀ c o,c≠z ->c≠TO ->c≠i1 ->c≠i2 ->s.heap.get? c=some o ->h'.get? c=some o) ->Q (.ref s.heap.objs.size) {s with heap:=h',toks:=tk}):
  wpAny (model prog w) A (Builtin.«zip.__next__» ⟨[.ref z],[]⟩) (λ fin s'=>∃ v,fin= .done (.ret v)/\Q v s') E s:=by
 obtain ⟨hp,g,d,tk₀,os⟩:=s;show wpAny _ _ (field (.ref z) 2 >>=_) _ _ _;refine z3w (wpAny_field hz rfl (x:= .bool false) rfl ?_);show wpAny _ _ (field (.ref z) 3 >>=_) _ _ _;refine z3w (wpAny_field hz rfl (x:= .ref TI) rfl ?_);refine z3w (wpAny_seqItems c8 rfl ?_);show wpAny _ _ (Builtin.SmallTypes.ownedTupleIsFree (.ref z) >>=_) _ _ _;refine z3w ?_;unfold Builtin.SmallTypes.ownedTupleIsFree;refine z3w (wpAny_field hz rfl (x:= .none) rfl (z3v ?_));simp only [if_true];refine z3w (z3u ?_);refine z3w (wpAny_field hz rfl (x:= .ref TO) rfl ?_);refine z3w (wpAny_setField_rec hz (by simp) λ h₁ b1 Y=> ?_)
 replace b1:IsZip h₁ z TI TO .ellipsis:=b1
 refine z3w ?_;simp only [List.zipIdx_cons,List.zipIdx_nil,List.forIn_cons,List.forIn_nil];refine z3w (z3w (wpAny_onRaise ?_));show wpAny _ _ (Builtin.SmallTypes.nextOf (.ref i1) >>=_) _ _ _;have b6:S1 k1 h₁:=D1.frame _ _ _ h1 (q3s Y.extBut D.z1);refine z3w (D1.item k1 _ _ _ hx b6 λ x h₂ tk₂ c6 b7 Z=>z3v ?_);have a6:IsPair h₂ TO a b:=Z.extBut _ _ D.TOi1 (Y.extBut _ _ D.TOz c9);refine z3w (wpAny_seqItems a6 rfl ?_);refine z3w (wpAny_updateSeq_pair a6 λ h₃ O a0=> ?_)
 replace O:IsPair h₃ TO x b:=O
 refine z3w (wpAny_letGo (z3v ?_));refine z3w (z3w (wpAny_onRaise ?_));show wpAny _ _ (Builtin.SmallTypes.nextOf (.ref i2) >>=_) _ _ _;have b9:S2 k2 h₃:=D2.frame _ _ _ (D2.frame _ _ _ (D2.frame _ _ _ h2 (q3s Y.extBut D.z2)) (q3s Z.extBut D.i1f)) (q3s a0.extBut D.TO2);refine z3w (D2.item k2 _ _ _ hy b9 λ y h₄ tk₄ c7 c0 a2=>z3v ?_);have a7:IsPair h₄ TO x b:=a2.extBut _ _ D.TOi2 O;refine z3w (wpAny_seqItems a7 rfl ?_);refine z3w (wpAny_updateSeq_pair a7 λ J L a3=> ?_)
 replace L:IsPair J TO x y:=L
 refine z3w (wpAny_letGo (z3v (z3v ?_)));refine z3w (wpAny_seqItems L rfl ?_);refine z3w (wpAny_newTuple ?_);have hsz:J.objs.size=hp.objs.size:=by rw [a3.1,a2.1,a0.1,Z.1,Y.1]
 have b5:IsZip J z TI TO .ellipsis:=a3.extBut _ _ D.TOz.symm (a2.extBut _ _ D.i2z.symm (a0.extBut _ _ D.TOz.symm (Z.extBut _ _ D.i1z.symm b1)));have d0:∀ c o,c≠z ->c≠TO ->c≠i1 ->c≠i2 ->hp.get? c=some o ->J.get? c=some o:=λ c o c1 c2 c3 c4 e=>
  a3.extBut _ _ c2 (a2.extBut _ _ c4 (a0.extBut _ _ c2 (Z.extBut _ _ c3 (Y.extBut _ _ c1 e))))
 have b8:S1 (k1+1) J:=D1.frame _ _ _ (D1.frame _ _ _ (D1.frame _ _ _ b7 (q3s a0.extBut D.TO1)) (q3s a2.extBut D.i21)) (q3s a3.extBut D.TO1);have c5:S2 (k2+1) J:=D2.frame _ _ _ c0 (q3s a3.extBut D.TO2);have a8:z < J.objs.size:=z3h b5;show wpAny _ _ (Builtin.SmallTypes.ownedTupleHandOut (.ref z) (.ref J.objs.size) >>=_) _ _ _;refine z3w ?_;unfold Builtin.SmallTypes.ownedTupleHandOut;have d1:IsZip (J.push {cls:= .type "tuple",data:= .seq #[x,y]}) z TI TO .ellipsis:=z0k _ b5;refine z3w (wpAny_setField_rec d1 (by simp) λ h₇ b2 a9=> ?_)
 replace b2:IsZip h₇ z TI TO (rawInt J.objs.size):=b2
 refine wpAny_setField_rec b2 (by simp) λ h₈ a5 b0=> ?_
 replace a5:IsZip h₈ z TI TO (rawInt J.objs.size):=a5
 have up:∀ c o,c≠z ->J.get? c=some o ->h₈.get? c=some o:=λ c o c1 e=>b0.extBut _ _ c1 (a9.extBut _ _ c1 (z0k _ e));have b3:IsPair h₈ J.objs.size x y:=b0.extBut _ _ (z3k a8) (a9.extBut _ _ (z3k a8) (z16 _ rfl));have b4:h₈.objs.size=J.objs.size+1:=by rw [b0.1,a9.1,z31]
 rw [hsz] at a5 b3 b4;refine z3v ⟨_,zr,?_⟩;show Q (.ref J.objs.size) _;rw [hsz];exact hQ x y h₈ _ c6 c7 a5 (up _ _ D.TOz L) (D1.frame _ _ _ b8 λ b hb o e=>up b o (λ q=>D.z1 (q ▸ hb)) e) (D2.frame _ _ _ c5 λ b hb o e=>up b o (λ q=>D.z2 (q ▸ hb)) e) b3 b4 λ c o c1 c2 c3 c4 e=>up c o c1 (d0 c o c1 c2 c3 c4 e)
theorem qs0 {z TI TO i1 i2:Addr} {f1 f2:List Addr} {n1 n2 k1 k2:Nat} {P1 P2:Nat ->Value ->Prop} {S1 S2:Nat ->Heap ->Prop} {a b:Value} {Q:Fin ->Shared ->Prop} (D:ZAp z TI TO i1 i2 f1 f2)
  (D1:Draws prog w A i1 f1 n1 P1 S1) (D2:Draws prog w A i2 f2 n2 P2 S2)
  (hz:IsZip s.heap z TI TO .none) (b2:IsPair s.heap TI (.ref i1) (.ref i2)) (b3:IsPair s.heap TO a b)
  (h1:S1 k1 s.heap) (h2:S2 k2 s.heap) (a6:k1=n1\/ (k1 < n1/\k2=n2))
  (hE:∀ h' tk e,(∀ c o,c≠z ->c≠TO ->c≠i1 ->c≠i2 ->s.heap.get? c=some o ->h'.get? c=some o) ->(∃ o,h'.get? e=some o/\o.cls= .type "StopIteration") ->E (.ref e) {s with heap:=h',toks:=tk}):
  wpAny (model prog w) A (Builtin.«zip.__next__» ⟨[.ref z],[]⟩) Q E s:=by
 obtain ⟨hp,g,d,tk₀,os⟩:=s;show wpAny _ _ (field (.ref z) 2 >>=_) _ _ _;refine z3w (wpAny_field hz rfl (x:= .bool false) rfl ?_);show wpAny _ _ (field (.ref z) 3 >>=_) _ _ _;refine z3w (wpAny_field hz rfl (x:= .ref TI) rfl ?_);refine z3w (wpAny_seqItems b2 rfl ?_);show wpAny _ _ (Builtin.SmallTypes.ownedTupleIsFree (.ref z) >>=_) _ _ _;refine z3w ?_;unfold Builtin.SmallTypes.ownedTupleIsFree;refine z3w (wpAny_field hz rfl (x:= .none) rfl (z3v ?_));simp only [if_true];refine z3w (z3u ?_);refine z3w (wpAny_field hz rfl (x:= .ref TO) rfl ?_);refine z3w (wpAny_setField_rec hz (by simp) λ h₁ a0 Z=> ?_)
 replace a0:IsZip h₁ z TI TO .ellipsis:=a0
 refine z3w ?_;simp only [List.zipIdx_cons,List.zipIdx_nil,List.forIn_cons,List.forIn_nil];refine z3w (z3w (wpAny_onRaise ?_));show wpAny _ _ (Builtin.SmallTypes.nextOf (.ref i1) >>=_) _ _ _;have a5:S1 k1 h₁:=D1.frame _ _ _ h1 (q3s Z.extBut D.z1);rcases a6 with hx | ⟨hx,hy⟩
 ·subst hx;refine z3w (D1.done _ _ _ a5 λ h₂ e L he=> ?_);obtain ⟨oe,J,Y⟩:=he;have a9:IsZip h₂ z TI TO .ellipsis:=L _ _ D.i1z.symm a0;have a3:e≠z:=λ x=>by subst x;rw [a9] at J;cases J;simp at Y
  refine wpAny_setField_rec a9 (by simp) λ h₃ _ O=>hE h₃ _ e (λ c o c1 _ c3 _ x=>O.extBut _ _ c1 (L _ _ c3 (Z.extBut _ _ c1 x))) ⟨oe,O.extBut _ _ a3 J,Y⟩
 ·subst hy;refine z3w (D1.item k1 _ _ _ hx a5 λ x h₂ tk₂ hPx h1₂ L=>z3v ?_);have a2:IsPair h₂ TO a b:=L.extBut _ _ D.TOi1 (Z.extBut _ _ D.TOz b3);refine z3w (wpAny_seqItems a2 rfl ?_);refine z3w (wpAny_updateSeq_pair a2 λ h₃ b4 O=> ?_);refine z3w (wpAny_letGo (z3v ?_));refine z3w (z3w (wpAny_onRaise ?_));show wpAny _ _ (Builtin.SmallTypes.nextOf (.ref i2) >>=_) _ _ _;have b1:S2 k2 h₃:=D2.frame _ _ _ (D2.frame _ _ _ (D2.frame _ _ _ h2 (q3s Z.extBut D.z2)) (q3s L.extBut D.i1f)) (q3s O.extBut D.TO2);refine z3w (D2.done _ _ _ b1 λ h₄ e a7 he=> ?_);obtain ⟨oe,J,Y⟩:=he;have b0:IsZip h₄ z TI TO .ellipsis:=a7 _ _ D.i2z.symm (O.extBut _ _ D.TOz.symm (L.extBut _ _ D.i1z.symm a0));have a3:e≠z:=λ x=>by subst x;rw [b0] at J;cases J;simp at Y
  refine wpAny_setField_rec b0 (by simp) λ h₅ _ a8=>hE h₅ _ e (λ c o c1 c2 c3 c4 x=>a8.extBut _ _ c1 (a7 _ _ c4 (O.extBut _ _ c2 (L.extBut _ _ c3 (Z.extBut _ _ c1 x))))) ⟨oe,a8.extBut _ _ a3 J,Y⟩
theorem qai {z TI TO J L:Addr} {f1 f2:List Addr} {n1 n2 O Y:Nat} {P1 P2:Nat ->Value ->Prop} {Z S2:Nat ->Heap ->Prop} {a b:Value} {Q:Option Value ->Shared ->Prop} (hh:A.handled=none) (D:ZAp z TI TO J L f1 f2)
  (D1:∀ A:Around,A.handled=none ->Draws prog w A J f1 n1 P1 Z) (D2:∀ A:Around,A.handled=none ->Draws prog w A L f2 n2 P2 S2)
  (hz:IsZip s.heap z TI TO .none) (a0:IsPair s.heap TI (.ref J) (.ref L)) (b0:IsPair s.heap TO a b)
  (h1:Z O s.heap) (h2:S2 Y s.heap) (hx:O < n1) (hy:Y < n2)
  (hQ:∀ x y h' tk,P1 O x ->P2 Y y ->IsZip h' z TI TO (rawInt s.heap.objs.size) ->IsPair h' TO x y ->Z (O+1) h' ->S2 (Y+1) h' ->IsPair h' s.heap.objs.size x y ->h'.objs.size=s.heap.objs.size+1 ->
   (∀ c o,c≠z ->c≠TO ->c≠J ->c≠L ->s.heap.get? c=some o ->h'.get? c=some o) ->Q (some (.ref s.heap.objs.size)) {s with heap:=h',toks:=tk}):
  wpAny (model prog w) A (pyNext (.ref z)) Q E s:=by
 have hT:s.TypeIs (.ref z) "zip":=⟨_,hz,rfl⟩;unfold pyNext;exact z3w (z36 (wpAny_callSpecial?_slot (name:=Str.ofString "__next__") hT F.slot_zip_next
  (z2d F.slot_zip_next hT F.entry_zip_next
   (qp3 D (D1 _ hh) (D2 _ hh) hz a0 b0 h1 h2 hx hy λ x y h' tk a1 a2 a3 a4 a5 a6 a7 a8 a9=>z3v (hQ x y h' tk a1 a2 a3 a4 a5 a6 a7 a8 a9)) (F.args_zip_next_1 _))))
theorem q6b {z TI TO L O:Addr} {f1 f2:List Addr} {n1 n2 k1 k2:Nat} {P1 P2:Nat ->Value ->Prop} {S1 S2:Nat ->Heap ->Prop} {a b:Value} {Q:Option Value ->Shared ->Prop} (hh:A.handled=none) (D:ZAp z TI TO L O f1 f2)
  (D1:∀ A:Around,A.handled=none ->Draws prog w A L f1 n1 P1 S1) (D2:∀ A:Around,A.handled=none ->Draws prog w A O f2 n2 P2 S2)
  (hz:IsZip s.heap z TI TO .none) (Y:IsPair s.heap TI (.ref L) (.ref O)) (Z:IsPair s.heap TO a b)
  (h1:S1 k1 s.heap) (h2:S2 k2 s.heap) (J:k1=n1\/ (k1 < n1/\k2=n2))
  (hQ:∀ h' tk,(∀ c o,c≠z ->c≠TO ->c≠L ->c≠O ->s.heap.get? c=some o ->h'.get? c=some o) ->Q none {s with heap:=h',toks:=tk}):wpAny (model prog w) A (pyNext (.ref z)) Q E s:=by
 have hT:s.TypeIs (.ref z) "zip":=⟨_,hz,rfl⟩;unfold pyNext;refine z3w (z36 (wpAny_callSpecial?_slot (name:=Str.ofString "__next__") hT F.slot_zip_next
  (z2d F.slot_zip_next hT F.entry_zip_next (qs0 D (D1 _ hh) (D2 _ hh) hz Y Z h1 h2 J λ h' tk e hk he=> ?_) (F.args_zip_next_1 _))))
 obtain ⟨o,ho,hc⟩:=he;refine z3w (wpAny_isInstance (T:="StopIteration") (b:=true) ⟨o,ho,hc⟩ isSubtype_stop ?_);exact z3v (hQ _ _ hk)
end
section
variable {X:Cx} {pins:List (Addr×Obj)} {σ:St} {H:Hp} {s:Shared} {h':Heap}
theorem FpOk.ch {fp:List Addr} (hf:∀ b∈fp,FpOk X pins H b):∀ b∈fp,(b∈X.ex\/ X.s₀.heap.objs.size<=b)/\b≠X.env.locals/\(∀ x c,X.env.cells.lookup x=some c ->c≠b)/\∀ p∈X.pn++pins,p.1≠b:=λ b hb=>
 let ⟨_,f1,_,f3,f4,f5⟩:=hf b hb;⟨f3,f1,f4,f5⟩
theorem q3o {fp:List Addr} {t':Nat} (I:Inv X pins σ H s) (O:∀ b∈fp,FpOk X pins H b) (k:∀ b o,b∉fp ->s.heap.get? b=some o ->h'.get? b=some o):Inv X pins σ H {s with heap:=h',toks:=t'}:=by
 have L:∀ b u,H b=some u ->b∉fp:=λ b u e z=>by rw [(O b z).1] at e;cases e
 refine I.step (g':=s.gens) (d':=s.drawn) (ch:=fp) (FpOk.ch O) (λ b o _ _ J e _=>k b o J e) (λ b o _ _ J e _=>⟨o.slots,k b o J e⟩) (λ _ _ _ _ n=>n)
  (λ b o J e=>⟨o,k b o J e⟩) (λ _ _ e=>e) (λ _ _ _ e=>e) (λ b ps e=>⟨#[],by rw [e];simp⟩) (λ m hm=> ?_) (λ b u e=> ?_) I.bare
 ·obtain ⟨o,es,ep,ho,r⟩:=hm;exact ⟨o,es,ep,k _ o (λ z=>(O _ z).2.1 rfl) ho,r⟩
 ·refine (I.hok b u e).stay (λ c v J q=>k c v ?_ q) (λ _ q=>q) λ _ _ q=>q;rcases J with z | z
  ·rw [z];exact L b u e
  ·exact L c _ z
theorem qaj {fp:List Addr} {t':Nat} {a:Addr} {o:HO} (I:Inv X pins σ H s) (Y:∀ b∈fp,FpOk X pins H b) (k:∀ b o,b∉fp ->s.heap.get? b=some o ->h'.get? b=some o) (hp:s.heap.objs.size<=a)
  (new:ObjOk X.prog X.w (upd H a o) h' a o):Inv X pins σ (upd H a o) {s with heap:=h',toks:=t'}:=by
 have hn:H a=none:=I.hok.fresh hp;have O:∀ b u,H b=some u ->b∉fp:=λ b u e z=>by rw [(Y b z).1] at e;cases e
 have J:∀ {b u},H b=some u ->upd H a o b=some u:=λ {b u} q=>by rw [qd (q2d q hn)];exact q
 refine I.step (g':=s.gens) (d':=s.drawn) (ch:=fp) (FpOk.ch Y) (λ b o _ _ L e _=>k b o L e) (λ b o _ _ L e _=>⟨o.slots,k b o L e⟩)
  (λ b u L e n=>by rw [qd (z3i (z1i (z3h e) hp))];exact n)
  (λ b o L e=>⟨o,k b o L e⟩) (λ b xs e=>J e) (λ b o u e=>J e) (λ b ps e=>⟨#[],by rw [J e];simp⟩) (λ m hm=> ?_) (λ b u e=> ?_) I.bare
 ·obtain ⟨o,es,ep,ho,r⟩:=hm;exact ⟨o,es,ep,k _ o (λ z=>(Y _ z).2.1 rfl) ho,r⟩
 ·by_cases Z:b=a
  ·subst Z;rw [q0] at e;cases e
   exact new
  ·rw [qd Z] at e;refine (I.hok b u e).stay (λ c v L q=>k c v ?_ q) (λ c q=>J q) λ c xs q=>J q;rcases L with z | z
   ·rw [z];exact O b u e
   ·exact O c _ z
end
def Itz (K:PySem.W.Frag) (a b:Addr):It:=
  ⟨λ i H=>∃ xs ys x y,SqT K H a xs/\SqT K H b ys/\xs[i]? =some x/\ys[i]? =some y,
   λ i H v H'=>∃ p x y,v= .ref p/\H p=none/\H'=upd H p (.tup [x,y])/\∀ xs ys,SqT K H a xs ->SqT K H b ys ->xs[i]? =some x/\ys[i]? =some y,
   λ i H=>∃ xs ys,SqT K H a xs/\SqT K H b ys/\i=min xs.length ys.length⟩
theorem qp4 {P:Program} {w:World} {K:PySem.W.Frag} {elts:List Expr} {kk} {pos:Pos} (z TI TO i1 Z a b:Addr) (D:ZAp z TI TO i1 Z [i1,a] [Z,b]) (ha:a≠i1) (hb:b≠Z):
  Turn P w K (.Tuple elts kk pos) (Itz K a b) [z,TI,TO,i1,Z] z
   (λ i h=>IsZip h z TI TO .none/\IsPair h TI (.ref i1) (.ref Z)/\(∃ u v,IsPair h TO u v)/\h.IsTupleIter i1 a i/\h.IsTupleIter Z b i) where
 mem:=by simp
 obj:=λ i h st c J=>by
  obtain ⟨hz,L,⟨u,v,O⟩,⟨o1,e1,_,d1⟩,⟨o2,e2,_,d2⟩⟩:=st;simp only [z37,z2g,or_false] at J;rcases J with rfl | rfl | rfl | rfl | rfl
  ·exact ⟨_,hz,λ _ q=>by cases q⟩
  ·exact ⟨_,L,λ _ q=>by cases q⟩
  ·exact ⟨_,O,λ _ q=>by cases q⟩
  ·exact ⟨_,e1,λ _ q=>by rw [d1] at q;cases q⟩
  ·exact ⟨_,e2,λ _ q=>by rw [d2] at q;cases q⟩
 keep:=λ i h h' st k=>by
  obtain ⟨hz,L,⟨u,v,O⟩,h1,h2⟩:=st;exact ⟨k z (by simp) _ hz,k TI (by simp) _ L,⟨u,v,k TO (by simp) _ O⟩,h1.at λ o e=>k i1 (by simp) o e,h2.at λ o e=>k Z (by simp) o e⟩
 item:=by
  intro X hP hw hK J i pins s σ H E I hf st hg;subst hP hw hK;obtain ⟨xs,ys,x,y,a2,a3,hx,hy⟩:=hg;obtain ⟨its,ra,pa,_⟩:=I.tuple a2;obtain ⟨a0,rb,pb,_⟩:=I.tuple a3;obtain ⟨u,hu,ru⟩:=ra.get hx;obtain ⟨v,hv,rv⟩:=rb.get hy;obtain ⟨hz,L,⟨u0,v0,O⟩,h1,h2⟩:=st;have a9:i < its.toArray.size:=by
   have:=(z06.mp hu).1
   simpa using this
  have b0:i < a0.toArray.size:=by
   have:=(z06.mp hv).1
   simpa using this
  refine qai (I.ok.hd J) D (λ A hA=>q4u hA i1 a ha its.toArray) (λ A hA=>q4u hA Z b hb a0.toArray) hz L O ⟨h1,pa⟩ ⟨h2,pb⟩ a9 b0 λ u' v' h' tk e1 e2 b1 a5 b3 b4 hT hsz hk=> ?_;have a6:u'=u:=by simpa [hu] using e1.symm
  have a7:v'=v:=by simpa [hv] using e2.symm
  subst a6 a7;refine ⟨_,zr,wpAny_letOwnedTupleGo_zip b1 λ h2 b2 Y=> ?_⟩;have b5:z < s.heap.objs.size:=z3h hz;have a8:IsPair h2 s.heap.objs.size u' v':=Y.extBut _ _ (z3k b5) hT;have I2:Inv X pins σ (upd H s.heap.objs.size (.tup [x,y])) {s with heap:=h2,toks:=tk}:=by
   refine qaj (s:=s) (fp:=[z,TI,TO,i1,Z]) I hf (λ c o J e=> ?_) (z3q _) ?_
   ·simp only [z37,z2g,or_false,not_or] at J;exact Y.extBut _ _ J.1 (hk c o J.1 J.2.2.1 J.2.2.2.1 J.2.2.2.2 e)
   ·exact ⟨by show 2<=sizeLine;decide,[u',v'],.cons ru (.cons rv .nil),_,a8,rfl,_,rfl⟩
  refine ⟨.ref s.heap.objs.size,upd H s.heap.objs.size (.tup [x,y]),I2,zr,⟨_,x,y,zr,I.fresh,zr,λ xs' ys' q1 q2=> ?_⟩,⟨b2,?_,⟨_,_,Y.extBut _ _ D.TOz a5⟩,b3.1.extBut Y.extBut D.i1z,b4.1.extBut Y.extBut D.i2z⟩,λ c J=> ?_⟩
  ·rw [I.q8p q1 a2,I.q8p q2 a3];exact ⟨hx,hy⟩
  ·exact Y.extBut _ _ D.TIz (hk _ _ D.TIz D.TITO D.TIi1 D.TIi2 L)
  ·rw [qd]
   ·exact (hf c J).1
   ·simp only [z37,z2g,or_false] at J;obtain ⟨o1,g1,_⟩:=h1;obtain ⟨o2,g2,_⟩:=‹s.heap.IsTupleIter Z b i›;rcases J with rfl | rfl | rfl | rfl | rfl
    ·exact z3i (z3h hz)
    ·exact z3i (z3h L)
    ·exact z3i (z3h O)
    ·exact z3i (z3h g1)
    ·exact z3i (z3h g2)
 done:=by
  intro X hP hw hK J i pins s σ H E I hf st hg;subst hP hw hK;obtain ⟨xs,ys,a2,a3,hi⟩:=hg;obtain ⟨its,ra,pa,_⟩:=I.tuple a2;obtain ⟨a0,rb,pb,_⟩:=I.tuple a3;obtain ⟨hz,L,⟨u0,v0,O⟩,h1,h2⟩:=st;have l1:its.toArray.size=xs.length:=by rw [z1t];exact ra.length.symm
  have l2:a0.toArray.size=ys.length:=by rw [z1t];exact rb.length.symm
  refine q6b (I.ok.hd J) D (λ A hA=>q4u hA i1 a ha its.toArray) (λ A hA=>q4u hA Z b hb a0.toArray) hz L O ⟨h1,pa⟩ ⟨h2,pb⟩ ?_ λ h' tk hk=>⟨zr,q3o I hf λ c o J e=> ?_⟩
  ·rw [l1,l2];omega
  ·simp only [z37,z2g,or_false,not_or] at J;exact hk c o J.1 J.2.2.1 J.2.2.2.1 J.2.2.2.2 e
 self:=λ _ _ _ _ _ st h=>wpAny_pyIter_zip st.1 h
abbrev zpH1 (h:Heap) (l1:Addr):Heap:=h.push {cls:= .type "tuple_iterator",data:= .fields #[.ref l1,.int 0 0]}
abbrev zpH2 (h:Heap) (l1 l2:Addr):Heap:=(zpH1 h l1).push {cls:= .type "tuple_iterator",data:= .fields #[.ref l2,.int 0 0]}
abbrev zpH3 (h:Heap) (l1 l2:Addr):Heap:=(zpH2 h l1 l2).push {cls:= .type "tuple",data:= .seq #[.ref h.objs.size,.ref (zpH1 h l1).objs.size]}
abbrev zpH4 (h:Heap) (l1 l2:Addr):Heap:=(zpH3 h l1 l2).push {cls:= .type "tuple",data:= .seq #[.none,.none]}
abbrev zpH5 (h:Heap) (l1 l2:Addr):Heap:=(zpH4 h l1 l2).push {cls:= .type "zip",data:= .fields #[.none,.bool false,.bool false,.ref (zpH2 h l1 l2).objs.size,.ref (zpH3 h l1 l2).objs.size]}
theorem qkm (l1 l2:Addr) (xs ys:Array Value):
  Meets (Builtin.«zip.__new__» ⟨[.type "zip",.ref l1,.ref l2],[]⟩) (λ _ R s=>s.heap.IsTuple l1 xs/\s.heap.IsTuple l2 ys/\
   R (.ok (.ret (.ref (zpH4 s.heap l1 l2).objs.size))) {s with heap:=zpH5 s.heap l1 l2}):=
 .of_wp λ prog w A R s h=>by
  obtain ⟨Z,g,d,tk,os⟩:=s;obtain ⟨O,Y,h⟩:=h;have a0:=sub_zip;have J:Heap.IsTuple (Shared.heap ⟨Z,g,d,tk,os⟩) l1 xs:=O;have L:Heap.IsTuple (Shared.heap ⟨Z.push {cls:= .type "tuple_iterator",data:= .fields #[.ref l1,.int 0 0]},g,d,tk,os⟩) l2 ys:=Heap.IsTuple.push Y _
  wp_walk using wpAny_pyIter_tuple J,wpAny_pyIter_tuple L
  exact ⟨_,zr,h⟩
section
variable {prog:Program} {w:World} {A:Around} {E:Value ->Shared ->Prop} {s:Shared}
theorem qmw {l1 l2:Addr} {xs ys:Array Value} {Q:Value ->Shared ->Prop} (L:s.heap.IsTuple l1 xs) (O:s.heap.IsTuple l2 ys)
  (h:∀ h',IsZip h' (s.heap.objs.size+4) (s.heap.objs.size+2) (s.heap.objs.size+3) .none ->IsPair h' (s.heap.objs.size+2) (.ref s.heap.objs.size) (.ref (s.heap.objs.size+1)) ->
   IsPair h' (s.heap.objs.size+3) .none .none ->h'.IsTupleIter s.heap.objs.size l1 0 ->h'.IsTupleIter (s.heap.objs.size+1) l2 0 ->h'.objs.size=s.heap.objs.size+5 ->
   (∀ c o,s.heap.get? c=some o ->h'.get? c=some o) ->Q (.ref (s.heap.objs.size+4)) {s with heap:=h'}):
  wpAny (model prog w) A (call (.type "zip") [.ref l1,.ref l2]) Q E s:=by
 refine callType_new F.called_zip (by decide) (F.typeCall_zip_2 _ _) (F.newCall_zip_2 _ _) (λ obj=>F.args_object_init_3 obj _ _) F.entry_zip_new
  (qkm l1 l2 xs ys) ⟨L,O,?_⟩
 have z1:(zpH1 s.heap l1).objs.size=s.heap.objs.size+1:=z31 ..;have z2:(zpH2 s.heap l1 l2).objs.size=s.heap.objs.size+2:=by rw [z31,z1]
 have Y:(zpH3 s.heap l1 l2).objs.size=s.heap.objs.size+3:=by rw [z31,z2]
 have Z:(zpH4 s.heap l1 l2).objs.size=s.heap.objs.size+4:=by rw [z31,Y]
 have z5:(zpH5 s.heap l1 l2).objs.size=s.heap.objs.size+5:=by rw [z31,Z]
 have J:(zpH5 s.heap l1 l2).get? (zpH4 s.heap l1 l2).objs.size=some _:=z16 _ rfl;have g4:(zpH5 s.heap l1 l2).get? (zpH3 s.heap l1 l2).objs.size=some _:=z0k _ (z16 _ rfl);have g3:(zpH5 s.heap l1 l2).get? (zpH2 s.heap l1 l2).objs.size=some _:=z0k _ (z0k _ (z16 _ rfl));have g2:(zpH5 s.heap l1 l2).get? (zpH1 s.heap l1).objs.size=some _:=z0k _ (z0k _ (z0k _ (z16 _ rfl)));have g1:(zpH5 s.heap l1 l2).get? s.heap.objs.size=some _:=z0k _ (z0k _ (z0k _ (z0k _ (z16 _ rfl))));show _/\_;rw [z2,Y,Z] at J;rw [z1,z2] at g3;rw [Y] at g4;rw [z1] at g2;rw [Z];exact ⟨⟨_,J,zr⟩,h _ J g3 g4 ⟨_,g1,zr,zr⟩ ⟨_,g2,zr,zr⟩ z5 λ c o x=>
  z0k _ (z0k _ (z0k _ (z0k _ (z0k _ x))))⟩
end
theorem qs1 {n a b:Addr} (h1:a < n) (h2:b < n):ZAp (n+4) (n+2) (n+3) n (n+1) [n,a] [n+1,b]:=by
 have D:=PyProof.Rows.zipApart_new (n:=n) (l1:=a) (l2:=b) h1 h2;have J:∀ {x y z:Addr},y≠x ->z≠x ->x∉ [y,z]:=λ {x y z} p q h=>by
  simp only [z37,z2g,or_false] at h;rcases h with h | h
  ·exact p h.symm
  ·exact q h.symm
 exact ⟨D.TIz,D.TOz,D.i1z,D.i2z,D.TITO,D.TIi1,D.TIi2,D.TOi1,D.TOi2,D.i12,J D.i1z D.l1z,J D.TOi1.symm D.l1TO,J D.i12 D.l1i2,J D.i2z D.l2z,J D.TOi2.symm D.l2TO,J D.i12.symm D.l2i1⟩
section
variable {X:Cx} {elts:List Expr} {pt:Pos}
def iZip (K:PySem.W.Frag) (ta:TA):TI:=λ σ H R=>ta σ H λ vs H1=>∃ a b,vs=[.ref a,.ref b]/\(∃ xs,SqT K H1 a xs)/\(∃ ys,SqT K H1 b ys)/\R (Itz K a b) H1
theorem quc (K:PySem.W.Frag) {kk} {a b:Expr} {ta:TA} {p pos:Pos} (hg:Gl X "zip") (hm:X.mg "zip"=none) (ha:PA X [a,b] ta) (hs:starEach [a,b] X.env=[(false,eval a X.env),(false,eval b X.env)]:=by rfl) (J:starEach [b] X.env=[(false,eval b X.env)]:=by rfl) (hK:X.K=K:=by rfl):
  PI X (.Tuple elts kk pt) (.Call (.Name "zip" p) [a,b] [] pos) (iZip K ta):=by
 subst hK;intro pins s σ H R I h;refine Call_ (q5p I hg hm qmk (z02 (thn (ha pos pins s σ H _ I h) λ us s1 Z=> ?_) (by rw [hs,J]) (by rw [J];rfl)));obtain ⟨vs,H1,I1,r1,q1⟩:=Z;obtain ⟨x,y,e,⟨xs,hx⟩,⟨ys,hy⟩,q⟩:=q1;subst e;cases r1 with
 | cons r Y=>
  cases Y with
  | cons r' Y=>
   cases Y
   cases r
   cases r'
   obtain ⟨its,ra,pa,_⟩:=I1.tuple hx;obtain ⟨jts,rb,pb,_⟩:=I1.tuple hy;have la:x < s1.heap.objs.size:=by obtain ⟨_,e,_⟩:=id pa;exact z3h e
   have lb:y < s1.heap.objs.size:=by obtain ⟨_,e,_⟩:=id pb;exact z3h e
   refine qmw pa pb λ h' hz L O g1 g2 hsz hk=>wpAny_pyIter_zip hz ?_;refine ⟨_,_,_,_,H1,zr,I1.kept (t':=s1.toks) hk,qp4 (s1.heap.objs.size+4) (s1.heap.objs.size+2) (s1.heap.objs.size+3) s1.heap.objs.size (s1.heap.objs.size+1) x y (qs1 la lb) (z3i la) (z3i (z23 lb)),⟨hz,L,⟨_,_,O⟩,g1,g2⟩,λ c hc=> ?_,q⟩;have le:s1.heap.objs.size<=c:=by
    simp only [z37,z2g,or_false] at hc;rcases hc with rfl | rfl | rfl | rfl | rfl
    ·exact Nat.le_add_right _ 4
    ·exact Nat.le_add_right _ 2
    ·exact Nat.le_add_right _ 3
    ·exact z3q _
    ·exact Nat.le_add_right _ 1
   exact I1.fpOk le (I1.hok.fresh le)
end
theorem qs2 {K:PySem.W.Frag} {a b:Addr} {xs ys:List V} {g:TG} {tb:TS} {D:Ends} {σ:St} {H:Hp} (J:Nat ->St ->Hp ->Prop) (h0:J 0 σ H) (hl:∀ i σ H,i<=min xs.length ys.length ->J i σ H ->SqT K H a xs/\SqT K H b ys)
  (hs:∀ i x y p σ H,xs[i]? =some x ->ys[i]? =some y ->H p=none ->J i σ H ->g (.ref p) σ (upd H p (.tup [x,y])) λ σ2 H2=>tb {D with nx:=J (i+1),ct:=J (i+1),bk:=D.nx} σ2 H2) (he:∀ σ H,J (min xs.length ys.length) σ H ->D.nx σ H):
  ∃ W:Nat ->Nat ->St ->Hp ->Prop,(∃ m,W 0 m σ H)/\∀ i m σ H,W i m σ H ->((Itz K a b).stop i H/\D.nx σ H)\/ ((Itz K a b).go i H/\∃ N:St ->Hp ->Prop,(∀ σ' H',N σ' H' ->∃ L,L < m/\W (i+1) L σ' H')/\∀ x H',(Itz K a b).yld i H x H' ->g x σ H' λ σ2 H2=>tb {D with nx:=N,ct:=N,bk:=D.nx} σ2 H2):=by
 refine qmh (min xs.length ys.length) J h0 (λ i σ H hi p=> ?_) (λ σ H p=>⟨⟨xs,ys,(hl _ σ H (z3q _) p).1,(hl _ σ H (z3q _) p).2,zr⟩,he σ H p⟩) λ i σ H hi p x H' y=> ?_
 ·obtain ⟨q1,q2⟩:=hl i σ H (z3g hi) p;have l1:i < xs.length:=by omega
  have l2:i < ys.length:=by omega
  exact ⟨xs,ys,xs[i],ys[i],q1,q2,z0c l1,z0c l2⟩
 ·obtain ⟨q1,q2⟩:=hl i σ H (z3g hi) p;obtain ⟨c,x',y',rfl,hc,rfl,hq⟩:=y;obtain ⟨e1,e2⟩:=hq xs ys q1 q2;exact hs i x' y' c σ H e1 e2 hc p
section
variable {X:Cx}
end
theorem MDef.mono {P:Program} {w:World} {K:PySem.W.Frag} {mg:Str ->Option Value} {base:Heap} {j k:Nat} {C:Addr} {m:Str} {ps:List Str} {sp:Sp} (D:MDef P w K mg base j C m ps sp) (h:j<=k):MDef P w K mg base k C m ps sp:=by
 obtain ⟨f,fd,F,hm,hb⟩:=D.ex;exact ⟨f,fd,F.mono h,hm,hb⟩
def qmx {ι:Type} (cls:ι ->Addr) (m:Str) (sp:ι ->Sp) (ta:TE) (t:TA):TE:=λ σ H Q=>ta σ H λ x H1=>∃ i a dx fs,x= .ref a/\H1 a=some (.ins (cls i) dx fs)/\fs.lookup m=none/\
 t σ H1 λ vs H2=>sp i (x::vs) H2 Q E0
section
variable {X:Cx} {k k':Nat} {ι:Type} {cls:ι ->Addr} {ps:List Str} {sp:ι ->Sp} {x m:Str} {p pos apos:Pos} {e o:Expr} {es:List Expr} {ta:TE} {t:TA}
theorem qp5 {pl:Sem Bool} (D:∀ i,MDef X.prog X.w X.K X.mg X.base k (cls i) m ps (sp i)) (c:∀ i,Cls X.K (cls i)) (hr:Room k' X.A) (he:PE X o ta) (ha:PA X (e::es) t) (J:k<=k':=by decide)
  (O:starEach (e::es) X.env=(false,eval e X.env)::starEach es X.env:=by rfl) (L:(backTo pos (starEach es X.env)).any (·.1)=false:=by rfl)
  (ht:eval (.Call (.Attribute o m apos) (e::es) [] pos) X.env=(do
   let ov <- eval o X.env
   standAt apos.atName
   let (f,first) <- holding [ov] (getMethod ov m pl)
   callWith pos f first (backTo pos (starEach (e::es) X.env)) (backToKw pos (keywordEach [] X.env))):=by rfl):
  PE X (.Call (.Attribute o m apos) (e::es) [] pos) (qmx cls m sp ta t):=by
 intro pins s σ H Q I h;refine PySem.W.methodCall_KW (pl:=pl) (thn (he pins s σ H _ I h) λ u s1 Y=> ?_) ht;obtain ⟨x,H1,I1,rx,i,a,dx,fs,ex,ea,l,q⟩:=Y;obtain ⟨f,fd,F,Z,hb⟩:=(D i).ex;subst ex;obtain rfl:u=Value.ref a:=rx;refine q7e I1 ea (c i) Z l ?_;refine PySem.W.callWith_K (first:=[.ref a]) (h₀:=X.base) I.ok.mod.kin Z.kp (thn (ha pos pins s1 σ H1 _ I1 q) λ us s2 ⟨vs,H2,I2,r,q2⟩=>⟨I2.kIn,?_⟩) O L;exact qby (us:= .ref a::us) (vs:= .ref a::vs) F (hr.mono J) hb .nil qc1 I2 (.cons rfl r) (by rw [z2p];exact q2)
theorem qmy {pl:Sem Bool} (D:∀ i,MDef X.prog X.w X.K X.mg X.base k (cls i) m ps (sp i)) (c:∀ i,Cls X.K (cls i)) (hr:Room k' X.A) (he:PE X o ta) (J:k<=k':=by decide)
  (ht:eval (.Call (.Attribute o m apos) [] [] pos) X.env=(do
   let ov <- eval o X.env
   standAt apos.atName
   let (f,first) <- holding [ov] (getMethod ov m pl)
   callWith pos f first (backTo pos (starEach [] X.env)) (backToKw pos (keywordEach [] X.env))):=by rfl):
  PE X (.Call (.Attribute o m apos) [] [] pos) (qmx cls m sp ta tNil):=by
 intro pins s σ H Q I h;refine PySem.W.methodCall_KW (pl:=pl) (thn (he pins s σ H _ I h) λ u s1 L=> ?_) ht;obtain ⟨x,H1,I1,rx,i,a,dx,fs,ex,ea,l,q⟩:=L;obtain ⟨f,fd,F,O,hb⟩:=(D i).ex;subst ex;obtain rfl:u=Value.ref a:=rx;refine q7e I1 ea (c i) O l ?_;exact PySem.W.callWith_K0 (first:=[.ref a]) I1.kIn O.kp (qby (us:=[.ref a]) (vs:=[.ref a]) F (hr.mono J) hb .nil qc1 I1 (.cons rfl .nil) q)
theorem qp6 {C:Addr} (hg:Gl X x) (hm:X.mg x=some (.ref C)) (hd:(x==("__debug__":Str))=false:=by decide):PE X (.Name x pos) (tC (.ref C)):=qd5 hg hm rfl hd
end
section
open PySem.AutoSeq1
end
section
variable {X:Cx}
end
def Asc (z:Str):Prop:=∀ c∈z.cps.toList,c < 128
def Itx (a b:Str):It:=
  ⟨λ i H=>∃ x y,a.cps[i]? =some x/\b.cps[i]? =some y,
   λ i H v H'=>∃ p x y,v= .ref p/\H p=none/\H'=upd H p (.tup [.str ⟨#[x]⟩,.str ⟨#[y]⟩])/\a.cps[i]? =some x/\b.cps[i]? =some y,
   λ i H=>i=min a.length b.length⟩
theorem qmz {P:Program} {w:World} {K:PySem.W.Frag} {elts:List Expr} {kk} {pos:Pos} (z TI TO i1 Z:Addr) (a b:Str) (ta tb:Tok) (D:ZAp z TI TO i1 Z [i1] [Z]):
  Turn P w K (.Tuple elts kk pos) (Itx a b) [z,TI,TO,i1,Z] z
   (λ i h=>IsZip h z TI TO .none/\IsPair h TI (.ref i1) (.ref Z)/\(∃ u v,IsPair h TO u v)/\h.IsStrIter i1 "str_ascii_iterator" a ta i/\h.IsStrIter Z "str_ascii_iterator" b tb i) where
 mem:=by simp
 obj:=λ i h st c J=>by
  obtain ⟨hz,L,⟨u,v,O⟩,⟨o1,e1,_,d1⟩,⟨o2,e2,_,d2⟩⟩:=st;simp only [z37,z2g,or_false] at J;rcases J with rfl | rfl | rfl | rfl | rfl
  ·exact ⟨_,hz,λ _ q=>by cases q⟩
  ·exact ⟨_,L,λ _ q=>by cases q⟩
  ·exact ⟨_,O,λ _ q=>by cases q⟩
  ·exact ⟨_,e1,λ _ q=>by rw [d1] at q;cases q⟩
  ·exact ⟨_,e2,λ _ q=>by rw [d2] at q;cases q⟩
 keep:=λ i h h' st k=>by
  obtain ⟨hz,L,⟨u,v,O⟩,⟨o1,e1,c1,d1⟩,⟨o2,e2,c2,d2⟩⟩:=st;exact ⟨k z (by simp) _ hz,k TI (by simp) _ L,⟨u,v,k TO (by simp) _ O⟩,⟨o1,k i1 (by simp) _ e1,c1,d1⟩,⟨o2,k Z (by simp) _ e2,c2,d2⟩⟩
 item:=by
  intro X hP hw hK J i pins s σ H E I hf st hg;subst hP hw hK;obtain ⟨x,y,hx,hy⟩:=hg;obtain ⟨hz,L,⟨u0,v0,O⟩,h1,h2⟩:=st;have a3:i < a.cps.size:=(Array.getElem?_eq_some_iff.mp hx).1;have a5:i < b.cps.size:=(Array.getElem?_eq_some_iff.mp hy).1;refine qai (I.ok.hd J) D (λ A hA=>Draws.strAscii hA i1 a ta) (λ A hA=>Draws.strAscii hA Z b tb) hz L O h1 h2 a3 a5 λ u' v' h' tk e1 e2 a6 a0 a8 a9 hT hsz hk=> ?_;obtain ⟨c1,t1,g1,rfl⟩:=e1;obtain ⟨c2,t2,g2,rfl⟩:=e2;rw [hx] at g1;rw [hy] at g2;cases g1
  cases g2
  refine ⟨_,zr,wpAny_letOwnedTupleGo_zip a6 λ h2 a7 Y=> ?_⟩;have b0:z < s.heap.objs.size:=z3h hz;have a2:IsPair h2 s.heap.objs.size (.str ⟨#[x]⟩ t1) (.str ⟨#[y]⟩ t2):=Y.extBut _ _ (z3k b0) hT;have I2:Inv X pins σ (upd H s.heap.objs.size (.tup [.str ⟨#[x]⟩,.str ⟨#[y]⟩])) {s with heap:=h2,toks:=tk}:=by
   refine qaj (s:=s) (fp:=[z,TI,TO,i1,Z]) I hf (λ c o J e=> ?_) (z3q _) ?_
   ·simp only [z37,z2g,or_false,not_or] at J;exact Y.extBut _ _ J.1 (hk c o J.1 J.2.2.1 J.2.2.2.1 J.2.2.2.2 e)
   ·exact ⟨by show 2<=sizeLine;decide,_,.cons ⟨t1,rfl⟩ (.cons ⟨t2,rfl⟩ .nil),_,a2,rfl,_,rfl⟩
  refine ⟨.ref s.heap.objs.size,upd H s.heap.objs.size (.tup [.str ⟨#[x]⟩,.str ⟨#[y]⟩]),I2,zr,⟨_,x,y,zr,I.fresh,zr,hx,hy⟩,⟨a7,?_,⟨_,_,Y.extBut _ _ D.TOz a0⟩,?_,?_⟩,λ c J=> ?_⟩
  ·exact Y.extBut _ _ D.TIz (hk _ _ D.TIz D.TITO D.TIi1 D.TIi2 L)
  ·obtain ⟨o,q1,q2,q3⟩:=a8;exact ⟨o,Y.extBut _ _ D.i1z q1,q2,q3⟩
  ·obtain ⟨o,q1,q2,q3⟩:=a9;exact ⟨o,Y.extBut _ _ D.i2z q1,q2,q3⟩
  ·rw [qd]
   ·exact (hf c J).1
   ·simp only [z37,z2g,or_false] at J;obtain ⟨o1,g1,_⟩:=h1;obtain ⟨o2,g2,_⟩:=‹s.heap.IsStrIter Z "str_ascii_iterator" b tb i›;rcases J with rfl | rfl | rfl | rfl | rfl
    ·exact z3i (z3h hz)
    ·exact z3i (z3h L)
    ·exact z3i (z3h O)
    ·exact z3i (z3h g1)
    ·exact z3i (z3h g2)
 done:=by
  intro X hP hw hK J i pins s σ H E I hf st hg;subst hP hw hK;obtain ⟨hz,L,⟨u0,v0,O⟩,h1,h2⟩:=st;refine q6b (I.ok.hd J) D (λ A hA=>Draws.strAscii hA i1 a ta) (λ A hA=>Draws.strAscii hA Z b tb) hz L O h1 h2 ?_ λ h' tk hk=>⟨zr,q3o I hf λ c o J e=> ?_⟩
  ·have e1:a.length=a.cps.size:=rfl;have e2:b.length=b.cps.size:=rfl;have:i=min a.length b.length:=hg;omega
  ·simp only [z37,z2g,or_false,not_or] at J;exact hk c o J.1 J.2.2.1 J.2.2.2.1 J.2.2.2.2 e
 self:=λ _ _ _ _ _ st h=>wpAny_pyIter_zip st.1 h
abbrev zsH1 (h:Heap) (a:Str) (t:Tok):Heap:=h.push {cls:= .type "str_ascii_iterator",data:= .fields #[.str a t,.int 0 0]}
abbrev zsH2 (h:Heap) (a:Str) (t:Tok) (b:Str) (u:Tok):Heap:=(zsH1 h a t).push {cls:= .type "str_ascii_iterator",data:= .fields #[.str b u,.int 0 0]}
abbrev zsH3 (h:Heap) (a:Str) (t:Tok) (b:Str) (u:Tok):Heap:=(zsH2 h a t b u).push {cls:= .type "tuple",data:= .seq #[.ref h.objs.size,.ref (zsH1 h a t).objs.size]}
abbrev zsH4 (h:Heap) (a:Str) (t:Tok) (b:Str) (u:Tok):Heap:=(zsH3 h a t b u).push {cls:= .type "tuple",data:= .seq #[.none,.none]}
abbrev zsH5 (h:Heap) (a:Str) (t:Tok) (b:Str) (u:Tok):Heap:=(zsH4 h a t b u).push {cls:= .type "zip",data:= .fields #[.none,.bool false,.bool false,.ref (zsH2 h a t b u).objs.size,.ref (zsH3 h a t b u).objs.size]}
theorem qkn (a:Str) (t:Tok) (b:Str) (u:Tok) (ha:(a.cps.all λ x=>decide (x < 128))=true) (hb:(b.cps.all λ x=>decide (x < 128))=true):
  Meets (Builtin.«zip.__new__» ⟨[.type "zip",.str a t,.str b u],[]⟩) (λ _ R s=>
   R (.ok (.ret (.ref (zsH4 s.heap a t b u).objs.size))) {s with heap:=zsH5 s.heap a t b u}):=
 .of_wp λ prog w A R s h=>by
  obtain ⟨hp,g,d,tk,os⟩:=s;have J:=sub_zip
  wp_walk using wpAny_pyIter_ascii ha,wpAny_pyIter_ascii hb
  exact ⟨_,zr,h⟩
section
variable {prog:Program} {w:World} {A:Around} {E:Value ->Shared ->Prop} {s:Shared}
theorem qn0 {a b:Str} {t u:Tok} {Q:Value ->Shared ->Prop} (ha:(a.cps.all λ x=>decide (x < 128))=true) (hb:(b.cps.all λ x=>decide (x < 128))=true)
  (h:∀ h',IsZip h' (s.heap.objs.size+4) (s.heap.objs.size+2) (s.heap.objs.size+3) .none ->IsPair h' (s.heap.objs.size+2) (.ref s.heap.objs.size) (.ref (s.heap.objs.size+1)) ->
   IsPair h' (s.heap.objs.size+3) .none .none ->h'.IsStrIter s.heap.objs.size "str_ascii_iterator" a t 0 ->h'.IsStrIter (s.heap.objs.size+1) "str_ascii_iterator" b u 0 ->h'.objs.size=s.heap.objs.size+5 ->
   (∀ c o,s.heap.get? c=some o ->h'.get? c=some o) ->Q (.ref (s.heap.objs.size+4)) {s with heap:=h'}):
  wpAny (model prog w) A (call (.type "zip") [.str a t,.str b u]) Q E s:=by
 refine callType_new F.called_zip (by decide) (F.typeCall_zip_2 _ _) (F.newCall_zip_2 _ _) (λ obj=>F.args_object_init_3 obj _ _) F.entry_zip_new
  (qkn a t b u ha hb) ?_
 have z1:(zsH1 s.heap a t).objs.size=s.heap.objs.size+1:=z31 ..;have z2:(zsH2 s.heap a t b u).objs.size=s.heap.objs.size+2:=by rw [z31,z1]
 have L:(zsH3 s.heap a t b u).objs.size=s.heap.objs.size+3:=by rw [z31,z2]
 have O:(zsH4 s.heap a t b u).objs.size=s.heap.objs.size+4:=by rw [z31,L]
 have z5:(zsH5 s.heap a t b u).objs.size=s.heap.objs.size+5:=by rw [z31,O]
 have J:(zsH5 s.heap a t b u).get? (zsH4 s.heap a t b u).objs.size=some _:=z16 _ rfl;have g4:(zsH5 s.heap a t b u).get? (zsH3 s.heap a t b u).objs.size=some _:=z0k _ (z16 _ rfl);have Z:(zsH5 s.heap a t b u).get? (zsH2 s.heap a t b u).objs.size=some _:=z0k _ (z0k _ (z16 _ rfl));have Y:(zsH5 s.heap a t b u).get? (zsH1 s.heap a t).objs.size=some _:=z0k _ (z0k _ (z0k _ (z16 _ rfl)));have g1:(zsH5 s.heap a t b u).get? s.heap.objs.size=some _:=z0k _ (z0k _ (z0k _ (z0k _ (z16 _ rfl))));show _/\_;rw [z2,L,O] at J;rw [z1,z2] at Z;rw [L] at g4;rw [z1] at Y;rw [O];exact ⟨⟨_,J,zr⟩,h _ J Z g4 ⟨_,g1,zr,zr⟩ ⟨_,Y,zr,zr⟩ z5 λ c o x=>
  z0k _ (z0k _ (z0k _ (z0k _ (z0k _ x))))⟩
end
theorem qp7 {n:Addr}:ZAp (n+4) (n+2) (n+3) n (n+1) [n] [n+1]:=by
 refine ⟨?_,?_,?_,?_,?_,?_,?_,?_,?_,?_,?_,?_,?_,?_,?_,?_⟩ <;> simp <;> omega
theorem Asc.all {z:Str} (h:Asc z):(z.cps.all λ x=>decide (x < 128))=true:=by
 rw [<- Array.all_toList,z2c];exact λ c hc=>z2y (h c hc)
section
variable {X:Cx} {elts:List Expr} {pt:Pos}
def qwq (ta:TA):TI:=λ σ H R=>ta σ H λ vs H1=>∃ a b:Str,vs=[.str a,.str b]/\Asc a/\Asc b/\R (Itx a b) H1
theorem qs3 {kk} {a b:Expr} {ta:TA} {p pos:Pos} (hg:Gl X "zip") (hm:X.mg "zip"=none) (ha:PA X [a,b] ta) (hs:starEach [a,b] X.env=[(false,eval a X.env),(false,eval b X.env)]:=by rfl) (J:starEach [b] X.env=[(false,eval b X.env)]:=by rfl):
  PI X (.Tuple elts kk pt) (.Call (.Name "zip" p) [a,b] [] pos) (qwq ta):=by
 intro pins s σ H R I h;refine Call_ (q5p I hg hm qmk (z02 (thn (ha pos pins s σ H _ I h) λ us s1 Z=> ?_) (by rw [hs,J]) (by rw [J];rfl)));obtain ⟨vs,H1,I1,r1,q1⟩:=Z;obtain ⟨x,y,e,hx,hy,q⟩:=q1;subst e;cases r1 with
 | cons r Y=>
  cases Y with
  | cons r' Y=>
   cases Y
   obtain ⟨t,rfl⟩:=r;obtain ⟨u,rfl⟩:=r';refine qn0 hx.all hy.all λ h' hz L O g1 g2 hsz hk=>wpAny_pyIter_zip hz ?_;refine ⟨_,_,_,_,H1,zr,I1.kept (t':=s1.toks) hk,qmz (s1.heap.objs.size+4) (s1.heap.objs.size+2) (s1.heap.objs.size+3) s1.heap.objs.size (s1.heap.objs.size+1) x y t u qp7,⟨hz,L,⟨_,_,O⟩,g1,g2⟩,λ c hc=> ?_,q⟩;have le:s1.heap.objs.size<=c:=by
    simp only [z37,z2g,or_false] at hc;rcases hc with rfl | rfl | rfl | rfl | rfl
    ·exact Nat.le_add_right _ 4
    ·exact Nat.le_add_right _ 2
    ·exact Nat.le_add_right _ 3
    ·exact z3q _
    ·exact Nat.le_add_right _ 1
   exact I1.fpOk le (I1.hok.fresh le)
end
theorem qp8 {a b:Str} {g:TG} {tb:TS} {D:Ends} {σ:St} {H:Hp} (J:Nat ->St ->Hp ->Prop) (h0:J 0 σ H)
  (hs:∀ i x y p σ H,a.cps[i]? =some x ->b.cps[i]? =some y ->H p=none ->J i σ H ->g (.ref p) σ (upd H p (.tup [.str ⟨#[x]⟩,.str ⟨#[y]⟩])) λ σ2 H2=>tb {D with nx:=J (i+1),ct:=J (i+1),bk:=D.nx} σ2 H2) (he:∀ σ H,J (min a.length b.length) σ H ->D.nx σ H):
  ∃ W:Nat ->Nat ->St ->Hp ->Prop,(∃ m,W 0 m σ H)/\∀ i m σ H,W i m σ H ->((Itx a b).stop i H/\D.nx σ H)\/ ((Itx a b).go i H/\∃ N:St ->Hp ->Prop,(∀ σ' H',N σ' H' ->∃ L,L < m/\W (i+1) L σ' H')/\∀ x H',(Itx a b).yld i H x H' ->g x σ H' λ σ2 H2=>tb {D with nx:=N,ct:=N,bk:=D.nx} σ2 H2):=by
 refine qmh (min a.length b.length) J h0 (λ i σ H hi p=> ?_) (λ σ H p=>⟨zr,he σ H p⟩) λ i σ H hi p x H' y=> ?_
 ·have l1:i < a.cps.size:=z1i hi (Nat.min_le_left ..);have l2:i < b.cps.size:=z1i hi (Nat.min_le_right ..);exact ⟨a.cps[i],b.cps[i],z0a l1,z0a l2⟩
 ·obtain ⟨c,x',y',rfl,hc,rfl,e1,e2⟩:=y;exact hs i x' y' c σ H e1 e2 hc p
theorem Vals.split {xs:List V} {us:List Value} (h:Vals xs us):∀ k,Vals (xs.take k) (us.take k)/\Vals (xs.drop k) (us.drop k):=by
 induction h with
 | nil=>intro k;rw [List.take_nil,List.drop_nil,List.take_nil,List.drop_nil];exact ⟨.nil,.nil⟩
 | cons a b J=>
  intro k;cases k with
  | zero=>exact ⟨.nil,.cons a b⟩
  | succ k=>exact ⟨.cons a (J k).1,(J k).2⟩
section
variable {X:Cx}
def qs4:V ->List V ->Hp ->VK ->Prop:=λ x vs H Q=>∃ (l:Addr) (xs:List V) (y:V) (k:Int),x= .ref l/\vs=[.int k,y]/\H l=some (.lst xs)/\xs.length < sizeLine/\0<=k/\k<=xs.length/\Q .non (upd H l (.lst (xs.take k.toNat++y::xs.drop k.toNat)))
theorem qn1:MtM X "list.insert" qs4:=by
 intro pins s σ H x vs v us Q I rx rv h;obtain ⟨l,xs,y,k,rfl,rfl,O,hz,hk0,hk,q⟩:=h;cases rx
 obtain ⟨u,w,rfl,⟨t,rfl⟩,L⟩:=qfg rv;obtain ⟨z,its,n,r,hl,e⟩:=I.lstM O;have hsz:its.toArray.size<=sizeLine:=by rw [z1t,<- hl];exact z
 have J:Builtin.List.listFitsIndex k=true:=by
  have h3:xs.length < 9223372036854775808:=z1i hz (by decide);have h1:decide (-(2^63:Int)<=k)=true:=z2y (by omega);have h2:decide (k < (2^63:Int))=true:=z2y (by omega);unfold Builtin.List.listFitsIndex;rw [h1,h2];decide
 have sp:=r.split k.toNat;refine call_meets F.slot_list_insert ⟨_,e,zr⟩ F.entry_list_insert (F.args_list_insert_3 _ _ _) (PySem.AutoSeq1.list_insert_list_int_val_1 l _ n k t w (by simp [J]) hsz) ⟨e,?_⟩;refine ⟨.non,_,I.lset (its':=its.take k.toNat++w::its.drop k.toNat) O e ?_ (sp.1.append (.cons L sp.2)) ?_,zr,q⟩
 ·have h0:¬ k < 0:=by omega
  have hm:min k.toNat its.length=k.toNat:=by omega
  simp only [if_neg h0,z1t,hm]
  apply Array.ext'
  simp only [z14,z1q,z0x,z1a];simp [List.extract_eq_drop_take,z0j]
 ·rw [z1f,z27,z25,z26];omega
end
end L2
namespace L2
open PySem PySem.Spec PyProof.Rows PySem.W
section
variable {prog:Program} {w:World} {A:Around} {E:Value ->Shared ->Prop} {s:Shared}
theorem q8x {fin:Bool} {r:Bool} {Q:Bool ->Shared ->Prop}:∀ (xs ys:List PyData) (vs ws:List Value) (as bs:List Addr) (i:Nat),ReadsAll s.heap vs xs as ->ReadsAll s.heap ws ys bs ->PyData.canLayAll0 xs=true ->PyData.canLayAll0 ys=true ->
  A.units+min (PyData.depthAll xs) (PyData.depthAll ys) < cLine ->fin=decide (vs.length < ws.length) ->lexD? xs ys=some r ->Q r s ->KatLex prog w A false fin Q (vs.zip ws) i s
 | [],[],_,_,_,_,i,Y,Z,_,_,_,O,e,q=>by
  cases Y
  cases Z
  cases e
  rw [List.zip_nil_left,O];exact q
 | [],_::_,_,_,_,_,i,Y,Z,_,_,_,O,e,q=>by
  cases Y
  cases Z
  cases e
  rw [List.zip_nil_left,O];refine kat_nil ?_;rw [z2y (by simp)];exact q
 | _::_,[],_,_,_,_,i,Y,Z,_,_,_,O,e,q=>by
  cases Y
  cases Z
  cases e
  rw [List.zip_nil_right,O];refine kat_nil ?_;rw [z2k (by simp)];exact q
 | x::xs,y::ys,_,_,_,_,i,Y,Z,ha,hb,hu,O,e,q=>by
  have J:x.canLay0=true/\PyData.canLayAll0 xs=true:=by simpa [PyData.canLayAll0] using ha
  have L:y.canLay0=true/\PyData.canLayAll0 ys=true:=by simpa [PyData.canLayAll0] using hb
  cases Y with
  | cons r1 rs=>
   cases Z with
   | cons a0 a2=>
    have eq:=SeqAt.eqAt_reads x y A s _ _ _ _ r1 a0 J.1 L.1 (SeqAt.room_head hu);rw [z1k];refine kat_cons (eq prog w _ _ ?_);rw [lexD?] at e;cases z:PyData.eqv x y with
    | true=>
     rw [if_pos z] at e;exact kat_yes (q8x xs ys _ _ _ _ (i+1) rs a2 J.2 L.2 (SeqAt.room_tail hu) (by rw [O];simp) e q)
    | false=>
     rw [if_neg (by rw [z];exact z1c)] at e;refine kat_no ?_;rw [z30];exact kat_one _ _ (qc5 x y A s _ _ _ _ r r1 a0 J.1 L.1 (SeqAt.room_head hu) e prog w _ _ q)
end
theorem qgl {rk:Value ->Int} {ks vs:List Value} {xs:Array Keyed} (hl:ks.length=vs.length) (Z:xs.Perm (ks.toArray.zip vs.toArray)) (hu:Tim.Up (λ p=>rk p.2) xs 0 vs.length):Tim.Sorted rk vs (xs.map (·.2)).toList:=by
 have Y:xs.toList.Perm (ks.zip vs):=by
  have:=z03.mp Z;rw [ksk_zip] at this
  simpa using this
 have hsz:xs.size=vs.length:=by
  rw [Z.size_eq,Array.size_zip,z1t,z1t];omega
 refine ⟨?_,?_⟩
 ·rw [Array.toList_map];have:=Y.map Prod.snd
  rwa [List.map_snd_zip (by omega)] at this
 ·rw [Array.toList_map,z07];intro i j hi hj O;rw [List.getElem_map,List.getElem_map];have L:i < xs.toList.length:=by simpa using hi
  have J:j < xs.toList.length:=by simpa using hj
  have:=hu i j (z3t _) (z3g O) (by rw [z13] at J;omega);rw [Tim.q27 xs i (z0c L),Tim.q27 xs j (z0c J)] at this;exact this
section
variable {X:Cx}
theorem qs5 {k:Nat} {f:Addr} {fd:FuncData} {ps:List Str} {sp:Sp} {pins:List (Addr×Obj)} {σ:St} {H:Hp} {s:Shared} {Q:VK} {us:List Value} {vs:List V} (F:FnOk X.prog X.w X.K X.mg X.base CX0 k f fd ps sp) (hr:Room (k+2) X.A) (hb:Binds X.K fd ps [])
  (I:Inv X pins σ H s) (r:Vals vs us) (h:sp vs H Q E0):wpAny (model X.prog X.w) X.A.in1.in1 (call (.ref f) us) (EP X pins σ Q) (λ _ _=>False) s:=by
 have hl:(us++ []).length=ps.length:=by
  rw [z2p,<- r.length];exact F.len _ _ _ _ h
 have J:=hb s us I.kIn hl;rw [z2p] at J;refine wpAny_call (z3l (F.run X.A.in1.in1 X.stack s H ⟨us,[]⟩ us vs Q E0 hr.in1.in1 I.env0.in1.in1 J r h) λ r s' hq=> ?_);cases r with
 | error e=>exact hq.elim
 | ok fl=>
  cases fl with
  | ret u=>exact I.after hq
  | next=>exact False.elim hq
  | brk=>exact False.elim hq
  | cont=>exact False.elim hq
theorem Inv.track {pins:List (Addr×Obj)} {σ:St} {H:Hp} {s:Shared} {a:Addr} {o:HO} (I:Inv X pins σ H s) (fa:FpOk X pins H a) (new:ObjOk X.prog X.w (upd H a o) s.heap a o):Inv X pins σ (upd H a o) s:=by
 have hn:H a=none:=fa.1;have J:∀ {b u},H b=some u ->upd H a o b=some u:=λ {b u} q=>by rw [qd (q2d q hn)];exact q
 have:=I.step (h':=s.heap) (H':=upd H a o) (t':=s.toks) (g':=s.gens) (d':=s.drawn) (ch:=[a]) (FpOk.ch (λ b O=>by rw [z1d.mp O];exact fa)) (λ b o _ _ L e _=>e) (λ b o _ _ L e _=>⟨o.slots,e⟩)
  (λ b u L e n=>by rw [qd (λ z=>L (by rw [z];exact z1d.mpr rfl))];exact n)
  (λ b o L e=>⟨o,e⟩) (λ b xs e=>J e) (λ b o u e=>J e) (λ b ps e=>⟨#[],by rw [J e];simp⟩) (λ m hm=>hm) (λ b u e=> ?_) I.bare
 ·exact this
 ·by_cases O:b=a
  ·subst O;rw [q0] at e;cases e
   exact new
  ·rw [qd O] at e;exact (I.hok b u e).stay (λ c v L q=>q) (λ _ q=>J q) λ _ _ q=>J q
section
variable {pins:List (Addr×Obj)} {σ:St} {H:Hp} {s:Shared} {a kS:Addr} {vs ks:List Value} {rk:Value ->Int} {e e1:Nat} {P:PySem.Fin ->Shared ->Prop} {E:Value ->Shared ->Prop} {A:Around}
theorem qgm {st:SortSt} (I:Inv X (pins++ [(a,seqObj "list" #[] e1),(kS,seqObj "list" ks.toArray e)]) σ H s) (fa:FpOk X pins H a) (fk:FpOk X pins H kS) (Z:kS≠a) (hl:ks.length=vs.length) (hz:vs.length<=sizeLine)
  (so:Tim.Sorted rk vs ((arrOf st).map (·.2)).toList) (Y:failedOf st=none)
  (h:∀ s' out c,Tim.Sorted rk vs out.toList ->Inv X pins σ H s' ->s'.heap.get? a=some (seqObj "list" out c) ->P (.done (.ret .none)) s'):wpAny (model X.prog X.w) A (ksk_tail a false e1 (.ref kS) st) P E s:=by
 have na:=(I.pin (a,seqObj "list" #[] e1) (z0s _ (z0s _ (.head _)))).1;have nk:=(I.pin (kS,seqObj "list" ks.toArray e) (z0s _ (z0s _ (.tail _ (.head _))))).1;have hsz:((arrOf st).map (·.2)).size=vs.length:=by rw [<- z13,so.perm.length_eq]
 have s1:=z15 s.heap kS (Obj.mapSeq λ _=>(#[]:Array Value));have J:(s.heap.update kS (Obj.mapSeq λ _=>(#[]:Array Value))).get? a=some (seqObj "list" #[] e1):=(s1.2 a Z.symm).trans na;have s2:=z15 (s.heap.update kS (Obj.mapSeq λ _=>(#[]:Array Value))) a (Obj.mapSeq λ _=>(arrOf st).map (·.2));obtain ⟨c2,O⟩:∃ c2,((s.heap.update kS (Obj.mapSeq λ _=>(#[]:Array Value))).update a (Obj.mapSeq λ _=>(arrOf st).map (·.2))).get? a=some (seqObj "list" ((arrOf st).map (·.2)) c2):=⟨_,get?_update_seq J λ _=>(arrOf st).map (·.2)⟩;unfold ksk_tail
 try dsimp only
 refine z3w (listUpdate_at nk rfl ?_ (by rw [z1t,hl];exact hz) (z3t _));refine z3w (wpAny_letGo ?_);refine z3w (seqEpoch_at J rfl ?_);refine z3w (listUpdate_at J rfl ?_ (z3t _) (by simp only [z1b,if_false];rw [hsz];exact Nat.le_succ_of_le hz));rw [Y];simp only [bne_self_eq_false,z1b,if_false];refine z3v (h _ _ c2 so (q3o (fp:=[a,kS]) I.unpinned (λ b L=> ?_) λ b o L g=> ?_) O)
 ·simp only [z37,z2g,or_false] at L;rcases L with rfl | rfl
  ·exact fa
  ·exact fk
 ·simp only [z37,z2g,or_false,not_or] at L;exact (s2.2 b L.1).trans ((s1.2 b L.2).trans g)
theorem qp9 {f:Addr} {n:Nat} (I:Inv X pins σ H s) (ha:s.heap.get? a=some (seqObj "list" vs.toArray n)) (fa:FpOk X pins H a) (hz:vs.length<=sizeLine)
    (J:Nat ->List Value ->Hp ->Prop) (j0:J 0 [] H)
    (turn:∀ i v ks L H' s',vs[i]? =some v ->ks.length=i ->J i ks H' ->Inv X L σ H' s' ->wpAny (model X.prog X.w) A (call (.ref f) [v]) (λ u Y=>∃ a6,Inv X L σ a6 Y/\J (i+1) (ks++ [u]) a6) (λ _ _=>False) s')
    (keys:∀ ks L H' s',ks.length=vs.length ->J vs.length ks H' ->Inv X L σ H' s' ->2<=vs.length ->
      ∃ kd:SortKind,(∀ (E:Value ->Shared ->Prop) (Q:SortKind ->Shared ->Prop),Q kd s' ->wpAny (model X.prog X.w) A (keyKind' ks.toArray) Q E s')/\∀ x∈ks.zip vs,∀ y∈ks.zip vs,Tim.KLt X.prog X.w A s' kd x.1 y.1 (decide (rk x.2 < rk y.2)))
    (h:∀ ks H' s' out c,J vs.length ks H' ->Tim.Sorted rk vs out.toList ->Inv X pins σ H' s' ->FpOk X pins H' a ->s'.heap.get? a=some (seqObj "list" out c) ->P (.done (.ret .none)) s'):
    wpAny (model X.prog X.w) A (ksk_tree a (.ref f) false) P E s:=by
  have b2:a < s.heap.objs.size:=z3h ha;have s1:=z15 s.heap a (Obj.mapSeq λ _=>(#[]:Array Value));obtain ⟨e1,a9⟩:∃ e1,(s.heap.update a (Obj.mapSeq λ _=>(#[]:Array Value))).get? a=some (seqObj "list" #[] e1):=⟨_,get?_update_seq ha λ _=>#[]⟩;have a8:((s.heap.update a (Obj.mapSeq λ _=>(#[]:Array Value))).push (seqObj "tuple" vs.toArray 0)).objs.size=s.heap.objs.size+1:=by rw [size_push',Heap.size_update]
  unfold ksk_tree;refine z3w (listItems_at ha rfl ?_);refine z3w (listUpdate_at ha rfl ?_ (by rw [z1t];exact hz) (z3t _));refine z3w (seqEpoch_at a9 rfl ?_);refine z3w (wpAny_newTuple ?_ (by rw [z1a];exact hz));refine z3w (wpAny_newList ?_ (z3t _));refine z38 ?_;have keep:∀ b o,(s.heap.update a (Obj.mapSeq λ _=>(#[]:Array Value))).get? b=some o ->(((s.heap.update a (Obj.mapSeq λ _=>(#[]:Array Value))).push (seqObj "tuple" vs.toArray 0)).push (seqObj "list" #[] 0)).get? b=some o:=λ b o z=>z0k _ (z0k _ z);have I6:Inv X pins σ H {s with heap:=((s.heap.update a (Obj.mapSeq λ _=>(#[]:Array Value))).push (seqObj "tuple" vs.toArray 0)).push (seqObj "list" #[] 0)}:=
    q3o (t':=s.toks) (fp:=[a]) I (λ b hb=>by rw [z1d.mp hb];exact fa) λ b o hb z=>keep b o ((s1.2 b λ w=>hb (by rw [w];exact z1d.mpr rfl)).trans z)
  have b0:(((s.heap.update a (Obj.mapSeq λ _=>(#[]:Array Value))).push (seqObj "tuple" vs.toArray 0)).push (seqObj "list" #[] 0)).get? ((s.heap.update a (Obj.mapSeq λ _=>(#[]:Array Value))).push (seqObj "tuple" vs.toArray 0)).objs.size=some (seqObj "list" #[] 0):=z16 _ rfl;have b3:=keep a _ a9;generalize hk0:((s.heap.update a (Obj.mapSeq λ _=>(#[]:Array Value))).push (seqObj "tuple" vs.toArray 0)).objs.size=kS at b0 a8;have fk:FpOk X pins H kS:=I.fpOk (by omega) (I.hok.fresh (by omega));have a5:kS≠a:=by rw [a8];exact z3k (z23 b2)
  have nc:∀ (xs:Array Value) (m:Nat) (v:Option Value),(seqObj "list" xs m).data≠ .cell v:=λ _ _ _ z=>nomatch z;have I7:Inv X (pins++ [(a,seqObj "list" #[] e1),(kS,seqObj "list" ([]:List Value).toArray 0)]) σ H {s with heap:=((s.heap.update a (Obj.mapSeq λ _=>(#[]:Array Value))).push (seqObj "tuple" vs.toArray 0)).push (seqObj "list" #[] 0)}:=I6.q9m λ p O=>by
    rcases z2i.mp O with O | O
    · exact I6.pin p (z0s _ O)
    · simp only [z37,z2g,or_false] at O
      rcases O with rfl | rfl
      · exact ⟨b3,fa.1,fa.2.1,fa.2.2.1,nc _ _⟩
      · exact ⟨b0,fk.1,fk.2.1,fk.2.2.1,nc _ _⟩
  unfold ksk_rest;refine z3w (z3u ?_)
  first
    | rw [List.forIn_toArray]
    | (rw [<- Array.forIn_toList];simp only [z1a])
    | rw [<- Array.forIn_toList]
  refine z3w (ksk_fold (λ i s'=>∃ H' ks e,Inv X (pins++ [(a,seqObj "list" #[] e1),(kS,seqObj "list" (ks:List Value).toArray e)]) σ H' s'/\J i ks H'/\ks.length=i) vs 0 _ ⟨H,[],0,I7,j0,zr⟩ ?step ?done)
  case step=>
    rintro j x s' hx ⟨H',ks,e,I',hj,lk⟩;simp only [z3f] at hj lk ⊢;have hjl:j < vs.length:=(z06.mp hx).1;refine z3w (z36 (z3x (turn j x ks _ H' s' hx lk hj I') (λ u Y he=> ?_) λ _ _ hF=>hF.elim));obtain ⟨H2,I2,j2⟩:=he
    try dsimp only
    have pa:=I2.pin (a,seqObj "list" #[] e1) (z0s _ (z0s _ (.head _)));have pk:=I2.pin (kS,seqObj "list" ks.toArray e) (z0s _ (z0s _ (.tail _ (.head _))));have u1:=z15 Y.heap kS (Obj.mapSeq (·.push u));obtain ⟨c2,b1⟩:∃ c2,(Y.heap.update kS (Obj.mapSeq (·.push u))).get? kS=some (seqObj "list" (ks.toArray.push u) c2):=⟨_,get?_update_seq pk.1 (·.push u)⟩;refine z3w (listUpdate_at pk.1 rfl ?_ (by rw [z1t];omega) (by rw [Array.size_push,z1t];omega));have I4:Inv X pins σ H2 {Y with heap:=Y.heap.update kS (Obj.mapSeq (·.push u))}:=q3o (t':=Y.toks) (fp:=[kS]) I2.unpinned (λ b hb=>by rw [z1d.mp hb];exact ⟨pk.2.1,fk.2⟩) λ b o hb z=>(u1.2 b λ w=>hb (by rw [w];exact z1d.mpr rfl)).trans z;refine z3v ⟨rfl,H2,ks++ [u],c2,I4.q9m λ p O=> ?_,j2,by rw [z1f,lk];rfl⟩;rcases z2i.mp O with O | O
    · exact I4.pin p (z0s _ O)
    · simp only [z37,z2g,or_false] at O
      rcases O with rfl | rfl
      · exact ⟨(u1.2 a a5.symm).trans pa.1,pa.2⟩
      · exact ⟨by rw [b1];simp,pk.2.1,pk.2.2.1,pk.2.2.2.1,nc _ _⟩
  case done=>
    rintro s' ⟨H',ks,e,I',hj,lk⟩;simp only [z3f] at hj lk;have pa:=I'.pin (a,seqObj "list" #[] e1) (z0s _ (z0s _ (.head _)));have pk:=I'.pin (kS,seqObj "list" ks.toArray e) (z0s _ (z0s _ (.tail _ (.head _))));have a0:FpOk X pins H' a:=⟨pa.2.1,fa.2⟩;have a7:FpOk X pins H' kS:=⟨pk.2.1,fk.2⟩
    try dsimp only
    refine z3w (listItems_at pk.1 rfl ?_);unfold ksk_end
    try dsimp only
    simp only [z1b,if_false];by_cases h2:vs.toArray.size < 2
    · rw [if_pos h2,if_pos h2]
      refine z3w (z3v ?_);rw [StateT.run_pure];refine z3w (z3v ?_)
      try dsimp only
      refine qgm (st:=SortSt.mk' general' (ks.toArray.zip vs.toArray) #[] 7 none) I' a0 a7 a5 lk hz ?_ rfl λ s2 out c so I2 g2=>h ks H' s2 out c hj so I2 a0 g2;have es:(((ks.toArray.zip vs.toArray)).map (·.2)).toList=vs:=by
        rw [Array.toList_map,ksk_zip,z1a,List.map_snd_zip (by omega)]
      show Tim.Sorted rk vs ((ks.toArray.zip vs.toArray).map (·.2)).toList;rw [es];refine ⟨List.Perm.refl _,?_⟩;rw [z1t] at h2
      match vs,h2 with
      | [],_=>exact .nil
      | [_],_=>exact z0f ..
    · rw [if_neg h2,if_neg h2]
      rw [z1t] at h2;obtain ⟨kd,kk,kl⟩:=keys ks _ H' s' lk hj I' (by omega);refine z3w (kk _ _ ?_);have b4:(ks.toArray.zip vs.toArray).size=vs.length:=by
        rw [Array.size_zip,z1t,z1t];omega
      have hS:∀ p∈(ks.toArray.zip vs.toArray).toList,p∈ks.zip vs:=λ p O=>by
        rw [ksk_zip,z1a] at O;exact O
      refine z3w (z3x (Tim.qbx (S:=λ p=>p∈ks.zip vs) (rk:=λ p=>rk p.2) (n:=vs.length) (st:=SortSt.mk' kd (ks.toArray.zip vs.toArray) #[] 7 none)
        (Q:=λ _ Z=>(arrOf Z).Perm (ks.toArray.zip vs.toArray)/\failedOf Z=none/\Tim.Up (λ p=>rk p.2) (arrOf Z) 0 vs.length)
        (Tim.qd2 λ x y hx hy=>kl x hx y hy) ⟨b4,hS,rfl,rfl⟩ (by omega) rfl λ Z a1 a2 a3=>⟨a1,a2,a3⟩) ?_ λ _ _ e=>e)
      rintro ⟨⟨⟩,Z⟩ s2 ⟨rfl,O,hf,hu⟩
      try dsimp only
      exact qgm I' a0 a7 a5 lk hz (qgl lk O hu) hf λ s3 out c so I3 g3=>h ks H' s3 out c hj so I3 a0 g3
end
end
theorem q7k {α β γ:Type} {F:α ->γ ->Prop} {G:β ->γ ->Prop}:∀ {ks:List α} {vs:List β} {l:List γ},Paired F ks l ->Paired G vs l ->∀ x∈ks.zip vs,∃ a∈l,F x.1 a/\G x.2 a
 | _,_,_,.nil,.nil,_,h=>nomatch h
 | _,_,_,.cons a r,.cons b q,x,h=>by
  rw [z1k] at h;rcases z37.mp h with rfl | h
  ·exact ⟨_,z1g ..,a,b⟩
  ·obtain ⟨z,hz,r1⟩:=q7k r q x h;exact ⟨z,z10 _ hz,r1⟩
theorem q36 {α β:Type} {F:α ->β ->Prop}:∀ {l:List α} {k:List β} {i:Nat} {x:α},Paired F l k ->l[i]? =some x ->∃ y,k[i]? =some y/\F x y
 | _,_,0,x,.cons a b,h=>by
  cases h
  exact ⟨_,zr,a⟩
 | _,_,i+1,x,.cons a b,h=>by
  obtain ⟨d,e,r⟩:=q36 (i:=i) (x:=x) b (by simpa using h);exact ⟨d,by simpa using e,r⟩
theorem paired_app {α β:Type} {F:α ->β ->Prop} {x:α} {y:β}:∀ {xs:List α} {ys:List β},Paired F xs ys ->F x y ->Paired F (xs++ [x]) (ys++ [y])
 | _,_,.nil,h=> .cons h .nil
 | _,_,.cons a b,h=> .cons a (paired_app b h)
theorem q8y {α β:Type} {F:α ->β ->Prop}:∀ {l:List α} {k:List β} {x:α},Paired F l k ->x∈l ->∃ y∈k,F x y
 | _,_,x,.cons a b,h=>by
  rcases z37.mp h with rfl | h
  ·exact ⟨_,z1g ..,a⟩
  ·obtain ⟨y,hy,r⟩:=q8y b h;exact ⟨y,z10 _ hy,r⟩
section
variable {X:Cx} {k k':Nat} {x p1:Str} {sp:Sp} {e:Expr} {t:TA} {p pos kpos xp:Pos}
end
end L2
namespace L2
open PySem PySem.Spec PyProof.Rows
section
variable {X:Cx}
end
def TupC (K:PySem.W.Frag) (a:Addr) (xs:List V):Prop:=∃ (o:Obj) (its:Array Value) (n:Nat),K.lookup a=some o/\o.cls= .type "tuple"/\o.data= .seq its n/\its.size<=sizeLine/\Vals xs its.toList
theorem qs6 {K:PySem.W.Frag} {a:Addr} {xs:List V} {od:Option Addr} {its:Array Value} {n:Nat} {sl:Array (Option Value)} (l:K.lookup a=some ⟨.type "tuple",od,.seq its n,sl⟩) (z:its.size<=sizeLine) (v:Vals xs its.toList):TupC K a xs:=⟨_,its,n,l,rfl,rfl,z,v⟩
section
variable {prog:Program} {w:World} {A:Around} {E:Value ->Shared ->Prop} {s:Shared}
end
section
variable {X:Cx} {elts:List Expr} {pt:Pos}
end
section
variable {prog:Program} {w:World} {A:Around} {E:Value ->Shared ->Prop} {s:Shared}
end
section
variable {X:Cx} {elts:List Expr} {pt:Pos}
end
section
variable {X:Cx} {k k':Nat} {C:Addr} {ps:List Str} {sp:Sp} {x:Str} {p pos:Pos} {e:Expr} {es:List Expr} {t:TA}
theorem qud (D:MDef X.prog X.w X.K X.mg X.base k C "__init__" ps sp) (hk:PySem.W.makesIn X.K C=true) (kp:PySem.W.keepIn X.K (.ref C)=true) (hr:Room k' X.A) (hg:Gl X x) (hm:X.mg x=some (.ref C)) (ha:PA X (e::es) t) (L:k+1<=k':=by decide)
  (J:(x==("__debug__":Str))=false:=by decide) (he:starEach (e::es) X.env=(false,eval e X.env)::starEach es X.env:=by rfl) (O:(backTo pos (starEach es X.env)).any (·.1)=false:=by rfl):PE X (.Call (.Name x p) (e::es) [] pos) (qqi C sp [] E0 t):=by
 obtain ⟨f,fd,F,h1,h3⟩:=D.ex;exact qre ⟨hk,h1.at_,h1.fn,kp⟩ F (hr.mono L) hg hm h3 .nil qc1 ha J he O
end
end L2
namespace PySem
section
variable {prog:Program} {w:World} {K:Type} [DecidableEq K] {knd:HeapKind prog w K} {A:Around} {E:Value ->Shared ->Prop} {s:Shared} {d a:Addr} {k:K} {xs:List (K×Addr×Value)}
end
end PySem
namespace L2
open PySem PySem.Spec PyProof.Rows
section
variable {X:Cx} {pins:List (Addr×Obj)} {σ:St} {H:Hp} {s:Shared} {a b:Addr} {kvs:List (List Key×V)} {k:List Key} {z:V} {r:Value} {A:Around} {E:Value ->Shared ->Prop}
end
section
variable {X:Cx} {o e f:Expr} {apos cpos:Pos} {td ty tx:TE}
end
end L2
namespace L2
open PySem PySem.Spec PyProof.Rows PySem.W
section
variable {X:Cx} {tg:Expr}
theorem q7l {st:Stmt}:PS X st (λ _ _ _=>False):=λ _ _ _ _ _ _ h=>h.elim
end
end L2
open PySem PySem.W PyProof.Rows
namespace L2
theorem us0 {p:List Value ->Prop} (h:p []):∀ us:List Value,us.length=0 ->p us:=λ _ e=>(List.length_eq_zero_iff.mp e).symm ▸ h
theorem us1 {p:List Value ->Prop} (h:∀ a:Value,p [a]):∀ us:List Value,us.length=1 ->p us
 | [],e=>absurd e (by decide)
 | a::t,e=>us0 (p:=λ us=>p (a::us)) (h a) t (Nat.succ.inj e)
theorem us2 {p:List Value ->Prop} (h:∀ a b:Value,p [a,b]):∀ us:List Value,us.length=2 ->p us
 | [],e=>absurd e (by decide)
 | a::t,e=>us1 (p:=λ us=>p (a::us)) (h a) t (Nat.succ.inj e)
theorem us3 {p:List Value ->Prop} (h:∀ a b c:Value,p [a,b,c]):∀ us:List Value,us.length=3 ->p us
 | [],e=>absurd e (by decide)
 | a::t,e=>us2 (p:=λ us=>p (a::us)) (h a) t (Nat.succ.inj e)
theorem us4 {p:List Value ->Prop} (h:∀ a b c d:Value,p [a,b,c,d]):∀ us:List Value,us.length=4 ->p us
 | [],e=>absurd e (by decide)
 | a::t,e=>us3 (p:=λ us=>p (a::us)) (h a) t (Nat.succ.inj e)
theorem us5 {p:List Value ->Prop} (h:∀ a b c d e:Value,p [a,b,c,d,e]):∀ us:List Value,us.length=5 ->p us
 | [],e=>absurd e (by decide)
 | a::t,e=>us4 (p:=λ us=>p (a::us)) (h a) t (Nat.succ.inj e)
theorem us6 {p:List Value ->Prop} (h:∀ a b c d e f:Value,p [a,b,c,d,e,f]):∀ us:List Value,us.length=6 ->p us
 | [],e=>absurd e (by decide)
 | a::t,e=>us5 (p:=λ us=>p (a::us)) (h a) t (Nat.succ.inj e)
structure FiK (K:PySem.W.Frag) (x:Str) (st:Stmt):Prop where
 ex:∃ (f:Addr) (oc:Value) (od an:Option Addr) (osl:Array (Option Value)) (kV doc pm cdv ct:Value),PySem.W.nsIn K mainGlobals x=some (some (.ref f))/\
  K.lookup f=some ⟨oc,od,.func (PySem.W.fnOf x x (q2g st) (q1t st) (qc st) .none kV doc pm an cdv ct),osl⟩/\PySem.W.codeIn K cdv x=true/\PySem.W.keepIn K (.ref f)=true
theorem fiK {K:PySem.W.Frag} {x:Str} {st:Stmt} {f:Addr} {Y:Value} {Z O:Option Addr} {L:Array (Option Value)} {kV J pm cdv ct:Value} (a:PySem.W.nsIn K mainGlobals x=some (some (.ref f)))
  (l:K.lookup f=some ⟨Y,Z,.func (PySem.W.fnOf x x (q2g st) (q1t st) (qc st) .none kV J pm O cdv ct),L⟩) (c:PySem.W.codeIn K cdv x=true) (k:PySem.W.keepIn K (.ref f)=true):FiK K x st:=
 ⟨f,Y,Z,O,L,kV,J,pm,cdv,ct,a,l,c,k⟩
theorem FiK.top {K:PySem.W.Frag} {h:Heap} {mg:Str ->Option Value} {x:Str} {st:Stmt} {ps:List Str} (F:FiK K x st) (X:K.In h) (G:h.Ns mainGlobals mg)
  (b:∀ (kV J O:Value) (L:Option Addr) (cdv ct:Value) (us:List Value),us.length=ps.length ->bindArgs (PySem.W.fnOf x x (q2g st) (q1t st) (qc st) .none kV J O L cdv ct) ⟨us,[]⟩=pure (ps.zip us)):Top K mg x st ps:=by
 obtain ⟨f,oc,od,L,osl,kV,J,O,cdv,ct,a,l,c,k⟩:=F.ex;exact qu3 X G b a l c k
structure MiK (K:PySem.W.Frag) (x m qual:Str) (st:Stmt):Prop where
 ex:∃ (C f:Addr) (oc:Value) (od an:Option Addr) (osl:Array (Option Value)) (kV doc pm cdv ct:Value),PySem.W.nsIn K mainGlobals x=some (some (.ref C))/\PySem.W.findIn K (.ref C) m=some (some (.ref f))/\PySem.W.isFn K (.ref f)=true/\
  K.lookup f=some ⟨oc,od,.func (PySem.W.fnOf m qual (q2g st) (q1t st) (qc st) .none kV doc pm an cdv ct),osl⟩/\PySem.W.codeIn K cdv qual=true/\PySem.W.keepIn K (.ref f)=true
theorem miK {K:PySem.W.Frag} {x m qual:Str} {st:Stmt} {C f:Addr} {Y:Value} {Z O:Option Addr} {L:Array (Option Value)} {kV J pm cdv ct:Value} (n:PySem.W.nsIn K mainGlobals x=some (some (.ref C)))
  (a:PySem.W.findIn K (.ref C) m=some (some (.ref f))) (i:PySem.W.isFn K (.ref f)=true)
  (l:K.lookup f=some ⟨Y,Z,.func (PySem.W.fnOf m qual (q2g st) (q1t st) (qc st) .none kV J pm O cdv ct),L⟩) (c:PySem.W.codeIn K cdv qual=true) (k:PySem.W.keepIn K (.ref f)=true):MiK K x m qual st:=
 ⟨C,f,Y,Z,O,L,kV,J,pm,cdv,ct,n,a,i,l,c,k⟩
theorem MiK.top {K:PySem.W.Frag} {h:Heap} {mg:Str ->Option Value} {x m qual:Str} {st:Stmt} {ps:List Str} (F:MiK K x m qual st) (X:K.In h) (G:h.Ns mainGlobals mg)
  (b:∀ (kV J O:Value) (L:Option Addr) (cdv ct:Value) (us:List Value),us.length=ps.length ->bindArgs (PySem.W.fnOf m qual (q2g st) (q1t st) (qc st) .none kV J O L cdv ct) ⟨us,[]⟩=pure (ps.zip us)):MTop K (cA mg x) m qual st ps:=by
 obtain ⟨C,f,oc,od,L,osl,kV,J,O,cdv,ct,n,a,i,l,c,k⟩:=F.ex;rw [q6a (z3b X G n)];exact qrz b a i l c k
structure CiK (K:PySem.W.Frag) (x:Str):Prop where
 ex:∃ C:Addr,PySem.W.nsIn K mainGlobals x=some (some (.ref C))/\PySem.W.plainGet K C Str.empty=true/\PySem.W.hasDictIn K C=true/\PySem.W.plainOver K C=true/\
  PySem.W.findIn K (.ref C) "__setattr__"=some (some (.builtin "object.__setattr__"))/\PySem.W.makesIn K C=true/\PySem.W.keepIn K (.ref C)=true
theorem ciK {K:PySem.W.Frag} {x:Str} {C:Addr} (n:PySem.W.nsIn K mainGlobals x=some (some (.ref C))) (pg:PySem.W.plainGet K C Str.empty=true) (hd:PySem.W.hasDictIn K C=true) (po:PySem.W.plainOver K C=true)
  (sa:PySem.W.findIn K (.ref C) "__setattr__"=some (some (.builtin "object.__setattr__"))) (mk:PySem.W.makesIn K C=true) (kc:PySem.W.keepIn K (.ref C)=true):CiK K x:=⟨C,n,pg,hd,po,sa,mk,kc⟩
section
variable {K:PySem.W.Frag} {h:Heap} {mg:Str ->Option Value} {x a:Str} {v:Option (Option Value)}
theorem CiK.g (F:CiK K x) (X:K.In h) (G:h.Ns mainGlobals mg):mg x=some (.ref (cA mg x)):=by
 obtain ⟨C,n,_⟩:=F.ex;rw [q6a (z3b X G n)];exact z3b X G n
theorem CiK.cl (F:CiK K x) (X:K.In h) (G:h.Ns mainGlobals mg):Cls K (cA mg x):=by
 obtain ⟨C,n,pg,hd,po,sa,_⟩:=F.ex;rw [q6a (z3b X G n)];exact ⟨pg,hd,po,sa⟩
theorem CiK.mk' (F:CiK K x) (X:K.In h) (G:h.Ns mainGlobals mg):PySem.W.makesIn K (cA mg x)=true:=by
 obtain ⟨C,n,_,_,_,_,mk,_⟩:=F.ex;rw [q6a (z3b X G n)];exact mk
theorem CiK.kp (F:CiK K x) (X:K.In h) (G:h.Ns mainGlobals mg):PySem.W.keepIn K (.ref (cA mg x))=true:=by
 obtain ⟨C,n,_,_,_,_,_,kc⟩:=F.ex;rw [q6a (z3b X G n)];exact kc
structure AiK (K:PySem.W.Frag) (x a:Str) (v:Option (Option Value)):Prop where
 ex:∃ C:Addr,PySem.W.nsIn K mainGlobals x=some (some (.ref C))/\PySem.W.findIn K (.ref C) a=v
theorem aiK {C:Addr} (n:PySem.W.nsIn K mainGlobals x=some (some (.ref C))) (f:PySem.W.findIn K (.ref C) a=v):AiK K x a v:=⟨C,n,f⟩
theorem AiK.at' (F:AiK K x a v) (X:K.In h) (G:h.Ns mainGlobals mg):PySem.W.findIn K (.ref (cA mg x)) a=v:=by
 obtain ⟨C,n,f⟩:=F.ex;rw [q6a (z3b X G n)];exact f
end
end L2
namespace L2
open PySem PySem.Spec PyProof.Rows PySem.Builtin.Str
section
variable {X:Cx}
variable {v1 v2 v3 e:Expr} {t1 t2 t3 te:TE} {pos:Pos}
end
end L2
namespace L2
open PySem PySem.Spec PyProof.Rows PySem.Builtin.Str PySem.StrLaws PySem.NumText
end L2
namespace L2
open PySem PySem.Spec PyProof.Rows PySem.W Builtin
theorem qea (a:Array Value):∀ (k:Nat) (J:Array Value),((List.replicate k a).foldl (· ++ ·) J).toList=J.toList++(List.replicate k a.toList).flatten
 | 0,J=>by simp
 | k+1,J=>by
  rw [z18,List.foldl_cons,qea a k,z14,z18,z1x,z1o]
section
variable {X:Cx}
theorem qgn {xs:List V} {us:List Value} (h:Vals xs us):∀ k,Vals (List.replicate k xs).flatten (List.replicate k us).flatten
 | 0=> .nil
 | k+1=>by
  rw [z18,z1x,z18,z1x];exact h.append (qgn h k)
end
section
variable {prog:Program} {w:World} {A:Around} {E:Value ->Shared ->Prop}
end
section
variable {X:Cx}
end
end L2
namespace L2
open PySem PySem.Spec PyProof.Rows
def q3t (v:Nat ->Int):Nat ->Option Int
 | 0=>none
 | n+1=>match q3t v n with
  | none=>some (v n)
  | some m=>some (if v n < m then v n else m)
section
variable {prog:Program} {w:World} {A:Around} {R:Result ->Shared ->Prop} {I:Addr} {fp wr:List Addr} {n:Nat} {P:Nat ->Value ->Prop} {St:Nat ->Heap ->Prop}
end
section
variable {X:Cx} {e d:Expr} {t tk:TA} {p pos kpos:Pos}
end
theorem qgo (v:Nat ->Int):∀ n:Nat,q3t v (n+1)=some (v (argBest (λ i j=>decide (v i < v j)) n))
 | 0=>rfl
 | n+1=>by
  rw [q3t,qgo v n];show some (if v (n+1) < _ then _ else _)=some (v (if decide (v (n+1) < v (argBest _ n))=true then _ else _));by_cases h:v (n+1) < v (argBest (λ i j=>decide (v i < v j)) n)
  ·rw [if_pos h,if_pos (z2y h)]
  ·rw [if_neg h,if_neg (by simpa using h)]
section
variable {X:Cx}
theorem qn2 (hc:X.calm=true) (K:PySem.W.Frag) (hK:X.K=K:=by rfl):q23 X (.builtin "min") (λ xs H Q=>∃ (l:Addr) (ns:List Int) (m:Int),xs=[.ref l]/\SqL K H l (ns.map V.int)/\q3t (λ i=>ns.getD i 0) ns.length=some m/\Q (.int m) H):=by
 subst hK;intro pins s σ H xs us Q I r h;obtain ⟨l,ns,m,rfl,hl,Y,q⟩:=h;obtain ⟨u,rfl,Z⟩:=q2y r;cases Z
 obtain ⟨its,rv,pl,hz⟩:=I.list hl;have hsz:its.toArray.size=ns.length:=by
  have:=rv.length;rw [z2o] at this;rw [z1t];exact this.symm
 have hh:X.A.in1.handled=none:=I.ok.hd hc;have L:l < s.heap.objs.size:=by
  obtain ⟨o,k,e1,_⟩:=pl;exact z3h e1
 have hn:0 < ns.length:=Nat.pos_of_ne_zero λ z=>by rw [z] at Y;cases Y
 have J:∀ (i:Nat) (v:Value),its.toArray[i]? =some v ->∃ t,v= .int (ns.getD i 0) t:=λ i v hv=>by
  have O:its[i]? =some v:=by simpa using hv
  have hi:i < ns.length:=by
   rw [<- hsz,z1t];exact (z06.mp O).1
  have e:(ns.map V.int)[i]? =some (V.int ns[i]):=by rw [z1s,z0c hi];rfl
  obtain ⟨u,hu,Z⟩:=rv.get e;rw [O] at hu;cases hu
  obtain ⟨t,rfl⟩:=Z;exact ⟨t,by rw [qj9 hi]⟩
 refine call_min_walk (z1v pl.isList ?_);refine ⟨s.heap.objs.size,_,_,ns.length,_,_,λ i j=>decide (ns.getD i 0 < ns.getD j 0),rfl,hsz ▸ Walks.list hh s.heap.objs.size l (z3i L) its.toArray,⟨⟨_,z16 _ rfl,rfl,rfl⟩,pl.isList.at λ o e=>z0k _ e⟩,?_,hn,λ i j vi vj s' Q' E' hi hj hQ=> ?_,λ v h' tk hP hk=> ?_⟩
 ·intro b hb;rw [show (s.heap.push {cls:= .type "list_iterator",data:= .fields #[.ref l,.int 0 0]}).objs.size=s.heap.objs.size+1 from Array.size_push _];simp only [z37,z2g,or_false] at hb;rcases hb with rfl | rfl
  ·exact z2a _
  ·exact z23 L
 ·obtain ⟨ti,rfl⟩:=J i vi hi;obtain ⟨tj,rfl⟩:=J j vj hj;exact richCompare_gives (op:= .Lt) (typeIs_int _ _ ti) (typeIs_int _ _ tj) PySem.F.slot_int_lt PySem.F.entry_int_lt (PySem.F.args_int_lt_2 _ _) (gives_int_lt _ _ _ _) (λ x=>nomatch x) hQ
 ·obtain ⟨t,rfl⟩:=J _ v hP;obtain ⟨n,en⟩:∃ n,ns.length=n+1:=⟨ns.length - 1,by omega⟩;rw [en,qgo] at Y;rw [en];cases Y
  refine ⟨.int _,H,I.kept λ b o e=>hk b o ?_ (z0k _ e),⟨_,zr⟩,q⟩;simp
  exact z3i (z3h e)
end
end L2
namespace L2
open PySem PySem.Spec PyProof.Rows PySem.W
namespace Tab
end Tab
end L2
namespace L2
open PySem PySem.Spec PyProof.Rows PySem.W
namespace Tab
end Tab
end L2
namespace L2
open PySem PySem.Spec PyProof.Rows PySem.W
section
variable {P:Program} {w:World} {A:Around} {E:Value ->Shared ->Prop} {s:Shared}
end
section
variable {prog:Program} {w:World} {A:Around} {R:Result ->Shared ->Prop} {I:Addr} {fp wr:List Addr} {G:Array GenState ->Array GenState ->Prop} {n:Nat} {P:Nat ->Value ->Prop} {St:Nat ->Shared ->Prop}
end
section
variable {prog:Program} {w:World} {A:Around} {E:Value ->Shared ->Prop} {s:Shared}
end
section
variable {prog:Program} {w:World} {A:Around} {E:Value ->Shared ->Prop} {s:Shared} {a:Addr} {xs:List (Addr×List Str)}
end
section
variable {X:Cx} {pins:List (Addr×Obj)} {σ:St} {H:Hp} {s:Shared}
end
section
variable {X:Cx} {pins:List (Addr×Obj)} {σ:St} {H:Hp} {s:Shared}
end
end L2
namespace L2
open PySem PySem.Spec PyProof.Rows PySem.Builtin.Str PySem.StrLaws PySem.NumText
end L2
namespace Tim
open PySem PyProof.Rows
section
variable {M:Model} {A:Around} {E:Value ->Shared ->Prop} {s:Shared} {kd:SortKind} {S:Keyed ->Prop} {rk:Keyed ->Int} {n:Nat}
def Dne (rk:Keyed ->Int) (n:Nat) (st st':SortSt):Prop:=(arrOf st').Perm (arrOf st)/\failedOf st'=none/\(pendingOf st').size<=1/\Up rk (arrOf st') 0 n
theorem qi3 (L:LtOk M A E s kd S rk) {st:SortSt} (B:Sane kd S n st) (h2:2<=n) (a3:n < 64) (hp:pendingOf st=#[]) {Q:Unit ->SortSt ->Prop}
  (h:∀ J,(arrOf J).Perm (arrOf st) ->failedOf J=none ->Up rk (arrOf J) 0 n ->Q () J):wpS M A E s sortRuns' Q st:=by
 rw [sortRuns'_eq];refine wpS_bind (wpS_get ?_)
 dsimp only
 simp only [B.size];have a5:minRun' n n 0=n:=by
  obtain ⟨f,hf⟩:∃ f,n=f+1:=⟨n - 1,by omega⟩;have:minRun' (f+1) n 0=n:=by rw [minRun'_succ,if_pos a3];rfl
  rwa [<- hf] at this
 refine wpS_bind (wpS_mono (wpS_forRange (I:=λ x c J=>(x=0/\c=(none,0)/\J=st)\/ (c=(none,n)/\Dne rk n st J))
  (Q:=λ c J=>c=(none,n)/\Dne rk n st J) ?turn ?last (.inl ⟨rfl,rfl,rfl⟩)) ?after)
 case last=>
  rintro c J (⟨h0,_⟩ | z)
  ·omega
  ·exact z
 case turn=>
  rintro x c J _ hx (⟨rfl,rfl,rfl⟩ | ⟨rfl,D⟩)
  ·dsimp only
   rw [if_neg (show ¬ 0 >=n by omega)];refine wpS_bind (qbr L B (by omega) (by omega) λ k a2 v2 k1 k2 u2=> ?_)
   dsimp only
   rw [a5];have fin:∀ O:SortSt,Mv 0 (0+(n - 0)) J O ->Up rk (arrOf O) 0 n ->Dne rk n J (setPending O ((pendingOf O).push (0,n,0))):=λ O v3 u3=>by
    refine ⟨v3.perm,(v3.sane B).failed,?_,u3⟩;show ((pendingOf O).push (0,n,0)).size<=1;rw [v3.pend,hp];exact z3q _
   have back:∀ O:SortSt,Mv 0 (0+(n - 0)) J O ->(pendingOf O).back? =none:=λ O v3=>by
    rw [v3.pend,hp];rfl
   by_cases a0:k < n
   ·rw [if_pos a0];refine wpS_bind (wpS_lift (z3u ⟨zr,?_⟩));rw [show min (n - 0) n=n by omega];refine wpS_bind (q8m L (v2.sane B) (by omega) (by omega) u2 λ O v3 u3=> ?_);have v4:Mv 0 (0+(n - 0)) J O:=v2.trans (v3.wide (z3q _) (by omega));simp only [Bool.not_true,z1b,if_false];refine wpS_bind (wpS_get ?_);rw [back O v4]
    dsimp only
    rw [show (0+n)=n by omega] at*;exact wpS_bind (wpS_modify (wpS_pure (.inr ⟨zr,fin O v4 u3⟩)))
   ·rw [if_neg a0];have e:k=n:=by omega
    subst e;refine wpS_bind (wpS_get ?_);rw [back a2 v2]
    dsimp only
    rw [show (0+k)=k by omega] at*;exact wpS_bind (wpS_modify (wpS_pure (.inr ⟨zr,fin a2 v2 u2⟩)))
  ·dsimp only
   rw [if_pos (z3q n)];exact wpS_pure ⟨zr,D⟩
 case after=>
  rintro c J ⟨rfl,D⟩
  dsimp only
  refine wpS_bind (wpS_mono (wpS_forRange (I:=λ _ c Y=>c=(none,())/\Dne rk n st Y) (Q:=λ c Y=>c=(none,())/\Dne rk n st Y) ?fturn (λ _ _ z=>z) ⟨zr,D⟩) ?fafter)
  case fturn=>
   rintro j c Y _ hj ⟨rfl,Z⟩;refine wpS_bind (wpS_get ?_);rw [if_pos Z.2.2.1];exact wpS_pure ⟨zr,Z⟩
  case fafter=>
   rintro c Y ⟨rfl,Z⟩
   dsimp only
   exact wpS_pure (h Y Z.1 Z.2.1 Z.2.2.2)
end
section
variable {prog:Program} {w:World} {A:Around} {E:Value ->Shared ->Prop} {s:Shared}
theorem qcc {a:Addr} {vs:List Value} {n:Nat} {rk:Value ->Int} {P:PySem.Fin ->Shared ->Prop} (ho:s.heap.get? a=some (seqObj "list" vs.toArray n)) (Y:vs.length < 64) (hk:Keys prog w A s a vs rk)
  (h:∀ out:Array Value,Sorted rk vs out.toList ->P (.done (.ret .none)) {s with heap:=sortedHeap s.heap a vs out}):wpAny (model prog w) A (Builtin.«list.sort» ⟨[.ref a],[]⟩) P E s:=by
 have hz:vs.length<=sizeLine:=z3j (z3g Y) (by decide);rw [list_sort_plain];have ha:a < s.heap.objs.size:=z3h ho;have a5:vs.toArray.size=vs.length:=z1t;refine z3w (listItems_at ho rfl (z3w (listUpdate_at ho rfl ?_ (by rw [a5];exact hz) (z3t _))));obtain ⟨e1,Z⟩:∃ e1,(s.heap.update a (Obj.mapSeq λ _=>#[])).get? a=some (seqObj "list" #[] e1):=⟨_,get?_update_seq ho (λ _=>#[])⟩;refine z3w (seqEpoch_at Z rfl (z3w (wpAny_newTuple (z3w (wpAny_newList (z38 ?_))))));have s1:=z15 s.heap a (Obj.mapSeq λ _=>(#[]:Array Value));have keep:∀ b o,(s.heap.update a (Obj.mapSeq λ _=>#[])).get? b=some o ->(((s.heap.update a (Obj.mapSeq λ _=>#[])).push (seqObj "tuple" vs.toArray 0)).push (seqObj "list" #[] 0)).get? b=some o:=
  λ b o e=>z0k _ (z0k _ e)
 have L:=keep a _ Z;have O:∀ b o,b≠a ->s.heap.get? b=some o ->(((s.heap.update a (Obj.mapSeq λ _=>#[])).push (seqObj "tuple" vs.toArray 0)).push (seqObj "list" #[] 0)).get? b=some o:=
  λ b o hb e=>keep b o ((s1.2 b hb).trans e)
 show wpAny (model prog w) A _ P E {s with heap:=((s.heap.update a (Obj.mapSeq λ _=>#[])).push (seqObj "tuple" vs.toArray 0)).push (seqObj "list" #[] 0)}
 dsimp only
 by_cases h2:vs.toArray.size < 2
 ·rw [if_pos h2,if_pos h2];refine z3w (z3v ?_);rw [StateT.run_pure];refine z3w (z3v ?_)
  dsimp only
  have es:((vs.toArray.zip vs.toArray).map (·.2)).toList=vs:=by
   rw [Array.toList_map];show (pairsOf vs).toList.map _=_;rw [pairsOf_toList,List.map_snd_zip (z3q _)]
  refine z3w (seqEpoch_at L rfl (z3w (listUpdate_at L rfl ?_ (z3t _) (by rw [<- z13,es];omega))));simp only [bne_self_eq_false,z1b,if_false];refine z3v (h _ ?_);rw [es];refine ⟨List.Perm.refl _,?_⟩;rw [a5] at h2
  match vs,h2 with
  | [],_=>exact .nil
  | [_],_=>exact z0f ..
 ·rw [if_neg h2,if_neg h2];obtain ⟨kd,kk,kl⟩:=hk (by omega) {s with heap:=((s.heap.update a (Obj.mapSeq λ _=>#[])).push (seqObj "tuple" vs.toArray 0)).push (seqObj "list" #[] 0)} O;refine z3w (kk _ _ ?_);have hS:∀ p∈(vs.toArray.zip vs.toArray).toList,p.1∈vs:=λ p hp=>by
   have a0:p∈(pairsOf vs).toList:=hp;rw [pairsOf_toList] at a0;exact (mem_zip_self a0).2
  refine z3w (z3x (qi3 (S:=λ p=>p.1∈vs) (rk:=λ p=>rk p.1) (n:=vs.length) (st:=SortSt.mk' kd (vs.toArray.zip vs.toArray) #[] 7 none)
   (Q:=λ _ J=>(arrOf J).Perm (pairsOf vs)/\failedOf J=none/\Up (λ p=>rk p.1) (arrOf J) 0 vs.length)
   (qd2 λ x y hx hy=>kl x.1 hx y.1 hy) ⟨pairsOf_size vs,hS,rfl,rfl⟩ (by omega) Y rfl λ J a1 a2 a3=>⟨a1,a2,a3⟩) ?_ λ _ _ e=>e)
  rintro ⟨⟨⟩,J⟩ s' ⟨rfl,hp,hf,hu⟩
  dsimp only
  have so:=q8n hp hu;refine z3w (seqEpoch_at L rfl (z3w (listUpdate_at L rfl ?_ (z3t _) (by rw [<- z13,so.perm.length_eq];omega))));rw [hf];simp only [bne_self_eq_false,z1b,if_false];exact z3v (h _ so)
end
end Tim
namespace L2
open PySem PySem.Spec PyProof.Rows PySem.W
section
variable {prog:Program} {w:World} {A:Around} {E:Value ->Shared ->Prop} {s:Shared} {a:Addr}
theorem qi4 {x:Value} {vs:List Value} {rk:Value ->Int} {Q:Value ->Shared ->Prop} (Y:vs.length < 64)
  (hc:∀ (O:Around) (E':Value ->Shared ->Prop) (R:List Value ->Shared ->Prop),O.handled=A.handled ->(∀ h' tk,(∀ b o,s.heap.get? b=some o ->h'.get? b=some o) ->s.heap.objs.size<=h'.objs.size ->R vs {s with heap:=h',toks:=tk}) ->wpAny (model prog w) O (collect x) R E' s)
  (hk:∀ (O:Around) (s':Shared) (a:Addr),O.units<=A.units+4 ->s.heap.objs.size<=a ->(∀ b o,s.heap.get? b=some o ->s'.heap.get? b=some o) ->Tim.Keys prog w O s' a vs rk)
  (h:∀ (out:Array Value) (l:Addr) (n:Nat) (h':Heap) (tk:Nat),Tim.Sorted rk vs out.toList ->(∀ b o,s.heap.get? b=some o ->h'.get? b=some o) ->s.heap.objs.size<=l ->h'.get? l=some (seqObj "list" out n) ->Q (.ref l) {s with heap:=h',toks:=tk}):
  wpAny (model prog w) A (call (.builtin "sorted") [x]) Q E s:=by
 have hz:vs.length<=sizeLine:=z3j (z3g Y) (by decide);refine Calls.call_function_entry kind_sorted plain_sorted entry_sorted (args_sorted1 _) ?_;unfold Builtin.«sorted»;refine z3w (m:=checkCount "sorted" 1 1 _) (z3v ?_);refine z3w (hc _ _ _ rfl λ h1 tk keep hsz=> ?_);refine z3w (wpAny_newList ?_ hz);have L:(h1.push (seqObj "list" vs.toArray 0)).get? h1.objs.size=some (seqObj "list" vs.toArray 0):=z16 _ rfl;show wpAny _ _ _ _ _ {s with heap:=h1.push (seqObj "list" vs.toArray 0),toks:=tk};have J:∀ b o,s.heap.get? b=some o ->(h1.push (seqObj "list" vs.toArray 0)).get? b=some o:=λ b o e=>z0k _ (keep b o e);refine z3w (z38 (z2d slot_list_sort ⟨_,L,zr⟩ entry_list_sort (Tim.qcc L Y (hk _ _ _ ?_ hsz J) λ out so=>⟨_,zr,?_⟩) (args_list_sort _)))
 ·show A.units+2<=A.units+4;omega
 ·have Z:∀ b o,s.heap.get? b=some o ->b≠h1.objs.size:=λ b o e=>z3i (z1i (z3h e) hsz);have u1:=z15 (h1.push (seqObj "list" vs.toArray 0)) h1.objs.size (Obj.mapSeq λ _=>(#[]:Array Value));obtain ⟨e1,g1⟩:∃ e1,((h1.push (seqObj "list" vs.toArray 0)).update h1.objs.size (Obj.mapSeq λ _=>(#[]:Array Value))).get? h1.objs.size=some (seqObj "list" #[] e1):=⟨_,get?_update_seq L λ _=>#[]⟩;have g2:=z0k (seqObj "list" #[] 0) (z0k (seqObj "tuple" vs.toArray 0) g1);have g3:=get?_update_seq g2 λ _=>out;have u4:=z15 (((((h1.push (seqObj "list" vs.toArray 0)).update h1.objs.size (Obj.mapSeq λ _=>(#[]:Array Value))).push (seqObj "tuple" vs.toArray 0)).push (seqObj "list" #[] 0))) h1.objs.size (Obj.mapSeq λ _=>out);refine z3v ⟨_,zr,h out h1.objs.size _ _ tk so (λ b o e=> ?_) hsz g3⟩;refine (u4.2 b (Z b o e)).trans (z0k _ (z0k _ ((u1.2 b (Z b o e)).trans (J b o e))))
end
section
variable {X:Cx} {pins:List (Addr×Obj)} {σ:St} {H:Hp} {s:Shared}
theorem qev (K:PySem.W.Frag) (hK:X.K=K:=by rfl):q23 X (.builtin "sorted") (λ xs H Q=>∃ p ws,xs=[.ref p]/\(SqL K H p (ws.map V.str)\/ SqT K H p (ws.map V.str))/\ws.length < 64/\∀ l,H l=none ->Q (.ref l) (upd H l (.lst ((Tim.srt strLt ws).map V.str)))):=by
 subst hK;intro pins s σ H xs us Q I r h;obtain ⟨p,ws,rfl,L,a0,q⟩:=h;obtain ⟨u,rfl,ru⟩:=q2y r;cases ru
 obtain ⟨T,o,its,n,hT,ho,hc,hd,rv,Z⟩:∃ (T:String) (o:Obj) (its:List Value) (n:Nat),(T="list"\/ T="tuple")/\s.heap.get? p=some o/\o.cls= .type T/\o.data= .seq its.toArray n/\Vals (ws.map V.str) its/\(ws.map V.str).length<=sizeLine:=by
  rcases L with L | L
  ·obtain ⟨its,rv,⟨o,n,e,c,_,d⟩,z⟩:=I.list L;exact ⟨"list",o,its,n,.inl rfl,e,c,d,rv,z⟩
  ·obtain ⟨its,rv,⟨o,e,c,n,d⟩,z⟩:=I.tuple L;exact ⟨"tuple",o,its,n,.inr rfl,e,c,d,rv,z⟩
 have hl:its.length<=sizeLine:=by rw [<- rv.length];exact Z
 obtain ⟨e1,e2,_⟩:=q5s rv;refine qi4 (vs:=its) (rk:=λ v=>Tim.rank strLt (its.map sOf) (sOf v)) (by rw [<- rv.length,z2o];exact a0) (λ A' E' R _ k=>qc6 hT ho hc hd (by rw [z1t];exact hl) (by rw [z1a];exact k)) (λ A' s' a _ _ _=>qe7 rv) λ out l n h' tk so keep J hg=> ?_;have Y:∀ u∈out.toList,∃ x t,u= .str x t:=λ u hu=>e2 u (so.perm.mem_iff.mp hu);have ed:=Tim.q4t q34 sOf so;rw [e1] at ed;have O:=q5t Y;rw [ed] at O;exact I.q6h O (by rw [z2o,(Tim.q19 strLt ws).length_eq];rw [z2o] at Z;exact Z) keep J hg (q l (I.hok.fresh J))
end
section
variable {prog:Program} {w:World} {A:Around} {E:Value ->Shared ->Prop} {s:Shared} {I:Addr} {fp:List Addr} {n:Nat} {P:Nat ->Value ->Prop} {St:Nat ->Heap ->Prop} {T:String}
end
section
variable {X:Cx} {e:Expr} {te:TE} {p1 p2 q1 q2:Pos}
end
section
variable {prog:Program} {w:World} {A:Around} {E:Value ->Shared ->Prop} {s:Shared}
end
section
variable {prog:Program} {w:World} {A:Around} {E:Value ->Shared ->Prop} {s:Shared} {I:Addr} {fp:List Addr} {n:Nat} {P:Nat ->Value ->Prop} {St:Nat ->Heap ->Prop} {T:String}
end
section
variable {X:Cx} {e:Expr} {te:TE} {p1 p2 q1 q2:Pos}
end
end L2
namespace L2
open PySem PySem.Spec PyProof.Rows
section
variable {X:Cx} {pins:List (Addr×Obj)} {σ:St} {H:Hp} {s:Shared} {a b:Addr} {kvs more:List (Key×V)} {A:Around} {E:Value ->Shared ->Prop}
end
section
variable {X:Cx} {o e:Expr} {apos cpos:Pos} {td ty:TE}
end
section
variable {X:Cx}
end
inductive NK where
 | leaf (k:Key)
 | tup (xs:List NK)
noncomputable instance : DecidableEq NK := fun a b => Classical.propDecidable _
mutual
def NK.deep:NK ->Nat
 | .leaf _=>0
 | .tup xs=>NK.deeps xs+1
def NK.deeps:List NK ->Nat
 | []=>0
 | x::r=>max x.deep (NK.deeps r)
end
mutual
def NK.draws:NK ->Nat
 | .leaf _=>1
 | .tup xs=>NK.drawss xs+1
def NK.drawss:List NK ->Nat
 | []=>0
 | x::r=>x.draws+NK.drawss r
end
theorem NK.qcd:∀ xs ys:List NK,NK.drawss (xs++ys)=NK.drawss xs+NK.drawss ys
 | [],ys=>by rw [List.nil_append,NK.drawss,z3f]
 | x::r,ys=>by rw [List.cons_append,NK.drawss,NK.drawss,NK.qcd r ys,Nat.add_assoc]
section
variable {P:Program} {w:World}
theorem qjg {i:Int} {v:Value} (h:(qo P w).is (.inl i) v=true):∃ t,v= .int i t:=by
 have h:q65 (.inl i) v=true:=h;rcases q1p h with ⟨j,t,e,rfl⟩ | ⟨x,t,e,rfl⟩
 ·cases e
  exact ⟨t,zr⟩
 ·cases e
theorem qjh {z:Str} {v:Value} (h:(qo P w).is (.inr z) v=true):∃ t,v= .str z t:=by
 have h:q65 (.inr z) v=true:=h;rcases q1p h with ⟨j,t,e,rfl⟩ | ⟨x,t,e,rfl⟩
 ·cases e
 ·cases e
  exact ⟨t,zr⟩
mutual
def NK.hash (P:Program) (w:World):NK ->Int
 | .leaf k=>(qo P w).hash k
 | .tup xs=>reduceHash (Builtin.Tuple.tupleHashOf (NK.hashs P w xs))
def NK.hashs (P:Program) (w:World):List NK ->List Int
 | []=>[]
 | x::r=>x.hash P w::NK.hashs P w r
end
mutual
/-- v is this key -/
def IsN (P:Program) (w:World) (h:Heap):NK ->Value ->Prop
 | .leaf k,v=>(qo P w).is k v=true
 | .tup xs,v=>∃ a o items n,v= .ref a/\h.get? a=some o/\o.cls= .type "tuple"/\o.data= .seq items n/\IsNs P w h xs items.toList
def IsNs (P:Program) (w:World) (h:Heap):List NK ->List Value ->Prop
 | [],vs=>vs=[]
 | x::r,vs=>∃ v vr,vs=v::vr/\IsN P w h x v/\IsNs P w h r vr
end
mutual
theorem IsN.inj {h:Heap}:∀ {x y:NK} {v:Value},IsN P w h x v ->IsN P w h y v ->x=y
 | .leaf k,.leaf j,v,hx,hy=>by
  rw [IsN] at hx;rw [IsN] at hy;rw [(qo P w).inj _ _ _ hx hy]
 | .leaf k,.tup ys,v,hx,hy=>by
  rw [IsN] at hx;rw [IsN] at hy;obtain ⟨a,_,_,_,rfl,_⟩:=hy;exact absurd ((qo P w).byValue _ _ hx) (by simp [carriedByValue])
 | .tup xs,.leaf k,v,hx,hy=>by
  rw [IsN] at hx;rw [IsN] at hy;obtain ⟨a,_,_,_,rfl,_⟩:=hx;exact absurd ((qo P w).byValue _ _ hy) (by simp [carriedByValue])
 | .tup xs,.tup ys,v,hx,hy=>by
  rw [IsN] at hx;rw [IsN] at hy;obtain ⟨a,o,Z,n,rfl,ho,_,hd,hi⟩:=hx;obtain ⟨a',o',L,n',e,Y,_,J,O⟩:=hy;injection e with e;subst e;obtain rfl:o=o':=Option.some.inj (ho.symm.trans Y);rw [hd] at J;injection J with h1 _;subst h1;rw [IsNs.inj hi O]
theorem IsNs.inj {h:Heap}:∀ {x y:List NK} {vs:List Value},IsNs P w h x vs ->IsNs P w h y vs ->x=y
 | [],[],_,_,_=>rfl
 | [],y::r,vs,hx,hy=>by
  rw [IsNs] at hx;rw [IsNs] at hy;obtain ⟨v,J,e,_⟩:=hy;rw [hx] at e;cases e
 | x::r,[],vs,hx,hy=>by
  rw [IsNs] at hx;rw [IsNs] at hy;obtain ⟨v,J,e,_⟩:=hx;rw [hy] at e;cases e
 | x::r,y::t,vs,hx,hy=>by
  rw [IsNs] at hx;rw [IsNs] at hy;obtain ⟨v,J,rfl,h1,h2⟩:=hx;obtain ⟨v',vr',e,g1,g2⟩:=hy;cases e
  rw [IsN.inj h1 g1,IsNs.inj h2 g2]
end
mutual
theorem IsN.keeps {h h':Heap} {d:Addr} {o:Obj} {es ep} (ho:h.get? d=some o) (hd:o.data= .dict es ep) (Z:Heap.SameBut d h h'):∀ {x:NK} {v:Value},IsN P w h x v ->IsN P w h' x v
 | .leaf k,v,hx=>by
  rw [IsN] at hx ⊢;exact hx
 | .tup xs,v,hx=>by
  rw [IsN] at hx ⊢;obtain ⟨a,o',L,n,rfl,O,hc,J,hi⟩:=hx;have Y:a≠d:=by
   rintro rfl;obtain rfl:o'=o:=Option.some.inj (O.symm.trans ho);rw [hd] at J;exact nomatch J
  exact ⟨a,o',L,n,zr,(Z.2 a Y).trans O,hc,J,IsNs.keeps ho hd Z hi⟩
theorem IsNs.keeps {h h':Heap} {d:Addr} {o:Obj} {es ep} (ho:h.get? d=some o) (hd:o.data= .dict es ep) (J:Heap.SameBut d h h'):∀ {x:List NK} {vs:List Value},IsNs P w h x vs ->IsNs P w h' x vs
 | [],vs,hx=>by
  rw [IsNs] at hx ⊢;exact hx
 | x::r,vs,hx=>by
  rw [IsNs] at hx ⊢;obtain ⟨v,vr,rfl,h1,h2⟩:=hx;exact ⟨v,vr,zr,IsN.keeps ho hd J h1,IsNs.keeps ho hd J h2⟩
end
theorem NK.qeb:∀ xs:List NK,NK.hashs P w xs=xs.map (NK.hash P w)
 | []=>by rw [NK.hashs];rfl
 | x::r=>by rw [NK.hashs,NK.qeb r];rfl
theorem qn3:∀ (n:Nat) {A:Around} {E:Value ->Shared ->Prop} {s:Shared} {x:NK} {v:Value} {Q:Int ->Shared ->Prop},x.deep<=n ->A.units+4*n < cLine ->IsN P w s.heap x v ->Q (x.hash P w) {s with toks:=s.toks+x.draws} ->wpAny (model P w) A (pyHash v) Q E s
  | n,A,E,s,.leaf k,v,Q,_,hu,hx,h=>by
    rw [IsN] at hx;rw [NK.hash,NK.draws] at h;exact (qo P w).pyHash hx h
  | 0,A,E,s,.tup xs,v,Q,hn,_,_,_=>by
    rw [NK.deep] at hn;omega
  | n+1,A,E,s,.tup xs,v,Q,hn,hu,hx,h=>by
    rw [NK.deep] at hn;rw [IsN] at hx;obtain ⟨a,o,O,m,rfl,ho,hc,hd,hi⟩:=hx;have J:s.TypeIs (.ref a) "tuple":=⟨o,ho,hc⟩;unfold pyHash
    first | unfold pyHashByItsType | skip
    first | refine z3w (wpAny_cRoomFor_or (.inr (by omega)) ?_) | skip
    refine z3w (wpAny_specialOf J F.slot_tuple_hash.lookup ?_);show wpAny _ _ (if (some (Value.builtin "tuple.__hash__")==some Value.none)=true then _ else _) Q E s;rw [if_neg (by rw [beq_builtin_none];exact z1c)];refine z3w (wpAny_specialOf J F.slot_tuple_hash.lookup ?_);show wpAny _ _ (callSpecialIfBoundUnlessNone? (.ref a) "__hash__" _ >>=_) Q E s;refine z3w (wpAny_callSpecialIfBoundUnlessNone?_slot J F.slot_tuple_hash (z2d F.slot_tuple_hash J F.entry_tuple_hash ?_ (F.args_tuple_hash_1 _)));show wpAny _ _ (Builtin.Tuple.tupleItemsOf (.ref a) >>=_) _ _ s;refine z3w (wpAny_tupleItemsOf ho hd ?_);refine z3w ?_;rw [<- Array.forIn_toList];refine wpAny_forIn_list _ (λ rest (b:Array Int) s'=>∃ done left,xs=done++left/\IsNs P w s.heap left rest/\NK.deeps left<=n/\b.toList=done.map (NK.hash P w)/\s'={s with toks:=s.toks+NK.drawss done}) _ ?_ ?_ _ _ ⟨[],xs,rfl,hi,by omega,rfl,rfl⟩
    · rintro x rest b s' ⟨done,left,rfl,hl,dl,L,rfl⟩
      cases left with
      | nil=>
        rw [IsNs] at hl;cases hl
      | cons k ks=>
        rw [IsNs] at hl;obtain ⟨v,vr,e,h1,h2⟩:=hl;cases e
        rw [NK.deeps] at dl;refine z3w (qn3 n (x:=k) (by omega) (by rw [Around.in1_units];omega) h1 ?_);have Y:NK.drawss (done++ [k])=NK.drawss done+k.draws:=by
          rw [NK.qcd,NK.drawss,NK.drawss];omega
        first
          | exact z3v ⟨done++ [k],ks,by simp,h2,by omega,by simp [L],by rw [Y,Nat.add_assoc]⟩
          | exact z3w (z3v (z3v ⟨done++ [k],ks,by simp,h2,by omega,by simp [L],by rw [Y,Nat.add_assoc]⟩))
    · rintro b s' ⟨done,left,rfl,hl,_,L,rfl⟩
      cases left with
      | cons k ks=>
        rw [IsNs] at hl;obtain ⟨v,vr,e,_⟩:=hl;cases e
      | nil=>
        rw [z2p] at h;rw [NK.hash,NK.draws,NK.qeb] at h;show wpAny _ _ (retInt (Builtin.Tuple.tupleHashOf b.toList)) _ _ _;rw [L];refine wpAny_ret_mkInt ?_;show wpAny _ _ (if (decide (-(2:Int)^63<=Builtin.Tuple.tupleHashOf (done.map (NK.hash P w)))&&decide (Builtin.Tuple.tupleHashOf (done.map (NK.hash P w)) < 2^63))=true then _ else _) Q E _;unfold reduceHash at h;by_cases hr:(decide (-(2:Int)^63<=Builtin.Tuple.tupleHashOf (done.map (NK.hash P w)))&&decide (Builtin.Tuple.tupleHashOf (done.map (NK.hash P w)) < 2^63))=true
        · rw [if_pos hr]
          rw [if_pos hr] at h;exact z3v (by simpa [Nat.add_assoc] using h)
        · rw [if_neg hr]
          rw [if_neg hr] at h;exact z3w (z3u (z3v (by simpa [Nat.add_assoc] using h)))
mutual
/-- the datum of a key -/
def NK.dat:NK ->PyData
 | .leaf (.inl i)=> .int i
 | .leaf (.inr z)=> .str z
 | .tup xs=> .tuple (NK.dats xs)
def NK.dats:List NK ->List PyData
 | []=>[]
 | x::r=>x.dat::NK.dats r
end
mutual
theorem IsN.reads {h:Heap}:∀ {x:NK} {v:Value},IsN P w h x v ->∃ as,Reads h v x.dat as
 | .leaf (.inl i),v,hx=>by
  rw [IsN] at hx;obtain ⟨t,rfl⟩:=qjg hx;exact ⟨[],by rw [NK.dat];exact .int i t⟩
 | .leaf (.inr z),v,hx=>by
  rw [IsN] at hx;obtain ⟨t,rfl⟩:=qjh hx;exact ⟨[],by rw [NK.dat];exact .str z t⟩
 | .tup xs,v,hx=>by
  rw [IsN] at hx;obtain ⟨a,o,J,n,rfl,ho,hc,hd,hi⟩:=hx;obtain ⟨as,ha⟩:=IsNs.reads hi;exact ⟨as,by rw [NK.dat];exact .tuple ho hc hd ha⟩
theorem IsNs.reads {h:Heap}:∀ {x:List NK} {vs:List Value},IsNs P w h x vs ->∃ as,ReadsAll h vs (NK.dats x) as
 | [],vs,hx=>by
  rw [IsNs] at hx;subst hx;exact ⟨[],by rw [NK.dats];exact .nil⟩
 | x::r,vs,hx=>by
  rw [IsNs] at hx;obtain ⟨v,vr,rfl,h1,h2⟩:=hx;obtain ⟨as,ha⟩:=IsN.reads h1;obtain ⟨bs,hb⟩:=IsNs.reads h2;exact ⟨as++bs,by rw [NK.dats];exact .cons ha hb⟩
end
mutual
theorem NK.eqv:∀ x y:NK,PyData.eqv x.dat y.dat=decide (x=y)
 | .leaf (.inl i),.leaf (.inl j)=>by
  rw [NK.dat,NK.dat];show decide (i=j)=_;exact decide_eq_decide.mpr ⟨λ e=>by rw [e],λ e=>by injection e with e;injection e⟩
 | .leaf (.inl i),.leaf (.inr z)=>by
  rw [NK.dat,NK.dat];exact (z2k (λ e=>by injection e with e;cases e)).symm
 | .leaf (.inr z),.leaf (.inl i)=>by
  rw [NK.dat,NK.dat];exact (z2k (λ e=>by injection e with e;cases e)).symm
 | .leaf (.inr z),.leaf (.inr y)=>by
  rw [NK.dat,NK.dat];show (z==y)=_;by_cases e:z=y
  ·subst e;rw [z2y rfl];simp
  ·rw [z2k (λ q=>e (by injection q with q;injection q))]
   simpa using e
 | .leaf (.inl i),.tup ys=>by
  rw [NK.dat,NK.dat];exact (z2k (λ e=>by cases e)).symm
 | .leaf (.inr z),.tup ys=>by
  rw [NK.dat,NK.dat];exact (z2k (λ e=>by cases e)).symm
 | .tup xs,.leaf (.inl i)=>by
  rw [NK.dat,NK.dat];exact (z2k (λ e=>by cases e)).symm
 | .tup xs,.leaf (.inr z)=>by
  rw [NK.dat,NK.dat];exact (z2k (λ e=>by cases e)).symm
 | .tup xs,.tup ys=>by
  rw [NK.dat,NK.dat,PyData.eqv,NK.eqvs xs ys];exact decide_eq_decide.mpr ⟨λ e=>by rw [e],λ e=>by injection e⟩
theorem NK.eqvs:∀ x y:List NK,PyData.eqvAll (NK.dats x) (NK.dats y)=decide (x=y)
 | [],[]=>by rw [NK.dats,PyData.eqvAll,z2y rfl]
 | [],_::_=>by rw [NK.dats,NK.dats,PyData.eqvAll];exact (z2k (λ e=>by cases e)).symm
 | _::_,[]=>by rw [NK.dats,NK.dats,PyData.eqvAll];exact (z2k (λ e=>by cases e)).symm
 | x::p,y::q=>by
  rw [NK.dats,NK.dats,PyData.eqvAll,NK.eqv x y,NK.eqvs p q];by_cases h1:x=y
  ·by_cases h2:p=q
   ·rw [z2y h1,z2y h2,z2y (by rw [h1,h2])];rfl
   ·rw [z2y h1,z2k h2,z2k (λ e=>h2 (List.cons.inj e).2)];rfl
  ·rw [z2k h1,z2k (λ e=>h1 (List.cons.inj e).1)];rfl
end
mutual
theorem NK.depth:∀ x:NK,x.dat.depth=x.deep
 | .leaf (.inl i)=>by rw [NK.dat,NK.deep];rfl
 | .leaf (.inr z)=>by rw [NK.dat,NK.deep];rfl
 | .tup xs=>by rw [NK.dat,NK.deep,<- NK.depths xs];rfl
theorem NK.depths:∀ x:List NK,PyData.depthAll (NK.dats x)=NK.deeps x
 | []=>by rw [NK.dats,NK.deeps];rfl
 | x::r=>by rw [NK.dats,NK.deeps,<- NK.depth x,<- NK.depths r];rfl
end
theorem qec:∀ {xs:List NK} {n:Nat},NK.deeps xs<=n ->∀ x∈xs,x.deep<=n
 | [],_,_,x,hx=>nomatch hx
 | y::r,n,h,x,hx=>by
  rw [NK.deeps] at h;rcases z37.mp hx with rfl | hx
  ·omega
  ·exact qec (by omega) x hx
theorem IsNs.mem {h:Heap}:∀ {xs:List NK} {vs:List Value},IsNs P w h xs vs ->∀ v∈vs,∃ x∈xs,IsN P w h x v
 | [],vs,hx,v,J=>by
  rw [IsNs] at hx;subst hx;cases J
 | x::r,vs,hx,v,J=>by
  rw [IsNs] at hx;obtain ⟨u,vr,rfl,h1,h2⟩:=hx;rcases z37.mp J with rfl | J
  ·exact ⟨x,z1g ..,h1⟩
  ·obtain ⟨y,hy,h3⟩:=IsNs.mem h2 v J;exact ⟨y,z10 _ hy,h3⟩
theorem qji:∀ (n:Nat) {A:Around} {E:Value ->Shared ->Prop} {s:Shared} {x:NK} {v:Value} {Q:Bool ->Shared ->Prop},x.deep<=n ->IsN P w s.heap x v ->Q true s ->wpAny (model P w) A (eqIsQuiet n v) Q E s
 | n,A,E,s,.leaf k,v,Q,_,hx,h=>by
  rw [IsN] at hx;rw [eqIsQuiet_byValue n ((qo P w).byValue _ _ hx)];exact z3v h
 | 0,A,E,s,.tup xs,v,Q,hn,_,_=>by
  rw [NK.deep] at hn;omega
 | n+1,A,E,s,.tup xs,v,Q,hn,hx,h=>by
  rw [NK.deep] at hn;rw [IsN] at hx;obtain ⟨a,o,J,m,rfl,ho,hc,hd,hi⟩:=hx;have Y:s.TypeIs (.ref a) "tuple":=⟨o,ho,hc⟩;unfold eqIsQuiet;refine z3w (wpAny_specialOf Y F.slot_tuple_eq.lookup ?_);show wpAny _ _ (isInstance (.ref a) (.type "tuple") >>=_) _ _ s;refine z3w (wpAny_isInstance Y isSubtype_tuple_tuple ?_);simp only [Bool.not_true,z1b,if_false];refine z3w (wpAny_seqItems ho hd ?_);refine z3w ?_;show wpAny _ _ (forIn J _ _) _ _ s;rw [<- Array.forIn_toList];have all:∀ v∈J.toList,∃ y,y.deep<=n/\IsN P w s.heap y v:=λ v hv=>by
   obtain ⟨y,hy,h1⟩:=IsNs.mem hi v hv;exact ⟨y,qec (by omega) y hy,h1⟩
  refine wpAny_forIn_list _ (λ rest r s'=>r.1=none/\s'=s/\∀ v∈rest,∃ y,y.deep<=n/\IsN P w s.heap y v) _ ?_ ?_ _ _ ⟨rfl,rfl,all⟩
  ·rintro v rest r s' ⟨hr,rfl,L⟩;obtain ⟨y,h1,h2⟩:=L v z1g;refine z3w (qji n h1 h2 ?_);simp only [Bool.not_true,z1b,if_false];exact z3v ⟨zr,zr,λ u O=>L u (z10 _ O)⟩
  ·rintro ⟨r1,r2⟩ s' ⟨hr,rfl,_⟩;simp only at hr;subst hr;exact z3v h
end
noncomputable def nestKind (P : Program) (w : World) : HeapKind P w NK where
 is:=λ h x a=>IsN P w h x (.ref a)/\x.deep<=7/\x.dat.canLay0=true
 hash:=NK.hash P w
 draws:=NK.draws
 room:=λ A=>A.units+40 < cLine
 inj:=λ hx hy=>IsN.inj hx.1 hy.1
 keeps:=λ x ho hd hs=>⟨x.1.keeps ho hd hs,x.2⟩
 pyHash:=λ hu hk h=>qn3 7 hk.2.1 (by omega) hk.1 h
 eqBool:=λ {A E s x y a b Q} hu hx hy h=>by
  obtain ⟨as,ra⟩:=hx.1.reads;obtain ⟨bs,rb⟩:=hy.1.reads;refine SeqAt.eqAt_reads x.dat y.dat A s _ _ as bs ra rb hx.2.2 hy.2.2 ?_ _ _ _ _ ?_
  ·rw [NK.depth,NK.depth];have:=hx.2.1;omega
  ·rw [NK.eqv];exact h
 quiet:=λ hk h=>qji 8 (Nat.le_succ_of_le hk.2.1) hk.1 h
mutual
/-- the key x lies at v -/
def NAt (H:Hp):NK ->V ->Prop
 | .leaf k,v=>v=kV k
 | .tup xs,v=>∃ a vs,v= .ref a/\H a=some (.tup vs)/\NAts H xs vs
def NAts (H:Hp):List NK ->List V ->Prop
 | [],vs=>vs=[]
 | x::r,vs=>∃ v vr,vs=v::vr/\NAt H x v/\NAts H r vr
end
mutual
theorem NAt.keep {H H':Hp} (J:∀ b ys,H b=some (.tup ys) ->H' b=some (.tup ys)):∀ {x:NK} {v:V},NAt H x v ->NAt H' x v
 | .leaf k,v,h=>by
  rw [NAt] at h ⊢;exact h
 | .tup xs,v,h=>by
  rw [NAt] at h ⊢;obtain ⟨a,vs,e,h1,h2⟩:=h;exact ⟨a,vs,e,J _ _ h1,NAts.keep J h2⟩
theorem NAts.keep {H H':Hp} (J:∀ b ys,H b=some (.tup ys) ->H' b=some (.tup ys)):∀ {x:List NK} {v:List V},NAts H x v ->NAts H' x v
 | [],v,h=>by
  rw [NAts] at h ⊢;exact h
 | x::r,v,h=>by
  rw [NAts] at h ⊢;obtain ⟨u,ur,e,h1,h2⟩:=h;exact ⟨u,ur,e,NAt.keep J h1,NAts.keep J h2⟩
end
theorem NAt.same {H H':Hp} {x:NK} {v:V} (s:Same H H') (h:NAt H x v):NAt H' x v:=h.keep λ _ _ e=>s _ _ e
mutual
theorem NAt.is {P:Program} {w:World} {H:Hp} {h:Heap} (ok:HOk P w H h):∀ {x:NK} {v:V} {u:Value},NAt H x v ->RelV v u ->IsN P w h x u
 | .leaf k,v,u,hx,r=>by
  rw [NAt] at hx;subst hx;rw [IsN];exact q67 r
 | .tup xs,v,u,hx,r=>by
  rw [NAt] at hx;obtain ⟨a,vs,rfl,h1,h2⟩:=hx;cases (show u=Value.ref a from r)
  obtain ⟨_,its,rv,o,g1,g2,n,g3⟩:=(show ObjOk P w H h a (.tup vs) from ok a _ h1);rw [IsN];exact ⟨a,o,its.toArray,n,zr,g1,g2,g3,by simpa using NAts.is ok h2 rv⟩
theorem NAts.is {P:Program} {w:World} {H:Hp} {h:Heap} (ok:HOk P w H h):∀ {x:List NK} {v:List V} {u:List Value},NAts H x v ->Vals v u ->IsNs P w h x u
 | [],v,u,hx,r=>by
  rw [NAts] at hx;subst hx;cases r
  rw [IsNs]
 | x::xs,v,u,hx,r=>by
  rw [NAts] at hx;obtain ⟨v1,vr,rfl,h1,h2⟩:=hx;cases r with
  | cons r1 r2=>
   rw [IsNs];exact ⟨_,_,zr,NAt.is ok h1 r1,NAts.is ok h2 r2⟩
end
def NOk (x:NK):Prop:=x.deep<=7/\x.dat.canLay0=true
abbrev KN (H:Hp):List (NK×V) ->List (NK×Addr×Value) ->Prop:=Paired λ p q=>p.1=q.1/\(NAt H p.1 (.ref q.2.1)/\NOk p.1)/\RelV p.2 q.2.2
theorem KN.val {H:Hp} {kvs:List (NK×V)} {xs:List (NK×Addr×Value)} (r:KN H kvs xs) (k:NK):RelO (valV kvs k) ((atKey xs k).map (·.2)):=by
 induction r with
 | nil=>exact True.intro
 | @cons p q ps J h t ih=>
  obtain ⟨h1,_,h2⟩:=h;by_cases e:p.1=k
  ·have e':q.1=k:=h1.symm.trans e;have b:atKey (q::J) k=some q.2:=by simp [atKey,z2r,e']
   rw [q1x e,b];exact h2
  ·have e':q.1≠k:=λ z=>e (h1.trans z);have b:atKey (q::J) k=atKey J k:=by simp [atKey,z2r,e']
   rw [q1y e,b];exact ih
theorem KN.repl {H:Hp} {kvs:List (NK×V)} {xs:List (NK×Addr×Value)} (r:KN H kvs xs) (k:NK) {y:V} {u:Value} (ry:RelV y u):
  KN H (kvs.map λ J=>if J.1=k then (J.1,y) else J) (xs.map (putAt k u)):=by
 induction r with
 | nil=>exact .nil
 | @cons p q ps qs h t ih=>
  rw [z35,z35];refine .cons ?_ ih;obtain ⟨h1,h2,h3⟩:=h;unfold putAt;by_cases e:p.1=k
  ·have e':q.1=k:=h1.symm.trans e;rw [if_pos e,if_pos e'];exact ⟨h1,h2,ry⟩
  ·have e':q.1≠k:=λ z=>e (h1.trans z);rw [if_neg e,if_neg e'];exact ⟨h1,h2,h3⟩
theorem KN.put {H:Hp} {kvs:List (NK×V)} {xs:List (NK×Addr×Value)} (r:KN H kvs xs) (k:NK) {b:Addr} {y:V} {u:Value} (hb:NAt H k (.ref b)/\NOk k) (ry:RelV y u):
  KN H (putK kvs k y) (storedH xs k b u):=by
 have e:(kvs.any λ kv=>decide (kv.1=k))=(atKey xs k).isSome:=by
  rw [q2n,(r.val k).q44,Option.isSome_map]
 unfold putK storedH;rw [e];by_cases q:(atKey xs k).isSome=true
 ·rw [if_pos q,if_pos q];exact r.repl k ry
 ·rw [if_neg q,if_neg q];exact Paired.snoc r ⟨rfl,hb,ry⟩
theorem KN.keeps {H H':Hp} {kvs:List (NK×V)} {xs:List (NK×Addr×Value)} (r:KN H kvs xs) (ht:∀ b ys,H b=some (.tup ys) ->H' b=some (.tup ys)):KN H' kvs xs:=
 Paired.mapP r λ _ _ z=>⟨z.1,⟨z.2.1.1.keep ht,z.2.1.2⟩,z.2.2⟩
def dNφ (P:Program) (w:World) (a:Addr) (xs:List (NK×Addr×Value)):Heap ->Prop:=λ h=>(a==sysModules)=false/\xs.length<=sizeLine/\∃ o es ep,h.get? a=some o/\o.ExactDict/\o.data= .dict es ep/\es.toList=xs.map (entryOfKey (nestKind P w))/\(xs.map (·.1)).Nodup
theorem qqp {P:Program} {w:World} {H:Hp} {a:Addr} {xs:List (NK×Addr×Value)} {h:Heap} (x:dNφ P w a xs h):ObjOk P w H h a (.ext (dNφ P w a xs)):=by
 refine ⟨x,let ⟨_,_,o,_,_,h1,_⟩:=x;⟨o,h1⟩,λ h1 h2 y k=> ?_⟩;obtain ⟨y1,y2,o,es,ep,g1,g2⟩:=y;exact ⟨y1,y2,o,es,ep,k _ g1,g2⟩
def DN (P:Program) (w:World) (H:Hp) (a:Addr) (kvs:List (NK×V)):Prop:=∃ xs,H a=some (.ext (dNφ P w a xs))/\KN H kvs xs
theorem DN.same {P:Program} {w:World} {H H':Hp} {a:Addr} {kvs:List (NK×V)} (s:Same H H') (h:DN P w H a kvs):DN P w H' a kvs:=let ⟨xs,h1,h2⟩:=h;⟨xs,s _ _ h1,h2.keeps λ _ _ e=>s _ _ e⟩
theorem DN.keep {P:Program} {w:World} {H:Hp} {a b:Addr} {kvs:List (NK×V)} {o:HO} (h:DN P w H a kvs) (ne:a≠b) (nt:∀ ys,H b≠some (.tup ys)):DN P w (upd H b o) a kvs:=by
 obtain ⟨xs,h1,h2⟩:=h;exact ⟨xs,by rw [qd ne];exact h1,h2.keeps λ c ys e=>by rw [qd (λ z=>nt ys (by rw [<- z];exact e))];exact e⟩
section
variable {P:Program} {w:World} {H:Hp} {h:Heap} {a:Addr}
theorem q7m {kvs:List (NK×V)} (ok:HOk P w H h) (e:DN P w H a kvs):kvs.length<=sizeLine/\(a==sysModules)=false/\∃ xs,H a=some (.ext (dNφ P w a xs))/\KN H kvs xs/\h.DictOfH (nestKind P w) a xs:=by
 obtain ⟨xs,e,r⟩:=e;obtain ⟨⟨y,z,o,es,ep,h1,h2,h3,h4,h5⟩,_⟩:=(show ObjOk P w H h a (.ext (dNφ P w a xs)) from ok a _ e);refine ⟨by rw [Paired.length r];exact z,y,xs,e,r,o,es,ep,h1,h2,h3,h4,λ x hx=> ?_,h5⟩;have all:∀ {l:List (NK×V)} {m:List (NK×Addr×Value)},KN H l m ->∀ x∈m,(nestKind P w).is h x.1 x.2.1:=by
  intro l m q
  induction q with
  | nil=>intro x hx;exact nomatch hx
  | @cons p q ps qs hq t ih=>
   intro x hx;rcases z37.mp hx with e | hx
   ·subst e;obtain ⟨g1,⟨g2,g3⟩,_⟩:=hq;rw [<- g1];exact ⟨g2.is ok rfl,g3⟩
   ·exact ih x hx
 exact all r x hx
theorem qgp {k:NK} {b:Addr} (ok:HOk P w H h) (e:NAt H k (.ref b)) (o:NOk k):(nestKind P w).is h k b:=⟨e.is ok rfl,o⟩
end
theorem q8z {P:Program} {w:World} {A:Around} (hu:A.units+64 < cLine):(nestKind P w).room A.in1:=by
 show A.in1.units+40 < cLine;rw [Around.in1_units];omega
section
variable {X:Cx} {pins:List (Addr×Obj)} {σ:St} {H:Hp} {s:Shared} {a b:Addr} {v d:V} {r:Value} {A:Around} {E:Value ->Shared ->Prop} {kvs:List (NK×V)} {k:NK}
theorem qn4 {Q:Value ->Shared ->Prop} (hu:A.units+64 < cLine) (I:Inv X pins σ H s) (g:DN X.prog X.w H a kvs) (nk:NAt H k (.ref b)) (ok:NOk k) (l:valV kvs k=some v) (h:∀ J s',Inv X pins σ H s' ->RelV v J ->Q J s'):
  wpAny (model X.prog X.w) A (getItem (.ref a) (.ref b)) Q E s:=by
 obtain ⟨z,hd,xs,_,O,dd⟩:=q7m I.hok g;obtain ⟨J,hw,Y⟩:=RelO.qd6 (v:=v) (o:=(atKey xs k).map (·.2)) (by rw [<- l];exact O.val k);obtain ⟨p,hp,L⟩:=z0m.mp hw;refine wpAny_getItem_heap (q8z hu) (qgp I.hok nk ok) dd hp ?_;rw [L];exact h J _ (I.tok _) Y
theorem que {Q:Value ->Shared ->Prop} (hu:A.units+64 < cLine) (I:Inv X pins σ H s) (g:DN X.prog X.w H a kvs) (nk:NAt H k (.ref b)) (ok:NOk k) (rd:RelV d r) (h:∀ O s',Inv X pins σ H s' ->RelV ((valV kvs k).getD d) O ->Q O s'):
  wpAny (model X.prog X.w) A (call (.builtin "dict.get") [.ref a,.ref b,r]) Q E s:=by
 obtain ⟨z,hd,xs,_,J,L⟩:=q7m I.hok g;exact call_meetsIn PySem.F.slot_dict_get L.typeIs PySem.F.entry_dict_get (PySem.F.args_dict_get_3 _ _ _) (meetsH_dict_get_default (nestKind X.prog X.w) a b hd r) ⟨q8z hu,k,xs,qgp I.hok nk ok,L,h _ _ (I.tok _) ((J.val k).getD rd)⟩
theorem qn5 {Q:Unit ->Shared ->Prop} (hu:A.units+64 < cLine) (I:Inv X pins σ H s) (g:DN X.prog X.w H a kvs) (nk:NAt H k (.ref b)) (ok:NOk k) (l:kvs.length < sizeLine) (rv:RelV v r) (h:∀ o s',DN X.prog X.w (upd H a o) a (putK kvs k v) ->Inv X pins σ (upd H a o) s' ->Q () s'):
  wpAny (model X.prog X.w) A (setItem (.ref a) (.ref b) r) Q E s:=by
 obtain ⟨z,hd,xs,e,L,dd⟩:=q7m I.hok g;have hz:xs.length<=sizeLine:=by rw [<- Paired.length L];exact z
 refine wpAny_setItem_heap (hsz:=hz) (q8z hu) (qgp I.hok nk ok) dd λ h' Y hs=> ?_;obtain ⟨q,es,ep,hq,h2,h3,h4,_,h5⟩:=Y;have J:=(L.put k ⟨nk,ok⟩ rv);have hl:(storedH xs k b r).length<=sizeLine:=by
  rw [<- Paired.length J];have:=q1i kvs k v;omega
 have O:KN (upd H a (.ext (dNφ X.prog X.w a (storedH xs k b r)))) (putK kvs k v) (storedH xs k b r):=J.keeps λ c ys Z=>by
  rw [qd (λ z=>by rw [z,e] at Z;cases Z)];exact Z
 exact h (.ext (dNφ X.prog X.w a (storedH xs k b r))) _ ⟨_,q0,O⟩ (q9q I (by rw [e];exact True.intro) hs ⟨q,hq⟩ (qqp ⟨hd,hl,q,es,ep,hq,h2,h3,h4,h5⟩))
end
def qwr (P:Program) (w:World):TE:=λ σ H Q=>∀ p o,H p=none ->DN P w (upd H p o) p [] ->Q (.ref p) (upd H p o)
def qws (P:Program) (w:World) (td ty:TE):TE:=λ σ H Q=>td σ H λ x H1=>ty σ H1 λ y H2=>∃ a b kvs k v,x= .ref a/\y= .ref b/\DN P w H2 a kvs/\NAt H2 k (.ref b)/\NOk k/\valV kvs k=some v/\Q v H2
def quf (P:Program) (w:World) (td ty tx:TE):TE:=λ σ H Q=>td σ H λ x H1=>∃ a,x= .ref a/\(∃ kvs,DN P w H1 a kvs)/\ty σ H1 λ y H2=>tx σ H2 λ z H3=>∃ b kvs k,y= .ref b/\DN P w H3 a kvs/\NAt H3 k (.ref b)/\NOk k/\Q ((valV kvs k).getD z) H3
def qwt (P:Program) (w:World) (td ty tv:TE):TS:=λ D σ H=>tv σ H λ v H1=>td σ H1 λ x H2=>ty σ H2 λ y H3=>∃ a b kvs k,x= .ref a/\y= .ref b/\DN P w H3 a kvs/\NAt H3 k (.ref b)/\NOk k/\kvs.length < sizeLine/\∀ o,DN P w (upd H3 a o) a (putK kvs k v) ->D.nx σ (upd H3 a o)
section
variable {X:Cx} {P:Program} {w:World} {o i e f value:Expr} {pos pos' tpos apos cpos:Pos} {td ty tv tx:TE}
theorem qgq {pins:List (Addr×Obj)} {σ:St} {H:Hp} {s:Shared} {a:Addr} {kvs:List (NK×V)} (I:Inv X pins σ H s) (g:DN X.prog X.w H a kvs):s.TypeIs (.ref a) "dict":=by
 obtain ⟨_,_,xs,_,_,dd⟩:=q7m I.hok g;exact dd.typeIs
theorem qjj (hP:X.prog=P:=by rfl) (hw:X.w=w:=by rfl):PE X (.Dict [] [] pos) (qwr P w):=by
 subst hP hw;intro pins s σ H Q I h;have J:(s.heap.objs.size==sysModules)=false:=beq_eq_false_iff_ne.mpr (Ne.symm (z3i I.big));have new:dNφ X.prog X.w s.heap.objs.size [] (s.heap.push {cls:= .type "dict",data:= .dict #[]}):=⟨J,z3t _,_,#[],0,z16 _ rfl,⟨rfl,rfl,rfl⟩,rfl,rfl,z32⟩;exact wpAny_Dict_empty ⟨.ref s.heap.objs.size,_,I.laid (a:=s.heap.objs.size) (o:= .ext (dNφ X.prog X.w s.heap.objs.size [])) (t':=s.toks) (λ _ _ q=>z0k _ q) (z3q _) (qqp new),zr,h _ _ (I.hok.fresh (z3q _)) ⟨[],q0,.nil⟩⟩
theorem qs7 (hu:X.A.units+64 < cLine) (ho:PE X o td) (hi:PE X i ty) (hs:NoSl i) (hP:X.prog=P:=by rfl) (hw:X.w=w:=by rfl):PE X (.Subscript o i pos) (qws P w td ty):=by
 subst hP hw;intro pins s σ H Q I h;refine qj2 PySem.F.slot_dict_getitem.lookup hs (thn (ho pins s σ H _ I h) λ u s1 ⟨x,H1,I1,rx,q1⟩=>thn (hi pins s1 σ H1 _ I1 q1) λ iv s2 L=> ?_);obtain ⟨y,H2,I2,ry,a,b,kvs,k,v,ex,ey,g,nk,ok,l,q2⟩:=L;subst ex ey;obtain rfl:u=Value.ref a:=rx;obtain rfl:iv=Value.ref b:=ry;exact ⟨qgq I2 g,qn4 hu I2 g nk ok l λ w' s3 I3 J=>⟨v,H2,I3,J,q2⟩⟩
theorem qjk (hu:X.A.units+64 < cLine) (ho:PE X o td) (hi:PE X i ty) (hv:PE X value tv) (hs:swapsWith value (some (.Subscript o i pos')) pos.line X.env=pure false) (hP:X.prog=P:=by rfl) (hw:X.w=w:=by rfl):
  PS X (.Assign [.Subscript o i pos'] value pos) (qwt P w td ty tv):=by
 subst hP hw;intro pins s σ H D I h;refine wpAny_Assign_Subscript (thn (hv pins s σ H _ I h) λ r s1 ⟨v,H1,I1,rv,q1⟩=>thn (ho pins s1 σ H1 _ I1 q1) λ u s2 ⟨x,H2,I2,rx,q2⟩=>thn (hi pins s2 σ H2 _ I2 q2) λ iv s3 J=> ?_) hs;obtain ⟨y,H3,I3,ry,a,b,kvs,k,ex,ey,g,nk,ok,l,q3⟩:=J;subst ex ey;obtain rfl:u=Value.ref a:=rx;obtain rfl:iv=Value.ref b:=ry;exact qn5 hu I3 g nk ok l rv λ o s4 dn I4=>⟨σ,_,I4,q3 o dn⟩
theorem qpa (hu:X.A.units+64 < cLine) (ho:PE X o td) (he:PE X e ty) (hf:PE X f tx) (m:M2 X o "get" apos e f cpos) (hP:X.prog=P:=by rfl) (hw:X.w=w:=by rfl):PE X (.Call (.Attribute o "get" apos) [e,f] [] cpos) (quf P w td ty tx):=by
 subst hP hw;intro pins s σ H Q I h;refine wpAny_Call_method m.base m.few m.line PySem.F.plainAttrs_dict PySem.F.slot_dict_get PySem.F.type_dict_get (thn (ho pins s σ H _ I h) λ u s1 O=> ?_);obtain ⟨x,H1,I1,rx,a,ex,⟨kv0,d⟩,q1⟩:=O;subst ex;obtain rfl:u=Value.ref a:=rx;have t2:∀ b,Value.ref a= .ref b ->∃ J,s1.heap.get? b=some J/\J.dict=none:=λ b q=>by
  cases q
  obtain ⟨_,_,xs,_,_,J,_,_,h1,h2,_⟩:=q7m I1.hok d;exact ⟨J,h1,h2.2.1⟩
 refine ⟨qgq I1 d,t2,?_⟩;rw [m.trees];refine Calls.callWith_builtin rfl (Calls.evalArgs_plain (Calls.spliced_cons (thn (he pins s1 σ H1 _ I1 q1) λ iv s2 ⟨y,H2,I2,ry,q2⟩=>
  Calls.spliced_cons (thn (hf pins s2 σ H2 _ I2 q2) λ fv s3 ⟨z,H3,I3,rz,b,kvs,k,ey,g,nk,ok,q3⟩=>Calls.spliced_nil ?_))))
 subst ey;obtain rfl:iv=Value.ref b:=ry;exact que hu I3 g nk ok rz λ w' s4 I4 L=>⟨_,H3,I4,L,q3⟩
theorem qug {prog:Program} {w:World} {K:Type} [DecidableEq K] {knd:HeapKind prog w K} {A:Around} {E:Value ->Shared ->Prop} {s:Shared} {d:Addr} {xs:List (K×Addr×Value)} {Q:Value ->Shared ->Prop} (hd:(d==sysModules)=false) (O:s.heap.DictOfH knd d xs) (Y:(xs.length:Int) < 2^63)
  (h:Q (.int xs.length (s.toks+1)) {s with toks:=s.toks+1+1}):wpAny (model prog w) A (call (.builtin "len") [.ref d]) Q E s:=by
 refine Calls.call_function_entry kind_len plain_len entry_len (args_len1 _) ?_;unfold Builtin.«len»;refine z3w (m:=oneArg "len" _) (z3v ?_);have J:MeetsIn prog w (Builtin.«dict.__len__» ⟨[.ref d],[]⟩) (λ _ R s=>∃ xs,s.heap.DictOfH knd d xs/\R (.ok (.ret (.int xs.length s.toks))) {s with toks:=s.toks+1}):= .of_wp λ A R s ⟨xs,O,h⟩=>by
  obtain ⟨o,es,ep,ho,hc,L,he,_⟩:=O;show wpAny _ _ (dictSize d >>=_) _ _ s;unfold dictSize;refine z3w (z3w (z20 ho L (z3v ?_)));show wpAny _ _ (Builtin.Dict.pendingCount d >>=_) _ _ s;refine z3w (wpAny_pendingCount_other hd ?_);refine wpAny_ret_mkInt ?_;have:es.size=xs.length:=size_of_entries he;rw [Nat.add_zero,this];exact h
 refine z3w (m:=callSpecial? (.ref d) (Str.ofString "__len__")) (wpAny_callSpecial?_slot (name:=Str.ofString "__len__") O.typeIs F.slot_dict_len
  (call_meetsIn F.slot_dict_len O.typeIs F.entry_dict_len (F.args_dict_len_1 _) J ⟨xs,O,?_⟩))
 show wpAny _ _ _ _ _ {s with toks:=s.toks+1};refine z3w (z38 (z3v ?_));refine z3w (wpAny_letGo ?_);show wpAny _ _ (if ((xs.length:Nat):Int) < 0 then _ else _) _ _ _;rw [if_neg (by omega)];show wpAny _ _ (if ((xs.length:Nat):Int) >=2^63 then _ else _) _ _ _;rw [if_neg (by omega)];exact z3w (wpAny_mkInt (z3v ⟨_,zr,h⟩))
theorem q90 (P:Program) (w:World) (hP:X.prog=P:=by rfl) (hw:X.w=w:=by rfl):q23 X (.builtin "len") (λ xs H Q=>∃ a kvs,xs=[V.ref a]/\DN P w H a kvs/\Q (.int kvs.length) H):=by
 subst hP hw;intro pins s σ H xs us Q I r h;obtain ⟨a,kvs,rfl,ha,q⟩:=h;obtain ⟨u,rfl,ru⟩:=q2y r;cases ru
 obtain ⟨z,hd,xs,_,J,dd⟩:=q7m I.hok ha;have L:kvs.length=xs.length:=Paired.length J;refine qug hd dd (by rw [<- L];rw [sizeLine_eq] at z;omega) ?_;rw [<- L];exact ⟨.int kvs.length,H,I.tok _,⟨_,zr⟩,q⟩
end
end L2
namespace L2
open PySem PySem.Spec PyProof.Rows PySem.W
section
variable {prog:Program} {w:World} {A:Around} {E:Value ->Shared ->Prop} {s:Shared}
theorem qak {fin:Bool} {Q:Bool ->Shared ->Prop}:∀ (l:List (Value×Value)) (i:Nat) (s:Shared),KatLex prog w A true fin Q l (i+1) s=KatLex prog w A false fin Q l (i+1) s
  | [],_,_=>rfl
  | (p,q)::r,i,s=>by
    have e:(λ (e:Bool) (s':Shared)=>if e=true then KatLex prog w A true fin Q r (i+1+1) s' else wpAny (model prog w) A (oneLt' (true&&i+1==0) p q) Q (λ _ _=>False) s')=λ e s'=>if e=true then KatLex prog w A false fin Q r (i+1+1) s' else wpAny (model prog w) A (oneLt' (false&&i+1==0) p q) Q (λ _ _=>False) s':=by
      funext e s'
      rw [qak r (i+1) s'];rfl
    show wpAny (model prog w) A (eqBool p q) _ _ s=wpAny (model prog w) A (eqBool p q) _ _ s;rw [e]
def STAt (h:Heap) (v:Value):Prop:=∃ z ds as,Reads h v (.tuple (.str z::ds)) as
theorem qed:∀ (vs:List Value),(∀ v∈vs,STAt s.heap v) ->∃ fs:List (Option Value),(∀ (M:Model) (A:Around) (E:Value ->Shared ->Prop) (Q:List (Option Value) ->Shared ->Prop),Q fs s ->wpAny M A (vs.mapM firstOfTuple') Q E s)/\fs.length=vs.length/\
  ∀ f∈fs,∃ x t,f=some (.str x t)
 | [],_=>⟨[],λ M A E Q q=>by rw [List.mapM_nil];exact z3v q,rfl,λ _ z=>nomatch z⟩
 | v::vs,h=>by
  obtain ⟨fs,g1,g2,g3⟩:=qed vs λ u hu=>h u (z10 _ hu);obtain ⟨z,ds,as,hr⟩:=h v (z1g ..);cases hr with
  | @tuple b o its n _ _ h1 h2 h3 h4=>
   refine ⟨its[0]? ::fs,λ M A E Q q=> ?_,by rw [z27,g2,z27],λ f J=> ?_⟩
   ·rw [List.mapM_cons];refine z3w ?_;rw [kas_first_eq];refine z3w (Looks.here (show Looks M s.heap (typeOf (.ref b)) o.cls from (Looks.ld h1).andThen .now) ?_);rw [h2,if_neg (by decide)];refine z3w (listItems_at h1 h3 (z3v ?_));exact z3w (g1 M A E (λ bs s'=>wpAny M A (pure (its[0]? ::bs)) Q E s') (z3v q))
   ·rcases z37.mp J with rfl | J
    ·rw [<- z0t];revert h4;generalize its.toList=l;intro h4;cases h4 with
     | @cons _ d _ _ _ _ r1 rs=>
      cases r1 with
      | str x t=>exact ⟨_,t,rfl⟩
    ·exact g3 f J
theorem qs8 {vs:List Value} (h:∀ v∈vs,STAt s.heap v) (h2:2<=vs.length):∀ (M:Model) (A:Around) (E:Value ->Shared ->Prop) (Q:SortKind ->Shared ->Prop),Q (tuples' true) s ->wpAny M A (keyKind' vs.toArray) Q E s:=by
 obtain ⟨fs,g1,Z,g3⟩:=qed vs h;have J:(fs.toArray.all λ x=>x.isSome)=true:=by
  simp only [List.all_toArray,z2c];intro f O;obtain ⟨x,t,rfl⟩:=g3 f O;rfl
 intro M A E Q q;rw [kat_kind_eq,z21,map_eq_pure_bind];refine z3w (z3w (g1 M A E _ (z3v ?_)));rw [if_pos J];refine z3w (z3u ?_);obtain ⟨f1,fr,e⟩:∃ f1 fr,fs=f1::fr:=by
  cases e:fs with
  | nil=>rw [e] at Z;simp at Z;omega
  | cons f1 fr=>exact ⟨f1,fr,rfl⟩
 have hs:∀ v∈fs.filterMap id,∃ x t,v= .str x t:=λ v hv=>by
  obtain ⟨f,O,e⟩:=List.mem_filterMap.mp hv;obtain ⟨x,t,rfl⟩:=g3 f O;exact ⟨x,t,(Option.some.inj e).symm⟩
 have Y:fs.toArray.filterMap id=(fs.filterMap id).toArray:=by simp
 rw [Y,oneTypeOnly'_eq,z21,q6i _ hs];simp only [map_pure,pure_bind];have h0:∃ v L,fs.filterMap id=v::L:=by
  rw [e] at J ⊢;cases f1 with
  | none=>simp at J
  | some v=>exact ⟨v,fr.filterMap id,rfl⟩
 obtain ⟨v,L,ev⟩:=h0;rw [ev];have ha:((List.map (λ _=>Value.type "str") (v::L)).toArray.all λ x=>x==Value.type "str")=true:=by
  simp only [List.all_toArray,z3o,z2c];intro _ _;rfl
 have hz:(List.map (λ _=>Value.type "str") (v::L)).toArray[0]? =some (Value.type "str"):=by simp
 rw [hz];simp only [ha,if_true,pure_bind];exact z3v q
theorem quh {x y:Value} {z J:Str} {ds es:List PyData} {as bs:List Addr} {r:Bool} (hx:Reads s.heap x (.tuple (.str z::ds)) as) (hy:Reads s.heap y (.tuple (.str J::es)) bs) (lx:(PyData.tuple (.str z::ds)).canLay0=true) (ly:(PyData.tuple (.str J::es)).canLay0=true) (hu:A.units+64 < cLine) (hd:(PyData.tuple (.str z::ds)).depth<=50)
  (e:ltD? (.tuple (.str z::ds)) (.tuple (.str J::es))=some r):Tim.KLt prog w A s (tuples' true) x y r:=by
 have hd':PyData.depthAll (.str z::ds)+1<=50:=hd;have e':lexD? (.str z::ds) (.str J::es)=some r:=by rw [ltD?] at e;exact e
 intro E Q k;cases hx with
 | @tuple b o its n _ _ h1 h2 h3 h4=>
  cases hy with
  | @tuple b' o' its' n' _ _ k1 k2 k3 Z=>
   refine kat_lt h1 h3 k1 k3 ?_;have hf:decide (its.size < its'.size)=decide (its.toList.length < its'.toList.length):=by rw [z13,z13]
   rw [hf];revert h4 Z;generalize its.toList=vs;generalize its'.toList=ws;intro h4 Z;have a0:PyData.canLayAll0 (.str z::ds)=true:=lx;have a2:PyData.canLayAll0 (.str J::es)=true:=ly;have L:(PyData.str z).canLay0=true/\PyData.canLayAll0 ds=true:=by simpa [PyData.canLayAll0] using a0
   have O:(PyData.str J).canLay0=true/\PyData.canLayAll0 es=true:=by simpa [PyData.canLayAll0] using a2
   cases h4 with
   | @cons v vr _ _ as1 as2 r1 rs=>
    cases Z with
    | @cons v' vr' _ _ bs1 bs2 Y a3=>
     have hm:min (PyData.depthAll ds) (PyData.depthAll es)<=PyData.depthAll (.str z::ds):=by
      show _<=max 0 (PyData.depthAll ds);omega
     rw [z1k];have eq:=SeqAt.eqAt_reads (.str z) (.str J) A s _ _ _ _ r1 Y L.1 O.1 (by show A.units+min 0 0 < cLine;omega);refine kat_cons (eq prog w _ _ ?_);rw [lexD?] at e';cases q:PyData.eqv (.str z) (.str J) with
     | true=>
      rw [if_pos q] at e';refine kat_yes ?_;rw [qak];exact q8x ds es _ _ _ _ 1 rs a3 L.2 O.2 (by omega) (by simp) e' k
     | false=>
      rw [if_neg (by rw [q];exact z1c)] at e';refine kat_no ?_;cases r1 with
      | str _ t=>
       cases Y with
       | str _ u=>
        have e2:decide (z.cps.toList < J.cps.toList)=r:=by
         rw [ltD?] at e';exact Option.some.inj e'
        refine qc8 _ z J t u ?_;show Q (decide (z.cps.toList < J.cps.toList)) s;rw [e2];exact k
end
mutual
theorem NAt.inj {H:Hp}:∀ {x y:NK} {v:V},NAt H x v ->NAt H y v ->x=y
 | .leaf k,.leaf j,v,hx,hy=>by
  rw [NAt] at hx;rw [NAt] at hy;rw [qm7 (hx.symm.trans hy)]
 | .leaf k,.tup ys,v,hx,hy=>by
  rw [NAt] at hx;rw [NAt] at hy;obtain ⟨a,_,e,_⟩:=hy;rw [hx] at e;cases k <;> cases e
 | .tup xs,.leaf k,v,hx,hy=>by
  rw [NAt] at hx;rw [NAt] at hy;obtain ⟨a,_,e,_⟩:=hx;rw [hy] at e;cases k <;> cases e
 | .tup xs,.tup ys,v,hx,hy=>by
  rw [NAt] at hx;rw [NAt] at hy;obtain ⟨a,vs,rfl,h1,h2⟩:=hx;obtain ⟨a',vs',e,J,g2⟩:=hy;injection e with e;subst e;rw [h1] at J;injection J with J;injection J with J;subst J;rw [NAts.inj h2 g2]
theorem NAts.inj {H:Hp}:∀ {x y:List NK} {vs:List V},NAts H x vs ->NAts H y vs ->x=y
 | [],[],_,_,_=>rfl
 | [],y::r,vs,hx,hy=>by
  rw [NAts] at hx;rw [NAts] at hy;obtain ⟨v,J,e,_⟩:=hy;rw [hx] at e;cases e
 | x::r,[],vs,hx,hy=>by
  rw [NAts] at hx;rw [NAts] at hy;obtain ⟨v,J,e,_⟩:=hx;rw [hy] at e;cases e
 | x::r,y::t,vs,hx,hy=>by
  rw [NAts] at hx;rw [NAts] at hy;obtain ⟨v,J,rfl,h1,h2⟩:=hx;obtain ⟨v',vr',e,g1,g2⟩:=hy;cases e
  rw [NAt.inj h1 g1,NAts.inj h2 g2]
end
abbrev PR:=Str×List Key
def pN (p:PR):NK:= .tup [.leaf (.inr p.1),.tup (p.2.map NK.leaf)]
theorem qee:∀ {a b:List Key},a.map NK.leaf=b.map NK.leaf ->a=b
 | [],[],_=>rfl
 | [],_::_,e=>nomatch e
 | _::_,[],e=>nomatch e
 | x::a,y::b,e=>by
  rw [z35,z35] at e;injection e with e1 e2;injection e1 with e1;rw [e1,qee e2]
theorem qgr {p q:PR} (e:pN p=pN q):p=q:=by
 unfold pN at e;injection e with e;injection e with e1 e2;injection e2 with e2 _;injection e1 with e1;injection e1 with e1;injection e2 with e2;exact Prod.ext e1 (qee e2)
def PrAt (H:Hp) (v:Value) (p:PR):Prop:=∃ b,v=Value.ref b/\NAt H (pN p) (.ref b)
theorem PrAt.inj {H:Hp} {v:Value} {p q:PR} (h:PrAt H v p) (g:PrAt H v q):p=q:=by
 obtain ⟨b,rfl,h1⟩:=h;obtain ⟨b',e,g1⟩:=g;cases e
 exact qgr (h1.inj g1)
open Classical in
noncomputable def decP (H : Hp) (v : Value) : PR := if h : ∃ p, PrAt H v p then Classical.choose h else (Str.empty, [])
theorem q9u {H:Hp} {v:Value} {p:PR} (h:PrAt H v p):decP H v=p:=by
 unfold decP;rw [dif_pos ⟨p,h⟩];exact PrAt.inj (Classical.choose_spec (⟨p,h⟩:∃ p,PrAt H v p)) h
def DP (P:Program) (w:World) (H:Hp) (a:Addr) (kvs:List (PR×V)):Prop:=DN P w H a (kvs.map λ kv=>(pN kv.1,kv.2))
def qn6 (P:Program) (w:World) (K:PySem.W.Frag) (sp:Sp) (t:TA):TE:=λ σ H Q=>t σ H λ vs H1=>∃ (d:Addr) (kvs:List (PR×V)) (kd:PR ->PyData) (lt:PR ->PR ->Bool),vs=[.ref d]/\DP P w H1 d kvs/\Tim.STO lt/\
 (∀ a∈kvs.map (·.1),∀ b∈kvs.map (·.1),ltD? (kd a) (kd b)=some (lt a b))/\
 (∀ a∈kvs.map (·.1),(∃ z ds,kd a= .tuple (.str z::ds))/\(kd a).depth<=50)/\
 (∀ a∈kvs.map (·.1),∀ b H2 (R:VK),Same H1 H2 ->NAt H2 (pN a) (.ref b) ->(∀ v H3,Same H2 H3 ->Dat K H3 (kd a) v ->R v H3) ->sp [.ref b] H2 R E0)/\
 (∀ l zs H2,Same H1 H2 ->H1 l=none ->H2 l=none ->Paired (λ x a=>∃ b,x=V.ref b/\NAt H1 (pN a) (.ref b)) zs (Tim.srt lt (kvs.map (·.1))) ->Q (.ref l) (upd H2 l (.lst zs)))
section
variable {X:Cx} {P:Program} {w:World} {k k':Nat} {x p1:Str} {sp:Sp} {e:Expr} {t:TA} {p pos kpos xp:Pos}
theorem qew (P:Program) (w:World) (K:PySem.W.Frag) (D:Def X.prog X.w X.K X.mg X.base k x [p1] sp) (hr:Room k' X.A) (hc:X.calm=true) (hg:Gl X "sorted") (c7:X.mg "sorted"=none) (hv:bootBuiltins "sorted"=some (.builtin "sorted")) (c4:Gl X x) (O:PA X [e] t)
  (c5:k+2<=k':=by decide) (hK:X.K=K:=by rfl) (hP:X.prog=P:=by rfl) (hw:X.w=w:=by rfl) (c1:(x==("__debug__":Str))=false:=by decide) (d0:(backTo pos (starEach [e] X.env)).any (·.1)=false:=by rfl) (he:backTo pos (starEach [e] X.env)=(false,eval e X.env)::backTo pos (starEach [] X.env):=by rfl):
  PE X (.Call (.Name "sorted" p) [e] [⟨some "key",.Name x xp,kpos⟩] pos) (qn6 P w K sp t):=by
 subst hK hP hw;intro pins s σ H Q I h;obtain ⟨f,fd,F,hm,hk,hb⟩:=D.ex;have b5:=hr.mono c5;have c6:=qrf (X:=X) (nm:="key") (kpos:=kpos) (qp6 (pos:=xp) c4 hm c1) qtr;refine z1j (q5p I hg c7 hv ?_);refine callWith_kw (thn (O pos pins s σ H _ I h) λ us s1 ⟨vs,H1,I1,r1,q1⟩=>thn (c6 pos pins s1 σ H1 (λ ws H2=>ws=[.ref f]/\H2=H1) I1 ⟨zr,zr⟩) λ ws s2 d2=> ?_) he d0;obtain ⟨zs,H2,I2,rz,q2,q3⟩:=d2;subst q2 q3;obtain ⟨d,kvs,kd,lt,rfl,hd,b7,b3,L,b6,q⟩:=q1;obtain ⟨u,rfl,ru⟩:=q2y r1;cases ru
 obtain ⟨u,rfl,ru⟩:=q2y rz;cases ru
 obtain ⟨hz,c9,es0,d1,a7,o,es,ep,ho,hx,a0,a3,b0,c8⟩:=q7m I2.hok hd;rw [z2o] at hz;have J:Paired (PrAt H2) (es.toList.map (·.key)) (kvs.map (·.1)):=by
  rw [a3,z3p];clear hz a3 a0 ho q hd c8 b3 L b6 d1 b0;generalize Z:(kvs.map λ kv:PR×V=>(pN kv.1,kv.2))=kv2 at a7
  induction a7 generalizing kvs with
  | nil=>
   cases kvs with
   | nil=>exact .nil
   | cons c r=>cases Z
  | @cons c c' ps qs a rr ih=>
   cases kvs with
   | nil=>cases Z
   | cons kv r=>
    rw [z35] at Z;injection Z with e1 e2;refine .cons ⟨_,zr,?_⟩ (ih r e2);rw [show pN kv.1=c.1 by rw [<- e1]];exact a.2.1.1
 have Y:(es.toList.map (·.key)).length=kvs.length:=by
  rw [a3,z2o,z2o,<- Paired.length a7,z2o]
 have hl:(es.toList.map (·.key)).length<=sizeLine:=by rw [Y];exact hz
 have b2:(kvs.map (·.1)).length=(es.toList.map (·.key)).length:=by rw [z2o,Y]
 have mem:∀ v∈es.toList.map (·.key),∃ b,v=Value.ref b/\NAt H2 (pN (decP H2 v)) (.ref b):=λ v hv=>by
  obtain ⟨a,_,O⟩:=q8y J hv;have e9:=q9u O;obtain ⟨b,rfl,hb⟩:=O;exact ⟨b,rfl,by rw [e9];exact hb⟩
 have ev:(es.toList.map (·.key)).map (decP H2)=kvs.map (·.1):=(paired_mem (f:=decP H2) J λ v p h=>q9u h).1;show wpAny _ _ (call (.builtin "sorted") [.ref d] [(Str.ofString "key",.ref f)]) _ _ s2;refine call_function_entry_kw kind_sorted plain_sorted entry_sorted (ksk_s1 _ _) ?_;unfold Builtin.«sorted»;refine z3w (m:=checkCount "sorted" 1 1 _) (z3v ?_);refine z3w (qae (I2.ok.hd hc) c9 ⟨o,ho,hx,a0⟩ (by rw [z2o,z13] at hl;exact hl) λ h1 tk keep hsz=> ?_);generalize es.toList.map (·.key)=vs at J Y hl b2 mem ev;refine z3w (wpAny_newList ?_ hl);have b4:(h1.push (seqObj "list" vs.toArray 0)).get? h1.objs.size=some (seqObj "list" vs.toArray 0):=z16 _ rfl;have a5:∀ b o,s2.heap.get? b=some o ->(h1.push (seqObj "list" vs.toArray 0)).get? b=some o:=λ b o e=>z0k _ (keep b o e);show wpAny _ _ _ _ _ {s2 with heap:=h1.push (seqObj "list" vs.toArray 0),toks:=tk};have I3:Inv X pins σ H2 {s2 with heap:=h1.push (seqObj "list" vs.toArray 0),toks:=tk}:=I2.kept a5;have b1:H2 h1.objs.size=none:=I2.hok.fresh hsz;have fa:FpOk X pins H2 h1.objs.size:=I2.fpOk hsz b1;refine z3w (z38 (wpAny_call_entry_kw slot_list_sort ⟨_,b4,zr⟩ entry_list_sort ?body (ksk_l1 _ _)))
 case body=>
  show wpAny (model X.prog X.w) X.A.in1.in1 (Builtin.«list.sort» ⟨[.ref h1.objs.size],[(Str.ofString "key",.ref f)]⟩) _ _ _;rw [ksk_t1];refine qp9 (rk:=λ v=>Tim.rank lt (vs.map (decP H2)) (decP H2 v)) I3 b4 fa hl (λ i ks H'=>Same H2 H'/\Paired (λ k a=>∃ x,RelV x k/\Dat X.K H' (kd a) x) ks ((kvs.map (·.1)).take i)) ⟨Same.refl _,.nil⟩ (λ i v ks a6 H' s' hv lk hj I'=> ?_) (λ ks a6 H' s' lk hj I' h2=> ?_) λ ks H' s' out c hj so I' a9 g=>⟨_,zr,?_⟩
  ·obtain ⟨sm,hp⟩:=hj;obtain ⟨a,O,b,rfl,c0⟩:=q36 J hv;refine z3x (qs5 (Q:=λ v H3=>Same H' H3/\Dat X.K H3 (kd a) v) (vs:=[V.ref b]) F b5 hb I' (.cons (show RelV (V.ref b) (Value.ref b) from rfl) .nil) (b6 a (z12 O) b H' _ sm (c0.same sm) λ v H3 s3 d3=>⟨s3,d3⟩)) (λ u s'' z=> ?_) λ _ _ z=>z;obtain ⟨y,H3,b8,ry,s3,d3⟩:=z;refine ⟨H3,b8,sm.trans s3,?_⟩;rw [z33,O];exact paired_app (Paired.mapP hp λ k a ⟨x,rx,dx⟩=>⟨x,rx,Dat.same s3 _ _ dx⟩) ⟨y,ry,d3⟩
  ·obtain ⟨sm,hp⟩:=hj;rw [z0j (by rw [b2];exact z3q _)] at hp;have rd:∀ k a,a∈kvs.map (·.1) ->(∃ x,RelV x k/\Dat X.K H' (kd a) x) ->∃ as,Reads s'.heap k (kd a) as/\(kd a).canLay0=true:=λ k a _ ⟨x,rx,dx⟩=>by
    obtain ⟨as,hr⟩:=Dat.reads I' _ _ _ dx rx;exact ⟨as,hr,Dat.lay _ _ dx⟩
   have tt:∀ k∈ks,STAt s'.heap k:=λ k hk=>by
    obtain ⟨a,O,hx⟩:=q8y hp hk;obtain ⟨as,hr,_⟩:=rd k a O hx;obtain ⟨⟨z,ds,ed⟩,_⟩:=L a O;rw [ed] at hr;exact ⟨z,ds,as,hr⟩
   have kk:=qs8 (s:=s') tt (by omega);refine ⟨tuples' true,λ E Q z=>kk _ _ E Q z,λ x hx y hy=> ?_⟩;obtain ⟨a,O,fx,gx⟩:=q7k hp J x hx;obtain ⟨b,a2,fy,gy⟩:=q7k hp J y hy;obtain ⟨as,rx,lx⟩:=rd _ a O fx;obtain ⟨bs,ry,ly⟩:=rd _ b a2 fy;have e0:=b3 a O b a2;have e1:=Tim.qb6 b7 (decP H2) (List.of_mem_zip hx).2 (List.of_mem_zip hy).2;rw [<- e1,q9u gx,q9u gy];obtain ⟨⟨z,ds,ed⟩,a8⟩:=L a O;obtain ⟨⟨z',ds',b9⟩,_⟩:=L b a2;rw [ed] at rx lx e0 a8;rw [b9] at ry ly e0;exact quh rx ry lx ly b5.in1.in1.units a8 e0
  ·have ed:=Tim.q4t b7 (decP H2) so;rw [ev] at ed;have mo:∀ v∈out.toList,∃ b,v=Value.ref b/\NAt H2 (pN (decP H2 v)) (.ref b):=λ v hv=>mem v (so.perm.mem_iff.mp hv);obtain ⟨zs,rv,hp⟩:∃ zs:List V,Vals zs out.toList/\Paired (λ x a=>∃ b,x=V.ref b/\NAt H2 (pN a) (.ref b)) zs (out.toList.map (decP H2)):=by
    revert mo;generalize out.toList=os;intro mo
    induction os with
    | nil=>exact ⟨[],.nil,.nil⟩
    | cons v os ih=>
     obtain ⟨zs,r1,r2⟩:=ih λ u hu=>mo u (z10 _ hu);obtain ⟨b,e,hb⟩:=mo v (z1g ..);exact ⟨.ref b::zs,.cons e r1,.cons ⟨b,zr,hb⟩ r2⟩
   rw [ed] at hp;refine z3v ⟨_,rfl,.ref h1.objs.size,upd H' h1.objs.size (.lst zs),I'.track a9 ⟨?_,out.toList,c,rv,by rw [Array.toArray_toList];exact g⟩,rfl,q _ zs H' hj.1 b1 a9.1 hp⟩;rw [rv.length,so.perm.length_eq];exact hl
end
end L2
namespace L2
open PySem PySem.Spec PyProof.Rows
theorem qwu {P:Program} {w:World}:∀ {k:Key} {v:Value},(qo P w).is k v=true ->RelV (kV k) v
 | .inl _,_,h=>qjg h
 | .inr _,_,h=>qjh h
theorem qn7 {P:Program} {w:World} {kvs:List (Key×V)} {vs:List (Key×Value)} (h:KV kvs vs) {its:List Value} (hl:its.length=vs.length) (L:∀ (i:Nat) v,its[i]? =some v ->∃ k x,vs[i]? =some (k,x)/\(qo P w).is k v=true):Vals (kvs.map λ kv=>kV kv.1) its:=by
 induction h generalizing its with
 | nil=>
  cases its with
  | nil=>exact .nil
  | cons _ _=>cases hl
 | cons a r ih=>
  cases its with
  | nil=>cases hl
  | cons v its=>
   obtain ⟨k,x,e,hk⟩:=L 0 v rfl;refine .cons ?_ (ih (Nat.succ.inj hl) λ i u hu=>L (i+1) u hu);injection e with e;have J:=a.1;rw [e] at J;have:=qwu hk;rw [<- show _=k from J] at this;exact this
section
variable {X:Cx}
theorem qko (hc:X.calm=true):q23 X (.type "list") (λ xs H Q=>∃ (a:Addr) (kvs:List (Key×V)),xs=[.ref a]/\Rd H a (.dK kvs)/\∀ l,H l=none ->Q (.ref l) (upd H l (.lst (kvs.map λ L=>kV L.1)))):=by
 intro pins s σ H xs us Q I r h;obtain ⟨a,kvs,rfl,ha,q⟩:=h;obtain ⟨u,rfl,ru⟩:=q2y r;cases ru
 obtain ⟨hz,a0,vs,O,hd⟩:=ha.ok I.hok;have hl:kvs.length=vs.length:=Paired.length O;obtain ⟨ep,Z⟩:=hd.dictAt;refine PySem.W.kdl_call (PySem.W.kdl_dict (kvs:=vs) (ep:=ep) a0) (I.ok.hd hc) Z (by omega) λ h' tk Y c hk hS J=> ?_;have new:ObjOk X.prog X.w (upd H s.heap.objs.size (.lst (kvs.map λ L=>kV L.1))) h' s.heap.objs.size (.lst (kvs.map λ L=>kV L.1)):=by
  refine ⟨by rw [z2o];exact hz,Y.toList,c,qn7 O (by rw [z13];exact J.1) (λ i v e=>J.2 i v (by rw [<- z0t];exact e)),?_⟩;rw [Array.toArray_toList];exact hS
 exact ⟨.ref s.heap.objs.size,_,I.laid (a:=s.heap.objs.size) (t':=tk) hk (z3q _) new,zr,q _ (I.hok.fresh (z3q _))⟩
end
section
variable {X:Cx}
theorem qs9 (K:PySem.W.Frag) (hK:X.K=K:=by rfl):OpR X (binaryOp .Mult) (λ x y H Q=>∃ a n xs,x= .ref a/\y= .int n/\SqL K H a xs/\xs≠ []/\0<=n/\n<=1000/\xs.length<=1000/\∀ p,H p=none ->Q (.ref p) (upd H p (.lst (List.replicate n.toNat xs).flatten))):=by
 subst hK;intro pins s σ H x y v u Q I rx ry h;obtain ⟨a,n,xs,rfl,rfl,ha,hx,h0,hn,hl,q⟩:=h;cases rx
 obtain ⟨t',rfl⟩:=ry;obtain ⟨its,r1,⟨⟨cls,J,data,O⟩,k,ho,L,_,hd⟩,_⟩:=I.list ha;simp only at L hd;subst L hd;have ne:0 < its.length:=by
  rw [<- r1.length];exact List.length_pos_iff.mpr hx
 have hz:its.length<=1000:=by rw [<- r1.length];exact hl
 have ie:its.toArray.isEmpty=false:=Bool.eq_false_iff.mpr λ q=>by
  have:=Array.isEmpty_iff.mp q;rw [show its=[] from by simpa using this] at ne;exact absurd ne (by decide)
 have hm:its.toArray.size*n.toNat<=1000*1000:=Nat.mul_le_mul (by simpa using hz) (by omega);have hf:H s.heap.objs.size=none:=I.hok.fresh (z3q _);refine wpAny_binaryOp_repeat_ref (T:="list") (U:="int") (by decide) ⟨_,ho,zr⟩ (λ s'=>typeIs_int s' n t') noFill_list_mul PySem.F.fills_int_mul PySem.F.slot_int_rmul repeat_list PySem.F.slot_int_index.lookup
  (call_meets PySem.F.slot_int_rmul (typeIs_int s n t') PySem.F.entry_int_rmul (PySem.F.args_int_rmul_2 _ _) (lm_int_rmul_list_any n t' a its.toArray k J O)
   ⟨ho,rfl,⟨_,ho,rfl⟩,call_meets PySem.F.slot_list_mul ⟨_,ho,rfl⟩ PySem.F.entry_list_mul (PySem.F.args_list_mul_2 _ _)
    (lm_list_mul_any a its.toArray k J O n t' (by simp [Builtin.List.listFitsIndex];omega) (by omega) (λ z=>Nat.not_lt.mpr (z3j hm (by decide)) (of_decide_eq_true z)))
    ⟨ho,.ref s.heap.objs.size,upd H s.heap.objs.size (.lst (List.replicate n.toNat xs).flatten),I.laid (t':=s.toks) (λ b u e=>z0k _ e) (z3q _) ?_,rfl,q _ hf⟩⟩)
 have hsz:(List.replicate n.toNat xs).flatten.length<=sizeLine:=by
  rw [List.length_flatten,List.map_replicate,List.sum_replicate_nat];have:n.toNat*xs.length<=1000*1000:=Nat.mul_le_mul (by omega) hl;exact z3j this (by decide)
 refine ⟨hsz,(List.replicate n.toNat its).flatten,0,qgn r1 n.toNat,?_⟩;rw [z16 _ rfl,ie]
 congr 3
 apply Array.toList_inj.mp
 rw [if_neg z1c,qea,z1a];rfl
end
theorem Room.u66 {k:Nat} {A:Around} (r:Room k A):A.units+66 < cLine:=by have:=r.un;omega
section
variable {X:Cx}
def Cx.deep (X:Cx) (E:Value ->Shared ->Prop):Cx:={X with A:=X.A.in1,xe:=E}
theorem Inv.deep {E:Value ->Shared ->Prop} {pins:List (Addr×Obj)} {σ:St} {H:Hp} {s:Shared} (I:Inv X pins σ H s):Inv (X.deep E) pins σ H s:=
 {ok:={mod:=I.ok.mod,kind:=I.ok.kind,glob:=I.ok.glob,blt:=I.ok.blt,above:=I.ok.above,inj:=I.ok.inj,has:=I.ok.has,cab:=I.ok.cab,hd:=I.ok.hd,frames:=I.ok.frames,stk:=I.ok.stk,exf:=I.ok.exf,bs:=I.ok.bs,bsz:=I.ok.bsz,noex:=I.ok.noex,exfs:=I.ok.exfs,funs:=I.ok.funs,frf:=I.ok.frf}
  os:=I.os,bare:=I.bare,base:=I.base,loc:=I.loc,cell:=I.cell,free:=I.free,freeC:=I.freeC,pin:=I.pin,hok:=I.hok,len:=I.len}
theorem Inv.up {E:Value ->Shared ->Prop} {pins:List (Addr×Obj)} {σ:St} {H:Hp} {s:Shared} (I:Inv (X.deep E) pins σ H s) (ok:X.Ok):Inv X pins σ H s:=
 {ok:=ok,os:=I.os,bare:=I.bare,base:=I.base,loc:=I.loc,cell:=I.cell,free:=I.free,freeC:=I.freeC,pin:=I.pin,hok:=I.hok,len:=I.len}
inductive Alk (K:PySem.W.Frag) (H:Hp):V ->V ->Prop
 | dat {d:PyData} {x y:V}:Dat K H d x ->Dat K H d y ->d.depth<=60 ->Alk K H x y
 | dic {a b:Addr} {k1 k2:List (Key×V)}:Rd H a (.dK k1) ->Rd H b (.dK k2) ->Paired (DatP K H) k1 k2 ->Alk K H (.ref a) (.ref b)
theorem qui {pins:List (Addr×Obj)} {σ:St} {H:Hp} {s:Shared} {x y:V} {v u:Value} {Q:Bool ->Shared ->Prop} {E:Value ->Shared ->Prop} (hu:X.A.units+66 < cLine) (I:Inv X pins σ H s) (rx:RelV x v) (ry:RelV y u) (h:Alk X.K H x y) (q:∀ s',Inv X pins σ H s' ->Q true s'):
  wpAny (model X.prog X.w) X.A.in1 (eqBool v u) Q E s:=by
 have e1:X.A.in1.units=X.A.units+1:=rfl;cases h with
 | @dat d x y J L dz=>
  obtain ⟨as,r1⟩:=Dat.reads I _ _ _ J rx;obtain ⟨bs,r2⟩:=Dat.reads I _ _ _ L ry;have hq:=SeqAt.eqAt_reads d d X.A.in1 s _ _ as bs r1 r2 (Dat.lay _ _ J) (Dat.lay _ _ L) (by
   have:min d.depth d.depth<=d.depth:=Nat.min_le_left _ _;omega)
  rw [SeqAt.eqv_refl _ (Dat.lay _ _ J)] at hq;exact hq _ _ _ _ (q s I)
 | @dic a b k1 k2 ra rb hp=>
  cases rx
  cases ry
  unfold eqBool;refine z38 ?_;refine wpAny_ite_split (λ _=>z3w (z3u (z3v (q s I)))) (λ _=> ?_);refine z3w ?_;have:=qp2 (X:=X.deep E) (show X.A.in1.units+64 < cLine by omega) X.K rfl pins s σ H (.ref a) (.ref b) (.ref a) (.ref b) (λ x G=>x= .bl true/\G=H) I.deep rfl rfl ⟨a,b,k1,k2,rfl,rfl,ra,rb,hp,rfl,rfl⟩;refine z3x this (λ r s' hr=> ?_) λ _ _ z=>z;obtain ⟨x,G,I',rr,rfl,rfl⟩:=hr;cases rr
  exact z1u (q s' (I'.up I.ok))
theorem qpb {xs ys:List V} (K:PySem.W.Frag) (H:Hp) (hp:Paired (Alk K H) xs ys):∀ {us vs:List Value},Vals xs us ->Vals ys vs ->us.length=vs.length/\∀ (i:Nat) (u v:Value),us[i]? =some u ->vs[i]? =some v ->∃ x y,RelV x u/\RelV y v/\Alk K H x y:=by
 induction hp with
 | nil=>
  intro us vs r1 r2;cases r1
  cases r2
  exact ⟨zr,λ i u v h=>by simp at h⟩
 | cons a _ ih=>
  intro us vs r1 r2;cases r1 with
  | cons q1 r1=>
   cases r2 with
   | cons q2 r2=>
    obtain ⟨l,g⟩:=ih r1 r2;refine ⟨congrArg (· +1) l,λ i u v h1 h2=> ?_⟩;cases i with
    | zero=>
     cases h1
     cases h2
     exact ⟨_,_,q1,q2,a⟩
    | succ i=>exact g i u v h1 h2
def qwv (K:PySem.W.Frag) (r:Bool):R2:=λ x y H Q=>∃ a b xs ys,x= .ref a/\y= .ref b/\SqT K H a xs/\SqT K H b ys/\Paired (Alk K H) xs ys/\Q (.bl r) H
theorem qn8 (hu:X.A.units+66 < cLine) (K:PySem.W.Frag) (hK:X.K=K:=by rfl):OpR X (compareOp .NotEq) (qwv K false):=by
 subst hK;intro pins s σ H x y v u Q I rx ry h;obtain ⟨a,b,xs,ys,rfl,rfl,ha,hb,hp,q⟩:=h;cases rx
 cases ry
 obtain ⟨its,r1,p1,_⟩:=I.tuple ha;obtain ⟨J,r2,p2,_⟩:=I.tuple hb;obtain ⟨lz,g⟩:=qpb _ _ hp r1 r2;obtain ⟨⟨cls,dd,data,sl⟩,ho,hc,n,hd⟩:=p1;obtain ⟨⟨a7,dd2,a6,sl2⟩,a2,Z,n2,a0⟩:=p2;simp only at hc hd Z a0;subst hc hd Z a0;show wpAny _ _ (richCompare .NotEq (.ref a) (.ref b)) _ _ s;refine wpAny_richCompare_same_room (T:="tuple") ⟨_,ho,zr⟩ ⟨_,a2,zr⟩ PySem.F.slot_tuple_ne (z2d PySem.F.slot_tuple_ne ⟨_,ho,zr⟩ PySem.F.entry_tuple_ne ?_ (PySem.F.args_tuple_ne_2 _ _)) (by omega);have f2:=AutoSeq1.sub_tuple_tuple;obtain ⟨hp',gg,dv,tk,os⟩:=s
 wp_walk using AutoSeq1.wpAny_loadPart' ho,AutoSeq1.wpAny_loadPart' a2,wpAny_forIn_list _ (λ rest b s'=>b.1=none/\Inv X pins σ H s'/\∃ i,rest=(its.toArray.toList.zip J.toArray.toList).drop i) _
 case turn=>
  rintro ⟨y,x⟩ rest b s' ⟨L,I',i,hz⟩;have O:i < (its.zip J).length:=by
   rcases Nat.lt_or_ge i (its.zip J).length with h' | h'
   ·exact h'
   ·rw [List.drop_of_length_le h'] at hz;cases hz
  rw [z08 O] at hz;injection hz with a3 Y;have l1:i < its.length:=by rw [List.length_zip] at O;omega
  have l2:i < J.length:=by rw [List.length_zip] at O;omega
  have hy:its[i]? =some y:=by rw [z0c l1];have:=congrArg Prod.fst a3;simp at this;rw [this]
  have hx:J[i]? =some x:=by rw [z0c l2];have:=congrArg Prod.snd a3;simp at this;rw [this]
  obtain ⟨p1,p2,q1,q2,al⟩:=g i y x hy hx;refine z3w (qui hu I' q1 q2 al λ s'' a5=> ?_)
  wp_walk
  exact ⟨zr,a5,i+1,Y⟩
 case fin=>
  rintro ⟨b1,b2⟩ s' ⟨L,I',i,hz⟩;simp only at L;subst L
  wp_walk
  refine ⟨_,rfl,(λ z=>nomatch z),qy I' q ?_⟩;show false= !(its.toArray.size==J.toArray.size);simp [lz]
 case h=>exact ⟨rfl,I,0,rfl⟩
end
section
variable {X:Cx}
end
end L2
set_option maxHeartbeats 4000000
namespace Wy
open PySem L2
def top (i:Nat):Stmt:=PySem.Challenge.pw_whyrows_k50_rows_of_facts.main.body.getD i (.Pass ⟨0,0,0,0⟩)
abbrev qjl:Stmt:=top 0
abbrev q7n:Stmt:=top 15
abbrev q37:Stmt:=top 16
abbrev q91:Stmt:=top 17
abbrev qgs:Stmt:=top 18
abbrev q7o:Stmt:=top 19
abbrev qb9:Stmt:=top 20
abbrev q6j:Stmt:=top 22
abbrev q92:Stmt:=top 23
abbrev q6z:Stmt:=top 24
abbrev q7p:Stmt:=top 25
abbrev q3x:Stmt:=top 26
abbrev qef:Stmt:=top 28
abbrev qgt:Stmt:=top 29
abbrev qjm:Stmt:=top 30
abbrev q4i:Stmt:=top 36
abbrev q38:Stmt:=top 37
abbrev q93:Stmt:=top 38
abbrev qeg:Stmt:=top 39
abbrev qal:Stmt:=top 40
abbrev qeh:Stmt:=top 41
abbrev qam:Stmt:=top 42
abbrev qan:Stmt:=top 43
abbrev q86:Stmt:=top 44
abbrev q70:Stmt:=top 45
abbrev q4j:Stmt:=top 46
abbrev qao:Stmt:=top 47
abbrev q94:Stmt:=top 48
abbrev q6k:Stmt:=top 49
abbrev q6l:Stmt:=top 50
abbrev qkp:Stmt:=top 51
abbrev q5u:Stmt:=top 53
abbrev q6c:Stmt:=top 54
abbrev q87:Stmt:=top 55
abbrev qce:Stmt:=top 56
abbrev q88:Stmt:=top 57
abbrev qap:Stmt:=q1b (top 58) 0
abbrev q5v:Stmt:=q1b (top 58) 1
abbrev qcf:Stmt:=top 59
abbrev q95:Stmt:=q1b (top 61) 0
abbrev q5a:Stmt:=q1b (top 61) 1
abbrev q5w:Stmt:=q1b (top 61) 2
abbrev qaq:Stmt:=q1b (top 63) 0
abbrev q52:Stmt:=q1b (top 63) 1
abbrev q5b:Stmt:=q1b (top 63) 2
abbrev q71:Stmt:=q1b (top 63) 3
abbrev q6d:Stmt:=q1b (top 63) 4
abbrev q6e:Stmt:=q1b (top 63) 5
abbrev q3j:Stmt:=q1b (top 64) 0
abbrev q30:Stmt:=q1b (top 64) 1
abbrev q3h:Stmt:=q1b (top 64) 2
abbrev q3i:Stmt:=q1b (top 64) 3
abbrev q3p:Stmt:=q1b (top 64) 4
abbrev q4m:Stmt:=top 67
abbrev q6m:Stmt:=top 68
abbrev q47:Stmt:=top 69
abbrev q3k:Stmt:=top 70
abbrev q6n:Stmt:=top 71
abbrev q3l:Stmt:=top 72
abbrev q6o:Stmt:=top 73
abbrev q3m:Stmt:=top 74
abbrev q7q:Stmt:=top 75
abbrev q3n:Stmt:=top 76
abbrev q56:Stmt:=top 77
abbrev q48:Stmt:=top 78
abbrev q96:Stmt:=top 80
abbrev q7r:Stmt:=top 81
abbrev q57:Stmt:=top 82
abbrev q7s:Stmt:=top 83
abbrev qgu:Stmt:=top 84
abbrev qjn:Stmt:=top 85
abbrev q3y:Stmt:=q1b (top 88) 0
abbrev q72:Stmt:=q1b (top 88) 1
abbrev q3z:Stmt:=q1b (top 88) 2
abbrev q73:Stmt:=q1b (top 88) 3
abbrev q49:Stmt:=top 89
abbrev q4a:Stmt:=top 90
abbrev q97:Stmt:=top 92
abbrev q5x:Stmt:=q1b (top 95) 0
abbrev q4n:Stmt:=q1b (top 95) 1
abbrev q98:Stmt:=q1b (top 95) 2
abbrev q4o:Stmt:=q1b (top 95) 3
abbrev q99:Stmt:=q1b (top 95) 4
abbrev q5y:Stmt:=top 97
abbrev qkq:Stmt:=top 99
abbrev q4p:Stmt:=top 101
abbrev q6p:Stmt:=top 102
abbrev q5z:Stmt:=top 103
abbrev q60:Stmt:=top 104
abbrev q39:Stmt:=top 105
abbrev q61:Stmt:=top 106
abbrev q58:Stmt:=top 107
abbrev q62:Stmt:=top 108
abbrev q40:Stmt:=top 109
abbrev qkr:Stmt:=top 110
local macro_rules | `(tactic| k_updF)=>`(tactic| exact ⟨rfl,rfl,rfl,by decide+kernel,rfl,by decide+kernel,by decide+kernel⟩)
theorem qi5:FnScope ["thing"] ["thing"] (qc q7n):=by k_updF
theorem q8b:FnScope ["thing","first_signs"] ["thing","first_signs"] (qc q37):=by k_updF
theorem qks:FnScope ["thing"] ["thing"] (qc q91):=by k_updF
theorem qi6:FnScope ["thing"] ["thing"] (qc q7o):=by k_updF
theorem qn9:FnScope ["thing"] ["thing"] (qc qb9):=by k_updF
theorem qgv:FnScope ["value"] ["value"] (qc q6j):=by k_updF
theorem qkt:FnScope ["row"] ["row"] (qc q92):=by k_updF
theorem qi7:FnScope ["pair"] ["pair"] (qc q7p):=by k_updF
theorem q9z:FnScope ["pairs"] ["pairs"] (qc q3x):=by k_updF
theorem q8c:FnScope ["thing","many"] ["thing","many"] (qc q38):=by k_updF
theorem qku:FnScope ["thing"] ["thing"] (qc q93):=by k_updF
theorem qkv:FnScope ["thing","known"] ["thing"] (qc q94):=by k_updF
theorem qgw:FnScope ["rules"] ["rules"] (qc q6k):=by k_updF
theorem q4b:FnScope ["facts","taken","fact","name"] ["facts"] (qc q6l):=by k_updF
theorem quj:FnScope ["facts","rules","rounds"] ["facts","rules","rounds"] (qc qkp):=by k_updF
theorem q9a:FnScope ["self","tables","by","ahead","earlier"] ["self","tables","by","ahead","earlier"] (qc q3j):=by k_updF
theorem q74:FnScope ["self","rule"] ["self","rule"] (qc q30):=by k_updF
theorem qcg:FnScope ["standing"] ["standing"] (qc q4m):=by k_updF
theorem qgx:FnScope ["standing","pair"] ["standing","pair"] (qc q6m):=by k_updF
theorem q2h:FnScope ["facts","standing","name","table","row"] ["facts"] (qc q47):=by k_updF
theorem q9b:FnScope ["standing","rule","tables","heads","row"] ["standing","rule","tables"] (qc q3k):=by k_updF
theorem q4c:FnScope ["standing","tables","table","row"] ["standing"] (qc q6n):=by k_updF
theorem q1v:FnScope ["facts","rules","rounds","standing","told","number","many","rule"] ["facts","rules","rounds"] (qc q3l):=by k_updF
theorem qgy:FnScope ["summed","pair","worth","by"] ["summed","pair","worth","by"] (qc q6o):=by k_updF
theorem q26:FnScope ["facts","by","worths","summed","name","table","row"] ["facts","by","worths"] (qc q3m):=by k_updF
theorem qi8:FnScope ["summed","sums","table","rows","row"] ["summed","sums","table","rows"] (qc q7q):=by k_updF
theorem q1h:FnScope ["facts","rules","rounds","by","worths","tables","told","sums","number","summed","rule"] ["facts","rules","rounds","by","worths"] (qc q3n):=by k_updF
theorem qdi:FnScope ["worths"] ["worths"] (qc q56):=by k_updF
theorem qba:FnScope ["facts","rules","rounds","by","worths"] ["facts","rules","rounds","by","worths"] (qc q48):=by k_updF
theorem qkw:FnScope ["name"] ["name"] (qc q96):=by k_updF
theorem qar:FnScope ["ways_by_product","names","ways","product"] ["ways_by_product","names","ways"] (qc q7r):=by k_updF
theorem qdj:FnScope ["ways_by_product"] ["ways_by_product"] (qc q57):=by k_updF
theorem q4v:FnScope ["pairs","ways_by_product","names","ways"] ["pairs"] (qc q7s):=by k_updF
theorem qsa:FnScope ["one","other"] ["one","other"] (qc qgu):=by k_updF
theorem qa0:FnScope ["self"] ["self"] (qc q3y):=by k_updF
theorem q5c:FnScope ["self","one","other","summed"] ["self","one","other"] (qc q3z):=by k_updF
theorem qbb:FnScope ["facts"] ["facts"] (qc q49):=by k_updF
theorem qbc:FnScope ["facts","rules","rounds"] ["facts","rules","rounds"] (qc q4a):=by k_updF
theorem qkx:FnScope ["facts","rules","rounds"] ["facts","rules","rounds"] (qc q97):=by k_updF
theorem qex:FnScope ["self","thing"] ["self","thing"] (qc q5x):=by k_updF
theorem qch:FnScope ["self"] ["self"] (qc q4n):=by k_updF
theorem qci:FnScope ["self","one","other"] ["self","one","other"] (qc q4o):=by k_updF
theorem q89:FnScope ["names","by","worths","name"] ["names","by","worths"] (qc q5y):=by k_updF
theorem quk:FnScope ["facts","rules","rounds","by","worths"] ["facts","rules","rounds","by","worths"] (qc qkq):=by k_updF
theorem qcj:FnScope ["_law_script","_law_k"] ["_law_script","_law_k"] (qc q4p):=by k_updF
theorem q4d:FnScope ["_law_cell","_law_place","_law_k","_law_later","_law_base","_law_at"] ["_law_cell","_law_place","_law_k"] (qc q6p):=by k_updF
theorem q16:FnScope ["_law_script","_law_number","_law_word","_law_values","_law_tables","_law_cells","_law_x","_law_k","_law_facts_here","_law_row"] ["_law_script"] (qc q5z):=by k_updF
theorem q3u:FnScope ["_law_script","_law_facts_here","_law_costs_here","_law_k","_law_cell"] ["_law_script","_law_facts_here"] (qc q60):=by k_updF
theorem q2i:FnScope ["_law_one","_law_other","_law_later","_law_mine","_law_yours"] ["_law_one","_law_other"] (qc q39):=by k_updF
theorem q59:FnScope ["_law_one","_law_other","_law_mine","_law_yours"] ["_law_one","_law_other"] (qc q61):=by k_updF
theorem q22:FnScope ["_law_facts_here","_law_places_here","_law_name_here","_law_table","_law_row","_law_at"] ["_law_facts_here"] (qc q58):=by k_updF
theorem q8a:FnScope ["_law_found","_law_some"] ["_law_found"] (qc q62):=by k_updF
theorem q5d:FnScope ["_law_told","_law_row"] ["_law_told"] (qc q40):=by k_updF
theorem q2s:FnScope ["_law_script","_law_facts_here","_law_costs_here","_law_rounds","_law_handed","_law_whys","_law_paid","_law_due","_law_lowest","_law_place","_law_names","_law_k","_law_row"] ["_law_script"] (qc qkr):=by k_updF
structure Txt (K:PySem.W.Frag) (mg:Str ->Option Value):Prop where
 b_all:mg "all"=none
 b_any:mg "any"=none
 qhn:mg "bool"=none
 qhi:mg "dict"=none
 qw3:mg "enumerate"=none
 b_int:mg "int"=none
 q1f:mg "isinstance"=none
 b_len:mg "len"=none
 qo0:mg "list"=none
 b_min:mg "min"=none
 q3g:mg "range"=none
 qxq:mg "set"=none
 q84:mg "sorted"=none
 b_str:mg "str"=none
 q4r:mg "tuple"=none
 b_zip:mg "zip"=none
 qcw:∃ t,mg "SMALL_LETTERS"=some (.str "abcdefghijklmnopqrstuvwxyz" t)
 qo8:∃ t,mg "CAPITAL_LETTERS"=some (.str "ABCDEFGHIJKLMNOPQRSTUVWXYZ" t)
 qcz:∃ t,mg "FURTHER_SIGNS"=some (.str "abcdefghijklmnopqrstuvwxyz0123456789" t)
 qhk:∃ t,mg "MOST_SIGNS"=some (.int 12 t)
 qfa:∃ t,mg "MOST_VALUES"=some (.int 4 t)
 qvu:∃ t,mg "MOST_ATOMS"=some (.int 3 t)
 qt4:∃ t,mg "MOST_CHOICES"=some (.int 3 t)
 qf7:∃ t,mg "MOST_ROUNDS"=some (.int 5 t)
 qij:∃ t,mg "MOST_ROWS"=some (.int 60 t)
 qcy:∃ t,mg "MOST_PRODUCTS"=some (.int 50 t)
 qxg:mg "SIGNS"=some (.ref (cA mg "SIGNS"))
 qxk:TupC K (cA mg "SIGNS") [.str "=",.str "!=",.str "<"]
 qxn:Top K mg "_wall" qjl ["k"]
 qlb:Top K mg "is_whole" q7n ["thing"]
 q9j:Top K mg "is_text_begun_by" q37 ["thing","first_signs"]
 qo2:Top K mg "is_word" q91 ["thing"]
 qxb:Top K mg "is_var" qgs ["thing"]
 qlf:Top K mg "is_value" q7o ["thing"]
 qq6:Top K mg "is_row" qb9 ["thing"]
 qim:Top K mg "value_key" q6j ["value"]
 qnz:Top K mg "row_key" q92 ["row"]
 qt8:Top K mg "value_before" q6z ["one","other"]
 qlc:Top K mg "pair_key" q7p ["pair"]
 qbp:Top K mg "pairs_in_order" q3x ["pairs"]
 qx6:Top K mg "matched" qef ["terms","row","binding"]
 qx8:Top K mg "put_in" qgt ["terms","binding"]
 qxl:Top K mg "holds" qjm ["choice","binding"]
 qli:Top K mg "is_tuple_of_up_to" q4i ["thing","most"]
 q9i:Top K mg "is_tuple_of_just" q38 ["thing","many"]
 qo6:Top K mg "is_fact" q93 ["thing"]
 qx3:Top K mg "is_term" qeg ["thing"]
 qw6:Top K mg "are_terms" qal ["thing"]
 qx4:Top K mg "is_atom" qeh ["thing"]
 qw0:Top K mg "are_atoms" qam ["thing"]
 qw7:Top K mg "is_choice" qan ["thing"]
 qtc:Top K mg "are_choices" q86 ["thing"]
 qt7:Top K mg "variables_in" q70 ["terms"]
 qlj:Top K mg "variables_of_body" q4j ["body"]
 qw8:Top K mg "are_known" qao ["terms","known"]
 qo3:Top K mg "is_rule" q94 ["thing"]
 qig:Top K mg "each_once" q6k ["rules"]
 qio:Top K mg "vet_facts" q6l ["facts"]
 t_vet:Top K mg "vet" qkp ["facts","rules","rounds"]
 qq7:Top K mg "rows_by_shared" q5u ["terms","rows","shared"]
 qqv:Top K mg "choices_known" q6c ["choices","known"]
 qtf:Top K mg "choices_due" q87 ["choices","ahead","known"]
 qx0:Top K mg "all_hold" qce ["choices","binding"]
 qtd:Top K mg "asked_later" q88 ["rule","place","known","wanted"]
 qx1:Top K mg "steps_of" qcf ["rule","tables","known","wanted"]
 qdt:Top K mg "ask_few_rows" q4m ["standing"]
 qin:Top K mg "let_stand" q6m ["standing","pair"]
 qcx:Top K mg "rows_of_facts" q47 ["facts"]
 qa4:Top K mg "let_heads_stand" q3k ["standing","rule","tables"]
 qil:Top K mg "in_tables" q6n ["standing"]
 qa7:Top K mg "tables_by_round" q3l ["facts","rules","rounds"]
 qih:Top K mg "add_worth" q6o ["summed","pair","worth","by"]
 qa5:Top K mg "worths_of_facts" q3m ["facts","by","worths"]
 qlh:Top K mg "add_sums" q7q ["summed","sums","table","rows"]
 qa6:Top K mg "worths_by_round" q3n ["facts","rules","rounds","by","worths"]
 qf4:Top K mg "told_behind" q56 ["worths"]
 qcu:Top K mg "told_by_round" q48 ["facts","rules","rounds","by","worths"]
 qo4:Top K mg "of_fact" q96 ["name"]
 ql8:Top K mg "count_in" q7r ["ways_by_product","names","ways"]
 qf5:Top K mg "told_as_why" q57 ["ways_by_product"]
 qla:Top K mg "gathered" q7s ["pairs"]
 qvr:Top K mg "plus" qgu ["one","other"]
 qxm:Top K mg "times" qjn ["one","other"]
 qct:Top K mg "whys_of_facts" q49 ["facts"]
 qcs:Top K mg "whys_by_round" q4a ["facts","rules","rounds"]
 qo5:Top K mg "why_run" q97 ["facts","rules","rounds"]
 qhl:Top K mg "ask_worths" q5y ["names","by","worths"]
 t_run:Top K mg "run" qkq ["facts","rules","rounds","by","worths"]
 qdr:Top K mg "_law_cell_at" q4p ["_law_script","_law_k"]
 qii:Top K mg "_law_name" q6p ["_law_cell","_law_place","_law_k"]
 qhp:Top K mg "_law_facts" q5z ["_law_script"]
 qhq:Top K mg "_law_costs" q60 ["_law_script","_law_facts_here"]
 q9h:Top K mg "_law_value_ahead" q39 ["_law_one","_law_other"]
 qhj:Top K mg "_law_ahead" q61 ["_law_one","_law_other"]
 qf8:Top K mg "_law_places" q58 ["_law_facts_here"]
 qhr:Top K mg "_law_least" q62 ["_law_found"]
 qbo:Top K mg "_law_no_truths" q40 ["_law_told"]
 t_law:Top K mg "law" qkr ["_law_script"]
 qxo:mg "Step"=some (.ref (cA mg "Step"))
 qxj:Cls K (cA mg "Step")
 qxe:PySem.W.makesIn K (cA mg "Step")=true
 qxc:PySem.W.keepIn K (.ref (cA mg "Step"))=true
 qvy:NoAttr K (cA mg "Step") "asks"
 qqb:NoAttr K (cA mg "Step") "by_shared"
 qx2:NoAttr K (cA mg "Step") "due"
 qw4:NoAttr K (cA mg "Step") "rows"
 qte:NoAttr K (cA mg "Step") "shared"
 qvw:NoAttr K (cA mg "Step") "table"
 qvv:NoAttr K (cA mg "Step") "terms"
 qw5:MTop K (cA mg "Step") "__init__" "Step.__init__" qap ["self","rule","place","tables","known","wanted"]
 qq5:MTop K (cA mg "Step") "joined_on" "Step.joined_on" q5v ["self","binding"]
 qxd:mg "Heads"=some (.ref (cA mg "Heads"))
 qxa:Cls K (cA mg "Heads")
 qx7:PySem.W.makesIn K (cA mg "Heads")=true
 qx9:PySem.W.keepIn K (.ref (cA mg "Heads"))=true
 qtg:NoAttr K (cA mg "Heads") "begun"
 qvp:NoAttr K (cA mg "Heads") "head"
 qvx:NoAttr K (cA mg "Heads") "seen"
 qtb:NoAttr K (cA mg "Heads") "steps"
 qvn:MTop K (cA mg "Heads") "__init__" "Heads.__init__" q95 ["self","rule","tables"]
 qoa:MTop K (cA mg "Heads") "following" "Heads.following" q5a ["self","standing"]
 qq4:MTop K (cA mg "Heads") "begin_on" "Heads.begin_on" q5w ["self","place","binding"]
 qxp:mg "Sums"=some (.ref (cA mg "Sums"))
 qxh:Cls K (cA mg "Sums")
 qxi:PySem.W.makesIn K (cA mg "Sums")=true
 qxf:PySem.W.keepIn K (.ref (cA mg "Sums"))=true
 qvt:NoAttr K (cA mg "Sums") "ahead"
 qx5:NoAttr K (cA mg "Sums") "by"
 qwz:NoAttr K (cA mg "Sums") "due"
 qo9:NoAttr K (cA mg "Sums") "head_terms"
 qvz:NoAttr K (cA mg "Sums") "seen"
 qvo:NoAttr K (cA mg "Sums") "steps"
 qw1:MTop K (cA mg "Sums") "__init__" "Sums.__init__" qaq ["self","rule","tables","by","ahead"]
 qo7:MTop K (cA mg "Sums") "binding_for" "Sums.binding_for" q52 ["self","row"]
 qob:MTop K (cA mg "Sums") "pairs_from" "Sums.pairs_from" q5b ["self","place","binding"]
 qt5:MTop K (cA mg "Sums") "sum_for" "Sums.sum_for" q71 ["self","row"]
 qqw:MTop K (cA mg "Sums") "sum_from" "Sums.sum_from" q6d ["self","place","binding"]
 qqu:MTop K (cA mg "Sums") "sum_anew" "Sums.sum_anew" q6e ["self","place","binding"]
 qhs:mg "SumsByRule"=some (.ref (cA mg "SumsByRule"))
 q2a:Cls K (cA mg "SumsByRule")
 qf9:PySem.W.makesIn K (cA mg "SumsByRule")=true
 qf6:PySem.W.keepIn K (.ref (cA mg "SumsByRule"))=true
 q9k:NoAttr K (cA mg "SumsByRule") "ahead"
 qcv:NoAttr K (cA mg "SumsByRule") "by"
 q82:NoAttr K (cA mg "SumsByRule") "by_rule"
 q85:NoAttr K (cA mg "SumsByRule") "earlier"
 q8f:NoAttr K (cA mg "SumsByRule") "stayed"
 q8g:NoAttr K (cA mg "SumsByRule") "tables"
 qa3:MTop K (cA mg "SumsByRule") "__init__" "SumsByRule.__init__" q3j ["self","tables","by","ahead","earlier"]
 q83:MTop K (cA mg "SumsByRule") "sums_of" "SumsByRule.sums_of" q30 ["self","rule"]
 qhu:MTop K (cA mg "SumsByRule") "sums_again" "SumsByRule.sums_again" q3h ["self","rule"]
 qht:MTop K (cA mg "SumsByRule") "has_stayed" "SumsByRule.has_stayed" q3i ["self","table"]
 qik:MTop K (cA mg "SumsByRule") "worths_in" "SumsByRule.worths_in" q3p ["self","table"]
 qo1:mg "Growing"=some (.ref (cA mg "Growing"))
 qlg:Cls K (cA mg "Growing")
 qld:PySem.W.makesIn K (cA mg "Growing")=true
 qle:PySem.W.keepIn K (.ref (cA mg "Growing"))=true
 ql9:PySem.W.findIn K (.ref (cA mg "Growing")) "__init__"=some (some (.builtin "object.__init__"))
 qbm:MTop K (cA mg "Growing") "nought" "Growing.nought" q3y ["self"]
 qta:MTop K (cA mg "Growing") "unit" "Growing.unit" q72 ["self"]
 qbn:MTop K (cA mg "Growing") "either" "Growing.either" q3z ["self","one","other"]
 qt9:MTop K (cA mg "Growing") "both" "Growing.both" q73 ["self","one","other"]
 qt6:mg "Costs"=some (.ref (cA mg "Costs"))
 qhm:Cls K (cA mg "Costs")
 qq9:PySem.W.makesIn K (cA mg "Costs")=true
 qq8:PySem.W.keepIn K (.ref (cA mg "Costs"))=true
 qqa:PySem.W.findIn K (.ref (cA mg "Costs")) "__init__"=some (some (.builtin "object.__init__"))
 qho:MTop K (cA mg "Costs") "fits" "Costs.fits" q5x ["self","thing"]
 qdq:MTop K (cA mg "Costs") "nought" "Costs.nought" q4n ["self"]
 qvs:MTop K (cA mg "Costs") "unit" "Costs.unit" q98 ["self"]
 qds:MTop K (cA mg "Costs") "either" "Costs.either" q4o ["self","one","other"]
 qvq:MTop K (cA mg "Costs") "both" "Costs.both" q99 ["self","one","other"]
theorem q1d {b:Bool} {A B:Prop} (e:b=false) (h:B):if b=true then A else B:=by
 subst e;exact iteF h
theorem q3v {b:Bool} {A B:Prop} (e:b=true) (h:A):if b=true then A else B:=by
 subst e;exact iteT h
def fur:Str:="abcdefghijklmnopqrstuvwxyz0123456789"
def q75 (fs:Str):List Nat ->Bool
 | []=>false
 | c::r=>decide (c∈fs.cps.toList)&&r.all λ d=>decide (d∈fur.cps.toList)
def txtB (fs z:Str):Bool:=decide (1<=z.length)&&decide (z.length<=12)&&q75 fs z.cps.toList
def txtK (fs:Str):Key ->Bool
 | .inr z=>txtB fs z
 | .inl _=>false
def TxOk:Key ->Prop
 | .inr z=>z.length<=200/\PyData.strOk z=true
 | .inl _=>True
def keyD:Key ->PyData
 | .inr z=> .str z
 | .inl i=> .int i
theorem q4e {K:PySem.W.Frag} {H:Hp}:∀ {t:Key},TxOk t ->Dat K H (keyD t) (kV t)
 | .inr z,h=> .str z h.2
 | .inl i,_=> .int i
theorem qgz {fs z:Str} (h:¬ (1<=z.length/\z.length<=12)):txtB fs z=false:=by
 unfold txtB;by_cases h1:1<=z.length
 ·have h2:¬ z.length<=12:=λ q=>h ⟨h1,q⟩;simp [h2]
 ·simp [h1]
theorem qjo {fs z:Str} (h1:1<=z.length) (h2:z.length<=12):txtB fs z=q75 fs z.cps.toList:=by
 unfold txtB;simp [h1,h2]
theorem q2p (z:Str):z.cps.toList.length=z.length:=by simp [Str.length]
theorem qck {z:Str} (h:1<=z.length):∃ c r,z.cps.toList=c::r:=by
 have:=q2p z;cases e:z.cps.toList with
 | nil=>rw [e] at this;simp at this;omega
 | cons c r=>exact ⟨c,r,rfl⟩
theorem qpc {z:Str} (h:1<=z.length):(cutS z (some 1) none).cps.toList=z.cps.toList.tail:=by
 have e1:HT.sIx z.length 0 (some 1)=1:=by
  have:=HT.sIx_nat z.length 0 1;rw [show ((1:Nat):Int)=1 from rfl] at this;rw [this];omega
 have hl:=q2p z;unfold cutS;rw [e1,HT.sIx_none];show ((z.cps.toList.drop 1).take (z.length - 1)).toArray.toList=_;rw [z1a,z0j (by rw [z26];omega),List.drop_one]
variable {P:Program} {w:World} {K:PySem.W.Frag} {mg:Str ->Option Value} {base:Heap}
def qsb (K:PySem.W.Frag):Sp:=λ vs H Q _=>∃ (a:Addr) (ns:List Int) (k:Int),vs=[.ref a,.int k]/\SqL K H a (ns.map V.int)/\0<=k/\Q (.int (ns.getD k.toNat 0)) H
theorem qt (T:Txt K mg):Def P w K mg base 1 "_law_cell_at" ["_law_script","_law_k"] (qsb K):=by
 refine T.qdr.ok qcj (λ vs H Q E h=> ?_) λ f cdv A outer s H vs Q E hr h=> ?_
 ·obtain ⟨a,ns,k,rfl,_⟩:=h;rfl
 ·obtain ⟨a,ns,k,rfl,L,h0,q⟩:=h;refine ⟨_,(q3q
   (q1m (q1a q9o (pv 1) (ql (q1g K) rfl T.b_len q1u (pa_1 (pv 0))) (q17 _)) (qg (qi (qm (qx K) (pv 0) (pv 1) (λ _ _=>rfl)))) q15)
   (qi qa)),?_⟩
  refine ⟨_,zr,_,zr,_,_,zr,.inl ⟨_,L,zr⟩,_,_,zr,zr,_,zr,?_⟩;rw [z2o];refine ite2 (λ h1=> ?_) (λ h1=> ?_)
  ·have J:k < ns.length:=by simpa using h1
   have O:k.toNat < ns.length:=by omega
   refine ⟨_,zr,_,zr,_,_,_,V.int (ns.getD k.toNat 0),zr,zr,L,?_,q⟩;rw [qu4 h0 (by rw [z2o];exact J),z1s,z0c O,qj9 O];rfl
  ·have J:¬ k < ns.length:=by simpa using h1
   have e:ns.getD k.toNat 0=0:=by
    exact qrr (by omega)
   rw [e] at q;exact q
def qpd (K:PySem.W.Frag):Sp:=λ vs H Q _=>∃ (t:Key) (fs:Str),vs=[kV t,.str fs]/\TxOk t/\∀ H',Same H H' ->Q (.bl (txtK fs t)) H'
theorem q8d (T:Txt K mg):Def P w K mg base 1 "is_text_begun_by" ["thing","first_signs"] (qpd K):=by
 refine T.q9j.ok q8b (λ vs H Q E h=> ?_) λ f cdv A outer s H vs Q E hr h=> ?_
 ·obtain ⟨t,fs,rfl,_⟩:=h;rfl
 ·obtain ⟨t,fs,rfl,Z,k⟩:=h;have hd:=q4e (K:=K) (H:=H) Z;refine ⟨_,(q3q
   (q1m (PW.pt (q3b (q2q (q2b (ql (q2m K) rfl T.q1f q1c (pa_2 (pv 0) (q3e rfl T.b_str qc4))))) (q50 (q2q (qg0 qfe qfe qa (ql (q1g K) rfl T.b_len q1u (pa_1 (pv 0))) (qc3 rfl T.qhk)))))) (qg (qi q3a)) q15)
   (qi (q8o (q43 qdx (qm qm6 (pv 0) qa (λ _ _=>rfl)) (pv 1) (by with_unfolding_all rfl)) (q6s (ql (q8t rfl K) rfl T.b_all qgb (pa_1 (q20 (N:=["sign"]) (caps:=[none]) rfl (by with_unfolding_all rfl) (qu1 (qb4 qu2 (pv 0) (q9p qa) qj0)) (λ _ _ _ _ _=>(qh (i:=0) (show (["sign"]:List Str).Nodup by decide+kernel) rfl (Or.inl rfl))) (λ _ _ _ _ _=>q25) (λ _ _ _ _ _=>(q43 qdx (pv 0) (qqn rfl T.qcz) (by with_unfolding_all rfl)))))))))),?_⟩
  cases t with
  | inr z=>
   have Z:=Z.1;have L:z.length<=sizeLine:=z3j Z (by decide);have no:¬ (1<=z.length/\z.length<=12) ->Q (.bl false) H:=λ q=>by
    have:=k H (Same.refl H);rw [show txtK fs (.inr z)=false from qgz q] at this;exact this
   refine ⟨_,zr,_,_,_,zr,hd,by decide,_,zr,?_⟩;refine q1d (show (!tyIs "str" "str")=false by decide) ?_;refine ⟨_,zr,_,_,zr,⟨L,zr⟩,_,_,zr,zr,_,zr,?_⟩;refine ite2 (λ h1=> ?_) (λ h1=> ?_)
   ·refine ⟨_,_,zr,zr,_,zr,?_⟩;refine ite2 (λ h2=> ?_) (λ h2=> ?_)
    ·exact no λ q=>by simp at h2;omega
    ·have l1:1<=z.length:=by simp at h1;omega
     have l2:z.length<=12:=by simp at h2;omega
     obtain ⟨c,r,J⟩:=qck l1;have et:txtK fs (.inr z)=q75 fs z.cps.toList:=qjo (fs:=fs) l1 l2;rw [J] at et;refine ⟨_,rfl,_,_,c,rfl,rfl,L,(by rw [J];exact qp (j:=0) rfl),_,rfl,_,_,rfl,rfl,_,rfl,?_⟩;rw [StrLaws.found_one];refine ite2 (λ h3=> ?_) (λ h3=> ?_)
     ·refine ⟨_,zr,_,zr,_,zr,L,_,zr,λ D hD=> ?_⟩;have O:(cutS z (some 1) none).cps.toList=r:=by rw [qpc l1,J];rfl
      have hrl:r.length<=12:=by
       have:=q2p z;rw [J,z27] at this;omega
      have Y:(cutS z (some 1) none).cps.size=r.length:=by rw [<- O,z13]
      refine q1k r.length (λ i σ' H'=>(∃ v,σ'=[v])/\H'=upd H D (.lst ((r.take i).map λ c=>V.bl (decide (c∈fur.cps.toList))))) ⟨⟨_,rfl⟩,rfl⟩ (λ i σ' H' hi _=>by show i < _;rw [Y];exact hi) (λ σ' H' p=>⟨Y.symm,?_⟩) (λ i σ' H' hi p x H2 y=> ?_)
      ·obtain ⟨_,rfl⟩:=p;refine ⟨D,r.map λ c=>decide (c∈fur.cps.toList),rfl,SqL.of (by rw [q0,z2h,z3p];rfl),?_⟩;have:=k (upd H D (.lst ((r.take r.length).map λ c=>V.bl (decide (c∈fur.cps.toList))))) (qb hD);rw [et] at this;have e2:q75 fs (c::r)=(r.map λ c=>decide (c∈fur.cps.toList)).all id:=by
        show (decide (c∈fs.cps.toList)&&_)=_;rw [h3,Bool.true_and,z3o];rfl
       rw [e2] at this;exact this
      ·obtain ⟨⟨v,rfl⟩,rfl⟩:=p;obtain ⟨rfl,c',hc,rfl⟩:=y;have a0:r[i]? =some c':=by rw [<- O,z0t];exact hc
       refine ⟨_,zr,_,_,zr,zr,_,q0,?_,⟨_,zr⟩,?_⟩
       ·rw [z2o,z25];exact qz (by omega)
       ·rw [q9l,StrLaws.found_one,z33,a0,z2t];rfl
     ·have:=k H (Same.refl H);rw [et] at this;have e2:q75 fs (c::r)=false:=by
       show (decide (c∈fs.cps.toList)&&_)=_;rw [Bool.eq_false_iff.mpr h3,z30]
      rw [e2] at this;exact this
   ·refine ⟨_,zr,iteT ?_⟩;exact no λ q=>by simp at h1;omega
  | inl i=>
   refine ⟨_,zr,_,_,_,zr,hd,by decide,_,zr,?_⟩;refine q3v (show (!tyIs "int" "str")=true by decide) (iteT ?_);exact k H (Same.refl H)
def q9v:Str:="0123456789abcdefghijklmnopqrstuvwxyz"
theorem qjp:fur.length=36:=by decide+kernel
theorem qpe (a b:Str):(a++b).cps.toList=a.cps.toList++b.cps.toList:=by
 show (a.cps++b.cps).toList=_;rw [z14]
theorem qh0 {z:Str} (h:∀ c∈z.cps.toList,c < 0x110000):PyData.strOk z=true:=by
 unfold PyData.strOk;rw [<- Array.all_toList,z2c];exact λ c hc=>z2y (h c hc)
theorem qna:∀ c∈fur.cps.toList,c < 0x110000:=by decide+kernel
def Wz (n:Nat) (z:Str):Prop:=z.length<=n/\∀ c∈z.cps.toList,c∈fur.cps.toList
theorem Wz.ok {n:Nat} {z:Str} (h:Wz n z):PyData.strOk z=true:=qh0 λ c hc=>qna c (h.2 c hc)
def strLt (x y:Str):Bool:=decide (x.cps.toList < y.cps.toList)
def befK:Key ->Key ->Bool
 | .inl i,.inl j=>decide (i < j)
 | .inl _,.inr _=>true
 | .inr _,.inl _=>false
 | .inr x,.inr y=>strLt x y
def keyV:Key ->List V
 | .inl i=>[.int 0,.int i,.str ""]
 | .inr z=>[.int 1,.int 0,.str z]
def qqq:Key ->List PyData
 | .inl i=>[.int 0,.int i,.str ""]
 | .inr z=>[.int 1,.int 0,.str z]
def ordD (k:Key):PyData:= .tuple (qqq k)
def valD:Key ->PyData
 | .inl i=> .int i
 | .inr z=> .str z
def OkK:Key ->Prop
 | .inl _=>True
 | .inr z=>Wz 40 z
theorem qsc {K:PySem.W.Frag} {H:Hp}:∀ {k:Key},OkK k ->Dat K H (valD k) (kV k)
 | .inl i,_=> .int i
 | .inr z,h=> .str z (Wz.ok (n:=40) h)
theorem qpf {K:PySem.W.Frag} {H:Hp}:∀ {k:Key},OkK k ->Dats K H (qqq k) (keyV k)
 | .inl i,_=> .cons (.int 0) (.cons (.int i) (.cons (.str "" (by decide+kernel)) .nil))
 | .inr z,h=> .cons (.int 1) (.cons (.int 0) (.cons (.str z (Wz.ok (n:=40) h)) .nil))
theorem qnb (k:Key):(ordD k).depth=1:=by cases k <;> rfl
theorem q45 (a b:Int):PyData.eqv (.int a) (.int b)=decide (a=b):=by
 show (a==b)=_;by_cases h:a=b <;> simp [h]
theorem q5n (a b:Str):PyData.eqv (.str a) (.str b)=decide (a=b):=by
 show (a==b)=_;by_cases h:a=b <;> simp [h]
theorem qsd:∀ a b:Key,ltD? (ordD a) (ordD b)=some (befK a b)
 | .inl i,.inl j=>by
  show lexD? [.int 0,.int i,.str ""] [.int 0,.int j,.str ""]=_;rw [lexD?,if_pos (by decide),lexD?,q45];by_cases h:i=j
  ·subst h;rw [if_pos (by simp),lexD?,if_pos (by decide),lexD?];simp [befK]
  ·rw [if_neg (by simpa using h),ltD?];rfl
 | .inl i,.inr y=>by
  show lexD? [.int 0,.int i,.str ""] [.int 1,.int 0,.str y]=_;rw [lexD?,if_neg (by decide),ltD?];rfl
 | .inr x,.inl j=>by
  show lexD? [.int 1,.int 0,.str x] [.int 0,.int j,.str ""]=_;rw [lexD?,if_neg (by decide),ltD?];rfl
 | .inr x,.inr y=>by
  show lexD? [.int 1,.int 0,.str x] [.int 1,.int 0,.str y]=_;rw [lexD?,if_pos (by decide),lexD?,if_pos (by decide),lexD?,q5n];by_cases h:x=y
  ·subst h;rw [if_pos (by simp),lexD?];simp [befK,strLt,List.lt_irrefl]
  ·rw [if_neg (by simpa using h),ltD?];rfl
def qul:PyData ->Bool
 | .int _=>true
 | _=>false
def qpg (K:PySem.W.Frag):Sp:=λ vs H Q _=>∃ x d,vs=[x]/\Dat K H d x/\Q (.bl (qul d)) H
theorem q4w (T:Txt K mg):Def P w K mg base 1 "is_whole" ["thing"] (qpg K):=by
 refine T.qlb.ok qi5 (λ vs H Q E h=> ?_) λ f cdv A outer s H vs Q E hr h=> ?_
 ·obtain ⟨x,d,rfl,_⟩:=h;rfl
 ·obtain ⟨x,d,rfl,hd,k⟩:=h;refine ⟨_,(qg (qi (q8o (ql (q2m K) rfl T.q1f q1c (pa_2 (pv 0) (q3e rfl T.b_int qml))) (q6s (qtn (ql (q2m K) rfl T.q1f q1c (pa_2 (pv 0) (q3e rfl T.qhn qdc)))))))),?_⟩;refine ⟨_,zr,_,_,_,zr,hd,by decide,_,zr,ite2 (λ h1=> ?_) (λ h1=> ?_)⟩
  ·refine ⟨_,zr,_,_,_,zr,hd,by decide,_,zr,?_⟩;cases hd <;> first | exact k | (exact absurd h1 z1c)
  ·cases hd <;> first | exact k | (exact absurd rfl h1)
def qse:Sp:=λ vs H Q _=>∃ k:Key,vs=[kV k]/\OkK k/\∀ p,H p=none ->Q (.ref p) (upd H p (.tup (keyV k)))
theorem qh1 (T:Txt K mg):Def P w K mg base 2 "value_key" ["value"] qse:=by
 refine T.qim.ok qgv (λ vs H Q E h=> ?_) λ f cdv A outer s H vs Q E hr h=> ?_
 ·obtain ⟨k,rfl,_⟩:=h;rfl
 ·obtain ⟨k,rfl,hk,q⟩:=h;refine ⟨_,(q3q
   (q1m (q2b (qf (q4w T) hr rfl (pa_1 (pv 0)))) (qg (qi (q1n (pa_3 qa (pv 0) q6r)))) q15)
   (qi (q1n (pa_3 qa qa (pv 0))))),?_⟩
  refine ⟨_,zr,_,valD k,zr,qsc hk,_,zr,?_⟩;cases k with
  | inl i=>
   refine iteT ?_;exact ⟨_,rfl,by show 3<=sizeLine;decide,λ p J=>q p J⟩
  | inr z=>
   refine iteF ?_;exact ⟨_,rfl,by show 3<=sizeLine;decide,λ p J=>q p J⟩
def smaS:Str:="abcdefghijklmnopqrstuvwxyz"
theorem qum:∀ c∈smaS.cps.toList,c < 0x110000:=by decide+kernel
theorem q7t {F z:Str} (h:txtB F z=true):1<=z.length/\z.length<=12/\∃ c r,z.cps.toList=c::r/\c∈F.cps.toList/\∀ d∈r,d∈fur.cps.toList:=by
 by_cases hl:1<=z.length/\z.length<=12
 ·obtain ⟨c,r,e⟩:=qck hl.1;rw [qjo hl.1 hl.2,e] at h;have h':(decide (c∈F.cps.toList)&&r.all λ d=>decide (d∈fur.cps.toList))=true:=h;rw [z2b,z2c] at h';exact ⟨hl.1,hl.2,c,r,e,of_decide_eq_true h'.1,λ d hd=>of_decide_eq_true (h'.2 d hd)⟩
 ·rw [qgz hl] at h;cases h
theorem qph {F z:Str} (hF:∀ c∈F.cps.toList,c < 0x110000) (h:txtB F z=true):PyData.strOk z=true:=by
 obtain ⟨_,_,c,r,e,hc,hr⟩:=q7t h;refine qh0 λ d hd=> ?_;rw [e] at hd;rcases z37.mp hd with rfl | hd
 ·exact hF _ hc
 ·exact qna d (hr d hd)
def GoodK:Key ->Prop
 | .inl _=>True
 | .inr z=>txtB smaS z=true
theorem GoodK.tx:∀ {k:Key},GoodK k ->TxOk k
 | .inl _,_=>True.intro
 | .inr z,h=>⟨z3j (q7t h).2.1 (by decide),qph qum h⟩
theorem qsf:∀ c∈smaS.cps.toList,c∈fur.cps.toList:=by decide+kernel
theorem GoodK.ok:∀ {k:Key},GoodK k ->OkK k
 | .inl _,_=>True.intro
 | .inr z,h=>by
  obtain ⟨h1,h2,c,r,e,hc,hr⟩:=q7t h;refine ⟨z3j h2 (by decide),λ d hd=> ?_⟩;rw [e] at hd;rcases z37.mp hd with rfl | hd
  ·exact qsf _ hc
  ·exact hr d hd
theorem q3f {α:Type} {K:PySem.W.Frag} {H:Hp} {f:α ->PyData} {g:α ->V}:∀ {l:List α},(∀ x∈l,Dat K H (f x) (g x)) ->Dats K H (l.map f) (l.map g)
 | [],_=> .nil
 | x::l,h=> .cons (h x (z1g ..)) (q3f λ y hy=>h y (z10 _ hy))
theorem qpi (n:Nat):(List.replicate n true).all id=true:=z2c.mpr λ b hb=>(List.mem_replicate.mp hb).2
abbrev FT:=Str×Str×List Key
structure FGood (f:FT):Prop where
 nm:txtB smaS f.1=true
 tb:txtB smaS f.2.1=true
 ln:f.2.2.length<=4
 vs:∀ k∈f.2.2,GoodK k
def FV (H:Hp) (e:V×FT):Prop:=∃ p q,e.1= .ref p/\H p=some (.tup [.str e.2.1,.str e.2.2.1,.ref q])/\H q=some (.tup (e.2.2.2.map kV))
theorem FV.same {H H':Hp} {e:V×FT} (s:Same H H') (h:FV H e):FV H' e:=let ⟨p,q,e1,h1,h2⟩:=h;⟨p,q,e1,s _ _ h1,s _ _ h2⟩
theorem q7u (T:Txt K mg):Def P w K mg base 2 "is_word" ["thing"] (λ vs H Q _=>∃ t:Key,vs=[kV t]/\TxOk t/\∀ H',Same H H' ->Q (.bl (txtK smaS t)) H'):=by
 refine T.qo2.ok qks (λ vs H Q E h=> ?_) λ f cdv A outer s H vs Q E hr h=> ?_
 ·obtain ⟨t,rfl,_⟩:=h;rfl
 ·obtain ⟨t,rfl,ht,k⟩:=h;refine ⟨_,(qg (qi (qf (q8d T) hr rfl (pa_2 (pv 0) (qqn rfl T.qcw))))),?_⟩;exact ⟨_,zr,t,smaS,zr,ht,λ H' s'=>k H' s'⟩
theorem qi9 (T:Txt K mg):Def P w K mg base 3 "is_value" ["thing"] (λ vs H Q _=>∃ t:Key,vs=[kV t]/\GoodK t/\∀ H',Same H H' ->Q (.bl true) H'):=by
 refine T.qlf.ok qi6 (λ vs H Q E h=> ?_) λ f cdv A outer s H vs Q E hr h=> ?_
 ·obtain ⟨t,rfl,_⟩:=h;rfl
 ·obtain ⟨t,rfl,J,k⟩:=h;refine ⟨_,(qg (qi (qqc (qf (q4w T) hr rfl (pa_1 (pv 0))) (q6s (qf (q7u T) hr rfl (pa_1 (pv 0))))))),?_⟩;refine ⟨_,zr,_,keyD t,zr,q4e J.tx,?_⟩;cases t with
  | inl i=>exact ⟨_,rfl,iteT (k H (Same.refl H))⟩
  | inr z=>
   refine ⟨_,zr,iteF ⟨_,zr,.inr z,zr,GoodK.tx J,λ H' s'=> ?_⟩⟩;have J:txtB smaS z=true:=J;show Q (.bl (txtB smaS z)) H';rw [J];exact k H' s'
def qsg (K:PySem.W.Frag):Sp:=λ vs H Q _=>∃ (a:Addr) (us:List Key),vs=[.ref a]/\H a=some (.tup (us.map kV))/\us.length<=4/\(∀ u∈us,GoodK u)/\∀ H',Same H H' ->Q (.bl true) H'
theorem qnc (T:Txt K mg):Def P w K mg base 4 "is_row" ["thing"] (qsg K):=by
 refine T.qq6.ok qn9 (λ vs H Q E h=> ?_) λ f cdv A outer s H vs Q E hr h=> ?_
 ·obtain ⟨a,us,rfl,_⟩:=h;rfl
 ·obtain ⟨a,us,rfl,L,l4,Z,k⟩:=h;have d0:Dat K H (.tuple (us.map keyD)) (.ref a):= .tup (SqT.of L) (q3f λ u Y=>q4e (Z u Y).tx);refine ⟨_,(q3q
   (q1m (PW.pt (q3b (q2q (q2b (ql (q2m K) rfl T.q1f q1c (pa_2 (pv 0) (q3e rfl T.q4r q3w))))) (q50 (q1a qff (ql (q1g K) rfl T.b_len q1u (pa_1 (pv 0))) (qc3 rfl T.qfa) (q17 _))))) (qg (qi q3a)) q15)
   (qi (ql (q8t rfl K) rfl T.b_all qgb (pa_1 (q20 (N:=["part"]) (caps:=[none]) rfl (by with_unfolding_all rfl) (qdb K (pv 0)) (λ _ _ _ _ _=>(qh (i:=0) (show (["part"]:List Str).Nodup by decide+kernel) rfl (Or.inl rfl))) (λ _ _ _ _ _=>q25) (λ _ _ _ _ _=>(qf (qi9 T) hr rfl (pa_1 (pv 0))))))))),?_⟩
  refine ⟨_,zr,_,_,_,zr,d0,by decide,_,zr,q1d rfl ?_⟩;refine ⟨_,rfl,_,_,rfl,.inr ⟨_,SqT.of L,rfl⟩,_,_,rfl,rfl,_,rfl,q1d (z2k (by rw [z2o];omega)) ?_⟩;refine ⟨_,zr,a,zr,⟨_,SqT.of L⟩,λ D hD=> ?_⟩;refine q1k (us.map kV).length (λ i σ' J=>(∃ v,σ'=[v])/\Same H J/\J D=some (.lst ((List.replicate i true).map V.bl))) ⟨⟨_,zr⟩,qb hD,q0⟩ (λ i σ' J hi p=> ?_) (λ σ' J p=>⟨?_,?_⟩) (λ i σ' J hi p x E3 y=> ?_)
  ·exact ⟨_,_,SqT.of (p.2.1 _ _ L),z0c hi⟩
  ·exact ⟨_,SqT.of (p.2.1 _ _ L),z3q _⟩
  ·obtain ⟨_,sm,e⟩:=p;refine ⟨D,_,zr,SqL.of e,?_⟩;rw [qpi];exact k J sm
  ·obtain ⟨⟨v,rfl⟩,sm,e⟩:=p;obtain ⟨rfl,hx⟩:=y;have O:=hx _ (SqT.of (sm _ _ L));rw [z1s] at O;obtain ⟨u,Y,rfl⟩:=z0m.mp O;have ul:=(z06.mp Y).1;refine ⟨_,zr,u,zr,Z u (z12 Y),λ E4 s4=> ?_⟩;refine ⟨_,s4 _ _ e,?_,⟨_,zr⟩,(sm.trans s4).set hD,?_⟩
   ·rw [z2o,List.length_replicate];exact qz (by omega)
   ·rw [q0,List.replicate_succ',z2t];rfl
theorem q8e (T:Txt K mg):Def P w K mg base 1 "is_tuple_of_just" ["thing","many"] (λ vs H Q _=>∃ (a:Addr) (xs:List V) (ds:List PyData),vs=[.ref a,.int xs.length]/\H a=some (.tup xs)/\Dats K H ds xs/\Q (.bl true) H):=by
 refine T.q9i.ok q8c (λ vs H Q E h=> ?_) λ f cdv A outer s H vs Q E hr h=> ?_
 ·obtain ⟨a,xs,ds,rfl,_⟩:=h;rfl
 ·obtain ⟨a,xs,ds,rfl,J,hd,k⟩:=h;refine ⟨_,(qg (qi (q8o (ql (q2m K) rfl T.q1f q1c (pa_2 (pv 0) (q3e rfl T.q4r q3w))) (q6s (q43 qfd (ql (q1g K) rfl T.b_len q1u (pa_1 (pv 0))) (pv 1) (q17 _)))))),?_⟩;refine ⟨_,zr,_,_,_,zr,(.tup (SqT.of J) hd:Dat K H (.tuple ds) (.ref a)),by decide,_,zr,iteT ?_⟩;refine ⟨_,zr,_,_,zr,.inr ⟨_,SqT.of J,zr⟩,_,zr,zr,?_⟩;show Q (.bl (decide (V.int xs.length=V.int xs.length))) H;rw [z2y rfl];exact k
def qnd (K:PySem.W.Frag):Sp:=λ vs H Q _=>∃ e:V×FT,vs=[e.1]/\FV H e/\FGood e.2/\∀ H',Same H H' ->Q (.bl true) H'
theorem qky (T:Txt K mg):Def P w K mg base 5 "is_fact" ["thing"] (qnd K):=by
 refine T.qo6.ok qku (λ vs H Q E h=> ?_) λ f cdv A outer s H vs Q E hr h=> ?_
 ·obtain ⟨e,rfl,_⟩:=h;rfl
 ·obtain ⟨⟨x,nm,tb,row⟩,rfl,⟨p,q,ep,J,hq⟩,g,k⟩:=h;have ep:x= .ref p:=ep;subst ep;have J:H p=some (.tup [.str nm,.str tb,.ref q]):=J;have hq:H q=some (.tup (row.map kV)):=hq;have O:TxOk (.inr nm):=GoodK.tx (k:= .inr nm) g.nm;have Y:TxOk (.inr tb):=GoodK.tx (k:= .inr tb) g.tb;have L:∀ u∈row,GoodK u:=g.vs;have hd:Dats K H [.str nm,.str tb,.tuple (row.map keyD)] [.str nm,.str tb,.ref q]:= .cons (.str _ O.2) (.cons (.str _ Y.2) (.cons (.tup (SqT.of hq) (q3f λ u hu=>q4e (L u hu).tx)) .nil));refine ⟨_,(q3q
   (q1m (q2q (q2b (qf (q8e T) hr rfl (pa_2 (pv 0) qa)))) (qg (qi q3a)) q15)
   (qi (q8o (qf (q7u T) hr rfl (pa_1 (qm (q11 K) (pv 0) qa (λ _ _=>rfl)))) (q8o (qf (q7u T) hr rfl (pa_1 (qm (q11 K) (pv 0) qa (λ _ _=>rfl)))) (q6s (qf (qnc T) hr rfl (pa_1 (qm (q11 K) (pv 0) qa (λ _ _=>rfl))))))))),?_⟩
  refine ⟨_,zr,p,_,_,zr,J,hd,⟨_,zr,q1d rfl ?_⟩⟩;refine ⟨_,zr,_,_,_,_,zr,zr,SqT.of J,qp (j:=0) rfl,.inr nm,zr,O,λ H1 s1=> ?_⟩;rw [show txtK smaS (.inr nm)=true from g.nm];refine ⟨_,zr,iteT ?_⟩;refine ⟨_,zr,_,_,_,_,zr,zr,SqT.of (s1 _ _ J),qp (j:=1) rfl,.inr tb,zr,Y,λ H2 s2=> ?_⟩;rw [show txtK smaS (.inr tb)=true from g.tb];have s12:=s1.trans s2;refine ⟨_,zr,iteT ?_⟩;exact ⟨_,zr,_,_,_,_,zr,zr,SqT.of (s12 _ _ J),qp (j:=2) rfl,q,row,zr,s12 _ _ hq,g.ln,L,λ H3 s3=>k H3 (s12.trans s3)⟩
theorem qh2 {α:Type}:∀ {l:List α} {i:Nat} {x:α},l.Nodup ->l[i]? =some x ->x∉l.take i
 | [],i,x,_,h=>by simp at h
 | a::l,0,x,_,_=>by simp
 | a::l,i+1,x,n,h=>by
  have h:l[i]? =some x:=by simpa using h
  obtain ⟨n1,n2⟩:=z2q.mp n;rw [List.take_succ_cons];intro z;rcases z37.mp z with rfl | z
  ·exact n1 (z12 h)
  ·exact qh2 n2 h z
def qsh (K:PySem.W.Frag):Sp:=λ vs H Q _=>∃ (a:Addr) (fs:List (V×FT)),vs=[.ref a]/\SqL K H a (fs.map (·.1))/\(∀ e∈fs,FV H e/\FGood e.2)/\(fs.map (·.2.1)).Nodup/\fs.length<=100/\∀ H',Same H H' ->Q .non H'
theorem qh3 (T:Txt K mg):Def P w K mg base 6 "vet_facts" ["facts"] (qsh K):=by
 refine T.qio.ok q4b (λ vs H Q E h=> ?_) λ f cdv A outer s H vs Q E hr h=> ?_
 ·obtain ⟨a,fs,rfl,_⟩:=h;rfl
 ·obtain ⟨a,fs,rfl,ha,gf,nd,lf,k⟩:=h;refine ⟨_,(q3q
   (qr (i:=1) q4b.nd rfl (Or.inl rfl) q5r)
   (q1s PassesOwn.never rfl (q14 K (pv 0)) (qh (i:=2) q4b.nd rfl (Or.inl rfl)) (q9s
   (q1m (q2q (q2b (qf (qky T) hr rfl (pa_1 (pv 2))))) (qg q7l) q15)
   (qr (i:=3) q4b.nd rfl (Or.inl rfl) (qm (q11 K) (pv 2) qa (λ _ _=>rfl)))
   (q1m (qls (qtv (q3d hr) (pv 3) (pv 1))) (qg q7l) q15)
   (q9r (q3d hr) (pv 1) (pv 3) q3a rfl)))),?_⟩
  refine λ D hD=> ?_;have s1:=qb (o:=HO.dK []) hD;refine ⟨_,rfl,a,rfl,⟨_,s1.seq ha⟩,q29 (xs:=fs.map (·.1)) (λ i σ G=>∃ (v2 v3:Option V) (tk:List (Key×V)),σ=[some (.ref a),some (.ref D),v2,v3]/\Same H G/\G D=some (.dK tk)/\tk.length<=i/\∀ z,valV tk (.inr z)=none\/ z∈(fs.map (·.2.1)).take i) ⟨none,none,[],rfl,s1,q0,z3q _,λ _=> .inl rfl⟩ (λ i σ G _ z=> ?_) ?_ ?_⟩
  ·obtain ⟨_,_,_,_,z,_⟩:=z;exact z.seq ha
  ·rintro i x σ G hx ⟨v2,v3,tk,rfl,O,hG,lt,Z⟩;rw [z1s] at hx;obtain ⟨e,J,rfl⟩:=z0m.mp hx;have he:=z12 J;have il:=(z06.mp J).1;obtain ⟨fv,fg⟩:=gf e he;obtain ⟨p,q,ep,hp,hq⟩:=fv;refine ⟨_,zr,e,zr,⟨p,q,ep,O _ _ hp,O _ _ hq⟩,fg,λ G1 s2=>⟨_,zr,q1d rfl ?_⟩⟩;have S2:=O.trans s2;have L:=s2 _ _ hG;have a0:valV tk (.inr e.2.1)=none:=by
    rcases Z e.2.1 with h | h
    ·exact h
    ·have h2:(fs.map (·.2.1))[i]? =some e.2.1:=by rw [z1s,J];rfl
     exact absurd h (qh2 nd h2)
   refine ⟨_,zr,_,_,_,_,ep,zr,SqT.of (S2 _ _ hp),qp (j:=0) rfl,?_⟩;refine ⟨_,rfl,_,rfl,D,none,rfl,by rw [<- a0];exact DGet.k (k:= .inr e.2.1) L,_,rfl,q1d rfl ?_⟩;refine ⟨_,zr,_,zr,D,_,zr,DPut.k (k:= .inr e.2.1) L (qz (by omega)),?_⟩;refine ⟨_,_,_,rfl,S2.set hD,q0,by have:=q1i tk (Sum.inr e.2.1) (V.bl true);omega,λ z=> ?_⟩;rw [q2o];split
   ·rename_i Y;injection Y with Y;refine .inr ?_;rw [z33,z1s,J,Y];exact z0s _ (by simp)
   ·rcases Z z with h | h
    ·exact .inl h
    ·refine .inr ?_;rw [z33];exact z11 _ h
  ·rintro σ G ⟨v2,v3,tk,rfl,O,hG,lt,Z⟩;exact k G O
theorem qkz (T:Txt K mg):Def P w K mg base 1 "is_rule" ["thing"] (λ _ _ _ _=>False):=by
 refine T.qo3.ok qkv (λ vs H Q E h=>h.elim) λ f cdv A outer s H vs Q E hr h=>h.elim
def qun (K:PySem.W.Frag):Sp:=λ vs H Q _=>∃ (a b:Addr) (n:Int) (fs:List (V×FT)),vs=[.ref a,.ref b,.int n]/\SqL K H a (fs.map (·.1))/\(∀ e∈fs,FV H e/\FGood e.2)/\(fs.map (·.2.1)).Nodup/\fs.length<=100/\SqL K H b []/\0<=n/\n<=5/\∀ H',Same H H' ->Q (.bl true) H'
theorem qne (T:Txt K mg):Def P w K mg base 7 "vet" ["facts","rules","rounds"] (qun K):=by
 refine T.t_vet.ok quj (λ vs H Q E h=> ?_) λ f cdv A outer s H vs Q E hr h=> ?_
 ·obtain ⟨a,b,n,fs,rfl,_⟩:=h;rfl
 ·obtain ⟨a,b,n,fs,rfl,ha,gf,nd,lf,L,n0,n5,k⟩:=h;refine ⟨_,(q9s
   (q1j (qf (qh3 T) hr rfl (pa_1 (pv 0))))
   (q1m (q2q (q2b (ql (q8t rfl K) rfl T.b_all qgb (pa_1 (q20 (N:=["rule"]) (caps:=[none]) rfl (by with_unfolding_all rfl) (q14 K (pv 1)) (λ _ _ _ _ _=>(qh (i:=0) (show (["rule"]:List Str).Nodup by decide+kernel) rfl (Or.inl rfl))) (λ _ _ _ _ _=>q25) (λ _ _ _ _ _=>(qf (qkz T) hr rfl (pa_1 (pv 0))))))))) (qg q7l) q15)
   (q1m (PW.pt (q3b (q2q (q2b (qf (q4w T) hr rfl (pa_1 (pv 2))))) (q50 (q2q (qg0 qfe qfe qa (pv 2) (qc3 rfl T.qf7)))))) (qg q7l) q15)
   (qi q3a)),?_⟩
  refine ⟨_,zr,a,fs,zr,ha,gf,nd,lf,λ H1 s1=> ?_⟩;refine ⟨_,zr,b,zr,⟨_,s1.seq L⟩,λ D hD=> ?_⟩;refine q1k 0 (λ i σ' J=>(∃ v,σ'=[v])/\Same H1 J/\J D=some (.lst (([]:List Bool).map V.bl))) ⟨⟨_,zr⟩,qb hD,q0⟩ (λ i σ' J hi p=>absurd hi (Nat.not_lt_zero _)) (λ σ' J p=>⟨?_,?_⟩) (λ i σ' J hi p x E3 y=>absurd hi (Nat.not_lt_zero _))
  ·exact ⟨_,(s1.trans p.2.1).seq L,z3q _⟩
  ·obtain ⟨_,sm,e⟩:=p;refine ⟨D,_,zr,SqL.of e,_,zr,q1d rfl ?_⟩;refine ⟨_,zr,_,.int n,zr,.int n,_,zr,q1d rfl ?_⟩;refine ⟨_,zr,_,_,zr,zr,_,zr,q3v (z2y n0) ?_⟩;exact ⟨_,_,rfl,rfl,_,rfl,q1d (by rw [z2y n5];rfl) (k J (s1.trans sm))⟩
theorem qjq:∀ a b:Key,PyData.eqv (ordD a) (ordD b)=decide (a=b)
 | .inl i,.inl j=>by
  show (PyData.eqv (.int 0) (.int 0)&&(PyData.eqv (.int i) (.int j)&&(PyData.eqv (.str "") (.str "")&&true)))=_;rw [q45,q45,q5n];by_cases h:i=j <;> simp [h]
 | .inl i,.inr y=>by
  show (PyData.eqv (.int 0) (.int 1)&&(PyData.eqv (.int i) (.int 0)&&(PyData.eqv (.str "") (.str y)&&true)))=_;rw [q45];simp
 | .inr x,.inl j=>by
  show (PyData.eqv (.int 1) (.int 0)&&(PyData.eqv (.int 0) (.int j)&&(PyData.eqv (.str x) (.str "")&&true)))=_;rw [q45];simp
 | .inr x,.inr y=>by
  show (PyData.eqv (.int 1) (.int 1)&&(PyData.eqv (.int 0) (.int 0)&&(PyData.eqv (.str x) (.str y)&&true)))=_;rw [q45,q45,q5n];by_cases h:x=y <;> simp [h]
def q7v (a b:List Key):Bool:=Tim.lexB befK a b
theorem qjr:∀ a b:List Key,lexD? (a.map ordD) (b.map ordD)=some (q7v a b)
 | [],[]=>by rw [z3m,lexD?];rfl
 | [],_::_=>by rw [z3m,z35,lexD?];rfl
 | _::_,[]=>by rw [z3m,z35,lexD?];rfl
 | x::a,y::b=>by
  rw [z35,z35,lexD?,qjq,q7v,Tim.lexB];by_cases h:x=y
  ·subst h;rw [if_pos (by simp),if_pos rfl];exact qjr a b
  ·rw [if_neg (by simpa using h),if_neg h];exact qsd x y
theorem ql0 (ks:List Key):PyData.depthAll (ks.map ordD)<=1:=by
 induction ks with
 | nil=>exact z3t _
 | cons k ks ih=>exact Nat.max_le.mpr ⟨Nat.le_of_eq (qnb k),ih⟩
theorem qei {K:PySem.W.Frag} {H:Hp} {d:PyData} {x:V}:∀ {ds:List PyData} {xs:List V},Dats K H ds xs ->Dat K H d x ->Dats K H (ds++ [d]) (xs++ [x])
 | _,_,.nil,h=> .cons h .nil
 | _,_,.cons a b,h=> .cons a (qei b h)
theorem qh4 {K:PySem.W.Frag} {H:Hp}:∀ {ds:List PyData} {xs:List V},Dats K H ds xs ->ds.length=xs.length
 | _,_,.nil=>rfl
 | _,_,.cons a b=>by rw [z27,z27,qh4 b]
def qsi (K:PySem.W.Frag):Sp:=λ vs H Q _=>∃ (a:Addr) (ks:List Key),vs=[.ref a]/\SqT K H a (ks.map kV)/\(∀ k∈ks,OkK k)/\ks.length<=100/\
 ∀ p rs H',Same H H' ->H' p=some (.tup rs) ->Dats K H' (ks.map ordD) rs ->Q (.ref p) H'
theorem ql1 (T:Txt K mg):Def P w K mg base 3 "row_key" ["row"] (qsi K):=by
 refine T.qnz.ok qkt (λ vs H Q E h=> ?_) λ f cdv A outer s H vs Q E hr h=> ?_
 ·obtain ⟨a,ks,rfl,_⟩:=h;rfl
 ·obtain ⟨a,ks,rfl,ht,hok,hl,k⟩:=h;refine ⟨_,(qg (qi (q2u (q6g K) rfl T.q4r q3w (pa_1 (q20 (N:=["value"]) (caps:=[none]) rfl (by with_unfolding_all rfl) (qdb K (pv 0)) (λ _ _ _ _ _=>(qh (i:=0) (show (["value"]:List Str).Nodup by decide+kernel) rfl (Or.inl rfl))) (λ _ _ _ _ _=>q25) (λ _ _ _ _ _=>(qf (qh1 T) hr rfl (pa_1 (pv 0))))))))),?_⟩;refine ⟨_,zr,a,zr,⟨_,ht⟩,λ D hD=> ?_⟩;refine q1k (ks.map kV).length (λ i σ' H'=>(∃ v,σ'=[v])/\Same H H'/\∃ J,H' D=some (.lst J)/\∀ H2,(∀ b o,b≠D ->H' b=some o ->H2 b=some o) ->Dats K H2 ((ks.take i).map ordD) J) ⟨⟨_,zr⟩,qb hD,[],q0,λ _ _=> .nil⟩ (λ i σ' H' hi p=> ?_) (λ σ' H' p=>⟨?_,?_⟩) (λ i σ' H' hi p x H2 y=> ?_)
  ·obtain ⟨_,sm,_⟩:=p;exact ⟨_,(ks.map kV)[i],sm.seqT ht,z0c hi⟩
  ·obtain ⟨_,sm,_⟩:=p;exact ⟨_,sm.seqT ht,z3q _⟩
  ·obtain ⟨_,sm,J,e,hd⟩:=p;rw [z2o,z2h] at hd;refine ⟨_,_,zr,.inl ⟨SqL.of e,λ q hq=> ?_⟩⟩;have L:=qb (o:=HO.tup J) hq;exact k q J _ (sm.trans L) q0 (hd _ λ b o _ Z=>L b o Z)
  ·obtain ⟨⟨v,rfl⟩,sm,J,e,hd⟩:=p;obtain ⟨rfl,hx⟩:=y;have Y:=hx _ (sm.seqT ht);rw [z1s] at Y;obtain ⟨kk,hk,rfl⟩:=z0m.mp Y;have a0:J.length=min i ks.length:=by
    rw [<- qh4 (hd _ λ b o _ h=>h),z2o,z25]
   refine ⟨_,zr,kk,zr,hok kk (z12 hk),λ q hq=> ?_⟩;have L:=qb (o:=HO.tup (keyV kk)) hq;have O:q≠D:=λ z=>by
    rw [z,e] at hq;cases hq
   refine ⟨_,L _ _ e,by rw [a0];exact qz (by omega),⟨_,rfl⟩,(sm.trans L).set hD,J++ [.ref q],q0,λ H3 h3=> ?_⟩;rw [z33,hk,z2t];refine qei (hd H3 λ b o Z ho=>h3 b o Z ?_) (.tup (SqT.of (h3 q _ O (by rw [qd O,q0]))) (qpf (hok kk (z12 hk))));rw [qd Z];exact L b o ho
theorem qsj:Tim.STO befK:=by
 have J:Tim.STO strLt:=q34;refine ⟨λ a=> ?_,λ a b c h1 h2=> ?_,λ a b h1 h2=> ?_⟩
 ·cases a with
  | inl i=>exact z2k (Int.lt_irrefl i)
  | inr z=>exact J.irr z
 ·cases a with
  | inl i=>
   cases c with
   | inr z=>rfl
   | inl k=>
    cases b with
    | inr y=>cases h2
    | inl j=>exact Tim.qiw.tr i j k h1 h2
  | inr x=>
   cases b with
   | inl j=>cases h1
   | inr y=>
    cases c with
    | inl k=>cases h2
    | inr z=>exact J.tr x y z h1 h2
 ·cases a with
  | inl i=>
   cases b with
   | inl j=>exact congrArg Sum.inl (Tim.qiw.tri i j h1 h2)
   | inr y=>cases h1
  | inr x=>
   cases b with
   | inl j=>cases h2
   | inr y=>exact congrArg Sum.inr (J.tri x y h1 h2)
theorem q9w:Tim.STO q7v:=qsj.lex
theorem qsk (a b:Key):PyData.eqv (ordD a) (ordD b)=decide (a=b):=qjq a b
theorem qh5:∀ a b:List Key,PyData.eqvAll (a.map ordD) (b.map ordD)=decide (a=b)
 | [],[]=>by rw [z3m,PyData.eqvAll];rfl
 | [],_::_=>by rw [z3m,z35,PyData.eqvAll];rfl
 | _::_,[]=>by rw [z3m,z35,PyData.eqvAll];rfl
 | x::p,y::q=>by
  rw [z35,z35,PyData.eqvAll,qsk,qh5 p q];by_cases h1:x=y
  ·by_cases h2:p=q
   ·rw [z2y h1,z2y h2,z2y (by rw [h1,h2])];rfl
   ·rw [z2y h1,z2k h2,z2k (λ e=>h2 (List.cons.inj e).2)];rfl
  ·rw [z2k h1,z2k (λ e=>h1 (List.cons.inj e).1)];rfl
def prLt (a b:PR):Bool:=if a.1=b.1 then q7v a.2 b.2 else strLt a.1 b.1
theorem q4f:Tim.STO prLt:=by
 have J:Tim.STO strLt:=q34;refine ⟨λ a=> ?_,λ a b c h1 h2=> ?_,λ a b h1 h2=> ?_⟩
 ·unfold prLt;rw [if_pos rfl];exact q9w.irr _
 ·unfold prLt at h1 h2 ⊢;by_cases e1:a.1=b.1
  ·rw [if_pos e1] at h1;by_cases e2:b.1=c.1
   ·rw [if_pos e2] at h2;rw [if_pos (e1.trans e2)];exact q9w.tr _ _ _ h1 h2
   ·rw [if_neg e2] at h2;rw [if_neg (λ z=>e2 (e1.symm.trans z)),e1];exact h2
  ·rw [if_neg e1] at h1;by_cases e2:b.1=c.1
   ·rw [if_pos e2] at h2;rw [if_neg (λ z=>e1 (z.trans e2.symm)),<- e2];exact h1
   ·rw [if_neg e2] at h2;have h3:=J.tr _ _ _ h1 h2;rw [if_neg (λ z=>by rw [z,J.irr] at h3;cases h3)];exact h3
 ·unfold prLt at h1 h2;by_cases e1:a.1=b.1
  ·rw [if_pos e1] at h1;rw [if_pos e1.symm] at h2;exact Prod.ext e1 (q9w.tri _ _ h1 h2)
  ·rw [if_neg e1] at h1;rw [if_neg (λ z=>e1 z.symm)] at h2;exact absurd (J.tri _ _ h1 h2) e1
def prD (p:PR):PyData:= .tuple [.str p.1,.tuple (p.2.map ordD)]
theorem quo (a b:PR):ltD? (prD a) (prD b)=some (prLt a b):=by
 show lexD? [.str a.1,.tuple (a.2.map ordD)] [.str b.1,.tuple (b.2.map ordD)]=some (prLt a b);rw [lexD?,q5n];unfold prLt;by_cases e:a.1=b.1
 ·rw [if_pos (z2y e),if_pos e,lexD?];have er:PyData.eqv (.tuple (a.2.map ordD)) (.tuple (b.2.map ordD))=decide (a.2=b.2):=by
   rw [PyData.eqv];exact qh5 a.2 b.2
  rw [er];by_cases e2:a.2=b.2
  ·rw [if_pos (z2y e2),lexD?,e2];rw [q9w.irr]
  ·rw [if_neg (by rw [z2k e2];exact z1c),ltD?];exact qjr a.2 b.2
 ·rw [if_neg (by rw [z2k e];exact z1c),if_neg e,ltD?];rfl
theorem qpj (p:PR):(prD p).depth<=3:=by
 have:=ql0 p.2;show max 0 (max (PyData.depthAll (p.2.map ordD)+1) 0)+1<=3;omega
def PrGood (p:PR):Prop:=txtB smaS p.1=true/\p.2.length<=4/\∀ k∈p.2,GoodK k
theorem natS {H:Hp}:∀ {us:List Key} {vs:List V},NAts H (us.map NK.leaf) vs ->vs=us.map kV
 | [],vs,h=>by
  rw [z3m,NAts] at h;exact h
 | u::us,vs,h=>by
  rw [z35,NAts] at h;obtain ⟨v,vr,rfl,h1,h2⟩:=h;rw [NAt] at h1;rw [h1,natS h2];rfl
theorem qjs {H:Hp}:∀ us:List Key,NAts H (us.map NK.leaf) (us.map kV)
 | []=>by rw [z3m,NAts];rfl
 | u::us=>by
  rw [z35,NAts];exact ⟨kV u,us.map kV,zr,by rw [NAt],qjs us⟩
theorem pr_at {H:Hp} {p:PR} {b:Addr}:NAt H (pN p) (.ref b)↔∃ q,H b=some (.tup [.str p.1,.ref q])/\H q=some (.tup (p.2.map kV)):=by
 unfold pN;rw [NAt]
 constructor
 ·rintro ⟨a,vs,e,h1,h2⟩;injection e with e;subst e;rw [NAts] at h2;obtain ⟨v,vr,rfl,J,L⟩:=h2;rw [NAt] at J;rw [NAts] at L;obtain ⟨v2,vr2,rfl,O,Y⟩:=L;rw [NAts] at Y;rw [NAt] at O;obtain ⟨q,us,rfl,Z,g6⟩:=O;rw [natS g6] at Z;subst J Y;exact ⟨q,h1,Z⟩
 ·rintro ⟨q,h1,h2⟩;refine ⟨b,_,zr,h1,?_⟩;rw [NAts];refine ⟨_,_,rfl,by rw [NAt];rfl,?_⟩;rw [NAts];refine ⟨_,_,zr,?_,by rw [NAts]⟩;rw [NAt];exact ⟨q,_,zr,h2,qjs p.2⟩
def qsl (K:PySem.W.Frag):Sp:=λ vs H Q _=>∃ (b:Addr) (p:PR),vs=[.ref b]/\NAt H (pN p) (.ref b)/\PrGood p/\∀ v H',Same H H' ->Dat K H' (prD p) v ->Q v H'
theorem qia (T:Txt K mg):Def P w K mg base 4 "pair_key" ["pair"] (qsl K):=by
 refine T.qlc.ok qi7 (λ vs H Q E h=> ?_) λ f cdv A outer s H vs Q E hr h=> ?_
 ·obtain ⟨b,p,rfl,_⟩:=h;rfl
 ·obtain ⟨b,p,rfl,hb,g,k⟩:=h;obtain ⟨q,h1,h2⟩:=pr_at.mp hb;have g3:=g.2.1;refine ⟨_,(qg (qi (q1n (pa_2 (qm (q11 K) (pv 0) qa (λ _ _=>rfl)) (qf (ql1 T) hr rfl (pa_1 (qm (q11 K) (pv 0) qa (λ _ _=>rfl)))))))),?_⟩;refine ⟨_,zr,_,_,_,_,zr,zr,SqT.of h1,qp (j:=0) rfl,?_⟩;refine ⟨_,zr,_,_,_,_,zr,zr,SqT.of h1,qp (j:=1) rfl,q,p.2,zr,SqT.of h2,λ u hu=>(g.2.2 u hu).ok,by omega,λ r rs H1 s1 J dr=> ?_⟩;refine ⟨by show 2<=sizeLine;decide,λ x hx=> ?_⟩;have L:=qb (o:=HO.tup [V.str p.1,.ref r]) hx;exact k _ _ (s1.trans L) (.tup (SqT.of q0) (.cons (.str _ (GoodK.tx (k:= .inr p.1) g.1).2) (.cons (.tup (SqT.of (L _ _ J)) (Dats.same L _ _ dr)) .nil)))
def qsm (P:Program) (w:World):Sp:=λ vs H Q _=>∃ (d:Addr) (kvs:List (PR×V)),vs=[.ref d]/\DP P w H d kvs/\(∀ p∈kvs.map (·.1),PrGood p)/\∀ l zs H',Same H H' ->H l=none ->H' l=some (.lst zs) ->Paired (λ x p=>∃ b,x=V.ref b/\NAt H (pN p) (.ref b)) zs (Tim.srt prLt (kvs.map (·.1))) ->Q (.ref l) H'
theorem q5e (T:Txt K mg):Def P w K mg base 7 "pairs_in_order" ["pairs"] (qsm P w):=by
 refine T.qbp.ok q9z (λ vs H Q E h=> ?_) λ f cdv A outer s H vs Q E hr h=> ?_
 ·obtain ⟨d,kvs,rfl,_⟩:=h;rfl
 ·obtain ⟨d,kvs,rfl,hd,gp,k⟩:=h;refine ⟨_,(qg (qi (qew P w K (qia T) hr rfl rfl T.q84 q68 rfl (pa_1 (pv 0))))),?_⟩;refine ⟨_,zr,d,kvs,prD,prLt,zr,hd,q4f,λ a _ b _=>quo a b,λ a _=>⟨⟨_,_,zr⟩,z3j (qpj a) (by decide)⟩,λ a ha b H2 R J hb kk=>⟨b,a,zr,hb,gp a ha,kk⟩,λ l zs H2 J h1 h2 pr=> ?_⟩;exact k l zs _ (J.trans (qb h2)) h1 q0 pr
theorem qej:∀ {us:List Key},(∀ u∈us,GoodK u) ->PyData.canLayAll0 (NK.dats (us.map NK.leaf))=true/\NK.deeps (us.map NK.leaf)=0
 | [],_=>by
  rw [z3m,NK.dats,NK.deeps];exact ⟨zr,zr⟩
 | u::us,h=>by
  have J:=qej (us:=us) λ x hx=>h x (z10 _ hx);have hu:=(h u (z1g ..)).tx;rw [z35,NK.dats,NK.deeps,NK.deep,J.2];refine ⟨?_,zr⟩;rw [PyData.canLayAll0,J.1,Bool.and_true];cases u with
  | inl i=>rw [NK.dat];rfl
  | inr z=>rw [NK.dat];exact hu.2
theorem qcl {p:PR} (g:PrGood p):NOk (pN p):=by
 obtain ⟨h1,h2⟩:=qej g.2.2;have ht:=GoodK.tx (k:= .inr p.1) g.1;unfold pN NOk
 constructor
 ·rw [NK.deep,NK.deeps,NK.deep,NK.deeps,NK.deep,NK.deeps,h2];decide
 ·rw [NK.dat,NK.dats,NK.dat,NK.dats,NK.dat,NK.dats,PyData.canLay0,PyData.canLayAll0,PyData.canLayAll0,PyData.canLay0,PyData.canLay0,h1,show PyData.strOk p.1=true from ht.2];rfl
theorem valP (kvs:List (PR×V)) (p:PR):valV (kvs.map λ J=>(pN J.1,J.2)) (pN p)=valV kvs p:=by
 induction kvs with
 | nil=>rfl
 | cons a r ih=>
  rw [z35];by_cases e:a.1=p
  ·rw [q1x (p:=(pN a.1,a.2)) (congrArg pN e),q1x e]
  ·rw [q1y (p:=(pN a.1,a.2)) (λ z=>e (qgr z)),q1y e,ih]
theorem qqr (kvs:List (PR×V)) (k:PR) (v:V):(putK kvs k v).map (·.1)=if (valV kvs k).isSome then kvs.map (·.1) else kvs.map (·.1)++ [k]:=by
 unfold putK;rw [q2n];split
 ·rw [z3p];refine z19 λ x _=> ?_;show (if x.1=k then (x.1,v) else x).1=x.1;split <;> rfl
 ·rw [z2t];rfl
theorem qek {kvs:List (PR×V)} {k z:PR} {v:V} (h:z∈(putK kvs k v).map (·.1)):z∈kvs.map (·.1)\/ z=k:=by
 rw [qqr] at h;split at h
 ·exact .inl h
 ·rcases z2i.mp h with h | h
  ·exact .inl h
  ·exact .inr (z1d.mp h)
theorem putP (kvs:List (PR×V)) (p:PR) (v:V):putK (kvs.map λ J=>(pN J.1,J.2)) (pN p) v=(putK kvs p v).map λ J=>(pN J.1,J.2):=by
 unfold putK;rw [q2n,q2n,valP];split
 ·rw [z3p,z3p];refine z19 λ a _=> ?_;show (if pN a.1=pN p then _ else _)=_;by_cases e:a.1=p
  ·rw [if_pos (congrArg pN e)];show _=(λ J:PR×V=>(pN J.1,J.2)) (if a.1=p then (a.1,v) else a);rw [if_pos e]
  ·rw [if_neg (λ z=>e (qgr z))];show _=(λ J:PR×V=>(pN J.1,J.2)) (if a.1=p then (a.1,v) else a);rw [if_neg e]
 ·rw [z2t];rfl
def qup (P:Program) (w:World):Sp:=λ vs H Q _=>∃ (d:Addr) (kvs:List (PR×V)),vs=[.ref d]/\DP P w H d kvs/\kvs.length<=60/\Q .non H
theorem qcm (T:Txt K mg):Def P w K mg base 1 "ask_few_rows" ["standing"] (qup P w):=by
 refine T.qdt.ok qcg (λ vs H Q E h=> ?_) λ f cdv A outer s H vs Q E hr h=> ?_
 ·obtain ⟨d,kvs,rfl,_⟩:=h;rfl
 ·obtain ⟨d,kvs,rfl,hd,hl,k⟩:=h;refine ⟨_,(qg (q1m (q1a qff (ql (q90 P w) rfl T.b_len q1u (pa_1 (pv 0))) (qc3 rfl T.qij) (q17 _)) (qg q7l) q15)),?_⟩;refine ⟨_,rfl,d,_,rfl,hd,_,_,rfl,rfl,_,rfl,q1d (z2k (by rw [z2o];omega)) ?_⟩;exact k
def quq (P:Program) (w:World):Sp:=λ vs H Q _=>∃ (d b:Addr) (kvs:List (PR×V)) (p:PR),vs=[.ref d,.ref b]/\DP P w H d kvs/\NAt H (pN p) (.ref b)/\PrGood p/\(putK kvs p (.bl true)).length<=60/\∀ o,DP P w (upd H d o) d (putK kvs p (.bl true)) ->Q .non (upd H d o)
theorem qh6 (T:Txt K mg):Def P w K mg base 2 "let_stand" ["standing","pair"] (quq P w):=by
 refine T.qin.ok qgx (λ vs H Q E h=> ?_) λ f cdv A outer s H vs Q E hr h=> ?_
 ·obtain ⟨d,b,kvs,p,rfl,_⟩:=h;rfl
 ·obtain ⟨d,b,kvs,p,rfl,hd,hb,g,hl,k⟩:=h;refine ⟨_,(q3q
   (qjk (P:=P) (w:=w) hr.units (pv 0) (pv 1) q3a rfl)
   (q1j (qf (qcm T) hr rfl (pa_1 (pv 0))))),?_⟩
  have J:kvs.length<=60:=z3j (by
   unfold putK;split
   ·rw [z2o];exact z3q _
   ·rw [z1f];exact Nat.le_add_right _ _) hl
  refine ⟨_,rfl,_,rfl,d,b,_,pN p,rfl,rfl,hd,hb,qcl g,by rw [z2o];exact Nat.lt_of_le_of_lt J (by decide),λ o dn=> ?_⟩;rw [putP] at dn;refine ⟨_,zr,d,_,zr,dn,hl,?_⟩;exact k o dn
def qur (P:Program) (w:World) (K:PySem.W.Frag):Sp:=λ vs H Q _=>∃ (a:Addr) (fs:List (V×FT)),vs=[.ref a]/\SqL K H a (fs.map (·.1))/\(∀ e∈fs,FV H e/\FGood e.2)/\fs.length<=60/\∀ d kvs H',Same H H' ->H d=none ->DP P w H' d kvs ->(∀ p∈kvs.map (·.1),PrGood p) ->kvs.length<=60 ->Q (.ref d) H'
theorem qbd (T:Txt K mg):Def P w K mg base 3 "rows_of_facts" ["facts"] (qur P w K):=by
 refine T.qcx.ok q2h (λ vs H Q E h=> ?_) λ f cdv A outer s H vs Q E hr h=> ?_
 ·obtain ⟨a,fs,rfl,_⟩:=h;rfl
 ·obtain ⟨a,fs,rfl,ha,gf,lf,k⟩:=h;refine ⟨_,(q2z
   (qr (i:=1) q2h.nd rfl (Or.inl rfl) (qjj (P:=P) (w:=w)))
   (q1s PassesOwn.never rfl (q14 K (pv 0)) (q51 rfl (q13 (qh (i:=2) q2h.nd rfl (Or.inl rfl)) (q13 (qh (i:=3) q2h.nd rfl (Or.inl rfl)) (q13 (qh (i:=4) q2h.nd rfl (Or.inl rfl)) q33)))) (qg (q1j (qf (qh6 T) hr rfl (pa_2 (pv 1) (q1n (pa_2 (pv 3) (pv 4))))))))
   (qi (pv 1))),?_⟩
  refine λ D o Y dn=> ?_;have s1:=qb (o:=o) Y;refine ⟨_,rfl,a,rfl,⟨_,s1.seq ha⟩,q29 (xs:=fs.map (·.1)) (λ i σ G=>∃ (v2 v3 v4:Option V) (tk:List (PR×V)),σ=[some (.ref a),some (.ref D),v2,v3,v4]/\Same H G/\DP P w G D tk/\tk.length<=i/\∀ p∈tk.map (·.1),PrGood p) ⟨none,none,none,[],rfl,s1,dn,z3q _,λ _ z=>nomatch z⟩ (λ i σ G _ z=> ?_) ?_ ?_⟩
  ·obtain ⟨_,_,_,_,_,z,_⟩:=z;exact z.seq ha
  ·rintro i x σ G hx ⟨v2,v3,v4,tk,rfl,L,Z,lt,hv⟩;rw [z1s] at hx;obtain ⟨e,J,rfl⟩:=z0m.mp hx;have he:=z12 J;have il:=(z06.mp J).1;obtain ⟨fv,O⟩:=gf e he;obtain ⟨p,q,ep,hp,hq⟩:=fv;refine ⟨p,_,ep,SqT.of (L _ _ hp),zr,_,_,zr,_,_,zr,_,_,zr,zr,?_⟩;refine ⟨_,rfl,⟨_,rfl,_,rfl,by show 2<=sizeLine;decide,λ b hb=> ?_⟩⟩;have s2:=qb (o:=HO.tup [V.str e.2.2.1,.ref q]) hb;have S2:=L.trans s2;have pg:PrGood e.2.2:=⟨O.tb,O.ln,O.vs⟩;have pl:=q1i tk e.2.2 (V.bl true);refine ⟨D,b,tk,e.2.2,zr,Z.same s2,pr_at.mpr ⟨q,q0,S2 _ _ hq⟩,pg,by omega,λ o2 d2=> ?_⟩;refine ⟨_,_,_,_,zr,S2.set Y,d2,by omega,λ z hz=> ?_⟩;rcases qek hz with h | h
   ·exact hv z h
   ·rw [h];exact pg
  ·rintro σ G ⟨v2,v3,v4,tk,rfl,L,Z,lt,hv⟩;exact ⟨_,rfl,k D tk G L Y Z hv (by rw [z2o] at lt;omega)⟩
def qpk (P:Program) (w:World):Sp:=λ vs H Q _=>∃ (d:Addr) (kvs:List (PR×V)),vs=[.ref d]/\DP P w H d kvs/\(∀ p∈kvs.map (·.1),PrGood p)/\kvs.length<=60/\∀ t H',Same H H' ->H t=none ->Q (.ref t) H'
theorem q9c (T:Txt K mg):Def P w K mg base 8 "in_tables" ["standing"] (qpk P w):=by
  refine T.qil.ok q4c (λ vs H Q E h=> ?_) λ f cdv A outer s H vs Q E hr h=> ?_
  · obtain ⟨d,kvs,rfl,_⟩:=h
    rfl
  · obtain ⟨d,kvs,rfl,hd,gp,ln,k⟩:=h
    refine ⟨_,(q2z
      (qr (i:=1) q4c.nd rfl (Or.inl rfl) q5r)
      (q1s PassesOwn.never rfl (q14 K (qf (q5e T) hr rfl (pa_1 (pv 0)))) (q51 rfl (q13 (qh (i:=2) q4c.nd rfl (Or.inl rfl)) (q13 (qh (i:=3) q4c.nd rfl (Or.inl rfl)) q33))) (qg (q1j (q3c z0h z0d z0e q2e (qp0 (pv 1) (pv 2) (q1l q2c) ⟨rfl,rfl,rfl,rfl⟩) (pa_1 (pv 3))))))
      (qi (pv 1))),?_⟩
    refine λ D hD=> ?_;have s1:=qb (o:=HO.dK []) hD;refine ⟨_,zr,d,kvs,zr,hd.same s1,gp,λ l zs H1 s2 hl0 hl pr=> ?_⟩;have lz:zs.length<=60:=by
      have h1:=pr.length;rw [(Tim.q19 prLt (kvs.map (·.1))).length_eq,z2o] at h1;omega
    have a2:H1 D=some (.dK []):=s2 _ _ q0;have S1:=s1.trans s2;have lD:l≠D:=λ z=>by rw [z,a2] at hl;cases hl
    refine ⟨l,rfl,⟨_,SqL.of hl⟩,q29 (xs:=zs) (λ i σ G=>∃ (v2 v3:Option V) (tk:List (Key×V)),σ=[some (.ref d),some (.ref D),v2,v3]/\Same H G/\(∀ b o,b≠D ->H1 b=some o ->G b=some o)/\G D=some (.dK tk)/\tk.length<=i/\∀ u v,valV tk u=some v ->∃ L xs,v= .ref L/\H1 L=none/\G L=some (.lst xs)/\xs.length<=i) ⟨none,none,[],rfl,S1,λ _ _ _ h=>h,a2,z3q _,λ _ _ z=>nomatch z⟩ (λ i σ G _ z=> ?_) ?_ ?_⟩
    · obtain ⟨_,_,_,_,_,z,_⟩:=z
      exact SqL.of (z _ _ lD hl)
    · rintro i x σ G hx ⟨v2,v3,tk,rfl,sg,bg,Y,lt,hv⟩
      have il:=(z06.mp hx).1;obtain ⟨pq,_,b,rfl,hb⟩:=q36 pr hx;obtain ⟨q,a0,hb2⟩:=pr_at.mp hb;have bD:b≠D:=λ z=>by rw [z,q0] at a0;cases a0
      have a5:=bg _ _ bD (s2 _ _ a0);refine ⟨b,_,zr,SqT.of a5,zr,_,_,zr,_,_,zr,zr,?_⟩;refine ⟨_,zr,D,zr,.inl ⟨_,.inl Y⟩,_,zr,by decide,λ z hz=> ?_⟩;have J:=qb (o:=HO.lst []) hz;have z1:H1 z=none:=by
        cases h:H1 z with
        | none=>rfl
        | some o=>
          have zD:z≠D:=λ e=>by rw [e,Y] at hz;cases hz
          rw [bg _ _ zD h] at hz;cases hz
      have zD:z≠D:=λ e=>by rw [e,Y] at hz;cases hz
      have a6:H z=none:=S1.free z1;refine ⟨tk,.inr pq.1,J _ _ Y,rfl,z1i (show _ < 2000 by omega) (by decide),λ v ev=> ?_,λ en=> ?_⟩
      · obtain ⟨L,xs,rfl,a3,hL,lx⟩:=hv _ _ ev
        have LD:L≠D:=λ e=>by rw [e,Y] at hL;cases hL
        refine ⟨.inl ⟨rfl,_,SqL.of (J _ _ hL)⟩,_,rfl,L,xs,_,rfl,rfl,J _ _ hL,z1i (show _ < 2000 by omega) (by decide),?_⟩;refine ⟨_,_,tk,zr,(sg.trans J).set (S1.free a3),λ c o n h=> ?_,?_,by omega,λ u v Z=> ?_⟩
        · rw [qd (λ e=>by rw [e,a3] at h;cases h)]
          exact J _ _ (bg _ _ n h)
        · rw [qd (Ne.symm LD)]
          exact J _ _ Y
        · obtain ⟨M,ys,rfl,O,hM,ly⟩:=hv _ _ Z
          by_cases e:M=L
          · subst e
            exact ⟨M,_,rfl,O,q0,by rw [z1f];exact z2f lx⟩
          · exact ⟨M,ys,rfl,O,by rw [qd e];exact J _ _ hM,by omega⟩
      · have eD:upd (upd G z (.lst [])) D (.dK (putK tk (.inr pq.1) (.ref z))) z=some (.lst []):=by
          rw [qd zD];exact q0
        have pl:=q1i tk (.inr pq.1) (V.ref z);refine ⟨.inl ⟨zr,_,SqL.of eD⟩,_,zr,z,[],_,zr,zr,eD,by decide,?_⟩;refine ⟨_,_,putK tk (.inr pq.1) (.ref z),zr,((sg.trans J).set hD).set a6,λ c o n h=> ?_,?_,by omega,λ u v Z=> ?_⟩
        · rw [qd (λ e=>by rw [e,z1] at h;cases h),qd n]
          exact J _ _ (bg _ _ n h)
        · rw [qd (Ne.symm zD)]
          exact q0
        · rw [q2o] at Z
          split at Z
          · injection Z with Z
            subst Z;exact ⟨z,_,rfl,z1,q0,by show 1<=i+1;omega⟩
          · obtain ⟨M,ys,rfl,O,hM,ly⟩:=hv _ _ Z
            have MD:M≠D:=λ e=>by rw [e,Y] at hM;cases hM
            have Mz:M≠z:=λ e=>by rw [e,hz] at hM;cases hM
            exact ⟨M,ys,rfl,O,by rw [qd Mz,qd MD];exact J _ _ hM,by omega⟩
    · rintro σ G ⟨v2,v3,tk,rfl,sg,bg,Y,lt,hv⟩
      exact ⟨_,zr,k D G sg hD⟩
def qsn (K:PySem.W.Frag):Sp:=λ vs H Q _=>∃ a:Addr,vs=[.ref a]/\SqL K H a []/\∀ l H',Same H H' ->H' l=some (.lst []) ->Q (.ref l) H'
theorem qh7 (T:Txt K mg):Def P w K mg base 1 "each_once" ["rules"] (qsn K):=by
 refine T.qig.ok qgw (λ vs H Q E h=> ?_) λ f cdv A outer s H vs Q E hr h=> ?_
 ·obtain ⟨a,rfl,_⟩:=h;rfl
 ·obtain ⟨a,rfl,L,k⟩:=h;refine ⟨_,(qg (qi (q2u (qko rfl) rfl T.qo0 qj8 (pa_1 (q2u (qcb rfl K) rfl T.qhi qdd (pa_1 (q20 (N:=["rule"]) (caps:=[none]) rfl (by with_unfolding_all rfl) (q14 K (pv 0)) (λ _ _ _ _ _=>(qh (i:=0) (show (["rule"]:List Str).Nodup by decide+kernel) rfl (Or.inl rfl))) (λ _ _ _ _ _=>q25) (λ _ _ _ _ _=>(q1n (pa_2 (pv 0) q3a)))))))))),?_⟩;refine ⟨_,zr,a,zr,⟨_,L⟩,λ D hD=> ?_⟩;refine q1k 0 (λ i σ' J=>Same H J/\J D=some (.lst [])) ⟨qb hD,q0⟩ (λ i σ' J hi p=>absurd hi (Nat.not_lt_zero _)) (λ σ' J p=>⟨?_,?_⟩) (λ i σ' J hi p x E3 y=>absurd hi (Nat.not_lt_zero _))
  ·exact ⟨_,p.1.seq L,z3q _⟩
  ·obtain ⟨sm,e⟩:=p;refine ⟨D,[],[],zr,SqL.of e,.nil,λ d hd=> ?_⟩;have s2:=qb (o:=HO.dK (q3r [] [])) hd;refine ⟨d,[],zr,.inl q0,λ l hl=> ?_⟩;exact k l _ (sm.trans (s2.trans (qb hl))) q0
theorem q9d (T:Txt K mg):Def P w K mg base 1 "let_heads_stand" ["standing","rule","tables"] (λ _ _ _ _=>False):=by
 refine T.qa4.ok q9b (λ vs H Q E h=>h.elim) λ f cdv A outer s H vs Q E hr h=>h.elim
def qus (K:PySem.W.Frag):Sp:=λ vs H Q _=>∃ (a b:Addr) (n:Nat) (fs:List (V×FT)),vs=[.ref a,.ref b,.int n]/\SqL K H a (fs.map (·.1))/\(∀ e∈fs,FV H e/\FGood e.2)/\fs.length<=60/\SqL K H b []/\n<=5/\∀ l ts H',Same H H' ->H' l=some (.lst ts) ->ts.length=n+1 ->Q (.ref l) H'
theorem q9e (T:Txt K mg):Def P w K mg base 9 "tables_by_round" ["facts","rules","rounds"] (qus K):=by
 refine T.qa7.ok q1v (λ vs H Q E h=> ?_) λ f cdv A outer s H vs Q E hr h=> ?_
 ·obtain ⟨a,b,n,fs,rfl,_⟩:=h;rfl
 ·obtain ⟨a,b,n,fs,rfl,ha,gf,lf,hb,n5,k⟩:=h;refine ⟨_,(q9s
   (qr (i:=3) q1v.nd rfl (Or.inl rfl) (qf (qbd T) hr rfl (pa_1 (pv 0))))
   (qr (i:=4) q1v.nd rfl (Or.inl rfl) (q1l (pa_1 (qf (q9c T) hr rfl (pa_1 (pv 3))))))
   (q1s PassesOwn.never rfl (q2l rfl T.q3g (pa_1 (pv 2))) (qh (i:=5) q1v.nd rfl (Or.inl rfl)) (q9s
   (qr (i:=6) q1v.nd rfl (Or.inl rfl) (ql (q90 P w) rfl T.b_len q1u (pa_1 (pv 3))))
   (q1s PassesOwn.never rfl (q14 K (qf (qh7 T) hr rfl (pa_1 (pv 1)))) (qh (i:=7) q1v.nd rfl (Or.inl rfl)) (qg (q1j (qf (q9d T) hr rfl (pa_3 (pv 3) (pv 7) (qm (qx K) (pv 4) (pv 5) (λ _ _=>rfl)))))))
   (q1m (q1a qfd (ql (q90 P w) rfl T.b_len q1u (pa_1 (pv 3))) (pv 6) (q17 _)) (qg (qi (qk qg5 (pv 4) (qk (qs9 K) (q1l (pa_1 (qm (qx K) (pv 4) (pv 5) (λ _ _=>rfl)))) (qk qlx (pv 2) (pv 5)))))) q15)
   (q1j (q3c z0h z0d z0e q2e (pv 4) (pa_1 (qf (q9c T) hr rfl (pa_1 (pv 3))))))))
   (qi (pv 4))),?_⟩
  refine ⟨_,zr,a,fs,zr,ha,gf,lf,λ d kvs H1 s1 hd0 hd gp ln=> ?_⟩;refine ⟨_,zr,d,kvs,zr,hd,gp,ln,λ t H2 s2 ht=> ?_⟩;refine ⟨by show 1<=sizeLine;decide,λ l hl=> ?_⟩;have s3:=qb (o:=HO.lst [.ref t]) hl;have S3:=s1.trans (s2.trans s3);have d3:=hd.same (s2.trans s3);generalize hG:upd H2 l (.lst [.ref t])=G at*;have Y:G l=some (.lst [.ref t]):=by rw [<- hG];exact q0
  refine ⟨_,zr,n,zr,by omega,by omega,q42 (lo:=0) (n:=n) (λ i σ J=>i=0/\σ=[some (.ref a),some (.ref b),some (.int n),some (.ref d),some (.ref l),none,none,none]/\J=G) ⟨zr,zr,zr⟩ ?_ ?_⟩
  ·rintro i σ J hi ⟨rfl,rfl,rfl⟩;refine ⟨_,zr,d,_,zr,d3,?_⟩;refine ⟨_,rfl,b,rfl,S3.seq hb,λ L G2 s4 hL=>⟨L,rfl,⟨_,SqL.of hL⟩,q29 (xs:=[]) (λ i σ Z=>σ=[some (.ref a),some (.ref b),some (.int n),some (.ref d),some (.ref l),some (.int (0+(0:Nat))),some (.int (kvs.map λ kv=>(pN kv.1,kv.2)).length),none]/\Z=G2) ⟨rfl,rfl⟩ (λ i σ Z _ z=>by rw [z.2];exact SqL.of hL) (λ i x σ Z hx=>by cases hx) ?_⟩⟩;rintro σ Z ⟨rfl,rfl⟩;have O:=s4 _ _ Y;refine ⟨_,zr,d,_,zr,d3.same s4,_,zr,zr,_,zr,q3v (z2y rfl) ?_⟩;refine ⟨_,zr,_,zr,_,zr,_,_,_,_,zr,zr,SqL.of O,qp (j:=0) rfl,?_⟩;refine ⟨by show 1<=sizeLine;decide,λ q hq=> ?_⟩;refine ⟨_,zr,_,zr,_,_,zr,zr,?_⟩;have s5:=qb (o:=HO.lst [V.ref t]) hq;refine ⟨q,_,[.ref t],rfl,rfl,SqL.of q0,(λ z=>nomatch z),by omega,by omega,by show 1<=1000;decide,λ u hu=> ?_⟩;have s6:=qb (o:=HO.lst (List.replicate ((n:Int) - (0+(0:Nat))).toNat [V.ref t]).flatten) hu;have a0:((n:Int) - (0+((0:Nat):Int))).toNat=n:=by omega
   have lr:(List.replicate n [V.ref t]).flatten.length=n:=by
    rw [List.length_flatten,List.map_replicate,List.sum_replicate_nat];show n*1=n;omega
   rw [a0] at s6 ⊢;refine ⟨l,u,_,_,rfl,rfl,(s5.trans s6) _ _ O,q0,by rw [lr];exact z3j (show 1+n<=1000 by omega) (by decide),λ r a2=> ?_⟩;refine k r _ _ ((S3.trans s4).trans ((s5.trans s6).trans (qb a2))) q0 ?_;rw [z1f,lr];exact Nat.add_comm 1 n
  ·rintro σ J ⟨rfl,rfl,rfl⟩;exact ⟨_,zr,k l _ _ S3 Y rfl⟩
def SameBut (d:Addr) (H H':Hp):Prop:=∀ b o,b≠d ->H b=some o ->H' b=some o
theorem SameBut.trans {d:Addr} {H H1 H2:Hp} (a:SameBut d H H1) (b:SameBut d H1 H2):SameBut d H H2:=λ c o n e=>b c o n (a c o n e)
theorem Same.but {d:Addr} {H H':Hp} (s:Same H H'):SameBut d H H':=λ b o _ e=>s b o e
theorem SameBut.upd (d:Addr) (H:Hp) (o:HO):SameBut d H (upd H d o):=λ b u n e=>by rw [qd n];exact e
def q24 (H H':Hp):Prop:=∀ b ys,H b=some (.tup ys) ->H' b=some (.tup ys)
theorem Same.keepT {H H':Hp} (s:Same H H'):q24 H H':=λ b ys e=>s b _ e
abbrev Tab:=List (List Str×Int)
def encI (W:Tab):List (List Str×V):=W.map λ kv=>(kv.1,V.int kv.2)
def encD (W:Tab):HO:= .dT ((encI W).map λ kv=>(kv.1.map Sum.inr,kv.2))
def getA (W:Tab) (k:List Str):Option Int:=(W.find? λ kv=>decide (kv.1=k)).map (·.2)
def putA (W:Tab) (k:List Str) (v:Int):Tab:=if (W.any λ kv=>decide (kv.1=k))=true then W.map (λ kv=>if kv.1=k then (kv.1,v) else kv) else W++ [(k,v)]
def addA (W:Tab) (k:List Str) (v:Int):Tab:=putA W k ((getA W k).getD 0+v)
theorem qdk {a b:List Str}:a.map (Sum.inr:Str ->Key)=b.map Sum.inr↔a=b:=by
 constructor
 ·intro h;exact List.map_inj_right (λ x y e=>Sum.inr.inj e) |>.mp h
 ·intro h;rw [h]
theorem qso (a b:List Str):decide (a.map (Sum.inr:Str ->Key)=b.map Sum.inr)=decide (a=b):=decide_eq_decide.mpr qdk
theorem qh8 (W:Tab) (k:List Str):valV ((encI W).map λ J=>(J.1.map (Sum.inr:Str ->Key),J.2)) (k.map Sum.inr)=(getA W k).map V.int:=by
 unfold valV getA encI
 induction W with
 | nil=>rfl
 | cons p W ih=>
  rw [z35,z35];by_cases e:p.1=k
  ·rw [z0o (by rw [e];simp),z0o (by simpa using e)];rfl
  ·rw [z0p (by simpa using λ q=>e (qdk.mp q)),z0p (by simpa using e)];exact ih
theorem qpl (W:Tab) (k:List Str) (v:Int):putK ((encI W).map λ J=>(J.1.map (Sum.inr:Str ->Key),J.2)) (k.map Sum.inr) (V.int v)=(encI (putA W k v)).map λ J=>(J.1.map Sum.inr,J.2):=by
 unfold putK putA encI;have e1:((List.map (λ J:List Str×V=>(J.1.map (Sum.inr:Str ->Key),J.2)) (W.map λ J=>(J.1,V.int J.2))).any λ J=>decide (J.1=k.map Sum.inr))=W.any λ J=>decide (J.1=k):=by
  rw [List.any_map,List.any_map]
  congr 1
  funext J
  exact qso J.1 k
 rw [e1];split
 ·rw [z3p,z3p,z3p,z3p];refine z19 λ J _=> ?_;show (if J.1.map (Sum.inr:Str ->Key)=k.map Sum.inr then (J.1.map Sum.inr,V.int v) else (J.1.map Sum.inr,V.int J.2))=_;by_cases h:J.1=k
  ·rw [if_pos (by rw [h])];show _=(((if J.1=k then (J.1,v) else J).1).map Sum.inr,V.int (if J.1=k then (J.1,v) else J).2);rw [if_pos h]
  ·rw [if_neg (λ q=>h (qdk.mp q))];show _=(((if J.1=k then (J.1,v) else J).1).map Sum.inr,V.int (if J.1=k then (J.1,v) else J).2);rw [if_neg h]
 ·rw [z2t,z2t];rfl
theorem qsp (W:Tab) (k j:List Str) (v:Int):getA (putA W k v) j=if j=k then some v else getA W j:=by
 have h:=q2o (κ:=List Str) (encI W) k j (V.int v);have e:∀ W:Tab,valV (κ:=List Str) (encI W) j=(getA W j).map V.int:=λ W=>by
  unfold valV getA encI
  induction W with
  | nil=>rfl
  | cons p W ih=>
   rw [z35];by_cases e:p.1=j
   ·rw [z0o (by simpa using e),z0o (by simpa using e)];rfl
   ·rw [z0p (by simpa using e),z0p (by simpa using e)];exact ih
 have e2:putK (encI W) k (V.int v)=encI (putA W k v):=by
  unfold putK putA encI;rw [List.any_map];show (if (W.any λ J=>decide (J.1=k))=true then _ else _)=_;split
  ·rw [z3p,z3p];refine z19 λ J _=> ?_;show (if J.1=k then (J.1,V.int v) else (J.1,V.int J.2))=((if J.1=k then (J.1,v) else J).1,V.int (if J.1=k then (J.1,v) else J).2);split <;> rfl
  ·rw [z2t];rfl
 rw [e2,e,e] at h;by_cases L:j=k
 ·rw [if_pos L] at h ⊢;cases q:getA (putA W k v) j with
  | none=>rw [q] at h;cases h
  | some n=>rw [q] at h;simpa using h
 ·rw [if_neg L] at h ⊢;cases q:getA (putA W k v) j with
  | none=>
   rw [q] at h;cases r:getA W j with
   | none=>rfl
   | some n=>rw [r] at h;cases h
  | some n=>
   rw [q] at h;cases r:getA W j with
   | none=>rw [r] at h;cases h
   | some m=>rw [r] at h;simpa using h
theorem qsq (W:Tab) (k j:List Str) (v:Int):(getA (addA W k v) j).getD 0=(getA W j).getD 0+if j=k then v else 0:=by
 unfold addA;rw [qsp];by_cases h:j=k
 ·subst h;rw [if_pos rfl,if_pos rfl];rfl
 ·rw [if_neg h,if_neg h,Int.add_zero]
theorem qbe (W:Tab) (k:List Str) (v:Int):(putA W k v).map (·.1)=if k∈W.map (·.1) then W.map (·.1) else W.map (·.1)++ [k]:=by
 unfold putA;have e:(W.any λ J=>decide (J.1=k))=decide (k∈W.map (·.1)):=by
  rw [z2n,z2e,decide_eq_true_iff,z3n]
  constructor
  ·rintro ⟨p,L,h⟩;exact ⟨p,L,of_decide_eq_true h⟩
  ·rintro ⟨p,L,h⟩;exact ⟨p,L,z2y h⟩
 rw [e];by_cases h:k∈W.map (·.1)
 ·rw [if_pos (z2y h),if_pos h,z3p];refine z19 λ J _=> ?_;show (if J.1=k then (J.1,v) else J).1=J.1;split <;> rfl
 ·rw [if_neg (by simpa using h),if_neg h,z2t];rfl
theorem qut {W:Tab} (h:(W.map (·.1)).Nodup) (k:List Str) (v:Int):((putA W k v).map (·.1)).Nodup:=by
 rw [qbe];split
 ·exact h
 ·rename_i hk;exact qj4 h hk
theorem qsr {W:Tab} {k:List Str} {v:Int} {j:List Str}:j∈(putA W k v).map (·.1)↔j∈W.map (·.1)\/ j=k:=by
 rw [qbe];split
 ·rename_i hk
  constructor
  ·exact .inl
  ·rintro (h | rfl)
   ·exact h
   ·exact hk
 ·rw [z2i,z1d]
theorem qss (W:Tab) (k:List Str) (v:Int):(putA W k v).length<=W.length+1:=by
 have:(putA W k v).length=((putA W k v).map (·.1)).length:=by rw [z2o]
 rw [this,qbe];split
 ·rw [z2o];omega
 ·rw [z1f,z2o];exact z3q _
def told (W:Tab):Tab:=((Tim.srt q1z (W.map (·.1))).map λ k=>(k,(getA W k).getD 0)).filter λ kv=>decide (0 < kv.2)
def qww (kv:List Str×Int):PyData:= .tuple [.tuple (kv.1.map .str),.int kv.2]
def whyD (W:Tab):List PyData:=W.map qww
theorem q2f {α β:Type} {F:α ->β ->Prop} {x:α} {y:β}:∀ {xs:List α} {ys:List β},Paired F xs ys ->F x y ->Paired F (xs++ [x]) (ys++ [y])
 | _,_,.nil,h=> .cons h .nil
 | _,_,.cons a b,h=> .cons a (q2f b h)
def PlAt (H:Hp) (x:V) (kv:List Str×Int):Prop:=∃ q b,x= .ref q/\H q=some (.tup [.ref b,.int kv.2])/\H b=some (.tup (kv.1.map V.str))
theorem PlAt.keep {H H':Hp} {x:V} {J:List Str×Int} (h:PlAt H x J) (s:q24 H H'):PlAt H' x J:=by
 obtain ⟨q,b,e,h1,h2⟩:=h;exact ⟨q,b,e,s _ _ h1,s _ _ h2⟩
theorem q28 {H H':Hp} (s:q24 H H'):∀ {xs:List V} {ps:Tab},Paired (PlAt H) xs ps ->Paired (PlAt H') xs ps
 | _,_,.nil=> .nil
 | _,_,.cons a b=> .cons (a.keep s) (q28 s b)
def gath (ps:Tab):Tab:=ps.foldl (λ W p=>addA W (Tim.srt strLt p.1) p.2) []
theorem qst (o:Option Int):(o.map V.int).getD (V.int 0)=V.int (o.getD 0):=by cases o <;> rfl
theorem qpm {W:Tab} (h:(W.map (·.1)).Nodup) {k:List Str} (hk:k∈W.map (·.1)):∃ n,getA W k=some n/\(k,n)∈W:=by
 obtain ⟨⟨k',n⟩,hp,e⟩:=z3n.mp hk;have e':k'=k:=e;subst e';unfold getA;cases q:W.find? λ kv=>decide (kv.1=k') with
 | none=>
  have:=List.find?_eq_none.mp q _ hp;simp at this
 | some x=>
  have h1:=List.find?_some q;have h2:=z0b q;obtain ⟨x1,x2⟩:=x;have:x1=k':=by simpa using h1
  subst this;exact ⟨x2,zr,h2⟩
theorem qpn {K:PySem.W.Frag} {H:Hp} {b:Addr} {p:List Str} (h:H b=some (.tup (p.map V.str))) (ho:∀ x∈p,PyData.strOk x=true):Dat K H (.tuple (p.map .str)) (.ref b):=by
 refine .tup (SqT.of h) ?_;clear h
 induction p with
 | nil=>exact .nil
 | cons x p ih=>exact .cons (.str x (ho x (z1g ..))) (ih λ y hy=>ho y (z10 _ hy))
theorem qbf {K:PySem.W.Frag} {H:Hp}:∀ {xs:List V} {W:Tab},Paired (PlAt H) xs W ->(∀ L∈W,∀ z∈L.1,PyData.strOk z=true) ->Dats K H (whyD W) xs
 | _,_,.nil,_=> .nil
 | _,_,.cons ⟨q,b,e,h1,h2⟩ r,ok=>by
  subst e;exact .cons (.tup (SqT.of h1) (.cons (qpn h2 (ok _ (z1g ..))) (.cons (.int _) .nil))) (qbf r λ L J=>ok L (z10 _ J))
theorem q7w {α β:Type} {F:α ->β ->Prop}:∀ {l:List α} {k:List β} {i:Nat} {x:α},Paired F l k ->l[i]? =some x ->∃ y,k[i]? =some y/\F x y
 | _,_,_,_,.nil,h=>by simp at h
 | _,_,0,_,.cons a _,h=>by
  simp at h
  subst h;exact ⟨_,zr,a⟩
 | _,_,i+1,x,.cons _ r,h=>by
  obtain ⟨y,e,f⟩:=q7w (i:=i) (x:=x) r (by simpa using h);exact ⟨y,by simpa using e,f⟩
def PairAt (K:PySem.W.Frag) (H:Hp) (x:V) (p:List Str×Int):Prop:=∃ q b,x=V.ref q/\SqT K H q [.ref b,.int p.2]/\(SqL K H b (p.1.map V.str)\/ SqT K H b (p.1.map V.str))
theorem PairAt.same {K:PySem.W.Frag} {H H':Hp} {x:V} {p:List Str×Int} (h:PairAt K H x p) (s:Same H H'):PairAt K H' x p:=by
 obtain ⟨q,b,e,h1,h2⟩:=h;exact ⟨q,b,e,s.seqT h1,h2.imp s.seq s.seqT⟩
theorem q9f (ps:Tab) (p:List Str×Int):gath (ps++ [p])=addA (gath ps) (Tim.srt strLt p.1) p.2:=by
 unfold gath;rw [z24];rfl
theorem q7x:∀ (n:Nat) (ps:Tab),ps.length=n ->((gath ps).map (·.1)).Nodup/\(gath ps).length<=n/\(∀ k,k∈(gath ps).map (·.1)↔k∈ps.map λ p=>Tim.srt strLt p.1)/\
  ∀ k,((getA (gath ps) k).getD 0)=((ps.filter λ p=>decide (Tim.srt strLt p.1=k)).map (·.2)).sum
 | 0,ps,h=>by
  have:ps=[]:=List.eq_nil_of_length_eq_zero h;subst this;exact ⟨z32,z3q _,λ k=>by simp [gath],λ k=>rfl⟩
 | n+1,ps,h=>by
  obtain ⟨J,p,rfl⟩:∃ J p,ps=J++ [p]:=⟨ps.dropLast,ps.getLast (by intro e;rw [e] at h;simp at h),(List.dropLast_concat_getLast _).symm⟩;obtain ⟨h1,h2,h3,h4⟩:=q7x n J (by rw [z1f] at h;simp at h;exact h);rw [q9f];refine ⟨qut h1 _ _,z3j (qss _ _ _) (z2f h2),λ k=> ?_,λ k=> ?_⟩
  ·unfold addA;rw [qsr,h3,z2t,z2i];simp
  ·rw [qsq,h4,z1l,z2t,List.sum_append]
   congr 1
   by_cases e:k=Tim.srt strLt p.1
   ·rw [if_pos e];simp [e]
   ·rw [if_neg e];have:¬ Tim.srt strLt p.1=k:=λ q=>e q.symm;simp [this]
def qpo (K:PySem.W.Frag):Sp:=λ vs H Q _=>∃ (d a:Addr) (W:Tab) (ws:List Str) (n:Int),vs=[.ref d,.ref a,.int n]/\H d=some (encD W)/\(SqL K H a (ws.map V.str)\/ SqT K H a (ws.map V.str))/\W.length < 100000/\
 ∀ H',SameBut d H H' ->H' d=some (encD (addA W (Tim.srt strLt ws) n)) ->Q .non H'
theorem qib (T:Txt K mg):Def P w K mg base 1 "count_in" ["ways_by_product","names","ways"] (qpo K):=by
 refine T.ql8.ok qar (λ vs H Q E h=> ?_) λ f cdv A outer s H vs Q E hr h=> ?_
 ·obtain ⟨d,a,W,ws,n,rfl,_⟩:=h;rfl
 ·obtain ⟨d,a,W,ws,n,rfl,hd,ha,hl,k⟩:=h;refine ⟨_,(q3q
   (qr (i:=3) qar.nd rfl (Or.inl rfl) (q2u (q6g K) rfl T.q4r q3w (pa_1 (ql (qgf K) rfl T.q84 q68 (pa_1 (pv 1))))))
   (q9r (q3d hr) (pv 0) (pv 3) (qk q21 (qg7 (q3d hr) (pv 0) (pv 3) qa ⟨rfl,rfl,rfl,rfl⟩) (pv 2)) rfl)),?_⟩
  refine ⟨_,zr,_,ws,zr,ha,λ l Y=> ?_⟩;have s1:=qb (o:=HO.lst ((Tim.srt strLt ws).map V.str)) Y;refine ⟨_,_,zr,.inl ⟨SqL.of q0,λ t ht=> ?_⟩⟩;have Z:=qb (o:=HO.tup ((Tim.srt strLt ws).map V.str)) ht;have J:=Z _ _ (s1 _ _ hd);have O:upd (upd H l (.lst ((Tim.srt strLt ws).map V.str))) t (.tup ((Tim.srt strLt ws).map V.str)) t=some (.tup (((Tim.srt strLt ws).map (Sum.inr:Str ->Key)).map kV)):=by
   rw [q0,qdf]
  have L:DGet (upd (upd H l (.lst ((Tim.srt strLt ws).map V.str))) t (.tup ((Tim.srt strLt ws).map V.str))) d (.ref t) ((getA W (Tim.srt strLt ws)).map V.int):=by
   rw [<- qh8];exact DGet.t J O
  refine ⟨_,zr,_,zr,.inr ⟨_,.inl J⟩,_,zr,_,L,_,zr,(getA W (Tim.srt strLt ws)).getD 0,n,qst _,zr,?_⟩;refine ⟨_,rfl,_,rfl,d,_,rfl,DPut.t J O (by rw [z2o];unfold encI;rw [z2o];exact z1i hl (by decide)),?_⟩;refine k _ ((Same.but (s1.trans Z)).trans (SameBut.upd d _ _)) ?_;rw [q0,qpl];rfl
def qsu (K:PySem.W.Frag):Sp:=λ vs H Q _=>∃ (d:Addr) (W:Tab),vs=[.ref d]/\H d=some (encD W)/\(W.map (·.1)).Nodup/\W.length < 100000/\(∀ kv∈W,∀ x∈kv.1,PyData.strOk x=true)/\
 ∀ l zs H',Same H H' ->H' l=some (.lst zs) ->H l=none ->(∀ H2,q24 H' H2 ->Paired (PlAt H2) zs (told W)) ->Q (.ref l) H'
theorem qdl (T:Txt K mg):Def P w K mg base 1 "told_as_why" ["ways_by_product"] (qsu K):=by
 refine T.qf5.ok qdj (λ vs H Q E h=> ?_) λ f cdv A outer s H vs Q E hr h=> ?_
 ·obtain ⟨d,W,rfl,_⟩:=h;rfl
 ·obtain ⟨d,W,rfl,hd,b0,b4,hok,k⟩:=h;refine ⟨_,(qg (qi (q20 (N:=["product","ways_by_product"]) (caps:=[none,some 0]) rfl (by with_unfolding_all rfl) (q14 K (ql (qgh hr.units rfl K) rfl T.q84 q68 (pa_1 (pv 0)))) (λ _ _ _ _ _=>(qh (i:=0) (show (["product","ways_by_product"]:List Str).Nodup by decide+kernel) rfl (Or.inl rfl))) (λ _ _ _ _ _=>qg8 (q1a qff (q6w (q3d hr) (pv 1) (pv 0) (λ _ _=>rfl)) qa (q17 _))) (λ _ _ _ _ _=>(q1n (pa_2 (pv 0) (q6w (q3d hr) (pv 1) (pv 0) (λ _ _=>rfl)))))))),?_⟩;refine ⟨_,zr,d,encI W,zr,hd,λ l zs hl hz=> ?_⟩;have ek:(encI W).map (·.1)=W.map (·.1):=by unfold encI;rw [z3p];rfl
  rw [ek] at hz;have s1:=qb (o:=HO.lst zs) hl;refine ⟨l,zr,⟨_,SqL.of q0⟩,λ D hD=> ?_⟩;have b1:zs.length=(Tim.srt q1z (W.map (·.1))).length:=Paired.length hz;have hlD:l≠D:=λ e=>by
   rw [e,q0] at hD;cases hD
  have a2:H D=none:=s1.free hD;generalize hS:Tim.srt q1z (W.map (·.1))=S at*;have Z:∀ p∈S,p∈W.map (·.1):=λ p hp=>by
   rw [<- hS] at hp;exact (Tim.q19 q1z _).mem_iff.mp hp
  have a8:S.length<=100000:=by
   rw [<- hS,(Tim.q19 q1z _).length_eq,z2o];omega
  refine q1k zs.length (λ i σ' H'=>(∃ v,σ'=[v,some (.ref d)])/\Same (upd H l (.lst zs)) H'/\∃ ys,H' D=some (.lst ys)/\ys.length<=i/\∀ H2,q24 H' H2 ->Paired (PlAt H2) ys (((S.take i).map λ k=>(k,(getA W k).getD 0)).filter λ O=>decide (0 < O.2))) ⟨⟨_,rfl⟩,qb hD,[],q0,z3t _,λ _ _=> .nil⟩ (λ i σ' H' hi p=> ?_) (λ σ' H' p=>⟨?_,?_⟩) (λ i σ' H' hi p x H2 y=> ?_)
  ·obtain ⟨_,sm,_⟩:=p;exact ⟨_,zs[i],SqL.of (sm _ _ q0),z0c hi⟩
  ·obtain ⟨_,sm,_⟩:=p;exact ⟨_,SqL.of (sm _ _ q0),z3q _⟩
  ·obtain ⟨_,sm,ys,e,_,hy⟩:=p;refine k D ys H' (s1.trans sm) e a2 λ H2 h2=> ?_;have:=hy H2 h2;rw [b1,z2h] at this;unfold told;rw [hS];exact this
  ·obtain ⟨⟨v,rfl⟩,sm,ys,e,a7,hy⟩:=p;obtain ⟨rfl,hx⟩:=y;have b3:=hx _ (SqL.of (sm _ _ q0));obtain ⟨pr,a5,b,rfl,hb⟩:=q7w hz b3;have a6:pr∈S:=z12 a5;obtain ⟨n,hn,b5⟩:=qpm b0 (Z pr a6);have a3:=sm _ _ (s1 _ _ hb);have L:∀ {G:Hp},Same H2 G ->DGet G d (.ref b) (some (.int n)):=λ {G} sg=>by
    have e1:(some (V.int n))=valV ((encI W).map λ O=>(O.1.map (Sum.inr:Str ->Key),O.2)) (pr.map Sum.inr):=by rw [qh8,hn];rfl
    rw [e1];exact DGet.t (sg _ _ (sm _ _ (s1 _ _ hd))) (by rw [qdf];exact sg _ _ a3)
   have J:((S.take (i+1)).map λ k=>(k,(getA W k).getD 0)).filter (λ O=>decide (0 < O.2))=((S.take i).map λ k=>(k,(getA W k).getD 0)).filter (λ O=>decide (0 < O.2))++(if 0 < n then [(pr,n)] else []):=by
    rw [z33,a5,z2t,z1l]
    congr 1
    show List.filter _ [(pr,(getA W pr).getD 0)]=_;rw [hn];show List.filter _ [(pr,n)]=_;by_cases h:0 < n
    ·rw [if_pos h];simp [h]
    ·rw [if_neg h];simp [h]
   refine ⟨_,zr,_,zr,d,_,zr,L (Same.refl _),_,_,zr,zr,_,zr,ite2 (λ h1=> ?_) (λ h1=> ?_)⟩
   ·have Y:0 < n:=of_decide_eq_true h1;refine ⟨_,rfl,_,rfl,_,rfl,d,_,rfl,L (Same.refl _),by show 2<=sizeLine;decide,λ q hq=> ?_⟩;have s3:=qb (o:=HO.tup [.ref b,.int n]) hq;have b2:q≠D:=λ z=>by
     rw [z,e] at hq;cases hq
    refine ⟨_,s3 _ _ e,Nat.lt_of_le_of_lt a7 (z1i (show i < 1000000 by omega) (by decide)),⟨_,rfl⟩,?_,ys++ [.ref q],q0,by rw [z1f];exact z2f a7,λ H4 h4=> ?_⟩
    ·exact (sm.trans s3).set hD
    ·rw [J,if_pos Y];have a9:b≠D:=λ z=>by
      rw [z,a2] at hb;cases hb
     exact q2f (hy H4 λ b' o' a0=>h4 b' o' (by rw [qd (λ z=>by rw [z,e] at a0;cases a0)];exact s3 _ _ a0)) ⟨q,b,rfl,h4 q _ (by rw [qd b2,q0]),h4 b _ (by rw [qd a9];exact s3 _ _ a3)⟩
   ·have Y:¬ 0 < n:=λ h=>h1 (z2y h);refine ⟨⟨_,zr⟩,sm,ys,e,by omega,λ H4 h4=> ?_⟩;rw [J,if_neg Y,z2p];exact hy H4 h4
def qsv (K:PySem.W.Frag):Sp:=λ vs H Q _=>∃ (a:Addr) (xs:List V) (ps:Tab),vs=[.ref a]/\SqL K H a xs/\Paired (PairAt K H) xs ps/\ps.length < 100000/\(∀ p∈ps,∀ x∈p.1,PyData.strOk x=true)/\
 ∀ l zs H',Same H H' ->H' l=some (.lst zs) ->H l=none ->(∀ H2,q24 H' H2 ->Paired (PlAt H2) zs (told (gath ps))) ->Q (.ref l) H'
theorem qic (T:Txt K mg):Def P w K mg base 2 "gathered" ["pairs"] (qsv K):=by
 refine T.qla.ok q4v (λ vs H Q E h=> ?_) λ f cdv A outer s H vs Q E hr h=> ?_
 ·obtain ⟨a,xs,ps,rfl,_⟩:=h;rfl
 ·obtain ⟨a,xs,ps,rfl,ha,hp,hl,hok,k⟩:=h;refine ⟨_,(q2z
   (qr (i:=1) q4v.nd rfl (Or.inl rfl) qos)
   (q1s PassesOwn.never rfl (q14 K (pv 0)) (q51 rfl (q13 (qh (i:=2) q4v.nd rfl (Or.inl rfl)) (q13 (qh (i:=3) q4v.nd rfl (Or.inl rfl)) q33))) (qg (q1j (qf (qib T) hr rfl (pa_3 (pv 1) (pv 2) (pv 3))))))
   (qi (qf (qdl T) hr rfl (pa_1 (pv 1))))),?_⟩
  refine λ d hd=> ?_;have s1:=qb (o:=HO.dT []) hd;have a6:xs.length=ps.length:=Paired.length hp;refine ⟨_,zr,a,zr,⟨_,s1.seq ha⟩,q29 (xs:=xs) (λ i σ H'=>Same H H'/\H' d=some (encD (gath (ps.take i)))/\∃ v1 v2,σ=[some (.ref a),some (.ref d),v1,v2]) ⟨s1,q0,_,_,zr⟩ (λ i σ H' _ z=>z.1.seq ha) ?_ ?_⟩
  ·rintro i x σ H' hx ⟨sm,J,v1,v2,rfl⟩;obtain ⟨p,L,a3⟩:=q7w hp hx;obtain ⟨q,b,rfl,hq,hb⟩:=a3.same sm;have il:i < ps.length:=(z06.mp L).1;obtain ⟨_,gl,_,_⟩:=q7x (ps.take i).length (ps.take i) rfl;rw [z25] at gl;refine ⟨_,_,zr,hq,zr,_,_,zr,_,_,zr,zr,?_⟩;refine ⟨_,zr,_,zr,_,zr,d,b,_,p.1,p.2,zr,J,hb,by omega,λ H2 s2 Y=> ?_⟩;refine ⟨λ c o O=>s2 c o (λ z=>by rw [z,hd] at O;cases O) (sm c o O),?_,_,_,rfl⟩;rw [z33,L];show H2 d=some (encD (gath (ps.take i++ [p])));rw [q9f];exact Y
  ·rintro σ H' ⟨sm,J,v1,v2,rfl⟩;rw [a6,z2h] at J;obtain ⟨g1,g2,g3,g4⟩:=q7x ps.length ps rfl;have a7:∀ k∈(gath ps).map (·.1),∀ x∈k,PyData.strOk x=true:=λ k' hk x hx=>by
    obtain ⟨p,a5,e⟩:=z3n.mp ((g3 k').mp hk);refine hok p a5 x ?_;have:x∈Tim.srt strLt p.1:=by rw [show Tim.srt strLt p.1=k' from e];exact hx
    exact (Tim.q19 strLt p.1).mem_iff.mp this
   refine ⟨_,zr,d,gath ps,zr,J,g1,by omega,λ kv Z=>a7 _ (z3n.mpr ⟨kv,Z,zr⟩),λ l zs H2 s2 a0 a2 hz=>k l zs H2 (sm.trans s2) a0 (sm.free a2) hz⟩
def oneT (ns:List Str):Tab:=ns.map λ n=>([n],(1:Int))
theorem q7y (a b:List Str):oneT (a++b)=oneT a++oneT b:=z2t
theorem qdm (x:Str):Tim.srt strLt [x]=[x]:=(Tim.q8v q34 (List.Perm.refl _) (z0f _ _)).symm
theorem q4q {α:Type} {C:List α ->Prop} (h0:C []) (h1:∀ l x,C l ->C (l++ [x])) (l:List α):C l:=by
 rw [<- List.reverse_reverse l]
 induction l.reverse with
 | nil=>exact h0
 | cons x r ih=>
  rw [List.reverse_cons];exact h1 _ _ ih
theorem qnf (ns:List Str):(oneT ns).map (·.1)=ns.map λ n=>[n]:=by
 unfold oneT;rw [z3p];rfl
theorem qsw {a b:Str} (h: [a]=[b]):a=b:=(List.cons.inj h).1
theorem qpp (ns:List Str):ns.Nodup ->gath (oneT ns)=oneT ns:=by
 refine q4q (C:=λ ns=>ns.Nodup ->gath (oneT ns)=oneT ns) (λ _=>rfl) (λ l x ih nd=> ?_) ns;obtain ⟨n1,_,n3⟩:=z22.mp nd;have hx:x∉l:=λ h=>n3 x h x (z1d.mpr rfl) rfl;have nk:∀ L∈oneT l,L.1≠ [x]:=λ L J e=>by
  obtain ⟨y,hy,rfl⟩:=z3n.mp J;exact hx (qsw e ▸ hy)
 rw [q7y,show oneT [x]=[([x],(1:Int))] from rfl,q9f,ih n1,qdm];show putA (oneT l) [x] ((getA (oneT l) [x]).getD 0+1)=_;have h1:getA (oneT l) [x]=none:=by
  unfold getA;rw [List.find?_eq_none.mpr (λ L J=>by simpa using nk L J)];rfl
 rw [h1];unfold putA;rw [if_neg (λ z=>by
  obtain ⟨L,J,e⟩:=z2e.mp z;exact nk L J (of_decide_eq_true e))]
 rfl
theorem qpq {ns:List Str} {x:Str} (h:x∈ns):getA (oneT ns) [x]=some 1:=by
 unfold getA;cases q:(oneT ns).find? λ J=>decide (J.1=[x]) with
 | none=>
  have:=List.find?_eq_none.mp q ([x],1) (z3n.mpr ⟨x,h,rfl⟩);simp at this
 | some J=>
  obtain ⟨y,_,rfl⟩:=z3n.mp (z0b q);rfl
theorem qpr (ns:List Str):Tim.srt q1z (ns.map λ n=>[n])=(Tim.srt strLt ns).map λ n=>[n]:=by
 refine (Tim.q8v qb7 ((Tim.q19 strLt ns).map _) ?_).symm;rw [List.pairwise_map];refine (Tim.qde q34 ns).imp λ {a b} h=> ?_;show Tim.lexB strLt [b] [a]=false;rw [Tim.lexB];split
 ·rfl
 ·exact h
theorem qps {ns:List Str} (nd:ns.Nodup):told (gath (oneT ns))=oneT (Tim.srt strLt ns):=by
 rw [qpp ns nd];unfold told;rw [qnf,qpr,z3p];have e:((Tim.srt strLt ns).map ((λ k=>(k,(getA (oneT ns) k).getD 0))∘λ n=>[n]))=oneT (Tim.srt strLt ns):=by
  refine z19 λ x hx=> ?_;show ([x],(getA (oneT ns) [x]).getD 0)=([x],1);rw [qpq ((Tim.q19 strLt ns).mem_iff.mp hx)];rfl
 rw [e,List.filter_eq_self.mpr];intro kv J;obtain ⟨y,_,rfl⟩:=z3n.mp J;exact z2y (show (0:Int) < 1 by decide)
theorem qpt {ns:List Str} {m:Str} (nd:(ns++ [m]).Nodup):told (gath (oneT (Tim.srt strLt ns)++oneT [m]))=oneT (Tim.srt strLt (ns++ [m])):=by
 have p:(Tim.srt strLt ns++ [m]).Perm (ns++ [m]):=(Tim.q19 strLt ns).append_right [m];rw [<- q7y,qps (p.nodup_iff.mpr nd)]
 congr 1
 exact Tim.q8v q34 ((Tim.q19 strLt _).trans p) (Tim.qde q34 _)
theorem paired_app {α β:Type} {F:α ->β ->Prop}:∀ {xs J:List α} {ys L:List β},Paired F xs ys ->Paired F J L ->Paired F (xs++J) (ys++L)
 | _,_,_,_,.nil,h=>h
 | _,_,_,_,.cons a b,h=> .cons a (paired_app b h)
theorem qel {K:PySem.W.Frag} {H:Hp}:∀ {xs:List V} {W:Tab},Paired (PlAt H) xs W ->Paired (PairAt K H) xs W
 | _,_,.nil=> .nil
 | _,_,.cons ⟨q,b,e,h1,h2⟩ r=> .cons ⟨q,b,e,SqT.of h1,.inr (SqT.of h2)⟩ (qel r)
inductive By where
 | grow
 | cost
def clsB (mg:Str ->Option Value):By ->Addr
 | .grow=>cA mg "Growing"
 | .cost=>cA mg "Costs"
def ByAt (mg:Str ->Option Value) (H:Hp) (o:Addr) (k:By):Prop:=∃ dx,H o=some (.ins (clsB mg k) dx [])
theorem ByAt.same {mg:Str ->Option Value} {H H':Hp} {o:Addr} {k:By} (s:Same H H') (h:ByAt mg H o k):ByAt mg H' o k:=by
 obtain ⟨dx,e⟩:=h;exact ⟨dx,s _ _ e⟩
abbrev FE:=Str×Option Int
def q18:Option Int ->V
 | none=> .non
 | some i=> .int i
def minO:Option Int ->Option Int ->Option Int
 | none,y=>y
 | x,none=>x
 | some i,some j=>some (if j < i then j else i)
def qu (l:List (Option Int)):Option Int:=l.foldl minO none
def NewV (H:Hp) (x:V):Prop:=∀ p,x= .ref p ->H p=none
def WtV (H:Hp) (k:By) (L:List FE) (v:V):Prop:=
 match k with
 | .grow=>∃ l zs,v= .ref l/\H l=some (.lst zs)/\Paired (PlAt H) zs (oneT (Tim.srt strLt (L.map (·.1))))
 | .cost=>v=q18 (qu (L.map (·.2)))
theorem WtV.same {H H':Hp} {k:By} {L:List FE} {v:V} (s:Same H H') (h:WtV H k L v):WtV H' k L v:=by
 cases k with
 | grow=>
  obtain ⟨l,zs,e,h1,h2⟩:=h;exact ⟨l,zs,e,s _ _ h1,q28 (Same.keepT s) h2⟩
 | cost=>exact h
theorem WtV.put {H:Hp} {k:By} {L:List FE} {v:V} {D:Addr} {o:HO} (h:WtV H k L v) (n1:∀ ys,H D≠some (.lst ys)) (n2:∀ ys,H D≠some (.tup ys)):WtV (upd H D o) k L v:=by
 cases k with
 | grow=>
  obtain ⟨l,zs,e,h1,h2⟩:=h;refine ⟨l,zs,e,?_,q28 (λ b ys J=> ?_) h2⟩
  ·rw [qd (λ z:l=D=>n1 zs (z ▸ h1))];exact h1
  ·rw [qd (λ z:b=D=>n2 ys (z ▸ J))];exact J
 | cost=>exact h
theorem qsx (T:Txt K mg):Def P w K mg base 3 "plus" ["one","other"] (λ vs H Q _=>∃ (a b:Addr) (xs ys:List V) (A B:Tab),vs=[.ref a,.ref b]/\H a=some (.lst xs)/\H b=some (.lst ys)/\Paired (PlAt H) xs A/\Paired (PlAt H) ys B/\A.length<=10000/\B.length<=10000/\(∀ p∈A++B,∀ x∈p.1,PyData.strOk x=true)/\
 ∀ l zs H',Same H H' ->H' l=some (.lst zs) ->H l=none ->(∀ H2,q24 H' H2 ->Paired (PlAt H2) zs (told (gath (A++B)))) ->Q (.ref l) H'):=by
 refine T.qvr.ok qsa (λ vs H Q E h=> ?_) λ f cdv A outer s H vs Q E hr h=> ?_
 ·obtain ⟨a,b,xs,ys,A,B,rfl,_⟩:=h;rfl
 ·obtain ⟨a,b,xs,ys,A,B,rfl,ha,hb,L,O,la,lb,hok,k⟩:=h;refine ⟨_,(qg (qi (qf (qic T) hr rfl (pa_1 (qk qg5 (pv 0) (pv 1)))))),?_⟩;have l1:=Paired.length L;have l2:=Paired.length O;refine ⟨_,rfl,_,rfl,_,_,_,_,rfl,rfl,ha,hb,z3j (show xs.length+ys.length<=1000000 by omega) (by decide),λ p hp=> ?_⟩;have s1:=qb (o:=HO.lst (xs++ys)) hp;refine ⟨p,_,A++B,rfl,SqL.of q0,qel (q28 (Same.keepT s1) (paired_app L O)),by rw [z1f];omega,hok,λ l zs H' s2 hl J hz=> ?_⟩;exact k l zs H' (s1.trans s2) hl (s1.free J) hz
def ql2 (mg:Str ->Option Value) (k:By):Sp:=λ vs H Q _=>∃ o,vs=[.ref o]/\ByAt mg H o k/\∀ z H',Same H H' ->NewV H z ->WtV H' k [] z ->Q z H'
def ql3 (mg:Str ->Option Value) (k:By):Sp:=λ vs H Q _=>∃ (o:Addr) (x y:V) (L:List FE) (e:FE),vs=[.ref o,x,y]/\ByAt mg H o k/\WtV H k L x/\WtV H k [e] y/\(L.map (·.1)++ [e.1]).Nodup/\L.length < 50/\(∀ z∈L++ [e],PyData.strOk z.1=true)/\∀ z H',Same H H' ->NewV H z ->WtV H' k (L++ [e]) z ->Q z H'
theorem qa1 (T:Txt K mg):MDef P w K mg base 1 (cA mg "Growing") "nought" ["self"] (ql2 mg .grow):=by
 refine T.qbm.ok qa0 (λ vs H Q E h=> ?_) λ f cdv A outer s H vs Q E hr h=> ?_
 ·obtain ⟨o,rfl,_⟩:=h;rfl
 ·obtain ⟨o,rfl,_,k⟩:=h;refine ⟨_,(qg (qi (q1l q2c))),?_⟩;refine ⟨by decide,λ l hl=>k _ _ (qb hl) (λ q e=>by cases e;exact hl) ⟨l,[],rfl,q0,?_⟩⟩;rw [show Tim.srt strLt (([]:List FE).map (·.1))=[] from (Tim.q19 strLt []).eq_nil];exact .nil
theorem qcn (T:Txt K mg):MDef P w K mg base 1 (cA mg "Costs") "nought" ["self"] (ql2 mg .cost):=by
 refine T.qdq.ok qch (λ vs H Q E h=> ?_) λ f cdv A outer s H vs Q E hr h=> ?_
 ·obtain ⟨o,rfl,_⟩:=h;rfl
 ·obtain ⟨o,rfl,_,k⟩:=h;exact ⟨_,(qg (qi q4z)),k _ _ (Same.refl H) (λ _ e=>nomatch e) rfl⟩
theorem qa2 (T:Txt K mg):MDef P w K mg base 4 (cA mg "Growing") "either" ["self","one","other"] (ql3 mg .grow):=by
 refine T.qbn.ok q5c (λ vs H Q E h=> ?_) λ f cdv A outer s H vs Q E hr h=> ?_
 ·obtain ⟨o,x,y,L,e,rfl,_⟩:=h;rfl
 ·obtain ⟨o,x,y,L,e,rfl,_,⟨a,xs,rfl,ha,pa⟩,⟨b,ys,rfl,hb,Z⟩,nd,ll,hok,k⟩:=h;refine ⟨_,(q2z
   (qr (i:=3) q5c.nd rfl (Or.inl rfl) (qf (qsx T) hr rfl (pa_2 (pv 1) (pv 2))))
   (q1m (q1a qff (ql (q1g K) rfl T.b_len q1u (pa_1 (pv 3))) (qc3 rfl T.qcy) (q17 _)) (qg q7l) q15)
   (qi (pv 3))),?_⟩
  have e1:Tim.srt strLt ([e].map (·.1))=[e.1]:=qdm e.1;rw [e1] at Z;have la:(oneT (Tim.srt strLt (L.map (·.1)))).length=L.length:=by
   unfold oneT;rw [z2o,(Tim.q19 _ _).length_eq,z2o]
  refine ⟨_,rfl,_,rfl,a,b,xs,ys,_,_,rfl,ha,hb,pa,Z,by omega,(by decide:1<=10000),λ p Y x hx=> ?_,λ l zs H1 s1 hl O J=> ?_⟩
  ·rw [<- q7y] at Y;obtain ⟨n,hn,rfl⟩:=z3n.mp Y;obtain rfl:=z1d.mp hx;rcases z2i.mp hn with h | h
   ·obtain ⟨z,J,rfl⟩:=z3n.mp ((Tim.q19 _ _).mem_iff.mp h);exact hok z (z11 _ J)
   ·obtain rfl:=z1d.mp h;exact hok e (z0s _ (z1d.mpr rfl))
  ·have J:=J H1 (λ _ _ h=>h);rw [qpt nd] at J;have lz:=J.length;have e2:oneT (Tim.srt strLt (L.map (·.1)++ [e.1]))=oneT (Tim.srt strLt ((L++ [e]).map (·.1))):=by rw [z2t];rfl
   have lz2:zs.length=L.length+1:=by
    rw [lz];unfold oneT;rw [z2o,(Tim.q19 _ _).length_eq,z1f,z2o];rfl
   refine ⟨_,zr,_,_,zr,.inl ⟨_,SqL.of hl,zr⟩,_,_,zr,zr,_,zr,q1d (z2k (by omega)) ?_⟩;refine ⟨_,rfl,k _ _ s1 (λ q e=>by cases e;exact O) ⟨l,zs,rfl,hl,?_⟩⟩;rw [<- e2];exact J
theorem qco (T:Txt K mg):MDef P w K mg base 1 (cA mg "Costs") "either" ["self","one","other"] (ql3 mg .cost):=by
 refine T.qds.ok qci (λ vs H Q E h=> ?_) λ f cdv A outer s H vs Q E hr h=> ?_
 ·obtain ⟨o,x,y,L,e,rfl,_⟩:=h;rfl
 ·obtain ⟨o,x,y,L,e,rfl,_,hx,hy,_,_,_,q⟩:=h;have hx:x=q18 (qu (L.map (·.2))):=hx;have hy:y=q18 (qu [e.2]):=hy;have ee:qu [e.2]=e.2:=by cases e.2 <;> rfl
  have el:qu ((L++ [e]).map (·.2))=minO (qu (L.map (·.2))) e.2:=by
   unfold qu;rw [z2t,z24];rfl
  rw [ee] at hy;have q:∀ z,z=q18 (minO (qu (L.map (·.2))) e.2) ->Q z H:=λ z J=>q z H (Same.refl H) (λ p ep=>by
   rw [J] at ep;cases h:minO (qu (L.map (·.2))) e.2 <;> rw [h] at ep <;> cases ep) (by rw [J,<- el];rfl)
  subst hx hy;refine ⟨_,(q2z
   (q1m (q1a qfz (pv 1) q4z (q17 _)) (qg (qi (pv 2))) q15)
   (q1m (q1a qfz (pv 2) q4z (q17 _)) (qg (qi (pv 1))) q15)
   (qi (ql (qm1 rfl) rfl T.b_min qmj (pa_2 (pv 1) (pv 2))))),?_⟩
  generalize qu (L.map (·.2))=m at*;generalize e.2=n at*;cases m with
  | none=>exact ⟨_,rfl,rfl,_,rfl,q3v rfl ⟨_,rfl,q _ rfl⟩⟩
  | some i=>
   cases n with
   | none=>exact ⟨_,rfl,rfl,_,rfl,q1d rfl ⟨_,rfl,rfl,_,rfl,q3v rfl ⟨_,rfl,q _ rfl⟩⟩⟩
   | some j=>exact ⟨_,rfl,rfl,_,rfl,q1d rfl ⟨_,rfl,rfl,_,rfl,q1d rfl ⟨_,rfl,_,rfl,_,_,rfl,q _ rfl⟩⟩⟩
theorem qng (T:Txt K mg) (k:By):Cls K (clsB mg k):=by
 cases k with
 | grow=>exact T.qlg
 | cost=>exact T.qhm
theorem qnh (T:Txt K mg) (k:By):MDef P w K mg base 1 (clsB mg k) "nought" ["self"] (ql2 mg k):=by
 cases k with
 | grow=>exact qa1 T
 | cost=>exact qcn T
theorem qni (T:Txt K mg) (k:By):MDef P w K mg base 4 (clsB mg k) "either" ["self","one","other"] (ql3 mg k):=by
 cases k with
 | grow=>exact qa2 T
 | cost=>exact MDef.mono (qco T) (by decide)
def evs (cf:Str ->Option Int) (p:PR) (l:List FT):List FE:=(l.filter λ f=>decide (f.2=p)).map λ f=>(f.1,cf f.1)
theorem qh9 (cf:Str ->Option Int) (p:PR) (l:List FT) (f:FT):evs cf p (l++ [f])=evs cf p l++(if f.2=p then [(f.1,cf f.1)] else []):=by
 unfold evs;rw [z1l,z2t]
 congr 1
 by_cases h:f.2=p
 ·rw [if_pos h,List.filter_cons_of_pos (by simpa using h)];rfl
 ·rw [if_neg h,List.filter_cons_of_neg (by simpa using h)];rfl
theorem q9x (cf:Str ->Option Int) (p:PR) (l:List FT):(evs cf p l).length<=l.length:=by
 unfold evs;rw [z2o];exact List.length_filter_le _ _
theorem qnj (cf:Str ->Option Int) (p:PR) (l:List FT):((evs cf p l).map (·.1)).Sublist (l.map (·.1)):=by
 unfold evs;rw [z3p];exact List.filter_sublist.map _
theorem qdn {cf:Str ->Option Int} {p:PR} {l:List FT} {e:FE} (h:e∈evs cf p l):∃ f∈l,f.1=e.1:=by
 obtain ⟨f,hf,rfl⟩:=z3n.mp h;exact ⟨f,(z2l.mp hf).1,zr⟩
structure Sm (H H':Hp) (k:By) (cf:Str ->Option Int) (l:List FT) (kvs:List (PR×V)):Prop where
 nd:(kvs.map (·.1)).Nodup
 ln:kvs.length<=l.length
 at_:∀ p,(valV kvs p=none/\evs cf p l=[])\/ ∃ v,valV kvs p=some v/\evs cf p l≠ []/\NewV H v/\WtV H' k (evs cf p l) v
 gd:∀ p∈kvs.map (·.1),PrGood p
theorem Sm.same {H H' H2:Hp} {k:By} {cf:Str ->Option Int} {l:List FT} {kvs:List (PR×V)} (s:Same H' H2) (h:Sm H H' k cf l kvs):Sm H H2 k cf l kvs:=
 ⟨h.nd,h.ln,λ p=>(h.at_ p).imp id λ ⟨v,a,b,c,d⟩=>⟨v,a,b,c,d.same s⟩,h.gd⟩
theorem NewV.same {H H':Hp} {v:V} (s:Same H H') (h:NewV H' v):NewV H v:=λ p e=>s.free (h p e)
def quu (P:Program) (w:World) (mg:Str ->Option Value):Sp:=λ vs H Q _=>∃ (k:By) (d b:Addr) (v:V) (o:Addr) (kvs:List (PR×V)) (p:PR) (L:List FE) (e:FE),vs=[.ref d,.ref b,v,.ref o]/\DP P w H d kvs/\NAt H (pN p) (.ref b)/\PrGood p/\ByAt mg H o k/\
 ((valV kvs p=none/\L=[])\/ ∃ x,valV kvs p=some x/\WtV H k L x)/\WtV H k [e] v/\(L.map (·.1)++ [e.1]).Nodup/\L.length < 50/\(∀ z∈L++ [e],PyData.strOk z.1=true)/\kvs.length < 1000/\
 ∀ z H1 o',Same H H1 ->NewV H z ->WtV H1 k (L++ [e]) z ->DP P w (upd H1 d o') d (putK kvs p z) ->Q .non (upd H1 d o')
theorem qha (T:Txt K mg):Def P w K mg base 5 "add_worth" ["summed","pair","worth","by"] (quu P w mg):=by
 refine T.qih.ok qgy (λ vs H Q E h=> ?_) λ f cdv A outer s H vs Q E hr h=> ?_
 ·obtain ⟨k,d,b,v,o,kvs,p,L,e,rfl,_⟩:=h;rfl
 ·obtain ⟨k,d,b,v,o,kvs,p,L,e,rfl,hd,Y,g,ho,hv,hw,nd,ll,hok,lk,q⟩:=h;refine ⟨_,(qg (qjk (P:=P) (w:=w) hr.units (pv 0) (pv 1) (qp5 (qni T) (qng T) hr (pv 3) (pa_2 (qpa (P:=P) (w:=w) hr.units (pv 0) (pv 1) (qmy (qnh T) (qng T) hr (pv 3)) ⟨zr,zr,zr,zr⟩) (pv 2))) rfl)),?_⟩;obtain ⟨dx,O⟩:=id ho;refine ⟨_,zr,k,o,dx,[],zr,O,zr,?_⟩;refine ⟨_,zr,d,zr,⟨_,hd⟩,_,zr,_,zr,k,o,dx,[],zr,O,zr,o,zr,ho,λ z0 H1 s1 n0 w0=> ?_⟩;refine ⟨b,_,pN p,zr,hd.same s1,Y.same s1,qcl g,_,zr,?_⟩;rw [valP];have hx:WtV H1 k L ((valV kvs p).getD z0):=by
   rcases hv with ⟨e1,rfl⟩ | ⟨x,e1,hx⟩
   ·rw [e1];exact w0
   ·rw [e1];exact hx.same s1
  refine ⟨o,_,v,L,e,zr,ho.same s1,hx,hw.same s1,nd,ll,hok,λ z H2 s2 n2 w2=> ?_⟩;have J:=s1.trans s2;refine ⟨_,rfl,_,rfl,d,b,_,pN p,rfl,rfl,hd.same J,Y.same J,qcl g,by rw [z2o];exact z1i lk (by decide),λ o' dn=> ?_⟩;rw [putP] at dn;exact q z H2 o' J (n2.same s1) w2 dn
theorem qbg {kvs:List (PR×V)} {p:PR} (h:valV kvs p=none):p∉kvs.map (·.1):=λ hp=>by
 obtain ⟨L,J,e⟩:=z3n.mp hp;have:(kvs.any λ L=>decide (L.1=p))=true:=z2e.mpr ⟨L,J,z2y e⟩;rw [q2n,h] at this;cases this
theorem Sm.put {H G H1:Hp} {k:By} {cf:Str ->Option Int} {l:List FT} {kvs:List (PR×V)} {f:FT} {z:V} {D:Addr} {o':HO} (h:Sm H G k cf l kvs) (s:Same G H1) (sg:Same H G) (L:∀ ys,H1 D≠some (.lst ys)) (O:∀ ys,H1 D≠some (.tup ys)) (J:FGood f) (nz:NewV G z) (wz:WtV H1 k (evs cf f.2 l++ [(f.1,cf f.1)]) z):
  Sm H (upd H1 D o') k cf (l++ [f]) (putK kvs f.2 z):=by
 refine ⟨?_,?_,λ p=> ?_,λ p hp=> ?_⟩
 ·rw [qqr];split
  ·exact h.nd
  ·rename_i hn;have hn:valV kvs f.2=none:=by
    cases q:valV kvs f.2 with
    | none=>rfl
    | some v=>
     rw [q] at hn;exact absurd rfl hn
   exact z22.mpr ⟨h.nd,z2q.mpr ⟨z2g,z32⟩,λ a ha b hb e=>by
    obtain rfl:=z1d.mp hb;exact qbg hn (e ▸ ha)⟩
 ·have:=q1i kvs f.2 z;have:=h.ln;rw [z1f];show _<=l.length+1;omega
 ·rw [q2o,qh9];by_cases e:p=f.2
  ·subst e;rw [if_pos rfl,if_pos rfl];exact .inr ⟨z,zr,(λ q=>by simp at q),nz.same sg,wz.put L O⟩
  ·rw [if_neg e,if_neg (λ q=>e q.symm),z2p];exact (h.at_ p).imp id λ ⟨v,a,b,c,d⟩=>⟨v,a,b,c,(d.same s).put L O⟩
 ·rcases qek hp with h' | h'
  ·exact h.gd p h'
  ·rw [h'];exact ⟨J.tb,J.ln,J.vs⟩
structure WfIn (K:PySem.W.Frag) (mg:Str ->Option Value) (H:Hp) (k:By) (cf:Str ->Option Int) (a o wd:Addr) (fs:List (V×FT)) (ws:List (Key×V)):Prop where
 ls:SqL K H a (fs.map (·.1))
 gd:∀ e∈fs,FV H e/\FGood e.2
 nd:(fs.map (·.2.1)).Nodup
 ln:fs.length<=49
 by_:ByAt mg H o k
 dc:H wd=some (.dK ws)
 at_:∀ e∈fs,∃ v,valV ws (.inr e.2.1)=some v/\WtV H k [(e.2.1,cf e.2.1)] v
theorem WfIn.same {K:PySem.W.Frag} {mg:Str ->Option Value} {H H':Hp} {k:By} {cf:Str ->Option Int} {a o wd:Addr} {fs:List (V×FT)} {ws:List (Key×V)} (s:Same H H') (h:WfIn K mg H k cf a o wd fs ws):WfIn K mg H' k cf a o wd fs ws:=
 ⟨s.seq h.ls,λ e J=>⟨(h.gd e J).1.same s,(h.gd e J).2⟩,h.nd,h.ln,h.by_.same s,s _ _ h.dc,λ e J=>let ⟨v,x,y⟩:=h.at_ e J;⟨v,x,y.same s⟩⟩
def quv (P:Program) (w:World) (K:PySem.W.Frag) (mg:Str ->Option Value):Sp:=λ vs H Q _=>∃ (k:By) (cf:Str ->Option Int) (a o wd:Addr) (fs:List (V×FT)) (ws:List (Key×V)),vs=[.ref a,.ref o,.ref wd]/\WfIn K mg H k cf a o wd fs ws/\
 ∀ D kvs H',Same H H' ->H D=none ->DP P w H' D kvs ->Sm H H' k cf (fs.map (·.2)) kvs ->Q (.ref D) H'
theorem q53 (T:Txt K mg):Def P w K mg base 6 "worths_of_facts" ["facts","by","worths"] (quv P w K mg):=by
 refine T.qa5.ok q26 (λ vs H Q E h=> ?_) λ f cdv A outer s H vs Q E hr h=> ?_
 ·obtain ⟨k,cf,a,o,wd,fs,ws,rfl,_⟩:=h;rfl
 ·obtain ⟨k,cf,a,o,wd,fs,ws,rfl,J,q⟩:=h;refine ⟨_,(q2z
   (qr (i:=3) q26.nd rfl (Or.inl rfl) (qjj (P:=P) (w:=w)))
   (q1s PassesOwn.never rfl (q14 K (pv 0)) (q51 rfl (q13 (qh (i:=4) q26.nd rfl (Or.inl rfl)) (q13 (qh (i:=5) q26.nd rfl (Or.inl rfl)) (q13 (qh (i:=6) q26.nd rfl (Or.inl rfl)) q33)))) (qg (q1j (qf (qha T) hr rfl (pa_4 (pv 3) (q1n (pa_2 (pv 5) (pv 6))) (q6w (q3d hr) (pv 2) (pv 4) (λ _ _=>rfl)) (pv 1))))))
   (qi (pv 3))),?_⟩
  refine λ D o1 hD dn=> ?_;have s1:=qb (o:=o1) hD;have ln:=J.ln;refine ⟨_,rfl,a,rfl,⟨_,s1.seq J.ls⟩,q29 (xs:=fs.map (·.1)) (λ i σ G=>∃ (v2 v3 v4:Option V) (kvs:List (PR×V)),σ=[some (.ref a),some (.ref o),some (.ref wd),some (.ref D),v2,v3,v4]/\Same H G/\DP P w G D kvs/\Sm H G k cf ((fs.map (·.2)).take i) kvs) ⟨none,none,none,[],rfl,s1,dn,⟨z32,z3t _,λ p=> .inl ⟨rfl,rfl⟩,λ _ z=>nomatch z⟩⟩ (λ i σ G _ z=> ?_) ?_ ?_⟩
  ·obtain ⟨_,_,_,_,_,z,_⟩:=z;exact z.seq J.ls
  ·rintro i x σ G hx ⟨v2,v3,v4,kvs,rfl,sg,hG,sm⟩;rw [z1s] at hx;obtain ⟨e,O,rfl⟩:=z0m.mp hx;have he:=z12 O;have il:=(z06.mp O).1;obtain ⟨fv,fg⟩:=J.gd e he;obtain ⟨p,pq,ep,hp,hq⟩:=fv;obtain ⟨v,hv,wv⟩:=J.at_ e he;have a3:(fs.map (·.2))[i]? =some e.2:=by rw [z1s,O];rfl
   have ht:(fs.map (·.2)).take (i+1)=(fs.map (·.2)).take i++ [e.2]:=by rw [z33,a3];rfl
   refine ⟨p,_,ep,SqT.of (sg _ _ hp),zr,_,_,zr,_,_,zr,_,_,zr,zr,?_⟩;refine ⟨_,rfl,⟨_,rfl,_,rfl,by show 2<=sizeLine;decide,λ b hb=> ?_⟩⟩;have Y:=qb (o:=HO.tup [V.str e.2.2.1,.ref pq]) hb;have Z:=sg.trans Y;have pg:PrGood e.2.2:=⟨fg.tb,fg.ln,fg.vs⟩;refine ⟨_,rfl,_,rfl,wd,v,rfl,by rw [<- hv];exact DGet.k (k:= .inr e.2.1) (Z _ _ J.dc),_,rfl,?_⟩;refine ⟨k,D,b,v,o,kvs,e.2.2,evs cf e.2.2 ((fs.map (·.2)).take i),(e.2.1,cf e.2.1),zr,hG.same Y,pr_at.mpr ⟨pq,q0,Z _ _ hq⟩,pg,J.by_.same Z,?_,wv.same Z,?_,?_,λ z hz=> ?_,?_,λ z H1 o' s3 nz wz dz=> ?_⟩
   ·exact (sm.at_ e.2.2).imp id λ ⟨x,a1,_,_,a4⟩=>⟨x,a1,a4.same Y⟩
   ·have h1:=qnj cf e.2.2 ((fs.map (·.2)).take i);have h2:((fs.map (·.2)).take (i+1)).map (·.1)=((fs.map (·.2)).take i).map (·.1)++ [e.2.1]:=by rw [ht,z2t];rfl
    have h3:(((fs.map (·.2)).take (i+1)).map (·.1)).Nodup:=by
     rw [List.map_take,z3p];exact J.nd.sublist (List.take_sublist _ _)
    rw [h2] at h3;exact h3.sublist (h1.append (List.Sublist.refl _))
   ·have:=q9x cf e.2.2 ((fs.map (·.2)).take i);rw [z25] at this;omega
   ·rcases z2i.mp hz with h | h
    ·obtain ⟨f',a2,e'⟩:=qdn h;obtain ⟨e2,a0,rfl⟩:=z3n.mp (z0z a2);rw [<- e'];exact (GoodK.tx (k:= .inr e2.2.1) (J.gd e2 a0).2.nm).2
    ·obtain rfl:=z1d.mp h;exact (GoodK.tx (k:= .inr e.2.1) fg.nm).2
   ·have:=sm.ln;rw [z25] at this;omega
   ·obtain ⟨xs,L,_⟩:=hG.same (Y.trans s3);refine ⟨_,_,_,putK kvs e.2.2 z,zr,(Z.trans s3).set hD,dz,?_⟩;rw [ht];exact sm.put (Y.trans s3) sg (λ ys z=>by rw [L] at z;cases z) (λ ys z=>by rw [L] at z;cases z) fg (nz.same Y) wz
  ·rintro σ G ⟨v2,v3,v4,kvs,rfl,sg,hG,sm⟩;rw [z2o,<- z2o (f:=λ x:V×FT=>x.2),z2h] at sm;exact ⟨_,zr,q D kvs G sg hD hG sm⟩
theorem qhb {f:Str} {v:V}:∀ {fs:List (Str×V)} (ns:List Str),fs.map (·.1)=ns ->ns.contains f=false ->putF f v fs=fs++ [(f,v)]
  | [],_,_,_=>rfl
  | (g,x)::r,[],e,_=>nomatch e
  | (g,x)::r,n::ns,e,h=>by
    injection e with e1 e2;have e1:g=n:=e1;rw [List.contains_cons,Bool.or_eq_false_iff] at h;have ne:¬ g=f:=λ z=>by
      rw [<- e1,z] at h;simp at h
    show (if g=f then (g,v)::r else (g,x)::putF f v r)=_;rw [if_neg ne,qhb ns e2 h.2];rfl
theorem q76 {K:PySem.W.Frag} {J H1:Hp} {p C dx:Addr} {fs:List (Str×V)} {f:Str} {y:V} {N:L2.St ->Hp ->Prop} {σ:L2.St} (ns:List Str) (S1:Same J H1) (L:J p=none) (hp:H1 p=some (.ins C dx fs)) (hc:Cls K C) (hn:NoAttr K C f) (hl:fs.length < 1000) (e:fs.map (·.1)=ns) (nw:ns.contains f=false)
  (h:∀ H2,Same J H2 ->H2 p=some (.ins C dx (fs++ [(f,y)])) ->(∀ a o,a≠p ->H1 a=some o ->H2 a=some o) ->N σ H2):
  ∃ a C dx fs,V.ref p= .ref a/\H1 a=some (.ins C dx fs)/\Cls K C/\NoAttr K C f/\fs.length < 1000/\N σ (upd H1 a (.ins C dx (putF f y fs))):=
 ⟨p,C,dx,fs,rfl,hp,hc,hn,hl,h _ (S1.set L) (by rw [q0,qhb ns e nw]) λ a o n z=>by rw [qd n];exact z⟩
def quw (mg:Str ->Option Value):Sp:=λ vs H Q _=>∃ (H0:Hp) (p dx:Addr) (a b c d:V),vs=[.ref p,a,b,c,d]/\Same H0 H/\H0 p=none/\H p=some (.ins (cA mg "SumsByRule") dx [])/\∀ H',Same H0 H' ->Q .non H'
theorem q9g (T:Txt K mg):MDef P w K mg base 1 (cA mg "SumsByRule") "__init__" ["self","tables","by","ahead","earlier"] (quw mg):=by
 refine T.qa3.ok q9a (λ vs H Q E h=> ?_) λ f cdv A outer s H vs Q E hr h=> ?_
 ·obtain ⟨H0,p,dx,a,b,c,d,rfl,_⟩:=h;rfl
 ·obtain ⟨H0,p,dx,a,b,c,d,rfl,s0,J,hp,k⟩:=h;refine ⟨_,(qkh
   (q6t (pv 0) (pv 1) rfl)
   (q6t (pv 0) (pv 2) rfl)
   (q6t (pv 0) (pv 3) rfl)
   (q6t (pv 0) (pv 4) rfl)
   (q6t (pv 0) q5r rfl)
   (q6t (pv 0) q5r rfl)),?_⟩
  refine ⟨_,zr,_,zr,?_⟩;refine q76 [] s0 J hp T.q2a T.q8g (by show 0 < 1000;decide) rfl rfl λ H1 S1 O _=> ?_;refine ⟨_,zr,_,zr,?_⟩;refine q76 ["tables"] S1 J O T.q2a T.qcv (by show 1 < 1000;decide) rfl (by decide+kernel) λ H2 S2 Y _=> ?_;refine ⟨_,zr,_,zr,?_⟩;refine q76 ["tables","by"] S2 J Y T.q2a T.q9k (by show 2 < 1000;decide) rfl (by decide+kernel) λ H3 S3 Z _=> ?_;refine ⟨_,zr,_,zr,?_⟩;refine q76 ["tables","by","ahead"] S3 J Z T.q2a T.q85 (by show 3 < 1000;decide) rfl (by decide+kernel) λ H4 S4 a0 _=> ?_;refine λ e he=> ?_;have s5:=qb (o:=HO.dK []) he;refine ⟨_,zr,?_⟩;refine q76 ["tables","by","ahead","earlier"] (S4.trans s5) J (s5 _ _ a0) T.q2a T.q8f (by show 4 < 1000;decide) rfl (by decide+kernel) λ H5 S5 a2 _=> ?_;refine λ e2 L=> ?_;have s6:=qb (o:=HO.dK []) L;refine ⟨_,zr,?_⟩;refine q76 ["tables","by","ahead","earlier","stayed"] (S5.trans s6) J (s6 _ _ a2) T.q2a T.q82 (by show 5 < 1000;decide) rfl (by decide+kernel) λ H6 S6 hp6 _=> ?_;exact k H6 S6
theorem q77 (T:Txt K mg):MDef P w K mg base 1 (cA mg "SumsByRule") "sums_of" ["self","rule"] (λ _ _ _ _=>False):=by
 refine T.q83.ok q74 (λ vs H Q E h=>h.elim) λ f cdv A outer s H vs Q E hr h=>h.elim
theorem qid (T:Txt K mg):Def P w K mg base 1 "add_sums" ["summed","sums","table","rows"] (λ _ _ _ _=>False):=by
 refine T.qlh.ok qi8 (λ vs H Q E h=>h.elim) λ f cdv A outer s H vs Q E hr h=>h.elim
theorem qpu {H H':Hp} {A:Addr} (h:Same H H') (o:HO):Same (upd H A o) (upd H' A o):=λ a q e=>by
 by_cases z:a=A
 ·subst z;rw [q0] at e ⊢;exact e
 ·rw [qd z] at e ⊢;exact h a q e
theorem qjt {H:Hp} {A:Addr} {o:HO} (h:H A=some o):upd H A o=H:=by
 funext a
 by_cases z:a=A
 ·subst z;rw [q0,h]
 ·rw [qd z]
theorem WtV.far {H:Hp} {k:By} {L:List FE} {v:V} {D:Addr} {o:HO} (h:WtV H k L v) (n1:v≠ .ref D) (n2:∀ ys,H D≠some (.tup ys)):WtV (upd H D o) k L v:=by
 cases k with
 | grow=>
  obtain ⟨l,zs,e,h1,h2⟩:=h;refine ⟨l,zs,e,?_,q28 (λ b ys J=> ?_) h2⟩
  ·rw [qd (λ z:l=D=>n1 (by rw [e,z]))];exact h1
  ·rw [qd (λ z:b=D=>n2 ys (z ▸ J))];exact J
 | cost=>exact h
theorem WtV.there {H:Hp} {k:By} {L:List FE} {r:Addr} (h:WtV H k L (.ref r)):H r≠none:=by
 cases k with
 | grow=>
  obtain ⟨l,zs,e,h1,_⟩:=h;cases e
  rw [h1];exact λ z=>nomatch z
 | cost=>
  have h:V.ref r=q18 _:=h;cases q:qu (L.map (·.2)) <;> rw [q] at h <;> cases h
def Rnd (P:Program) (w:World) (H H':Hp) (k:By) (cf:Str ->Option Int) (l:List FT) (x:V) (kvs:List (PR×V)):Prop:=∃ D,x= .ref D/\DP P w H' D kvs/\Sm H H' k cf l kvs
theorem Rnd.same {P:Program} {w:World} {H H' H2:Hp} {k:By} {cf:Str ->Option Int} {l:List FT} {x:V} {kvs:List (PR×V)} (s:Same H' H2) (h:Rnd P w H H' k cf l x kvs):Rnd P w H H2 k cf l x kvs:=let ⟨D,a,b,c⟩:=h;⟨D,a,b.same s,c.same s⟩
def qcp (a b:List (PR×V)):Prop:=∀ p q r,valV a p=some (.ref r) ->valV b q≠some (.ref r)
theorem Sm.there {H H':Hp} {k:By} {cf:Str ->Option Int} {l:List FT} {kvs:List (PR×V)} (h:Sm H H' k cf l kvs) {p:PR} {r:Addr} (e:valV kvs p=some (.ref r)):H r=none/\H' r≠none:=by
 rcases h.at_ p with ⟨e1,_⟩ | ⟨v,e1,_,n,wv⟩
 ·rw [e] at e1;cases e1
 ·rw [e] at e1;cases e1
  exact ⟨n r rfl,wv.there⟩
theorem Sm.far {H G J:Hp} {k:By} {cf:Str ->Option Int} {l:List FT} {kvs:List (PR×V)} {t:Addr} {xs:List V} (h:Sm G J k cf l kvs) (s:Same H G) (O:G t=some (.lst xs)) (L:J t=some (.lst xs)) (o:HO):Sm H (upd J t o) k cf l kvs:=
 ⟨h.nd,h.ln,λ p=>(h.at_ p).imp id λ ⟨v,a,b,c,d⟩=>⟨v,a,b,c.same s,d.far (λ z=>by rw [c t z] at O;cases O) (λ ys z=>by rw [L] at z;cases z)⟩,h.gd⟩
theorem q2t {α β:Type} {F G:α ->β ->Prop}:∀ {l:List α} {k:List β},Paired F l k ->(∀ a b,F a b ->G a b) ->Paired G l k
 | _,_,.nil,_=> .nil
 | _,_,.cons a b,h=> .cons (h _ _ a) (q2t b h)
theorem q4g {α β:Type} {F:α ->β ->Prop}:∀ {l:List α} {k:List β},Paired F l k ->∀ y∈k,∃ x∈l,F x y
 | _,_,.nil,_,h=>nomatch h
 | _,_,.cons a b,y,h=>by
  rcases z37.mp h with rfl | h
  ·exact ⟨_,z1g ..,a⟩
  ·obtain ⟨x,hx,f⟩:=q4g b y h;exact ⟨x,z10 _ hx,f⟩
def qux (P:Program) (w:World) (K:PySem.W.Frag) (mg:Str ->Option Value):Sp:=λ vs H Q _=>∃ (k:By) (cf:Str ->Option Int) (a b o wd:Addr) (n:Nat) (fs:List (V×FT)) (ws:List (Key×V)),vs=[.ref a,.ref b,.int n,.ref o,.ref wd]/\WfIn K mg H k cf a o wd fs ws/\SqL K H b []/\n<=5/\
 ∀ t xs ks H',Same H H' ->H t=none ->H' t=some (.lst xs) ->xs.length=n+1 ->Paired (Rnd P w H H' k cf (fs.map (·.2))) xs ks ->ks.Pairwise qcp ->Q (.ref t) H'
theorem q54 (T:Txt K mg):Def P w K mg base 10 "worths_by_round" ["facts","rules","rounds","by","worths"] (qux P w K mg):=by
 refine T.qa6.ok q1h (λ vs H Q E h=> ?_) λ f cdv A outer s H vs Q E hr h=> ?_
 ·obtain ⟨k,cf,a,b,o,wd,n,fs,ws,rfl,_⟩:=h;rfl
 ·obtain ⟨k,cf,a,b,o,wd,n,fs,ws,rfl,O,hb,n5,q⟩:=h;refine ⟨_,(qkg
   (qr (i:=5) q1h.nd rfl (Or.inl rfl) (qf (q9e T) hr rfl (pa_3 (pv 0) (pv 1) (pv 2))))
   (qr (i:=6) q1h.nd rfl (Or.inl rfl) (q1l (pa_1 (qf (q53 T) hr rfl (pa_3 (pv 0) (pv 3) (pv 4))))))
   (qr (i:=7) q1h.nd rfl (Or.inl rfl) q4z)
   (q1s PassesOwn.never rfl (q2l rfl T.q3g (pa_1 (pv 2))) (qh (i:=8) q1h.nd rfl (Or.inl rfl)) (q9s
   (qr (i:=9) q1h.nd rfl (Or.inl rfl) (qf (q53 T) hr rfl (pa_3 (pv 0) (pv 3) (pv 4))))
   (qr (i:=7) q1h.nd rfl (Or.inl rfl) (qud (q9g T) T.qf9 T.qf6 hr rfl T.qhs (pa_4 (qm (qx K) (pv 5) (pv 8) (λ _ _=>rfl)) (pv 3) (qm (qx K) (pv 6) (pv 8) (λ _ _=>rfl)) (pv 7))))
   (q1s PassesOwn.never rfl (q14 K (pv 1)) (qh (i:=10) q1h.nd rfl (Or.inl rfl)) (qg (q1j (qf (qid T) hr rfl (pa_4 (pv 9) (qje (q77 T) T.q2a hr (pv 7) (pa_1 (pv 10))) (qm (q11 K) (qm (q11 K) (pv 10) qa (λ _ _=>rfl)) qa (λ _ _=>rfl)) (qg7 (q3d hr) (qm (qx K) (pv 5) (qk q21 (pv 8) qa) (λ _ _=>rfl)) (qm (q11 K) (qm (q11 K) (pv 10) qa (λ _ _=>rfl)) qa (λ _ _=>rfl)) (q1l q2c) ⟨rfl,rfl,rfl,rfl⟩))))))
   (q1j (q3c z0h z0d z0e q2e (pv 6) (pa_1 (pv 9))))))
   (qi (pv 6))),?_⟩
  have lf:=O.ln;refine ⟨_,zr,_,zr,_,zr,a,b,n,fs,zr,O.ls,O.gd,by omega,hb,n5,λ tb ts H1 s1 a6 lts=> ?_⟩;refine ⟨_,zr,_,zr,_,zr,k,cf,a,o,wd,fs,ws,zr,O.same s1,λ D0 a8 H2 s2 hD0 d0 m0=> ?_⟩;refine ⟨by show 1<=sizeLine;decide,λ t ht=> ?_⟩;have S2:=s1.trans s2;have S3:=S2.trans (qb (o:=HO.lst [.ref D0]) ht);have a5:H t=none:=S2.free ht;have b2:tb≠t:=λ z=>by
   have:=s2 _ _ a6;rw [z,ht] at this;cases this
  have a7:upd H2 t (.lst [.ref D0]) tb=some (.lst ts):=(s2.trans (qb ht)) _ _ a6;have a3:∀ o,Rnd P w H (upd (upd H2 t (.lst [.ref D0])) t o) k cf (fs.map (·.2)) (.ref D0) a8:=λ o=>by
   rw [q9l];have s:=qb (o:=o) ht;exact ⟨D0,zr,d0.same s,⟨m0.nd,m0.ln,λ p=>(m0.at_ p).imp id λ ⟨v,x1,x2,x3,x4⟩=>⟨v,x1,x2,x3.same s1,x4.same s⟩,m0.gd⟩⟩
  refine ⟨_,zr,n,zr,by omega,by omega,q42 (lo:=0) (n:=n) (λ i σ G=>∃ (v7 v8 v9 Z:Option V) (xs:List V) (ks:List (List (PR×V))),σ=[some (.ref a),some (.ref b),some (.int n),some (.ref o),some (.ref wd),some (.ref tb),some (.ref t),v7,v8,v9,Z]/\(∃ v,v7=some v)/\Same H G/\G tb=some (.lst ts)/\G t=some (.lst xs)/\xs.length=i+1/\Paired (λ x kvs=>∀ o,Rnd P w H (upd G t o) k cf (fs.map (·.2)) x kvs) xs ks/\ks.Pairwise qcp)
   ⟨_,none,none,none,[.ref D0],[a8],rfl,⟨_,rfl⟩,S3,a7,q0,rfl,.cons a3 .nil,z0f _ _⟩ ?_ ?_⟩
  ·rintro i σ G hi ⟨v7,v8,v9,Z,xs,ks,rfl,⟨v7,rfl⟩,sg,a0,gt,lx,pr,ap⟩;refine ⟨_,zr,_,zr,_,zr,k,cf,a,o,wd,fs,ws,zr,O.same sg,λ D kv G2 s4 hD d4 m4=> ?_⟩;obtain ⟨tv,a9⟩:∃ v,ts[i]? =some v:=⟨ts[i]'(by omega),z0c _⟩;obtain ⟨xv,b0⟩:∃ v,xs[i]? =some v:=⟨xs[i]'(by omega),z0c _⟩;have a1:atI ts (0+(i:Int))=some tv:=by rw [Int.zero_add];exact qp a9
   have a2:atI xs (0+(i:Int))=some xv:=by rw [Int.zero_add];exact qp b0
   refine ⟨_,zr,_,zr,_,_,_,_,zr,zr,SqL.of (s4 _ _ a0),a1,_,zr,_,zr,_,zr,_,_,_,_,zr,zr,SqL.of (s4 _ _ gt),a2,_,zr,λ x dx hx b1 ndx=> ?_⟩;refine ⟨G2,x,dx,_,_,_,_,zr,(qb b1).set hx,hx,q0,λ G3 s5=>⟨zr,?_⟩⟩;have L:=s4.trans s5;refine ⟨_,rfl,b,rfl,⟨_,(sg.trans L).seq hb⟩,q29 (xs:=[]) (λ _ σ J=>σ=[some (.ref a),some (.ref b),some (.int n),some (.ref o),some (.ref wd),some (.ref tb),some (.ref t),some (.ref x),some (.int (0+(i:Int))),some (.ref D),Z]/\J=G3) ⟨rfl,rfl⟩ (λ i σ J _ z=>by rw [z.2];exact (sg.trans L).seq hb) (λ i x σ J hx=>by cases hx) ?_⟩;rintro σ J ⟨rfl,rfl⟩;have Y:=L _ _ gt;have tD:D≠t:=λ z=>by rw [z,gt] at hD;cases hD
   refine ⟨_,rfl,.inl ⟨rfl,_,SqL.of Y⟩,_,rfl,t,xs,_,rfl,rfl,Y,z1i (show _ < 2000 by omega) (by decide),?_⟩;refine ⟨_,_,_,_,xs++ [.ref D],ks++ [kv],rfl,⟨_,rfl⟩,(sg.trans L).set a5,?_,q0,by rw [z1f];exact congrArg (· +1) lx,?_,?_⟩
   ·rw [qd b2];exact L _ _ a0
   ·refine q2f (q2t pr λ x kvs h o=> ?_) λ o=> ?_
    ·rw [q9l];exact (h o).same (qpu L o)
    ·rw [q9l];exact ⟨D,rfl,(d4.same s5).keep tD (λ ys z=>by rw [Y] at z;cases z),(m4.same s5).far sg gt Y o⟩
   ·refine z0v.mpr ⟨ap,z0f _ _,λ y hy z hz p q r e1 e2=> ?_⟩;obtain rfl:=z1d.mp hz;obtain ⟨_,_,hR⟩:=q4g pr y hy;have hR:=hR (.lst xs);rw [qjt gt] at hR;obtain ⟨_,_,_,hS⟩:=hR;exact (hS.there e1).2 (m4.there e2).1
  ·rintro σ G ⟨v7,v8,v9,Z,xs,ks,rfl,_,sg,a0,gt,lx,pr,ap⟩;refine ⟨_,zr,q t xs ks G sg a5 gt lx (q2t pr λ x kvs h=> ?_) ap⟩;have:=h (.lst xs);rw [qjt gt] at this;exact this
def TRow (H:Hp) (kvs:List (PR×V)) (x:V) (p:PR):Prop:=∃ r q v,x= .ref r/\H r=some (.tup [.str p.1,.ref q,v])/\H q=some (.tup (p.2.map kV))/\valV kvs p=some v
theorem TRow.keep {H H':Hp} {kvs:List (PR×V)} {x:V} {p:PR} (s:q24 H H') (h:TRow H kvs x p):TRow H' kvs x p:=let ⟨r,q,v,e,h1,h2,h3⟩:=h;⟨r,q,v,e,s _ _ h1,s _ _ h2,h3⟩
theorem q31 {H H':Hp} {kvs:List (PR×V)} (s:q24 H H'):∀ {xs:List V} {ps:List PR},Paired (TRow H kvs) xs ps ->Paired (TRow H' kvs) xs ps
 | _,_,.nil=> .nil
 | _,_,.cons a b=> .cons (a.keep s) (q31 s b)
def quy (P:Program) (w:World):Sp:=λ vs H Q _=>∃ (d:Addr) (kvs:List (PR×V)),vs=[.ref d]/\DP P w H d kvs/\(∀ p∈kvs.map (·.1),PrGood p)/\kvs.length<=60/\
 ∀ l xs H',Same H H' ->H l=none ->H' l=some (.lst xs) ->Paired (TRow H' kvs) xs (Tim.srt prLt (kvs.map (·.1))) ->Q (.ref l) H'
theorem q78 (T:Txt K mg):Def P w K mg base 8 "told_behind" ["worths"] (quy P w):=by
 refine T.qf4.ok qdi (λ vs H Q E h=> ?_) λ f cdv A outer s H vs Q E hr h=> ?_
 ·obtain ⟨d,kvs,rfl,_⟩:=h;rfl
 ·obtain ⟨d,kvs,rfl,hd,gp,ln,k⟩:=h;refine ⟨_,(qg (qi (q20 (N:=["table","row","worths"]) (caps:=[none,none,some 0]) rfl (by with_unfolding_all rfl) (q14 K (qf (q5e T) hr rfl (pa_1 (pv 0)))) (λ _ _ _ _ _=>(qdg K (n:=2) rfl (q13 (qh (i:=0) (show (["table","row","worths"]:List Str).Nodup by decide+kernel) rfl (Or.inl rfl)) (q13 (qh (i:=1) (show (["table","row","worths"]:List Str).Nodup by decide+kernel) rfl (Or.inl rfl)) q33)))) (λ _ _ _ _ _=>q25) (λ _ _ _ _ _=>(q1n (pa_3 (pv 0) (pv 1) (qs7 (P:=P) (w:=w) hr.units (pv 2) (q1n (pa_2 (pv 0) (pv 1))) (λ _ _=>rfl)))))))),?_⟩;refine ⟨_,zr,d,kvs,zr,hd,gp,λ l zs H1 s1 hl0 hl pr=> ?_⟩;have lz:zs.length<=60:=by
   have h1:=pr.length;rw [(Tim.q19 prLt (kvs.map (·.1))).length_eq,z2o] at h1;omega
  refine ⟨l,zr,⟨_,SqL.of hl⟩,λ D hD=> ?_⟩;have sD:=qb (o:=HO.lst []) hD;refine q1k zs.length (λ i σ' Y=>(∃ v1 v2,σ'=[v1,v2,some (.ref d)])/\Same H1 Y/\∃ xs,Y D=some (.lst xs)/\xs.length=i/\Paired (TRow Y kvs) xs ((Tim.srt prLt (kvs.map (·.1))).take i)) ⟨⟨_,_,zr⟩,sD,[],q0,zr,.nil⟩ (λ i σ' Y hi p=> ?_) (λ σ' Y p=>⟨?_,?_⟩) (λ i σ' Y hi p x E3 y=> ?_)
  ·exact ⟨_,_,SqL.of (p.2.1 _ _ hl),z0c hi⟩
  ·exact ⟨_,SqL.of (p.2.1 _ _ hl),z3q _⟩
  ·obtain ⟨_,sm,xs,hx,lx,px⟩:=p;rw [pr.length,z2h] at px;exact k D xs Y (s1.trans sm) (s1.free hD) hx px
  ·obtain ⟨⟨v1,v2,rfl⟩,sm,xs,hx,lx,px⟩:=p;obtain ⟨rfl,hy⟩:=y;have b0:=hy _ (SqL.of (sm _ _ hl));obtain ⟨J,a0,b,rfl,hb⟩:=q36 pr b0;have a2:J∈kvs.map (·.1):=(Tim.q19 _ _).mem_iff.mp (z12 a0);obtain ⟨v,hv⟩:∃ v,valV kvs J=some v:=by
    cases h:valV kvs J with
    | none=>exact absurd a2 (qbg h)
    | some v=>exact ⟨v,rfl⟩
   have a5:=hb.same (s1.trans sm);obtain ⟨O,a6,Z⟩:=pr_at.mp a5;refine ⟨b,_,zr,SqT.of a6,zr,_,_,zr,_,_,zr,zr,?_⟩;refine ⟨_,rfl,_,rfl,_,rfl,_,rfl,_,rfl,by show 2<=sizeLine;decide,λ c hc=> ?_⟩;have s3:=qb (o:=HO.tup [V.str J.1,.ref O]) hc;have S3:=(s1.trans sm).trans s3;refine ⟨d,c,_,pN J,v,rfl,rfl,hd.same S3,pr_at.mpr ⟨O,q0,s3 _ _ Z⟩,qcl (gp J a2),by rw [valP];exact hv,by show 3<=sizeLine;decide,λ r a8=> ?_⟩;have s4:=qb (o:=HO.tup [V.str J.1,.ref O,v]) a8;have L:=s3.trans s4;have a3:=L _ _ hx;have a9:=q0 (H:=upd E3 c (HO.tup [V.str J.1,.ref O])) (a:=r) (o:=HO.tup [V.str J.1,.ref O,v]);have a7:=L _ _ Z;generalize upd (upd E3 c (HO.tup [V.str J.1,.ref O])) r (HO.tup [V.str J.1,.ref O,v])=G at*;have kt:q24 G (upd G D (.lst (xs++ [.ref r]))):=λ a ys ha=>by
    rw [qd (λ z=>by rw [z,a3] at ha;cases ha)];exact ha
   refine ⟨_,a3,by rw [lx];exact z1i (show _ < 2000 by omega) (by decide),⟨_,_,rfl⟩,(sm.trans L).set hD,xs++ [.ref r],q0,by rw [z1f,lx];rfl,?_⟩;rw [z33,a0];exact q2f (q31 kt (q31 (Same.keepT L) px)) ⟨r,O,v,zr,kt _ _ a9,kt _ _ a7,hv⟩
def CI (G:Hp) (D:Addr) (ks:List (List (PR×V))) (i:Nat) (E:Hp):Prop:=Same G E/\∃ ls:List Addr,E D=some (.lst (ls.map V.ref))/\ls.length=i/\ls.Nodup/\
 ∀ (j:Nat) l,ls[j]? =some l ->G l=none/\l≠D/\∃ zs,E l=some (.lst zs)/\∀ kvs,ks[j]? =some kvs ->Paired (TRow E kvs) zs (Tim.srt prLt (kvs.map (·.1)))
theorem CI.zero {G:Hp} {D:Addr} {ks:List (List (PR×V))} (h:G D=none):CI G D ks 0 (upd G D (.lst [])):=⟨qb h,[],q0,rfl,z32,λ j l e=>by simp at e⟩
theorem CI.step {G E Z:Hp} {D l:Addr} {ks:List (List (PR×V))} {i:Nat} {kvs:List (PR×V)} {xs:List V} {ls:List Addr} (hD:G D=none) (s0:Same G E) (h1:E D=some (.lst (ls.map V.ref))) (h2:ls.length=i) (h3:ls.Nodup)
  (h4:∀ (j:Nat) l,ls[j]? =some l ->G l=none/\l≠D/\∃ zs,E l=some (.lst zs)/\∀ kvs,ks[j]? =some kvs ->Paired (TRow E kvs) zs (Tim.srt prLt (kvs.map (·.1))))
  (hk:ks[i]? =some kvs) (s:Same E Z) (O:E l=none) (hl:Z l=some (.lst xs)) (pr:Paired (TRow Z kvs) xs (Tim.srt prLt (kvs.map (·.1)))):CI G D ks (i+1) (upd Z D (.lst (ls.map V.ref++ [.ref l]))):=by
 have a0:=s _ _ h1;have kt:q24 Z (upd Z D (.lst (ls.map V.ref++ [.ref l]))):=λ a ys ha=>by
  rw [qd (λ z:a=D=>by rw [z,a0] at ha;cases ha)];exact ha
 have lD:l≠D:=λ z=>by rw [z,h1] at O;cases O
 refine ⟨(s0.trans s).set hD,ls++ [l],by rw [q0,z2t];rfl,by rw [z1f,h2];rfl,?_,λ j m hj=> ?_⟩
 ·refine z22.mpr ⟨h3,z2q.mpr ⟨z2g,z32⟩,λ a ha b hb e=> ?_⟩;obtain rfl:=z1d.mp hb;subst e;obtain ⟨j,hj⟩:=List.getElem?_of_mem ha;obtain ⟨_,_,zs,hz,_⟩:=h4 j a hj;rw [O] at hz;cases hz
 ·by_cases hji:j < i
  ·rw [List.getElem?_append_left (by omega)] at hj;obtain ⟨g1,g2,zs,hz,hp⟩:=h4 j m hj;refine ⟨g1,g2,zs,by rw [qd g2];exact s _ _ hz,λ Y L=>q31 kt (q31 (Same.keepT s) (hp Y L))⟩
  ·have J:(ls++ [l])[j]? =some m:=hj;rw [z04 (by omega)] at J;have j0:j=i:=by
    have:=(z06.mp J).1;simp at this
    omega
   subst j0;rw [h2,Nat.sub_self] at J;have:l=m:=by simpa using J
   subst this;refine ⟨s0.free O,lD,xs,by rw [qd lD];exact hl,λ Y L=> ?_⟩;rw [hk] at L;cases L
   exact q31 kt pr
structure RunOk (H H':Hp) (k:By) (cf:Str ->Option Int) (fl:List FT) (n:Nat) (D:Addr) (ls:List Addr) (ks:List (List (PR×V))):Prop where
 sm:Same H H'
 dn:H D=none
 at_:H' D=some (.lst (ls.map V.ref))
 ll:ls.length=n+1
 lk:ks.length=n+1
 nd:(D::ls).Nodup
 rw_:∀ (j:Nat) l kvs,ls[j]? =some l ->ks[j]? =some kvs ->H l=none/\(∃ zs,H' l=some (.lst zs)/\Paired (TRow H' kvs) zs (Tim.srt prLt (kvs.map (·.1))))/\Sm H H' k cf fl kvs
 ap:ks.Pairwise qcp
 far:∀ kvs∈ks,∀ p r,valV kvs p=some (.ref r) ->r∉D::ls
theorem CI.done {P:Program} {w:World} {H G E:Hp} {k:By} {cf:Str ->Option Int} {Y:List FT} {n:Nat} {D:Addr} {ks:List (List (PR×V))} {xs:List V} (s:Same H G) (Z:G D=none) (lx:xs.length=n+1) (O:Paired (Rnd P w H G k cf Y) xs ks) (ap:ks.Pairwise qcp) (h:CI G D ks (n+1) E):∃ ls,RunOk H E k cf Y n D ls ks:=by
 obtain ⟨s1,ls,h1,h2,h3,h4⟩:=h;have hm:∀ l∈ls,G l=none/\l≠D:=λ l hl=>by
  obtain ⟨j,J⟩:=List.getElem?_of_mem hl;exact ⟨(h4 j l J).1,(h4 j l J).2.1⟩
 refine ⟨ls,s.trans s1,s.free Z,h1,h2,by rw [<- lx,O.length],z2q.mpr ⟨λ z=>(hm D z).2 rfl,h3⟩,λ j l kvs J L=> ?_,ap,λ kvs L p r e z=> ?_⟩
 ·obtain ⟨g1,_,zs,hz,hp⟩:=h4 j l J;obtain ⟨_,_,_,_,_,sm⟩:=q4g O kvs (z12 L);exact ⟨s.free g1,⟨zs,hz,hp kvs L⟩,sm.same s1⟩
 ·obtain ⟨_,_,_,_,_,sm⟩:=q4g O kvs L;have:=(sm.there e).2;rcases z37.mp z with rfl | z
  ·exact this Z
  ·exact this (hm r z).1
def quz (K:PySem.W.Frag) (mg:Str ->Option Value):Sp:=λ vs H Q _=>∃ (k:By) (cf:Str ->Option Int) (a b o wd:Addr) (n:Nat) (fs:List (V×FT)) (ws:List (Key×V)),vs=[.ref a,.ref b,.int n,.ref o,.ref wd]/\WfIn K mg H k cf a o wd fs ws/\SqL K H b []/\n<=5/\
 ∀ D ls ks H',RunOk H H' k cf (fs.map (·.2)) n D ls ks ->Q (.ref D) H'
theorem qbh (T:Txt K mg):Def P w K mg base 11 "told_by_round" ["facts","rules","rounds","by","worths"] (quz K mg):=by
 refine T.qcu.ok qba (λ vs H Q E h=> ?_) λ f cdv A outer s H vs Q E hr h=> ?_
 ·obtain ⟨k,cf,a,b,o,wd,n,fs,ws,rfl,_⟩:=h;rfl
 ·obtain ⟨k,cf,a,b,o,wd,n,fs,ws,rfl,L,hb,n5,q⟩:=h;refine ⟨_,(qg (qi (q20 (N:=["behind"]) (caps:=[none]) rfl (by with_unfolding_all rfl) (q14 K (qf (q54 T) hr rfl (pa_5 (pv 0) (pv 1) (pv 2) (pv 3) (pv 4)))) (λ _ _ _ _ _=>(qh (i:=0) (show (["behind"]:List Str).Nodup by decide+kernel) rfl (Or.inl rfl))) (λ _ _ _ _ _=>q25) (λ _ _ _ _ _=>(qf (q78 (P:=P) (w:=w) T) hr rfl (pa_1 (pv 0))))))),?_⟩;have lf:=L.ln;refine ⟨_,zr,_,zr,_,zr,_,zr,_,zr,k,cf,a,b,o,wd,n,fs,ws,zr,L,hb,n5,λ t xs ks G s1 ht0 O lx pr ap=> ?_⟩;refine ⟨t,zr,⟨_,SqL.of O⟩,λ D Y=> ?_⟩;refine q1k (n+1) (λ i σ' J=>(∃ v,σ'=[v])/\CI G D ks i J) ⟨⟨_,zr⟩,CI.zero Y⟩ (λ i σ' J hi p=> ?_) (λ σ' J p=>⟨?_,?_⟩) (λ i σ' J hi p x E3 y=> ?_)
  ·exact ⟨_,xs[i]'(by omega),SqL.of (p.2.1 _ _ O),z0c (by omega)⟩
  ·exact ⟨_,SqL.of (p.2.1 _ _ O),by omega⟩
  ·obtain ⟨ls,ro⟩:=CI.done s1 Y lx pr ap p.2;exact q D ls ks J ro
  ·obtain ⟨⟨v1,rfl⟩,sm,ls,h1,h2,h3,h4⟩:=p;obtain ⟨rfl,hy⟩:=y;have a0:=hy _ (SqL.of (sm _ _ O));obtain ⟨kvs,hk,d,rfl,hd,hS⟩:=q36 pr a0;have:=hS.ln;rw [z2o] at this;refine ⟨_,zr,d,kvs,zr,hd.same sm,hS.gd,by omega,λ l zs E4 s4 Z hl a2=> ?_⟩;refine ⟨_,s4 _ _ h1,by rw [z2o,h2];exact z1i (show _ < 2000 by omega) (by decide),⟨_,rfl⟩,?_⟩;exact CI.step Y sm h1 h2 h3 h4 hk s4 Z hl a2
theorem qem {z:Str}:∀ {ps:List (Str×V)} {m:List (Key×V)},z∉ps.map (·.1) ->valV (q3r ps m) (.inr z)=valV m (.inr z)
 | [],m,_=>rfl
 | p::ps,m,h=>by
  rw [z35] at h;show valV (q3r ps (putK m (Sum.inr p.1) p.2)) (.inr z)=_;rw [qem (λ q=>h (z10 _ q)),q2o,if_neg (λ e=>h (by injection e with e;rw [e];exact z1g ..))]
theorem qen {z:Str} {v:V}:∀ {ps:List (Str×V)} {m:List (Key×V)},(ps.map (·.1)).Nodup ->(z,v)∈ps ->valV (q3r ps m) (.inr z)=some v
 | p::ps,m,n,h=>by
  rw [z35] at n;obtain ⟨n1,n2⟩:=z2q.mp n;show valV (q3r ps (putK m (Sum.inr p.1) p.2)) (.inr z)=_;rcases z37.mp h with rfl | h
  ·rw [qem n1,q2o,if_pos rfl]
  ·exact qen n2 h
def WE (H:Hp) (D:Addr) (e:V×V) (f:FT):Prop:=∃ q l zs,e=(.ref q,.ref l)/\H q=some (.tup [.str f.1,.ref l])/\l≠D/\H l=some (.lst zs)/\Paired (PlAt H) zs (oneT [f.1])
theorem WE.set {H H':Hp} {D:Addr} {o:HO} {ys:List V} {e:V×V} {f:FT} (s:Same H H') (hD:H' D=some (.lst ys)) (h:WE H D e f):WE (upd H' D o) D e f:=by
 obtain ⟨q,l,zs,e1,h1,n,h2,h3⟩:=h;have L:q24 H' (upd H' D o):=λ a ys J=>by
  rw [qd (λ z:a=D=>by rw [z,hD] at J;cases J)];exact J
 exact ⟨q,l,zs,e1,L _ _ (s _ _ h1),n,by rw [qd n];exact s _ _ h2,q28 L (q28 (Same.keepT s) h3)⟩
theorem ql4 (T:Txt K mg):Def P w K mg base 1 "of_fact" ["name"] (λ vs H Q _=>∃ z:Str,vs=[.str z]/\∀ l zs H',Same H H' ->H l=none ->H' l=some (.lst zs) ->Paired (PlAt H') zs (oneT [z]) ->Q (.ref l) H'):=by
 refine T.qo4.ok qkw (λ vs H Q E h=> ?_) λ f cdv A outer s H vs Q E hr h=> ?_
 ·obtain ⟨z,rfl,_⟩:=h;rfl
 ·obtain ⟨z,rfl,k⟩:=h;refine ⟨_,(qg (qi (q1l (pa_1 (q1n (pa_2 (q1n (pa_1 (pv 0))) qa)))))),?_⟩;refine ⟨_,rfl,by show 1<=sizeLine;decide,λ p hp=> ?_⟩;refine ⟨by show 2<=sizeLine;decide,λ r J=> ?_⟩;refine ⟨by show 1<=sizeLine;decide,λ l hl=> ?_⟩;have s1:=qb (o:=HO.tup [V.str z]) hp;have L:=qb (o:=HO.tup [V.ref p,.int 1]) J;have s3:=qb (o:=HO.lst [V.ref r]) hl;exact k l _ _ (s1.trans (L.trans s3)) ((s1.trans L).free hl) q0 (.cons ⟨r,p,zr,s3 _ _ q0,(L.trans s3) _ _ q0⟩ .nil)
def qv0 (K:PySem.W.Frag):Sp:=λ vs H Q _=>∃ (a:Addr) (fs:List (V×FT)),vs=[.ref a]/\SqL K H a (fs.map (·.1))/\(∀ e∈fs,FV H e/\FGood e.2)/\(fs.map (·.2.1)).Nodup/\fs.length<=100/\
 ∀ wd ws H',Same H H' ->H' wd=some (.dK ws) ->(∀ (cf:Str ->Option Int),∀ e∈fs,∃ v,valV ws (.inr e.2.1)=some v/\WtV H' .grow [(e.2.1,cf e.2.1)] v) ->Q (.ref wd) H'
theorem qbi (T:Txt K mg):Def P w K mg base 2 "whys_of_facts" ["facts"] (qv0 K):=by
 refine T.qct.ok qbb (λ vs H Q E h=> ?_) λ f cdv A outer s H vs Q E hr h=> ?_
 ·obtain ⟨a,fs,rfl,_⟩:=h;rfl
 ·obtain ⟨a,fs,rfl,ha,gf,nd,lf,k⟩:=h;refine ⟨_,(qg (qi (q2u (qcb rfl K) rfl T.qhi qdd (pa_1 (q20 (N:=["name","table","row"]) (caps:=[none,none,none]) rfl (by with_unfolding_all rfl) (q14 K (pv 0)) (λ _ _ _ _ _=>(qdg K (n:=3) rfl (q13 (qh (i:=0) (show (["name","table","row"]:List Str).Nodup by decide+kernel) rfl (Or.inl rfl)) (q13 (qh (i:=1) (show (["name","table","row"]:List Str).Nodup by decide+kernel) rfl (Or.inl rfl)) (q13 (qh (i:=2) (show (["name","table","row"]:List Str).Nodup by decide+kernel) rfl (Or.inl rfl)) q33))))) (λ _ _ _ _ _=>q25) (λ _ _ _ _ _=>(q1n (pa_2 (pv 0) (qf (ql4 T) hr rfl (pa_1 (pv 0))))))))))),?_⟩;refine ⟨_,zr,a,zr,⟨_,ha⟩,λ D hD=> ?_⟩;refine q1k (fs.map (·.1)).length (λ i σ' J=>(∃ v1 v2 v3,σ'=[v1,v2,v3])/\Same H J/\∃ es:List (V×V),J D=some (.lst (es.map (·.1)))/\es.length=i/\Paired (WE J D) es ((fs.map (·.2)).take i)) ⟨⟨_,_,_,zr⟩,qb hD,[],q0,zr,.nil⟩ (λ i σ' J hi p=> ?_) (λ σ' J p=>⟨?_,?_⟩) (λ i σ' J hi p x E3 y=> ?_)
  ·exact ⟨_,_,p.2.1.seq ha,z0c hi⟩
  ·exact ⟨_,p.2.1.seq ha,z3q _⟩
  ·obtain ⟨_,sm,es,hE,le,pe⟩:=p;rw [z2o,<- z2o (f:=λ x:V×FT=>x.2),z2h] at pe;have pv:∀ {es:List (V×V)} {fl:List FT},Paired (WE J D) es fl ->∃ ps:List (Str×V),Paired (qkk K J) (es.map (·.1)) ps/\ps.map (·.1)=fl.map (·.1)/\∀ f∈fl,∃ l zs,(f.1,V.ref l)∈ps/\J l=some (.lst zs)/\Paired (PlAt J) zs (oneT [f.1]):=by
    intro es fl h
    induction h with
    | nil=>exact ⟨[],.nil,rfl,λ _ z=>nomatch z⟩
    | cons a _ ih=>
     obtain ⟨ps,h1,h2,h3⟩:=ih;obtain ⟨q,l,zs,rfl,g1,_,g2,g3⟩:=a;refine ⟨(_,.ref l)::ps,.cons ⟨q,zr,SqT.of g1⟩ h1,by rw [z35,z35,h2],λ f' Y=> ?_⟩;rcases z37.mp Y with rfl | Y
     ·exact ⟨l,zs,z1g ..,g2,g3⟩
     ·obtain ⟨l',a6,x1,x2,x3⟩:=h3 f' Y;exact ⟨l',a6,z10 _ x1,x2,x3⟩
   obtain ⟨ps,h1,h2,h3⟩:=pv pe;refine ⟨D,_,ps,zr,SqL.of hE,h1,λ d hd=> ?_⟩;have s2:=qb (o:=HO.dK (q3r ps [])) hd;refine k d _ _ (sm.trans s2) q0 λ cf e he=> ?_;obtain ⟨l,zs,x1,x2,x3⟩:=h3 e.2 (z3n.mpr ⟨e,he,rfl⟩);refine ⟨.ref l,qen (by rw [h2,z3p];exact nd) x1,l,zs,rfl,s2 _ _ x2,?_⟩;rw [show Tim.srt strLt ([(e.2.1,cf e.2.1)].map (·.1))=[e.2.1] from qdm _];exact q28 (Same.keepT s2) x3
  ·obtain ⟨⟨v1,v2,v3,rfl⟩,sm,es,hE,le,pe⟩:=p;obtain ⟨rfl,hy⟩:=y;have a0:=hy _ (sm.seq ha);rw [z1s] at a0;obtain ⟨e,O,rfl⟩:=z0m.mp a0;have il:=(z06.mp O).1;obtain ⟨p,pq,ep,hp,hq⟩:=(gf e (z12 O)).1;have a2:(fs.map (·.2))[i]? =some e.2:=by rw [z1s,O];rfl
   refine ⟨p,_,ep,SqT.of (sm _ _ hp),zr,_,_,zr,_,_,zr,_,_,zr,zr,?_⟩;refine ⟨_,zr,_,zr,e.2.1,zr,λ l zs E4 s4 Z hl a5=> ?_⟩;refine ⟨by show 2<=sizeLine;decide,λ r a3=> ?_⟩;have s5:=qb (o:=HO.tup [V.str e.2.1,.ref l]) a3;have lD:l≠D:=λ z=>by rw [z,hE] at Z;cases Z
   have L:=(s4.trans s5) _ _ hE;have we:WE (upd E4 r (.tup [V.str e.2.1,.ref l])) D (.ref r,.ref l) e.2:=⟨r,l,zs,rfl,q0,lD,s5 _ _ hl,q28 (Same.keepT s5) a5⟩;refine ⟨_,L,by rw [z2o,le];exact qz (by rw [z2o] at hi;omega),⟨_,_,_,rfl⟩,(sm.trans (s4.trans s5)).set hD,es++ [(.ref r,.ref l)],by rw [q0,z2t];rfl,by rw [z1f,le];rfl,?_⟩;rw [z33,a2];exact q2f (q2t pe λ a b h=>h.set (s4.trans s5) L) (we.set (Same.refl _) L)
structure FsIn (K:PySem.W.Frag) (H:Hp) (a:Addr) (fs:List (V×FT)):Prop where
 ls:SqL K H a (fs.map (·.1))
 gd:∀ e∈fs,FV H e/\FGood e.2
 nd:(fs.map (·.2.1)).Nodup
 ln:fs.length<=49
theorem FsIn.same {K:PySem.W.Frag} {H H':Hp} {a:Addr} {fs:List (V×FT)} (s:Same H H') (h:FsIn K H a fs):FsIn K H' a fs:=⟨s.seq h.ls,λ e J=>⟨(h.gd e J).1.same s,(h.gd e J).2⟩,h.nd,h.ln⟩
def qv1 (P:Program) (w:World) (K:PySem.W.Frag):Sp:=λ vs H Q _=>∃ (cf:Str ->Option Int) (a b:Addr) (n:Nat) (fs:List (V×FT)),vs=[.ref a,.ref b,.int n]/\FsIn K H a fs/\SqL K H b []/\n<=5/\
 ∀ t xs ks H',Same H H' ->H t=none ->H' t=some (.lst xs) ->xs.length=n+1 ->Paired (Rnd P w H H' .grow cf (fs.map (·.2))) xs ks ->ks.Pairwise qcp ->Q (.ref t) H'
theorem qbj (T:Txt K mg):Def P w K mg base 11 "whys_by_round" ["facts","rules","rounds"] (qv1 P w K):=by
 refine T.qcs.ok qbc (λ vs H Q E h=> ?_) λ f cdv A outer s H vs Q E hr h=> ?_
 ·obtain ⟨cf,a,b,n,fs,rfl,_⟩:=h;rfl
 ·obtain ⟨cf,a,b,n,fs,rfl,Y,hb,n5,q⟩:=h;refine ⟨_,(qg (qi (qf (q54 T) hr rfl (pa_5 (pv 0) (pv 1) (pv 2) (qgj T.qld T.ql9 T.qle rfl T.qo1) (qf (qbi T) hr rfl (pa_1 (pv 0))))))),?_⟩;have ln:=Y.ln;refine ⟨_,zr,_,zr,_,zr,λ o dx ho O nd=> ?_⟩;have s1:Same H (upd (upd H dx (.own o)) o (.ins (cA mg "Growing") dx [])):=(qb O).set ho;have eo:upd (upd H dx (.own o)) o (.ins (cA mg "Growing") dx []) o=some (.ins (cA mg "Growing") dx []):=q0;generalize upd (upd H dx (.own o)) o (.ins (cA mg "Growing") dx [])=H1 at*;have L:=Y.same s1;refine ⟨_,zr,a,fs,zr,L.ls,L.gd,L.nd,by omega,λ wd ws H2 s2 a0 a2=> ?_⟩;have s12:=s1.trans s2;have J:=Y.same s12;refine ⟨.grow,cf,a,b,o,wd,n,fs,ws,zr,⟨J.ls,J.gd,J.nd,J.ln,⟨dx,s2 _ _ eo⟩,a0,a2 cf⟩,s12.seq hb,n5,λ t xs ks H3 s3 Z ht lx pr ap=> ?_⟩;exact q t xs ks H3 (s12.trans s3) (s12.free Z) ht lx (q2t pr λ x kvs ⟨D,x1,x2,x3⟩=>⟨D,x1,x2,⟨x3.nd,x3.ln,λ p=>(x3.at_ p).imp id λ ⟨v,y1,y2,y3,y4⟩=>⟨v,y1,y2,y3.same s12,y4⟩,x3.gd⟩⟩) ap
def qsy (K:PySem.W.Frag):Sp:=λ vs H Q _=>∃ (cf:Str ->Option Int) (a b:Addr) (n:Nat) (fs:List (V×FT)),vs=[.ref a,.ref b,.int n]/\FsIn K H a fs/\SqL K H b []/\n<=5/\
 ∀ D ls ks H',RunOk H H' .grow cf (fs.map (·.2)) n D ls ks ->Q (.ref D) H'
theorem RunOk.front {J H H':Hp} {k:By} {cf:Str ->Option Int} {L:List FT} {n:Nat} {D:Addr} {ls:List Addr} {ks:List (List (PR×V))} (s:Same J H) (h:RunOk H H' k cf L n D ls ks):RunOk J H' k cf L n D ls ks:=
 ⟨s.trans h.sm,s.free h.dn,h.at_,h.ll,h.lk,h.nd,λ j l kvs h1 h2=>let ⟨x1,x2,x3⟩:=h.rw_ j l kvs h1 h2;⟨s.free x1,x2,⟨x3.nd,x3.ln,λ p=>(x3.at_ p).imp id λ ⟨v,y1,y2,y3,y4⟩=>⟨v,y1,y2,y3.same s,y4⟩,x3.gd⟩⟩,h.ap,h.far⟩
theorem ql5 (T:Txt K mg):Def P w K mg base 12 "why_run" ["facts","rules","rounds"] (qsy K):=by
 refine T.qo5.ok qkx (λ vs H Q E h=> ?_) λ f cdv A outer s H vs Q E hr h=> ?_
 ·obtain ⟨cf,a,b,n,fs,rfl,_⟩:=h;rfl
 ·obtain ⟨cf,a,b,n,fs,rfl,L,hb,n5,q⟩:=h;refine ⟨_,(q3q
   (q1j (qf (qne T) hr rfl (pa_3 (pv 0) (pv 1) (pv 2))))
   (qi (q20 (N:=["whys"]) (caps:=[none]) rfl (by with_unfolding_all rfl) (q14 K (qf (qbj T) hr rfl (pa_3 (pv 0) (pv 1) (pv 2)))) (λ _ _ _ _ _=>(qh (i:=0) (show (["whys"]:List Str).Nodup by decide+kernel) rfl (Or.inl rfl))) (λ _ _ _ _ _=>q25) (λ _ _ _ _ _=>(qf (q78 (P:=P) (w:=w) T) hr rfl (pa_1 (pv 0))))))),?_⟩
  have ln:=L.ln;refine ⟨_,zr,_,zr,_,zr,a,b,n,fs,zr,L.ls,L.gd,L.nd,by omega,hb,by omega,by omega,λ H0 s0=> ?_⟩;refine ⟨_,zr,_,zr,_,zr,cf,a,b,n,fs,zr,L.same s0,s0.seq hb,n5,λ t xs ks G s1 ht0 O lx pr ap=> ?_⟩;refine ⟨t,zr,⟨_,SqL.of O⟩,λ D Y=> ?_⟩;refine q1k (n+1) (λ i σ' J=>(∃ v,σ'=[v])/\CI G D ks i J) ⟨⟨_,zr⟩,CI.zero Y⟩ (λ i σ' J hi p=> ?_) (λ σ' J p=>⟨?_,?_⟩) (λ i σ' J hi p x E3 y=> ?_)
  ·exact ⟨_,xs[i]'(by omega),SqL.of (p.2.1 _ _ O),z0c (by omega)⟩
  ·exact ⟨_,SqL.of (p.2.1 _ _ O),by omega⟩
  ·obtain ⟨ls,ro⟩:=CI.done s1 Y lx pr ap p.2;exact q D ls ks J (ro.front s0)
  ·obtain ⟨⟨v1,rfl⟩,sm,ls,h1,h2,h3,h4⟩:=p;obtain ⟨rfl,hy⟩:=y;have a0:=hy _ (SqL.of (sm _ _ O));obtain ⟨kvs,hk,d,rfl,hd,hS⟩:=q36 pr a0;have:=hS.ln;rw [z2o] at this;refine ⟨_,zr,d,kvs,zr,hd.same sm,hS.gd,by omega,λ l zs E4 s4 Z hl a2=> ?_⟩;refine ⟨_,s4 _ _ h1,by rw [z2o,h2];exact z1i (show _ < 2000 by omega) (by decide),⟨_,rfl⟩,?_⟩;exact CI.step Y sm h1 h2 h3 h4 hk s4 Z hl a2
theorem qey (T:Txt K mg):MDef P w K mg base 2 (cA mg "Costs") "fits" ["self","thing"] (λ vs H Q _=>∃ (o:Addr) (c:Option Int),vs=[.ref o,q18 c]/\Q (.bl true) H):=by
 refine T.qho.ok qex (λ vs H Q E h=> ?_) λ f cdv A outer s H vs Q E hr h=> ?_
 ·obtain ⟨o,c,rfl,_⟩:=h;rfl
 ·obtain ⟨o,c,rfl,q⟩:=h;refine ⟨_,(qg (qi (qqc (q43 qfz (pv 1) q4z (q17 _)) (q6s (qf (q4w T) hr rfl (pa_1 (pv 1))))))),?_⟩;refine ⟨_,zr,zr,_,zr,?_⟩;cases c with
  | none=>exact q3v rfl q
  | some i=>exact q1d rfl ⟨_,rfl,_,_,rfl,.int i,q⟩
def qv2 (K:PySem.W.Frag) (mg:Str ->Option Value):Sp:=λ vs H Q _=>∃ (a o wd dx:Addr) (zs:List Str) (ws:List (Key×V)),vs=[.ref a,.ref o,.ref wd]/\SqL K H a (zs.map V.str)/\H o=some (.ins (cA mg "Costs") dx [])/\H wd=some (.dK ws)/\(∀ z∈zs,∃ c,valV ws (.inr z)=some (q18 c))/\Q .non H
theorem qez (T:Txt K mg):Def P w K mg base 4 "ask_worths" ["names","by","worths"] (qv2 K mg):=by
 refine T.qhl.ok q89 (λ vs H Q E h=> ?_) λ f cdv A outer s H vs Q E hr h=> ?_
 ·obtain ⟨a,o,wd,dx,zs,ws,rfl,_⟩:=h;rfl
 ·obtain ⟨a,o,wd,dx,zs,ws,rfl,O,ho,hw,hz,q⟩:=h;refine ⟨_,(qg (q1s PassesOwn.never rfl (q14 K (pv 0)) (qh (i:=3) q89.nd rfl (Or.inl rfl)) (qg (q1m (PW.pt (q3b (qls (qmb (q3d hr) (pv 3) (pv 2))) (q50 (q2q (q2b (qje (qey T) T.qhm hr (pv 1) (pa_1 (q6w (q3d hr) (pv 2) (pv 3) (λ _ _=>rfl))))))))) (qg q7l) q15)))),?_⟩;refine ⟨_,rfl,a,rfl,⟨_,O⟩,q29 (xs:=zs.map V.str) (λ i σ G=>(∃ v,σ=[some (.ref a),some (.ref o),some (.ref wd),v])/\G=H) ⟨⟨none,rfl⟩,rfl⟩ (λ i σ G _ z=>by rw [z.2];exact O) ?_ ?_⟩
  ·rintro i x σ G hx ⟨⟨v,rfl⟩,rfl⟩;rw [z1s] at hx;obtain ⟨z,J,rfl⟩:=z0m.mp hx;obtain ⟨c,hc⟩:=hz z (z12 J);have L:DGet G wd (.str z) (some (q18 c)):=by rw [<- hc];exact DGet.k (k:= .inr z) hw
   refine ⟨_,zr,_,zr,wd,_,zr,L,_,zr,q1d rfl ?_⟩;refine ⟨_,zr,o,dx,[],zr,ho,zr,_,zr,_,zr,wd,_,zr,L,o,c,zr,?_⟩;exact ⟨_,zr,q1d rfl ⟨⟨_,zr⟩,zr⟩⟩
  ·rintro σ G ⟨⟨v,rfl⟩,rfl⟩;exact q
def qv3 (K:PySem.W.Frag) (mg:Str ->Option Value):Sp:=λ vs H Q _=>∃ (cf:Str ->Option Int) (a b o wd dx:Addr) (n:Nat) (fs:List (V×FT)) (ws:List (Key×V)),vs=[.ref a,.ref b,.int n,.ref o,.ref wd]/\FsIn K H a fs/\SqL K H b []/\n<=5/\H o=some (.ins (cA mg "Costs") dx [])/\H wd=some (.dK ws)/\(∀ e∈fs,valV ws (.inr e.2.1)=some (q18 (cf e.2.1)))/\
 ∀ D ls ks H',RunOk H H' .cost cf (fs.map (·.2)) n D ls ks ->Q (.ref D) H'
theorem qv4 (T:Txt K mg):Def P w K mg base 12 "run" ["facts","rules","rounds","by","worths"] (qv3 K mg):=by
 refine T.t_run.ok quk (λ vs H Q E h=> ?_) λ f cdv A outer s H vs Q E hr h=> ?_
 ·obtain ⟨cf,a,b,o,wd,dx,n,fs,ws,rfl,_⟩:=h;rfl
 ·obtain ⟨cf,a,b,o,wd,dx,n,fs,ws,rfl,J,hb,n5,ho,hw,hc,q⟩:=h;refine ⟨_,(q2z
   (q1j (qf (qne T) hr rfl (pa_3 (pv 0) (pv 1) (pv 2))))
   (q1j (qf (qez T) hr rfl (pa_3 (q20 (N:=["name","table","row"]) (caps:=[none,none,none]) rfl (by with_unfolding_all rfl) (q14 K (pv 0)) (λ _ _ _ _ _=>(qdg K (n:=3) rfl (q13 (qh (i:=0) (show (["name","table","row"]:List Str).Nodup by decide+kernel) rfl (Or.inl rfl)) (q13 (qh (i:=1) (show (["name","table","row"]:List Str).Nodup by decide+kernel) rfl (Or.inl rfl)) (q13 (qh (i:=2) (show (["name","table","row"]:List Str).Nodup by decide+kernel) rfl (Or.inl rfl)) q33))))) (λ _ _ _ _ _=>q25) (λ _ _ _ _ _=>(pv 0))) (pv 3) (pv 4))))
   (qi (qf (qbh T) hr rfl (pa_5 (pv 0) (pv 1) (pv 2) (pv 3) (pv 4))))),?_⟩
  have ln:=J.ln;refine ⟨_,zr,_,zr,_,zr,a,b,n,fs,zr,J.ls,J.gd,J.nd,by omega,hb,by omega,by omega,λ H0 O=> ?_⟩;refine ⟨_,zr,a,zr,⟨_,O.seq J.ls⟩,λ D hD=> ?_⟩;refine q1k (fs.map (·.1)).length (λ i σ' Y=>(∃ v1 v2 v3,σ'=[v1,v2,v3])/\Same H0 Y/\Y D=some (.lst (((fs.map (·.2.1)).take i).map V.str))) ⟨⟨_,_,_,zr⟩,qb hD,q0⟩ (λ i σ' Y hi p=> ?_) (λ σ' Y p=>⟨?_,?_⟩) (λ i σ' Y hi p x E3 y=> ?_)
  ·exact ⟨_,_,(O.trans p.2.1).seq J.ls,z0c hi⟩
  ·exact ⟨_,(O.trans p.2.1).seq J.ls,z3q _⟩
  ·obtain ⟨_,sm,hE⟩:=p;rw [z2o,<- z2o (f:=λ x:V×FT=>x.2.1),z2h] at hE;have S:=O.trans sm;refine ⟨_,zr,_,zr,D,o,wd,dx,_,ws,zr,SqL.of hE,S _ _ ho,S _ _ hw,λ z hz=> ?_,?_⟩
   ·obtain ⟨e,he,rfl⟩:=z3n.mp hz;exact ⟨_,hc e he⟩
   ·have L:=J.same S;refine ⟨_,zr,_,zr,_,zr,_,zr,_,zr,.cost,cf,a,b,o,wd,n,fs,ws,zr,⟨L.ls,L.gd,L.nd,L.ln,⟨dx,S _ _ ho⟩,S _ _ hw,λ e he=>⟨_,hc e he,?_⟩⟩,S.seq hb,n5,λ D2 ls ks H2 ro=>q D2 ls ks H2 (ro.front S)⟩;show q18 _=q18 _;cases cf e.2.1 <;> rfl
  ·obtain ⟨⟨v1,v2,v3,rfl⟩,sm,hE⟩:=p;obtain ⟨rfl,hy⟩:=y;have a0:=hy _ ((O.trans sm).seq J.ls);rw [z1s] at a0;obtain ⟨e,Z,rfl⟩:=z0m.mp a0;obtain ⟨p,pq,ep,hp,hq⟩:=(J.gd e (z12 Z)).1;have a2:(fs.map (·.2.1))[i]? =some e.2.1:=by rw [z1s,Z];rfl
   refine ⟨p,_,ep,SqT.of ((O.trans sm) _ _ hp),zr,_,_,zr,_,_,zr,_,_,zr,zr,?_⟩;refine ⟨_,rfl,_,hE,by rw [z2o,z25];exact qz (by rw [z2o];omega),⟨_,_,_,rfl⟩,sm.set hD,?_⟩;rw [q0,z33,a2,z2t];rfl
theorem qwx:∀ c∈fur.cps.toList.take 26,c∈smaS.cps.toList:=by decide+kernel
def sgF (x:Int):Nat:=(atI fur.cps.toList x).getD 0
theorem qhc {x:Int} (h0:0<=x) (h1:x < 36):atI fur.cps.toList x=some (sgF x)/\sgF x∈fur.cps.toList/\(x < 26 ->sgF x∈smaS.cps.toList):=by
 have hl:fur.cps.toList.length=36:=by rw [q2p,qjp]
 obtain ⟨k,rfl⟩:=z0i h0;have L:k < fur.cps.toList.length:=by omega
 have e:=qp (z0c L);have e2:sgF (k:Int)=fur.cps.toList[k]:=by
  unfold sgF;rw [e];rfl
 rw [e2];refine ⟨e,z29 L,λ h=>qwx _ ?_⟩;have J:k < 26:=by omega
 exact z12 (i:=k) (by rw [List.getElem?_take,if_pos J,z0c L])
theorem qpv (ds:List Nat):(catS (ds.map λ d=>(⟨#[d]⟩:Str))).cps.toList=ds:=by
 unfold catS;rw [z1a,List.flatMap_map]
 induction ds with
 | nil=>rfl
 | cons d ds ih=>simpa using ih
theorem qpw (ds:List Nat):((ds.map λ d=>(⟨#[d]⟩:Str)).map (·.length)).sum=ds.length:=by
 induction ds with
 | nil=>rfl
 | cons d ds ih=>
  rw [z35,z35,List.sum_cons,ih,z27];show 1+_=_;omega
theorem qv5:∀ a b:Fin 36,sgF (a:Nat)=sgF (b:Nat) ->a=b:=by decide+kernel
theorem qsz {x y:Int} (x0:0<=x) (x1:x < 36) (y0:0<=y) (y1:y < 36) (h:sgF x=sgF y):x=y:=by
 obtain ⟨a,rfl⟩:=z0i x0;obtain ⟨b,rfl⟩:=z0i y0;have:=qv5 ⟨a,by omega⟩ ⟨b,by omega⟩ h;injection this with e;rw [e]
def nmL (bs:List Int) (j:Nat) (s:Int) (k:Nat):List Int:=bs.set j ((bs.getD j 0+k*s)%36)
def zS (k:Nat):Str:=if k < 36 then "" else "z"
def nmS (bs:List Int) (j:Nat) (s:Int) (k:Nat):Str:=catS ((nmL bs j s k).map λ x=>(⟨#[sgF x]⟩:Str))++zS k
theorem qnk (l:List Int):(catS (l.map λ x=>(⟨#[sgF x]⟩:Str))).cps.toList=l.map sgF:=by
 rw [show (l.map λ x=>(⟨#[sgF x]⟩:Str))=(l.map sgF).map λ d=>(⟨#[d]⟩:Str) by rw [z3p];rfl];exact qpv _
theorem qv6 (k:Nat):(zS k).cps.toList=if k < 36 then [] else [122]:=by
 unfold zS;split <;> decide+kernel
theorem q79 (bs:List Int) (j:Nat) (s:Int) (k:Nat):(nmS bs j s k).cps.toList=(nmL bs j s k).map sgF++(if k < 36 then [] else [122]):=by
 unfold nmS;rw [qpe,qnk,qv6]
theorem qpx {b s:Int} (h:s=1\/ s=5\/ s=7\/ s=11) {k m:Nat} (hk:k < 72) (hm:m < 72) (hz:k < 36↔m < 36) (e:(b+k*s)%36=(b+m*s)%36):k=m:=by
 rcases h with rfl | rfl | rfl | rfl <;> omega
theorem qv7 {bs:List Int} {j:Nat} {s:Int} (J:j < bs.length) (h:s=1\/ s=5\/ s=7\/ s=11) {k m:Nat} (hk:k < 72) (hm:m < 72) (e:nmS bs j s k=nmS bs j s m):k=m:=by
 have e1:(nmS bs j s k).cps.toList=(nmS bs j s m).cps.toList:=by rw [e]
 rw [q79,q79] at e1;have ln:∀ i,((nmL bs j s i).map sgF).length=bs.length:=λ i=>by rw [z2o,nmL,List.length_set]
 have hz:k < 36↔m < 36:=by
  have:=congrArg List.length e1;rw [z1f,z1f,ln,ln] at this;by_cases a:k < 36 <;> by_cases b:m < 36 <;> simp [a,b] at this ⊢
 have e2:=(List.append_inj e1 (by rw [ln,ln])).1;have e3:((nmL bs j s k).map sgF)[j]? =((nmL bs j s m).map sgF)[j]? :=by rw [e2]
 rw [z1s,z1s,nmL,nmL,List.getElem?_set_self J,List.getElem?_set_self J] at e3;have e4:sgF ((bs.getD j 0+k*s)%36)=sgF ((bs.getD j 0+m*s)%36):=Option.some.inj e3;exact qpx h hk hm hz (qsz (z2x _ (by decide)) (z1m _ (by decide)) (z2x _ (by decide)) (z1m _ (by decide)) e4)
def bsR (c:Int):List Int:=(List.range (2+c%10).toNat).map λ (j:Nat)=>(c / ((0+(j:Int))+2)+4*(0+(j:Int)))%36
def bsO (c:Int):List Int:=(bsR c).set 0 ((bsR c).getD 0 0%26)
def jO (c p:Int):Nat:=(1+p%(((bsO c).length:Int) - 1)).toNat
def sO (p:Int):Int:=match atI [V.int 1,.int 5,.int 7,.int 11] (p / 10%4) with
 | some (.int k)=>k
 | _=>1
def nmO (c p:Int) (k:Nat):Str:=nmS (bsO c) (jO c p) (sO p) k
theorem q7a (c:Int):(bsR c).length=(2+c%10).toNat:=by
 unfold bsR;rw [z2o,z1z]
theorem qdo (c:Int):(bsO c).length=(2+c%10).toNat:=by
 unfold bsO;rw [List.length_set,q7a]
theorem qv8 {c x:Int} (h:x∈bsR c):0<=x/\x < 36:=by
 obtain ⟨j,_,rfl⟩:=z3n.mp h;exact ⟨z2x _ (by decide),z1m _ (by decide)⟩
theorem qnl {c x:Int} (h:x∈bsO c):0<=x/\x < 36:=by
 unfold bsO at h;rcases List.mem_or_eq_of_mem_set h with h | rfl
 ·exact qv8 h
 ·have:=z2x ((bsR c).getD 0 0) (show (26:Int)≠0 by decide);have:=z1m ((bsR c).getD 0 0) (show (0:Int) < 26 by decide);omega
theorem c10 (c:Int):0<=c%10/\c%10 < 10:=⟨z2x c (by decide),z1m c (by decide)⟩
theorem qwy {c b:Int} (h:(bsO c)[0]? =some b):b < 26:=by
 unfold bsO at h;rw [List.getElem?_set_self (by rw [q7a];have:=c10 c;omega)] at h;cases h
 exact z1m _ (by decide)
theorem qqs (p:Int):atI [V.int 1,.int 5,.int 7,.int 11] (p / 10%4)=some (.int (sO p))/\(sO p=1\/ sO p=5\/ sO p=7\/ sO p=11):=by
 obtain ⟨v,J,L⟩:=q6y (xs:=[V.int 1,.int 5,.int 7,.int 11]) (i:=p / 10%4) (z2x _ (by decide)) (z1m _ (by decide));simp only [z37,z2g,or_false] at L;unfold sO;rcases L with rfl | rfl | rfl | rfl <;> rw [J] <;> simp
theorem ql6 (c p:Int):1+p%(((bsO c).length:Int) - 1)=((jO c p:Nat):Int)/\1<=jO c p/\jO c p < (bsO c).length:=by
 have h:=qdo c;have hc:=c10 c;have a0:=z2x p (show (((bsO c).length:Int) - 1)≠0 by omega);have a1:=z1m p (show (0:Int) < ((bsO c).length:Int) - 1 by omega);unfold jO;omega
theorem qt0 {c p:Int} {k m:Nat} (hk:k < 72) (hm:m < 72) (e:nmO c p k=nmO c p m):k=m:=qv7 (ql6 c p).2.2 (qqs p).2 hk hm e
theorem q7z (c p:Int) (k:Nat):txtB smaS (nmO c p k)=true:=by
 have hbl:=qdo c;have hc:=c10 c;have hj:=(ql6 c p).2.1;have h2:2<=(bsO c).length:=by omega
 have h0:=λ b=>qwy (c:=c) (b:=b);have Z:=λ b (h:b∈bsO c)=>qnl h;have h11:(bsO c).length<=11:=by omega
 unfold nmO;generalize bsO c=bs at*;generalize jO c p=j at*;generalize sO p=s at*;have O:(nmS bs j s k).length=bs.length+(if k < 36 then 0 else 1):=by
  rw [<- q2p,q79,z1f,z2o,nmL,List.length_set];split <;> rfl
 have Y:(122:Nat)∈fur.cps.toList:=by decide+kernel
 have hg:∀ x∈nmL bs j s k,0<=x/\x < 36:=λ x hx=>by
  unfold nmL at hx;rcases List.mem_or_eq_of_mem_set hx with hx | rfl
  ·exact Z x hx
  ·exact ⟨z2x _ (by decide),z1m _ (by decide)⟩
 have J:∀ d∈(nmS bs j s k).cps.toList,d∈fur.cps.toList:=λ d hd=>by
  rw [q79] at hd;rcases z2i.mp hd with hd | hd
  ·obtain ⟨x,hx,rfl⟩:=z3n.mp hd;exact (qhc (hg x hx).1 (hg x hx).2).2.1
  ·split at hd
   ·cases hd
   ·rw [z1d.mp hd];exact Y
 obtain ⟨d,r,e,hd⟩:∃ d r,(nmS bs j s k).cps.toList=d::r/\d∈smaS.cps.toList:=by
  match bs,h2,h0 with
  | b::r,_,h0=>
   have L:=Z b (z1g ..);have e:nmL (b::r) j s k=b::(r.set (j - 1) (((b::r).getD j 0+k*s)%36)):=by
    unfold nmL;obtain ⟨i,rfl⟩:∃ i,j=i+1:=⟨j - 1,by omega⟩;rfl
   exact ⟨sgF b,_,by rw [q79,e,z35,List.cons_append],(qhc L.1 L.2).2.2 (h0 b rfl)⟩
 unfold txtB;rw [e,z2y (show 1<=(nmS bs j s k).length by rw [O];omega),z2y (show (nmS bs j s k).length<=12 by rw [O];split <;> omega)];show (decide _&&_)=true;rw [z2y hd,Bool.true_and];exact z2c.mpr λ x hx=>z2y (J x (by rw [e];exact z10 _ hx))
theorem z_at {i:Nat} (h:i < 72):atI [V.str "",.str "z"] ((i:Int) / 36)=some (V.str (zS i)):=by
 unfold zS;by_cases q:i < 36
 ·rw [if_pos q,show ((i:Int) / 36)=((0:Nat):Int) by omega];exact qp rfl
 ·rw [if_neg q,show ((i:Int) / 36)=((1:Nat):Int) by omega];exact qp rfl
def qv9:Sp:=λ vs H Q _=>∃ (c p:Int) (k:Nat),vs=[.int c,.int p,.int k]/\k < 72/\∀ H',Same H H' ->Q (.str (nmO c p k)) H'
theorem q4h (T:Txt K mg):Def P w K mg base 1 "_law_name" ["_law_cell","_law_place","_law_k"] qv9:=by
 refine T.qii.ok q4d (λ vs H Q E h=> ?_) λ f cdv A outer s H vs Q E hr h=> ?_
 ·obtain ⟨c,p,k,rfl,_⟩:=h;rfl
 ·obtain ⟨c,p,i,rfl,k72,k⟩:=h;have a0:fur.length<=sizeLine:=by rw [qjp];decide
  refine ⟨_,(qkh
   (qr (i:=3) q4d.nd rfl (Or.inr rfl) q6r)
   (q5l (i:=4) q4d.nd rfl rfl (N:=["_law_j","_law_cell"]) (caps:=[none,some 0]) rfl (by with_unfolding_all rfl) (q2l rfl T.q3g (pa_1 (qk q21 qa (qk q1q (pv 0) qa)))) (λ _ _ _ _ _=>(qh (i:=0) (show (["_law_j","_law_cell"]:List Str).Nodup by decide+kernel) rfl (Or.inl rfl))) (λ _ _ _ _ _=>q25) (λ _ _ _ _ _=>(qk q1q (qk q21 (qk q2r (pv 1) (qk q21 (pv 0) qa)) (qk q5q qa (pv 0))) qa)))
   (qlu (qk q1q (qm (qx K) (pv 4) qa (λ _ _=>rfl)) qa) (qlt (pv 4) qa qg2))
   (qr (i:=5) q4d.nd rfl (Or.inl rfl) (qk q21 qa (qk q1q (pv 1) (qk qlx (ql (q1g K) rfl T.b_len q1u (pa_1 (pv 4))) qa))))
   (qlu (qk q1q (qk q21 (qm (qx K) (pv 4) (pv 5) (λ _ _=>rfl)) (qk q5q (pv 2) (qm (qx K) (q1l (pa_4 qa qa qa qa)) (qk q1q (qk q2r (pv 1) qa) qa) (λ _ _=>rfl)))) qa) (qlt (pv 4) (pv 5) qg2))
   (qi (qk qk6 (q3c PySem.F.plainAttrs_str PySem.F.slot_str_join PySem.F.type_str_join (qp1 K) q6r (pa_1 (q20 (N:=["_law_x","_law_later"]) (caps:=[none,some 3]) rfl (by with_unfolding_all rfl) (q14 K (pv 4)) (λ _ _ _ _ _=>(qh (i:=0) (show (["_law_x","_law_later"]:List Str).Nodup by decide+kernel) rfl (Or.inl rfl))) (λ _ _ _ _ _=>q25) (λ _ _ _ _ _=>(qm qm6 (pv 1) (pv 0) (λ _ _=>rfl)))))) (qm (qx K) (q1l (pa_2 q6r q6r)) (qk q2r (pv 2) qa) (λ _ _=>rfl))))),?_⟩
  have hc:=c10 c;refine ⟨_,rfl,_,_,rfl,rfl,(by show (0:Int) < 10;decide),_,_,rfl,rfl,_,rfl,by omega,by omega,λ D hD=> ?_⟩;refine q1k (2+c%10).toNat (λ i σ' H'=>(∃ v,σ'=[v,some (.int c)])/\Same H H'/\H' D=some (.lst (((bsR c).take i).map V.int))) ⟨⟨_,zr⟩,qb hD,q0⟩ (λ i σ' H' hi p=>hi) (λ σ' H' p=>⟨z3q _,?_⟩) (λ i σ' H' hi p x H2 y=> ?_)
  ·obtain ⟨_,s1,O⟩:=p;rw [<- q7a,z2h] at O;have e0:(bsR c)[0]? =some ((bsR c).getD 0 0):=by
    rw [z05,z0c (by rw [q7a];omega)];rfl
   refine ⟨_,rfl,_,_,_,_,rfl,rfl,SqL.of O,qp (j:=0) (by rw [z1s,e0];rfl),_,_,rfl,rfl,(by show (0:Int) < 26;decide),?_⟩;refine ⟨_,rfl,D,_,0,0,rfl,rfl,O,(by unfold ixN;rw [if_pos (z3s 0),if_pos (by rw [z2o,q7a];omega)];rfl),?_⟩;have eb:((bsR c).map V.int).set 0 ((λ i j=>V.int (i%j)) ((bsR c).getD 0 0) 26)=(bsO c).map V.int:=by
    unfold bsO;rw [List.map_set]
   rw [eb];have s2:Same H (upd H' D (.lst ((bsO c).map V.int))):=s1.set hD;have L:upd H' D (.lst ((bsO c).map V.int)) D=some (.lst ((bsO c).map V.int)):=q0;generalize upd H' D (.lst ((bsO c).map V.int))=G at*;have hbl:=qdo c;refine ⟨_,rfl,_,rfl,_,_,rfl,.inl ⟨_,SqL.of L,rfl⟩,_,_,rfl,rfl,_,_,rfl,rfl,by rw [z2o];omega,_,_,rfl,rfl,?_⟩;rw [z2o];show q66 5 (V.int (1+p%(((bsO c).length:Int) - 1))) _ _ _;obtain ⟨hj,j1,jl⟩:=ql6 c p;rw [hj];obtain ⟨a6,h4⟩:=qqs p;have a5:=λ x (h:x∈bsO c)=>qnl h;unfold nmO at k;generalize jO c p=j at*;generalize sO p=sp at*;generalize bsO c=bs at*;have bj:bs.getD j 0=bs[j]:=by rw [z05,z0c jl];rfl
   have a2:atI (bs.map V.int) (j:Int)=some (V.int bs[j]):=qp (by rw [z1s,z0c jl];rfl);refine ⟨_,rfl,_,rfl,_,_,_,_,rfl,rfl,SqL.of L,a2,_,rfl,by show 4<=sizeLine;decide,λ r2 a7=> ?_⟩;have s5:=qb (o:=HO.lst [V.int 1,.int 5,.int 7,.int 11]) a7;have a8:=s5 _ _ L;refine ⟨_,rfl,_,_,rfl,rfl,⟨by decide,by decide⟩,_,_,rfl,rfl,(by show (0:Int) < 4;decide),_,_,_,_,rfl,rfl,SqL.of q0,a6,_,_,rfl,rfl,.inl ⟨by omega,by omega⟩,_,_,rfl,rfl,_,_,rfl,rfl,(by show (0:Int) < 36;decide),?_⟩;refine ⟨_,rfl,_,rfl,D,_,(j:Int),j,rfl,rfl,a8,(by unfold ixN;rw [if_pos (by omega),if_pos (by rw [z2o];omega)];simp),?_⟩;have el:(bs.map V.int).set j (V.int ((bs[j]+(i:Int)*sp)%36))=(nmL bs j sp i).map V.int:=by
    unfold nmL;rw [List.map_set,bj]
   show _;rw [el];have s6:Same H (upd (upd G r2 (.lst [V.int 1,.int 5,.int 7,.int 11])) D (.lst ((nmL bs j sp i).map V.int))):=(s2.trans s5).set hD;have J:upd (upd G r2 (.lst [V.int 1,.int 5,.int 7,.int 11])) D (.lst ((nmL bs j sp i).map V.int)) D=some (.lst ((nmL bs j sp i).map V.int)):=q0;generalize upd (upd G r2 (.lst [V.int 1,.int 5,.int 7,.int 11])) D (.lst ((nmL bs j sp i).map V.int))=H6 at*;have hg:∀ x∈nmL bs j sp i,0<=x/\x < 36:=λ x hx=>by
    unfold nmL at hx;rcases List.mem_or_eq_of_mem_set hx with hx | rfl
    ·exact a5 x hx
    ·exact ⟨z2x _ (by decide),z1m _ (by decide)⟩
   have a9:(nmL bs j sp i).length=bs.length:=by unfold nmL;rw [List.length_set]
   refine ⟨zr,_,zr,D,zr,⟨_,SqL.of J⟩,λ E hE=> ?_⟩;refine q1k ((nmL bs j sp i).map V.int).length (λ m σ' H'=>(∃ v,σ'=[v,some (.str fur)])/\Same H6 H'/\H' E=some (.lst ((((nmL bs j sp i).take m).map λ x=>(⟨#[sgF x]⟩:Str)).map V.str))) ⟨⟨_,zr⟩,qb hE,q0⟩ (λ m σ' H' hm p=> ?_) (λ σ' H' p=>⟨?_,?_⟩) (λ m σ' H' hm p x H7 y=> ?_)
   ·obtain ⟨_,sm,_⟩:=p;exact ⟨_,((nmL bs j sp i).map V.int)[m],SqL.of (sm _ _ J),z0c hm⟩
   ·obtain ⟨_,sm,_⟩:=p;exact ⟨_,SqL.of (sm _ _ J),z3q _⟩
   ·obtain ⟨_,s7,he⟩:=p;rw [z2o,z2h] at he;have e1:((nmL bs j sp i).map λ x=>(⟨#[sgF x]⟩:Str))=((nmL bs j sp i).map sgF).map λ d=>(⟨#[d]⟩:Str):=by rw [z3p];rfl
    have lc:(catS ((nmL bs j sp i).map λ x=>(⟨#[sgF x]⟩:Str))).length=bs.length:=by rw [<- q2p,qnk,z2o,a9]
    refine ⟨E,_,rfl,rfl,SqL.of he,by rw [e1,qpw,z2o];omega,?_⟩;refine ⟨by show 2<=sizeLine;decide,λ l hl=> ?_⟩;have s8:=qb (o:=HO.lst [V.str "",.str "z"]) hl;have lz:(zS i).length<=1:=by unfold zS;split <;> decide+kernel
    exact ⟨_,rfl,_,_,rfl,rfl,⟨by decide,by decide⟩,_,_,_,_,rfl,rfl,SqL.of q0,z_at (by omega),_,_,rfl,rfl,z3j (show _+(zS i).length<=1000 by rw [lc];omega) (by decide),k _ (s6.trans (s7.trans s8))⟩
   ·obtain ⟨⟨v,rfl⟩,sm,he⟩:=p;obtain ⟨rfl,hx⟩:=y;have Y:=hx _ (SqL.of (sm _ _ J));rw [z1s] at Y;obtain ⟨z,Z,rfl⟩:=z0m.mp Y;have g:=hg z (z12 Z);rw [z2o] at hm;refine ⟨_,zr,_,zr,_,_,_,zr,zr,a0,(qhc g.1 g.2).1,?_⟩;refine ⟨_,he,by rw [z2o,z2o,z25];exact qz (by omega),⟨_,rfl⟩,sm.set hE,?_⟩;rw [q0,z33,Z,z2t,z2t];rfl
  ·obtain ⟨⟨v,rfl⟩,s1,O⟩:=p;obtain ⟨rfl,rfl⟩:=y;have a3:(bsR c)[i]? =some ((c / ((0+(i:Int))+2)+4*(0+(i:Int)))%36):=by
    unfold bsR;rw [z1s,List.getElem?_range hi];rfl
   refine ⟨_,rfl,_,rfl,_,_,rfl,rfl,_,_,rfl,rfl,⟨by omega,by omega⟩,_,rfl,_,_,rfl,rfl,.inl ⟨by decide,by decide⟩,_,_,rfl,rfl,_,_,rfl,rfl,(by show (0:Int) < 36;decide),?_⟩;refine ⟨_,O,by rw [z2o,z25];exact qz (by omega),⟨_,rfl⟩,s1.set hD,?_⟩;rw [q0,z33,a3,z2t];rfl
theorem qju:∀ c∈fur.cps.toList,q9t q9v ⟨#[c]⟩=if c < 58 then (c:Int) - 48 else (c:Int) - 87:=by decide+kernel
theorem qjv:∀ c∈fur.cps.toList,(48<=c/\c<=57)\/ (97<=c/\c<=122):=by decide+kernel
theorem qpy {c d:Nat} (J:c∈fur.cps.toList) (hd:d∈fur.cps.toList):decide (q9t q9v ⟨#[c]⟩ < q9t q9v ⟨#[d]⟩)=decide (c < d):=by
 rw [qju c J,qju d hd];have h1:=qjv c J;have h2:=qjv d hd
 apply decide_eq_decide.mpr
 split <;> split <;> omega
theorem qva:∀ c∈fur.cps.toList,c < 128:=by decide+kernel
theorem Wz.asc {n:Nat} {z:Str} (h:Wz n z):Asc z:=λ c hc=>qva c (h.2 c hc)
theorem qt1 {c d:Nat} (h:V.str ⟨#[c]⟩=V.str ⟨#[d]⟩):c=d:=by
 injection h with e;injection e with e
 simpa using e
theorem qnm (x y:Str):strLt x y=Tim.lexB (λ a b:Nat=>decide (a < b)) x.cps.toList y.cps.toList:=Tim.qd3 _ _
def qnn:Sp:=λ vs H Q _=>∃ a b:Key,vs=[kV a,kV b]/\OkK a/\OkK b/\∀ H',Same H H' ->Q (.bl (befK a b)) H'
theorem q4k (T:Txt K mg):Def P w K mg base 1 "_law_value_ahead" ["_law_one","_law_other"] qnn:=by
  refine T.q9h.ok q2i (λ vs H Q E h=> ?_) λ f cdv A outer s H vs Q E hr h=> ?_
  · obtain ⟨a,b,rfl,_⟩:=h
    rfl
  · obtain ⟨a,b,rfl,ha,hb,k⟩:=h
    refine ⟨_,(qkg
      (q1m (q1a q7d (ql (q7i K) rfl T.q1f q1c (pa_2 (pv 0) (q3e rfl T.b_str qc4))) (ql (q7i K) rfl T.q1f q1c (pa_2 (pv 1) (q3e rfl T.b_str qc4))) (q17 _)) (qg (qi (ql (q7i K) rfl T.q1f q1c (pa_2 (pv 1) (q3e rfl T.b_str qc4))))) q15)
      (q1m (q2b (ql (q7i K) rfl T.q1f q1c (pa_2 (pv 0) (q3e rfl T.b_int qml)))) (qg (qi (q43 q9o (pv 0) (pv 1) (q17 _)))) q15)
      (qr (i:=2) q2i.nd rfl (Or.inl rfl) q6r)
      (q1s PassesOwn.never rfl (qs3 rfl T.b_zip (pa_2 (pv 0) (pv 1))) (q51 rfl (q13 (qh (i:=3) q2i.nd rfl (Or.inl rfl)) (q13 (qh (i:=4) q2i.nd rfl (Or.inl rfl)) q33))) (qg (q1m (q1a q7d (pv 3) (pv 4) (q17 _)) (qg (qi (q43 q9o (q3c PySem.F.plainAttrs_str PySem.F.slot_str_find PySem.F.type_str_find qjb (pv 2) (pa_1 (pv 3))) (q3c PySem.F.plainAttrs_str PySem.F.slot_str_find PySem.F.type_str_find qjb (pv 2) (pa_1 (pv 4))) (q17 _)))) q15)))
      (qi (q43 q9o (ql (q1g K) rfl T.b_len q1u (pa_1 (pv 0))) (ql (q1g K) rfl T.b_len q1u (pa_1 (pv 1))) (q17 _)))),?_⟩
    have Z:=k H (Same.refl H);cases a with
    | inl i=>
      cases b with
      | inl j=>
        refine ⟨_,zr,_,_,_,zr,.int i,by decide,by decide,_,zr,_,_,_,zr,.int j,by decide,by decide,zr,_,zr,q1d rfl ?_⟩;exact ⟨_,zr,_,_,_,zr,.int i,by decide,by decide,_,zr,q3v rfl ⟨_,zr,_,zr,_,_,zr,zr,Z⟩⟩
      | inr y=>
        refine ⟨_,zr,_,_,_,zr,.int i,by decide,by decide,_,zr,_,_,_,zr,.str y,by decide,by decide,zr,_,zr,q3v rfl ?_⟩;exact ⟨_,zr,_,_,_,zr,.str y,by decide,by decide,Z⟩
    | inr x=>
      cases b with
      | inl j=>
        refine ⟨_,zr,_,_,_,zr,.str x,by decide,by decide,_,zr,_,_,_,zr,.int j,by decide,by decide,zr,_,zr,q3v rfl ?_⟩;exact ⟨_,zr,_,_,_,zr,.int j,by decide,by decide,Z⟩
      | inr y=>
        have hx:Wz 40 x:=ha;have hy:Wz 40 y:=hb;have xs:x.length<=sizeLine:=z3j hx.1 (by decide);have ys:y.length<=sizeLine:=z3j hy.1 (by decide);have k:∀ H',Same H H' ->Q (.bl (strLt x y)) H':=k;refine ⟨_,zr,_,_,_,zr,.str x,by decide,by decide,_,zr,_,_,_,zr,.str y,by decide,by decide,zr,_,zr,q1d rfl ?_⟩;refine ⟨_,zr,_,_,_,zr,.str x,by decide,by decide,_,zr,q1d rfl ?_⟩;refine ⟨_,zr,_,zr,x,y,zr,hx.asc,hy.asc,qp8 (λ i σ H'=>∃ (v1 v2:Option V),σ=[some (.str x),some (.str y),some (.str q9v),v1,v2]/\Same H H'/\x.cps.toList.take i=y.cps.toList.take i) ⟨none,none,zr,Same.refl _,zr⟩ ?_ ?_⟩
        · rintro i c d p σ H1 hc hd hp ⟨v1,v2,rfl,sm,L⟩
          have O:x.cps.toList[i]? =some c:=by rw [z0t];exact hc
          have Y:y.cps.toList[i]? =some d:=by rw [z0t];exact hd
          have s3:=qb (o:=HO.tup [.str ⟨#[c]⟩,.str ⟨#[d]⟩]) hp;refine ⟨p,_,zr,SqT.of q0,zr,_,_,zr,_,_,zr,zr,?_⟩;refine ⟨_,zr,_,zr,zr,_,zr,ite2 (λ h=> ?_) (λ h=> ?_)⟩
          · have hn:c≠d:=λ e=>by
              subst e;rw [z2y rfl] at h;cases h
            have J:=k _ (sm.trans s3);rw [qnm,Tim.qd4 i _ _ _ _ L O Y hn,<- qpy (hx.2 _ (z12 O)) (hy.2 _ (z12 Y))] at J;exact ⟨_,zr,zr,_,zr,q9v,_,zr,zr,_,zr,zr,_,zr,q9v,_,zr,zr,_,_,zr,zr,J⟩
          · have he:c=d:=by
              by_cases e:c=d
              · exact e
              · exact absurd (by rw [z2k λ z=>e (qt1 z)];rfl) h
            refine ⟨_,_,zr,sm.trans s3,?_⟩;rw [z33,z33,L,O,Y,he]
        · rintro σ H1 ⟨v1,v2,rfl,sm,L⟩
          have J:=k _ sm;rw [qnm,Tim.qb1 _ _ (by rw [q2p,q2p];exact L),q2p,q2p] at J;have e2:decide ((x.length:Int) < (y.length:Int))=decide (x.length < y.length):=decide_eq_decide.mpr (by omega);rw [<- e2] at J;exact ⟨_,zr,_,_,zr,⟨xs,zr⟩,_,zr,_,_,zr,⟨ys,zr⟩,_,_,zr,zr,J⟩
theorem qjw (a b:Key):scal (kV a) (kV b)=true:=by cases a <;> cases b <;> rfl
def qvb:Sp:=λ vs H Q _=>∃ (a b:Addr) (p r:PR),vs=[.ref a,.ref b]/\NAt H (pN p) (.ref a)/\NAt H (pN r) (.ref b)/\PrGood p/\PrGood r/\∀ H',Same H H' ->Q (.bl (prLt p r)) H'
theorem qf0 (T:Txt K mg):Def P w K mg base 2 "_law_ahead" ["_law_one","_law_other"] qvb:=by
  refine T.qhj.ok q59 (λ vs H Q E h=> ?_) λ f cdv A outer s H vs Q E hr h=> ?_
  · obtain ⟨a,b,p,r,rfl,_⟩:=h
    rfl
  · obtain ⟨a,b,Y,Z,rfl,ha,hb,g1,g2,k⟩:=h
    obtain ⟨pa,L,a0⟩:=pr_at.mp ha;obtain ⟨pb,O,a2⟩:=pr_at.mp hb;refine ⟨_,(q2z
      (q1m (q1a q7d (qm (q11 K) (pv 0) qa (λ _ _=>rfl)) (qm (q11 K) (pv 1) qa (λ _ _=>rfl)) (q17 _)) (qg (qi (qf (q4k T) hr rfl (pa_2 (qm (q11 K) (pv 0) qa (λ _ _=>rfl)) (qm (q11 K) (pv 1) qa (λ _ _=>rfl)))))) q15)
      (q1s PassesOwn.never rfl (quc K rfl T.b_zip (pa_2 (qm (q11 K) (pv 0) qa (λ _ _=>rfl)) (qm (q11 K) (pv 1) qa (λ _ _=>rfl)))) (q51 rfl (q13 (qh (i:=2) q59.nd rfl (Or.inl rfl)) (q13 (qh (i:=3) q59.nd rfl (Or.inl rfl)) q33))) (qg (q1m (q1a q7d (pv 2) (pv 3) (q17 _)) (qg (qi (qf (q4k T) hr rfl (pa_2 (pv 2) (pv 3))))) q15)))
      (qi (q43 q9o (ql (q1g K) rfl T.b_len q1u (pa_1 (qm (q11 K) (pv 0) qa (λ _ _=>rfl)))) (ql (q1g K) rfl T.b_len q1u (pa_1 (qm (q11 K) (pv 1) qa (λ _ _=>rfl)))) (q17 _)))),?_⟩
    refine ⟨_,zr,_,_,_,_,zr,zr,SqT.of L,qp (j:=0) rfl,_,zr,_,_,_,_,zr,zr,SqT.of O,qp (j:=0) rfl,qjw (.inr Y.1) (.inr Z.1),_,zr,ite2 (λ h=> ?_) (λ h=> ?_)⟩
    · have hn:Y.1≠Z.1:=λ e=>by
        rw [e,z2y rfl] at h;cases h
      refine ⟨_,zr,_,_,_,_,zr,zr,SqT.of L,qp (j:=0) rfl,_,zr,_,_,_,_,zr,zr,SqT.of O,qp (j:=0) rfl,.inr Y.1,.inr Z.1,zr,GoodK.ok (k:= .inr Y.1) g1.1,GoodK.ok (k:= .inr Z.1) g2.1,λ H' s'=> ?_⟩;have J:=k H' s';unfold prLt at J;rw [if_neg hn] at J;exact J
    · have he:Y.1=Z.1:=by
        by_cases e:Y.1=Z.1
        · exact e
        · exact absurd (by rw [z2k λ z=>e (by injection z)];rfl) h
      have k:∀ H',Same H H' ->Q (.bl (q7v Y.2 Z.2)) H':=λ H' s'=>by
        have:=k H' s';unfold prLt at this;rw [if_pos he] at this;exact this
      have o1:∀ k∈Y.2,OkK k:=λ k hk=>(g1.2.2 k hk).ok;have o2:∀ k∈Z.2,OkK k:=λ k hk=>(g2.2.2 k hk).ok;have ha:=SqT.of (K:=K) a0;have hb:=SqT.of (K:=K) a2;generalize Y.2=ks at*;generalize Z.2=js at*;refine ⟨_,rfl,_,_,_,_,rfl,rfl,SqT.of L,qp (j:=1) rfl,_,rfl,_,_,_,_,rfl,rfl,SqT.of O,qp (j:=1) rfl,pa,pb,rfl,⟨_,ha⟩,⟨_,hb⟩,qs2 (xs:=ks.map kV) (ys:=js.map kV) (λ i σ H'=>∃ (v1 v2:Option V),σ=[some (.ref a),some (.ref b),v1,v2]/\Same H H'/\ks.take i=js.take i) ⟨none,none,rfl,Same.refl _,rfl⟩ (λ i σ H' _ p=>by obtain ⟨_,_,_,z,_⟩:=p;exact ⟨z.seqT ha,z.seqT hb⟩) ?_ ?_⟩
      · rintro i x y p σ H1 hx hy hp ⟨v1,v2,rfl,sm,et⟩
        rw [z1s] at hx hy;obtain ⟨t,ht,rfl⟩:=z0m.mp hx;obtain ⟨u,hu,rfl⟩:=z0m.mp hy;have s3:=qb (o:=HO.tup [kV t,kV u]) hp;refine ⟨p,_,zr,SqT.of q0,zr,_,_,zr,_,_,zr,zr,?_⟩;refine ⟨_,zr,_,zr,qjw t u,_,zr,ite2 (λ h=> ?_) (λ h=> ?_)⟩
        · have hn:t≠u:=λ e=>by
            subst e;rw [z2y rfl] at h;cases h
          refine ⟨_,zr,_,zr,t,u,zr,o1 t (z12 ht),o2 u (z12 hu),λ H' s'=> ?_⟩;have J:=k _ (sm.trans (s3.trans s'));rw [q7v,Tim.qd4 i _ _ _ _ et ht hu hn] at J;exact J
        · have he:t=u:=by
            by_cases e:t=u
            · exact e
            · exact absurd (by rw [z2k λ z=>e (qm7 z)];rfl) h
          refine ⟨_,_,zr,sm.trans s3,?_⟩;rw [z33,z33,et,ht,hu,he]
      · rintro σ H1 ⟨v1,v2,rfl,sm,et⟩
        rw [z2o,z2o] at et;have J:=k _ sm;rw [q7v,Tim.qb1 _ _ et] at J;have e2:decide ((ks.length:Int) < (js.length:Int))=decide (ks.length < js.length):=decide_eq_decide.mpr (by omega);rw [<- e2] at J;exact ⟨_,zr,_,_,_,_,zr,zr,SqT.of (sm _ _ L),qp (j:=1) rfl,_,_,zr,.inr ⟨_,sm.seqT ha,by rw [z2o]⟩,_,zr,_,_,_,_,zr,zr,SqT.of (sm _ _ O),qp (j:=1) rfl,_,_,zr,.inr ⟨_,sm.seqT hb,by rw [z2o]⟩,_,_,zr,zr,J⟩
open Classical in
noncomputable def insP (ps : List PR) (p : PR) : List PR := if p ∈ ps then ps else ps.takeWhile (fun r => prLt r p) ++ p :: ps.dropWhile (fun r => prLt r p)
noncomputable def plcP (l : List PR) : List PR := l.foldl insP []
theorem qpz {ps:List PR} {p q:PR}:q∈insP ps p↔q∈ps\/ q=p:=by
 unfold insP;split
 ·rename_i h;exact ⟨.inl,λ z=>z.elim id λ e=>e ▸ h⟩
 ·have e:=List.takeWhile_append_dropWhile (p:=λ r:PR=>prLt r p) (l:=ps)
  constructor
  ·intro h;rcases z2i.mp h with h | h
   ·exact .inl (List.takeWhile_subset _ h)
   ·rcases z37.mp h with h | h
    ·exact .inr h
    ·exact .inl (List.dropWhile_subset _ h)
  ·rintro (h | rfl)
   ·rw [<- e] at h;rcases z2i.mp h with h | h
    ·exact z11 _ h
    ·exact z0s _ (z10 _ h)
   ·exact z0s _ (z1g ..)
theorem qq0 {ps:List PR} {p:PR} (h:ps.Pairwise λ a b=>prLt a b=true):(insP ps p).Pairwise λ a b=>prLt a b=true:=by
 unfold insP;split
 ·exact h
 ·rename_i c;have L:∀ r∈ps,r≠p:=λ r hr z=>c (z ▸ hr);have hw:∀ r∈ps.takeWhile (λ r=>prLt r p),prLt r p=true:=λ r hr=>z2c.mp List.all_takeWhile r hr;have hd:∀ r∈ps.dropWhile (λ r=>prLt r p),prLt p r=true:=λ r hr=>by
   have Y:=h.sublist (List.dropWhile_sublist (λ r:PR=>prLt r p));have sub:=List.dropWhile_subset (l:=ps) (λ r:PR=>prLt r p);cases q:ps.dropWhile (λ r:PR=>prLt r p) with
   | nil=>rw [q] at hr;cases hr
   | cons y l=>
    rw [q] at hr Y sub;have ny:prLt y p=false:=by
     have:=List.head?_dropWhile_not (λ r:PR=>prLt r p) ps;rw [q] at this;exact this
    have ey:prLt p y=true:=by
     cases z:prLt p y with
     | true=>rfl
     | false=>exact absurd (q4f.tri _ _ ny z) (L y (sub (z1g ..)))
    rcases z37.mp hr with rfl | hr
    ·exact ey
    ·exact q4f.tr _ _ _ ey ((z1h.mp Y).1 r hr)
  refine z0v.mpr ⟨h.sublist (List.takeWhile_sublist _),z1h.mpr ⟨hd,h.sublist (List.dropWhile_sublist _)⟩,λ a O b J=> ?_⟩;rcases z37.mp J with rfl | J
  ·exact hw a O
  ·exact q4f.tr _ _ _ (hw a O) (hd b J)
theorem q6f (l:List PR) (p:PR):plcP (l++ [p])=insP (plcP l) p:=by
 unfold plcP;rw [z24];rfl
theorem q80 (l:List PR):(plcP l).Pairwise λ a b=>prLt a b=true:=by
 refine q4q (C:=λ l=>(plcP l).Pairwise λ a b=>prLt a b=true) List.Pairwise.nil (λ l x ih=> ?_) l;rw [q6f];exact qq0 ih
theorem qbk (l:List PR) (q:PR):q∈plcP l↔q∈l:=by
 refine q4q (C:=λ l=>q∈plcP l↔q∈l) Iff.rfl (λ l x ih=> ?_) l;rw [q6f,qpz,ih,z2i,z1d]
theorem qvc {ps:List PR} (h:ps.Pairwise λ a b=>prLt a b=true):ps.Pairwise λ a b=>prLt b a=false:=h.imp λ {a b} J=>by
 cases z:prLt b a with
 | false=>rfl
 | true=>
  have:=q4f.tr _ _ _ J z;rw [q4f.irr] at this;cases this
theorem qqt {ps:List PR} (h:ps.Pairwise λ a b=>prLt a b=true):ps.Nodup:=List.Pairwise.imp (λ {a b} J e=>by
 rw [e,q4f.irr] at J;cases J) h
theorem qjx:∀ {a b:List PR},a.Nodup ->b.Nodup ->(∀ x,x∈a↔x∈b) ->a.Perm b
 | [],b,_,_,h=>by
  cases b with
  | nil=>exact .nil
  | cons y b=>exact absurd ((h y).mpr (z1g ..)) (z2g)
 | x::a,b,J,n2,h=>by
  obtain ⟨x1,J⟩:=z2q.mp J;have hx:=(h x).mp (z1g ..);obtain ⟨O,Y,rfl⟩:=List.append_of_mem hx;have L:(x::(O++Y)).Nodup:=(List.perm_middle.nodup_iff).mp n2;obtain ⟨x2,L⟩:=z2q.mp L;refine ((qjx J L λ y=> ?_).cons x).trans List.perm_middle.symm;have hy:=h y
  constructor
  ·intro z;have:=hy.mp (z10 _ z);rcases z2i.mp this with q | q
   ·exact z11 _ q
   ·rcases z37.mp q with rfl | q
    ·exact absurd z x1
    ·exact z0s _ q
  ·intro z;have:y∈O++x::Y:=by
    rcases z2i.mp z with q | q
    ·exact z11 _ q
    ·exact z0s _ (z10 _ q)
   rcases z37.mp (hy.mpr this) with rfl | q
   ·exact absurd z x2
   ·exact q
theorem qt2 {ks l:List PR} (nd:ks.Nodup) (h:∀ p,p∈ks↔p∈l):Tim.srt prLt ks=plcP l:=
 (Tim.q8v q4f (qjx (qqt (q80 l)) nd λ x=>(qbk l x).trans (h x).symm) (qvc (q80 l))).symm
theorem Sm.keys {H H':Hp} {k:By} {cf:Str ->Option Int} {l:List FT} {kvs:List (PR×V)} (h:Sm H H' k cf l kvs) (p:PR):p∈kvs.map (·.1)↔p∈l.map (·.2):=by
 have e1:evs cf p l=[]↔p∉l.map (·.2):=by
  unfold evs;rw [List.map_eq_nil_iff,List.filter_eq_nil_iff]
  constructor
  ·intro z hp;obtain ⟨f,J,e⟩:=z3n.mp hp;exact z f J (z2y e)
  ·intro z f J e;exact z (z3n.mpr ⟨f,J,of_decide_eq_true e⟩)
 have e2:valV kvs p=none↔p∉kvs.map (·.1):=by
  refine ⟨qbg,λ z=> ?_⟩;cases q:valV kvs p with
  | none=>rfl
  | some v=>
   have:(kvs.any λ O=>decide (O.1=p))=true:=by rw [q2n,q];rfl
   obtain ⟨O,L,e⟩:=z2e.mp this;exact absurd (z3n.mpr ⟨O,L,of_decide_eq_true e⟩) z
 rcases h.at_ p with ⟨a,b⟩ | ⟨v,a,b,_⟩
 ·exact ⟨λ z=>absurd z (e2.mp a),λ z=>absurd z (e1.mp b)⟩
 ·refine ⟨λ _=> ?_,λ _=> ?_⟩
  ·exact Classical.byContradiction λ z=>b (e1.mpr z)
  ·exact Classical.byContradiction λ z=>by rw [e2.mpr z] at a;cases a
theorem Sm.srt {H H':Hp} {k:By} {cf:Str ->Option Int} {l:List FT} {kvs:List (PR×V)} (h:Sm H H' k cf l kvs):Tim.srt prLt (kvs.map (·.1))=plcP (l.map (·.2)):=qt2 h.nd h.keys
theorem qvd:∀ u t:Key,PyData.eqv (keyD u) (keyD t)=decide (u=t)
 | .inl i,.inl j=>by
  show PyData.eqv (.int i) (.int j)=_;rw [q45];by_cases h:i=j <;> simp [h]
 | .inl i,.inr y=>by
  show PyData.eqv (.int i) (.str y)=_;rw [PyData.eqv];simp
 | .inr x,.inl j=>by
  show PyData.eqv (.str x) (.int j)=_;rw [PyData.eqv];simp
 | .inr x,.inr y=>by
  show PyData.eqv (.str x) (.str y)=_;rw [q5n];by_cases h:x=y <;> simp [h]
theorem qno:∀ p q:List Key,PyData.eqvAll (p.map keyD) (q.map keyD)=decide (p=q)
 | [],[]=>by rw [z3m,PyData.eqvAll];rfl
 | [],_::_=>by rw [z3m,z35,PyData.eqvAll];rfl
 | _::_,[]=>by rw [z3m,z35,PyData.eqvAll];rfl
 | x::p,y::q=>by
  rw [z35,z35,PyData.eqvAll,qvd,qno p q];by_cases h1:x=y
  ·by_cases h2:p=q
   ·rw [z2y h1,z2y h2,z2y (by rw [h1,h2])];rfl
   ·rw [z2y h1,z2k h2,z2k (λ e=>h2 (List.cons.inj e).2)];rfl
  ·rw [z2k h1,z2k (λ e=>h1 (List.cons.inj e).1)];rfl
def pkD (p:PR):PyData:= .tuple [.str p.1,.tuple (p.2.map keyD)]
theorem qnp (p q:PR):PyData.eqv (pkD p) (pkD q)=decide (p=q):=by
 unfold pkD;rw [PyData.eqv,PyData.eqvAll,q5n,PyData.eqvAll,PyData.eqv,qno,PyData.eqvAll];by_cases h1:p.1=q.1
 ·by_cases h2:p.2=q.2
  ·rw [z2y h1,z2y h2,z2y (Prod.ext h1 h2)];rfl
  ·rw [z2y h1,z2k h2,z2k (λ e=>h2 (by rw [e]))];rfl
 ·rw [z2k h1,z2k (show ¬ p=q from λ e=>h1 (by rw [e]))];rfl
theorem qbl (ks:List Key):PyData.depthAll (ks.map keyD)=0:=by
 induction ks with
 | nil=>rfl
 | cons k ks ih=>
  show max (keyD k).depth (PyData.depthAll (ks.map keyD))=0;rw [ih];cases k <;> rfl
theorem qhd (p:PR):(pkD p).depth<=60:=by
 show max 0 (max (PyData.depthAll (p.2.map keyD)+1) 0)+1<=60;rw [qbl];decide
theorem qcq {K:PySem.W.Frag} {H:Hp} {p:PR} {b:Addr} (g:PrGood p) (h:NAt H (pN p) (.ref b)):Dat K H (pkD p) (.ref b):=by
 obtain ⟨q,h1,h2⟩:=pr_at.mp h;exact .tup (SqT.of h1) (.cons (.str _ (GoodK.tx (k:= .inr p.1) g.1).2) (.cons (.tup (SqT.of h2) (q3f λ u hu=>q4e (g.2.2 u hu).tx)) .nil))
theorem qhe {α:Type} {p:α ->Bool}:∀ {l:List α} {i:Nat},(∀ x∈l.take i,p x=true) ->(∀ x,l[i]? =some x ->p x=false) ->l.takeWhile p=l.take i/\l.dropWhile p=l.drop i
 | [],i,_,_=>by simp
 | x::l,0,_,h=>by
  have:=h x rfl;simp [List.takeWhile_cons,List.dropWhile_cons,this]
 | x::l,i+1,h1,h2=>by
  have hx:p x=true:=h1 x (by simp);obtain ⟨a,b⟩:=qhe (l:=l) (i:=i) (λ y hy=>h1 y (by simp [hy])) (λ y hy=>h2 y (by simpa using hy));rw [List.takeWhile_cons,List.dropWhile_cons,if_pos hx,if_pos hx,a,b];exact ⟨zr,zr⟩
def PV (H:Hp) (e:V×PR):Prop:=∃ b,e.1= .ref b/\NAt H (pN e.2) (.ref b)
theorem PV.same {H H':Hp} {e:V×PR} (s:Same H H') (h:PV H e):PV H' e:=let ⟨b,x,y⟩:=h;⟨b,x,y.same s⟩
theorem PV.keep {H H':Hp} {e:V×PR} (s:q24 H H') (h:PV H e):PV H' e:=let ⟨b,x,y⟩:=h;⟨b,x,y.keep λ a ys z=>s a ys z⟩
def qve (K:PySem.W.Frag):Sp:=λ vs H Q _=>∃ (a:Addr) (fs:List (V×FT)),vs=[.ref a]/\FsIn K H a fs/\∀ l (es:List (V×PR)) H',Same H H' ->H l=none ->H' l=some (.lst (es.map (·.1))) ->(∀ e∈es,PV H' e) ->es.map (·.2)=plcP (fs.map (·.2.2)) ->Q (.ref l) H'
theorem qdp (T:Txt K mg):Def P w K mg base 3 "_law_places" ["_law_facts_here"] (qve K):=by
  refine T.qf8.ok q22 (λ vs H Q E h=> ?_) λ f cdv A outer s H vs Q E hr h=> ?_
  · obtain ⟨a,fs,rfl,_⟩:=h
    rfl
  · obtain ⟨a,fs,rfl,hf,k⟩:=h
    refine ⟨_,(q2z
      (qr (i:=1) q22.nd rfl (Or.inl rfl) (q1l q2c))
      (q1s PassesOwn.never rfl (q14 K (pv 0)) (q51 rfl (q13 (qh (i:=2) q22.nd rfl (Or.inl rfl)) (q13 (qh (i:=3) q22.nd rfl (Or.inl rfl)) (q13 (qh (i:=4) q22.nd rfl (Or.inl rfl)) q33)))) (q2z
      (qr (i:=5) q22.nd rfl (Or.inl rfl) qa)
      (qoj PassesOwn.never (PW.pt (qtm (q1a q9o (pv 5) (ql (q1g K) rfl T.b_len q1u (pa_1 (pv 1))) (q17 _)) (qr6 (q2b (qf (qf0 T) hr rfl (pa_2 (qm (qx K) (pv 1) (pv 5) (λ _ _=>rfl)) (q1n (pa_2 (pv 3) (pv 4))))))))) (qg (qr (i:=5) q22.nd rfl (Or.inl rfl) (qk q21 (pv 5) qa))))
      (q1m (PW.pt (q3b (q1a qfd (pv 5) (ql (q1g K) rfl T.b_len q1u (pa_1 (pv 1))) (q17 _)) (q50 (q1a (qge hr.units K) (qm (qx K) (pv 1) (pv 5) (λ _ _=>rfl)) (q1n (pa_2 (pv 3) (pv 4))) (q17 _))))) (qg (q1j (q3c z0h PySem.F.slot_list_insert PySem.F.type_list_insert qn1 (pv 1) (pa_2 (pv 5) (q1n (pa_2 (pv 3) (pv 4))))))) q15)))
      (qi (pv 1))),?_⟩
    have ln:=hf.ln;refine ⟨by decide,λ L hL=> ?_⟩;have s1:=qb (o:=HO.lst []) hL;refine ⟨_,rfl,a,rfl,⟨_,s1.seq hf.ls⟩,q29 (xs:=fs.map (·.1)) (λ i σ G=>∃ (v2 v3 v4 v5:Option V) (es:List (V×PR)),σ=[some (.ref a),some (.ref L),v2,v3,v4,v5]/\Same H G/\G L=some (.lst (es.map (·.1)))/\es.length<=i/\(∀ e∈es,PV G e/\PrGood e.2)/\es.map (·.2)=plcP ((fs.map (·.2.2)).take i)) ⟨none,none,none,none,[],rfl,s1,q0,z3q _,(λ _ z=>nomatch z),rfl⟩ (λ i σ G _ z=> ?_) ?_ ?_⟩
    · obtain ⟨_,_,_,_,_,_,z,_⟩:=z
      exact z.seq hf.ls
    · rintro i x σ G hx ⟨v2,v3,v4,v5,es,rfl,sg,hG,le,ge,ee⟩
      rw [z1s] at hx;obtain ⟨e,a7,rfl⟩:=z0m.mp hx;have il:=(z06.mp a7).1;obtain ⟨⟨p,pq,ep,hp,hq⟩,fg⟩:=hf.gd e (z12 a7);have pg:PrGood e.2.2:=⟨fg.tb,fg.ln,fg.vs⟩;have et:(fs.map (·.2.2)).take (i+1)=(fs.map (·.2.2)).take i++ [e.2.2]:=by
        rw [z33,z1s,a7];rfl
      refine ⟨p,_,ep,SqT.of (sg _ _ hp),zr,_,_,zr,_,_,zr,_,_,zr,zr,?_⟩;refine ⟨λ n σ G'=>Same G G'/\∃ m:Nat,σ=[some (.ref a),some (.ref L),some (.str e.2.1),some (.str e.2.2.1),some (.ref pq),some (.int (m:Int))]/\n=es.length - m/\m<=es.length/\∀ r∈es.take m,prLt r.2 e.2.2=true,⟨_,Same.refl G,0,rfl,rfl,z3t _,(λ _ z=>by simp at z)⟩,?_⟩;rintro n σ G1 ⟨Z,m,rfl,rfl,ml,hw⟩;have Y:=Z _ _ hG;have b3:=q80 ((fs.map (·.2.2)).take i);rw [<- ee] at b3;have out:(∀ r,es[m]? =some r ->prLt r.2 e.2.2=false/\r.2≠e.2.2) ->e.2.2∉es.map (·.2):=λ hn hm=>by
        obtain ⟨j,hj⟩:=List.getElem?_of_mem hm;rw [z1s] at hj;obtain ⟨r,J,er⟩:=z0m.mp hj;have jl:=(z06.mp J).1;rcases Nat.lt_trichotomy j m with h | h | h
        · have:=hw r (z12 (i:=j) (by rw [List.getElem?_take,if_pos h];exact J))
          rw [er,q4f.irr] at this;cases this
        · subst h
          exact (hn r J).2 er
        · have b8:=z0c (l:=es) (i:=m) (by omega)
          have:=(z07.mp b3) m j (by rw [z2o];omega) (by rw [z2o];exact jl) h;rw [List.getElem_map,List.getElem_map] at this;rw [show es[j].2=e.2.2 by rw [<- er];exact congrArg (·.2) (Option.some.inj ((z0c jl).symm.trans J)),(hn _ b8).1] at this;cases this
      have fin:∀ G' b,Same G1 G' ->NAt G' (pN e.2.2) (.ref b) ->(∀ r,es[m]? =some r ->prLt r.2 e.2.2=false/\r.2≠e.2.2) ->
          ∃ (a0:List (V×PR)),Same H (upd G' L (.lst ((es.map (·.1)).take (m:Int).toNat++ .ref b::(es.map (·.1)).drop (m:Int).toNat)))/\upd G' L (.lst ((es.map (·.1)).take (m:Int).toNat++ .ref b::(es.map (·.1)).drop (m:Int).toNat)) L=some (.lst (a0.map (·.1)))/\a0.length<=i+1/\
          (∀ e'∈a0,PV (upd G' L (.lst ((es.map (·.1)).take (m:Int).toNat++ .ref b::(es.map (·.1)).drop (m:Int).toNat))) e'/\PrGood e'.2)/\a0.map (·.2)=plcP ((fs.map (·.2.2)).take (i+1)):=λ G' b s' hb hn=>by
        have b5:=s' _ _ Y;have kt:∀ o,q24 G' (upd G' L o):=λ o c ys hc=>by
          rw [qd (λ z:c=L=>by rw [z,b5] at hc;cases hc)];exact hc
        obtain ⟨w1,w2⟩:=qhe (p:=λ r:PR=>prLt r e.2.2) (l:=es.map (·.2)) (i:=m) (λ r J=>by
          rw [<- List.map_take] at J;obtain ⟨r',h1,rfl⟩:=z3n.mp J;exact hw r' h1) (λ r J=>by
          rw [z1s] at J;obtain ⟨r',h1,rfl⟩:=z0m.mp J;exact (hn r' h1).1)
        refine ⟨es.take m++(.ref b,e.2.2)::es.drop m,((sg.trans Z).trans s').set hL,?_,?_,λ e' a2=> ?_,?_⟩
        · rw [q0,z2t,z35,List.map_take,List.map_drop]
          rfl
        · rw [z1f,z27,z25,z26]
          omega
        · have b2:∀ e'∈es,PV (upd G' L (.lst ((es.map (·.1)).take (m:Int).toNat++ .ref b::(es.map (·.1)).drop (m:Int).toNat))) e'/\PrGood e'.2:=λ e' h=>⟨((ge e' h).1.same (Z.trans s')).keep (kt _),(ge e' h).2⟩
          rcases z2i.mp a2 with h | h
          · exact b2 e' (z0z h)
          · rcases z37.mp h with rfl | h
            · exact ⟨⟨b,zr,hb.keep λ c ys hc=>kt _ c ys hc⟩,pg⟩
            · exact b2 e' (z0y h)
        · rw [et,q6f,<- ee,z2t,z35,List.map_take,List.map_drop,<- w1,<- w2]
          unfold insP;rw [if_neg (out hn)]
      have ls:(es.map (·.1)).length < sizeLine:=by rw [z2o];exact qz (by omega)
      have a3:=λ {G'} (s':Same G1 G')=>((sg.trans Z).trans s') _ _ hq;refine ⟨_,zr,_,zr,_,_,zr,.inl ⟨_,SqL.of Y,zr⟩,_,_,zr,zr,_,zr,ite2 (λ h3=> ?_) (λ h3=> ?_)⟩
      · have h3:=of_decide_eq_true h3
        rw [z2o] at h3;have a5:m < es.length:=by omega
        have a8:=z0c a5;obtain ⟨⟨br,er,b1⟩,gr⟩:=ge _ (z29 a5);have at1:atI (es.map (·.1)) (m:Int)=some (.ref br):=qp (by rw [z1s,a8];exact congrArg some er);refine ⟨_,rfl,_,rfl,_,_,_,_,rfl,rfl,SqL.of Y,at1,_,rfl,_,rfl,by show 2<=sizeLine;decide,λ c hc=> ?_⟩;have s3:=qb (o:=HO.tup [V.str e.2.2.1,.ref pq]) hc;refine ⟨br,c,es[m].2,e.2.2,zr,b1.same (Z.trans s3),pr_at.mpr ⟨pq,q0,a3 s3⟩,gr,pg,λ G2 s2=> ?_⟩;have a9:=s3.trans s2;refine ⟨_,zr,ite2 (λ h4=> ?_) (λ h4=> ?_)⟩
        · refine ⟨λ σ' H'=>Same G H'/\σ'=[some (.ref a),some (.ref L),some (.str e.2.1),some (.str e.2.2.1),some (.ref pq),some (.int ((m+1:Nat):Int))],λ σ' H' hN=> ?_,?_⟩
          · refine ⟨es.length - (m+1),by omega,hN.1,m+1,hN.2,zr,a5,λ r J=> ?_⟩
            rw [z33,a8] at J;rcases z2i.mp J with J | J
            · exact hw r J
            · rw [show r=es[m] by simpa using J]
              exact h4
          · exact ⟨_,zr,_,_,zr,zr,Z.trans a9,zr⟩
        · have h4:prLt es[m].2 e.2.2=false:=Bool.eq_false_iff.mpr h4
          have b0:=a9 _ _ Y;refine ⟨_,rfl,_,rfl,_,_,rfl,.inl ⟨_,SqL.of b0,rfl⟩,rfl,_,rfl,q1d (z2k λ z=>by injection z with z;rw [z2o] at z;omega) ?_⟩;refine ⟨_,rfl,_,rfl,_,_,_,_,rfl,rfl,SqL.of b0,at1,_,rfl,_,rfl,by show 2<=sizeLine;decide,λ c2 b6=> ?_⟩;have s4:=qb (o:=HO.tup [V.str e.2.2.1,.ref pq]) b6;have O:=a9.trans s4;refine ⟨pkD es[m].2,pkD e.2.2,qcq gr (b1.same (Z.trans O)),qcq pg (pr_at.mpr ⟨pq,q0,a3 O⟩),qhd _,?_⟩;rw [qnp];refine ⟨_,zr,ite2 (λ h5=> ?_) (λ h5=> ?_)⟩
          · have b9:es[m].2≠e.2.2:=λ z=>by rw [z2y z] at h5;cases h5
            have b4:=O _ _ Y;refine ⟨_,rfl,.inl ⟨rfl,_,SqL.of b4⟩,_,rfl,_,rfl,_,rfl,by show 2<=sizeLine;decide,λ c3 a6=> ?_⟩;have s5:=O.trans (qb (o:=HO.tup [V.str e.2.2.1,.ref pq]) a6);refine ⟨L,_,.ref c3,(m:Int),rfl,rfl,s5 _ _ Y,ls,by omega,by rw [z2o];omega,?_⟩;obtain ⟨a0,x1,x2,x3,x4,x5⟩:=fin _ c3 s5 (pr_at.mpr ⟨pq,q0,a3 s5⟩) λ r J=>by
              rw [a8] at J;injection J with J;rw [<- J];exact ⟨h4,b9⟩
            exact ⟨_,_,_,_,a0,zr,x1,x2,x3,x4,x5⟩
          · have b7:es[m].2=e.2.2:=by
              by_cases z:es[m].2=e.2.2
              · exact z
              · exact absurd (by rw [z2k z];rfl) h5
            refine ⟨_,_,_,_,es,zr,(sg.trans Z).trans O,O _ _ Y,by omega,λ e' a2=>⟨(ge e' a2).1.same (Z.trans O),(ge e' a2).2⟩,?_⟩;rw [et,q6f,<- ee];unfold insP;rw [if_pos (z3n.mpr ⟨es[m],z29 a5,b7⟩)]
      · have h3:¬ ((m:Int) < ((es.map (·.1)).length:Int)):=λ z=>h3 (z2y z)
        rw [z2o] at h3;refine ⟨_,rfl,_,rfl,_,_,rfl,.inl ⟨_,SqL.of Y,rfl⟩,rfl,_,rfl,q3v (z2y (by rw [z2o];congr 1;omega)) ?_⟩;refine ⟨_,rfl,.inl ⟨rfl,_,SqL.of Y⟩,_,rfl,_,rfl,_,rfl,by show 2<=sizeLine;decide,λ c3 a6=> ?_⟩;have s5:=qb (o:=HO.tup [V.str e.2.2.1,.ref pq]) a6;refine ⟨L,_,.ref c3,(m:Int),rfl,rfl,s5 _ _ Y,ls,by omega,by rw [z2o];omega,?_⟩;obtain ⟨a0,x1,x2,x3,x4,x5⟩:=fin _ c3 s5 (pr_at.mpr ⟨pq,q0,a3 s5⟩) λ r J=>by
          rw [List.getElem?_eq_none (by omega)] at J;cases J
        exact ⟨_,_,_,_,a0,zr,x1,x2,x3,x4,x5⟩
    · rintro σ G ⟨v2,v3,v4,v5,es,rfl,sg,hG,le,ge,ee⟩
      rw [z2o,<- z2o (f:=λ x:V×FT=>x.2.2),z2h] at ee;exact ⟨_,zr,k L es G sg hL hG (λ e he=>(ge e he).1) ee⟩
theorem q4x (l:List (Option Int)) (c:Option Int):qu (l++ [c])=minO (qu l) c:=by
 unfold qu;rw [z24];rfl
def q35 (l:List (Option Int)):List Int:=l.filterMap id
theorem ql7 (l:List (Option Int)):qu l=qu ((q35 l).map some):=by
 refine q4q (C:=λ l=>qu l=qu ((q35 l).map some)) rfl (λ l c J=> ?_) l;unfold q35 at J ⊢;rw [q4x,List.filterMap_append,z2t,J];cases c with
 | none=>
  show minO _ none=qu (_++ []);rw [z2p];cases qu ((l.filterMap id).map some) <;> rfl
 | some i=>
  show _=qu (_++ [some i]);rw [q4x]
theorem qnq:∀ (l:List Int),l≠ [] ->∃ m,qu (l.map some)=some m/\m∈l/\∀ x∈l,m<=x:=by
 refine λ l=>q4q (C:=λ l=>l≠ [] ->∃ m,qu (l.map some)=some m/\m∈l/\∀ x∈l,m<=x) (λ h=>absurd rfl h) (λ l c ih _=> ?_) l;rw [z2t];show ∃ m,qu (l.map some++ [some c])=some m/\_;rw [q4x];cases l with
 | nil=>exact ⟨c,rfl,z1d.mpr rfl,λ x hx=>by rw [z1d.mp hx];exact z3s _⟩
 | cons y r=>
  obtain ⟨m,e,hm,hx⟩:=ih (λ z=>nomatch z);rw [e];show ∃ m',some (if c < m then c else m)=some m'/\_;by_cases h:c < m
  ·rw [if_pos h];refine ⟨c,zr,z0s _ (z1d.mpr rfl),λ x J=> ?_⟩;rcases z2i.mp J with h' | h'
   ·have:=hx x h';omega
   ·rw [z1d.mp h'];exact z3s _
  ·rw [if_neg h];refine ⟨m,zr,z11 _ hm,λ x J=> ?_⟩;rcases z2i.mp J with h' | h'
   ·exact hx x h'
   ·rw [z1d.mp h'];omega
theorem qhf {v u:Nat ->Int}:∀ {n:Nat},(∀ i,i < n ->v i=u i) ->q3t v n=q3t u n
 | 0,_=>rfl
 | n+1,h=>by
  rw [q3t,q3t,qhf λ i hi=>h i (by omega),h n (by omega)]
theorem qnr (l:List Int):q3t (λ i=>l.getD i 0) l.length=qu (l.map some):=by
  refine q4q (C:=λ l=>q3t (λ i=>l.getD i 0) l.length=qu (l.map some)) rfl (λ l c ih=> ?_) l;rw [z1f,z2t];show q3t _ (l.length+1)=qu (l.map some++ [some c]);rw [q4x,q3t,qhf (u:=λ i=>l.getD i 0) (λ i hi=> ?_),ih]
  · have e:(l++ [c]).getD l.length 0=c:=by
      rw [z05,z04 (z3q _),Nat.sub_self];rfl
    rw [e];cases qu (l.map some) <;> rfl
  · show (l++ [c]).getD i 0=l.getD i 0
    rw [z05,z05,List.getElem?_append_left hi]
def qvf (K:PySem.W.Frag):Sp:=λ vs H Q _=>∃ (a:Addr) (cs:List (Option Int)),vs=[.ref a]/\SqL K H a (cs.map q18)/\cs.length<=100/\∀ H',Same H H' ->Q (q18 (qu cs)) H'
theorem qq1 (cs:List (Option Int)):(q35 cs).length<=cs.length:=List.length_filterMap_le _ _
theorem qf1 (T:Txt K mg):Def P w K mg base 1 "_law_least" ["_law_found"] (qvf K):=by
  refine T.qhr.ok q8a (λ vs H Q E h=> ?_) λ f cdv A outer s H vs Q E hr h=> ?_
  · obtain ⟨a,cs,rfl,_⟩:=h
    rfl
  · obtain ⟨a,cs,rfl,ha,hl,k⟩:=h
    refine ⟨_,(q2z
      (q5l (i:=1) q8a.nd rfl rfl (N:=["_law_cost"]) (caps:=[none]) rfl (by with_unfolding_all rfl) (q14 K (pv 0)) (λ _ _ _ _ _=>(qh (i:=0) (show (["_law_cost"]:List Str).Nodup by decide+kernel) rfl (Or.inl rfl))) (λ _ _ _ _ _=>qg8 (q1a qr8 (pv 0) q4z (q17 _))) (λ _ _ _ _ _=>(pv 0)))
      (q1m (q1a (qmm hr.units K) (pv 1) (q1l q2c) (q17 _)) (qg (qi q4z)) q15)
      (qi (ql (qn2 rfl K) rfl T.b_min qmj (pa_1 (pv 1))))),?_⟩
    refine ⟨_,zr,a,zr,⟨_,ha⟩,λ D hD=> ?_⟩;refine q1k (cs.map q18).length (λ i σ' O=>(∃ v,σ'=[v])/\Same H O/\O D=some (.lst ((q35 (cs.take i)).map V.int))) ⟨⟨_,zr⟩,qb hD,q0⟩ (λ i σ' O hi p=> ?_) (λ σ' O p=>⟨?_,?_⟩) (λ i σ' O hi p x E3 y=> ?_)
    · exact ⟨_,_,p.2.1.seq ha,z0c hi⟩
    · exact ⟨_,p.2.1.seq ha,z3q _⟩
    · obtain ⟨_,sm,J⟩:=p
      rw [z2o,z2h] at J;refine ⟨_,zr,by decide,λ em a2=> ?_⟩;have s2:=qb (o:=HO.lst []) a2;refine ⟨.list ((q35 cs).map .int),.list [],.lst (SqL.of (s2 _ _ J)) (q3f λ x _=> .int x),.lst (SqL.of q0) .nil,?_,?_⟩
      · have:PyData.depthAll ((q35 cs).map .int)=0:=by
          generalize q35 cs=l
          induction l with
          | nil=>rfl
          | cons x l ih=>
            show max 0 _=0;rw [ih];rfl
        show PyData.depthAll ((q35 cs).map .int)+1<=60;rw [this];decide
      · have L:=k _ (sm.trans s2)
        rw [ql7] at L;cases q:q35 cs with
        | nil=>
          rw [q] at L;refine ⟨_,zr,q3v ?_ L⟩;rw [z3m,PyData.eqv,PyData.eqvAll]
        | cons x r=>
          rw [q] at L J;obtain ⟨m,Y,_⟩:=qnq (x::r) (λ z=>nomatch z);rw [Y] at L;refine ⟨_,zr,q1d ?_ ?_⟩
          · rw [z35,PyData.eqv,PyData.eqvAll]
          · exact ⟨_,rfl,D,x::r,m,rfl,SqL.of (s2 _ _ J),by rw [qnr];exact Y,L⟩
    · obtain ⟨⟨v,rfl⟩,sm,J⟩:=p
      obtain ⟨rfl,hy⟩:=y;have Z:=hy _ (sm.seq ha);rw [z1s] at Z;obtain ⟨c,a0,rfl⟩:=z0m.mp Z;have st:q35 (cs.take (i+1))=q35 (cs.take i)++c.toList:=by
        unfold q35;rw [z33,a0,List.filterMap_append];cases c <;> rfl
      rw [z2o] at hi;have ln:=qq1 (cs.take i);rw [z25] at ln;cases c with
      | none=>
        refine ⟨_,zr,zr,_,zr,q1d rfl ⟨⟨_,zr⟩,sm,?_⟩⟩;rw [J,st];show _=some (HO.lst ((q35 (cs.take i)++ []).map V.int));rw [z2p]
      | some j=>
        refine ⟨_,rfl,rfl,_,rfl,q3v rfl ⟨_,rfl,_,J,by rw [z2o];exact qz (by omega),⟨_,rfl⟩,sm.set hD,?_⟩⟩;rw [q0,st,z2t];rfl
structure CsD (ws:List (Key×V)) (zs:List Str):Prop where
 all:∀ u v,valV ws u=some v ->∃ z c,u= .inr z/\v=q18 c/\z∈zs
 has:∀ z∈zs,(valV ws (.inr z)).isSome=true
 ent:∀ kv∈ws,∃ c,kv.2=q18 c
theorem qjy {ws:List (Key×V)} {u:Key} {c:Option Int} (h:∀ L∈ws,∃ c,L.2=q18 c):∀ L∈putK ws u (q18 c),∃ c,L.2=q18 c:=λ L J=>by
 unfold putK at J;split at J
 ·obtain ⟨x,hx,rfl⟩:=z3n.mp J;split
  ·exact ⟨c,zr⟩
  ·exact h x hx
 ·rcases z2i.mp J with g | g
  ·exact h L g
  ·rw [z1d.mp g];exact ⟨c,zr⟩
theorem CsD.put {ws:List (Key×V)} {zs:List Str} {z:Str} {c:Option Int} (h:CsD ws zs):CsD (putK ws (.inr z) (q18 c)) (zs++ [z]):=by
 refine ⟨λ u v e=> ?_,λ y hy=> ?_,qjy h.ent⟩
 ·rw [q2o] at e;split at e
  ·rename_i q;injection e with e;exact ⟨z,c,q,e.symm,z0s _ (z1d.mpr rfl)⟩
  ·obtain ⟨y,c',e1,e2,e3⟩:=h.all u v e;exact ⟨y,c',e1,e2,z11 _ e3⟩
 ·rw [q2o];split
  ·rfl
  ·rename_i q;rcases z2i.mp hy with hy | hy
   ·exact h.has y hy
   ·exact absurd (by rw [z1d.mp hy]) q
theorem CsD.again {ws:List (Key×V)} {zs:List Str} {z:Str} {c:Option Int} (h:CsD ws (zs++ [z])):CsD (putK ws (.inr z) (q18 c)) (zs++ [z]):=by
 refine ⟨λ u v e=> ?_,λ y hy=> ?_,qjy h.ent⟩
 ·rw [q2o] at e;split at e
  ·rename_i q;injection e with e;exact ⟨z,c,q,e.symm,z0s _ (z1d.mpr rfl)⟩
  ·exact h.all u v e
 ·rw [q2o];split
  ·rfl
  ·exact h.has y hy
def qvg (K:PySem.W.Frag):Sp:=λ vs H Q _=>∃ (a b:Addr) (ns:List Int) (fs:List (V×FT)),vs=[.ref a,.ref b]/\SqL K H a (ns.map V.int)/\FsIn K H b fs/\∀ wd ws H',Same H H' ->H wd=none ->H' wd=some (.dK ws) ->ws.length<=98 ->CsD ws (fs.map (·.2.1)) ->Q (.ref wd) H'
theorem qf2 (T:Txt K mg):Def P w K mg base 2 "_law_costs" ["_law_script","_law_facts_here"] (qvg K):=by
 refine T.qhq.ok q3u (λ vs H Q E h=> ?_) λ f cdv A outer s H vs Q E hr h=> ?_
 ·obtain ⟨a,b,ns,fs,rfl,_⟩:=h;rfl
 ·obtain ⟨a,b,ns,fs,rfl,hS,Y,k⟩:=h;refine ⟨_,(q2z
   (qr (i:=2) q3u.nd rfl (Or.inl rfl) q5r)
   (q1s PassesOwn.never rfl (q2l rfl T.q3g (pa_1 (ql (q1g K) rfl T.b_len q1u (pa_1 (pv 1))))) (qh (i:=3) q3u.nd rfl (Or.inl rfl)) (q2z
   (qr (i:=4) q3u.nd rfl (Or.inl rfl) (qk q21 (qk q21 (qf (qt T) hr rfl (pa_2 (pv 0) (qk q21 qa (pv 3)))) (qk q5q qa (pv 3))) (qf (qt T) hr rfl (pa_2 (pv 0) qa))))
   (q9r (q3d hr) (pv 2) (qm (q11 K) (qm (qx K) (pv 1) (pv 3) (λ _ _=>rfl)) qa (λ _ _=>rfl)) (qk q5q (qk q1q (qk q2r (pv 4) qa) (qk qly qa qa)) (qm (qx K) (q1l (pa_2 qa (qqe qlz qa))) (qk q1q (qk q2r (pv 4) qa) qa) (λ _ _=>rfl))) rfl)
   (q1m (q1a qfd (qk q1q (pv 4) qa) qa (q17 _)) (qg (q9r (q3d hr) (pv 2) (qm (q11 K) (qm (qx K) (pv 1) (pv 3) (λ _ _=>rfl)) qa (λ _ _=>rfl)) q4z rfl)) q15)))
   (qi (pv 2))),?_⟩
  have ln:=Y.ln;refine λ D hD=> ?_;have s1:=qb (o:=HO.dK []) hD;refine ⟨_,rfl,_,_,rfl,.inl ⟨_,s1.seq Y.ls,rfl⟩,_,rfl,by rw [z2o];omega,by rw [z2o];omega,q42 (lo:=0) (n:=(fs.map (·.1)).length) (λ i σ G=>∃ (v3 v4:Option V) (ws:List (Key×V)),σ=[some (.ref a),some (.ref b),some (.ref D),v3,v4]/\Same H G/\G D=some (.dK ws)/\ws.length<=2*i/\CsD ws ((fs.map (·.2.1)).take i)) ⟨none,none,[],rfl,s1,q0,z3q _,⟨(λ _ _ z=>nomatch z),(λ z hz=>by simp at hz),λ _ z=>nomatch z⟩⟩ ?_ ?_⟩
  ·rintro i σ G hi ⟨v3,v4,ws,rfl,sg,hG,lw,cd⟩;rw [z2o] at hi;have J:=z0c hi;generalize fs[i]=e at J;obtain ⟨⟨p,pq,ep,hp,hq⟩,fg⟩:=Y.gd e (z12 J);have Z:(fs.map (·.2.1)).take (i+1)=(fs.map (·.2.1)).take i++ [e.2.1]:=by rw [z33,z1s,J];rfl
   have at1:atI (fs.map (·.1)) (0+(i:Int))=some (.ref p):=by rw [Int.zero_add];exact qp (by rw [z1s,J];exact congrArg some ep)
   have O:=sg.seq hS;refine ⟨_,zr,_,zr,_,_,zr,zr,a,ns,_,zr,O,by omega,_,zr,_,_,zr,zr,.inl ⟨by decide,by decide⟩,_,_,zr,zr,_,zr,a,ns,_,zr,O,by decide,_,_,zr,zr,?_⟩;show q66 4 (V.int (ns.getD (6+(0+(i:Int))).toNat 0+5*(0+(i:Int))+ns.getD (Int.toNat 2) 0)) _ _ _;generalize ns.getD (6+(0+(i:Int))).toNat 0+5*(0+(i:Int))+ns.getD (Int.toNat 2) 0=c;refine ⟨_,rfl,_,_,rfl,rfl,⟨by decide,by decide⟩,_,_,rfl,rfl,⟨by decide,by decide,by decide⟩,_,_,rfl,rfl,(by show (0:Int) < 10^30;decide),_,rfl,by show 2<=sizeLine;decide,λ r a2=> ?_⟩;have s2:=qb (o:=HO.lst [V.int 1,.int (-1)]) a2;have S2:=sg.trans s2;obtain ⟨v,a0,hv⟩:=q6y (xs:=[V.int 1,.int (-1)]) (i:=c / 7%2) (z2x _ (by decide)) (z1m _ (by decide));obtain ⟨n,rfl,hn⟩:∃ n:Int,v= .int n/\ -(2^64) < n/\n < 2^64:=by
    simp only [z37,z2g,or_false] at hv;rcases hv with rfl | rfl
    ·exact ⟨_,zr,by decide⟩
    ·exact ⟨_,zr,by decide⟩
   refine ⟨_,rfl,_,_,rfl,rfl,⟨by decide,by decide⟩,_,_,rfl,rfl,(by show (0:Int) < 2;decide),_,_,_,_,rfl,rfl,SqL.of q0,a0,_,_,rfl,rfl,.inr hn,?_⟩;have pl:=q1i ws (.inr e.2.1) (V.int (c / 14%10^30*n));refine ⟨_,zr,_,zr,_,zr,_,_,_,_,zr,zr,S2.seq Y.ls,at1,_,_,_,_,zr,zr,SqT.of (S2 _ _ hp),qp (j:=0) rfl,D,_,zr,DPut.k (k:= .inr e.2.1) (s2 _ _ hG) (qz (by omega)),?_⟩;have L:=cd.put (z:=e.2.1) (c:=some (c / 14%10^30*n));have S3:=S2.set (o:=HO.dK (putK ws (.inr e.2.1) (V.int (c / 14%10^30*n)))) hD;refine ⟨_,rfl,_,_,rfl,rfl,(by show (0:Int) < 7;decide),rfl,_,rfl,ite2 (λ h=> ?_) (λ h=> ?_)⟩
   ·refine ⟨_,zr,_,zr,_,zr,_,_,_,_,zr,zr,S3.seq Y.ls,at1,_,_,_,_,zr,zr,SqT.of (S3 _ _ hp),qp (j:=0) rfl,D,_,zr,DPut.k (k:= .inr e.2.1) q0 (qz (z3j (q1i _ _ _) (by omega))),?_⟩;refine ⟨_,_,_,zr,S3.set hD,q0,z3j (q1i _ _ _) (z3j (z2f (q1i _ _ _)) (by omega)),?_⟩;rw [Z];exact L.again (c:=none)
   ·refine ⟨_,_,_,zr,S3,q0,z3j (q1i _ _ _) (by omega),?_⟩;rw [Z];exact L
  ·rintro σ G ⟨v3,v4,ws,rfl,sg,hG,lw,cd⟩;rw [z2o] at lw;rw [z2o,<- z2o (f:=λ x:V×FT=>x.2.1),z2h] at cd;exact ⟨_,zr,k D ws G sg hD hG (by omega) cd⟩
def NtR (K:PySem.W.Frag) (H:Hp) (x:V):Prop:=∃ r q v z ks wd,x=V.ref r/\H r=some (.tup [.str z,.ref q,v])/\H q=some (.tup ((ks:List Key).map kV))/\PyData.strOk z=true/\(∀ u∈ks,GoodK u)/\ks.length<=4/\Dat K H wd v/\tyIs (tyD wd) "bool"=false
def qvh (K:PySem.W.Frag):Sp:=λ vs H Q _=>∃ (a:Addr) (xs:List V),vs=[.ref a]/\SqL K H a xs/\(∀ x∈xs,NtR K H x)/\∀ H',Same H H' ->Q (.bl true) H'
theorem qns (n:Nat):(List.replicate n false).any id=false:=List.any_eq_false.mpr λ b hb=>by rw [(List.mem_replicate.mp hb).2];exact z1c
theorem qvi (u:Key):tyIs (tyD (keyD u)) "bool"=false:=by cases u <;> rfl
theorem q5f (T:Txt K mg):Def P w K mg base 1 "_law_no_truths" ["_law_told"] (qvh K):=by
 refine T.qbo.ok q5d (λ vs H Q E h=> ?_) λ f cdv A outer s H vs Q E hr h=> ?_
 ·obtain ⟨a,xs,rfl,_⟩:=h;rfl
 ·obtain ⟨a,xs,rfl,ha,hx,k⟩:=h;refine ⟨_,(q3q
   (q1s PassesOwn.never rfl (q14 K (pv 0)) (qh (i:=1) q5d.nd rfl (Or.inl rfl)) (q3q
   (q1m (PW.pt (q3b (q2q (q2b (ql (q2m K) rfl T.q1f q1c (pa_2 (pv 1) (q3e rfl T.q4r q3w))))) (q3b (q1a q7d (ql (q1g K) rfl T.b_len q1u (pa_1 (pv 1))) qa (q17 _)) (q3b (q2q (q2b (ql (q2m K) rfl T.q1f q1c (pa_2 (qm (q11 K) (pv 1) qa (λ _ _=>rfl)) (q3e rfl T.q4r q3w))))) (q50 (q2b (ql (q2m K) rfl T.q1f q1c (pa_2 (qm (q11 K) (pv 1) qa (λ _ _=>rfl)) (q3e rfl T.qhn qdc))))))))) (qg (qi q3a)) q15)
   (q1m (q2b (ql (qmr rfl K) rfl T.b_any qu5 (pa_1 (q20 (N:=["_law_value"]) (caps:=[none]) rfl (by with_unfolding_all rfl) (qdb K (qm (q11 K) (pv 1) qa (λ _ _=>rfl))) (λ _ _ _ _ _=>(qh (i:=0) (show (["_law_value"]:List Str).Nodup by decide+kernel) rfl (Or.inl rfl))) (λ _ _ _ _ _=>q25) (λ _ _ _ _ _=>(ql (q2m K) rfl T.q1f q1c (pa_2 (pv 0) (q3e rfl T.qhn qdc)))))))) (qg (qi q3a)) q15)))
   (qi q3a)),?_⟩
  refine ⟨_,zr,a,zr,⟨_,ha⟩,q29 (xs:=xs) (λ i σ G=>(∃ v,σ=[some (.ref a),v])/\Same H G) ⟨⟨none,zr⟩,Same.refl H⟩ (λ i σ G _ z=>z.2.seq ha) ?_ ?_⟩
  ·rintro i x σ G a2 ⟨⟨v0,rfl⟩,J⟩;obtain ⟨r,q,v,z,ks,wd,rfl,h1,h2,oz,gk,lk,dv,nb⟩:=hx x (z12 a2);have Y:=J _ _ h1;have Z:=J _ _ h2;have d2:Dat K G (.tuple (ks.map keyD)) (.ref q):= .tup (SqT.of Z) (q3f λ u hu=>q4e (gk u hu).tx);have O:=Dat.same J _ _ dv;have d1:Dat K G (.tuple [.str z,.tuple (ks.map keyD),wd]) (.ref r):= .tup (SqT.of Y) (.cons (.str _ oz) (.cons d2 (.cons O .nil)));refine ⟨_,zr,_,_,_,zr,d1,by decide,_,zr,q1d rfl ?_⟩;refine ⟨_,rfl,_,_,rfl,.inr ⟨_,SqT.of Y,rfl⟩,rfl,_,rfl,q1d (by show (!decide (V.int 3=V.int 3))=false;rw [z2y rfl];rfl) ?_⟩;refine ⟨_,zr,_,_,_,_,zr,zr,SqT.of Y,qp (j:=1) rfl,_,_,_,zr,d2,by decide,_,zr,q1d rfl ?_⟩;refine ⟨_,zr,_,_,_,_,zr,zr,SqT.of Y,qp (j:=2) rfl,_,_,_,zr,O,by decide,_,zr,q1d nb ?_⟩;refine ⟨_,zr,_,_,_,_,zr,zr,SqT.of Y,qp (j:=1) rfl,q,zr,⟨_,SqT.of Z⟩,λ D hD=> ?_⟩;refine q1k (ks.map kV).length (λ i σ' L=>(∃ v,σ'=[v])/\Same G L/\L D=some (.lst ((List.replicate i false).map V.bl))) ⟨⟨_,zr⟩,qb hD,q0⟩ (λ i σ' L hi p=> ?_) (λ σ' L p=>⟨?_,?_⟩) (λ i σ' L hi p x E3 y=> ?_)
   ·exact ⟨_,_,SqT.of (p.2.1 _ _ Z),z0c hi⟩
   ·exact ⟨_,SqT.of (p.2.1 _ _ Z),z3q _⟩
   ·obtain ⟨_,sm,e⟩:=p;refine ⟨D,_,zr,SqL.of e,?_⟩;rw [qns];exact ⟨_,zr,q1d rfl ⟨⟨_,zr⟩,J.trans sm⟩⟩
   ·obtain ⟨⟨v,rfl⟩,sm,e⟩:=p;obtain ⟨rfl,hy⟩:=y;have a0:=hy _ (SqT.of (sm _ _ Z));rw [z1s] at a0;obtain ⟨u,hu,rfl⟩:=z0m.mp a0;have ul:=(z06.mp hu).1;refine ⟨_,zr,_,_,_,zr,q4e (gk u (z12 hu)).tx,by decide,?_⟩;refine ⟨_,e,?_,⟨_,zr⟩,sm.set hD,?_⟩
    ·rw [z2o,List.length_replicate];exact qz (by omega)
    ·rw [q0,List.replicate_succ',z2t,qvi];rfl
  ·rintro σ G ⟨⟨v0,rfl⟩,J⟩;exact k G J
theorem qvj (c p:Int) {n:Nat} (h:n<=72):((List.range n).map (nmO c p)).Nodup:=by
 refine z07.mpr λ i j hi hj hij e=> ?_;rw [z2o,z1z] at hi hj;rw [List.getElem_map,List.getElem_map,List.getElem_range,List.getElem_range] at e;have:=qt0 (by omega) (by omega) e;omega
def qvk (K:PySem.W.Frag):Sp:=λ vs H Q _=>∃ (a:Addr) (ns:List Int),vs=[.ref a]/\SqL K H a (ns.map V.int)/\∀ b (fs:List (V×FT)) H',Same H H' ->H b=none ->H' b=some (.lst (fs.map (·.1))) ->FsIn K H' b fs ->Q (.ref b) H'
theorem qf3 (T:Txt K mg):Def P w K mg base 2 "_law_facts" ["_law_script"] (qvk K):=by
 refine T.qhp.ok q16 (λ vs H Q E h=> ?_) λ f cdv A outer s H vs Q E hr h=> ?_
 ·obtain ⟨a,ns,rfl,_⟩:=h;rfl
 ·obtain ⟨a,ns,rfl,O,k⟩:=h;refine qja 4 (λ σ G=>∃ (v1 v2:Option V) (va ta:Addr) (ks:List Key) (ts:List Str),σ=[some (.ref a),v1,v2,some (.ref va),some (.ref ta),none,none,none,none,none]/\Same H G/\G va=some (.lst (ks.map kV))/\ks.length=4/\(∀ k∈ks,GoodK k)/\G ta=some (.lst (ts.map V.str))/\ts.length=3/\∀ z∈ts,txtB smaS z=true) ⟨_,(qkh
   (qr (i:=5) q16.nd rfl (Or.inl rfl) (qb4 (qox K) (pv 0) (q9p qa) (q9p qa)))
   (qr (i:=6) q16.nd rfl (Or.inr rfl) (qk q1q (qf (qt T) hr rfl (pa_2 (pv 0) qa)) qa))
   (q1s PassesOwn.never rfl (q2l rfl T.q3g (pa_1 (qk q1q (qf (qt T) hr rfl (pa_2 (pv 0) qa)) qa))) (qh (i:=7) q16.nd rfl (Or.inl rfl)) (q3q
   (qr (i:=6) q16.nd rfl (Or.inr rfl) (qk q1q (qk q21 (qk q21 (qk q5q (pv 6) qa) qa) (pv 7)) qa))
   (qr (i:=5) q16.nd rfl (Or.inl rfl) (qk qg5 (pv 5) (q1l (pa_1 (qk q2r (pv 6) qa)))))))
   (qr (i:=8) q16.nd rfl (Or.inl rfl) (q1l q2c))
   (q1s PassesOwn.never rfl (q2l rfl T.q3g (pa_1 (ql (q1g K) rfl T.b_len q1u (pa_1 (pv 5))))) (qh (i:=7) q16.nd rfl (Or.inl rfl)) (q2z
   (qr (i:=6) q16.nd rfl (Or.inr rfl) (qk q1q (qk q21 (qk q5q (qk q1q (qm (qx K) (pv 5) (pv 7) (λ _ _=>rfl)) qa) qa) (qk q2r (qm (qx K) (pv 5) (pv 7) (λ _ _=>rfl)) qa)) (qm (qx K) (q1l (pa_2 qa qa)) (qk q1q (qf (qt T) hr rfl (pa_2 (pv 0) qa)) qa) (λ _ _=>rfl))))
   (q5l (i:=9) q16.nd rfl rfl (N:=["_law_j","_law_values","_law_x"]) (caps:=[none,some 3,some 6]) rfl (by with_unfolding_all rfl) (q2l rfl T.q3g (pa_1 (qm (qx K) (q1l (pa_6 qa qa qa qa qa qa)) (qk q1q (qk q2r (pv 6) qa) qa) (λ _ _=>rfl)))) (λ _ _ _ _ _=>(qh (i:=0) (show (["_law_j","_law_values","_law_x"]:List Str).Nodup by decide+kernel) rfl (Or.inl rfl))) (λ _ _ _ _ _=>q25) (λ _ _ _ _ _=>(qm (qx K) (pv 1) (qk q1q (qk q2r (pv 2) (qm (qx K) (q1l (pa_4 qa qa qa qa)) (pv 0) (λ _ _=>rfl))) qa) (λ _ _=>rfl))))
   (q1j (q3c z0h z0d z0e q2e (pv 8) (pa_1 (q1n (pa_3 (qf (q4h T) hr rfl (pa_3 (qf (qt T) hr rfl (pa_2 (pv 0) qa)) (qf (qt T) hr rfl (pa_2 (pv 0) qa)) (pv 7))) (qm (qx K) (pv 4) (qk q1q (qk q2r (pv 6) qa) qa) (λ _ _=>rfl)) (q2u (q6g K) rfl T.q4r q3w (pa_1 (pv 9))))))))))
   (qi (pv 8))),?_⟩ (λ u hu hC=>⟨_,(qwm
   (qr (i:=1) q16.nd rfl (Or.inl rfl) (qk q5q (qk q1q (qf (qt T) hr rfl (pa_2 (pv 0) qa)) (qk qly qa qa)) (qm (qx K) (q1l (pa_2 qa (qqe qlz qa))) (qk q1q (qf (qt T) hr rfl (pa_2 (pv 0) qa)) qa) (λ _ _=>rfl))))
   (qr (i:=2) q16.nd rfl (Or.inl rfl) (qf (q4h T) hr rfl (pa_3 (qf (qt T) hr rfl (pa_2 (pv 0) qa)) (qf (qt T) hr rfl (pa_2 (pv 0) qa)) qa)))
   (qr (i:=3) q16.nd rfl (Or.inr rfl) (q1l (pa_4 (pv 1) (pv 2) (qk q21 (pv 1) qa) (qf (q4h T) hr rfl (pa_3 (qf (qt T) hr rfl (pa_2 (pv 0) qa)) (qf (qt T) hr rfl (pa_2 (pv 0) qa)) qa)))))
   (q5l (i:=4) q16.nd rfl rfl (N:=["_law_k","_law_script"]) (caps:=[none,some 0]) rfl (by with_unfolding_all rfl) (q2l rfl T.q3g (pa_1 qa)) (λ _ _ _ _ _=>(qh (i:=0) (show (["_law_k","_law_script"]:List Str).Nodup by decide+kernel) rfl (Or.inl rfl))) (λ _ _ _ _ _=>q25) (λ _ _ _ _ _=>(qf (q4h T) hr rfl (pa_3 (qf (qt T) hr rfl (pa_2 (pv 1) qa)) (qf (qt T) hr rfl (pa_2 (pv 1) qa)) (pv 0)))))
   hu),?_⟩)
  ·rintro σ G ⟨v1,v2,va,ta,ks,ts,rfl,sg,b1,e6,d1,b0,e7,d2⟩;refine ⟨_,zr,_,zr,_,zr,_,_,zr,sg.seq O,λ c1 d5=> ?_⟩;have s1:=qb (o:=HO.lst (cutV (ns.map V.int) (some 6) (some 36))) d5;have e1:=q0 (H:=G) (a:=c1) (o:=HO.lst (cutV (ns.map V.int) (some 6) (some 36)));obtain ⟨b4,c8,e5⟩:∃ cs:List Int,cutV (ns.map V.int) (some 6) (some 36)=cs.map V.int/\cs.length<=30:=by
    unfold cutV;refine ⟨(ns.drop _).take _,by rw [List.map_take,List.map_drop],?_⟩;rw [z25];rw [show (6:Int)=((6:Nat):Int) from rfl,show (36:Int)=((36:Nat):Int) from rfl,HT.sIx_nat,HT.sIx_nat];omega
   rw [c8] at e1 s1 ⊢;generalize upd G c1 (.lst (b4.map V.int))=G1 at*;have S1:=sg.trans s1;have w0:=z2x (ns.getD (Int.toNat 2) 0) (show (16:Int)≠0 by decide);have w1:=z1m (ns.getD (Int.toNat 2) 0) (show (0:Int) < 16 by decide);refine ⟨_,rfl,a,ns,2,rfl,S1.seq O,by decide,_,_,rfl,rfl,(by show (0:Int) < 2147483647;decide),?_⟩;refine ⟨_,rfl,a,ns,2,rfl,S1.seq O,by decide,_,_,rfl,rfl,(by show (0:Int) < 16;decide),_,rfl,by omega,by omega,q42 (lo:=0) (n:=(ns.getD (Int.toNat 2) 0%16).toNat) (λ i σ F=>∃ (v7:Option V) (cA:Addr) (x:Int) (cs:List Int),σ=[some (.ref a),v1,v2,some (.ref va),some (.ref ta),some (.ref cA),some (.int x),v7,none,none]/\Same G1 F/\F cA=some (.lst (cs.map V.int))/\cs.length<=30+i) ⟨none,c1,_,b4,rfl,Same.refl _,e1,e5⟩ ?_ ?_⟩
   ·rintro i σ F hi ⟨v7,cA,x,cs,rfl,sf,a3,lc⟩;refine ⟨_,rfl,_,_,rfl,rfl,.inr ⟨by decide,by decide⟩,_,_,rfl,rfl,_,rfl,_,_,rfl,rfl,_,_,rfl,rfl,(by show (0:Int) < 2147483647;decide),?_⟩;show q66 6 (V.int ((x*16807+12345+(0+(i:Int)))%2147483647)) _ _ _;generalize (x*16807+12345+(0+(i:Int)))%2147483647=y;refine ⟨_,rfl,_,rfl,_,_,rfl,rfl,⟨by decide,by decide⟩,by show 1<=sizeLine;decide,λ l hl=> ?_⟩;have s2:=qb (o:=HO.lst [V.int (y / 4)]) hl;refine ⟨_,_,_,_,rfl,rfl,s2 _ _ a3,q0,by rw [z2o];exact z3j (show _<=1000 by show cs.length+1<=1000;omega) (by decide),λ c2 a2=> ?_⟩;refine ⟨_,c2,y,cs++ [y / 4],rfl,(sf.trans s2).trans (qb a2),by rw [q0,z2t];rfl,by rw [z1f];show cs.length+1<=_;omega⟩
   ·rintro σ F ⟨v7,cA,x,cs,rfl,sf,a3,lc⟩;have lc:cs.length<=45:=by omega
    have SF:=S1.trans sf;have b1:=(s1.trans sf) _ _ b1;have b0:=(s1.trans sf) _ _ b0;have a7:=SF.seq O;refine ⟨by decide,λ L hL=> ?_⟩;have sL:=qb (o:=HO.lst []) hL;refine ⟨_,rfl,_,_,rfl,.inl ⟨_,SqL.of (sL _ _ a3),rfl⟩,_,rfl,by rw [z2o];omega,by rw [z2o];omega,q42 (lo:=0) (n:=(cs.map V.int).length) (λ i σ G=>∃ (v6 v7 v9:Option V) (fs:List (V×FT)),σ=[some (.ref a),v1,v2,some (.ref va),some (.ref ta),some (.ref cA),v6,v7,some (.ref L),v9]/\Same F G/\G L=some (.lst (fs.map (·.1)))/\fs.length=i/\(∀ e∈fs,FV G e/\FGood e.2)/\fs.map (·.2.1)=(List.range i).map (nmO (ns.getD (Int.toNat 0) 0) (ns.getD (Int.toNat 1) 0))) ⟨_,_,none,[],rfl,sL,q0,rfl,(λ _ z=>nomatch z),rfl⟩ ?_ ?_⟩
    ·rintro i σ G2 hi ⟨v6,v7,v9,fs,rfl,s2,a0,lf,gf,ef⟩;rw [z2o] at hi;have a2:=SqL.of (K:=K) (s2 _ _ a3);have a5:atI (cs.map V.int) (0+(i:Int))=some (V.int (cs.getD i 0)):=by rw [Int.zero_add];exact qp (by rw [z1s,z0c hi,z05,z0c hi];rfl)
     generalize cs.getD i 0=c at a5;refine ⟨_,rfl,_,rfl,_,_,_,_,rfl,rfl,a2,a5,_,_,rfl,rfl,(by show (0:Int) < 1000003;decide),_,_,rfl,rfl,.inr ⟨by decide,by decide⟩,_,rfl,_,rfl,_,_,_,_,rfl,rfl,a2,a5,_,_,rfl,rfl,⟨by decide,by decide⟩,_,_,rfl,rfl,by show 2<=sizeLine;decide,λ r a9=> ?_⟩;have s3:=qb (o:=HO.lst [V.int 65521,.int 7]) a9;have S3:=s2.trans s3;obtain ⟨d,a8,d0⟩:∃ d:Int,atI [V.int 65521,.int 7] (ns.getD (Int.toNat 1) 0%2)=some (.int d)/\0 < d:=by
      have:ns.getD (Int.toNat 1) 0%2=0\/ ns.getD (Int.toNat 1) 0%2=1:=by omega
      rcases this with e | e <;> rw [e]
      ·exact ⟨65521,zr,by decide⟩
      ·exact ⟨7,zr,by decide⟩
     refine ⟨_,rfl,a,ns,1,rfl,S3.seq a7,by decide,_,_,rfl,rfl,(by show (0:Int) < 2;decide),_,_,_,_,rfl,rfl,SqL.of q0,a8,_,_,rfl,rfl,d0,?_⟩;show q66 6 (V.int ((c%1000003*7919+c / 1000003)%d)) _ _ _;generalize (c%1000003*7919+c / 1000003)%d=x;have d3:=s3 _ _ a0;have b5:∀ e∈fs,FV (upd G2 r (.lst [V.int 65521,.int 7])) e/\FGood e.2:=λ e J=>⟨(gf e J).1.same s3,(gf e J).2⟩;generalize upd G2 r (.lst [V.int 65521,.int 7])=G3 at*;obtain ⟨m,c0,m0,m4⟩:∃ m:Int,atI [V.int 2,.int 1,.int 3,.int 0,.int 4,.int 2] (x / 256%6)=some (.int m)/\0<=m/\m<=4:=by
      obtain ⟨v,h1,h2⟩:=q6y (xs:=[V.int 2,.int 1,.int 3,.int 0,.int 4,.int 2]) (i:=x / 256%6) (z2x _ (by decide)) (z1m _ (by decide));simp only [z37,z2g,or_false] at h2;rcases h2 with rfl | rfl | rfl | rfl | rfl | rfl <;> exact ⟨_,h1,by decide,by decide⟩
     refine ⟨by show 6<=sizeLine;decide,λ r2 d7=> ?_⟩;have s4:=qb (o:=HO.lst [V.int 2,.int 1,.int 3,.int 0,.int 4,.int 2]) d7;refine ⟨_,rfl,_,_,rfl,rfl,⟨by decide,by decide⟩,_,_,rfl,rfl,(by show (0:Int) < 6;decide),_,_,_,_,rfl,rfl,SqL.of q0,c0,_,rfl,by omega,by omega,λ D hD=> ?_⟩;have b7:=s4 _ _ d3;have c6:=(S3.trans s4) _ _ b1;have c5:=(S3.trans s4) _ _ b0;have S4:=S3.trans s4;have b6:∀ e∈fs,FV (upd G3 r2 (.lst [V.int 2,.int 1,.int 3,.int 0,.int 4,.int 2])) e/\FGood e.2:=λ e J=>⟨(b5 e J).1.same s4,(b5 e J).2⟩;generalize upd G3 r2 (.lst [V.int 2,.int 1,.int 3,.int 0,.int 4,.int 2])=G4 at*;refine q1k m.toNat (λ j σ' Z=>(∃ v',σ'=[v',some (.ref va),some (.int x)])/\Same G4 Z/\∃ us:List Key,Z D=some (.lst (us.map kV))/\us.length=j/\∀ u∈us,u∈ks) ⟨⟨_,rfl⟩,qb hD,[],q0,rfl,λ _ z=>nomatch z⟩ (λ i σ' H' hi p=>hi) (λ σ' Z p=>⟨z3q _,?_⟩) (λ j σ' Z hj p x' E3 y=> ?_)
     ·obtain ⟨_,Y,us,hu,lu,gu⟩:=p;have S5:=S4.trans Y;refine ⟨_,zr,.inl ⟨zr,_,SqL.of (Y _ _ b7)⟩,_,zr,a,ns,0,zr,S5.seq a7,by decide,_,zr,a,ns,1,zr,S5.seq a7,by decide,_,zr,_,_,i,congrArg (λ t=>[V.int _,V.int _,V.int t]) (Int.zero_add _),by omega,λ E6 s6=> ?_⟩;have S6:=S5.trans s6;obtain ⟨v,c4,hv⟩:=q6y (xs:=ts.map V.str) (i:=x / 5%3) (z2x _ (by decide)) (by rw [z2o,e7];exact z1m _ (by decide));obtain ⟨tb,e0,rfl⟩:=z3n.mp hv;refine ⟨_,rfl,_,rfl,_,_,rfl,rfl,⟨by decide,by decide⟩,_,_,rfl,rfl,(by show (0:Int) < 3;decide),_,_,_,_,rfl,rfl,SqL.of ((Y.trans s6) _ _ c5),c4,_,rfl,_,_,rfl,.inl ⟨SqL.of (s6 _ _ hu),λ q hq=> ?_⟩⟩;have s7:=qb (o:=HO.tup (us.map kV)) hq;refine ⟨by show 3<=sizeLine;decide,λ t ht=> ?_⟩;have s8:=qb (o:=HO.tup [V.str (nmO (ns.getD (Int.toNat 0) 0) (ns.getD (Int.toNat 1) 0) i),.str tb,.ref q]) ht;have d9:=q0 (H:=upd E6 q (.tup (us.map kV))) (a:=t) (o:=HO.tup [V.str (nmO (ns.getD (Int.toNat 0) 0) (ns.getD (Int.toNat 1) 0) i),.str tb,.ref q]);have d6:=s8 _ _ (q0 (H:=E6) (a:=q) (o:=HO.tup (us.map kV)));have b3:=Y.trans (s6.trans (s7.trans s8));have S8:=S4.trans b3;have b8:=b3 _ _ b7;have c9:∀ e∈fs,FV (upd (upd E6 q (.tup (us.map kV))) t (.tup [V.str (nmO (ns.getD (Int.toNat 0) 0) (ns.getD (Int.toNat 1) 0) i),.str tb,.ref q])) e/\FGood e.2:=λ e J=>⟨(b6 e J).1.same b3,(b6 e J).2⟩;refine ⟨L,_,_,rfl,rfl,b8,by rw [z2o];exact qz (by omega),?_⟩;generalize upd (upd E6 q (.tup (us.map kV))) t (.tup [V.str (nmO (ns.getD (Int.toNat 0) 0) (ns.getD (Int.toNat 1) 0) i),.str tb,.ref q])=G8 at*;have kt:∀ o,q24 G8 (upd G8 L o):=λ o c ys hc=>by
       rw [qd (λ z:c=L=>by rw [z,b8] at hc;cases hc)];exact hc
      refine ⟨_,_,_,fs++ [(.ref t,nmO (ns.getD (Int.toNat 0) 0) (ns.getD (Int.toNat 1) 0) i,tb,us)],rfl,S8.set hL,by rw [q0,z2t];rfl,by rw [z1f,lf];rfl,λ e J=> ?_,?_⟩
      ·rcases z2i.mp J with h | h
       ·obtain ⟨⟨p,q',x1,x2,x3⟩,g⟩:=c9 e h;exact ⟨⟨p,q',x1,kt _ _ _ x2,kt _ _ _ x3⟩,g⟩
       ·rw [z1d.mp h];exact ⟨⟨t,q,rfl,kt _ _ _ d9,kt _ _ _ d6⟩,q7z _ _ _,d2 tb e0,by show us.length<=4;omega,λ u hu=>d1 u (gu u hu)⟩
      ·rw [z2t,ef,List.range_succ,z2t];rfl
     ·obtain ⟨⟨v',rfl⟩,sm,us,hu,lu,gu⟩:=p;obtain ⟨rfl,rfl⟩:=y;obtain ⟨d',hd,c7,d1'⟩:∃ d:Int,atI [V.int 1,V.int 4,V.int 16,V.int 64] (0+(j:Int))=some (V.int d)/\0 < d/\d<=64:=by
       have:j=0\/ j=1\/ j=2\/ j=3:=by omega
       rcases this with rfl | rfl | rfl | rfl
       ·exact ⟨1,zr,by decide,by decide⟩
       ·exact ⟨4,zr,by decide,by decide⟩
       ·exact ⟨16,zr,by decide,by decide⟩
       ·exact ⟨64,zr,by decide,by decide⟩
      refine ⟨_,rfl,_,rfl,by show 4<=sizeLine;decide,λ q hq=> ?_⟩;have b2:=qb (o:=HO.lst [V.int 1,V.int 4,V.int 16,V.int 64]) hq;have d4:=SqL.of (K:=K) ((sm.trans b2) _ _ c6);obtain ⟨e,b9,J⟩:=q6y (xs:=ks.map kV) (i:=x / d'%4) (z2x _ (by decide)) (by rw [z2o,e6];exact z1m _ (by decide));obtain ⟨u,e4,rfl⟩:=z3n.mp J;refine ⟨_,rfl,_,_,_,_,rfl,rfl,SqL.of q0,hd,_,_,rfl,rfl,⟨c7,by omega⟩,_,_,rfl,rfl,(by show (0:Int) < 4;decide),_,_,_,_,rfl,rfl,d4,b9,?_⟩;refine ⟨_,b2 _ _ hu,by rw [z2o,lu];exact qz (by omega),⟨_,rfl⟩,(sm.trans b2).set hD,us++ [u],by rw [q0,z2t];rfl,by rw [z1f,lu];rfl,λ x hx=> ?_⟩;rcases z2i.mp hx with hx | hx
      ·exact gu x hx
      ·rw [z1d.mp hx];exact e4
    ·rintro σ G2 ⟨v6,v7,v9,fs,rfl,s2,a0,lf,gf,ef⟩;rw [z2o] at lf ef;refine ⟨_,zr,k L fs G2 (SF.trans s2) (SF.free hL) a0 ⟨SqL.of a0,gf,?_,by omega⟩⟩;rw [ef];exact qvj _ _ (by omega)
  ·refine ⟨_,rfl,a,ns,_,rfl,O,by decide,_,_,rfl,rfl,⟨by decide,by decide,by decide⟩,_,_,rfl,rfl,(by show (0:Int) < 10^30;decide),?_⟩;refine ⟨_,rfl,by show 2<=sizeLine;decide,λ p hp=> ?_⟩;have s1:=qb (o:=HO.lst [V.int 1,.int (-1)]) hp;have a6:=s1.seq O;obtain ⟨v,a8,hv⟩:=q6y (xs:=[V.int 1,.int (-1)]) (i:=ns.getD (4:Int).toNat 0%2) (z2x _ (by decide)) (z1m _ (by decide));obtain ⟨n,rfl,hn⟩:∃ n:Int,v= .int n/\ -(2^64) < n/\n < 2^64:=by
    simp only [z37,z2g,or_false] at hv;rcases hv with rfl | rfl
    ·exact ⟨_,zr,by decide⟩
    ·exact ⟨_,zr,by decide⟩
   refine ⟨_,rfl,a,ns,_,rfl,a6,by decide,_,_,rfl,rfl,(by show (0:Int) < 2;decide),_,_,_,_,rfl,rfl,SqL.of q0,a8,_,_,rfl,rfl,.inr hn,?_⟩;refine ⟨_,zr,a,ns,_,zr,a6,by decide,_,zr,a,ns,_,zr,a6,by decide,_,_,0,zr,by decide,λ H2 s2=> ?_⟩;have S2:=s1.trans s2;refine ⟨_,rfl,_,rfl,_,rfl,_,_,rfl,rfl,_,rfl,a,ns,_,rfl,S2.seq O,by decide,_,rfl,a,ns,_,rfl,S2.seq O,by decide,_,_,1,rfl,by decide,λ H3 s3=>⟨by show 4<=sizeLine;decide,λ r a9=> ?_⟩⟩;have S3:=S2.trans s3;have s4:=qb (o:=HO.lst (([.inl (ns.getD (Int.toNat 3) 0%10^Int.toNat 30*n),.inr (nmO (ns.getD (Int.toNat 4) 0) (ns.getD (Int.toNat 5) 0) 0),.inl (ns.getD (Int.toNat 3) 0%10^Int.toNat 30*n+1),.inr (nmO (ns.getD (Int.toNat 4) 0) (ns.getD (Int.toNat 5) 0) 1)]:List Key).map kV)) a9;have d8:=q0 (H:=H3) (a:=r) (o:=HO.lst (([.inl (ns.getD (Int.toNat 3) 0%10^Int.toNat 30*n),.inr (nmO (ns.getD (Int.toNat 4) 0) (ns.getD (Int.toNat 5) 0) 0),.inl (ns.getD (Int.toNat 3) 0%10^Int.toNat 30*n+1),.inr (nmO (ns.getD (Int.toNat 4) 0) (ns.getD (Int.toNat 5) 0) 1)]:List Key).map kV));have S4:=S3.trans s4;refine ⟨_,zr,by decide,by decide,λ D hD=> ?_⟩;refine q1k 3 (λ j σ' Z=>(∃ v',σ'=[v',some (.ref a)])/\Same (upd H3 r (.lst (([.inl (ns.getD (Int.toNat 3) 0%10^Int.toNat 30*n),.inr (nmO (ns.getD (Int.toNat 4) 0) (ns.getD (Int.toNat 5) 0) 0),.inl (ns.getD (Int.toNat 3) 0%10^Int.toNat 30*n+1),.inr (nmO (ns.getD (Int.toNat 4) 0) (ns.getD (Int.toNat 5) 0) 1)]:List Key).map kV))) Z/\∃ ts:List Str,Z D=some (.lst (ts.map V.str))/\ts.length=j/\∀ z∈ts,txtB smaS z=true) ⟨⟨_,rfl⟩,qb hD,[],q0,rfl,λ _ z=>nomatch z⟩ (λ i σ' H' hi p=>hi) (λ σ' Z p=>⟨z3q _,?_⟩) (λ j σ' Z hj p x' E3 y=> ?_)
   ·obtain ⟨_,Y,ts,ht,lt,gt⟩:=p;refine hC _ _ ⟨_,_,r,D,_,ts,zr,S4.trans Y,Y _ _ d8,zr,λ kk hk=> ?_,ht,lt,gt⟩;simp only [z37,z2g,or_false] at hk;rcases hk with rfl | rfl | rfl | rfl
    ·trivial
    ·exact q7z _ _ _
    ·trivial
    ·exact q7z _ _ _
   ·obtain ⟨⟨v',rfl⟩,Y,ts,ht,lt,gt⟩:=p;obtain ⟨rfl,rfl⟩:=y;have S5:=S4.trans Y;refine ⟨_,zr,a,ns,_,zr,S5.seq O,by decide,_,zr,a,ns,_,zr,S5.seq O,by decide,_,zr,_,_,j,congrArg (λ t=>[V.int _,V.int _,V.int t]) (Int.zero_add _),by omega,λ E6 s6=> ?_⟩;refine ⟨_,s6 _ _ ht,by rw [z2o,lt];exact qz (by omega),⟨_,rfl⟩,(Y.trans s6).set hD,ts++ [_],by rw [q0,z2t];rfl,by rw [z1f,lt];rfl,λ z hz=> ?_⟩;rcases z2i.mp hz with h | h
    ·exact gt z h
    ·rw [z1d.mp h];exact q7z _ _ _
theorem qnt (z x y:Option Int):minO (minO z x) y=minO (minO z y) x:=by
 cases z <;> cases x <;> cases y <;> simp only [minO] <;> congr 1 <;> (repeat' split) <;> omega
theorem qie {l J:List (Option Int)} (h:l.Perm J):qu l=qu J:=h.foldl_eq' (λ x _ y _ z=>qnt z x y) none
def qfh:Option Int ->PyData
 | none=> .none
 | some i=> .int i
theorem q81 {K:PySem.W.Frag} {H:Hp}:∀ c:Option Int,Dat K H (qfh c) (q18 c)
 | none=> .non
 | some i=> .int i
theorem qt3:∀ c:Option Int,tyIs (tyD (qfh c)) "bool"=false
 | none=>rfl
 | some _=>rfl
def nmP (cf:Str ->Option Int) (fl:List FT) (p:PR):List Str:=Tim.srt strLt ((evs cf p fl).map (·.1))
def wayD (cf:Str ->Option Int) (fl:List FT) (p:PR):PyData:= .list (whyD (oneT (nmP cf fl p)))
def lowD (cf:Str ->Option Int) (fl:List FT) (p:PR):PyData:=qfh (qu ((evs cf p fl).map (·.2)))
def rowD (p:PR) (d:PyData):PyData:= .tuple [.str p.1,.tuple (p.2.map keyD),d]
theorem q4y {n:Nat}:∀ {l:List PyData},(∀ d∈l,d.depth<=n) ->PyData.depthAll l<=n
 | [],_=>z3t _
 | d::l,h=>Nat.max_le.mpr ⟨h d (z1g ..),q4y λ x hx=>h x (z10 _ hx)⟩
theorem qnu (cf:Str ->Option Int) (fl:List FT) (p:PR):(wayD cf fl p).depth<=3:=by
 refine z2f (q4y λ d hd=> ?_);obtain ⟨kv,J,rfl⟩:=z3n.mp hd;obtain ⟨z,_,rfl⟩:=z3n.mp J;exact z3q _
theorem qnv (cf:Str ->Option Int) (J:List FT) (p:PR):(lowD cf J p).depth<=3:=by
 unfold lowD;cases qu ((evs cf p J).map (·.2)) <;> exact z3t _
theorem qeo {f:PR ->PyData} (h:∀ p,(f p).depth<=3) (ps:List PR):(PyData.list (ps.map λ p=>rowD p (f p))).depth<=60:=by
 refine z2f (q4y (n:=59) λ d hd=> ?_);obtain ⟨p,_,rfl⟩:=z3n.mp hd;have:=h p;show max 0 (max (PyData.depthAll (p.2.map keyD)+1) (max (f p).depth 0))+1<=59;rw [qbl];omega
def RwV (H:Hp) (p:PR) (v x:V):Prop:=∃ r q,x= .ref r/\H r=some (.tup [.str p.1,.ref q,v])/\H q=some (.tup (p.2.map kV))
def Told (K:PySem.W.Frag) (H:Hp) (f:PR ->PyData) (x:V) (p:PR):Prop:=PrGood p/\∃ v,RwV H p v x/\Dat K H (f p) v
theorem NtR.same {K:PySem.W.Frag} {H H':Hp} {x:V} (s:Same H H') (h:NtR K H x):NtR K H' x:=let ⟨r,q,v,z,ks,wd,e,h1,h2,h3,h4,h5,h6,h7⟩:=h;⟨r,q,v,z,ks,wd,e,s _ _ h1,s _ _ h2,h3,h4,h5,Dat.same s _ _ h6,h7⟩
theorem qq2 {K:PySem.W.Frag} {H:Hp} {f:PR ->PyData} {x:V} {p:PR} (h:Told K H f x p):Dat K H (rowD p (f p)) x:=by
 obtain ⟨g,v,⟨r,q,rfl,h1,h2⟩,d⟩:=h;exact .tup (SqT.of h1) (.cons (.str _ (GoodK.tx (k:= .inr p.1) g.1).2) (.cons (.tup (SqT.of h2) (q3f λ u hu=>q4e (g.2.2 u hu).tx)) (.cons d .nil)))
theorem q55 {K:PySem.W.Frag} {H:Hp} {f:PR ->PyData}:∀ {xs:List V} {ps:List PR},Paired (Told K H f) xs ps ->Dats K H (ps.map λ p=>rowD p (f p)) xs
 | _,_,.nil=> .nil
 | _,_,.cons a b=> .cons (qq2 a) (q55 b)
theorem qhg {K:PySem.W.Frag} {H:Hp} {f:PR ->PyData} (nb:∀ p,tyIs (tyD (f p)) "bool"=false) {xs:List V} {ps:List PR} (h:Paired (Told K H f) xs ps):∀ x∈xs,NtR K H x:=by
 induction h with
 | nil=>exact λ _ z=>nomatch z
 | cons a _ ih=>
  intro x hx;rcases z37.mp hx with rfl | hx
  ·obtain ⟨g,v,⟨r,q,e,h1,h2⟩,d⟩:=a;exact ⟨r,q,v,_,_,_,e,h1,h2,(GoodK.tx (k:= .inr _) g.1).2,g.2.2,g.2.1,d,nb _⟩
  ·exact ih x hx
def Kp (B:Hp) (U W:Addr) (G F:Hp):Prop:=q24 G F/\∀ a zs,G a=some (.lst zs) ->B a=none ->a≠U ->a≠W ->F a=some (.lst zs)
theorem Kp.trans {B:Hp} {U W:Addr} {G F J:Hp} (a:Kp B U W G F) (b:Kp B U W F J):Kp B U W G J:=⟨λ x y h=>b.1 x y (a.1 x y h),λ x zs h1 h2 h3 h4=>b.2 x zs (a.2 x zs h1 h2 h3 h4) h2 h3 h4⟩
theorem Kp.of {B:Hp} {U W:Addr} {G F:Hp} (s:Same G F):Kp B U W G F:=⟨Same.keepT s,λ _ _ h _ _ _=>s _ _ h⟩
theorem Kp.set {B:Hp} {U W:Addr} {G:Hp} {o:HO} {a:Addr} {xs:List V} (h:G a=some (.lst xs)) (e:a=U\/ a=W):Kp B U W G (upd G a o):=⟨λ b ys J=>by
    rw [qd (λ z:b=a=>by rw [z,h] at J;cases J)];exact J,λ b zs J _ n1 n2=>by
    rw [qd (λ z:b=a=>e.elim (λ q=>n1 (z.trans q)) λ q=>n2 (z.trans q))];exact J⟩
theorem qep {K:PySem.W.Frag} {B:Hp} {U W:Addr} {f:PR ->PyData} {G J:Hp} {xs:List V} {ps:List PR} (s:Kp B U W G J) (h:∀ F,Kp B U W G F ->Paired (Told K F f) xs ps):∀ F,Kp B U W J F ->Paired (Told K F f) xs ps:=λ F h2=>h F (s.trans h2)
def WL (kvs:List (PR×V)) (a:Addr):Prop:=∃ p,valV kvs p=some (.ref a)
def Tch (ls ls':List Addr) (ks:List (List (PR×V))) (i:Nat) (a:Addr):Prop:=∃ j,j < i/\(ls[j]? =some a\/ ls'[j]? =some a\/ ∃ kvs,ks[j]? =some kvs/\WL kvs a)
structure M50 (K:PySem.W.Frag) (H1 H2 H3 B F:Hp) (fa cd D D':Addr) (ls ls':List Addr) (ks ks':List (List (PR×V))) (cf:Str ->Option Int) (fs:List (V×FT)) (ws:List (Key×V)) (n:Nat):Prop where
 r1:RunOk H1 H2 .grow cf (fs.map (·.2)) n D ls ks
 s12:Same H2 H3
 r2:RunOk H3 B .cost cf (fs.map (·.2)) n D' ls' ks'
 sm:Same B F
 fs_:FsIn K F fa fs
 cs:F cd=some (.dK ws)
 cv:∀ e∈fs,valV ws (.inr e.2.1)=some (q18 (cf e.2.1))
 n5:n<=5
section
variable {K:PySem.W.Frag} {H1 H2 H3 B F:Hp} {fa cd D D':Addr} {ls ls':List Addr} {ks ks':List (List (PR×V))} {cf:Str ->Option Int} {fs:List (V×FT)} {ws:List (Key×V)} {n:Nat}
theorem M50.at1 (M:M50 K H1 H2 H3 B F fa cd D D' ls ls' ks ks' cf fs ws n) {j:Nat} {l:Addr} (h:ls[j]? =some l):∃ kvs zs,ks[j]? =some kvs/\H2 l=some (.lst zs)/\B l=some (.lst zs)/\Paired (TRow B kvs) zs (plcP (fs.map (·.2.2)))/\Sm H1 H2 .grow cf (fs.map (·.2)) kvs:=by
 have jl:=(z06.mp h).1;have jk:j < ks.length:=by rw [M.r1.lk,<- M.r1.ll];exact jl
 have J:=z0c jk;obtain ⟨_,⟨zs,h1,h2⟩,h3⟩:=M.r1.rw_ j l _ h J;have s:=M.s12.trans M.r2.sm;refine ⟨_,zs,J,h1,s _ _ h1,?_,h3⟩;rw [h3.srt,z3p] at h2;exact q31 (Same.keepT s) h2
theorem M50.at2 (M:M50 K H1 H2 H3 B F fa cd D D' ls ls' ks ks' cf fs ws n) {j:Nat} {l:Addr} (h:ls'[j]? =some l):∃ kvs zs,ks'[j]? =some kvs/\H3 l=none/\B l=some (.lst zs)/\Paired (TRow B kvs) zs (plcP (fs.map (·.2.2)))/\Sm H3 B .cost cf (fs.map (·.2)) kvs:=by
 have jl:=(z06.mp h).1;have jk:j < ks'.length:=by rw [M.r2.lk,<- M.r2.ll];exact jl
 have J:=z0c jk;obtain ⟨h0,⟨zs,h1,h2⟩,h3⟩:=M.r2.rw_ j l _ h J;refine ⟨_,zs,J,h0,h1,?_,h3⟩;rw [h3.srt,z3p] at h2;exact h2
theorem M50.wl (M:M50 K H1 H2 H3 B F fa cd D D' ls ls' ks ks' cf fs ws n) {j:Nat} {kvs:List (PR×V)} {a:Addr} (J:ks[j]? =some kvs) (h:WL kvs a):∃ zs,H2 a=some (.lst zs)/\zs.length<=fs.length/\a∉D::ls:=by
 obtain ⟨p,L⟩:=h;have jk:=(z06.mp J).1;have jl:j < ls.length:=by rw [M.r1.ll,<- M.r1.lk];exact jk
 obtain ⟨_,_,h3⟩:=M.r1.rw_ j _ kvs (z0c jl) J;rcases h3.at_ p with ⟨e1,_⟩ | ⟨v,e1,_,_,l,zs,rfl,h1,h2⟩
 ·rw [L] at e1;cases e1
 ·rw [L] at e1;cases e1
  refine ⟨zs,h1,?_,M.r1.far kvs (z12 J) p _ L⟩;have h4:=h2.length;unfold oneT at h4;rw [z2o,(Tim.q19 strLt _).length_eq,z2o] at h4;have:=q9x cf p (fs.map (·.2));rw [z2o] at this;omega
theorem M50.tch (M:M50 K H1 H2 H3 B F fa cd D D' ls ls' ks ks' cf fs ws n) {i:Nat} {a:Addr} (h:Tch ls ls' ks i a):∃ zs,B a=some (.lst zs):=by
 obtain ⟨j,_,h | h | ⟨kvs,hk,h⟩⟩:=h
 ·obtain ⟨_,zs,_,_,x,_⟩:=M.at1 h;exact ⟨zs,x⟩
 ·obtain ⟨_,zs,_,_,x,_⟩:=M.at2 h;exact ⟨zs,x⟩
 ·obtain ⟨zs,x,_⟩:=M.wl hk h;exact ⟨zs,(M.s12.trans M.r2.sm) _ _ x⟩
theorem qnw {α:Type} {l:List α} (h:l.Nodup) {i j:Nat} {a:α} (h1:l[i]? =some a) (h2:l[j]? =some a):i=j:=by
 obtain ⟨J,O⟩:=z06.mp h1;obtain ⟨L,c2⟩:=z06.mp h2;rcases Nat.lt_trichotomy i j with q | q | q
 ·exact absurd (O.trans c2.symm) ((z07.mp h) i j J L q)
 ·exact q
 ·exact absurd (c2.trans O.symm) ((z07.mp h) j i L J q)
theorem M50.offH3 (M:M50 K H1 H2 H3 B F fa cd D D' ls ls' ks ks' cf fs ws n) {j:Nat} {a:Addr} {o:HO} (h:ls'[j]? =some a) (h2:H2 a=some o):False:=by
 obtain ⟨_,_,_,x,_⟩:=M.at2 h;rw [M.s12 _ _ h2] at x;cases x
theorem M50.offD (M:M50 K H1 H2 H3 B F fa cd D D' ls ls' ks ks' cf fs ws n) (i:Nat):¬ Tch ls ls' ks i D:=by
 rintro ⟨j,_,h | h | ⟨kvs,hk,h⟩⟩
 ·exact (z2q.mp M.r1.nd).1 (z12 h)
 ·exact M.offH3 h M.r1.at_
 ·obtain ⟨_,_,_,x⟩:=M.wl hk h;exact x (z1g ..)
theorem M50.offD' (M:M50 K H1 H2 H3 B F fa cd D D' ls ls' ks ks' cf fs ws n) (i:Nat):¬ Tch ls ls' ks i D':=by
 have dn:=M.r2.dn;rintro ⟨j,_,h | h | ⟨kvs,hk,h⟩⟩
 ·obtain ⟨_,_,_,x,_⟩:=M.at1 h;rw [M.s12 _ _ x] at dn;cases dn
 ·exact (z2q.mp M.r2.nd).1 (z12 h)
 ·obtain ⟨_,x,_⟩:=M.wl hk h;rw [M.s12 _ _ x] at dn;cases dn
theorem M50.off1 (M:M50 K H1 H2 H3 B F fa cd D D' ls ls' ks ks' cf fs ws n) {i:Nat} {l:Addr} (hl:ls[i]? =some l):¬ Tch ls ls' ks i l:=by
 obtain ⟨_,_,_,x,_⟩:=M.at1 hl;rintro ⟨j,ji,h | h | ⟨kvs,hk,h⟩⟩
 ·have:=qnw (z2q.mp M.r1.nd).2 h hl;omega
 ·exact M.offH3 h x
 ·obtain ⟨_,_,_,y⟩:=M.wl hk h;exact y (z10 _ (z12 hl))
theorem M50.off2 (M:M50 K H1 H2 H3 B F fa cd D D' ls ls' ks ks' cf fs ws n) {i:Nat} {l:Addr} (hl:ls'[i]? =some l):¬ Tch ls ls' ks i l:=by
 rintro ⟨j,ji,h | h | ⟨kvs,hk,h⟩⟩
 ·obtain ⟨_,_,_,x,_⟩:=M.at1 h;exact M.offH3 hl x
 ·have:=qnw (z2q.mp M.r2.nd).2 h hl;omega
 ·obtain ⟨_,x,_⟩:=M.wl hk h;exact M.offH3 hl x
theorem M50.offW (M:M50 K H1 H2 H3 B F fa cd D D' ls ls' ks ks' cf fs ws n) {i:Nat} {J:List (PR×V)} {a:Addr} (hi:ks[i]? =some J) (hw:WL J a):¬ Tch ls ls' ks i a:=by
 obtain ⟨_,x,_,y⟩:=M.wl hi hw;rintro ⟨j,ji,h | h | ⟨kvs,hk,h⟩⟩
 ·exact y (z10 _ (z12 h))
 ·exact M.offH3 h x
 ·obtain ⟨p,hp⟩:=hw;obtain ⟨q,hq⟩:=h;obtain ⟨b1,c1⟩:=z06.mp hk;obtain ⟨b2,c2⟩:=z06.mp hi;have:=(z07.mp M.r1.ap) j i b1 b2 ji;rw [c1,c2] at this;exact this q p a hq hp
theorem PrGood.all (M:M50 K H1 H2 H3 B F fa cd D D' ls ls' ks ks' cf fs ws n) {p:PR} (h:p∈plcP (fs.map (·.2.2))):PrGood p:=by
 obtain ⟨e,he,rfl⟩:=z3n.mp ((qbk _ _).mp h);have g:=(M.fs_.gd e he).2;exact ⟨g.tb,g.ln,g.vs⟩
theorem qnx (M:M50 K H1 H2 H3 B F fa cd D D' ls ls' ks ks' cf fs ws n) {p:PR}:∀ L∈oneT (nmP cf (fs.map (·.2)) p),∀ z∈L.1,PyData.strOk z=true:=λ L J z hz=>by
 obtain ⟨y,hy,rfl⟩:=z3n.mp J;rw [z1d.mp hz];obtain ⟨e,he,rfl⟩:=z3n.mp ((Tim.q19 strLt _).mem_iff.mp hy);obtain ⟨f,hf,ef⟩:=qdn he;obtain ⟨x,hx,rfl⟩:=z3n.mp hf;rw [<- ef];exact (GoodK.tx (k:= .inr x.2.1) (M.fs_.gd x hx).2.nm).2
theorem paired_mem {α β:Type} {R S:α ->β ->Prop}:∀ {l:List α} {k:List β},Paired R l k ->(∀ a b,b∈k ->R a b ->S a b) ->Paired S l k
 | _,_,.nil,_=> .nil
 | _,_,.cons a b,h=> .cons (h _ _ (z1g ..) a) (paired_mem b λ x y hy=>h x y (z10 _ hy))
theorem M50.told1 (M:M50 K H1 H2 H3 B F fa cd D D' ls ls' ks ks' cf fs ws n) {G:Hp} {kvs:List (PR×V)} {zs:List V} (J:q24 B G) (kl:∀ a ys,WL kvs a ->B a=some (.lst ys) ->G a=some (.lst ys)) (h:Paired (TRow B kvs) zs (plcP (fs.map (·.2.2)))) (hS:Sm H1 H2 .grow cf (fs.map (·.2)) kvs):Paired (Told K G (wayD cf (fs.map (·.2)))) zs (plcP (fs.map (·.2.2))):=by
 refine paired_mem h λ x p hp ⟨r,q,v,e,h1,h2,h3⟩=>⟨PrGood.all M hp,v,⟨r,q,e,J _ _ h1,J _ _ h2⟩,?_⟩;have s:=M.s12.trans M.r2.sm;rcases hS.at_ p with ⟨e1,_⟩ | ⟨v',e1,_,_,l,ys,rfl,g1,g2⟩
 ·rw [h3] at e1;cases e1
 ·rw [h3] at e1;cases e1
  exact .lst (SqL.of (kl l ys ⟨p,h3⟩ (s _ _ g1))) (qbf (q28 (λ a ys ha=>J _ _ (s _ _ ha)) g2) (qnx M))
theorem M50.told2 (M:M50 K H1 H2 H3 B F fa cd D D' ls ls' ks ks' cf fs ws n) {G:Hp} {kvs:List (PR×V)} {zs:List V} (J:q24 B G) (h:Paired (TRow B kvs) zs (plcP (fs.map (·.2.2)))) (hS:Sm H3 B .cost cf (fs.map (·.2)) kvs):Paired (Told K G (lowD cf (fs.map (·.2)))) zs (plcP (fs.map (·.2.2))):=by
 refine paired_mem h λ x p hp ⟨r,q,v,e,h1,h2,h3⟩=>⟨PrGood.all M hp,v,⟨r,q,e,J _ _ h1,J _ _ h2⟩,?_⟩;rcases hS.at_ p with ⟨e1,_⟩ | ⟨v',e1,_,_,g⟩
 ·rw [h3] at e1;cases e1
 ·rw [h3] at e1;cases e1
  have g:v=q18 _:=g;rw [g];exact q81 _
end
def sp_law (K:PySem.W.Frag):Sp:=λ vs H Q _=>∃ (a:Addr) (ns:List Int),vs=[.ref a]/\SqL K H a (ns.map V.int)/\ns.length<=63/\∀ H',Q (.bl true) H'
def cfO (ws:List (Key×V)) (z:Str):Option Int:=
 match valV ws (.inr z) with
 | some (.int i)=>some i
 | _=>none
theorem qvl {ws:List (Key×V)} {zs:List Str} (h:CsD ws zs) {z:Str} (hz:z∈zs):valV ws (.inr z)=some (q18 (cfO ws z)):=by
 have:=h.has z hz;unfold cfO;cases q:valV ws (.inr z) with
 | none=>
  rw [q] at this;cases this
 | some v=>
  obtain ⟨_,c,_,rfl,_⟩:=h.all _ _ q;cases c <;> rfl
def qfi (f:FT):PyData:= .tuple [.str f.1,.str f.2.1,.tuple (f.2.2.map keyD)]
theorem qq3 {K:PySem.W.Frag} {H:Hp} {e:V×FT} (h:FV H e) (g:FGood e.2):Dat K H (qfi e.2) e.1:=by
 obtain ⟨p,q,e1,h1,h2⟩:=h;rw [e1];exact .tup (SqT.of h1) (.cons (.str _ (GoodK.tx (k:= .inr e.2.1) g.nm).2) (.cons (.str _ (GoodK.tx (k:= .inr e.2.2.1) g.tb).2) (.cons (.tup (SqT.of h2) (q3f λ u hu=>q4e (g.vs u hu).tx)) .nil)))
theorem qny {K:PySem.W.Frag} {H:Hp} {fs:List (V×FT)} (h:∀ e∈fs,FV H e/\FGood e.2):Dats K H (fs.map λ e=>qfi e.2) (fs.map (·.1)):=q3f (f:=λ e=>qfi e.2) (g:=λ e=>e.1) λ e J=>qq3 (h e J).1 (h e J).2
theorem qif (fs:List (V×FT)):(PyData.list (fs.map λ e=>qfi e.2)).depth<=60:=by
 refine z2f (q4y (n:=59) λ d hd=> ?_);obtain ⟨e,_,rfl⟩:=z3n.mp hd;show max 0 (max 0 (max (PyData.depthAll (e.2.2.2.map keyD)+1) 0))+1<=59;rw [qbl];decide
theorem qcr {K:PySem.W.Frag} {H:Hp}:∀ {ws:List (Key×V)},(∀ J∈ws,∃ c,J.2=q18 c) ->Paired (DatP K H) ws ws
  | [],_=> .nil
  | J::ws,h=> .cons (by
      obtain ⟨c,e⟩:=h J (z1g ..);refine ⟨rfl,qfh c,by rw [e];exact q81 c,by rw [e];exact q81 c,?_⟩;cases c <;> exact z3t _) (qcr λ x hx=>h x (z10 _ hx))
theorem qvm {l:PySem.W.OpenLaw} {w:World} {K:PySem.W.Frag} {mg:Str ->Option Value} {fa:Addr} (T:Txt K mg) (i8:mg "law"=some (.ref fa)):
  ∃ fd:FuncData,(∀ (s:Shared) (v:Value),BindsTo s fd ⟨[v],[]⟩ [("_law_script",v)])/\∀ base:Heap,K.In base ->base.Ns mainGlobals mg ->FnOk l.prog w K mg base CX0 13 fa fd ["_law_script"] (sp_law K):=by
 refine T.t_law.fin i8 q2s (λ vs H Q E h=> ?_) λ base f cdv A outer s H vs Q E hr h=> ?_
 ·obtain ⟨a,ns,rfl,_⟩:=h;rfl
 ·obtain ⟨a,ns,rfl,hS,q5,k⟩:=h;refine qja 7 (λ σ F=>∃ (H1 H2 H3 B:Hp) (fa cd D D':Addr) (ls ls':List Addr) (ks ks':List (List (PR×V))) (cf:Str ->Option Int) (fs:List (V×FT)) (ws:List (Key×V)) (n:Nat) (v4:Option V),σ=[some (.ref a),some (.ref fa),some (.ref cd),some (.int n),v4,some (.ref D),some (.ref D'),none,none,none,none,none,none]/\M50 K H1 H2 H3 B F fa cd D D' ls ls' ks ks' cf fs ws n) ⟨_,(qkg
   (qr (i:=7) q2s.nd rfl (Or.inl rfl) (q1l q2c))
   (qr (i:=8) q2s.nd rfl (Or.inl rfl) (q1l q2c))
   (q1s PassesOwn.never rfl (q14 K (qf (qdp T) hr rfl (pa_1 (pv 1)))) (qh (i:=9) q2s.nd rfl (Or.inr rfl)) (q2z
   (qr (i:=10) q2s.nd rfl (Or.inl rfl) (ql (qev K) rfl T.q84 q68 (pa_1 (q20 (N:=["_law_fact","_law_place"]) (caps:=[none,some 9]) rfl (by with_unfolding_all rfl) (q14 K (pv 1)) (λ _ _ _ _ _=>(qh (i:=0) (show (["_law_fact","_law_place"]:List Str).Nodup by decide+kernel) rfl (Or.inl rfl))) (λ _ _ _ _ _=>qg8 (q1a (qmm hr.units K) (qb4 (qrq K) (pv 0) (q9p qa) qj0) (pv 1) (q17 _))) (λ _ _ _ _ _=>(qm (q11 K) (pv 0) qa (λ _ _=>rfl)))))))
   (q1j (q3c z0h z0d z0e q2e (pv 7) (pa_1 (qk (qga K) (pv 9) (q1n (pa_1 (q20 (N:=["_law_name_here"]) (caps:=[none]) rfl (by with_unfolding_all rfl) (q14 K (pv 10)) (λ _ _ _ _ _=>(qh (i:=0) (show (["_law_name_here"]:List Str).Nodup by decide+kernel) rfl (Or.inl rfl))) (λ _ _ _ _ _=>q25) (λ _ _ _ _ _=>(q1n (pa_2 (q1n (pa_1 (pv 0))) qa))))))))))
   (q1j (q3c z0h z0d z0e q2e (pv 8) (pa_1 (qk (qga K) (pv 9) (q1n (pa_1 (qf (qf1 T) hr rfl (pa_1 (q20 (N:=["_law_name_here","_law_costs_here"]) (caps:=[none,some 2]) rfl (by with_unfolding_all rfl) (q14 K (pv 10)) (λ _ _ _ _ _=>(qh (i:=0) (show (["_law_name_here","_law_costs_here"]:List Str).Nodup by decide+kernel) rfl (Or.inl rfl))) (λ _ _ _ _ _=>q25) (λ _ _ _ _ _=>(q6w (q3d hr) (pv 1) (pv 0) (λ _ _=>rfl))))))))))))))
   (q1s PassesOwn.never rfl (q2l rfl T.q3g (pa_1 (qk q21 (pv 3) qa))) (qh (i:=11) q2s.nd rfl (Or.inl rfl)) (q9s
   (q1m (PW.pt (q3b (q1a (qge hr.units K) (qm (qx K) (pv 5) (pv 11) (λ _ _=>rfl)) (pv 7) (q17 _)) (q3b (q1a (qge hr.units K) (qm (qx K) (pv 6) (pv 11) (λ _ _=>rfl)) (pv 8) (q17 _)) (q3b (q2q (q2b (qf (q5f T) hr rfl (pa_1 (qm (qx K) (pv 5) (pv 11) (λ _ _=>rfl)))))) (q50 (q2q (q2b (qf (q5f T) hr rfl (pa_1 (qm (qx K) (pv 6) (pv 11) (λ _ _=>rfl))))))))))) (qg (qi q3a)) q15)
   (q1s PassesOwn.never rfl (q14 K (qm (qx K) (pv 5) (pv 11) (λ _ _=>rfl))) (qh (i:=12) q2s.nd rfl (Or.inl rfl)) (qg (q1j (q3c z0h z0d z0e q2e (qm (q11 K) (pv 12) qa (λ _ _=>rfl)) (pa_1 qa)))))
   (q1j (q3c z0h z0d z0e q2e (qm (qx K) (pv 5) (pv 11) (λ _ _=>rfl)) (pa_1 qa)))
   (q1j (q3c z0h z0d z0e q2e (qm (qx K) (pv 6) (pv 11) (λ _ _=>rfl)) (pa_1 qa)))))
   (qi q3a)),?_⟩ (λ u hu hC=>⟨_,(qwn
   (qr (i:=1) q2s.nd rfl (Or.inl rfl) (qf (qf3 T) hr rfl (pa_1 (pv 0))))
   (qr (i:=2) q2s.nd rfl (Or.inr rfl) (qf (qf2 T) hr rfl (pa_2 (pv 0) (pv 1))))
   (qr (i:=3) q2s.nd rfl (Or.inl rfl) (qk q1q (qk q2r (qf (qt T) hr rfl (pa_2 (pv 0) qa)) qa) qa))
   (qr (i:=4) q2s.nd rfl (Or.inl rfl) (q1n (pa_3 (q2u (qkf K) rfl T.qo0 qj8 (pa_1 (pv 1))) (q1l q2c) (q2u qkl rfl T.qhi qdd (pa_1 (pv 2))))))
   (qr (i:=5) q2s.nd rfl (Or.inl rfl) (qf (ql5 T) hr rfl (pa_3 (qm (q11 K) (pv 4) qa (λ _ _=>rfl)) (qm (q11 K) (pv 4) qa (λ _ _=>rfl)) (pv 3))))
   (qr (i:=6) q2s.nd rfl (Or.inl rfl) (qf (qv4 T) hr rfl (pa_5 (qm (q11 K) (pv 4) qa (λ _ _=>rfl)) (qm (q11 K) (pv 4) qa (λ _ _=>rfl)) (pv 3) (qgj T.qq9 T.qqa T.qq8 rfl T.qt6) (qm (q11 K) (pv 4) qa (λ _ _=>rfl)))))
   (q1m (PW.pt (q3b (q1a (qn8 hr.u66 K) (pv 4) (q1n (pa_3 (pv 1) (q1l q2c) (pv 2))) (q17 _)) (q3b (q1a q7d (ql (q1g K) rfl T.b_len q1u (pa_1 (pv 5))) (qk q21 (pv 3) qa) (q17 _)) (q50 (q1a q7d (ql (q1g K) rfl T.b_len q1u (pa_1 (pv 6))) (qk q21 (pv 3) qa) (q17 _)))))) (qg (qi q3a)) q15)
   hu),?_⟩)
  ·rintro σ F ⟨H1,H2,H3,B,fa,cd,D,D',ls,ls',ks,ks',cf,fs,ws,n,v4,rfl,M⟩;have n5:=M.n5;have ln:=M.fs_.ln;refine ⟨by decide,λ U hU=> ?_⟩;have s1:=qb (o:=HO.lst []) hU;refine ⟨by decide,λ W hW=> ?_⟩;have s2:=qb (o:=HO.lst []) hW;have S2:=s1.trans s2;have UW:U≠W:=λ z=>by
    rw [<- z,q0] at hW;cases hW
   have BU:B U=none:=M.sm.free hU;have BW:B W=none:=M.sm.free (s1.free hW);have eU:upd (upd F U (.lst [])) W (.lst []) U=some (.lst []):=s2 _ _ q0;have eW:upd (upd F U (.lst [])) W (.lst []) W=some (.lst []):=q0;generalize upd (upd F U (.lst [])) W (.lst [])=F2 at*;refine ⟨_,zr,fa,fs,zr,M.fs_.same S2,λ pl es F3 s3 a8 j0 n0 a9=> ?_⟩;have S3:=S2.trans s3;have l0:∀ e∈es,PrGood e.2:=λ e he=>PrGood.all M (a9 ▸ z3n.mpr ⟨e,he,rfl⟩);have le:es.length<=49:=by
    have h1:(es.map (·.2)).length<=(fs.map (·.2.2)).length:=by
     rw [a9];exact (qqt (q80 _)).length_le_of_subset λ x hx=>(qbk _ _).mp hx
    rw [z2o,z2o] at h1;omega
   have o9:pl≠U:=λ z=>by rw [z,eU] at a8;cases a8
   have p0:pl≠W:=λ z=>by rw [z,eW] at a8;cases a8
   refine ⟨pl,zr,⟨_,SqL.of j0⟩,q29 (xs:=es.map (·.1)) (λ i σ G=>∃ (v9 a2:Option V) (xs ys:List V),σ=[some (.ref a),some (.ref fa),some (.ref cd),some (.int n),v4,some (.ref D),some (.ref D'),some (.ref U),some (.ref W),v9,a2,none,none]/\Same F G/\G pl=some (.lst (es.map (·.1)))/\(∀ e∈es,PV G e)/\G U=some (.lst xs)/\G W=some (.lst ys)/\xs.length=i/\ys.length=i/\(∀ G',Kp B U W G G' ->Paired (Told K G' (wayD cf (fs.map (·.2)))) xs ((es.map (·.2)).take i))/\(∀ G',Kp B U W G G' ->Paired (Told K G' (lowD cf (fs.map (·.2)))) ys ((es.map (·.2)).take i)))
    ⟨none,none,[],[],rfl,S3,j0,n0,s3 _ _ eU,s3 _ _ eW,rfl,rfl,(λ _ _=> .nil),λ _ _=> .nil⟩ (λ i σ G _ z=> ?_) ?_ ?_⟩
   ·obtain ⟨_,_,_,_,_,_,z,_⟩:=z;exact SqL.of z
   ·rintro i x σ G hx ⟨v9,a2,xs,ys,rfl,sg,d6,e9,b1,c8,lx,ly,tx,ty⟩;rw [z1s] at hx;obtain ⟨e,e7,rfl⟩:=z0m.mp hx;have il:=(z06.mp e7).1;have em:=z12 e7;obtain ⟨b,eb,hb⟩:=e9 e em;have g:=l0 e em;obtain ⟨bq,i1,i3⟩:=pr_at.mp hb;have j3:(es.map (·.2)).take (i+1)=(es.map (·.2)).take i++ [e.2]:=by rw [z33,z1s,e7];rfl
    have b4:=M.fs_.same sg;rw [eb];refine ⟨_,zr,fa,zr,⟨_,b4.ls⟩,λ E0 g8=> ?_⟩;refine q1k (fs.map (·.1)).length (λ j σ' O=>(∃ v,σ'=[v,some (.ref b)])/\Same G O/\O E0=some (.lst (((evs cf e.2 ((fs.map (·.2)).take j)).map (·.1)).map V.str))) ⟨⟨_,zr⟩,qb g8,q0⟩ (λ j σ' O hj p=> ?_) (λ σ' O p=>⟨?_,?_⟩) (λ j σ' O hj p x' E3 y=> ?_)
    ·exact ⟨_,_,p.2.1.seq b4.ls,z0c hj⟩
    ·exact ⟨_,p.2.1.seq b4.ls,z3q _⟩
    ·obtain ⟨_,Y,c5⟩:=p;rw [z2o,<- z2o (f:=λ x:V×FT=>x.2),z2h] at c5;have k9:=q9x cf e.2 (fs.map (·.2));rw [z2o] at k9;refine ⟨E0,_,rfl,.inl (SqL.of c5),by rw [z2o];omega,λ nl e8=> ?_⟩;have s4:=Y.trans (qb (o:=HO.lst ((Tim.srt L2.strLt ((evs cf e.2 (fs.map (·.2))).map (·.1))).map V.str)) e8);have L:=q0 (H:=O) (a:=nl) (o:=HO.lst ((Tim.srt L2.strLt ((evs cf e.2 (fs.map (·.2))).map (·.1))).map V.str));generalize upd O nl (.lst ((Tim.srt L2.strLt ((evs cf e.2 (fs.map (·.2))).map (·.1))).map V.str))=G4 at*;have lnm:(nmP cf (fs.map (·.2)) e.2).length<=49:=by
      unfold nmP;rw [(Tim.q19 strLt _).length_eq,z2o];omega
     have L:G4 nl=some (.lst ((nmP cf (fs.map (·.2)) e.2).map V.str)):=L;have l7:=s4 _ _ b1;refine ⟨_,zr,.inl ⟨zr,_,SqL.of l7⟩,_,zr,_,zr,nl,zr,⟨_,SqL.of L⟩,λ D2 d9=> ?_⟩;refine q1k ((nmP cf (fs.map (·.2)) e.2).map V.str).length (λ j σ' O=>(∃ v,σ'=[v])/\Same G4 O/\∃ zs,O D2=some (.lst zs)/\zs.length=j/\Paired (PlAt O) zs (oneT ((nmP cf (fs.map (·.2)) e.2).take j))) ⟨⟨_,zr⟩,qb d9,[],q0,zr,.nil⟩ (λ j σ' O hj p=> ?_) (λ σ' O p=>⟨?_,?_⟩) (λ j σ' O hj p x' E3 y=> ?_)
     ·exact ⟨_,_,SqL.of (p.2.1 _ _ L),z0c hj⟩
     ·exact ⟨_,SqL.of (p.2.1 _ _ L),z3q _⟩
     ·obtain ⟨_,c0,zs,f6,lz,pz⟩:=p;rw [z2o,z2h] at pz;have s5:=s4.trans c0;refine ⟨by show 1<=sizeLine;decide,λ t1 f0=> ?_⟩;have u1:=qb (o:=HO.tup [V.ref D2]) f0;refine ⟨b,t1,_,_,rfl,rfl,SqT.of ((s5.trans u1) _ _ i1),SqT.of q0,λ z=>(nomatch z),by show 2+1<=sizeLine;decide,λ z=>(nomatch z),λ _ r1 o2=> ?_⟩;have u2:=qb (o:=HO.tup ([V.str e.2.1,.ref bq]++ [V.ref D2])) o2;have k7:=q0 (H:=upd O t1 (.tup [V.ref D2])) (a:=r1) (o:=HO.tup ([V.str e.2.1,.ref bq]++ [V.ref D2]));have s6:=u1.trans u2;have S6:=s5.trans s6;have e5:=S6 _ _ b1;have m2:=S6 _ _ c8;have j5:=s6 _ _ f6;have b2:G D2=none:=s4.free d9;have k3:D2≠U:=λ z=>by rw [z,b1] at b2;cases b2
      have k4:D2≠W:=λ z=>by rw [z,c8] at b2;cases b2
      have k1:B D2=none:=(M.sm.trans sg).free b2;have p3:=q28 (Same.keepT s6) pz;have n9:=S6 _ _ i3;generalize upd (upd O t1 (.tup [V.ref D2])) r1 (.tup ([V.str e.2.1,.ref bq]++ [V.ref D2]))=G6 at*;refine ⟨U,xs,_,rfl,rfl,e5,by rw [lx];exact qz (by omega),?_⟩;have b7:Kp B U W G (upd G6 U (.lst (xs++ [.ref r1]))):=(Kp.of S6).trans (Kp.set e5 (.inl rfl));have p4:∀ G',Kp B U W (upd G6 U (.lst (xs++ [.ref r1]))) G' ->Paired (Told K G' (wayD cf (fs.map (·.2)))) (xs++ [.ref r1]) ((es.map (·.2)).take (i+1)):=λ G' kp=>by
       rw [j3];have a5:Kp B U W G6 G':=(Kp.set e5 (.inl rfl)).trans kp;refine q2f (tx G' (b7.trans kp)) ⟨g,.ref D2,⟨r1,bq,zr,a5.1 _ _ k7,a5.1 _ _ n9⟩,.lst (SqL.of (a5.2 _ _ j5 k1 k3 k4)) (qbf (q28 a5.1 p3) (qnx M))⟩
      have k0:Same F (upd G6 U (.lst (xs++ [.ref r1]))):=(sg.trans S6).set hU;have l8:upd G6 U (.lst (xs++ [.ref r1])) U=some (.lst (xs++ [.ref r1])):=q0;have i0:upd G6 U (.lst (xs++ [.ref r1])) W=some (.lst ys):=by rw [qd UW.symm];exact m2
      have j1:upd G6 U (.lst (xs++ [.ref r1])) pl=some (.lst (es.map (·.1))):=by rw [qd o9];exact S6 _ _ d6
      have a7:upd G6 U (.lst (xs++ [.ref r1])) nl=some (.lst ((nmP cf (fs.map (·.2)) e.2).map V.str)):=by
       rw [qd (λ z=>by rw [z,Y _ _ b1] at e8;cases e8)];exact (c0.trans s6) _ _ L
      have j2:∀ e∈es,PV (upd G6 U (.lst (xs++ [.ref r1]))) e:=λ e he=>(e9 e he).keep b7.1;have i2:=b7.1 _ _ i1;have i4:=b7.1 _ _ i3;have p5:=qep b7 ty;generalize upd G6 U (.lst (xs++ [.ref r1]))=G7 at*;have m4:=k0 _ _ M.cs;refine ⟨_,zr,.inl ⟨zr,_,SqL.of i0⟩,_,zr,_,zr,nl,zr,⟨_,SqL.of a7⟩,λ D3 g7=> ?_⟩;refine q1k ((nmP cf (fs.map (·.2)) e.2).map V.str).length (λ j σ' O=>(∃ v,σ'=[v,some (.ref cd)])/\Same G7 O/\O D3=some (.lst ((((nmP cf (fs.map (·.2)) e.2).take j).map cf).map q18))) ⟨⟨_,zr⟩,qb g7,q0⟩ (λ j σ' O hj p=> ?_) (λ σ' O p=>⟨?_,?_⟩) (λ j σ' O hj p x' E3 y=> ?_)
      ·exact ⟨_,_,SqL.of (p.2.1 _ _ a7),z0c hj⟩
      ·exact ⟨_,SqL.of (p.2.1 _ _ a7),z3q _⟩
      ·obtain ⟨_,c1,c6⟩:=p;rw [z2o,z2h] at c6;refine ⟨D3,_,rfl,SqL.of c6,by rw [z2o];omega,λ G8 s8=> ?_⟩;have lp:qu ((nmP cf (fs.map (·.2)) e.2).map cf)=qu ((evs cf e.2 (fs.map (·.2))).map (·.2)):=by
        refine qie ?_;have h1:((evs cf e.2 (fs.map (·.2))).map (·.2))=((evs cf e.2 (fs.map (·.2))).map (·.1)).map cf:=by
         unfold evs;rw [z3p,z3p,z3p];rfl
        rw [h1];exact (Tim.q19 strLt _).map cf
       rw [lp];refine ⟨by show 1<=sizeLine;decide,λ t2 f2=> ?_⟩;have S8:=c1.trans s8;have u3:=qb (o:=HO.tup [q18 (qu ((evs cf e.2 (fs.map (·.2))).map (·.2)))]) f2;refine ⟨b,t2,_,_,rfl,rfl,SqT.of ((S8.trans u3) _ _ i2),SqT.of q0,λ z=>(nomatch z),by show 2+1<=sizeLine;decide,λ z=>(nomatch z),λ _ r2 o3=> ?_⟩;have u4:=qb (o:=HO.tup ([V.str e.2.1,.ref bq]++ [q18 (qu ((evs cf e.2 (fs.map (·.2))).map (·.2)))])) o3;have k8:=q0 (H:=upd G8 t2 (.tup [q18 (qu ((evs cf e.2 (fs.map (·.2))).map (·.2)))])) (a:=r2) (o:=HO.tup ([V.str e.2.1,.ref bq]++ [q18 (qu ((evs cf e.2 (fs.map (·.2))).map (·.2)))]));have S9:=S8.trans (u3.trans u4);generalize upd (upd G8 t2 (.tup [q18 (qu ((evs cf e.2 (fs.map (·.2))).map (·.2)))])) r2 (.tup ([V.str e.2.1,.ref bq]++ [q18 (qu ((evs cf e.2 (fs.map (·.2))).map (·.2)))]))=G9 at*;have e6:=S9 _ _ i0;have o0:=S9 _ _ i4;refine ⟨W,ys,_,rfl,rfl,e6,by rw [ly];exact qz (by omega),?_⟩;have f7:Kp B U W G7 (upd G9 W (.lst (ys++ [.ref r2]))):=(Kp.of S9).trans (Kp.set e6 (.inr rfl));refine ⟨_,_,xs++ [.ref r1],ys++ [.ref r2],rfl,(k0.trans S9).set (s1.free hW),by rw [qd p0];exact S9 _ _ j1,λ e he=>(j2 e he).keep f7.1,by rw [qd UW];exact S9 _ _ l8,q0,by rw [z1f,lx];rfl,by rw [z1f,ly];rfl,qep f7 p4,λ G' kp=> ?_⟩;rw [j3];have a5:Kp B U W G9 G':=(Kp.set e6 (.inr rfl)).trans kp;exact q2f (p5 G' (f7.trans kp)) ⟨g,_,⟨r2,bq,zr,a5.1 _ _ k8,a5.1 _ _ o0⟩,q81 _⟩
      ·obtain ⟨⟨v,rfl⟩,c1,c6⟩:=p;obtain ⟨rfl,hy⟩:=y;have a0:=hy _ (SqL.of (c1 _ _ a7));rw [z1s] at a0;obtain ⟨z,d0,rfl⟩:=z0m.mp a0;have m5:valV ws (.inr z)=some (q18 (cf z)):=by
        obtain ⟨q,hq,rfl⟩:=z3n.mp ((Tim.q19 strLt _).mem_iff.mp (z12 d0));obtain ⟨f',n3,ef⟩:=qdn hq;obtain ⟨x0,o4,rfl⟩:=z3n.mp n3;rw [<- ef];exact M.cv x0 o4
       have dg:DGet E3 cd (.str z) (some (q18 (cf z))):=by rw [<- m5];exact DGet.k (k:= .inr z) (c1 _ _ m4)
       refine ⟨_,zr,_,zr,cd,_,zr,dg,?_⟩;refine ⟨_,c6,by rw [z2o,z2o,z25];exact qz (by rw [z2o] at hj;omega),⟨_,rfl⟩,c1.set g7,?_⟩;rw [q0,z33,d0,z2t,z2t];rfl
     ·obtain ⟨⟨v,rfl⟩,c0,zs,f6,lz,pz⟩:=p;obtain ⟨rfl,hy⟩:=y;have a0:=hy _ (SqL.of (c0 _ _ L));rw [z1s] at a0;obtain ⟨z,d0,rfl⟩:=z0m.mp a0;refine ⟨_,rfl,by show 1<=sizeLine;decide,λ t1 f0=> ?_⟩;have u1:=qb (o:=HO.tup [V.str z]) f0;refine ⟨by show 2<=sizeLine;decide,λ t2 f2=> ?_⟩;have u2:=qb (o:=HO.tup [V.ref t1,.int 1]) f2;have e2:=q0 (H:=upd E3 t1 (.tup [V.str z])) (a:=t2) (o:=HO.tup [V.ref t1,.int 1]);have e1:=u2 _ _ (q0 (H:=E3) (a:=t1) (o:=HO.tup [V.str z]));have g0:=u1.trans u2;have j4:=g0 _ _ f6;generalize upd (upd E3 t1 (.tup [V.str z])) t2 (.tup [V.ref t1,.int 1])=E4 at*;have kt:q24 E4 (upd E4 D2 (.lst (zs++ [.ref t2]))):=λ c ys Z=>by
       rw [qd (λ q:c=D2=>by rw [q,j4] at Z;cases Z)];exact Z
      refine ⟨_,j4,by rw [lz];exact qz (by rw [z2o] at hj;omega),⟨_,rfl⟩,(c0.trans g0).set d9,zs++ [.ref t2],q0,by rw [z1f,lz];rfl,?_⟩;rw [z33,d0];show Paired _ _ (oneT (_++ [z]));rw [q7y];exact q2f (q28 kt (q28 (Same.keepT g0) pz)) ⟨t2,t1,zr,kt _ _ e2,kt _ _ e1⟩
    ·obtain ⟨⟨v,rfl⟩,Y,c5⟩:=p;obtain ⟨rfl,hy⟩:=y;have a0:=hy _ (Y.seq b4.ls);rw [z1s] at a0;obtain ⟨e',i7,rfl⟩:=z0m.mp a0;obtain ⟨⟨p',pq,ep,hp,hq⟩,fg⟩:=b4.gd e' (z12 i7);have c9:evs cf e.2 ((fs.map (·.2)).take (j+1))=evs cf e.2 ((fs.map (·.2)).take j)++(if e'.2.2=e.2 then [(e'.2.1,cf e'.2.1)] else []):=by
      rw [z33,z1s,i7];exact qh9 ..
     rw [ep];refine ⟨_,zr,_,zr,_,_,zr,SqT.of (Y _ _ hp),(λ z=>absurd (show HT.sIx 3 0 (some 1)=0 from z.1) (by decide)),λ q n8=> ?_⟩;have u1:=qb (o:=HO.tup [V.str e'.2.2.1,.ref pq]) n8;have d1:Dat K (upd E3 q (.tup [V.str e'.2.2.1,.ref pq])) (pkD e'.2.2) (.ref q):=qcq ⟨fg.tb,fg.ln,fg.vs⟩ (pr_at.mpr ⟨pq,q0,(Y.trans u1) _ _ hq⟩);have d2:Dat K (upd E3 q (.tup [V.str e'.2.2.1,.ref pq])) (pkD e.2) (.ref b):=qcq g (hb.same (Y.trans u1));refine ⟨_,zr,pkD e'.2.2,pkD e.2,d1,d2,qhd _,?_⟩;rw [qnp];have e0:=u1 _ _ c5;refine ⟨_,zr,ite2 (λ h=> ?_) (λ h=> ?_)⟩
     ·have h:=of_decide_eq_true h;rw [if_pos h] at c9;refine ⟨_,zr,_,_,_,_,zr,zr,SqT.of ((Y.trans u1) _ _ hp),qp (j:=0) rfl,?_⟩;refine ⟨_,e0,by rw [z2o,z2o];exact qz (by have:=q9x cf e.2 ((fs.map (·.2)).take j);rw [z25,z2o] at this;omega),⟨_,rfl⟩,(Y.trans u1).set g8,?_⟩;rw [q0,c9,z2t,z2t];rfl
     ·have h:¬ e'.2.2=e.2:=λ z=>h (z2y z);rw [if_neg h,z2p] at c9;rw [<- c9] at e0;exact ⟨⟨_,zr⟩,Y.trans u1,e0⟩
   ·rintro σ G ⟨v9,a2,xs,ys,rfl,sg,d6,e9,b1,c8,lx,ly,tx,ty⟩;rw [z2o,<- z2o (f:=λ x:V×PR=>x.2),z2h,a9] at tx ty;have BG:=M.sm.trans sg;refine ⟨_,zr,_,_,zr,zr,_,zr,by omega,by omega,q42 (lo:=0) (n:=n+1) (λ i σ J=>∃ (v9 a2 g1 a6:Option V),σ=[some (.ref a),some (.ref fa),some (.ref cd),some (.int n),v4,some (.ref D),some (.ref D'),some (.ref U),some (.ref W),v9,a2,g1,a6]/\∀ c o,G c=some o ->¬ Tch ls ls' ks i c ->J c=some o) ⟨_,_,_,_,zr,λ c o h _=>h⟩ ?_ ?_⟩
    ·rintro i σ J hi ⟨v9,a2,g1,a6,rfl,kj⟩;have f8:q24 B J:=λ c zs Z=>kj c _ (BG _ _ Z) λ z=>by
      obtain ⟨_,q⟩:=M.tch z;rw [Z] at q;cases q
     have b8:∀ c o,G c=some o ->B c=none ->J c=some o:=λ c o Z hB=>kj c o Z λ z=>by
      obtain ⟨_,q⟩:=M.tch z;rw [hB] at q;cases q
     have j8:q24 G J:=λ c zs Z=>kj c _ Z λ z=>by
      obtain ⟨_,q⟩:=M.tch z;rw [BG _ _ q] at Z;cases Z
     have j7:Kp B U W G J:=⟨j8,λ c zs Z hB _ _=>b8 c _ Z hB⟩;have l9:=b8 _ _ b1 BU;have m3:=b8 _ _ c8 BW;have c4:J D=some (.lst (ls.map V.ref)):=kj _ _ ((M.s12.trans (M.r2.sm.trans BG)) _ _ M.r1.at_) (M.offD i);have b3:J D'=some (.lst (ls'.map V.ref)):=kj _ _ (BG _ _ M.r2.at_) (M.offD' i);have l1:=M.r1.ll;have l2:=M.r2.ll;have hl:=z0c (l:=ls) (i:=i) (by omega);have a3:=z0c (l:=ls') (i:=i) (by omega);generalize ls[i]=l at hl;generalize ls'[i]=l' at a3;obtain ⟨kvs,zs,hk,l3,l4,d3,h9⟩:=M.at1 hl;obtain ⟨q6,p6,hk',p7,g5,d7,l6⟩:=M.at2 a3;have b6:=kj _ _ (BG _ _ l4) (M.off1 hl);have b5:=kj _ _ (BG _ _ g5) (M.off2 a3);have j6:∀ c ys,WL kvs c ->B c=some (.lst ys) ->J c=some (.lst ys):=λ c ys hw hB=>kj _ _ (BG _ _ hB) (M.offW hk hw);have T1:=M.told1 f8 j6 d3 h9;have T2:=M.told2 f8 d7 l6;have T3:=tx J j7;have T4:=ty J j7;have dA:Dat K J (.list ((plcP (fs.map (·.2.2))).map λ p=>rowD p (wayD cf (fs.map (·.2)) p))) (.ref l):= .lst (SqL.of b6) (q55 T1);have dB:Dat K J (.list ((plcP (fs.map (·.2.2))).map λ p=>rowD p (wayD cf (fs.map (·.2)) p))) (.ref U):= .lst (SqL.of l9) (q55 T3);have dC:Dat K J (.list ((plcP (fs.map (·.2.2))).map λ p=>rowD p (lowD cf (fs.map (·.2)) p))) (.ref l'):= .lst (SqL.of b5) (q55 T2);have dE:Dat K J (.list ((plcP (fs.map (·.2.2))).map λ p=>rowD p (lowD cf (fs.map (·.2)) p))) (.ref W):= .lst (SqL.of m3) (q55 T4);have at1:atI (ls.map V.ref) (0+(i:Int))=some (.ref l):=by rw [Int.zero_add];exact qp (by rw [z1s,hl];rfl)
     have at2:atI (ls'.map V.ref) (0+(i:Int))=some (.ref l'):=by rw [Int.zero_add];exact qp (by rw [z1s,a3];rfl)
     refine ⟨_,rfl,_,rfl,_,_,_,_,rfl,rfl,SqL.of c4,at1,_,rfl,_,_,dA,dB,qeo (qnu _ _) _,_,rfl,q1d (by rw [SeqAt.eqv_refl _ (Dat.lay _ _ dA)];rfl) ?_⟩;refine ⟨_,rfl,_,rfl,_,_,_,_,rfl,rfl,SqL.of b3,at2,_,rfl,_,_,dC,dE,qeo (qnv _ _) _,_,rfl,q1d (by rw [SeqAt.eqv_refl _ (Dat.lay _ _ dC)];rfl) ?_⟩;refine ⟨_,zr,_,zr,_,_,_,_,zr,zr,SqL.of c4,at1,l,_,zr,SqL.of b6,qhg (λ _=>rfl) T1,λ J1 s1=> ?_⟩;refine ⟨_,zr,q1d rfl ?_⟩;refine ⟨_,zr,_,zr,_,_,_,_,zr,zr,SqL.of (s1 _ _ b3),at2,l',_,zr,SqL.of (s1 _ _ b5),(λ x hx=>(qhg (λ p=>qt3 _) T2 x hx).same s1),λ J2 s2=> ?_⟩;refine ⟨_,zr,q1d rfl ?_⟩;have S2:=s1.trans s2;have lw:∀ c,WL kvs c ->∃ ys,J2 c=some (.lst ys)/\ys.length<=49+0:=λ c hw=>by
      obtain ⟨ys,h1,h2,_⟩:=M.wl hk hw;exact ⟨ys,S2 _ _ (j6 c ys hw ((M.s12.trans M.r2.sm) _ _ h1)),by omega⟩
     have nl:¬ WL kvs l:=λ hw=>by
      obtain ⟨_,_,_,x⟩:=M.wl hk hw;exact x (z10 _ (z12 hl))
     have nD:¬ WL kvs D:=λ hw=>by
      obtain ⟨_,_,_,x⟩:=M.wl hk hw;exact x (z1g ..)
     have o8:¬ WL kvs l':=λ hw=>by
      obtain ⟨_,x,_⟩:=M.wl hk hw;exact M.offH3 a3 x
     have o7:¬ WL kvs D':=λ hw=>by
      obtain ⟨_,x,_⟩:=M.wl hk hw;have dn:=M.r2.dn;rw [M.s12 _ _ x] at dn;cases dn
     refine ⟨_,rfl,_,rfl,_,_,_,_,rfl,rfl,SqL.of (S2 _ _ c4),at1,l,rfl,⟨_,SqL.of (S2 _ _ b6)⟩,q29 (xs:=zs) (λ m σ N=>∃ (a6:Option V),σ=[some (.ref a),some (.ref fa),some (.ref cd),some (.int n),v4,some (.ref D),some (.ref D'),some (.ref U),some (.ref W),v9,a2,some (.int (0+(i:Int))),a6]/\(∀ c o,J2 c=some o ->¬ WL kvs c ->N c=some o)/\∀ c,WL kvs c ->∃ ys,N c=some (.lst ys)/\ys.length<=49+m) ⟨_,rfl,(λ c o h _=>h),lw⟩ (λ m σ N _ z=> ?_) ?_ ?_⟩
     ·obtain ⟨_,_,z,_⟩:=z;exact SqL.of (z _ _ (S2 _ _ b6) nl)
     ·rintro m x σ N hx ⟨a6,rfl,kn,f9⟩;have lz:zs.length<=49:=by
       rw [d3.length,<- a9,z2o];exact le
      have ml:=(z06.mp hx).1;obtain ⟨p,_,r,q,v,rfl,h1,h2,h3⟩:=q36 d3 hx;obtain ⟨c,rfl⟩:∃ c,v= .ref c:=by
       rcases h9.at_ p with ⟨e1,_⟩ | ⟨v',e1,_,_,c,ys,rfl,_⟩
       ·rw [h3] at e1;cases e1
       ·rw [h3] at e1;cases e1
        exact ⟨c,zr⟩
      have wc:WL kvs c:=⟨p,h3⟩;obtain ⟨ys,Z,lc⟩:=f9 c wc;have o1:N r=some (.tup [.str p.1,.ref q,.ref c]):=kn _ _ (S2 _ _ (f8 _ _ h1)) λ hw=>by
       obtain ⟨_,x,_⟩:=M.wl hk hw;rw [(M.s12.trans M.r2.sm) _ _ x] at h1;cases h1
      refine ⟨_,zr,_,_,_,_,zr,zr,SqT.of o1,qp (j:=2) rfl,.inl ⟨zr,_,SqL.of Z⟩,c,_,_,zr,zr,Z,qz (by omega),?_⟩;refine ⟨_,zr,λ d o hd nw=> ?_,λ d hw=> ?_⟩
      ·rw [qd (λ z:d=c=>nw (z ▸ wc))];exact kn d o hd nw
      ·by_cases z:d=c
       ·exact ⟨_,by rw [z,q0],by rw [z1f];show ys.length+1<=_;omega⟩
       ·obtain ⟨us,h4,h5⟩:=f9 d hw;exact ⟨us,by rw [qd z];exact h4,by omega⟩
     ·rintro σ N ⟨a6,rfl,kn,f9⟩;have lz:zs.length<=49:=by
       rw [d3.length,<- a9,z2o];exact le
      have lz':p6.length<=49:=by
       rw [d7.length,<- a9,z2o];exact le
      have i9:=kn _ _ (S2 _ _ b6) nl;have l5:=kn _ _ (S2 _ _ c4) nD;have d5:=kn _ _ (S2 _ _ b5) o8;have g6:=kn _ _ (S2 _ _ b3) o7;have k2:D'≠l:=λ z=>M.offD' (i+1) (z ▸ ⟨i,z2a i,.inl hl⟩);have j9:l'≠l:=λ z=>M.offH3 a3 (z ▸ l3);refine ⟨_,zr,_,zr,_,_,_,_,zr,zr,SqL.of l5,at1,.inl ⟨zr,_,SqL.of i9⟩,l,_,_,zr,zr,i9,qz (by omega),?_⟩;refine ⟨_,rfl,_,rfl,_,_,_,_,rfl,rfl,SqL.of (by rw [qd k2];exact g6),at2,.inl ⟨rfl,_,SqL.of (by rw [qd j9];exact d5)⟩,l',_,_,rfl,rfl,by rw [qd j9];exact d5,qz (by omega),?_⟩;refine ⟨_,_,_,_,zr,λ c o Z nt=> ?_⟩;have n1:c≠l:=λ z=>nt ⟨i,z2a i,.inl (z ▸ hl)⟩;have n2:c≠l':=λ z=>nt ⟨i,z2a i,.inr (.inl (z ▸ a3))⟩;rw [qd n2,qd n1];refine kn _ _ (S2 _ _ (kj c o Z λ ⟨j,hj,q⟩=>nt ⟨j,z23 hj,q⟩)) λ hw=>nt ⟨i,z2a i,.inr (.inr ⟨kvs,hk,hw⟩)⟩
    ·rintro σ J ⟨v9,a2,g1,a6,rfl,kj⟩;exact k J
  ·refine ⟨_,zr,a,ns,zr,hS,λ fa fs H1 s1 p9 i8 hF=> ?_⟩;refine ⟨_,zr,_,zr,a,fa,ns,fs,zr,s1.seq hS,hF,λ cd ws H2 s2 p8 i6 lw g2=> ?_⟩;have S2:=s1.trans s2;refine ⟨_,rfl,a,ns,0,rfl,S2.seq hS,by decide,_,_,rfl,rfl,⟨by decide,by decide⟩,_,_,rfl,rfl,(by show (0:Int) < 6;decide),?_⟩;show q66 3 (V.int (ns.getD (Int.toNat 0) 0 / 10%6)) _ _ _;have m0:=z2x (ns.getD (Int.toNat 0) 0 / 10) (show (6:Int)≠0 by decide);have m1:=z1m (ns.getD (Int.toNat 0) 0 / 10) (show (0:Int) < 6 by decide);obtain ⟨n,en⟩:=z0i m0;rw [en] at m1 ⊢;have n5:n<=5:=by omega
   have g9:=hF.same s2;refine ⟨_,zr,fa,_,zr,.inl g9.ls,λ l1 n6=> ?_⟩;have u1:=qb (o:=HO.lst (fs.map (·.1))) n6;refine ⟨by decide,λ l2 n7=> ?_⟩;have u2:=qb (o:=HO.lst []) n7;refine ⟨_,zr,cd,ws,zr,.inl ((u1.trans u2) _ _ i6),λ d1 m6=> ?_⟩;have u3:=qb (o:=HO.dK ws) m6;refine ⟨by show 3<=sizeLine;decide,λ hA n4=> ?_⟩;have u4:=qb (o:=HO.tup [V.ref l1,.ref l2,.ref d1]) n4;have U4:=u1.trans (u2.trans (u3.trans u4));have g4:=(u2.trans (u3.trans u4)) _ _ (q0 (H:=H2) (a:=l1) (o:=HO.lst (fs.map (·.1))));have d8:=(u3.trans u4) _ _ (q0 (H:=upd H2 l1 (HO.lst (fs.map (·.1)))) (a:=l2) (o:=HO.lst []));have g3:=u4 _ _ (q0 (H:=upd (upd H2 l1 (HO.lst (fs.map (·.1)))) l2 (HO.lst [])) (a:=d1) (o:=HO.dK ws));have b0:=q0 (H:=upd (upd (upd H2 l1 (HO.lst (fs.map (·.1)))) l2 (HO.lst [])) d1 (HO.dK ws)) (a:=hA) (o:=HO.tup [V.ref l1,.ref l2,.ref d1]);generalize upd (upd (upd (upd H2 l1 (HO.lst (fs.map (·.1)))) l2 (HO.lst [])) d1 (HO.dK ws)) hA (HO.tup [V.ref l1,.ref l2,.ref d1])=H4 at*;have c7:=g9.same U4;have h8:FsIn K H4 l1 fs:=⟨SqL.of g4,c7.gd,c7.nd,c7.ln⟩;have cv:∀ e∈fs,valV ws (.inr e.2.1)=some (q18 (cfO ws e.2.1)):=λ e he=>qvl g2 (z3n.mpr ⟨e,he,rfl⟩);refine ⟨_,zr,_,_,_,_,zr,zr,SqT.of b0,qp (j:=0) rfl,_,zr,_,_,_,_,zr,zr,SqT.of b0,qp (j:=1) rfl,_,zr,cfO ws,l1,l2,n,fs,zr,h8,SqL.of d8,n5,λ D ls ks H5 r1=> ?_⟩;have s5:=r1.sm;refine ⟨_,zr,_,_,_,_,zr,zr,SqT.of (s5 _ _ b0),qp (j:=0) rfl,_,zr,_,_,_,_,zr,zr,SqT.of (s5 _ _ b0),qp (j:=1) rfl,_,zr,λ o dx ho m7 nd=> ?_⟩;have s6:Same H5 (upd (upd H5 dx (.own o)) o (.ins (cA mg "Costs") dx [])):=(qb m7).set ho;have eo:upd (upd H5 dx (.own o)) o (.ins (cA mg "Costs") dx []) o=some (.ins (cA mg "Costs") dx []):=q0;generalize upd (upd H5 dx (.own o)) o (.ins (cA mg "Costs") dx [])=H6 at*;have b9:=s5.trans s6;refine ⟨_,zr,_,_,_,_,zr,zr,SqT.of (b9 _ _ b0),qp (j:=2) rfl,cfO ws,l1,l2,o,d1,dx,n,fs,ws,zr,h8.same b9,SqL.of (b9 _ _ d8),n5,eo,b9 _ _ g3,cv,λ D' ls' ks' B r2=> ?_⟩;have s7:=b9.trans r2.sm;refine ⟨_,zr,_,zr,by decide,λ e1 m8=> ?_⟩;have u5:=qb (o:=HO.lst []) m8;refine ⟨_,rfl,by show 3<=sizeLine;decide,λ e2 m9=> ?_⟩;have u6:=qb (o:=HO.tup [V.ref fa,.ref e1,.ref cd]) m9;have k5:=u6 _ _ (q0 (H:=B) (a:=e1) (o:=HO.lst []));have k6:=q0 (H:=upd B e1 (.lst [])) (a:=e2) (o:=HO.tup [V.ref fa,.ref e1,.ref cd]);have d4:=u5.trans u6;generalize upd (upd B e1 (.lst [])) e2 (.tup [V.ref fa,.ref e1,.ref cd])=F at*;have S7:=s7.trans d4;have e4:=c7.same S7;have i5:=(U4.trans S7) _ _ i6;have lf:=qny (K:=K) e4.gd;refine ⟨hA,e2,_,_,zr,zr,SqT.of (S7 _ _ b0),SqT.of k6,.cons (.dat (.lst (SqL.of (S7 _ _ g4)) lf) (.lst e4.ls lf) (qif fs)) (.cons (.dat (d:= .list []) (.lst (SqL.of (S7 _ _ d8)) .nil) (.lst (SqL.of k5) .nil) (by decide)) (.cons (.dic (.inl (S7 _ _ g3)) (.inl i5) (qcr g2.ent)) .nil)),_,zr,q1d rfl ?_⟩;have o5:=r1.ll;have o6:=r2.ll;refine ⟨_,rfl,_,_,rfl,.inl ⟨_,SqL.of ((s6.trans (r2.sm.trans d4)) _ _ r1.at_),rfl⟩,_,rfl,_,_,rfl,rfl,rfl,_,rfl,q1d (by rw [z2o,o5];show (!decide (V.int ((n+1:Nat):Int)=V.int ((n:Int)+1)))=false;rw [z2y (by rfl)];rfl) ?_⟩;refine ⟨_,rfl,_,_,rfl,.inl ⟨_,SqL.of (d4 _ _ r2.at_),rfl⟩,_,rfl,_,_,rfl,rfl,rfl,_,rfl,q1d (by rw [z2o,o6];show (!decide (V.int ((n+1:Nat):Int)=V.int ((n:Int)+1)))=false;rw [z2y (by rfl)];rfl) ?_⟩;exact hC _ _ ⟨H4,H5,H6,B,fa,cd,D,D',ls,ls',ks,ks',cfO ws,fs,ws,n,_,zr,r1,s6,r2,d4,e4,i5,cv,n5⟩
open PySem.W in
theorem qhh {K:PySem.W.Frag} {h:Heap} {mg:Str ->Option Value} (X:K.In h) (G:h.Ns mainGlobals mg) {aI aJ aK aL aM aN aO aP aQ aR aS aT aU:Tok} {aH:Addr} {aV:Option Addr} {aW:Array (Option Value)} {aX:Nat}
  (aY:nsIn K mainGlobals "all"=some none)
  (aZ:nsIn K mainGlobals "any"=some none)
  (a0:nsIn K mainGlobals "bool"=some none)
  (a1:nsIn K mainGlobals "dict"=some none)
  (a2:nsIn K mainGlobals "enumerate"=some none)
  (a3:nsIn K mainGlobals "int"=some none)
  (a4:nsIn K mainGlobals "isinstance"=some none)
  (a5:nsIn K mainGlobals "len"=some none)
  (a6:nsIn K mainGlobals "list"=some none)
  (a7:nsIn K mainGlobals "min"=some none)
  (a8:nsIn K mainGlobals "range"=some none)
  (a9:nsIn K mainGlobals "set"=some none)
  (aa:nsIn K mainGlobals "sorted"=some none)
  (ab:nsIn K mainGlobals "str"=some none)
  (ac:nsIn K mainGlobals "tuple"=some none)
  (ad:nsIn K mainGlobals "zip"=some none)
  (ae:nsIn K mainGlobals "SMALL_LETTERS"=some (some (.str "abcdefghijklmnopqrstuvwxyz" aI)))
  (af:nsIn K mainGlobals "CAPITAL_LETTERS"=some (some (.str "ABCDEFGHIJKLMNOPQRSTUVWXYZ" aJ)))
  (ag:nsIn K mainGlobals "FURTHER_SIGNS"=some (some (.str "abcdefghijklmnopqrstuvwxyz0123456789" aK)))
  (ah:nsIn K mainGlobals "MOST_SIGNS"=some (some (.int 12 aL)))
  (ai:nsIn K mainGlobals "MOST_VALUES"=some (some (.int 4 aM)))
  (aj:nsIn K mainGlobals "MOST_ATOMS"=some (some (.int 3 aN)))
  (ak:nsIn K mainGlobals "MOST_CHOICES"=some (some (.int 3 aO)))
  (al:nsIn K mainGlobals "MOST_ROUNDS"=some (some (.int 5 aP)))
  (am:nsIn K mainGlobals "MOST_ROWS"=some (some (.int 60 aQ)))
  (an:nsIn K mainGlobals "MOST_PRODUCTS"=some (some (.int 50 aR)))
  (aG:nsIn K mainGlobals "SIGNS"=some (some (.ref aH)))
  (ao:K.lookup aH=some ⟨.type "tuple",aV,.seq #[.str "=" aS,.str "!=" aT,.str "<" aU] aX,aW⟩)
  (ap:FiK K "_wall" qjl)
  (aq:FiK K "is_whole" q7n)
  (ar:FiK K "is_text_begun_by" q37)
  (as:FiK K "is_word" q91)
  (au:FiK K "is_var" qgs)
  (av:FiK K "is_value" q7o)
  (aw:FiK K "is_row" qb9)
  (ax:FiK K "value_key" q6j)
  (ay:FiK K "row_key" q92)
  (az:FiK K "value_before" q6z)
  (bA:FiK K "pair_key" q7p)
  (bB:FiK K "pairs_in_order" q3x)
  (bC:FiK K "matched" qef)
  (bD:FiK K "put_in" qgt)
  (bE:FiK K "holds" qjm)
  (bF:FiK K "is_tuple_of_up_to" q4i)
  (bG:FiK K "is_tuple_of_just" q38)
  (bH:FiK K "is_fact" q93)
  (bI:FiK K "is_term" qeg)
  (bJ:FiK K "are_terms" qal)
  (bK:FiK K "is_atom" qeh)
  (bL:FiK K "are_atoms" qam)
  (bM:FiK K "is_choice" qan)
  (bN:FiK K "are_choices" q86)
  (bO:FiK K "variables_in" q70)
  (bP:FiK K "variables_of_body" q4j)
  (bQ:FiK K "are_known" qao)
  (bR:FiK K "is_rule" q94)
  (bS:FiK K "each_once" q6k)
  (bT:FiK K "vet_facts" q6l)
  (bU:FiK K "vet" qkp)
  (bV:FiK K "rows_by_shared" q5u)
  (bW:FiK K "choices_known" q6c)
  (bX:FiK K "choices_due" q87)
  (bY:FiK K "all_hold" qce)
  (bZ:FiK K "asked_later" q88)
  (b0:FiK K "steps_of" qcf)
  (b1:FiK K "ask_few_rows" q4m)
  (b2:FiK K "let_stand" q6m)
  (b3:FiK K "rows_of_facts" q47)
  (b4:FiK K "let_heads_stand" q3k)
  (b5:FiK K "in_tables" q6n)
  (b6:FiK K "tables_by_round" q3l)
  (b7:FiK K "add_worth" q6o)
  (b8:FiK K "worths_of_facts" q3m)
  (b9:FiK K "add_sums" q7q)
  (ba:FiK K "worths_by_round" q3n)
  (bb:FiK K "told_behind" q56)
  (bc:FiK K "told_by_round" q48)
  (bd:FiK K "of_fact" q96)
  (be:FiK K "count_in" q7r)
  (bf:FiK K "told_as_why" q57)
  (bg:FiK K "gathered" q7s)
  (bh:FiK K "plus" qgu)
  (bi:FiK K "times" qjn)
  (bj:FiK K "whys_of_facts" q49)
  (bk:FiK K "whys_by_round" q4a)
  (bl:FiK K "why_run" q97)
  (bm:FiK K "ask_worths" q5y)
  (bn:FiK K "run" qkq)
  (bo:FiK K "_law_cell_at" q4p)
  (bp:FiK K "_law_name" q6p)
  (bq:FiK K "_law_facts" q5z)
  (br:FiK K "_law_costs" q60)
  (bs:FiK K "_law_value_ahead" q39)
  (bt:FiK K "_law_ahead" q61)
  (bu:FiK K "_law_places" q58)
  (bv:FiK K "_law_least" q62)
  (bw:FiK K "_law_no_truths" q40)
  (bx:FiK K "law" qkr)
  (J:CiK K "Step")
  (bz:AiK K "Step" "asks" (some none))
  (cA:AiK K "Step" "by_shared" (some none))
  (cB:AiK K "Step" "due" (some none))
  (cC:AiK K "Step" "rows" (some none))
  (cD:AiK K "Step" "shared" (some none))
  (cE:AiK K "Step" "table" (some none))
  (cF:AiK K "Step" "terms" (some none))
  (cG:MiK K "Step" "__init__" "Step.__init__" qap)
  (cH:MiK K "Step" "joined_on" "Step.joined_on" q5v)
  (L:CiK K "Heads")
  (cI:AiK K "Heads" "begun" (some none))
  (cJ:AiK K "Heads" "head" (some none))
  (cK:AiK K "Heads" "seen" (some none))
  (cL:AiK K "Heads" "steps" (some none))
  (cM:MiK K "Heads" "__init__" "Heads.__init__" q95)
  (cN:MiK K "Heads" "following" "Heads.following" q5a)
  (cO:MiK K "Heads" "begin_on" "Heads.begin_on" q5w)
  (O:CiK K "Sums")
  (cP:AiK K "Sums" "ahead" (some none))
  (cQ:AiK K "Sums" "by" (some none))
  (cR:AiK K "Sums" "due" (some none))
  (cS:AiK K "Sums" "head_terms" (some none))
  (cT:AiK K "Sums" "seen" (some none))
  (cU:AiK K "Sums" "steps" (some none))
  (cV:MiK K "Sums" "__init__" "Sums.__init__" qaq)
  (cW:MiK K "Sums" "binding_for" "Sums.binding_for" q52)
  (cX:MiK K "Sums" "pairs_from" "Sums.pairs_from" q5b)
  (cY:MiK K "Sums" "sum_for" "Sums.sum_for" q71)
  (cZ:MiK K "Sums" "sum_from" "Sums.sum_from" q6d)
  (c0:MiK K "Sums" "sum_anew" "Sums.sum_anew" q6e)
  (Y:CiK K "SumsByRule")
  (c1:AiK K "SumsByRule" "ahead" (some none))
  (c2:AiK K "SumsByRule" "by" (some none))
  (c3:AiK K "SumsByRule" "by_rule" (some none))
  (c4:AiK K "SumsByRule" "earlier" (some none))
  (c5:AiK K "SumsByRule" "stayed" (some none))
  (c6:AiK K "SumsByRule" "tables" (some none))
  (c7:MiK K "SumsByRule" "__init__" "SumsByRule.__init__" q3j)
  (c8:MiK K "SumsByRule" "sums_of" "SumsByRule.sums_of" q30)
  (c9:MiK K "SumsByRule" "sums_again" "SumsByRule.sums_again" q3h)
  (ca:MiK K "SumsByRule" "has_stayed" "SumsByRule.has_stayed" q3i)
  (cb:MiK K "SumsByRule" "worths_in" "SumsByRule.worths_in" q3p)
  (Z:CiK K "Growing")
  (cc:AiK K "Growing" "__init__" (some (some (.builtin "object.__init__"))))
  (cd:MiK K "Growing" "nought" "Growing.nought" q3y)
  (ce:MiK K "Growing" "unit" "Growing.unit" q72)
  (cf:MiK K "Growing" "either" "Growing.either" q3z)
  (cg:MiK K "Growing" "both" "Growing.both" q73)
  (aF:CiK K "Costs")
  (ch:AiK K "Costs" "__init__" (some (some (.builtin "object.__init__"))))
  (ci:MiK K "Costs" "fits" "Costs.fits" q5x)
  (cj:MiK K "Costs" "nought" "Costs.nought" q4n)
  (ck:MiK K "Costs" "unit" "Costs.unit" q98)
  (cm:MiK K "Costs" "either" "Costs.either" q4o)
  (cn:MiK K "Costs" "both" "Costs.both" q99):Txt K mg:=
 ⟨z1n X G aY,
  z1n X G aZ,
  z1n X G a0,
  z1n X G a1,
  z1n X G a2,
  z1n X G a3,
  z1n X G a4,
  z1n X G a5,
  z1n X G a6,
  z1n X G a7,
  z1n X G a8,
  z1n X G a9,
  z1n X G aa,
  z1n X G ab,
  z1n X G ac,
  z1n X G ad,
  ⟨_,z3b X G ae⟩,
  ⟨_,z3b X G af⟩,
  ⟨_,z3b X G ag⟩,
  ⟨_,z3b X G ah⟩,
  ⟨_,z3b X G ai⟩,
  ⟨_,z3b X G aj⟩,
  ⟨_,z3b X G ak⟩,
  ⟨_,z3b X G al⟩,
  ⟨_,z3b X G am⟩,
  ⟨_,z3b X G an⟩,
  (by rw [q6a (z3b X G aG)];exact z3b X G aG),
  (by rw [q6a (z3b X G aG)];exact qs6 ao (by show 3<=sizeLine;decide) (.cons ⟨_,rfl⟩ (.cons ⟨_,rfl⟩ (.cons ⟨_,rfl⟩ .nil)))),
  ap.top X G (λ _ _ _ _ _ _=>us1 λ _=>rfl),
  aq.top X G (λ _ _ _ _ _ _=>us1 λ _=>rfl),
  ar.top X G (λ _ _ _ _ _ _=>us2 λ _ _=>rfl),
  as.top X G (λ _ _ _ _ _ _=>us1 λ _=>rfl),
  au.top X G (λ _ _ _ _ _ _=>us1 λ _=>rfl),
  av.top X G (λ _ _ _ _ _ _=>us1 λ _=>rfl),
  aw.top X G (λ _ _ _ _ _ _=>us1 λ _=>rfl),
  ax.top X G (λ _ _ _ _ _ _=>us1 λ _=>rfl),
  ay.top X G (λ _ _ _ _ _ _=>us1 λ _=>rfl),
  az.top X G (λ _ _ _ _ _ _=>us2 λ _ _=>rfl),
  bA.top X G (λ _ _ _ _ _ _=>us1 λ _=>rfl),
  bB.top X G (λ _ _ _ _ _ _=>us1 λ _=>rfl),
  bC.top X G (λ _ _ _ _ _ _=>us3 λ _ _ _=>rfl),
  bD.top X G (λ _ _ _ _ _ _=>us2 λ _ _=>rfl),
  bE.top X G (λ _ _ _ _ _ _=>us2 λ _ _=>rfl),
  bF.top X G (λ _ _ _ _ _ _=>us2 λ _ _=>rfl),
  bG.top X G (λ _ _ _ _ _ _=>us2 λ _ _=>rfl),
  bH.top X G (λ _ _ _ _ _ _=>us1 λ _=>rfl),
  bI.top X G (λ _ _ _ _ _ _=>us1 λ _=>rfl),
  bJ.top X G (λ _ _ _ _ _ _=>us1 λ _=>rfl),
  bK.top X G (λ _ _ _ _ _ _=>us1 λ _=>rfl),
  bL.top X G (λ _ _ _ _ _ _=>us1 λ _=>rfl),
  bM.top X G (λ _ _ _ _ _ _=>us1 λ _=>rfl),
  bN.top X G (λ _ _ _ _ _ _=>us1 λ _=>rfl),
  bO.top X G (λ _ _ _ _ _ _=>us1 λ _=>rfl),
  bP.top X G (λ _ _ _ _ _ _=>us1 λ _=>rfl),
  bQ.top X G (λ _ _ _ _ _ _=>us2 λ _ _=>rfl),
  bR.top X G (λ _ _ _ _ _ _=>us1 λ _=>rfl),
  bS.top X G (λ _ _ _ _ _ _=>us1 λ _=>rfl),
  bT.top X G (λ _ _ _ _ _ _=>us1 λ _=>rfl),
  bU.top X G (λ _ _ _ _ _ _=>us3 λ _ _ _=>rfl),
  bV.top X G (λ _ _ _ _ _ _=>us3 λ _ _ _=>rfl),
  bW.top X G (λ _ _ _ _ _ _=>us2 λ _ _=>rfl),
  bX.top X G (λ _ _ _ _ _ _=>us3 λ _ _ _=>rfl),
  bY.top X G (λ _ _ _ _ _ _=>us2 λ _ _=>rfl),
  bZ.top X G (λ _ _ _ _ _ _=>us4 λ _ _ _ _=>rfl),
  b0.top X G (λ _ _ _ _ _ _=>us4 λ _ _ _ _=>rfl),
  b1.top X G (λ _ _ _ _ _ _=>us1 λ _=>rfl),
  b2.top X G (λ _ _ _ _ _ _=>us2 λ _ _=>rfl),
  b3.top X G (λ _ _ _ _ _ _=>us1 λ _=>rfl),
  b4.top X G (λ _ _ _ _ _ _=>us3 λ _ _ _=>rfl),
  b5.top X G (λ _ _ _ _ _ _=>us1 λ _=>rfl),
  b6.top X G (λ _ _ _ _ _ _=>us3 λ _ _ _=>rfl),
  b7.top X G (λ _ _ _ _ _ _=>us4 λ _ _ _ _=>rfl),
  b8.top X G (λ _ _ _ _ _ _=>us3 λ _ _ _=>rfl),
  b9.top X G (λ _ _ _ _ _ _=>us4 λ _ _ _ _=>rfl),
  ba.top X G (λ _ _ _ _ _ _=>us5 λ _ _ _ _ _=>rfl),
  bb.top X G (λ _ _ _ _ _ _=>us1 λ _=>rfl),
  bc.top X G (λ _ _ _ _ _ _=>us5 λ _ _ _ _ _=>rfl),
  bd.top X G (λ _ _ _ _ _ _=>us1 λ _=>rfl),
  be.top X G (λ _ _ _ _ _ _=>us3 λ _ _ _=>rfl),
  bf.top X G (λ _ _ _ _ _ _=>us1 λ _=>rfl),
  bg.top X G (λ _ _ _ _ _ _=>us1 λ _=>rfl),
  bh.top X G (λ _ _ _ _ _ _=>us2 λ _ _=>rfl),
  bi.top X G (λ _ _ _ _ _ _=>us2 λ _ _=>rfl),
  bj.top X G (λ _ _ _ _ _ _=>us1 λ _=>rfl),
  bk.top X G (λ _ _ _ _ _ _=>us3 λ _ _ _=>rfl),
  bl.top X G (λ _ _ _ _ _ _=>us3 λ _ _ _=>rfl),
  bm.top X G (λ _ _ _ _ _ _=>us3 λ _ _ _=>rfl),
  bn.top X G (λ _ _ _ _ _ _=>us5 λ _ _ _ _ _=>rfl),
  bo.top X G (λ _ _ _ _ _ _=>us2 λ _ _=>rfl),
  bp.top X G (λ _ _ _ _ _ _=>us3 λ _ _ _=>rfl),
  bq.top X G (λ _ _ _ _ _ _=>us1 λ _=>rfl),
  br.top X G (λ _ _ _ _ _ _=>us2 λ _ _=>rfl),
  bs.top X G (λ _ _ _ _ _ _=>us2 λ _ _=>rfl),
  bt.top X G (λ _ _ _ _ _ _=>us2 λ _ _=>rfl),
  bu.top X G (λ _ _ _ _ _ _=>us1 λ _=>rfl),
  bv.top X G (λ _ _ _ _ _ _=>us1 λ _=>rfl),
  bw.top X G (λ _ _ _ _ _ _=>us1 λ _=>rfl),
  bx.top X G (λ _ _ _ _ _ _=>us1 λ _=>rfl),
  J.g X G,
  J.cl X G,
  J.mk' X G,
  J.kp X G,
  bz.at' X G,
  cA.at' X G,
  cB.at' X G,
  cC.at' X G,
  cD.at' X G,
  cE.at' X G,
  cF.at' X G,
  cG.top X G (λ _ _ _ _ _ _=>us6 λ _ _ _ _ _ _=>rfl),
  cH.top X G (λ _ _ _ _ _ _=>us2 λ _ _=>rfl),
  L.g X G,
  L.cl X G,
  L.mk' X G,
  L.kp X G,
  cI.at' X G,
  cJ.at' X G,
  cK.at' X G,
  cL.at' X G,
  cM.top X G (λ _ _ _ _ _ _=>us3 λ _ _ _=>rfl),
  cN.top X G (λ _ _ _ _ _ _=>us2 λ _ _=>rfl),
  cO.top X G (λ _ _ _ _ _ _=>us3 λ _ _ _=>rfl),
  O.g X G,
  O.cl X G,
  O.mk' X G,
  O.kp X G,
  cP.at' X G,
  cQ.at' X G,
  cR.at' X G,
  cS.at' X G,
  cT.at' X G,
  cU.at' X G,
  cV.top X G (λ _ _ _ _ _ _=>us5 λ _ _ _ _ _=>rfl),
  cW.top X G (λ _ _ _ _ _ _=>us2 λ _ _=>rfl),
  cX.top X G (λ _ _ _ _ _ _=>us3 λ _ _ _=>rfl),
  cY.top X G (λ _ _ _ _ _ _=>us2 λ _ _=>rfl),
  cZ.top X G (λ _ _ _ _ _ _=>us3 λ _ _ _=>rfl),
  c0.top X G (λ _ _ _ _ _ _=>us3 λ _ _ _=>rfl),
  Y.g X G,
  Y.cl X G,
  Y.mk' X G,
  Y.kp X G,
  c1.at' X G,
  c2.at' X G,
  c3.at' X G,
  c4.at' X G,
  c5.at' X G,
  c6.at' X G,
  c7.top X G (λ _ _ _ _ _ _=>us5 λ _ _ _ _ _=>rfl),
  c8.top X G (λ _ _ _ _ _ _=>us2 λ _ _=>rfl),
  c9.top X G (λ _ _ _ _ _ _=>us2 λ _ _=>rfl),
  ca.top X G (λ _ _ _ _ _ _=>us2 λ _ _=>rfl),
  cb.top X G (λ _ _ _ _ _ _=>us2 λ _ _=>rfl),
  Z.g X G,
  Z.cl X G,
  Z.mk' X G,
  Z.kp X G,
  cc.at' X G,
  cd.top X G (λ _ _ _ _ _ _=>us1 λ _=>rfl),
  ce.top X G (λ _ _ _ _ _ _=>us1 λ _=>rfl),
  cf.top X G (λ _ _ _ _ _ _=>us3 λ _ _ _=>rfl),
  cg.top X G (λ _ _ _ _ _ _=>us3 λ _ _ _=>rfl),
  aF.g X G,
  aF.cl X G,
  aF.mk' X G,
  aF.kp X G,
  ch.at' X G,
  ci.top X G (λ _ _ _ _ _ _=>us2 λ _ _=>rfl),
  cj.top X G (λ _ _ _ _ _ _=>us1 λ _=>rfl),
  ck.top X G (λ _ _ _ _ _ _=>us1 λ _=>rfl),
  cm.top X G (λ _ _ _ _ _ _=>us3 λ _ _ _=>rfl),
  cn.top X G (λ _ _ _ _ _ _=>us3 λ _ _ _=>rfl)⟩
end Wy
open PySem PySem.W PyProof.Rows
namespace PySem.W.Fast
end PySem.W.Fast
namespace PySem.W.Fast
def tw14835194777391479637:=0
def tw17402292952067725827:=0
def tw2387410168792336102:=0
def tw18069975356560451343:=0
def tw1684536423044844508:=0
def tw12587437863861599938:=0
def tw9265012351844056735:=0
def tw2459547632414431137:=0
def tw4992060853615846462:=0
def tw11154187814509260616:=0
def tw3671523306658186207:=0
def tw13879628706409565484:=0
def tw17260498421783003500:=0
def tw13812862459669189174:=0
def tw10635500485978892800:=0
def tw6027331616015324841:=0
def tw18291901799709702188:=0
def tw4697198311474634053:=0
def tw9337900870818162399:=0
def tw10531083886030209714:=0
def tw11216832867724277615:=0
def tw7155504920347756392:=0
def tw16493494485950506498:=0
def tw4502202260082769014:=0
def tw17110866052442918213:=0
def tw2496102563455627747:=0
def tw10372894513736476046:=0
def tw12229975862685807674:=0
def tw16689945610789008815:=0
def tw5324412676396554281:=0
def tw1993767982668484265:=0
def tw5965375923755686504:=0
def tw2866062716881598702:=0
def tw18168683134774587657:=0
def tw6087998070634526442:=0
def tw7455886414719089325:=0
def tw11914544453891752167:=0
def tw8629800583425624481:=0
def tw11506961271663271225:=0
def tw13026332701850376509:=0
def tw3450943649161010527:=0
def tw6859515395818837646:=0
def tw7506311493890515213:=0
def tw5218634875047522311:=0
def tw3862495976917661359:=0
def tw9003797478583526122:=0
def tw16339202236144517035:=0
def tw8989567754502687226:=0
def tw1282081944383693499:=0
def tw16522112210611709254:=0
def tw8593362361207259410:=0
def tw8577607539785040635:=0
def tw3096895434709018796:=0
def tw6995404350432668698:=0
def tw3057498096647872377:=0
def tw5239511958141243857:=0
def tw10619513342339533889:=0
def tw11710756543920163951:=0
def tw10932037715860955260:=0
def tw227751960383082010:=0
def tw1909965910695221517:=0
def tw14649989911477470539:=0
def tw1207366647419652396:=0
def tw13250953368541678892:=0
def tw17357542819772918307:=0
def tw16668450163117756708:=0
def tw7202082416857653843:=0
def tw6252472511934518862:=0
def tw10310253937888370742:=0
def tw3554012802870420223:=0
def tw7493590157800329701:=0
def tw13256899311415493122:=0
def tw5676912569085377374:=0
def tw9001540612288898854:=0
def tw18231293853700261793:=0
def tw17613946080843596438:=0
def tw14602658510203365522:=0
def tw12421759900432092855:=0
def tw6663376012482021797:=0
def tw1901599363616177566:=0
def tw16818265446630756568:=0
def tw10313506495825008634:=0
def tw4576795328269316909:=0
def tw17158370108696955515:=0
def tw3072240584273621486:=0
def tw10460562219242860783:=0
def tw3226649285618098068:=0
def tw18238736877419535751:=0
def tw14507495987377952032:=0
def tw15246096954085815275:=0
def tw10312643863920505318:=0
def tw12707493186276268699:=0
def tw8466406642078550537:=0
def tw11417934482678512206:=0
def tw11733446458178713743:=0
def tw9237870910235602231:=0
def tw9911213530360739708:=0
def tw15226954802691886703:=0
def tw12918037563660343729:=0
def tw14306935625821775182:=0
def tw6536264884044162655:=0
def tw544466109800529941:=0
def tw13563427170296498465:=0
def tw9358755648136356863:=0
def tw12125149383695505767:=0
def tw14043328147290897882:=0
def tw7351445752384591313:=0
def tw434993514257960930:=0
def tw2489097884322695242:=0
def tw8418171911480145746:=0
def tw3738973337558833951:=0
def tw11884751067631196522:=0
def tw15821963042232770266:=0
def tw16314879900972686854:=0
def tw6805508733640767337:=0
def tw17250093936291145574:=0
def tw4601385508525156328:=0
def tw6695429061284866120:=0
def tw11653788598073334651:=0
def tw17173080315253663254:=0
def tw145402948922236047:=0
def tw1514842693182364488:=0
def tw8152570533024824461:=0
def tw6710562140056650492:=0
def tw14268341785113408507:=0
def tw11169015546120587791:=0
def tw15335167744715178690:=0
def tw9088764888537678768:=0
def tw6941077030680106711:=0
def tw9274667890471033258:=0
def tw14717516200018295085:=0
def tw680811990305085928:=0
def tw322205486432711056:=0
def tw17747800409056941042:=0
def tw4059060070785166450:=0
def tw4408735444942273272:=0
def tw5390469327776636031:=0
def tw13187120976652635156:=0
def tw2086063221081436375:=0
def tw6283388941751183949:=0
def tw376026069498697761:=0
def tw14861468435539998642:=0
def tw13453353849233183574:=0
def tw8404208570963785460:=0
def tw4206508392666334794:=0
def tw15741126184366427849:=0
def tw4835506346457969514:=0
def tw4638311958682226501:=0
def tw10114661785653434105:=0
def tw16548992851068575166:=0
def tw8246120537953814027:=0
def tw18353516287943750820:=0
def tw2249597211252330111:=0
def tw540070635958305210:=0
def tw486173674562198069:=0
def tw2907270433248516236:=0
def tw7192080296825684946:=0
def tw410644398578127815:=0
def tw2612541718489941663:=0
def tw63600773865470063:=0
def tw6042206112224919615:=0
def tw7712256434755403746:=0
def tw9638886952572383732:=0
def tw532417817035991071:=0
def tw1672852374514623193:=0
def tw5617823751956194428:=0
def tw17102551135327180425:=0
def tw6216555480648994571:=0
def tw1063928730848874575:=0
def tw16841973338056930360:=0
def tw4830437868960890812:=0
def tw14633943673844430291:=0
def tw16253933029119448920:=0
def tw10030552667947797905:=0
def tw5315564407145639175:=0
def tw13821122228735140711:=0
def tw15563972330289590285:=0
def tw14688896149231434867:=0
def tw13505690759116159425:=0
def tw8431615399975998664:=0
def tw16363989279469973604:=0
def tw912583225722826386:=0
def tw7531979801428844751:=0
def tw8036172011244623117:=0
def tw13358708459102490487:=0
def tw17807917182934669130:=0
def tw266297863901433065:=0
def tw15628405911335701497:=0
def tw10622185373306141248:=0
def tw11127818129475361293:=0
def tw14730692508888839638:=0
def tw14349888208029955643:=0
def tw2449454849015121282:=0
def tw10695041414644972128:=0
def tw5277779209417031005:=0
def tw13473421381846952777:=0
def tw11072330899772967230:=0
def tw9797161113458473932:=0
def tw15146423617604355452:=0
def tw5486754052093392605:=0
def tw3640736490909571448:=0
def tw4739326686090090401:=0
def tw8206112215761672851:=0
def tw12150340090256189686:=0
def tw15238401111671149879:=0
def tw13879970016376256371:=0
def tw3263197548476829333:=0
def tw8927726396525445781:=0
def tw12976725605048784182:=0
def tw14353218117076325022:=0
def tw2915614616469756641:=0
def tw10091890077985952854:=0
def tw17715176010949978352:=0
def tw10627606253700564444:=0
def tw4908710391803682906:=0
def tw6541373985704239390:=0
def tw17596985291012107370:=0
def tw4050373542646785703:=0
def tw13620326419276546309:=0
def tw7346388308271759941:=0
def tw6095984183329993990:=0
def tw4416316086888169206:=0
def tw13463519184621001690:=0
def tw9794935813166995570:=0
def tw14485550446884257829:=0
def tw5518099878723523966:=0
def tw11911073364531993842:=0
def tw18128964709539308815:=0
def tw6778684448080964275:=0
def tw15052634999951379028:=0
def tw10973901449467098605:=0
def tw2396181975146760797:=0
def tw13270782825965362250:=0
def tw9070795089705012576:=0
def tw12633720988731802612:=0
def tw827240943666939134:=0
def tw14857732255734388941:=0
def tw2320891665163656644:=0
def tw6764796693996087355:=0
def tw15215688287576290160:=0
def tw14010448048376627077:=0
def tw6005944276673137569:=0
def tw11725943924531669357:=0
def tw4440067254332595462:=0
def tw4422438224260502599:=0
def tw16894808388693317407:=0
def tw6559525899825297397:=0
def tw6713142927931463365:=0
end PySem.W.Fast
set_option maxRecDepth 100000 in
set_option maxHeartbeats 0 in
theorem PySem.Challenge.cw_whyrows_k50_rows_of_facts_holds : PySem.Challenge.rw_whyrows_k50_rows_of_facts.Holds := by
 w_on;o_law;k_head;(case hw=>w_witness2)
 k_fill
 refine L2.qou (l:=PySem.Challenge.rw_whyrows_k50_rows_of_facts) (n:=63) (k:=13) (x:="_law_script") (CX:=L2.CX0) (sp:=Wy.sp_law) rfl (by decide) rfl ⟨zr,by decide,by decide⟩ (λ w h Y=>PySem.W.kIn_of Y) ?F ?S ?C
 case F=>
  intro w mg fa h KX G hmg;have T:Wy.Txt (L2.KOf KX) mg:=by
   dsimp only [L2.KOf]
   refine' Wy.qhh KX G ?_ ?_ ?_ ?_ ?_ ?_ ?_ ?_ ?_ ?_ ?_ ?_ ?_ ?_ ?_ ?_ ?_ ?_ ?_ ?_ ?_ ?_ ?_ ?_ ?_ ?_ ?_ ?_ ?_ ?_ ?_ ?_ ?_ ?_ ?_ ?_ ?_ ?_ ?_ ?_ ?_ ?_ ?_ ?_ ?_ ?_ ?_ ?_ ?_ ?_ ?_ ?_ ?_ ?_ ?_ ?_ ?_ ?_ ?_ ?_ ?_ ?_ ?_ ?_ ?_ ?_ ?_ ?_ ?_ ?_ ?_ ?_ ?_ ?_ ?_ ?_ ?_ ?_ ?_ ?_ ?_ ?_ ?_ ?_ ?_ ?_ ?_ ?_ ?_ ?_ ?_ ?_ ?_ ?_ ?_ ?_ ?_ ?_ ?_ ?_ ?_ ?_ ?_ ?_ ?_ ?_ ?_ ?_ ?_ ?_ ?_ ?_ ?_ ?_ ?_ ?_ ?_ ?_ ?_ ?_ ?_ ?_ ?_ ?_ ?_ ?_ ?_ ?_ ?_ ?_ ?_ ?_ ?_ ?_ ?_ ?_ ?_ ?_ ?_ ?_ ?_ ?_ ?_ ?_ ?_ ?_ ?_ ?_ ?_ ?_ ?_ ?_ ?_ ?_
   all_goals first | (refine' L2.fiK ?_ ?_ ?_ ?_;all_goals first | k_is | skip) | (refine' L2.miK ?_ ?_ ?_ ?_ ?_ ?_;all_goals first | k_is | skip) | (refine' L2.ciK ?_ ?_ ?_ ?_ ?_ ?_ ?_;all_goals first | k_is | skip) | (refine' L2.aiK ?_ ?_;all_goals first | k_is | skip) | k_is | skip
  exact Wy.qvm T hmg
 case S=>exact λ K H a ns hl hO hS=>⟨a,ns,rfl,hS,hl,λ _=>rfl⟩
 case C=>exact λ _ _ _ _ z=>z
