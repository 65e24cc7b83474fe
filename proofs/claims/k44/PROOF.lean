import PyProof.Rows.All
import Wide.All
import OpenK.AllK
import PySem.Challenge.RW_whyrows_k44_instances_walk
set_option Elab.async false
set_option linter.all false
set_option maxRecDepth 100000
set_option maxHeartbeats 4000000
theorem zr {α:Sort u} {a:α}:a=a:=rfl
def z00:=@PySem.F.slot_dict_keyiterator_next
def z01:=@PySem.wpAny_typeNameOfWhole_keyiter
def z02:=@PyProof.Rows.callWith_type1
def z03:=@Array.perm_iff_toList_perm
def z04:=@List.getElem?_append_right
def z05:=@List.getD_eq_getElem?_getD
def z06:=@List.getElem?_eq_some_iff
def z07:=@List.pairwise_iff_getElem
def z08:=@Array.getElem?_eq_getElem
def z09:=@List.getElem?_eq_getElem
def z0a:=@PySem.F.slot_list_extend
def z0b:=@PySem.F.type_list_extend
def z0c:=@PySem.F.slot_list_append
def z0d:=@PySem.F.type_list_append
def z0e:=@PySem.F.plain_list_iadd
def z0f:=@List.length_eq_zero_iff
def z0g:=@PySem.F.plainAttrs_list
def z0h:=@List.take_of_length_le
def z0i:=@PySem.Heap.get?_push_of_some
def z0j:=@PySem.Heap.get?_update_other
def z0k:=@Option.map_eq_some_iff
def z0l:=@Array.getElem?_eq_none
def z0m:=@List.take_append_drop
def z0n:=@List.mem_append_right
def z0o:=@Array.getElem?_toList
def z0p:=@PySem.Heap.get?_update_self
def z0q:=@List.length_filter_le
def z0r:=@List.mem_of_mem_drop
def z0s:=@List.mem_cons_of_mem
def z0t:=@List.mem_append_left
def z0u:=@List.mem_of_getElem?
def z0v:=@Array.length_toList
def z0w:=@Array.toList_append
def z0x:=@PySem.Heap.SameBut.update
def z0y:=@PySem.Heap.get?_push_size
def z0z:=@PySem.mem_of_lookup
def z10:=@List.map_congr_left
def z11:=@List.toList_toArray
def z12:=@PySem.wpAny_setEntries_of
def z13:=@List.flatMap_append
def z14:=@Bool.false_eq_true
def z15:=@Bool.false_ne_true
def z16:=@List.mem_singleton
def z17:=@List.length_append
def z18:=@List.mem_cons_self
def z19:=@List.pairwise_cons
def z1a:=@Nat.lt_of_lt_of_le
def z1b:=@PySem.wpAny_Call_Name_kw
def z1c:=@List.zip_cons_cons
def z1d:=@List.filter_append
def z1e:=@Int.emod_lt_of_pos
def z1f:=@PySem.W.mg_none_of
def z1g:=@List.append_assoc
def z1h:=@Array.toList_push
def z1i:=@List.ext_getElem?
def z1j:=@List.getElem?_map
def z1k:=@List.size_toArray
def z1l:=@PySem.wpAny_truthy_bool
def z1m:=@PySem.wpAny_pyIter_list
def z1n:=@Int.toNat_natCast
def z1o:=@PySem.wpAny_newObj_type
def z1p:=@List.length_range
def z1q:=@PySem.wpAny_dictEntries
def z1r:=@PySem.wpAny_setState_of
def z1s:=@List.nodup_append
def z1t:=@Nat.lt_succ_of_lt
def z1u:=@List.length_take
def z1v:=@List.length_drop
def z1w:=@List.length_cons
def z1x:=@List.filter_cons
def z1y:=@List.getElem_mem
def z1z:=@Nat.lt_succ_self
def z20:=@Bool.and_eq_true
def z21:=@List.all_eq_true
def z22:=@PySem.wpAny_call_entry
def z23:=@List.any_eq_true
def z24:=@List.not_mem_nil
def z25:=@PySem.wpAny_askSetting
def z26:=@List.take_length
def z27:=@List.mem_append
def z28:=@decide_eq_false
def z29:=@List.mem_filter
def z2a:=@PySem.wpAny_passesOwn
def z2b:=@Bool.eq_iff_iff
def z2c:=@List.length_map
def z2d:=@List.append_nil
def z2e:=@List.nodup_cons
def z2f:=@List.find?_cons
def z2g:=@List.length_nil
def z2h:=@List.map_append
def z2i:=@PySem.W.kia_one
def z2j:=@PySem.wpAny_dictEpoch
def z2k:=@PySem.codeAny_builtin
def z2l:=@Int.emod_nonneg
def z2m:=@decide_eq_true
def z2n:=@List.mem_range
def z2o:=@Bool.false_and
def z2p:=@PySem.Heap.size_push
def z2q:=@List.nodup_nil
def z2r:=@List.take_succ
def z2s:=@PySem.wpAny_setField
def z2t:=@List.map_cons
def z2u:=@PySem.wpAny_attempt
def z2v:=@List.mem_cons
def z2w:=@PySem.wpAny_holding
def z2x:=@Nat.lt_irrefl
def z2y:=@List.any_cons
def z2z:=@PySem.W.mg_of
def z30:=@decide_false
def z31:=@Nat.le_of_lt
def z32:=@PySem.Heap.lt_size
def z33:=@Nat.ne_of_lt
def z34:=@Nat.le_trans
def z35:=@Nat.ne_of_gt
def z36:=@PySem.codeAny_mono
def z37:=@List.map_nil
def z38:=@List.mem_map
def z39:=@List.all_map
def z3a:=@List.map_map
def z3b:=@Nat.le_refl
def z3c:=@decide_true
def z3d:=@Int.le_refl
def z3e:=@Nat.zero_le
def z3f:=@PySem.wpAny_rule
def z3g:=@PySem.wpAny_pure
def z3h:=@PySem.wpAny_bind
def z3i:=@PySem.wpAny_mono
namespace Tim
open PySem PyProof.Rows
def kx (rk:Keyed ->Int) (xs:Array Keyed) (i:Nat):Int:=match xs[i]? with
 | some p=>rk p
 | none=>0
def Up (rk:Keyed ->Int) (xs:Array Keyed) (lo hi:Nat):Prop:=∀ i j,lo<=i ->i<=j ->j < hi ->kx rk xs i<=kx rk xs j
def Dn (rk:Keyed ->Int) (xs:Array Keyed) (lo hi:Nat):Prop:=∀ i j,lo<=i ->i<=j ->j < hi ->kx rk xs j<=kx rk xs i
theorem qkl {rk:Keyed ->Int} {xs:Array Keyed} {i:Nat} {p:Keyed} (h:xs[i]? =some p):kx rk xs i=rk p:=by unfold kx;rw [h]
theorem q6r {rk:Keyed ->Int} {xs ys:Array Keyed} {i j:Nat} (h:xs[i]? =ys[j]?):kx rk xs i=kx rk ys j:=by unfold kx;rw [h]
def LtOk (M:Model) (A:Around) (E:Value ->Shared ->Prop) (s:Shared) (kd:SortKind) (S:Keyed ->Prop) (rk:Keyed ->Int):Prop:=
 ∀ (x y:Keyed) (st:SortSt) (Q:Option Bool ->SortSt ->Prop),S x ->S y ->kindOf st=kd ->Q (some (decide (rk x < rk y))) st ->wpS M A E s (lt' x y) Q st
structure Mv (lo hi:Nat) (st st':SortSt):Prop where
 perm:(arrOf st').Perm (arrOf st)
 out:∀ k,k < lo\/ hi<=k ->(arrOf st')[k]? =(arrOf st)[k]?
 kind:kindOf st'=kindOf st
 pend:pendingOf st'=pendingOf st
 failed:failedOf st'=failedOf st
theorem Mv.refl (lo hi:Nat) (st:SortSt):Mv lo hi st st:=⟨Array.Perm.refl _,λ _ _=>rfl,rfl,rfl,rfl⟩
theorem Mv.trans {lo hi:Nat} {a b c:SortSt} (h:Mv lo hi a b) (k:Mv lo hi b c):Mv lo hi a c:=
 ⟨k.perm.trans h.perm,λ i hi=>(k.out i hi).trans (h.out i hi),k.kind.trans h.kind,k.pend.trans h.pend,k.failed.trans h.failed⟩
theorem Mv.wide {lo hi D B:Nat} {a b:SortSt} (h:Mv lo hi a b) (h1:D<=lo) (h2:hi<=B):Mv D B a b:=
 ⟨h.perm,λ k hk=>h.out k (by omega),h.kind,h.pend,h.failed⟩
theorem Mv.size {lo hi:Nat} {a b:SortSt} (h:Mv lo hi a b):(arrOf b).size=(arrOf a).size:=h.perm.size_eq
structure Sane (kd:SortKind) (S:Keyed ->Prop) (n:Nat) (st:SortSt):Prop where
 size:(arrOf st).size=n
 all:∀ p∈(arrOf st).toList,S p
 kind:kindOf st=kd
 failed:failedOf st=none
theorem Mv.sane {lo hi:Nat} {a b:SortSt} {kd:SortKind} {S:Keyed ->Prop} {n:Nat} (h:Mv lo hi a b) (k:Sane kd S n a):Sane kd S n b:=
 ⟨h.size.trans k.size,λ p hp=>k.all p ((z03.mp h.perm).mem_iff.mp hp),h.kind.trans k.kind,h.failed.trans k.failed⟩
theorem Sane.at {kd:SortKind} {S:Keyed ->Prop} {n:Nat} {st:SortSt} (rk:Keyed ->Int) (k:Sane kd S n st) {i:Nat} (hi:i < n):∃ p,(arrOf st)[i]? =some p/\S p/\kx rk (arrOf st) i=rk p:=by
 have B:i < (arrOf st).size:=by rw [k.size];exact hi
 have e:(arrOf st)[i]? =some (arrOf st)[i]:=getElem?_pos _ i B;exact ⟨_,e,k.all _ (by simp),qkl e⟩
theorem Mv.mirrored {lo hi i j:Nat} {st:SortSt} (h1:lo<=i) (h2:j<=hi) (B:j<=(arrOf st).size):Mv lo hi st (setArr st (mirror (arrOf st) i j ((j - i) / 2))):=
 ⟨mirror_perm _ _ _ _,λ k hk=>(getElem?_mirror_all (i:=i) B k).trans (if_neg (by (clear B;omega))),rfl,rfl,rfl⟩
theorem Mv.sunk {lo hi B d:Nat} {st:SortSt} (h1:lo+d<=B) (h2:B < hi) (D:B < (arrOf st).size):Mv lo hi st (setArr st (bubble (arrOf st) B d)):=
 ⟨bubble_perm _ _ _,λ k hk=>(getElem?_bubble D d (by (clear hk D h2;omega)) k).trans (by rw [if_neg (by (clear D;omega)),if_neg (by (clear D;omega))]),rfl,rfl,rfl⟩
theorem q7t (rk:Keyed ->Int) {xs:Array Keyed} {i j:Nat} (hj:j<=xs.size) (k:Nat):
  kx rk (mirror xs i j ((j - i) / 2)) k=if i<=k/\k < j then kx rk xs (i+j - 1 - k) else kx rk xs k:=by
 have e:=getElem?_mirror_all (i:=i) hj k;by_cases c:i<=k/\k < j
 ·rw [if_pos c] at e ⊢;exact q6r e
 ·rw [if_neg c] at e ⊢;exact q6r e
theorem q2u (rk:Keyed ->Int) {xs:Array Keyed} {i j:Nat} (B:j<=xs.size) (D:∀ k,i<=k ->k < j ->kx rk xs k=kx rk xs (j - 1)) (k:Nat):
  kx rk (mirror xs i j ((j - i) / 2)) k=kx rk xs k:=by
 rw [q7t rk B];by_cases c:i<=k/\k < j
 ·rw [if_pos c,D _ (by (clear B;omega)) (by (clear B;omega)),D k c.1 c.2]
 ·rw [if_neg c]
theorem qb3 (rk:Keyed ->Int) {xs:Array Keyed} {B d:Nat} (hs:B < xs.size) (hd:d<=B) (k:Nat):
  kx rk (bubble xs B d) k=if k=B - d then kx rk xs B else if B - d < k/\k<=B then kx rk xs (k - 1) else kx rk xs k:=by
 have e:=getElem?_bubble hs d hd k;by_cases c:k=B - d
 ·rw [if_pos c] at e ⊢;exact q6r e
 ·rw [if_neg c] at e ⊢;by_cases c2:B - d < k/\k<=B
  ·rw [if_pos c2] at e ⊢;exact q6r e
  ·rw [if_neg c2] at e ⊢;exact q6r e
section
variable {M:Model} {A:Around} {E:Value ->Shared ->Prop} {s:Shared} {kd:SortKind} {S:Keyed ->Prop} {rk:Keyed ->Int} {n:Nat}
theorem q7u (L:LtOk M A E s kd S rk) {st:SortSt} (B:Sane kd S n st) {i j:Nat} (hi:i < n) (hj:j < n) {Q:Option Bool ->SortSt ->Prop}
  (h:Q (some (decide (kx rk (arrOf st) i < kx rk (arrOf st) j))) st):wpS M A E s (ltAt' i j) Q st:=by
 obtain ⟨p,e1,s1,k1⟩:=B.at rk hi;obtain ⟨q,e2,s2,k2⟩:=B.at rk hj;rw [k1,k2] at h;rw [ltAt'_eq];refine wpS_bind (wpS_get ?_);show wpS M A E s (elem' (arrOf st) i >>=λ x=>elem' (arrOf st) j >>=λ y=>lt' x y) Q st;rw [elem'_eq,elem'_eq,e1,e2];exact wpS_bind (wpS_pure (wpS_bind (wpS_pure (L p q st Q s1 s2 B.kind h))))
theorem q67 {st:SortSt} {i j:Nat} {Q:Unit ->SortSt ->Prop} (h:Q () (setArr st (mirror (arrOf st) i j ((j - i) / 2)))):wpS M A E s (reverseSlice' i j) Q st:=by
 rw [reverseSlice'_eq];exact wpS_modify h
def q7v (lo a nrem:Nat):StateT SortSt Sem AscSt:=
 forIn [a:nrem] ((none,a):AscSt) λ _ c=>do
  let x <- ltAt' (lo+c.snd) (lo+c.snd - 1)
  match x with
  | some b=>if b=true then pure (ForInStep.done (none,c.snd)) else pure (ForInStep.yield (none,c.snd+1))
  | _=>pure (ForInStep.done (some none,c.snd))
def q7w (lo m nrem:Nat):StateT SortSt Sem (Option Nat):=do
 reverseSlice' lo (lo+m)
 let c <- q7v lo m nrem
 match c.fst with
 | some r=>pure r
 | none=>pure (some c.snd)
def q9k (lo m nrem:Nat):StateT SortSt Sem DescSt:=
 forIn [m:nrem] ((none,m,0):DescSt) λ _ c=>do
  let x <- ltAt' (lo+c.snd.fst) (lo+c.snd.fst - 1)
  match x with
  | some b=>
   if b=true then
    if c.snd.snd > 0 then do
     reverseSlice' (lo+c.snd.fst - (c.snd.snd+1)) (lo+c.snd.fst)
     pure (ForInStep.yield (none,c.snd.fst+1,0))
    else pure (ForInStep.yield (none,c.snd.fst+1,0))
   else do
    let y <- ltAt' (lo+c.snd.fst - 1) (lo+c.snd.fst)
    match y with
    | some g=>if g=true then pure (ForInStep.done (none,c.snd.fst,c.snd.snd)) else pure (ForInStep.yield (none,c.snd.fst+1,c.snd.snd+1))
    | _=>pure (ForInStep.done (some none,c.snd.fst,c.snd.snd))
  | _=>pure (ForInStep.done (some none,c.snd.fst,c.snd.snd))
def q7x (lo m nrem:Nat):StateT SortSt Sem (Option Nat):=do
 liftM (rule "list.sort.descending-run")
 let c <- q9k lo (m+1) nrem
 match c.fst with
 | some r=>pure r
 | none=>
  if c.snd.snd > 0 then do
   reverseSlice' (lo+c.snd.fst - (c.snd.snd+1)) (lo+c.snd.fst)
   q7w lo c.snd.fst nrem
  else q7w lo c.snd.fst nrem
theorem qdr (lo B:Nat):countRun' lo B=(do
  let c <- q7v lo 1 B
  match c.fst with
  | some r=>pure r
  | none=>
   if (c.snd==B)=true then pure (some c.snd)
   else if c.snd > 1 then do
    let x <- ltAt' lo (lo+c.snd - 1)
    match x with
    | some D=>if D=true then pure (some c.snd) else do
      reverseSlice' lo (lo+c.snd)
      q7x lo c.snd B
    | _=>pure none
   else q7x lo c.snd B):=by
 rw [countRun'_eq]
 dsimp only
 unfold q7x q7w q9k q7v
 congr 1
 funext c
 obtain ⟨r,m⟩:=c;cases r with
 | some r=>rfl
 | none=>
  dsimp only
  split
  ·rfl
  ·split
   ·congr 1
    funext x
    cases x with
    | none=>rfl
    | some D=>
     dsimp only
     split
     ·rfl
     ·congr 1
      funext _u
      congr 1
      funext _v
      congr 1
      congr 1
      funext c2
      obtain ⟨r2,n2,q2⟩:=c2;cases r2 with
      | some r2=>rfl
      | none=>
       dsimp only
       split
       ·congr 1
        funext _w
        congr 1
        funext _z
        congr 1
        funext c3
        obtain ⟨r3,J⟩:=c3;cases r3 <;> rfl
       ·congr 1
        funext _z
        congr 1
        funext c3
        obtain ⟨r3,J⟩:=c3;cases r3 <;> rfl
   ·congr 1
    funext _v
    congr 1
    congr 1
    funext c2
    obtain ⟨r2,n2,q2⟩:=c2;cases r2 with
    | some r2=>rfl
    | none=>
     dsimp only
     split
     ·congr 1
      funext _w
      congr 1
      funext _z
      congr 1
      funext c3
      obtain ⟨r3,J⟩:=c3;cases r3 <;> rfl
     ·congr 1
      funext _z
      congr 1
      funext c3
      obtain ⟨r3,J⟩:=c3;cases r3 <;> rfl
theorem qc6 (L:LtOk M A E s kd S rk) {st:SortSt} {lo a J:Nat} {Q:AscSt ->SortSt ->Prop} (B:Sane kd S n st) (hn:lo+J<=n) (ha:1<=a) (O:a<=J) (hs:Up rk (arrOf st) lo (lo+a))
  (h:∀ m,a<=m ->m<=J ->Up rk (arrOf st) lo (lo+m) ->(m=J\/ kx rk (arrOf st) (lo+m) < kx rk (arrOf st) (lo+m - 1)) ->Q (none,m) st):wpS M A E s (q7v lo a J) Q st:=by
 unfold q7v;refine wpS_forRange (I:=λ x c a0=>a0=st/\c=(none,x)/\Up rk (arrOf st) lo (lo+x)) ?turn ?last ⟨zr,zr,hs⟩
 case last=>
  rintro c a0 ⟨rfl,rfl,Y⟩;have e:max a J=J:=by (clear ha hn;omega)
  rw [e] at Y ⊢;exact h J O (z3b _) Y (.inl rfl)
 case turn=>
  rintro x c a0 U Z ⟨rfl,rfl,Y⟩
  dsimp only
  refine wpS_bind (q7u L B (by (clear U O ha;omega)) (by (clear U O ha;omega)) ?_);by_cases D:kx rk (arrOf a0) (lo+x) < kx rk (arrOf a0) (lo+x - 1)
  ·simp only [D,z3c,if_true];exact wpS_pure (h x U (by (clear D U O ha hn;omega)) Y (.inr D))
  ·simp only [D,z30,z14,if_false];refine wpS_pure ⟨zr,zr,λ i j h1 h2 h3=> ?_⟩;by_cases hj:j < lo+x
   ·exact Y i j h1 h2 hj
   ·have a6:j=lo+x:=by (clear h2 h1 D Z U O ha hn;omega)
    subst a6;by_cases hi:i=lo+x
    ·subst hi
     (clear h2 h1 hj h3 D Z U O ha hn;omega)
    ·have:=Y i (lo+x - 1) h1 (by (clear hj h3 h1 D Z U O ha hn;omega)) (by (clear hi hj h3 h2 h1 D Z O hn;omega))
     (clear hi hj h3 h2 h1 Z U O ha hn;omega)
theorem qc7 (L:LtOk M A E s kd S rk) {st:SortSt} {lo m D:Nat} {Q:Option Nat ->SortSt ->Prop} (B:Sane kd S n st) (hn:lo+D<=n) (h1:1<=m) (hm:m<=D) (hs:Dn rk (arrOf st) lo (lo+m))
  (h:∀ k J,Mv lo (lo+D) st J ->1<=k ->k<=D ->Up rk (arrOf J) lo (lo+k) ->Q (some k) J):wpS M A E s (q7w lo m D) Q st:=by
 unfold q7w;have hz:lo+m<=(arrOf st).size:=by rw [B.size];(clear h1;omega)
 have v:Mv lo (lo+D) st (setArr st (mirror (arrOf st) lo (lo+m) ((lo+m - lo) / 2))):=Mv.mirrored (z3b _) (by (clear hz h1 hn;omega)) hz;refine wpS_bind (q67 (wpS_bind (qc6 L (v.sane B) hn h1 hm ?_ λ k k1 O k3 _=>wpS_pure (h k _ v (by (clear O hz hm hn;omega)) O k3))));intro i j a b c;show kx rk (mirror (arrOf st) lo (lo+m) ((lo+m - lo) / 2)) i<=kx rk (mirror (arrOf st) lo (lo+m) ((lo+m - lo) / 2)) j;rw [q7t rk hz,q7t rk hz,if_pos (by (clear hz hm h1 hn;omega)),if_pos (by (clear hz hm h1 hn;omega))];exact hs _ _ (by (clear b a hz hm h1 hn;omega)) (by (clear c a hz hm h1 hn;omega)) (by (clear c b hz hm hn;omega))
theorem qiq (L:LtOk M A E s kd S rk) {st:SortSt} {lo m Z:Nat} {Q:DescSt ->SortSt ->Prop} (B:Sane kd S n st) (hn:lo+Z<=n) (h1:1<=m) (hm:m<=Z) (hs:Dn rk (arrOf st) lo (lo+m))
  (h:∀ k q O,Mv lo (lo+Z) st O ->m<=k ->k<=Z ->Dn rk (arrOf O) lo (lo+k) ->q+1<=k ->(∀ i,lo+k - (q+1)<=i ->i < lo+k ->kx rk (arrOf O) i=kx rk (arrOf O) (lo+k - 1)) ->Q (none,k,q) O):
  wpS M A E s (q9k lo m Z) Q st:=by
 unfold q9k;refine wpS_forRange (I:=λ x c O=>∃ q,c=(none,x,q)/\Mv lo (lo+Z) st O/\Dn rk (arrOf O) lo (lo+x)/\q+1<=x/\
  (∀ i,lo+x - (q+1)<=i ->i < lo+x ->kx rk (arrOf O) i=kx rk (arrOf O) (lo+x - 1))) ?turn ?last ⟨0,rfl,Mv.refl _ _ _,hs,by (clear hm hn;omega),λ i a b=>by rw [show i=lo+m - 1 by (clear hm h1 hn;omega)]⟩
 case last=>
  rintro c O ⟨q,rfl,v,a6,hq,he⟩;have e:max m Z=Z:=by (clear hq h1 hn;omega)
  rw [e] at a6 hq he ⊢;exact h Z q O v hm (z3b _) a6 hq he
 case turn=>
  rintro x c O J U ⟨q,rfl,v,a6,hq,he⟩
  dsimp only
  have B':=v.sane B;have hz:lo+x<=(arrOf O).size:=by rw [B'.size];(clear hq J hm h1;omega)
  refine wpS_bind (q7u L B' (by (clear hz hq J hm h1;omega)) (by (clear hz hq J hm h1;omega)) ?_);by_cases D:kx rk (arrOf O) (lo+x) < kx rk (arrOf O) (lo+x - 1)
  ·simp only [D,z3c,if_true];have more:∀ xs:Array Keyed,(∀ k,kx rk xs k=kx rk (arrOf O) k) ->Dn rk xs lo (lo+(x+1)):=by
    intro xs hk i j a b c;rw [hk,hk];by_cases hj:j < lo+x
    ·exact a6 i j a b hj
    ·have a7:j=lo+x:=by (clear b a D hz hq U J hm h1 hn;omega)
     subst a7;by_cases hi:i=lo+x
     ·subst hi
      (clear b a hj c D hz hq U J hm h1 hn;omega)
     ·have:=a6 i (lo+x - 1) a (by (clear hj c a D hz hq U J hm h1 hn;omega)) (by (clear hi hj c b a D hz hq U hm hn;omega))
      (clear hi hj c b a hz hq U J hm h1 hn;omega)
   by_cases a0:q > 0
   ·rw [if_pos a0];exact wpS_bind (q67 (wpS_pure ⟨0,rfl,v.trans (Mv.mirrored (by (clear a0 D hz U J hm h1 hn;omega)) (by (clear a0 D hz hq J hm h1 hn;omega)) hz),more _ (q2u rk hz he),by (clear a0 D hz hq U J hm h1 hn;omega),λ i a b=>by rw [show i=lo+(x+1) - 1 by (clear a0 D hz hq U J hm h1 hn;omega)]⟩))
   ·rw [if_neg a0];exact wpS_pure ⟨0,rfl,v,more _ (λ _=>rfl),by (clear a0 D hz hq U J hm h1 hn;omega),λ i a b=>by rw [show i=lo+(x+1) - 1 by (clear a0 D hz hq U J hm h1 hn;omega)]⟩
  ·simp only [D,z30,z14,if_false];refine wpS_bind (q7u L B' (by (clear D hz hq J hm h1;omega)) (by (clear D hz hq J hm h1;omega)) ?_);by_cases Y:kx rk (arrOf O) (lo+x - 1) < kx rk (arrOf O) (lo+x)
   ·simp only [Y,z3c,if_true];exact wpS_pure (h x q O v J (by (clear Y D hz hq J hm h1 hn;omega)) a6 hq he)
   ·simp only [Y,z30,z14,if_false];have ex:kx rk (arrOf O) (lo+x)=kx rk (arrOf O) (lo+x - 1):=by (clear hz hq U J hm h1 hn;omega)
    refine wpS_pure ⟨q+1,rfl,v,λ i j a b c=> ?_,by (clear ex Y D hz U J hm h1 hn;omega),λ i a b=> ?_⟩
    ·by_cases hj:j < lo+x
     ·exact a6 i j a b hj
     ·have a7:j=lo+x:=by (clear b a ex Y D hz hq U J hm h1 hn;omega)
      subst a7;by_cases hi:i=lo+x
      ·subst hi
       (clear b a hj c ex Y D hz hq U J hm h1 hn;omega)
      ·have:=a6 i (lo+x - 1) a (by (clear hj c a ex Y D hz hq U J hm h1 hn;omega)) (by (clear hi hj c b a ex Y D hz hq U hm hn;omega))
       (clear hi hj c b a ex D hz hq U J hm h1 hn;omega)
    ·rw [show lo+(x+1) - 1=lo+x by (clear b a ex Y D hz hq U J hm h1 hn;omega)];by_cases hi:i=lo+x
     ·rw [hi]
     ·rw [ex];exact he i (by (clear hi b ex Y D hz hq U J hm h1 hn;omega)) (by (clear a ex Y D hz hq U J hm h1 hn;omega))
theorem qc8 (L:LtOk M A E s kd S rk) {st:SortSt} {lo m J:Nat} {Q:Option Nat ->SortSt ->Prop} (B:Sane kd S n st) (hn:lo+J<=n) (hm:m+1<=J) (hs:Dn rk (arrOf st) lo (lo+(m+1)))
  (h:∀ k D,Mv lo (lo+J) st D ->1<=k ->k<=J ->Up rk (arrOf D) lo (lo+k) ->Q (some k) D):wpS M A E s (q7x lo m J) Q st:=by
 unfold q7x;refine wpS_bind (wpS_lift (z3f ⟨zr,?_⟩));refine wpS_bind (qiq L B hn (by (clear hm hn;omega)) hm hs λ k q D v k1 Z Y hq he=> ?_)
 dsimp only
 have B':=v.sane B;have hz:lo+k<=(arrOf D).size:=by rw [B'.size];(clear hq k1 hm;omega)
 by_cases O:q > 0
 ·rw [if_pos O];have v2:Mv lo (lo+J) D (setArr D (mirror (arrOf D) (lo+k - (q+1)) (lo+k) ((lo+k - (lo+k - (q+1))) / 2))):=Mv.mirrored (by (clear O hz Z k1 hm hn;omega)) (by (clear O hz hq k1 hm hn;omega)) hz;refine wpS_bind (q67 (qc7 L (v2.sane B') hn (by (clear O hz hq Z hm hn;omega)) Z ?_ λ j U v3=>h j U ((v.trans v2).trans v3)));intro i j a b c;show kx rk (mirror (arrOf D) (lo+k - (q+1)) (lo+k) ((lo+k - (lo+k - (q+1))) / 2)) j<=kx rk (mirror (arrOf D) (lo+k - (q+1)) (lo+k) ((lo+k - (lo+k - (q+1))) / 2)) i;rw [q2u rk hz he,q2u rk hz he];exact Y i j a b c
 ·rw [if_neg O];exact qc7 L B' hn (by (clear O hz hq Z hm hn;omega)) Z Y λ j U v3=>h j U (v.trans v3)
theorem qfl (L:LtOk M A E s kd S rk) {st:SortSt} {lo U:Nat} {Q:Option Nat ->SortSt ->Prop} (B:Sane kd S n st) (hn:lo+U<=n) (h1:1<=U)
  (h:∀ k a6,Mv lo (lo+U) st a6 ->1<=k ->k<=U ->Up rk (arrOf a6) lo (lo+k) ->Q (some k) a6):wpS M A E s (countRun' lo U) Q st:=by
 rw [qdr];refine wpS_bind (qc6 L B hn (z3b 1) h1 (λ i j a b c=>by rw [show i=j by (clear h1 hn;omega)];exact z3d _) λ m Z m2 hs O=> ?_)
 dsimp only
 by_cases hm:m=U
 ·rw [if_pos (by simpa using hm)];exact wpS_pure (h m st (Mv.refl _ _ _) Z m2 hs)
 ·rw [if_neg (by simpa using hm)];have J:=O.resolve_left hm;by_cases Y:m > 1
  ·rw [if_pos Y];refine wpS_bind (q7u L B (by (clear Y J hm O m2 Z;omega)) (by (clear Y J hm O Z;omega)) ?_);by_cases D:kx rk (arrOf st) lo < kx rk (arrOf st) (lo+m - 1)
   ·simp only [D,z3c,if_true];exact wpS_pure (h m st (Mv.refl _ _ _) Z m2 hs)
   ·simp only [D,z30,z14,if_false];have hz:lo+m<=(arrOf st).size:=by rw [B.size];(clear D Y J hm O Z h1;omega)
    have a0:∀ k,lo<=k ->k < lo+m ->kx rk (arrOf st) k=kx rk (arrOf st) (lo+m - 1):=by
     intro k a b;have a1:=hs lo k (z3b _) a b;have a2:=hs k (lo+m - 1) a (by (clear a1 a hz D Y J hm O m2 Z h1 hn;omega)) (by (clear a1 b a hz D Y J hm O m2 h1 hn;omega))
     (clear b a hz Y J hm O m2 Z h1 hn;omega)
    have v:Mv lo (lo+U) st (setArr st (mirror (arrOf st) lo (lo+m) ((lo+m - lo) / 2))):=Mv.mirrored (z3b _) (by (clear hz D Y J hm O Z h1 hn;omega)) hz;refine wpS_bind (q67 (qc8 L (v.sane B) hn (by (clear hz D Y J O Z h1 hn;omega)) ?_ λ j a9 v3=>h j a9 (v.trans v3)));intro i j a b c;show kx rk (mirror (arrOf st) lo (lo+m) ((lo+m - lo) / 2)) j<=kx rk (mirror (arrOf st) lo (lo+m) ((lo+m - lo) / 2)) i;rw [q2u rk hz a0,q2u rk hz a0];by_cases hj:j < lo+m
    ·rw [a0 i a (by (clear c a hz D Y J hm O m2 Z h1 hn;omega)),a0 j (by (clear hj c hz D Y J hm O m2 Z h1 hn;omega)) hj];exact z3d _
    ·have a7:j=lo+m:=by (clear b a hz D Y J hm O m2 Z h1 hn;omega)
     subst a7;by_cases hi:i=lo+m
     ·subst hi
      (clear b a hj c hz D Y J hm O m2 Z h1 hn;omega)
     ·rw [a0 i a (by (clear hj c a hz D Y J hm O m2 Z h1 hn;omega))]
      (clear hi hj c b a hz D Y J m2 Z h1 hn;omega)
  ·rw [if_neg Y];have a8:m=1:=by (clear J hm O m2 h1 hn;omega)
   subst a8;refine qc8 L B hn (by (clear Y J O m2 Z hn;omega)) ?_ h;intro i j a b c;by_cases hi:i=j
   ·rw [hi];exact z3d _
   ·have e1:i=lo:=by (clear Y J hm O m2 Z h1 hn;omega)
    have e2:j=lo+1:=by (clear e1 Y J hm O m2 Z h1 hn;omega)
    subst e1 e2;have:i+1 - 1=i:=by (clear c hi b a J O hn Y hm m2 Z h1;omega)
    rw [this] at J
    (clear this c hi b a O hn Y hm m2 Z h1;omega)
theorem qc9 (L:LtOk M A E s kd S rk) {st:SortSt} {lo m ok:Nat} {Q:Bool ->SortSt ->Prop} (B:Sane kd S n st) (hn:lo+m<=n) (hok:ok<=m) (hs:Up rk (arrOf st) lo (lo+ok))
    (h:∀ U,Mv lo (lo+m) st U ->Up rk (arrOf U) lo (lo+m) ->Q true U):wpS M A E s (binarySort' lo m ok) Q st:=by
  rw [binarySort'_eq];refine wpS_bind (wpS_mono (wpS_forRange (I:=λ k c U=>c=(none,())/\Mv lo (lo+m) st U/\Up rk (arrOf U) lo (lo+min k m))
    (Q:=λ c U=>c=(none,())/\Mv lo (lo+m) st U/\Up rk (arrOf U) lo (lo+m)) ?turn ?last ?first) ?after)
  case after=>
    rintro c U ⟨rfl,v,b0⟩;exact wpS_pure (h U v b0)
  case first=>
    refine ⟨zr,Mv.refl _ _ _,λ i j a b c=> ?_⟩;by_cases h0:ok=0
    · rw [show i=j by (clear hok hn;omega)]
      exact z3d _
    · exact hs i j a b (by (clear b a hok hn;omega))
  case last=>
    rintro c U ⟨hc,v,b0⟩;refine ⟨hc,v,?_⟩
    rwa [show min (max (max ok 1) m) m=m by (clear hc hok hn;omega)] at b0
  case turn=>
    rintro k c U D J ⟨rfl,v,b0⟩;have Y:min k m=k:=by (clear D hok hn;omega)
    rw [Y] at b0;have B':=v.sane B;refine wpS_bind (wpS_mono (wpS_forRange (I:=λ x c a7=>a7=U/\∃ l r,c=(none,l,r)/\l<=r/\r<=k/\r - l<=k - x/\
        (∀ i,i < l ->kx rk (arrOf U) (lo+i)<=kx rk (arrOf U) (lo+k))/\(∀ i,r<=i ->i < k ->kx rk (arrOf U) (lo+k) < kx rk (arrOf U) (lo+i)))
      (Q:=λ c a7=>a7=U/\∃ l r,c=(none,l,r)/\l<=k/\
        (∀ i,i < l ->kx rk (arrOf U) (lo+i)<=kx rk (arrOf U) (lo+k))/\(∀ i,l<=i ->i < k ->kx rk (arrOf U) (lo+k) < kx rk (arrOf U) (lo+i))) ?iturn ?ilast ?ifirst) ?iafter)
    case ifirst=>exact ⟨rfl,0,k,rfl,by (clear Y J D hok hn;omega),by (clear Y J D hok hn;omega),by (clear Y J D hok hn;omega),λ i hi=>by (clear Y J D hok hn;omega),λ i a b=>by (clear Y J D hok hn;omega)⟩
    case ilast=>
      rintro c a7 ⟨rfl,l,r,rfl,a9,Z,hd,b4,b3⟩;have e:l=r:=by (clear Z Y J D hok hn;omega)
      subst e;exact ⟨zr,l,l,zr,Z,b4,b3⟩
    case iturn=>
      rintro x c a7 _ a0 ⟨rfl,l,r,rfl,a9,Z,hd,b4,b3⟩
      dsimp only
      by_cases a6:l >=r
      · rw [if_pos a6]
        have e:l=r:=by (clear hd Z a0 Y J D hok hn;omega)
        subst e;exact wpS_pure ⟨zr,l,l,zr,Z,b4,b3⟩
      · rw [if_neg a6]
        refine wpS_bind (q7u L B' (by (clear a6 hd Z a9 a0 Y D hok;omega)) (by (clear a6 hd a0 Y D hok;omega)) ?_);by_cases O:kx rk (arrOf a7) (lo+k) < kx rk (arrOf a7) (lo+(l+r) / 2)
        · simp only [O,z3c,if_true]
          refine wpS_pure ⟨rfl,l,(l+r) / 2,rfl,by (clear O a6 hd Z a0 Y J D hok hn;omega),by (clear O a6 hd a0 Y J D hok hn;omega),by (clear O a6 Z a9 a0 Y J D hok hn;omega),b4,λ i a b=> ?_⟩;have:=b0 (lo+(l+r) / 2) (lo+i) (by (clear b a O a6 hd Z a9 a0 Y J D hok hn;omega)) (by (clear b O a6 hd Z a9 a0 Y J D hok hn;omega)) (by (clear a O a6 hd Z a9 a0 Y J D hok hn;omega))
          (clear b a a6 hd Z a9 a0 Y J D hok hn;omega)
        · simp only [O,z30,z14,if_false]
          refine wpS_pure ⟨rfl,(l+r) / 2+1,r,rfl,by (clear O hd Z a9 a0 Y J D hok hn;omega),by (clear O a6 hd a9 a0 Y J D hok hn;omega),by (clear O a6 Z a9 a0 Y J D hok hn;omega),λ i a=> ?_,b3⟩;have:=b0 (lo+i) (lo+(l+r) / 2) (by (clear a O a6 hd Z a9 a0 Y J D hok hn;omega)) (by (clear O a6 hd Z a9 a0 Y J D hok hn;omega)) (by (clear a O hd a9 a0 Y J D hok hn;omega))
          (clear a a6 hd Z a9 a0 Y J D hok hn;omega)
    case iafter=>
      rintro c a7 ⟨rfl,l,r,rfl,a8,b4,b3⟩;show wpS M A E s (moveDown' (lo+k) (lo+l) >>=λ _=>pure (ForInStep.yield (none,()))) _ a7;rw [moveDown'_eq];have hz:lo+k < (arrOf a7).size:=by rw [B'.size];(clear a8 Y D hok;omega)
      refine wpS_bind (wpS_modify (wpS_pure ⟨rfl,v.trans (Mv.sunk (by (clear hz a8 Y J D hok hn;omega)) (by (clear hz a8 Y D hok hn;omega)) hz),?_⟩));rw [show min (k+1) m=k+1 by (clear hz a8 Y D hok hn;omega)];intro i j a b c;show kx rk (bubble (arrOf a7) (lo+k) (lo+k - (lo+l))) i<=kx rk (bubble (arrOf a7) (lo+k) (lo+k - (lo+l))) j;rw [qb3 rk hz (by (clear c b a hz a8 Y J D hok hn;omega)),qb3 rk hz (by (clear c b a hz a8 Y J D hok hn;omega)),show lo+k - (lo+k - (lo+l))=lo+l by (clear c b a hz Y J D hok hn;omega)];have b6:∀ q,lo<=q ->q < lo+l ->kx rk (arrOf a7) q<=kx rk (arrOf a7) (lo+k):=λ q a b=>by
        have:=b4 (q - lo) (by (clear c hz a8 Y J D hok hn;omega))
        rwa [show lo+(q - lo)=q by (clear this b c hz a8 Y J D hok hn;omega)] at this
      have b5:∀ q,lo+l<=q ->q < lo+k ->kx rk (arrOf a7) (lo+k) < kx rk (arrOf a7) q:=λ q a b=>by
        have:=b3 (q - lo) (by (clear b c hz a8 Y J D hok hn;omega)) (by (clear a c hz a8 Y J hok hn;omega))
        rwa [show lo+(q - lo)=q by (clear this b c hz a8 Y J D hok hn;omega)] at this
      repeat' split
      all_goals first
        | (exfalso;omega)
        | exact z3d _
        | exact b6 _ (by (clear c b hz a8 Y J D hok hn;omega)) (by (clear c a hz a8 Y J D hok hn;omega))
        | exact Int.le_of_lt (b5 _ (by (clear c b a hz a8 Y J D hok hn;omega)) (by (clear c b a hz a8 Y J D hok hn;omega)))
        | exact b0 _ _ (by omega) (by omega) (by omega)
end
end Tim
namespace Tim
section
variable {α:Type} {rk:α ->Int} {as bs out:List α} {ia ib:Nat}
end
end Tim
namespace Tim
open PySem PyProof.Rows
section
variable {M:Model} {A:Around} {E:Value ->Shared ->Prop} {s:Shared} {kd:SortKind} {S:Keyed ->Prop} {rk:Keyed ->Int}
end
section
variable {rk:Keyed ->Int} {a b o:Array Keyed} {x y:Nat}
theorem qem (xs:Array Keyed) (i:Nat) {p:Keyed} (h:xs.toList[i]? =some p):kx rk xs i=rk p:=qkl (by rw [<- h,z0o])
end
section
variable {S:Keyed ->Prop} {rk:Keyed ->Int} {a b o:Array Keyed} {x y:Nat}
end
section
variable {M:Model} {A:Around} {E:Value ->Shared ->Prop} {s:Shared} {kd:SortKind} {S:Keyed ->Prop} {rk:Keyed ->Int} {a b:Array Keyed} {st:SortSt}
end
section
variable {rk:Keyed ->Int} {a b o:Array Keyed} {x y:Nat}
end
section
variable {S:Keyed ->Prop} {rk:Keyed ->Int} {a b o:Array Keyed} {x y:Nat}
end
section
variable {M:Model} {A:Around} {E:Value ->Shared ->Prop} {s:Shared} {kd:SortKind} {S:Keyed ->Prop} {rk:Keyed ->Int} {a b:Array Keyed} {st:SortSt}
end
section
variable {rk:Keyed ->Int} {xs ys:Array Keyed}
end
section
variable {M:Model} {A:Around} {E:Value ->Shared ->Prop} {s:Shared} {kd:SortKind} {S:Keyed ->Prop} {rk:Keyed ->Int} {n:Nat}
end
section
variable {M:Model} {A:Around} {E:Value ->Shared ->Prop} {s:Shared} {kd:SortKind} {S:Keyed ->Prop} {rk:Keyed ->Int} {n:Nat}
end
def KLt (prog:Program) (w:World) (A:Around) (s:Shared) (kd:SortKind) (x y:Value) (r:Bool):Prop:=
 ∀ (E:Value ->Shared ->Prop) (Q:Bool ->Shared ->Prop),Q r s ->wpAny (model prog w) A (keyLt' kd x y) Q E s
theorem qkz {prog:Program} {w:World} {A:Around} {E:Value ->Shared ->Prop} {s:Shared} {kd:SortKind} {S:Keyed ->Prop} {rk:Keyed ->Int} (h:∀ x y,S x ->S y ->KLt prog w A s kd x.1 y.1 (decide (rk x < rk y))):
  LtOk (model prog w) A E s kd S rk:=by
 intro x y st Q sx sy hk q;rw [lt'_eq];refine wpS_bind (wpS_get ?_);rw [hk];refine wpS_bind (wpS_lift (z2u (h x y sx sy _ _ ⟨zr,?_⟩)));exact wpS_pure q
section
variable {α:Type}
theorem q94 {p q:α ->Bool}:∀ (l:List α),(∀ z∈l,p z=true ->q z=true) ->(l.filter p).length<=(l.filter q).length
 | [],_=>z3b _
 | z::l,h=>by
  have ih:=q94 (p:=p) (q:=q) l λ y hy=>h y (z0s _ hy);rw [z1x,z1x];cases e:p z with
  | true=>
   rw [h z (z18 ..) e];simp only [if_true,z1w];omega
  | false=>
   cases q z with
   | true=>simp only [z14,if_false,if_true,z1w];omega
   | false=>simpa using ih
theorem qca {p q:α ->Bool} {y:α}:∀ (l:List α),(∀ z∈l,p z=true ->q z=true) ->y∈l ->p y=false ->q y=true ->(l.filter p).length < (l.filter q).length
 | [],_,hy,_,_=>nomatch hy
 | z::l,h,hy,h1,h2=>by
  have hl:∀ w∈l,p w=true ->q w=true:=λ w hw=>h w (z0s _ hw);rw [z1x,z1x];rcases z2v.mp hy with rfl | hy
  ·rw [h1,h2];have:=q94 l hl;simp only [z14,if_false,if_true,z1w];omega
  ·have ih:=qca l hl hy h1 h2;cases e:p z with
   | true=>
    rw [h z (z18 ..) e];simp only [if_true,z1w];omega
   | false=>
    cases q z with
    | true=>simp only [z14,if_false,if_true,z1w];omega
    | false=>simpa using ih
def rank (lt:α ->α ->Bool) (l:List α) (x:α):Int:=((l.filter λ y=>lt y x).length:Nat)
theorem qen {lt:α ->α ->Bool} {l:List α} (irr:∀ x∈l,lt x x=false) (tr:∀ x∈l,∀ y∈l,∀ z∈l,lt x y=true ->lt y z=true ->lt x z=true)
  (nt:∀ x∈l,∀ y∈l,∀ z∈l,lt x z=true ->lt x y=true\/ lt y z=true) {x y:α} (B:x∈l) (hy:y∈l):lt x y=decide (rank lt l x < rank lt l y):=by
 unfold rank;cases e:lt x y with
 | true=>
  have:=qca (p:=λ z=>lt z x) (q:=λ z=>lt z y) l (λ z hz h=>tr z hz x B y hy h e) B (irr x B) e;exact (z2m (by omega)).symm
 | false=>
  have:=q94 (p:=λ z=>lt z y) (q:=λ z=>lt z x) l (λ z hz h=>(nt z hz x B y hy h).resolve_right (by rw [e];exact z15));exact (z28 (by omega)).symm
end
structure Sorted (rk:Value ->Int) (vs out:List Value):Prop where
 perm:out.Perm vs
 asc:out.Pairwise λ x y=>rk x<=rk y
theorem qcb {rk:Value ->Int} {vs:List Value} {xs:Array Keyed} (hp:xs.Perm (pairsOf vs)) (hu:Up (λ p=>rk p.1) xs 0 vs.length):Sorted rk vs (xs.map (·.2)).toList:=by
 have hl:xs.toList.Perm (vs.zip vs):=by
  rw [<- pairsOf_toList];exact z03.mp hp
 have hsz:xs.size=vs.length:=by
  rw [hp.size_eq,pairsOf_size]
 have same:∀ p,p∈xs.toList ->p.1=p.2:=λ p h=>(mem_zip_self (hl.mem_iff.mp h)).1;refine ⟨?_,?_⟩
 ·rw [Array.toList_map];have:=hl.map Prod.snd
  rwa [List.map_snd_zip (z3b _)] at this
 ·rw [Array.toList_map,z07];intro i j hi hj J;rw [List.getElem_map,List.getElem_map];have D:i < xs.toList.length:=by simpa using hi
  have B:j < xs.toList.length:=by simpa using hj
  have:=hu i j (z3e _) (z31 J) (by rw [z0v] at B;omega);rw [qem xs i (z09 D),qem xs j (z09 B)] at this;rw [<- same _ (z1y D),<- same _ (z1y B)];exact this
section
variable {prog:Program} {w:World} {A:Around} {E:Value ->Shared ->Prop} {s:Shared}
def Keys (prog:Program) (w:World) (A:Around) (s:Shared) (a:Addr) (vs:List Value) (rk:Value ->Int):Prop:=2<=vs.length ->∀ s':Shared,(∀ b o,b≠a ->s.heap.get? b=some o ->s'.heap.get? b=some o) ->
 ∃ kd:SortKind,(∀ (E:Value ->Shared ->Prop) (Q:SortKind ->Shared ->Prop),Q kd s' ->wpAny (model prog w) A (keyKind' vs.toArray) Q E s')/\∀ x∈vs,∀ y∈vs,KLt prog w A s' kd x y (decide (rk x < rk y))
end
end Tim
namespace Tim
structure STO {α:Type} (lt:α ->α ->Bool):Prop where
 irr:∀ a,lt a a=false
 tr:∀ a b c,lt a b=true ->lt b c=true ->lt a c=true
 tri:∀ a b,lt a b=false ->lt b a=false ->a=b
section
variable {α β:Type}
theorem STO.asym {lt:α ->α ->Bool} (h:STO lt) {a b:α} (x:lt a b=true):lt b a=false:=by
 cases e:lt b a with
 | false=>rfl
 | true=>
  have:=h.tr a b a x e;rw [h.irr] at this;cases this
theorem STO.nt {lt:α ->α ->Bool} (h:STO lt) {a c:α} (b:α) (x:lt a c=true):lt a b=true\/ lt b c=true:=by
 cases e:lt a b with
 | true=>exact .inl rfl
 | false=>
  cases f:lt b a with
  | true=>exact .inr (h.tr b a c f x)
  | false=>
   have:=h.tri a b e f;subst this;exact .inr x
theorem STO.map {lt:α ->α ->Bool} (h:STO lt) (f:β ->α) (inj:∀ a b,f a=f b ->a=b):STO λ a b=>lt (f a) (f b):=
 ⟨λ a=>h.irr _,λ a b c=>h.tr _ _ _,λ a b x y=>inj a b (h.tri _ _ x y)⟩
def lexB [DecidableEq α] (lt:α ->α ->Bool):List α ->List α ->Bool
 | [],[]=>false
 | [],_::_=>true
 | _::_,[]=>false
 | a::as,b::bs=>if a=b then lexB lt as bs else lt a b
theorem STO.lex [DecidableEq α] {lt:α ->α ->Bool} (h:STO lt):STO (lexB lt):=by
 refine ⟨λ a=> ?_,λ a=> ?_,λ a=> ?_⟩
 ·induction a with
  | nil=>rfl
  | cons x a J=>rw [lexB,if_pos rfl];exact J
 ·induction a with
  | nil=>
   intro b c h1 h2;cases c with
   | nil=>cases b with
    | nil=>exact h1
    | cons y b=>cases h2
   | cons z c=>rfl
  | cons x a J=>
   intro b c h1 h2;cases b with
   | nil=>cases h1
   | cons y b=>
    cases c with
    | nil=>cases h2
    | cons z c=>
     rw [lexB] at h1 h2 ⊢;by_cases B:x=y
     ·subst B;rw [if_pos rfl] at h1;by_cases O:x=z
      ·subst O;rw [if_pos rfl] at h2 ⊢;exact J b c h1 h2
      ·rw [if_neg O] at h2 ⊢;exact h2
     ·rw [if_neg B] at h1;by_cases U:y=z
      ·subst U;rw [if_neg B];exact h1
      ·rw [if_neg U] at h2;have D:=h.tr x y z h1 h2;have:¬ x=z:=λ e=>by
        subst e;rw [h.irr] at D;cases D
       rw [if_neg this];exact D
 ·induction a with
  | nil=>
   intro b h1 h2;cases b with
   | nil=>rfl
   | cons y b=>cases h1
  | cons x a J=>
   intro b h1 h2;cases b with
   | nil=>cases h2
   | cons y b=>
    rw [lexB] at h1 h2;by_cases B:x=y
    ·subst B;rw [if_pos rfl] at h1 h2;rw [J b h1 h2]
    ·rw [if_neg B] at h1;rw [if_neg (Ne.symm B)] at h2;exact absurd (h.tri x y h1 h2) B
theorem ql0:STO (λ a b:Nat=>decide (a < b)):=
 ⟨λ a=>by simp,λ a b c h1 h2=>by simp at*;omega,λ a b h1 h2=>by simp at*;omega⟩
theorem qeo:STO (λ a b:Int=>decide (a < b)):=
 ⟨λ a=>by simp,λ a b c h1 h2=>by simp at*;omega,λ a b h1 h2=>by simp at*;omega⟩
theorem qaf:∀ (a b:List Nat),decide (a < b)=lexB (λ x y:Nat=>decide (x < y)) a b
 | [],[]=>rfl
 | [],_::_=>by simp [lexB]
 | _::_,[]=>by simp [lexB]
 | x::a,y::b=>by
  rw [lexB,<- qaf a b];by_cases e:x=y
  ·subst e;rw [if_pos rfl];simp
  ·rw [if_neg e];have:(x::a < y::b)↔x < y:=by
    rw [List.cons_lt_cons_iff]
    constructor
    ·rintro (h | h)
     ·exact h
     ·exact absurd h.1 e
    ·exact .inl
   simp [this]
theorem STO.uniq {lt:α ->α ->Bool} (h:STO lt):∀ {a b:List α},a.Perm b ->a.Pairwise (λ x y=>lt y x=false) ->b.Pairwise (λ x y=>lt y x=false) ->a=b
 | [],b,p,_,_=>(List.nil_perm.mp p).symm ▸ rfl
 | x::a,[],p,_,_=>by have:=p.length_eq;simp at this
 | x::a,y::b,p,pa,pb=>by
  obtain ⟨D,J⟩:=z19.mp pa;obtain ⟨O,U⟩:=z19.mp pb;have e:x=y:=by
   have B:x∈y::b:=p.mem_iff.mp (z18 ..);have hy:y∈x::a:=p.mem_iff.mpr (z18 ..);rcases z2v.mp B with e | B
   ·exact e
   ·rcases z2v.mp hy with e | hy
    ·exact e.symm
    ·exact h.tri x y (O x B) (D y hy)
  subst e;rw [h.uniq (List.Perm.cons_inv p) J U]
theorem qag [DecidableEq α] {lt:α ->α ->Bool}:∀ (i:Nat) (a b:List α) (c d:α),a.take i=b.take i ->a[i]? =some c ->b[i]? =some d ->c≠d ->lexB lt a b=lt c d
 | 0,[],_,_,_,_,h,_,_=>by simp at h
 | 0,_::_,[],_,_,_,_,h,_=>by simp at h
 | 0,x::a,y::b,c,d,_,h1,h2,hn=>by
  simp at h1 h2
  subst h1 h2;rw [lexB,if_neg hn]
 | i+1,[],_,_,_,_,h,_,_=>by simp at h
 | i+1,_::_,[],_,_,_,_,h,_=>by simp at h
 | i+1,x::a,y::b,c,d,e,h1,h2,hn=>by
  rw [List.take_succ_cons,List.take_succ_cons] at e;obtain ⟨B,e'⟩:=List.cons.inj e;subst B;rw [lexB,if_pos rfl];exact qag i a b c d e' (by simpa using h1) (by simpa using h2) hn
theorem q95 [DecidableEq α] {lt:α ->α ->Bool}:∀ (a b:List α),a.take (min a.length b.length)=b.take (min a.length b.length) ->lexB lt a b=decide (a.length < b.length)
 | [],[],_=>by simp [lexB]
 | [],_::_,_=>by simp [lexB]
 | _::_,[],_=>by simp [lexB]
 | x::a,y::b,e=>by
  rw [z1w,z1w,Nat.add_min_add_right,List.take_succ_cons,List.take_succ_cons] at e;obtain ⟨B,e'⟩:=List.cons.inj e;subst B;rw [lexB,if_pos rfl,q95 a b e',z1w,z1w];simp
end
end Tim
namespace L2
open PySem PySem.Spec PyProof.Rows
abbrev Key:=Sum Int Str
def q8b:Key ->Value ->Bool
 | .inl k,v=>Value.isInt k v
 | .inr x,v=>Value.isStrOf x v
def keyH (w:World):Key ->Int
 | .inl k=>hashInt k
 | .inr x=>hashStr w x
theorem q22:∀ {k:Key} {v:Value},q8b k v=true ->(∃ i t,k=Sum.inl i/\v=Value.int i t)\/ (∃ x t,k=Sum.inr x/\v=Value.str x t)
 | .inl i,v,h=>by
  obtain ⟨t,e⟩:=Value.isInt_shape (k:=i) (v:=v) h;exact .inl ⟨i,t,zr,e⟩
 | .inr x,v,h=>by
  obtain ⟨t,e⟩:=Value.isStrOf_shape (x:=x) (v:=v) h;exact .inr ⟨x,t,zr,e⟩
theorem qgl (i:Int) (t:Tok):q8b (.inl i) (.int i t)=true:=by simp [q8b,Value.isInt]
theorem qgm (x:Str) (t:Tok):q8b (.inr x) (.str x t)=true:=by simp [q8b,Value.isStrOf]
theorem qmy (a b:Int):decide ((Sum.inl a:Key)=Sum.inl b)=(a==b):=by
 by_cases e:a=b
 ·subst e;simp
 ·have h:¬ (Sum.inl a:Key)=Sum.inl b:=λ q=>e (Sum.inl.inj q);rw [z28 h];exact (beq_eq_false_iff_ne.mpr e).symm
theorem qmz (a b:Str):decide ((Sum.inr a:Key)=Sum.inr b)=decide (a=b):=by
 by_cases e:a=b
 ·subst e;simp
 ·have h:¬ (Sum.inr a:Key)=Sum.inr b:=λ q=>e (Sum.inr.inj q);rw [z28 h,z28 e]
theorem qn0 (a:Int) (b:Str):decide ((Sum.inl a:Key)=Sum.inr b)=false:=z28 (λ q=>nomatch q)
theorem qn1 (a:Str) (b:Int):decide ((Sum.inr a:Key)=Sum.inl b)=false:=z28 (λ q=>nomatch q)
def q18 (prog:Program) (w:World):PySem.KeyKind prog w Key where
 is:=q8b
 hash:=keyH w
 inj:=λ v a b ha hb=>by
  rcases q22 ha with ⟨i,t,rfl,rfl⟩ | ⟨x,t,rfl,rfl⟩
  ·rcases q22 hb with ⟨j,u,rfl,e⟩ | ⟨y,u,rfl,e⟩
   ·injection e with e1 _;rw [e1]
   ·exact nomatch e
  ·rcases q22 hb with ⟨j,u,rfl,e⟩ | ⟨y,u,rfl,e⟩
   ·exact nomatch e
   ·injection e with e1 _;rw [e1]
 byValue:=λ k v h=>by
  rcases q22 h with ⟨i,t,rfl,rfl⟩ | ⟨x,t,rfl,rfl⟩ <;> rfl
 pyHash:=λ hv h=>by
  rcases q22 hv with ⟨i,t,rfl,rfl⟩ | ⟨x,t,rfl,rfl⟩
  ·exact wpAny_pyHash_int h
  ·exact wpAny_pyHash_str h
 eqBool:=λ hu hv h=>by
  rcases q22 hu with ⟨i,t,rfl,rfl⟩ | ⟨x,t,rfl,rfl⟩
  ·rcases q22 hv with ⟨j,u,rfl,rfl⟩ | ⟨y,u,rfl,rfl⟩
   ·rw [qmy] at h;exact wpAny_eqBool_int h
   ·rw [qn0] at h;exact SeqAt.EqAt.int_str i t y u _ _ _ _ h
  ·rcases q22 hv with ⟨j,u,rfl,rfl⟩ | ⟨y,u,rfl,rfl⟩
   ·rw [qn1] at h;exact SeqAt.EqAt.str_int x t j u _ _ _ _ h
   ·rw [qmz] at h;exact wpAny_eqBool_str h
 «strs»:=λ k x t v h=>by
  rcases q22 h with ⟨i,u,rfl,e⟩ | ⟨y,u,rfl,e⟩
  ·exact nomatch e
  ·injection e with e1 _;subst e1;cases v <;> rfl
theorem qds (prog:Program) (w:World) (i:Int) (t:Tok):(q18 prog w).is (.inl i) (.int i t)=true:=qgl i t
theorem qdt (prog:Program) (w:World) (x:Str) (t:Tok):(q18 prog w).is (.inr x) (.str x t)=true:=qgm x t
inductive V where
 | non | bl (b:Bool) | int (i:Int) | str (x:Str) | byt (b:Array UInt8) | flt (b:UInt64) | ref (a:Addr) | ty (n:String)
 deriving DecidableEq
def RelV:V ->Value ->Prop
 | .non,u=>u=Value.none
 | .bl b,u=>u=Value.bool b
 | .int i,u=>∃ t,u=Value.int i t
 | .str x,u=>∃ t,u=Value.str x t
 | .byt b,u=>∃ t,u=Value.bytes b t
 | .flt b,u=>∃ t,u=Value.float b t
 | .ref a,u=>u=Value.ref a
 | .ty n,u=>u=Value.type n
abbrev Vals:List V ->List Value ->Prop:=Paired RelV
theorem Vals.length {xs:List V} {us:List Value} (r:Vals xs us):xs.length=us.length:=Paired.length r
theorem Vals.get:∀ {xs:List V} {us:List Value} {i:Nat} {x:V},Vals xs us ->xs[i]? =some x ->∃ u,us[i]? =some u/\RelV x u
 | _,_,_,_,.nil,e=>by simp at e
 | _,_,0,_,.cons r _,e=>by simp at e;subst e;exact ⟨_,rfl,r⟩
 | _,_,i+1,x,.cons _ t,e=>by
  obtain ⟨u,h1,h2⟩:=Vals.get (i:=i) (x:=x) t (by simpa using e);exact ⟨u,by simpa using h1,h2⟩
theorem Vals.append:∀ {xs ys:List V} {us B:List Value},Vals xs us ->Vals ys B ->Vals (xs++ys) (us++B)
 | _,_,_,_,.nil,s=>s
 | _,_,_,_,.cons r t,s=> .cons r (Vals.append t s)
theorem Vals.take:∀ {xs:List V} {us:List Value} (n:Nat),Vals xs us ->Vals (xs.take n) (us.take n)
 | _,_,0,_=> .nil
 | _,_,_+1,.nil=> .nil
 | _,_,n+1,.cons r t=> .cons r (Vals.take n t)
theorem Vals.drop:∀ {xs:List V} {us:List Value} (n:Nat),Vals xs us ->Vals (xs.drop n) (us.drop n)
 | _,_,0,r=>r
 | _,_,_+1,.nil=> .nil
 | _,_,n+1,.cons _ t=>Vals.drop n t
def RelO:Option V ->Option Value ->Prop
 | some v,some u=>RelV v u
 | none,none=>True
 | _,_=>False
def KV {κ:Type}:List (κ×V) ->List (κ×Value) ->Prop:=Paired λ (p:κ×V) (q:κ×Value)=>p.1=q.1/\RelV p.2 q.2
def kV:Key ->V
 | .inl i=> .int i
 | .inr x=> .str x
inductive HO where
 /-- a list -/
 | lst (xs:List V)
 /-- a tuple (never changes) -/
 | tup (xs:List V)
 /-- a dict whose keys are ints and texts;one whose keys are tuples of ints and texts (the empty one is both) -/
 | dK (kvs:List (Key×V)) | dT (kvs:List (List Key×V))
 /-- a set of ints:its members,its size -/
 | set (S:Int ->Bool) (n:Nat)
 /-- an instance of the class at C,its dict at dx,its attributes -/
 | ins (C dx:Addr) (fs:List (Str×V))
 /-- the dict of the instance at x -/
 | own (x:Addr)
 /-- the dict of an exception -/
 | xd (fs:List (Str×V))
 /-- a bound method,f of x -/
 | met (f x:Addr)
 /-- a range object lo,lo+1,.. below hi -/
 | rng (lo hi:Int)
 /-- a thing that is known to the object (the script;a dict while a loop walks it):read,never written while it is so -/
 | frz (o:Obj) (u:HO)
 /-- a code object's table -/
 | tbl (ps:Array Value)
 /-- any other thing,by what is true of its one object (a def of one's own:SetO a S n:=HO.ext λ h=> ..) -/
 | ext (φ:Heap ->Prop)
abbrev Hp:=Addr ->Option HO
def upd (H:Hp) (a:Addr) (o:HO):Hp:=λ b=>if b=a then some o else H b
theorem qa {H:Hp} {a:Addr} {o:HO}:upd H a o a=some o:=by unfold upd;rw [if_pos rfl]
theorem qg {H:Hp} {a b:Addr} {o:HO} (h:b≠a):upd H a o b=H b:=by unfold upd;rw [if_neg h]
theorem qep {H:Hp} {a:Addr} {o u:HO}:upd (upd H a o) a u=upd H a u:=by
 funext b;unfold upd;split <;> rfl
theorem qkm {H:Hp} {a b:Addr} {o u:HO} (h:H a=some o) (h':H b=some u) (d:o≠u):a≠b:=by
 intro e;subst e;rw [h] at h';exact d (Option.some.inj h')
theorem q2v {H:Hp} {a b:Addr} {o:HO} (h:H a=some o) (h':H b=none):a≠b:=by
 intro e;subst e;rw [h] at h';cases h'
section
variable (P:Program) (w:World)
def ObjOk (H:Hp) (h:Heap) (a:Addr):HO ->Prop
 | .lst xs=>xs.length<=sizeLine/\∃ (its:List Value) (n:Nat),Vals xs its/\h.get? a=some {cls:= .type "list",data:= .seq its.toArray n}
 | .tup xs=>xs.length<=sizeLine/\∃ its:List Value,Vals xs its/\IsTup h a its.toArray
 | .dK kvs=>kvs.length<=sizeLine/\(a==sysModules)=false/\∃ vs,KV kvs vs/\h.DictOf (q18 P w) a vs
 | .dT kvs=>kvs.length<=sizeLine/\(a==sysModules)=false/\∃ xs:List (List Key×Addr×Value),
   Paired (λ (p:List Key×V) (q:List Key×Addr×Value)=>p.1=q.1/\H q.2.1=some (.tup (p.1.map kV))/\RelV p.2 q.2.2) kvs xs/\
   ∃ o es ep,h.get? a=some o/\o.ExactDict/\o.data= .dict es ep/\es.toList=xs.map (entryOfKey (tupleKind (q18 P w)))/\(xs.map (·.1)).Nodup
 | .set S n=>h.SetOf (intKind P w) a S n
 | .ins C dx fs=>H dx=some (.own a)/\fs.length<=1000/\dx≠a/\h.get? a=some (PySem.W.instObj C dx)/\
   ∃ mA,h.Ns1 dx mA/\(∀ f,RelO (fs.lookup f) (mA f))/\PySem.Within mA (fs.map (·.1))
 | .own _=>∃ o,h.get? a=some o
 | .xd fs=>∃ mA,h.Ns1 a mA/\∀ f,RelO (fs.lookup f) (mA f)
 | .rng lo hi=>∃ t u v,h.get? a=some {cls:= .type "range",data:= .fields #[.int lo t,.int hi u,.int 1 v]}
 | .frz o u=>h.get? a=some o/\ObjOk H h a u
 | .tbl ps=>h.get? a=some {cls:= .none,data:= .fields ps}
 | .met f x=>h.get? a=some (PySem.W.methodObj (.ref f) (.ref x))
 | .ext φ=>φ h/\(∃ o,h.get? a=some o)/\∀ h1 h2:Heap,φ h1 ->(∀ o,h1.get? a=some o ->h2.get? a=some o) ->φ h2
def HOk (H:Hp) (h:Heap):Prop:=∀ a o,H a=some o ->ObjOk P w H h a o
end
section
variable {P:Program} {w:World} {H H':Hp} {h h':Heap} {a:Addr} {o:HO}
theorem ObjOk.lt (x:ObjOk P w H h a o):a < h.objs.size:=by
 cases o with
 | lst xs=>obtain ⟨_,_,_,_,e⟩:=x;exact z32 e
 | tup xs=>obtain ⟨_,_,_,p⟩:=x;exact p.lt
 | dK kvs=>obtain ⟨_,_,_,_,o,_,_,e,_⟩:=x;exact z32 e
 | dT kvs=>obtain ⟨_,_,_,_,o,_,_,e,_⟩:=x;exact z32 e
 | set S n=>obtain ⟨o,_,_,_,e,_⟩:=x;exact z32 e
 | ins C dx fs=>obtain ⟨_,_,_,e,_⟩:=x;exact z32 e
 | own y=>obtain ⟨_,e⟩:=x;exact z32 e
 | xd fs=>obtain ⟨_,⟨_,_,_,e,_⟩,_⟩:=x;exact z32 e
 | rng lo hi=>obtain ⟨_,_,_,e⟩:=x;exact z32 e
 | frz ob u=>obtain ⟨e,_⟩:=x;exact z32 e
 | tbl ps=>exact z32 (show h.get? a=some _ from x)
 | met f y=>exact z32 (show h.get? a=some _ from x)
 | ext φ=>obtain ⟨_,⟨_,e⟩,_⟩:=x;exact z32 e
theorem Paired.mapP {α β:Type} {F G:α ->β ->Prop}:∀ {l₁:List α} {B:List β},Paired F l₁ B ->(∀ a b,F a b ->G a b) ->Paired G l₁ B
 | _,_,.nil,_=> .nil
 | _,_,.cons r t,f=> .cons (f _ _ r) (Paired.mapP t f)
theorem ObjOk.stay (x:ObjOk P w H h a o) (k:∀ b u,(b=a\/ H b=some (.own a)) ->h.get? b=some u ->h'.get? b=some u)
  (ho:∀ b,H b=some (.own a) ->H' b=some (.own a)) (ht:∀ b xs,H b=some (.tup xs) ->H' b=some (.tup xs)):ObjOk P w H' h' a o:=by
 induction o with
 | lst xs=>obtain ⟨z,its,n,r,e⟩:=x;exact ⟨z,its,n,r,k _ _ (.inl rfl) e⟩
 | tup xs=>obtain ⟨z,its,r,B,e,c⟩:=x;exact ⟨z,its,r,B,k _ _ (.inl rfl) e,c⟩
 | dK kvs=>obtain ⟨z,y,vs,r,B,es,ep,e,c⟩:=x;exact ⟨z,y,vs,r,B,es,ep,k _ _ (.inl rfl) e,c⟩
 | dT kvs=>
  obtain ⟨z,y,xs,r,B,es,ep,e,c⟩:=x;exact ⟨z,y,xs,Paired.mapP r λ p q z=>⟨z.1,ht _ _ z.2.1,z.2.2⟩,B,es,ep,k _ _ (.inl rfl) e,c⟩
 | set S n=>obtain ⟨B,es,ep,t,e,c⟩:=x;exact ⟨B,es,ep,t,k _ _ (.inl rfl) e,c⟩
 | ins C dx fs=>
  obtain ⟨d,z,ne,e,mA,⟨D,es,ep,e2,c⟩,r⟩:=x;exact ⟨ho _ d,z,ne,k _ _ (.inl rfl) e,mA,⟨D,es,ep,k _ _ (.inr d) e2,c⟩,r⟩
 | own y=>obtain ⟨B,e⟩:=x;exact ⟨B,k _ _ (.inl rfl) e⟩
 | xd fs=>obtain ⟨mA,⟨D,es,ep,e,c⟩,r⟩:=x;exact ⟨mA,⟨D,es,ep,k _ _ (.inl rfl) e,c⟩,r⟩
 | rng lo hi=>obtain ⟨t,u,v,e⟩:=x;exact ⟨t,u,v,k _ _ (.inl rfl) e⟩
 | frz B u ih=>obtain ⟨e,q⟩:=x;exact ⟨k _ _ (.inl rfl) e,ih q⟩
 | tbl ps=>
  have e:h.get? a=some {cls:= .none,data:= .fields ps}:=x;show h'.get? a=some {cls:= .none,data:= .fields ps};exact k a _ (.inl rfl) e
 | met f y=>
  have e:h.get? a=some (PySem.W.methodObj (.ref f) (.ref y)):=x;show h'.get? a=some (PySem.W.methodObj (.ref f) (.ref y));exact k a _ (.inl rfl) e
 | ext φ=>obtain ⟨p,⟨o,e⟩,st⟩:=x;exact ⟨st _ _ p λ o q=>k _ _ (.inl rfl) q,⟨o,k _ _ (.inl rfl) e⟩,st⟩
theorem HOk.lt (x:HOk P w H h) (e:H a=some o):a < h.objs.size:=(x a o e).lt
theorem HOk.fresh (x:HOk P w H h) (e:h.objs.size<=a):H a=none:=by
 cases q:H a with
 | none=>rfl
 | some u=>exact absurd (z1a (x.lt q) e) (z2x _)
theorem HOk.kept (x:HOk P w H h) (k:∀ b u,h.get? b=some u ->h'.get? b=some u):HOk P w H h':=λ a o e=>
 (x a o e).stay (λ b u _ q=>k b u q) (λ _ q=>q) λ _ _ q=>q
theorem HOk.laid (x:HOk P w H h) (k:∀ b u,h.get? b=some u ->h'.get? b=some u) (hp:h.objs.size<=a) (new:ObjOk P w (upd H a o) h' a o):HOk P w (upd H a o) h':=λ b u e=>by
 have hn:=x.fresh hp;by_cases B:b=a
 ·subst B;rw [qa] at e;cases e;exact new
 ·rw [qg B] at e;exact (x b u e).stay (λ c v _ q=>k c v q) (λ c q=>by rw [qg (q2v q hn)];exact q) λ c xs q=>by rw [qg (q2v q hn)];exact q
end
def Rd (H:Hp) (a:Addr) (u:HO):Prop:=H a=some u\/ ∃ o,H a=some (.frz o u)
theorem Rd.ok {P:Program} {w:World} {H:Hp} {h:Heap} {a:Addr} {u:HO} (r:Rd H a u) (x:HOk P w H h):ObjOk P w H h a u:=by
 rcases r with r | ⟨o,r⟩
 ·exact x a u r
 ·obtain ⟨_,q⟩:=x a _ r;exact q
def Mut:Option HO ->Prop
 | some (.lst _)=>True
 | some (.dK _)=>True
 | some (.dT _)=>True
 | some (.set _ _)=>True
 | some (.ins _ _ _)=>True
 | some (.ext _)=>True
 | _=>False
section
variable {P:Program} {w:World} {H:Hp} {h h':Heap} {x e:Addr} {o':HO}
theorem HOk.write (ok:HOk P w H h) (Y:Mut (H x)) (he:e=x\/ H e=some (.own x)) (k:∀ b u,b≠e ->h.get? b=some u ->h'.get? b=some u) (Z:∃ u,h'.get? e=some u)
    (new:ObjOk P w (upd H x o') h' x o'):HOk P w (upd H x o') h':=λ b u q=>by
  have D:∀ c y,H c=some (.own y) ->c≠x:=λ c y r z=>by subst z;rw [r] at Y;exact Y
  have J:∀ c xs,H c=some (.tup xs) ->c≠x:=λ c xs r z=>by subst z;rw [r] at Y;exact Y
  by_cases O:b=x
  · subst O;rw [qa] at q;cases q;exact new
  · rw [qg O] at q
    by_cases B:b=e
    · have q':H b=some (.own x):=by
        rcases he with z | z
        · exact absurd (B.trans z) O
        · rw [B];exact z
      rw [q] at q';cases q';obtain ⟨v,hv⟩:=Z;exact ⟨v,by rw [B];exact hv⟩
    · refine (ok b u q).stay (λ c v U r=>k c v ?_ r) (λ c r=>by rw [qg (D c b r)];exact r) λ c xs r=>by rw [qg (J c xs r)];exact r
      rcases U with rfl | U
      · exact B
      · rintro rfl
        rcases he with z | z
        · exact D c b U z
        · rw [U] at z;cases z;exact O rfl
end
structure Un (fs ex:List Addr) (H H':Hp) (h h':Heap):Prop where
 keep:∀ b o,h.get? b=some o ->H b=none ->b∉fs ->b∉ex ->h'.get? b=some o
 slot:∀ b o,h.get? b=some o ->H b=none ->b∈fs ->b∉ex ->∃ sl,h'.get? b=some {o with slots:=sl}
 free:∀ b o,h.get? b=some o ->H b=none ->b∉ex ->H' b=none
 there:∀ b o,h.get? b=some o ->b∉ex ->∃ o',h'.get? b=some o'
 tups:∀ b xs,H b=some (.tup xs) ->H' b=some (.tup xs)
 frzs:∀ b o u,H b=some (.frz o u) ->H' b=some (.frz o u)
 tbls:∀ b ps,H b=some (.tbl ps) ->∃ more,H' b=some (.tbl (ps++more))
section
variable {fs fs' ex ex':List Addr} {H H1 H2:Hp} {h h1 h2 h':Heap} {a x e:Addr} {o:HO}
theorem Un.any (u:Un fs ex H H1 h h1) {b:Addr} {B:Obj} (q:h.get? b=some B) (n:H b=none) (J:b∉ex):∃ sl,h1.get? b=some {B with slots:=sl}:=by
 by_cases D:b∈fs
 ·exact u.slot b B q n D J
 ·exact ⟨B.slots,u.keep b B q n D J⟩
theorem Un.kept (k:∀ b u,h.get? b=some u ->h'.get? b=some u):Un fs ex H H h h':=
 ⟨λ b B q _ _ _=>k b B q,λ b B q _ _ _=>⟨B.slots,k b B q⟩,λ _ _ _ n _=>n,λ b B q _=>⟨B,k b B q⟩,λ _ _ q=>q,λ _ _ _ q=>q,λ _ ps q=>⟨#[],by rw [q];simp⟩⟩
theorem Un.refl:Un fs ex H H h h:=Un.kept λ _ _ q=>q
theorem Un.laid (k:∀ b u,h.get? b=some u ->h'.get? b=some u) (hp:h.objs.size<=a) (hn:H a=none):Un fs ex H (upd H a o) h h' where
 keep:=λ b u q _ _ _=>k b u q
 slot:=λ b u q _ _ _=>⟨u.slots,k b u q⟩
 free:=λ b u q n _=>by rw [qg (z33 (z1a (z32 q) hp))];exact n
 there:=λ b u q _=>⟨u,k b u q⟩
 tups:=λ b xs q=>by rw [qg (q2v q hn)];exact q
 frzs:=λ b u xs q=>by rw [qg (q2v q hn)];exact q
 tbls:=λ b ps q=>⟨#[],by rw [qg (q2v q hn),q];simp⟩
theorem Un.write (D:Mut (H x)) (he:e=x\/ H e=some (.own x)) (k:∀ b u,b≠e ->h.get? b=some u ->h'.get? b=some u) (J:∃ u,h'.get? e=some u):Un fs ex H (upd H x o) h h':=by
 have U:∀ b,H b=none ->b≠x:=λ b n z=>by subst z;rw [n] at D;exact D
 have O:∀ b,H b=none ->b≠e:=λ b n z=>by
  subst z;rcases he with r | r
  ·exact U b n r
  ·rw [n] at r;cases r
 have hm:∀ b u,H b=some u ->¬ Mut (some u) ->b≠x:=λ b u q nm z=>by subst z;rw [q] at D;exact nm D
 refine ⟨λ b u q n _ _=>k b u (O b n) q,λ b u q n _ _=>⟨u.slots,k b u (O b n) q⟩,λ b u q n _=>by rw [qg (U b n)];exact n,λ b u q _=> ?_,
  λ b xs q=>by rw [qg (hm b _ q λ z=>z)];exact q,λ b u xs q=>by rw [qg (hm b _ q λ z=>z)];exact q,λ b ps q=>⟨#[],by rw [qg (hm b _ q λ z=>z),q];simp⟩⟩
 by_cases B:b=e
 ·subst B;exact J
 ·exact ⟨u,k b u B q⟩
end
def trk (h:Heap) (H:Hp):List Addr:=(List.range h.objs.size).filter λ a=>(H a).isSome
def hidT (h:Heap) (H:Hp):Heap:=PySem.W.hideAll h (trk h H)
theorem qgn (h:Heap) (H:Hp):(hidT h H).objs.size=h.objs.size:=PySem.W.hideAll_size _ _
theorem qir {h:Heap} {H:Hp} {b:Addr} {o:Obj} (e:h.get? b=some o) (n:H b=none):(hidT h H).get? b=some o:=
 PySem.W.hideAll_get _ e λ hm=>by
  have q:(H b).isSome=true:=(z29.mp hm).2;rw [n] at q;simp at q
theorem ql1 {h:Heap} {H:Hp} {b:Addr} {o:Obj} (e:(hidT h H).get? b=some o):h.get? b=some o/\H b=none:=by
 have e':h.get? b=some o:=PySem.W.of_hideAll (trk h H) e;refine ⟨e',?_⟩;cases q:H b with
 | none=>rfl
 | some x=>
  have hm:b∈trk h H:=z29.mpr ⟨z2n.mpr (z32 e'),by simp [q]⟩;have z:(hidT h H).get? b=none:=PySem.W.hideAll_none (trk h H) hm;rw [z] at e;cases e
structure Mod (K:PySem.W.Frag) (mg:Str ->Option Value) (base:Heap):Prop where
 kin:K.In base
 glob:base.Ns mainGlobals mg
 blt:∃ mb,base.Ns builtinsNs mb/\∀ x:Str,x≠"__name__" ->mb x=bootBuiltins x
 nolimit:base.NoLimit
structure Cx where
 prog:Program
 w:World
 K:PySem.W.Frag
 mg:Str ->Option Value
 base:Heap
 A:Around
 N:List Str
 s₀:Shared
 H₀:Hp
 env:Env
 outer:List Env
 stack:List Env
 ex:List Addr
 fn:Str ->Bool
 calm:Bool
 pn:List (Addr×Obj)
 xe:Value ->Shared ->Prop
def frs (l:List Env):List Addr:=l.filterMap (·.frame)
abbrev Cx.fs (X:Cx):List Addr:=frs X.outer
def Vis (sc:Scope) (x:Str):Prop:=sc.names.lookup x=some .local\/ sc.names.lookup x=some .cell\/ sc.names.lookup x=some .free
def Loc (sc:Scope) (x:Str):Prop:=sc.names.lookup x=some .local\/ sc.names.lookup x=some .cell
def Look (env:Env) (h:Heap) (m:Str ->Option Value) (x:Str) (u:Value):Prop:=
 (env.kindOf x=some .local/\m x=some u)\/ ((env.kindOf x=some .cell\/ env.kindOf x=some .free)/\∃ c,env.cells.lookup x=some c/\h.IsCell c (some u))
structure Cx.Ok (X:Cx):Prop where
 mod:Mod X.K X.mg X.base
 kind:X.env.scope.kind= .function
 glob:X.env.globals=mainGlobals
 blt:X.env.builtins=builtinsNs
 above:X.s₀.heap.objs.size<=X.env.locals
 inj:∀ x y c,X.env.cells.lookup x=some c ->X.env.cells.lookup y=some c ->x=y
 has:∀ x,(X.env.kindOf x=some .cell\/ X.env.kindOf x=some .free) ->∃ c,X.env.cells.lookup x=some c
 cab:∀ x c,X.fn x=true ->X.env.cells.lookup x=some c ->X.s₀.heap.objs.size<=c
 hd:X.calm=true ->X.A.handled=none
 frames:X.A.frames=some X.stack
 stk:X.stack=X.outer\/ (X.stack=X.env::X.outer/\X.env.frame=some X.env.locals)
 exf:∀ b∈X.ex,b≠X.env.locals/\∀ x c,X.env.cells.lookup x=some c ->c≠b
 bs:∀ b o,X.base.get? b=some o ->X.s₀.heap.get? b=some o/\X.H₀ b=none
 bsz:X.base.objs.size<=X.s₀.heap.objs.size
 noex:∀ b o,X.base.get? b=some o ->b∉X.ex
 exfs:∀ b∈X.ex,b∉X.fs
 funs:X.s₀.heap.FunFrames X.base X.outer
 frf:∀ b∈X.fs,X.H₀ b=none
structure Inv (X:Cx) (pins:List (Addr×Obj)) (σ:List (Option V)) (H:Hp) (s:Shared):Prop where
 ok:X.Ok
 os:s.os=X.s₀.os
 bare:AllBare s.gens
 base:Un X.fs X.ex X.H₀ H X.s₀.heap s.heap
 loc:∃ m,s.heap.Ns X.env.locals m/\∀ (i:Nat) (x:Str) (v:V),X.N[i]? =some x ->σ[i]? =some (some v) ->Vis X.env.scope x ->∃ u,RelV v u/\Look X.env s.heap m x u
 cell:∀ x c,X.env.cells.lookup x=some c ->∃ v,s.heap.IsCell c v
 free:H X.env.locals=none
 freeC:∀ x c,X.env.cells.lookup x=some c ->H c=none
 pin:∀ p∈X.pn++pins,s.heap.get? p.1=some p.2/\H p.1=none/\p.1≠X.env.locals/\p.1∉X.fs/\∀ v,p.2.data≠ .cell v
 hok:HOk X.prog X.w H s.heap
 len:σ.length=X.N.length
section
variable {X:Cx} {pins:List (Addr×Obj)} {σ:List (Option V)} {H H':Hp} {s:Shared} {h':Heap}
theorem Cx.Ok.nofr (ok:X.Ok) {b:Addr} {o:Obj} (e:X.base.get? b=some o):b∉X.fs:=λ hb=>by
 have:=(ok.funs.mem hb).1;rw [e] at this;cases this
theorem Inv.bs (I:Inv X pins σ H s):∀ b o,X.base.get? b=some o ->s.heap.get? b=some o/\H b=none:=λ b o e=>
 ⟨I.base.keep b o (I.ok.bs b o e).1 (I.ok.bs b o e).2 (I.ok.nofr e) (I.ok.noex b o e),I.base.free b o (I.ok.bs b o e).1 (I.ok.bs b o e).2 (I.ok.noex b o e)⟩
theorem Inv.bk (I:Inv X pins σ H s):∀ b o,X.base.get? b=some o ->s.heap.get? b=some o:=λ b o e=>(I.bs b o e).1
theorem Inv.mod (I:Inv X pins σ H s):Mod X.K X.mg X.base:=I.ok.mod
theorem Inv.kIn (I:Inv X pins σ H s):X.K.In s.heap:=I.ok.mod.kin.keeps I.bk
theorem Inv.lt (I:Inv X pins σ H s):X.env.locals < s.heap.objs.size:=let ⟨_,hn,_⟩:=I.loc;hn.lt
theorem Inv.sz (I:Inv X pins σ H s):X.s₀.heap.objs.size<=s.heap.objs.size:=z34 I.ok.above (z31 I.lt)
theorem Inv.nofs (I:Inv X pins σ H s) {a:Addr} (h:s.heap.objs.size<=a):a∉X.fs:=λ hb=>by
 obtain ⟨_,o,ho,_⟩:=I.ok.funs.mem hb;exact absurd (z1a (z32 ho) (z34 I.sz h)) (z2x _)
theorem Inv.cne (I:Inv X pins σ H s):∀ x c,X.env.cells.lookup x=some c ->c≠X.env.locals:=λ x c e z=>by
 obtain ⟨v,o,ho,hd⟩:=I.cell x c e;obtain ⟨m,⟨o',es,ep,D,B,_⟩,_⟩:=I.loc;rw [z,D] at ho;cases ho;rw [B] at hd;cases hd
theorem Inv.funs (I:Inv X pins σ H s):s.heap.FunFrames X.base X.outer:=by
 have all:∀ (l:List Env),(∀ b∈frs l,b∈X.fs) ->X.s₀.heap.FunFrames X.base l ->s.heap.FunFrames X.base l:=by
  intro l
  induction l with
  | nil=>intro _ _;trivial
  | cons env r ih=>
   intro O hl;obtain ⟨hk,⟨L,o,J,hn,ho,hd⟩,hr⟩:=hl;have B:L∈X.fs:=O L (by unfold frs;rw [List.filterMap_cons,J];exact z18);obtain ⟨sl,e⟩:=I.base.slot L o ho (I.ok.frf L B) B λ z=>I.ok.exfs L z B;exact ⟨hk,⟨L,_,J,hn,e,hd⟩,ih (λ b D=>O b (by unfold frs;rw [List.filterMap_cons,J];exact z0s _ D)) hr⟩
 exact all X.outer (λ _ D=>D) I.ok.funs
theorem Inv.stack (I:Inv X pins σ H s):s.heap.FunFrames X.base X.stack:=by
 rcases I.ok.stk with e | ⟨e,hf⟩
 ·rw [e];exact I.funs
 ·rw [e];obtain ⟨m,hn,_⟩:=I.loc;refine .cons (by rw [I.ok.kind];decide) hf hn ?_ I.funs;exact Heap.get?_none_of_le (z34 I.ok.bsz I.ok.above)
theorem Inv.stkSub (I:Inv X pins σ H s):∀ b∈frs X.stack,b∈X.env.locals::X.fs:=λ b B=>by
 rcases I.ok.stk with e | ⟨e,hf⟩
 ·rw [e] at B;exact z0s _ B
 ·rw [e] at B;unfold frs at B;rw [List.filterMap_cons,hf] at B;exact B
theorem Inv.stkFree (I:Inv X pins σ H s):∀ b∈frs X.stack,H b=none:=λ b B=>by
 rcases z2v.mp (I.stkSub b B) with e | B
 ·rw [e];exact I.free
 ·obtain ⟨_,o,ho,_⟩:=I.ok.funs.mem B;exact I.base.free b o ho (I.ok.frf b B) λ z=>I.ok.exfs b z B
theorem Inv.step {g':Array GenState} {t':Nat} {d':Drawn} {ch:List Addr} (I:Inv X pins σ H s)
  (J:∀ b∈ch,(b∈X.ex\/ X.s₀.heap.objs.size<=b)/\b≠X.env.locals/\(∀ x c,X.env.cells.lookup x=some c ->c≠b)/\∀ p∈X.pn++pins,p.1≠b)
  (keep:∀ b o,b≠X.env.locals ->b∉X.fs ->b∉ch ->s.heap.get? b=some o ->H b=none ->h'.get? b=some o)
  (slot:∀ b o,b≠X.env.locals ->b∈X.fs ->b∉ch ->s.heap.get? b=some o ->H b=none ->∃ sl,h'.get? b=some {o with slots:=sl}) (free:∀ b o,b∉ch ->s.heap.get? b=some o ->H b=none ->H' b=none)
  (there:∀ b o,b∉ch ->s.heap.get? b=some o ->∃ o',h'.get? b=some o')
  (tups:∀ b xs,H b=some (.tup xs) ->H' b=some (.tup xs)) (frzs:∀ b o u,H b=some (.frz o u) ->H' b=some (.frz o u)) (tbls:∀ b ps,H b=some (.tbl ps) ->∃ more,H' b=some (.tbl (ps++more)))
  (ns:∀ m,s.heap.Ns X.env.locals m ->h'.Ns X.env.locals m) (hok:HOk X.prog X.w H' h') (hg:AllBare g'):
  Inv X pins σ H' {s with heap:=h',gens:=g',drawn:=d',toks:=t'}:=by
 have Z:∀ b o,X.s₀.heap.get? b=some o ->b≠X.env.locals:=λ b o e=>z33 (z1a (z32 e) I.ok.above);have U:∀ b o,X.s₀.heap.get? b=some o ->b∉X.ex ->b∉ch:=λ b o e B Y=>by
  rcases (J b Y).1 with z | z
  ·exact B z
  ·exact absurd (z1a (z32 e) z) (z2x _)
 have D:∀ x c,X.env.cells.lookup x=some c ->∀ v,s.heap.IsCell c v ->h'.IsCell c v:=λ x c e v ⟨o,ho,hd⟩=>by
  have O:c∉ch:=λ z=>(J c z).2.2.1 x c e rfl;by_cases hc:c∈X.fs
  ·obtain ⟨sl,q⟩:=slot c o (I.cne x c e) hc O ho (I.freeC x c e);exact ⟨_,q,hd⟩
  ·exact ⟨o,keep c o (I.cne x c e) hc O ho (I.freeC x c e),hd⟩
 refine ⟨I.ok,I.os,hg,⟨λ b o e n Y B=> ?_,λ b o e n Y B=> ?_,λ b o e n B=> ?_,λ b o e B=> ?_,λ b xs e=>tups b xs (I.base.tups b xs e),λ b o xs e=>frzs b o xs (I.base.frzs b o xs e),λ b ps e=> ?_⟩,?_,λ x c e=> ?_,?_,λ x c e=> ?_,λ p hp=> ?_,hok,I.len⟩
 ·exact keep b o (Z b o e) Y (U b o e B) (I.base.keep b o e n Y B) (I.base.free b o e n B)
 ·obtain ⟨sl,e1⟩:=I.base.slot b o e n Y B;obtain ⟨a0,e2⟩:=slot b _ (Z b o e) Y (U b o e B) e1 (I.base.free b o e n B);exact ⟨a0,e2⟩
 ·obtain ⟨o',e1⟩:=I.base.there b o e B;exact free b o' (U b o e B) e1 (I.base.free b o e n B)
 ·obtain ⟨o',e1⟩:=I.base.there b o e B;exact there b o' (U b o e B) e1
 ·obtain ⟨m1,e1⟩:=I.base.tbls b ps e;obtain ⟨m2,e2⟩:=tbls b _ e1;exact ⟨m1++m2,by rw [e2,Array.append_assoc]⟩
 ·obtain ⟨m,hn,hl⟩:=I.loc;refine ⟨m,ns m hn,λ i x v e1 e2 e3=> ?_⟩;obtain ⟨u,r,l⟩:=hl i x v e1 e2 e3;refine ⟨u,r,?_⟩;rcases l with l | ⟨k,c,e,z⟩
  ·exact .inl l
  ·exact .inr ⟨k,c,e,D x c e _ z⟩
 ·obtain ⟨v,z⟩:=I.cell x c e;exact ⟨v,D x c e v z⟩
 ·obtain ⟨m,⟨o,_,_,ho,_⟩,_⟩:=I.loc;exact free _ o (λ z=>(J _ z).2.1 rfl) ho I.free
 ·obtain ⟨v,o,ho,hd⟩:=I.cell x c e;exact free c o (λ z=>(J c z).2.2.1 x c e rfl) ho (I.freeC x c e)
 ·obtain ⟨e,n,ne,nf,d⟩:=I.pin p hp;have O:p.1∉ch:=λ z=>(J p.1 z).2.2.2 p hp rfl;exact ⟨keep p.1 p.2 ne nf O e n,free p.1 p.2 O e n,ne,nf,d⟩
theorem Inv.un {t':Nat} (I:Inv X pins σ H s) (u:Un X.fs [] H H' s.heap h') (hok:HOk X.prog X.w H' h'):Inv X pins σ H' {s with heap:=h',toks:=t'}:=by
 obtain ⟨m,⟨o,es,ep,ho,r⟩,_⟩:=id I.loc;obtain ⟨sl,hL⟩:=u.any ho I.free (by simp);exact I.step (g':=s.gens) (d':=s.drawn) (ch:=[]) (λ _ z=>nomatch z) (λ b o _ O _ e n=>u.keep b o e n O (by simp)) (λ b o _ O _ e n=>u.slot b o e n O (by simp)) (λ b o _ e n=>u.free b o e n (by simp)) (λ b o _ e=>u.there b o e (by simp)) u.tups u.frzs u.tbls (λ m' hm=>by
  obtain ⟨o',J,D,B,r'⟩:=hm;rw [ho] at B;cases B;exact ⟨_,J,D,hL,r'⟩) hok I.bare
theorem Inv.call {g':Array GenState} {t':Nat} {d':Drawn} {ch:List Addr} (I:Inv X pins σ H s) (u:Un (frs X.stack) ch H H' s.heap h') (hok:HOk X.prog X.w H' h') (hg:AllBare g')
  (D:∀ b∈ch,(b∈X.ex\/ X.s₀.heap.objs.size<=b)/\b≠X.env.locals/\(∀ x c,X.env.cells.lookup x=some c ->c≠b)/\∀ p∈X.pn++pins,p.1≠b):
  Inv X pins σ H' {s with heap:=h',gens:=g',drawn:=d',toks:=t'}:=by
 obtain ⟨m,⟨o,es,ep,ho,r⟩,_⟩:=id I.loc;obtain ⟨sl,Y⟩:=u.any ho I.free λ z=>(D _ z).2.1 rfl;exact I.step (ch:=ch) D (λ b o Y hb B e n=>u.keep b o e n (λ z=>(z2v.mp (I.stkSub b z)).elim Y hb) B) (λ b o _ _ B e n=>u.any e n B) (λ b o B e n=>u.free b o e n B) (λ b o B e=>u.there b o e B) u.tups u.frzs u.tbls (λ m' hm=>by
  obtain ⟨o',U,O,J,r'⟩:=hm;rw [ho] at J;cases J;exact ⟨_,U,O,Y,r'⟩) hok hg
theorem Inv.turned {t':Nat} {it:Addr} (I:Inv X pins σ H s) (k:∀ b o,b≠it ->s.heap.get? b=some o ->h'.get? b=some o) (hn:H it=none) (J:it≠X.env.locals)
  (h1:it∈X.ex\/ X.s₀.heap.objs.size<=it) (h2:∀ x c,X.env.cells.lookup x=some c ->c≠it) (h3:∀ p∈X.pn++pins,p.1≠it):Inv X pins σ H {s with heap:=h',toks:=t'}:=by
 have D:∀ b u,H b=some u ->b≠it:=λ b u e z=>by rw [z,hn] at e;cases e
 refine I.step (g':=s.gens) (d':=s.drawn) (ch:=[it]) (λ b hb=> ?_) (λ b o _ _ B e _=>k b o (λ z=>B (by simp [z])) e) (λ b o _ _ B e _=>⟨o.slots,k b o (λ z=>B (by simp [z])) e⟩) (λ _ _ _ _ n=>n)
  (λ b o B e=>⟨o,k b o (λ z=>B (by simp [z])) e⟩) (λ _ _ e=>e) (λ _ _ _ e=>e) (λ b ps e=>⟨#[],by rw [e];simp⟩) (λ m hm=> ?_) (λ b u e=> ?_) I.bare
 ·have e:b=it:=by simpa using hb
  subst e;exact ⟨h1,J,h2,h3⟩
 ·obtain ⟨o,es,ep,ho,r⟩:=hm;exact ⟨o,es,ep,k _ o (Ne.symm J) ho,r⟩
 ·refine (I.hok b u e).stay (λ c v B q=>k c v ?_ q) (λ _ q=>q) λ _ _ q=>q;rcases B with z | z
  ·rw [z];exact D b u e
  ·exact D c _ z
theorem Inv.tok (I:Inv X pins σ H s) (t:Nat):Inv X pins σ H {s with toks:=t}:=I.un (h':=s.heap) (t':=t) Un.refl I.hok
theorem Inv.kept {t':Nat} (I:Inv X pins σ H s) (k:∀ b u,s.heap.get? b=some u ->h'.get? b=some u):Inv X pins σ H {s with heap:=h',toks:=t'}:=I.un (Un.kept k) (I.hok.kept k)
theorem Inv.laid {a:Addr} {o:HO} {t':Nat} (I:Inv X pins σ H s) (k:∀ b u,s.heap.get? b=some u ->h'.get? b=some u) (hp:s.heap.objs.size<=a) (new:ObjOk X.prog X.w (upd H a o) h' a o):
  Inv X pins σ (upd H a o) {s with heap:=h',toks:=t'}:=I.un (Un.laid k hp (I.hok.fresh hp)) (I.hok.laid k hp new)
theorem Inv.write {x e:Addr} {o:HO} {t':Nat} (I:Inv X pins σ H s) (J:Mut (H x)) (D:e=x\/ H e=some (.own x)) (k:∀ b u,b≠e ->s.heap.get? b=some u ->h'.get? b=some u) (B:∃ u,h'.get? e=some u)
  (new:ObjOk X.prog X.w (upd H x o) h' x o):Inv X pins σ (upd H x o) {s with heap:=h',toks:=t'}:=I.un (Un.write J D k B) (I.hok.write J D k B new)
theorem Inv.qeq {B:List (Addr×Obj)} (I:Inv X pins σ H s) (h:∀ p∈B,s.heap.get? p.1=some p.2/\H p.1=none/\p.1≠X.env.locals/\p.1∉X.fs/\∀ v,p.2.data≠ .cell v):Inv X B σ H s:=
 ⟨I.ok,I.os,I.bare,I.base,I.loc,I.cell,I.free,I.freeC,λ p hp=>(z27.mp hp).elim (λ z=>I.pin p (z0t _ z)) (h p),I.hok,I.len⟩
theorem qcc {N:List Str} (hN:N.Nodup) {i j:Nat} {x:Str} (a:N[i]? =some x) (b:N[j]? =some x):i=j:=by
 obtain ⟨h1,e1⟩:=z06.mp a;obtain ⟨h2,e2⟩:=z06.mp b;exact (List.getElem_inj hN).mp (e1.trans e2.symm)
theorem qgo {M:Model} {A:Around} {E:Value ->Shared ->Prop} {i:Nat} {x:Str} {v:V} {u:Value} {Q:Unit ->Shared ->Prop} (I:Inv X pins σ H s) (hN:X.N.Nodup) (hi:X.N[i]? =some x) (O:Loc X.env.scope x) (r:RelV v u)
    (h:∀ s',Inv X pins (σ.set i (some v)) H s' ->(∃ a,Heap.SameBut a s.heap s'.heap/\(a=X.env.locals\/ X.env.cells.lookup x=some a)) ->Q () s') (hf:X.fn x=true\/ X.env.scope.names.lookup x=some .local:=by first | exact .inl rfl | exact .inr rfl | assumption):wpAny M A (storeName X.env x u) Q E s:=by
  obtain ⟨m,hn,hl⟩:=id I.loc;have a7:(X.env.scope.kind== .class || (X.env.scope.kind== .module&&X.env.locals !=X.env.globals))=false:=by rw [I.ok.kind];rfl
  have a8:i < σ.length:=by rw [I.len];exact (z06.mp hi).1
  have cne:=I.cne;have D:∀ {a:Addr} {h':Heap},(∃ o,s.heap.get? a=some o/\H a=none) ->Heap.SameBut a s.heap h' ->HOk X.prog X.w H h':=λ {a h'} ha B b ob e=>by
    obtain ⟨_,_,U⟩:=ha;refine (I.hok b ob e).stay (λ c w' J q=>(B.2 c ?_).trans q) (λ _ q=>q) λ _ _ q=>q;rintro rfl;rcases J with rfl | J
    · rw [U] at e;cases e
    · rw [U] at J;cases J
  rcases O with hk | hk
  · refine wpAny_storeName_local hk hn (λ h' hn' B=> ?_) a7
    obtain ⟨oL,_,_,b3,_⟩:=id hn;refine h _ ⟨I.ok,I.os,I.bare,⟨λ b o e n Y O=> ?_,λ b o e n Y O=> ?_,I.base.free,λ b o e O=> ?_,I.base.tups,I.base.frzs,I.base.tbls⟩,⟨_,hn',λ j y v' e1 e2 e3=> ?_⟩,λ y c e=> ?_,I.free,I.freeC,λ p hp=> ?_,D ⟨oL,b3,I.free⟩ B,by simpa using I.len⟩ ⟨_,B,.inl rfl⟩
    · exact (B.2 b (z33 (z1a (z32 e) I.ok.above))).trans (I.base.keep b o e n Y O)
    · obtain ⟨sl,e1⟩:=I.base.slot b o e n Y O
      exact ⟨sl,(B.2 b (z33 (z1a (z32 e) I.ok.above))).trans e1⟩
    · obtain ⟨o',e1⟩:=I.base.there b o e O
      exact ⟨o',(B.2 b (z33 (z1a (z32 e) I.ok.above))).trans e1⟩
    · by_cases hj:j=i
      · subst hj
        rw [hi] at e1;cases e1;rw [List.getElem?_set_self a8] at e2;cases e2
        exact ⟨u,r,.inl ⟨hk,by simp⟩⟩
      · rw [List.getElem?_set_ne (Ne.symm hj)] at e2
        obtain ⟨u',r',q⟩:=hl j y v' e1 e2 e3;refine ⟨u',r',?_⟩;rcases q with ⟨k,e⟩ | ⟨k,c,e,z⟩
        · refine .inl ⟨k,?_⟩
          have:y≠x:=λ e=>hj (qcc hN e1 (e ▸ hi));simp [this,e]
        · exact .inr ⟨k,c,e,z.sameBut B (cne y c e)⟩
    · obtain ⟨w',z⟩:=I.cell y c e
      exact ⟨w',z.sameBut B (cne y c e)⟩
    · obtain ⟨e,n,ne,nf,d⟩:=I.pin p hp
      exact ⟨(B.2 p.1 ne).trans e,n,ne,nf,d⟩
  · have Z:X.fn x=true:=by
      rcases hf with z | z
      · exact z
      · rw [z] at hk;cases hk
    obtain ⟨c,J⟩:=I.ok.has x (.inl hk);obtain ⟨w',z⟩:=I.cell x c J;refine wpAny_storeName_cell I.ok.kind hk J z (λ h' a0 B=> ?_);obtain ⟨oc,a9,b0⟩:=id z;refine h {s with heap:=h'} ⟨I.ok,I.os,I.bare,⟨λ b o e n Y O=> ?_,λ b o e n Y O=> ?_,I.base.free,λ b o e O=> ?_,I.base.tups,I.base.frzs,I.base.tbls⟩,⟨m,hn.sameBut B (Ne.symm (cne x c J)),λ j y v' e1 e2 e3=> ?_⟩,λ y c' e=> ?_,I.free,I.freeC,λ p hp=> ?_,D ⟨oc,a9,I.freeC x c J⟩ B,by simpa using I.len⟩ ⟨c,B,.inr J⟩
    · exact (B.2 b (z33 (z1a (z32 e) (I.ok.cab x c Z J)))).trans (I.base.keep b o e n Y O)
    · obtain ⟨sl,e1⟩:=I.base.slot b o e n Y O
      exact ⟨sl,(B.2 b (z33 (z1a (z32 e) (I.ok.cab x c Z J)))).trans e1⟩
    · obtain ⟨o',e1⟩:=I.base.there b o e O
      exact ⟨o',(B.2 b (z33 (z1a (z32 e) (I.ok.cab x c Z J)))).trans e1⟩
    · by_cases hj:j=i
      · subst hj
        rw [hi] at e1;cases e1;rw [List.getElem?_set_self a8] at e2;cases e2
        exact ⟨u,r,.inr ⟨.inl hk,c,J,a0⟩⟩
      · rw [List.getElem?_set_ne (Ne.symm hj)] at e2
        obtain ⟨u',r',q⟩:=hl j y v' e1 e2 e3;refine ⟨u',r',?_⟩;rcases q with q | ⟨k,c',e,z'⟩
        · exact .inl q
        · refine .inr ⟨k,c',e,z'.sameBut B ?_⟩
          rintro rfl;exact hj (qcc hN e1 (I.ok.inj _ _ _ e J ▸ hi))
    · by_cases a6:c'=c
      · subst a6;exact ⟨_,a0⟩
      · obtain ⟨w2,z2⟩:=I.cell y c' e
        exact ⟨w2,z2.sameBut B a6⟩
    · obtain ⟨e,n,ne,nf,d⟩:=I.pin p hp
      refine ⟨(B.2 p.1 ?_).trans e,n,ne,nf,d⟩;intro q;rw [q,a9] at e;have q':oc=p.2:=Option.some.inj e;exact d w' (by rw [<- q'];exact b0)
theorem q96 {M:Model} {A:Around} {E:Value ->Shared ->Prop} {i:Nat} {x:Str} {v:V} {u:Value} {Q:Unit ->Shared ->Prop} (I:Inv X pins σ H s) (hN:X.N.Nodup) (hi:X.N[i]? =some x) (hx:Loc X.env.scope x) (r:RelV v u)
  (h:∀ s',Inv X pins (σ.set i (some v)) H s' ->Q () s') (hf:X.fn x=true\/ X.env.scope.names.lookup x=some .local:=by first | exact .inl rfl | exact .inr rfl | assumption):wpAny M A (storeName X.env x u) Q E s:=
 qgo I hN hi hx r (λ s' I' _=>h s' I') hf
theorem Inv.call' {s':Shared} {ch:List Addr} (I:Inv X pins σ H s) (ho:s'.os=s.os) (u:Un (frs X.stack) ch H H' s.heap s'.heap) (hok:HOk X.prog X.w H' s'.heap) (hg:AllBare s'.gens)
  (B:∀ b∈ch,(b∈X.ex\/ X.s₀.heap.objs.size<=b)/\b≠X.env.locals/\(∀ x c,X.env.cells.lookup x=some c ->c≠b)/\∀ p∈X.pn++pins,p.1≠b):Inv X pins σ H' s':=by
 obtain ⟨h',g',d',t',o'⟩:=s';have e:o'=s.os:=ho;subst e;exact I.call (g':=g') (t':=t') (d':=d') u hok hg B
end
abbrev XK:=Value ->Option Addr ->Hp ->Prop
abbrev St:=List (Option V)
abbrev VK:=V ->Hp ->Prop
abbrev TE:=St ->Hp ->VK ->Prop
abbrev TT:=St ->Hp ->(Bool ->Hp ->Prop) ->Prop
abbrev TA:=St ->Hp ->(List V ->Hp ->Prop) ->Prop
structure Ends where
 nx:St ->Hp ->Prop
 rt:VK
 bk:St ->Hp ->Prop:=λ _ _=>False
 ct:St ->Hp ->Prop:=λ _ _=>False
abbrev TS:=Ends ->St ->Hp ->Prop
def EP (X:Cx) (pins:List (Addr×Obj)) (σ:St) (Q:VK) (u:Value) (s':Shared):Prop:=∃ v H',Inv X pins σ H' s'/\RelV v u/\Q v H'
def TP (X:Cx) (pins:List (Addr×Obj)) (σ:St) (Q:Bool ->Hp ->Prop) (b:Bool) (s':Shared):Prop:=∃ H',Inv X pins σ H' s'/\Q b H'
def AP (X:Cx) (pins:List (Addr×Obj)) (σ:St) (Q:List V ->Hp ->Prop) (us:List Value) (s':Shared):Prop:=∃ vs H',Inv X pins σ H' s'/\Vals vs us/\Q vs H'
def SP (X:Cx) (pins:List (Addr×Obj)) (D:Ends) (f:Flow) (s':Shared):Prop:=
 match f with
 | .next=>∃ σ' H',Inv X pins σ' H' s'/\D.nx σ' H'
 | .brk=>∃ σ' H',Inv X pins σ' H' s'/\D.bk σ' H'
 | .cont=>∃ σ' H',Inv X pins σ' H' s'/\D.ct σ' H'
 | .ret u=>∃ v σ' H',Inv X pins σ' H' s'/\RelV v u/\D.rt v H'
def PE (X:Cx) (e:Expr) (t:TE):Prop:=
 ∀ (pins:List (Addr×Obj)) (s:Shared) (σ:St) (H:Hp) (Q:VK),Inv X pins σ H s ->t σ H Q ->wpAny (model X.prog X.w) X.A (eval e X.env) (EP X pins σ Q) X.xe s
def PT (X:Cx) (e:Expr) (t:TT):Prop:=
 ∀ (pins:List (Addr×Obj)) (s:Shared) (σ:St) (H:Hp) (Q:Bool ->Hp ->Prop),Inv X pins σ H s ->t σ H Q ->wpAny (model X.prog X.w) X.A (isTrue e X.env (eval e X.env)) (TP X pins σ Q) X.xe s
def PW (X:Cx) (e:Expr) (t:TT):Prop:=
 ∀ (whole:Sem Value) (pins:List (Addr×Obj)) (s:Shared) (σ:St) (H:Hp) (Q:Bool ->Hp ->Prop),Inv X pins σ H s ->t σ H Q ->wpAny (model X.prog X.w) X.A (isTrue e X.env whole) (TP X pins σ Q) X.xe s
theorem PW.pt {X:Cx} {e:Expr} {t:TT} (h:PW X e t):PT X e t:=h _
def PA (X:Cx) (es:List Expr) (t:TA):Prop:=
 ∀ (pos:Pos) (pins:List (Addr×Obj)) (s:Shared) (σ:St) (H:Hp) (Q:List V ->Hp ->Prop),Inv X pins σ H s ->t σ H Q ->wpAny (model X.prog X.w) X.A (spliced (backTo pos (starEach es X.env))) (AP X pins σ Q) X.xe s
def PS (X:Cx) (st:Stmt) (t:TS):Prop:=
 ∀ (pins:List (Addr×Obj)) (s:Shared) (σ:St) (H:Hp) (D:Ends),Inv X pins σ H s ->t D σ H ->wpAny (model X.prog X.w) X.A (exec st X.env) (SP X pins D) X.xe s
def PSs (X:Cx) (st:List Stmt) (t:TS):Prop:=
 ∀ (pins:List (Addr×Obj)) (s:Shared) (σ:St) (H:Hp) (D:Ends),Inv X pins σ H s ->t D σ H ->wpAny (model X.prog X.w) X.A (execs st X.env) (SP X pins D) X.xe s
theorem thn {α:Type} {t:Sem α} {Q B:α ->Shared ->Prop} {M:Model} {A:Around} {E:Value ->Shared ->Prop} {s:Shared} (h:wpAny M A t Q E s) (hQ:∀ a s,Q a s ->B a s):wpAny M A t B E s:=z3i h hQ λ _ _ x=>x
section
variable {X:Cx}
def tVar (i:Nat):TE:=λ σ H Q=>∃ v,σ[i]? =some (some v)/\Q v H
def tC (v:V):TE:=λ _ H Q=>Q v H
theorem qn2 {i:Nat} {x:Str} {pos:Pos} (hN:X.N[i]? =some x) (hv:Vis X.env.scope x) (hd:(x==("__debug__":Str))=false:=by decide) (D:(x==("__classdict__":Str))=false:=by decide):PE X (.Name x pos) (tVar i):=by
 intro pins s σ H Q I h;obtain ⟨v,e,h⟩:=h;obtain ⟨m,hn,hl⟩:=I.loc;obtain ⟨u,r,l⟩:=hl i x v hN e hv;have fin:EP X pins σ Q u s:=⟨v,H,I,r,h⟩;rcases l with ⟨hk,hm⟩ | ⟨hk,c,J,B⟩
 ·exact wpAny_Name (wpAny_loadName_local I.ok.kind hk hn hm fin) hd
 ·rcases hk with hk | hk
  ·exact wpAny_Name (wpAny_loadName_cell I.ok.kind hk J B fin) hd
  ·exact wpAny_Name (wpAny_loadName_free I.ok.kind hk J B fin D) hd
theorem qc {i j pos}:PE X (.Constant (.int i) j pos) (tC (.int i)):=λ _ _ _ H _ I h=>wpAny_Constant_int ⟨.int i,H,I.tok _,⟨_,rfl⟩,h⟩
theorem q4f {b j pos}:PE X (.Constant (.bool b) j pos) (tC (.bl b)):=λ _ _ _ H _ I h=>Constant_bool ⟨.bl b,H,I,rfl,h⟩
theorem q4y {j pos}:PE X (.Constant .none j pos) (tC .non):=λ _ _ _ H _ I h=>Constant_none ⟨.non,H,I,rfl,h⟩
theorem q2i {x j pos}:PE X (.Constant (.str x) j pos) (tC (.str x)):=λ _ _ _ H _ I h=>Calls.Constant_str ⟨.str x,H,I.tok _,⟨_,rfl⟩,h⟩
def Gl (X:Cx) (x:Str):Prop:=X.env.kindOf x=some .globalImplicit
theorem qah {E:Value ->Shared ->Prop} {pins:List (Addr×Obj)} {s:Shared} {σ:St} {H:Hp} {x:Str} {u:Value} {pos:Pos} {Q:Value ->Shared ->Prop} (I:Inv X pins σ H s) (hg:Gl X x) (hm:X.mg x=some u) (h:Q u s)
  (hd:(x==("__debug__":Str))=false:=by decide):wpAny (model X.prog X.w) X.A (eval (.Name x pos) X.env) Q E s:=
 Calls.Name_function_global I.ok.kind hg (Calls.loadGlobal_global (by rw [I.ok.glob];exact I.mod.glob.keeps I.bk) hm h) hd
theorem q5m {E:Value ->Shared ->Prop} {pins:List (Addr×Obj)} {s:Shared} {σ:St} {H:Hp} {x:Str} {u:Value} {pos:Pos} {Q:Value ->Shared ->Prop} (I:Inv X pins σ H s) (hg:Gl X x) (hm:X.mg x=none) (hv:bootBuiltins x=some u) (h:Q u s)
  (hn:x≠"__name__":=by decide) (hd:(x==("__debug__":Str))=false:=by decide):wpAny (model X.prog X.w) X.A (eval (.Name x pos) X.env) Q E s:=by
 obtain ⟨mb,h1,h2⟩:=I.mod.blt;exact Calls.Name_function_global I.ok.kind hg (Calls.loadGlobal_builtin (by rw [I.ok.glob];exact I.mod.glob.keeps I.bk) hm (by rw [I.ok.blt];exact h1.keeps I.bk) ((h2 x hn).trans hv) h) hd
theorem qer {x:Str} {v:V} {u:Value} {pos:Pos} (hg:Gl X x) (hm:X.mg x=some u) (r:RelV v u) (hd:(x==("__debug__":Str))=false:=by decide):PE X (.Name x pos) (tC v):=
 λ _ _ _ H _ I h=>qah I hg hm ⟨v,H,I,r,h⟩ hd
theorem ql2 {x:Str} {v:V} {u:Value} {pos:Pos} (hg:Gl X x) (hm:X.mg x=none) (hv:bootBuiltins x=some u) (r:RelV v u) (hn:x≠"__name__":=by decide) (hd:(x==("__debug__":Str))=false:=by decide):PE X (.Name x pos) (tC v):=
 λ _ _ _ H _ I h=>q5m I hg hm hv ⟨v,H,I,r,h⟩ hn hd
variable {a b:Expr} {ta tb:TE} {pos:Pos}
def PC (X:Cx) (op:CmpOp) (a b:Expr) (t:TE):Prop:=
 ∀ (pins:List (Addr×Obj)) (s:Shared) (σ:St) (H:Hp) (Q:VK),Inv X pins σ H s ->t σ H Q ->
  wpAny (model X.prog X.w) X.A (eval a X.env) (λ v s₁=>wpAny (model X.prog X.w) X.A (eval b X.env) (λ u s₂=>wpAny (model X.prog X.w) X.A (compareOp op v u) (EP X pins σ Q) X.xe s₂) X.xe s₁) X.xe s
def tB (t:TE):TT:=λ σ H Q=>t σ H λ x H1=>∃ c,x= .bl c/\Q c H1
theorem qgp {op:CmpOp} {t:TE} (h:PC X op a b t) (h1:behindInMarks op b=false:=by first | exact nobehind _ (by decide) (by decide) | rfl):PT X (.Compare a [op] [b] pos) (tB t):=by
 intro pins s σ H Q I hw;refine wpAny_isTrue_Compare1 (thn (h pins s σ H _ I hw) λ v s1 h1=>thn h1 λ u s2 h2=>thn h2 λ c s3 B=> ?_) h1;obtain ⟨x,H1,I1,r1,q1⟩:=B;obtain ⟨d,rfl,q⟩:=q1;cases r1
 exact z1l ⟨H1,I1,q⟩
theorem q1s {e:Expr} {t:TE} (h:PE X e t) (he:∀ B,isTrue e X.env B=(do let v <- B;standAt e.pos;holding [v] (truthy v)):=by intro _;rfl):PT X e (tB t):=by
 intro pins s σ H Q I hw;refine isTrue_plain (thn (h pins s σ H _ I hw) λ v s1 D=> ?_) (he _);obtain ⟨x,H1,I1,r1,q1⟩:=D;obtain ⟨d,rfl,q⟩:=q1;cases r1
 exact z1l ⟨H1,I1,q⟩
variable {tA tB':TT} {rest:List Expr}
def tAnd (t u:TT):TT:=λ σ H Q=>t σ H λ c H1=>if c=true then u σ H1 Q else Q false H1
def tOr (t u:TT):TT:=λ σ H Q=>t σ H λ c H1=>if c=true then Q true H1 else u σ H1 Q
def tNot (t:TT):TT:=λ σ H Q=>t σ H λ c H1=>Q (!c) H1
theorem q8c (ha:PT X a tA):PW X (.BoolOp .And [a] pos) tA:=by
 intro wh pins s σ H Q I h;refine isTrue_and (thn (ha pins s σ H Q I h) λ c s1 e=> ?_);cases c with
 | true=>exact isTrue_and_nil e
 | false=>exact e
theorem q5n (ha:PT X a tA):PW X (.BoolOp .Or [a] pos) tA:=by
 intro wh pins s σ H Q I h;refine isTrue_or (thn (ha pins s σ H Q I h) λ c s1 e=> ?_);cases c with
 | false=>exact isTrue_or_nil e
 | true=>exact e
theorem q9l (ha:PT X a tA) (hb:PW X (.BoolOp .And (b::rest) pos) tB'):PW X (.BoolOp .And (a::b::rest) pos) (tAnd tA tB'):=by
 intro wh pins s σ H Q I h;refine isTrue_and (thn (ha pins s σ H _ I h) λ c s1 B=> ?_);obtain ⟨H1,I1,q1⟩:=B;cases c with
 | true=>exact hb wh pins s1 σ H1 Q I1 q1
 | false=>exact ⟨H1,I1,q1⟩
theorem q68 (ha:PT X a tA) (hb:PW X (.BoolOp .Or (b::rest) pos) tB'):PW X (.BoolOp .Or (a::b::rest) pos) (tOr tA tB'):=by
 intro wh pins s σ H Q I h;refine isTrue_or (thn (ha pins s σ H _ I h) λ c s1 B=> ?_);obtain ⟨H1,I1,q1⟩:=B;cases c with
 | true=>exact ⟨H1,I1,q1⟩
 | false=>exact hb wh pins s1 σ H1 Q I1 q1
theorem q33 (ha:PT X a tA):PT X (.UnaryOp .Not a pos) (tNot tA):=by
 intro pins s σ H Q I h;exact isTrue_not (ha pins s σ H (λ c H1=>Q (!c) H1) I h)
def qof (ta tb:TE):TE:=λ σ H Q=>ta σ H λ x H1=>∃ c,x= .bl c/\if c=true then tb σ H1 Q else Q (.bl false) H1
def qog (ta:TE):TE:=λ σ H Q=>ta σ H λ x H1=>∃ c,x= .bl c/\Q (.bl (!c)) H1
theorem qcd {op} {t:TE} (h:PE X a t):PE X (.BoolOp op [a] pos) t:=λ pins s σ H Q I hw=>BoolOp_one (h pins s σ H Q I hw)
theorem qce (ha:PE X a ta) (hb:PE X (.BoolOp .And (b::rest) pos) tb):PE X (.BoolOp .And (a::b::rest) pos) (qof ta tb):=by
 intro pins s σ H Q I h;refine BoolOp_and (thn (ha pins s σ H _ I h) λ v s1 B=> ?_);obtain ⟨x,H1,I1,r1,q1⟩:=B;obtain ⟨c,rfl,q1⟩:=q1;cases r1
 refine z1l ?_;cases c with
 | true=>exact hb pins s1 σ H1 Q I1 q1
 | false=>exact ⟨.bl false,H1,I1,rfl,q1⟩
theorem qn3 (ha:PE X a ta):PE X (.UnaryOp .Not a pos) (qog ta):=by
 intro pins s σ H Q I h;refine UnaryOp_ (thn (ha pins s σ H _ I h) λ v s1 B=> ?_);obtain ⟨x,H1,I1,r1,q1⟩:=B;obtain ⟨c,rfl,q1⟩:=q1;cases r1
 exact not_of (z1l ⟨.bl (!c),H1,I1,zr,q1⟩)
def tIf (t:TT) (ta tb:TE):TE:=λ σ H Q=>t σ H λ c H1=>if c=true then ta σ H1 Q else tb σ H1 Q
theorem qis {c:Expr} (hc:PT X c tA) (ha:PE X a ta) (hb:PE X b tb):PE X (.IfExp c a b pos) (tIf tA ta tb):=by
 intro pins s σ H Q I h;refine wpAny_IfExp (thn (hc pins s σ H _ I h) λ d s1 B=> ?_);obtain ⟨H1,I1,q1⟩:=B;cases d with
 | true=>exact ha pins s1 σ H1 Q I1 q1
 | false=>exact hb pins s1 σ H1 Q I1 q1
end
def SqL (K:PySem.W.Frag) (H:Hp) (a:Addr) (xs:List V):Prop:=
 Rd H a (.lst xs)\/
  ∃ (o:Obj) (its:Array Value) (n:Nat),K.lookup a=some o/\o.cls= .type "list"/\o.dict=none/\o.data= .seq its n/\its.size<=sizeLine/\Vals xs its.toList
def SqT (K:PySem.W.Frag) (H:Hp) (a:Addr) (xs:List V):Prop:=
 Rd H a (.tup xs)\/
  ∃ (o:Obj) (its:Array Value) (n:Nat),K.lookup a=some o/\o.cls= .type "tuple"/\o.data= .seq its n/\its.size<=sizeLine/\Vals xs its.toList
def absV:Value ->Option V
 | .none=>some .non
 | .bool b=>some (.bl b)
 | .int i _=>some (.int i)
 | .str x _=>some (.str x)
 | .bytes b _=>some (.byt b)
 | .float b _=>some (.flt b)
 | .ref a=>some (.ref a)
 | .type n=>some (.ty n)
 | _=>none
theorem RelV.abs {x:V} {u:Value} (r:RelV x u):absV u=some x:=by
 cases x with
 | non=>cases r;rfl
 | bl _=>cases r;rfl
 | int _=>obtain ⟨t,rfl⟩:=r;rfl
 | str _=>obtain ⟨t,rfl⟩:=r;rfl
 | byt _=>obtain ⟨t,rfl⟩:=r;rfl
 | flt _=>obtain ⟨t,rfl⟩:=r;rfl
 | ref _=>cases r;rfl
 | ty _=>cases r;rfl
theorem RelV.inj {x y:V} {u:Value} (r:RelV x u) (q:RelV y u):x=y:=Option.some.inj (r.abs.symm.trans q.abs)
theorem Vals.inj:∀ {xs ys:List V} {us:List Value},Vals xs us ->Vals ys us ->xs=ys
 | _,_,_,.nil,.nil=>rfl
 | _,_,_,.cons r t,.cons r' t'=>by rw [r.inj r',Vals.inj t t']
section
variable {X:Cx} {pins:List (Addr×Obj)} {σ:St} {H:Hp} {s:Shared} {a:Addr} {xs ys:List V}
theorem SqL.of {K:PySem.W.Frag} (h:H a=some (.lst xs)):SqL K H a xs:= .inl (.inl h)
theorem SqT.of {K:PySem.W.Frag} (h:H a=some (.tup xs)):SqT K H a xs:= .inl (.inl h)
theorem Inv.list (I:Inv X pins σ H s) (h:SqL X.K H a xs):∃ its:List Value,Vals xs its/\PlainL s.heap a its.toArray/\xs.length<=sizeLine:=by
 rcases h with h | ⟨o,its,n,hk,hc,hd,hs,hz,r⟩
 ·obtain ⟨z,its,n,r,e⟩:=h.ok I.hok;exact ⟨its,r,⟨_,n,e,zr,zr,zr⟩,z⟩
 ·refine ⟨its.toList,r,⟨o,n,I.kIn a o hk,hc,hd,by simpa using hs⟩,?_⟩;have e:=r.length;simp only [z0v] at e;omega
theorem Inv.tuple (I:Inv X pins σ H s) (h:SqT X.K H a xs):∃ its:List Value,Vals xs its/\IsTup s.heap a its.toArray/\xs.length<=sizeLine:=by
 rcases h with h | ⟨o,its,n,hk,hc,hs,hz,r⟩
 ·obtain ⟨z,its,r,p⟩:=h.ok I.hok;exact ⟨its,r,p,z⟩
 ·refine ⟨its.toList,r,⟨o,I.kIn a o hk,hc,n,by simpa using hs⟩,?_⟩;have e:=r.length;simp only [z0v] at e;omega
theorem Inv.qit (I:Inv X pins σ H s) (h:SqL X.K H a xs) (h':SqL X.K H a ys):xs=ys:=by
 obtain ⟨its,r,⟨o,n,e,_,_,d⟩,_⟩:=I.list h;obtain ⟨its',r',⟨o',n',e',_,_,d'⟩,_⟩:=I.list h';rw [e] at e';cases e';rw [d] at d';injection d' with d1 _;have:its=its':=by simpa using congrArg Array.toList d1
 subst this;exact r.inj r'
theorem Inv.q69 (I:Inv X pins σ H s) (h:SqT X.K H a xs) (h':SqT X.K H a ys):xs=ys:=by
 obtain ⟨its,r,⟨o,e,_,n,d⟩,_⟩:=I.tuple h;obtain ⟨its',r',⟨o',e',_,n',d'⟩,_⟩:=I.tuple h';rw [e] at e';cases e';rw [d] at d';injection d' with d1 _;have:its=its':=by simpa using congrArg Array.toList d1
 subst this;exact r.inj r'
end
abbrev Cx.wish (X:Cx) (E:Value ->Shared ->Prop):Cx:={X with xe:=E}
abbrev Cx.nox (X:Cx):Cx:=X.wish λ _ _=>False
theorem Cx.Ok.wish {X:Cx} (ok:X.Ok) (E:Value ->Shared ->Prop):(X.wish E).Ok:=
 ⟨ok.mod,ok.kind,ok.glob,ok.blt,ok.above,ok.inj,ok.has,ok.cab,ok.hd,ok.frames,ok.stk,ok.exf,ok.bs,ok.bsz,ok.noex,ok.exfs,ok.funs,ok.frf⟩
theorem Cx.Ok.unwish {X:Cx} {E:Value ->Shared ->Prop} (ok:(X.wish E).Ok):X.Ok:=
 ⟨ok.mod,ok.kind,ok.glob,ok.blt,ok.above,ok.inj,ok.has,ok.cab,ok.hd,ok.frames,ok.stk,ok.exf,ok.bs,ok.bsz,ok.noex,ok.exfs,ok.funs,ok.frf⟩
section
variable {X:Cx} {pins:List (Addr×Obj)} {σ:St} {H:Hp} {s:Shared} {E:Value ->Shared ->Prop}
theorem Inv.wish (I:Inv X pins σ H s) (E:Value ->Shared ->Prop):Inv (X.wish E) pins σ H s:=⟨I.ok.wish E,I.os,I.bare,I.base,I.loc,I.cell,I.free,I.freeC,I.pin,I.hok,I.len⟩
theorem Inv.unwish (I:Inv (X.wish E) pins σ H s):Inv X pins σ H s:=⟨I.ok.unwish,I.os,I.bare,I.base,I.loc,I.cell,I.free,I.freeC,I.pin,I.hok,I.len⟩
theorem SP.unwish {D:Ends} {f:Flow} {s':Shared} (h:SP (X.wish E) pins D f s'):SP X pins D f s':=by
 cases f with
 | next=>obtain ⟨σ',H',I,q⟩:=h;exact ⟨σ',H',I.unwish,q⟩
 | brk=>obtain ⟨σ',H',I,q⟩:=h;exact ⟨σ',H',I.unwish,q⟩
 | cont=>obtain ⟨σ',H',I,q⟩:=h;exact ⟨σ',H',I.unwish,q⟩
 | ret u=>obtain ⟨v,σ',H',I,r,q⟩:=h;exact ⟨v,σ',H',I.unwish,r,q⟩
theorem PSs.nox {st:List Stmt} {t:TS} (h:PSs X.nox st t):PSs X st t:=λ pins s σ H D I hw=>
 z3i (h pins s σ H D (I.wish _) hw) (λ _ _ q=>q.unwish) λ _ _ z=>False.elim z
end
section
variable {X:Cx} {st:Stmt} {rest:List Stmt} {t u:TS} {e:Expr} {te:TE} {pos:Pos}
def qkn:TS:=λ D σ H=>D.nx σ H
def tSeq (t u:TS):TS:=λ D σ H=>t {D with nx:=u D} σ H
theorem q11:PSs X [] qkn:=λ _ _ σ H _ I h=>wpAny_execs_nil ⟨σ,H,I,h⟩
theorem qy (h1:PS X st t) (h2:PSs X rest u):PSs X (st::rest) (tSeq t u):=by
 intro pins s σ H D I h;refine wpAny_execs_cons (thn (h1 pins s σ H {D with nx:=u D} I h) λ f s1 q=> ?_);cases f with
 | next=>
  obtain ⟨σ',H',I',q⟩:=q;exact h2 pins s1 σ' H' D I' q
 | ret v=>exact q
 | brk=>exact q
 | cont=>exact q
theorem qi (h1:PS X st t):PSs X [st] t:=by
 intro pins s σ H D I h;refine wpAny_execs_cons (thn (h1 pins s σ H D I h) λ f s1 q=> ?_);cases f with
 | next=>exact wpAny_execs_nil q
 | ret v=>exact q
 | brk=>exact q
 | cont=>exact q
theorem Inv.quiet {pins:List (Addr×Obj)} {σ:St} {H:Hp} {s:Shared} (I:Inv X pins σ H s):interactive X.env=false:=by simp [interactive,I.ok.kind]
def qoh (te:TE):TS:=λ D σ H=>te σ H λ _ H1=>D.nx σ H1
theorem q2n (he:PE X e te) (hs:swapsWith e none pos.line X.env=pure false:=by rfl):PS X (.Expr e pos) (qoh te):=by
 intro pins s σ H D I h;exact wpAny_Expr_any (thn (he pins s σ H _ I h) λ v s1 ⟨x,H1,I1,r1,q1⟩=>⟨σ,H1,I1,q1⟩) I.quiet hs
def tRet (te:TE):TS:=λ D σ H=>te σ H D.rt
theorem qt (he:PE X e te):PS X (.Return (some e) pos) (tRet te):=by
 intro pins s σ H D I h;exact wpAny_Return_some (thn (he pins s σ H _ I h) λ v s1 ⟨x,H1,I1,r1,q1⟩=>⟨x,σ,H1,I1,r1,q1⟩)
def qoi:TS:=λ D _ H=>D.rt .non H
theorem ql3:PS X (.Return none pos) qoi:=λ _ _ σ H _ I h=>wpAny_Return_none ⟨.non,σ,H,I,rfl,h⟩
def tIfS (c:TT) (t u:TS):TS:=λ D σ H=>c σ H λ b H1=>if b=true then t D σ H1 else u D σ H1
theorem q1e {c:Expr} {a b:List Stmt} {tc:TT} (hc:PT X c tc) (ha:PSs X a t) (hb:PSs X b u):PS X (.If c a b pos) (tIfS tc t u):=by
 intro pins s σ H D I h;refine wpAny_If (thn (hc pins s σ H _ I h) λ d s1 B=> ?_);obtain ⟨H1,I1,q1⟩:=B;cases d with
 | true=>exact ha pins s1 σ H1 D I1 q1
 | false=>exact hb pins s1 σ H1 D I1 q1
end
abbrev TG:=V ->St ->Hp ->(St ->Hp ->Prop) ->Prop
abbrev TGs:=List V ->St ->Hp ->(St ->Hp ->Prop) ->Prop
def PG (X:Cx) (target:Expr) (t:TG):Prop:=
 ∀ (pins:List (Addr×Obj)) (s:Shared) (σ:St) (H:Hp) (v:V) (u:Value) (Q:St ->Hp ->Prop),Inv X pins σ H s ->RelV v u ->t v σ H Q ->
  wpAny (model X.prog X.w) X.A (assign target X.env u) (λ _ s'=>∃ σ' H',Inv X pins σ' H' s'/\Q σ' H') X.xe s
def PGs (X:Cx) (ts:List Expr) (t:TGs):Prop:=
 ∀ (pins:List (Addr×Obj)) (s:Shared) (σ:St) (H:Hp) (vs:List V) (us:List Value) (Q:St ->Hp ->Prop),Inv X pins σ H s ->Vals vs us ->t vs σ H Q ->
  wpAny (model X.prog X.w) X.A (assignInOrder ((assignEach ts X.env).map (·.2)) us) (λ _ s'=>∃ σ' H',Inv X pins σ' H' s'/\Q σ' H') X.xe s
section
variable {X:Cx} {pos:Pos}
def qc1 (i:Nat):TG:=λ v σ H Q=>Q (σ.set i (some v)) H
theorem qq {i:Nat} {x:Str} (hN:X.N.Nodup) (hi:X.N[i]? =some x) (hx:Loc X.env.scope x) (hf:X.fn x=true\/ X.env.scope.names.lookup x=some .local:=by first | exact .inl rfl | exact .inr rfl | assumption):PG X (.Name x pos) (qc1 i):=by
 intro pins s σ H v u Q I r h;exact wpAny_assign_Name (q96 I hN hi hx r (λ s' I'=>⟨_,H,I',h⟩) hf)
def gNil:TGs:=λ vs σ H Q=>vs=[]/\Q σ H
def qoj (t:TG) (u:TGs):TGs:=λ vs σ H Q=>∃ v r,vs=v::r/\t v σ H λ σ' H'=>u r σ' H' Q
theorem q34:PGs X [] gNil:=by
 intro pins s σ H vs us Q I r h;obtain ⟨e,h⟩:=h;subst e;cases r
 exact assignInOrder_nil ⟨σ,H,I,h⟩
theorem q1g {e:Expr} {es:List Expr} {t:TG} {u:TGs} (h1:PG X e t) (h2:PGs X es u)
  (hs:(assignEach (e::es) X.env).map (·.2)=assign e X.env::(assignEach es X.env).map (·.2):=by rfl):PGs X (e::es) (qoj t u):=by
 intro pins s σ H vs us Q I r h;obtain ⟨v,vr,e1,h⟩:=h;subst e1;cases r with
 | cons r rr=>
  rw [hs];refine assignInOrder_cons (thn (h1 pins s σ H _ _ _ I r h) λ _ s1 B=> ?_);obtain ⟨σ1,H1,I1,q1⟩:=B;exact h2 pins s1 σ1 H1 _ _ Q I1 rr q1
def gTup (K:PySem.W.Frag) (n:Nat) (t:TGs):TG:=λ v σ H Q=>∃ a xs,v= .ref a/\SqT K H a xs/\xs.length=n/\t xs σ H Q
theorem q43 {es:List Expr} {k:Nat} {t:TGs} {n:Nat} (hc:X.calm=true) (h:PGs X es t)
  (hn:(assignEach es X.env).length=n:=by rfl) (B:(assignEach es X.env).findIdx? (·.1)=none:=by rfl):PG X (.Tuple es k pos) (gTup X.K n t):=by
 intro pins s σ H v u Q I r hw;obtain ⟨a,xs,e1,hq,hl,hw⟩:=hw;subst e1;cases r
 obtain ⟨its,rv,ht,hz⟩:=I.tuple hq;refine assign_Tuple_tuple (I.ok.hd hc) ht (by simp [hn,<- hl,rv.length]) B λ h' hx=> ?_;have I1:Inv X pins σ H {s with heap:=h'}:=I.kept (t':=s.toks) λ b o e=>hx b o (z33 (z32 e)) e;exact h pins _ σ H xs _ Q I1 (by simpa using rv) hw
def tAsg (te:TE) (g:TG):TS:=λ D σ H=>te σ H λ x H1=>g x σ H1 D.nx
theorem qgq {tg e:Expr} {te:TE} {g:TG} (he:PE X e te) (hg:PG X tg g) (hs:swapsWithSole [tg] e pos.line X.env=pure false:=by rfl) (hw:swappedStores [tg] e X.env=pure none:=by rfl)
  (h1:(assignEach [tg] X.env).map (·.2)=[assign tg X.env]:=by rfl):PS X (.Assign [tg] e pos) (tAsg te g):=by
 intro pins s σ H D I h;refine wpAny_Assign_stores (thn (he pins s σ H _ I h) λ v s1 B=> ?_) hs hw;obtain ⟨x,H1,I1,r1,q1⟩:=B;rw [h1];exact thn (hg pins s1 σ H1 x v _ I1 r1 q1) λ _ s2 q=>q
theorem qo {i:Nat} {x:Str} {e:Expr} {te:TE} {pos':Pos} (hN:X.N.Nodup) (hi:X.N[i]? =some x) (hx:Loc X.env.scope x) (he:PE X e te) (hs:swapsWith e (some (.Name x pos')) pos.line X.env=pure false:=by rfl) (hf:X.fn x=true\/ X.env.scope.names.lookup x=some .local:=by first | exact .inl rfl | exact .inr rfl | assumption):
  PS X (.Assign [.Name x pos'] e pos) (tAsg te (qc1 i)):=by
 intro pins s σ H D I h;refine wpAny_Assign_Name (thn (he pins s σ H _ I h) λ v s1 B=> ?_) hs;obtain ⟨y,H1,I1,r1,q1⟩:=B;exact q96 I1 hN hi hx r1 (λ s2 I2=>⟨_,H1,I2,q1⟩) hf
end
section
variable {X:Cx} {pos:Pos}
def qn4 (c:TT) (tb:TS):TS:=λ D σ H=>∃ W:Nat ->St ->Hp ->Prop,(∃ m,W m σ H)/\∀ m σ H,W m σ H ->
 c σ H λ b H1=>if b=true then ∃ N:St ->Hp ->Prop,(∀ σ' H',N σ' H' ->∃ m',m' < m/\W m' σ' H')/\tb {D with nx:=N,ct:=N,bk:=D.nx} σ H1 else D.nx σ H1
theorem qiu {c:Expr} {body:List Stmt} {tc:TT} {tb:TS} (hp:PassesOwn (model X.prog X.w) X.A X.env X.xe) (hc:PT X c tc) (hb:PSs X body tb):PS X (.While c body [] pos) (qn4 tc tb):=by
 intro pins s σ H D I h;obtain ⟨W,⟨m0,w0⟩,turn⟩:=h;refine wpAny_While (codeAny_whileLoop (λ n s'=>∃ σ' H',Inv X pins σ' H' s'/\W n σ' H') ?_ m0 ⟨σ,H,I,w0⟩);rintro n s1 ⟨σ1,H1,I1,w1⟩;refine z2a hp (thn (hc pins s1 σ1 H1 _ I1 (turn n σ1 H1 w1)) λ b s2 U=> ?_);obtain ⟨H2,I2,q2⟩:=U;cases b with
 | true=>
  obtain ⟨N,Y,q2⟩:=q2;rw [if_pos rfl];refine z2a hp (thn (hb pins s2 σ1 H2 _ I2 q2) λ f s3 q3=> ?_);cases f with
  | next=>
   obtain ⟨σ3,H3,I3,J⟩:=q3;obtain ⟨B,hm,O⟩:=Y σ3 H3 J;exact ⟨B,hm,σ3,H3,I3,O⟩
  | cont=>
   obtain ⟨σ3,H3,I3,J⟩:=q3;obtain ⟨B,hm,O⟩:=Y σ3 H3 J;exact ⟨B,hm,σ3,H3,I3,O⟩
  | brk=>exact q3
  | ret v=>exact q3
 | false=>
  rw [if_neg z15];exact wpAny_execs_nil ⟨σ1,H2,I2,q2⟩
end
structure It where
 go:Nat ->Hp ->Prop
 yld:Nat ->Hp ->V ->Hp ->Prop
 stop:Nat ->Hp ->Prop
def FpOk (X:Cx) (pins:List (Addr×Obj)) (H:Hp) (b:Addr):Prop:=
 H b=none/\b≠X.env.locals/\b∉X.fs/\(b∈X.ex\/ X.s₀.heap.objs.size<=b)/\(∀ x c,X.env.cells.lookup x=some c ->c≠b)/\∀ p∈X.pn++pins,p.1≠b
theorem Inv.fpOk {X:Cx} {pins:List (Addr×Obj)} {σ:St} {H H':Hp} {s:Shared} {b:Addr} (I:Inv X pins σ H s) (B:s.heap.objs.size<=b) (hn:H' b=none):FpOk X pins H' b:=by
 refine ⟨hn,z35 (z1a I.lt B),I.nofs B,.inr (z34 I.sz B),λ x c e z=> ?_,λ p hp z=> ?_⟩
 ·obtain ⟨v,q⟩:=I.cell x c e;exact absurd (z1a q.lt (by rw [z];exact B)) (z2x _)
 ·exact absurd (z1a (z32 (I.pin p hp).1) (by rw [z];exact B)) (z2x _)
structure Turn (P:Program) (w:World) (K:PySem.W.Frag) (tg:Expr) (J:It) (fp:List Addr) (it:Addr) (tn:Nat ->Heap ->Prop):Prop where
 mem:it∈fp
 obj:∀ i h,tn i h ->∀ b∈fp,∃ o,h.get? b=some o/\∀ v,o.data≠ .cell v
 keep:∀ i h h',tn i h ->(∀ b∈fp,∀ o,h.get? b=some o ->h'.get? b=some o) ->tn i h'
 item:∀ (X:Cx),X.prog=P ->X.w=w ->X.K=K ->X.calm=true ->∀ (i:Nat) (pins:List (Addr×Obj)) (s:Shared) (σ:St) (H:Hp) (E:Value ->Shared ->Prop),Inv X pins σ H s ->(∀ b∈fp,FpOk X pins H b) ->tn i s.heap ->J.go i H ->
  wpAny (model P w) X.A (pyNext (.ref it)) (λ r s1=>∃ u,r=some u/\
   wpAny (model P w) X.A (letOwnedTupleGo tg (.ref it) u) (λ _ s2=>∃ x H',Inv X pins σ H' s2/\RelV x u/\J.yld i H x H'/\tn (i+1) s2.heap/\∀ b∈fp,H' b=none) E s1) E s
 done:∀ (X:Cx),X.prog=P ->X.w=w ->X.K=K ->X.calm=true ->∀ (i:Nat) (pins:List (Addr×Obj)) (s:Shared) (σ:St) (H:Hp) (E:Value ->Shared ->Prop),Inv X pins σ H s ->(∀ b∈fp,FpOk X pins H b) ->tn i s.heap ->J.stop i H ->
  wpAny (model P w) X.A (pyNext (.ref it)) (λ r s1=>r=none/\Inv X pins σ H s1) E s
 self:∀ (A:Around) (i:Nat) (s:Shared) (Q:Value ->Shared ->Prop) (E:Value ->Shared ->Prop),tn i s.heap ->Q (.ref it) s ->wpAny (model P w) A (pyIter (.ref it)) Q E s
abbrev TI:=St ->Hp ->(It ->Hp ->Prop) ->Prop
def PIE (X:Cx) (pins:List (Addr×Obj)) (σ:St) (tg:Expr) (R:It ->Hp ->Prop) (itv:Value) (s2:Shared):Prop:=
 ∃ (it:Addr) (fp:List Addr) (tn:Nat ->Heap ->Prop) (J:It) (H':Hp),itv= .ref it/\Inv X pins σ H' s2/\Turn X.prog X.w X.K tg J fp it tn/\tn 0 s2.heap/\(∀ b∈fp,FpOk X pins H' b)/\R J H'
def PI (X:Cx) (tg iter:Expr) (wi:TI):Prop:=
 ∀ (pins:List (Addr×Obj)) (s:Shared) (σ:St) (H:Hp) (R:It ->Hp ->Prop),Inv X pins σ H s ->wi σ H R ->
  wpAny (model X.prog X.w) X.A (eval iter X.env) (λ v s1=>wpAny (model X.prog X.w) X.A (pyIter v) (PIE X pins σ tg R) X.xe s1) X.xe s
theorem qc2 {M:Model} {A:Around} {E:Value ->Shared ->Prop} {s:Shared} {tg:Expr} {it:Addr} {u:Value} {o:Obj} {n:String} {vs:Array Value} {Q:Unit ->Shared ->Prop} (ho:s.heap.get? it=some o) (hc:o.cls= .type n) (hd:o.data= .fields vs)
    (hn: ["enumerate","zip","dict_itemiterator","dict_reverseitemiterator","odict_iterator","itertools.zip_longest","itertools.pairwise"].contains n=false) (B:Q () s):wpAny M A (letOwnedTupleGo tg (.ref it) u) Q E s:=by
  unfold letOwnedTupleGo;cases tg <;> first
    | exact z3g B
    | (cases u <;> first
        | exact z3g B
        | (refine z3h (wpAny_load ho ?_)
           rw [hc,hd];show wpAny M A (if (["enumerate","zip","dict_itemiterator","dict_reverseitemiterator","odict_iterator","itertools.zip_longest","itertools.pairwise"].contains n&&vs[0]? ==some (rawInt _))=true then _ else _) Q E s;rw [if_neg (by intro h;rw [hn,z2o] at h;cases h)];exact z3g B))
def Itl (K:PySem.W.Frag) (a:Addr):It:=
 ⟨λ i H=>∃ xs x,SqL K H a xs/\xs[i]? =some x,λ i H x H'=>H'=H/\∀ xs,SqL K H a xs ->xs[i]? =some x,λ i H=>∃ xs,SqL K H a xs/\xs.length<=i⟩
def Itt (K:PySem.W.Frag) (a:Addr):It:=
 ⟨λ i H=>∃ xs x,SqT K H a xs/\xs[i]? =some x,λ i H x H'=>H'=H/\∀ xs,SqT K H a xs ->xs[i]? =some x,λ i H=>∃ xs,SqT K H a xs/\xs.length<=i⟩
def Itr (lo:Int) (n:Nat):It:=⟨λ i _=>i < n,λ i H x H'=>H'=H/\x= .int (lo+i),λ i _=>n<=i⟩
theorem qgr {P:Program} {w:World} {K:PySem.W.Frag} {tg:Expr} (a it:Addr):Turn P w K tg (Itl K a) [it] it (λ i h=>h.IsListIter it a i) where
 mem:=by simp
 obj:=λ i h st b B=>by
  have e:b=it:=by simpa using B
  subst e;obtain ⟨o,e,c,d⟩:=st;exact ⟨o,e,λ v z=>by rw [d] at z;cases z⟩
 keep:=λ i h h' st k=>st.at λ o e=>k it (by simp) o e
 item:=by
  intro X Y hw U hc i pins s σ H E I J st Z;subst Y hw U;obtain ⟨xs,x,hq,hx⟩:=Z;obtain ⟨its,rv,p,hz⟩:=I.list hq;obtain ⟨u,hu,ru⟩:=rv.get hx;obtain ⟨O,f1,f2,f3,f4,f5⟩:=J it (by simp);refine wpAny_pyNext_list_item st p.isList (x:=u) (by simpa using hu) λ h' D sb=> ?_;have I1:Inv X pins σ H {s with heap:=h'}:=I.turned (t':=s.toks) (λ b o B e=>(sb.2 b B).trans e) O f1 f3 f4 f5;obtain ⟨o,e,c,d⟩:=id D;exact ⟨u,rfl,qc2 (s:={s with heap:=h'}) e c d (by decide) ⟨x,H,I1,ru,⟨rfl,λ ys hy=>by rw [I.qit hy hq];exact hx⟩,D,λ b B=>(J b B).1⟩⟩
 done:=by
  intro X Y hw U hc i pins s σ H E I J st Z;subst Y hw U;obtain ⟨xs,hq,hx⟩:=Z;obtain ⟨its,rv,p,hz⟩:=I.list hq;obtain ⟨O,f1,f2,f3,f4,f5⟩:=J it (by simp);have hl:=rv.length;exact wpAny_pyNext_list_end (I.ok.hd hc) st p.isList (by simp;omega) λ h' eb=>⟨rfl,I.turned (t':=s.toks) (λ b o B e=>eb b o B e) O f1 f3 f4 f5⟩
 self:=λ _ _ _ _ _ st h=>wpAny_pyIter_listiter st h
theorem qfm {P:Program} {w:World} {K:PySem.W.Frag} {tg:Expr} (a it:Addr):Turn P w K tg (Itt K a) [it] it (λ i h=>h.IsTupleIter it a i) where
 mem:=by simp
 obj:=λ i h st b B=>by
  have e:b=it:=by simpa using B
  subst e;obtain ⟨o,e,c,d⟩:=st;exact ⟨o,e,λ v z=>by rw [d] at z;cases z⟩
 keep:=λ i h h' st k=>st.at λ o e=>k it (by simp) o e
 item:=by
  intro X Y hw U hc i pins s σ H E I J st Z;subst Y hw U;obtain ⟨xs,x,hq,hx⟩:=Z;obtain ⟨its,rv,p,hz⟩:=I.tuple hq;obtain ⟨u,hu,ru⟩:=rv.get hx;obtain ⟨O,f1,f2,f3,f4,f5⟩:=J it (by simp);refine wpAny_pyNext_tuple_item st (show s.heap.IsTuple a its.toArray from p) (x:=u) (by simpa using hu) λ h' D sb=> ?_;have I1:Inv X pins σ H {s with heap:=h'}:=I.turned (t':=s.toks) (λ b o B e=>(sb.2 b B).trans e) O f1 f3 f4 f5;obtain ⟨o,e,c,d⟩:=id D;exact ⟨u,rfl,qc2 (s:={s with heap:=h'}) e c d (by decide) ⟨x,H,I1,ru,⟨rfl,λ ys hy=>by rw [I.q69 hy hq];exact hx⟩,D,λ b B=>(J b B).1⟩⟩
 done:=by
  intro X Y hw U hc i pins s σ H E I J st Z;subst Y hw U;obtain ⟨xs,hq,hx⟩:=Z;obtain ⟨its,rv,p,hz⟩:=I.tuple hq;obtain ⟨O,f1,f2,f3,f4,f5⟩:=J it (by simp);have hl:=rv.length;exact wpAny_pyNext_tuple_end (I.ok.hd hc) st (show s.heap.IsTuple a its.toArray from p) (by simp;omega) λ h' eb=>⟨rfl,I.turned (t':=s.toks) (λ b o B e=>eb b o B e) O f1 f3 f4 f5⟩
 self:=λ _ _ _ _ _ st h=>wpAny_pyIter_tupleiter st h
theorem qfn {P:Program} {w:World} {K:PySem.W.Frag} {tg:Expr} (it:Addr) (lo:Int) (n:Nat):Turn P w K tg (Itr lo n) [it] it (λ i h=>IsRangeIter h it (lo+(i:Nat)*1) ((n:Int) - (i:Nat)) 1) where
 mem:=by simp
 obj:=λ i h st b B=>by
  have e:b=it:=by simpa using B
  subst e;exact ⟨_,st,λ v z=>by
   have z':Data.fields _=Data.cell v:=z;cases z'⟩
 keep:=λ i h h' st k=>k it (by simp) _ st
 item:=by
  intro X Y hw U Z i pins s σ H E I J st hg;subst Y hw U;obtain ⟨O,f1,f2,f3,f4,f5⟩:=J it (by simp);have W:=Walks.range (prog:=X.prog) (w:=X.w) (I.ok.hd Z) it lo 1 n;refine W.item i s _ _ hg st λ v h' tk hv D kk=> ?_;obtain ⟨t,rfl⟩:=hv;have I1:Inv X pins σ H {s with heap:=h',toks:=tk}:=I.turned (λ b o B e=>kk b o (by simpa using B) e) O f1 f3 f4 f5;refine ⟨_,rfl,qc2 (s:={s with heap:=h',toks:=tk}) (n:="range_iterator") D rfl rfl (by decide) ⟨.int (lo+i),H,I1,⟨t,?_⟩,⟨rfl,rfl⟩,D,λ b B=>(J b B).1⟩⟩;rw [Int.mul_one]
 done:=by
  intro X Y hw U Z i pins s σ H E I J st hg;subst Y hw U;obtain ⟨O,f1,f2,f3,f4,f5⟩:=J it (by simp);exact wpAny_pyNext_range_end (I.ok.hd Z) st (by have:n<=i:=hg;omega) λ h' eb=>⟨rfl,I.turned (t':=s.toks) (λ b o B e=>eb b o B e) O f1 f3 f4 f5⟩
 self:=λ _ _ _ _ _ st h=>wpAny_pyIter_rangeiter st h
section
variable {X:Cx} {tg:Expr}
def qko (K:PySem.W.Frag) (tl:TE):TI:=λ σ H R=>tl σ H λ x H1=>∃ a,x= .ref a/\(∃ xs,SqL K H1 a xs)/\R (Itl K a) H1
def iTup (K:PySem.W.Frag) (tl:TE):TI:=λ σ H R=>tl σ H λ x H1=>∃ a,x= .ref a/\(∃ xs,SqT K H1 a xs)/\R (Itt K a) H1
theorem ql4 {l:Expr} {tl:TE} (hl:PE X l tl):PI X tg l (qko X.K tl):=by
 intro pins s σ H R I h;refine thn (hl pins s σ H _ I h) λ v s1 B=> ?_;obtain ⟨x,H1,I1,r1,q1⟩:=B;obtain ⟨a,e,⟨xs,hq⟩,q⟩:=q1;subst e;cases r1
 obtain ⟨its,rv,p,hz⟩:=I1.list hq;refine z1m p.isList ?_;refine ⟨s1.heap.objs.size,[s1.heap.objs.size],_,_,H1,zr,I1.kept (t':=s1.toks) λ b o e=>z0i _ e,qgr a _,⟨_,z0y _ rfl,zr,zr⟩,λ b hb=> ?_,q⟩;have e:b=s1.heap.objs.size:=by simpa using hb
 subst e;exact I1.fpOk (z3b _) (I1.hok.fresh (z3b _))
theorem qn5 {l:Expr} {tl:TE} (hl:PE X l tl):PI X tg l (iTup X.K tl):=by
 intro pins s σ H R I h;refine thn (hl pins s σ H _ I h) λ v s1 B=> ?_;obtain ⟨x,H1,I1,r1,q1⟩:=B;obtain ⟨a,e,⟨xs,hq⟩,q⟩:=q1;subst e;cases r1
 obtain ⟨its,rv,p,hz⟩:=I1.tuple hq;refine wpAny_pyIter_tuple (show s1.heap.IsTuple a its.toArray from p) ?_;refine ⟨s1.heap.objs.size,[s1.heap.objs.size],_,_,H1,zr,I1.kept (t':=s1.toks) λ b o e=>z0i _ e,qfm a _,⟨_,z0y _ rfl,zr,zr⟩,λ b hb=> ?_,q⟩;have e:b=s1.heap.objs.size:=by simpa using hb
 subst e;exact I1.fpOk (z3b _) (I1.hok.fresh (z3b _))
theorem qiv {pins:List (Addr×Obj)} {σ:St} {H:Hp} {s:Shared} {R:It ->Hp ->Prop} {E:Value ->Shared ->Prop} {lo hi:Int} {t u v:Tok} {tk:Nat} (I:Inv X pins σ H s) (h1: -(2^62)<=lo) (h2:lo < 2^62) (h3: -(2^62)<=hi) (h4:hi < 2^62)
  (q:R (Itr lo (hi - lo).toNat) H):wpAny (model X.prog X.w) X.A (pyIter (.ref s.heap.objs.size)) (PIE X pins σ tg R) E {s with heap:=s.heap.push {cls:= .type "range",data:= .fields #[.int lo t,.int hi u,.int 1 v]},toks:=tk}:=by
 refine wpAny_pyIter_range (IsRange.new ..) (small_one h1 h2 h3 h4) ?_;have I1:Inv X pins σ H {s with heap:=s.heap.push {cls:= .type "range",data:= .fields #[.int lo t,.int hi u,.int 1 v]},toks:=tk}:=I.kept λ b o e=>z0i _ e;refine ⟨(s.heap.push {cls:= .type "range",data:= .fields #[.int lo t,.int hi u,.int 1 v]}).objs.size,[(s.heap.push {cls:= .type "range",data:= .fields #[.int lo t,.int hi u,.int 1 v]}).objs.size],_,_,H,zr,
  I1.kept (t':=tk) λ b o e=>z0i _ e,qfn _ lo (hi - lo).toNat,?_,λ b hb=> ?_,q⟩
 ·have e1:lo+((0:Nat):Int)*1=lo:=by simp
  have e2:(((hi - lo).toNat:Nat):Int) - ((0:Nat):Int)=Builtin.Range.rangeSize lo hi 1:=by rw [rangeSize_one];split <;> omega
  show IsRangeIter _ _ (lo+((0:Nat):Int)*1) ((((hi - lo).toNat:Nat):Int) - ((0:Nat):Int)) 1;rw [e1,e2];exact z0y _ rfl
 ·have e:b=(s.heap.push {cls:= .type "range",data:= .fields #[.int lo t,.int hi u,.int 1 v]}).objs.size:=by simpa using hb
  subst e;exact I1.fpOk (z3b _) (I1.hok.fresh (z3b _))
def qok (ta:TA):TI:=λ σ H R=>ta σ H λ vs H1=>∃ j:Int,vs=[.int j]/\ -(2^62)<=j/\j < 2^62/\R (Itr 0 j.toNat) H1
theorem q2d {a:Expr} {ta:TA} {p pos:Pos} (hg:Gl X "range") (hm:X.mg "range"=none) (ha:PA X [a] ta) (hs:starEach [a] X.env=[(false,eval a X.env)]:=by rfl):PI X tg (.Call (.Name "range" p) [a] [] pos) (qok ta):=by
 intro pins s σ H R I h;refine Call_ (q5m I hg hm boot_range (z02 (thn (ha pos pins s σ H _ I h) λ us s1 B=> ?_) hs rfl));obtain ⟨vs,H1,I1,r1,q1⟩:=B;obtain ⟨j,e,q1,q2,q⟩:=q1;subst e;cases r1 with
 | cons r rr=>
  cases rr
  obtain ⟨t,rfl⟩:=r;exact call_range_1 (qiv I1 (by omega) (by omega) q1 q2 (by simpa using q))
def tFor (wi:TI) (g:TG) (tb:TS):TS:=λ D σ H=>wi σ H λ J H1=>∃ W:Nat ->Nat ->St ->Hp ->Prop,(∃ m,W 0 m σ H1)/\∀ i m σ H,W i m σ H ->
 (J.stop i H/\D.nx σ H)\/ (J.go i H/\∃ N:St ->Hp ->Prop,(∀ σ' H',N σ' H' ->∃ m',m' < m/\W (i+1) m' σ' H')/\∀ x H',J.yld i H x H' ->g x σ H' λ σ2 H2=>tb {D with nx:=N,ct:=N,bk:=D.nx} σ2 H2)
def q7y (fp:List Addr) (h:Heap):List (Addr×Obj):=fp.filterMap λ b=>(h.get? b).map λ o=>(b,o)
theorem q4g {fp:List Addr} {h:Heap} {b:Addr} {o:Obj} (hb:b∈fp) (e:h.get? b=some o):(b,o)∈q7y fp h:=List.mem_filterMap.mpr ⟨b,hb,by rw [e];rfl⟩
theorem qgs {fp:List Addr} {h:Heap} {p:Addr×Obj} (hp:p∈q7y fp h):p.1∈fp/\h.get? p.1=some p.2:=by
 obtain ⟨b,hb,e⟩:=List.mem_filterMap.mp hp;cases q:h.get? b with
 | none=>rw [q] at e;cases e
 | some o=>
  rw [q] at e;have e':(b,o)=p:=Option.some.inj e;subst e';exact ⟨hb,q⟩
theorem Inv.pinned {pins:List (Addr×Obj)} {σ:St} {H:Hp} {s:Shared} {fp:List Addr} (I:Inv X pins σ H s) (hf:∀ b∈fp,FpOk X pins H b) (ho:∀ b∈fp,∃ o,s.heap.get? b=some o/\∀ v,o.data≠ .cell v):Inv X (pins++q7y fp s.heap) σ H s:=
 I.qeq λ p hp=>(z27.mp hp).elim (λ z=>I.pin p (z0n _ z)) λ z=>by
  obtain ⟨B,e⟩:=qgs z;obtain ⟨f0,f1,f2,_⟩:=hf p.1 B;obtain ⟨o,e',d⟩:=ho p.1 B;rw [e] at e';cases e';exact ⟨e,f0,f1,f2,d⟩
theorem Inv.unpinned {pins pl:List (Addr×Obj)} {σ:St} {H:Hp} {s:Shared} (I:Inv X (pins++pl) σ H s):Inv X pins σ H s:=I.qeq λ p hp=>I.pin p (z0n _ (z0t _ hp))
theorem q1t {iter:Expr} {body:List Stmt} {wi:TI} {g:TG} {tb:TS} {pos:Pos} (hp:PassesOwn (model X.prog X.w) X.A X.env X.xe) (hc:X.calm=true) (hi:PI X tg iter wi) (hg:PG X tg g) (Y:PSs X body tb)
  (hs:∀ x,foldedSetIterable iter X.env x=pure x:=by intro _;rfl):PS X (.For tg iter body [] pos) (tFor wi g tb):=by
 intro pins s σ H D I h;refine wpAny_For (thn (hi pins s σ H _ I h) λ v s1 h1=>thn h1 λ itv s2 h2=> ?_) hs;obtain ⟨it,fp,tn,J,H2,e,I2,T,b0,f2,W,⟨m0,w0⟩,turn⟩:=h2;subst e;have Z:∀ {H':Hp},(∀ b∈fp,H' b=none) ->∀ b∈fp,FpOk X pins H' b:=λ hn b Y=>⟨hn b Y,(f2 b Y).2⟩;refine codeAny_forLoop_any (λ n s'=>∃ i σ' H',Inv X pins σ' H' s'/\tn i s'.heap/\(∀ b∈fp,H' b=none)/\W i n σ' H') ?_ m0 ⟨0,σ,H2,I2,b0,λ b Y=>(f2 b Y).1,w0⟩;rintro n s3 ⟨i,σ3,H3,I3,a7,a6,w3⟩;rcases turn i n σ3 H3 w3 with ⟨stop,qn⟩ | ⟨go,N,hN,step⟩
 ·refine z2a hp (thn (T.done X rfl rfl rfl hc i pins s3 σ3 H3 X.xe I3 (Z a6) a7 stop) λ r s4 B=> ?_);obtain ⟨hr,I4⟩:=B;subst hr;exact wpAny_execs_nil ⟨σ3,H3,I4,qn⟩
 ·refine z2a hp (thn (T.item X rfl rfl rfl hc i pins s3 σ3 H3 X.xe I3 (Z a6) a7 go) λ r s4 B=> ?_);obtain ⟨u,hr,h4⟩:=B;subst hr;refine z2a hp (thn h4 λ _ s5 B=> ?_);obtain ⟨x,H5,I5,r5,y5,a0,a9⟩:=B;have a8:=I5.pinned (Z a9) (T.obj _ _ a0);refine z2a hp (thn (hg _ s5 σ3 H5 x u _ a8 r5 (step x H5 y5)) λ _ s6 B=> ?_);obtain ⟨σ6,H6,I6,q6⟩:=B;refine z2a hp (thn (Y _ s6 σ6 H6 _ I6 q6) λ f s7 q7=> ?_);have again:∀ {σ7:St} {O:Hp},Inv X (pins++q7y fp s5.heap) σ7 O s7 ->N σ7 O ->∃ m,m < n/\∃ i σ' H',Inv X pins σ' H' s7/\tn i s7.heap/\(∀ b∈fp,H' b=none)/\W i m σ' H':=λ {σ7 O} U n7=>by
   obtain ⟨m',hm,w7⟩:=hN σ7 O n7;refine ⟨m',hm,i+1,σ7,O,U.unpinned,T.keep _ _ _ a0 λ b Y o e=>(U.pin (b,o) (z0n _ (z0n _ (q4g Y e)))).1,λ b Y=> ?_,w7⟩;obtain ⟨o,e,d⟩:=T.obj _ _ a0 b Y;exact (U.pin (b,o) (z0n _ (z0n _ (q4g Y e)))).2.1
  cases f with
  | next=>obtain ⟨σ7,O,U,n7⟩:=q7;exact again U n7
  | cont=>obtain ⟨σ7,O,U,n7⟩:=q7;exact again U n7
  | brk=>obtain ⟨σ7,O,U,q7⟩:=q7;exact ⟨σ7,O,U.unpinned,q7⟩
  | ret v=>obtain ⟨x7,σ7,O,U,r7,q7⟩:=q7;exact ⟨x7,σ7,O,U.unpinned,r7,q7⟩
end
theorem q5o {K:PySem.W.Frag} {a:Addr} {xs:List V} {g:TG} {tb:TS} {D:Ends} {σ:St} {H:Hp} (Pv:Nat ->St ->Hp ->Prop) (h0:Pv 0 σ H) (hl:∀ i σ H,i<=xs.length ->Pv i σ H ->SqL K H a xs)
  (hs:∀ i x σ H,xs[i]? =some x ->Pv i σ H ->g x σ H λ σ2 H2=>tb {D with nx:=Pv (i+1),ct:=Pv (i+1),bk:=D.nx} σ2 H2) (hd:∀ σ H,Pv xs.length σ H ->D.nx σ H):
  ∃ W:Nat ->Nat ->St ->Hp ->Prop,(∃ m,W 0 m σ H)/\∀ i m σ H,W i m σ H ->
   ((Itl K a).stop i H/\D.nx σ H)\/ ((Itl K a).go i H/\∃ N:St ->Hp ->Prop,(∀ σ' H',N σ' H' ->∃ J,J < m/\W (i+1) J σ' H')/\∀ x H',(Itl K a).yld i H x H' ->g x σ H' λ σ2 H2=>tb {D with nx:=N,ct:=N,bk:=D.nx} σ2 H2):=by
 refine ⟨λ i m σ H=>m=xs.length - i/\i<=xs.length/\Pv i σ H,⟨xs.length,by simp,z3e _,h0⟩,?_⟩;rintro i m σ H ⟨rfl,hi,p⟩;have q:=hl i σ H hi p;by_cases B:i < xs.length
 ·refine .inr ⟨⟨xs,xs[i],q,by simp [B]⟩,Pv (i+1),λ σ' H' p'=>⟨xs.length - (i+1),by omega,zr,B,p'⟩,λ x H' y=> ?_⟩;obtain ⟨e,y⟩:=y;subst e;exact hs i x σ _ (y xs q) p
 ·have e:i=xs.length:=by omega
  subst e;exact .inl ⟨⟨xs,q,z3b _⟩,hd σ H p⟩
theorem q8d {K:PySem.W.Frag} {a:Addr} {xs:List V} {g:TG} {tb:TS} {D:Ends} {σ:St} {H:Hp} (Pv:Nat ->St ->Hp ->Prop) (h0:Pv 0 σ H) (hl:∀ i σ H,i<=xs.length ->Pv i σ H ->SqT K H a xs)
  (hs:∀ i x σ H,xs[i]? =some x ->Pv i σ H ->g x σ H λ σ2 H2=>tb {D with nx:=Pv (i+1),ct:=Pv (i+1),bk:=D.nx} σ2 H2) (hd:∀ σ H,Pv xs.length σ H ->D.nx σ H):
  ∃ W:Nat ->Nat ->St ->Hp ->Prop,(∃ m,W 0 m σ H)/\∀ i m σ H,W i m σ H ->
   ((Itt K a).stop i H/\D.nx σ H)\/ ((Itt K a).go i H/\∃ N:St ->Hp ->Prop,(∀ σ' H',N σ' H' ->∃ J,J < m/\W (i+1) J σ' H')/\∀ x H',(Itt K a).yld i H x H' ->g x σ H' λ σ2 H2=>tb {D with nx:=N,ct:=N,bk:=D.nx} σ2 H2):=by
 refine ⟨λ i m σ H=>m=xs.length - i/\i<=xs.length/\Pv i σ H,⟨xs.length,by simp,z3e _,h0⟩,?_⟩;rintro i m σ H ⟨rfl,hi,p⟩;have q:=hl i σ H hi p;by_cases B:i < xs.length
 ·refine .inr ⟨⟨xs,xs[i],q,by simp [B]⟩,Pv (i+1),λ σ' H' p'=>⟨xs.length - (i+1),by omega,zr,B,p'⟩,λ x H' y=> ?_⟩;obtain ⟨e,y⟩:=y;subst e;exact hs i x σ _ (y xs q) p
 ·have e:i=xs.length:=by omega
  subst e;exact .inl ⟨⟨xs,q,z3b _⟩,hd σ H p⟩
theorem q39 {lo:Int} {n:Nat} {g:TG} {tb:TS} {D:Ends} {σ:St} {H:Hp} (Pv:Nat ->St ->Hp ->Prop) (h0:Pv 0 σ H)
  (hs:∀ i σ H,i < n ->Pv i σ H ->g (.int (lo+i)) σ H λ σ2 H2=>tb {D with nx:=Pv (i+1),ct:=Pv (i+1),bk:=D.nx} σ2 H2) (hd:∀ σ H,Pv n σ H ->D.nx σ H):
  ∃ W:Nat ->Nat ->St ->Hp ->Prop,(∃ m,W 0 m σ H)/\∀ i m σ H,W i m σ H ->
   ((Itr lo n).stop i H/\D.nx σ H)\/ ((Itr lo n).go i H/\∃ N:St ->Hp ->Prop,(∀ σ' H',N σ' H' ->∃ J,J < m/\W (i+1) J σ' H')/\∀ x H',(Itr lo n).yld i H x H' ->g x σ H' λ σ2 H2=>tb {D with nx:=N,ct:=N,bk:=D.nx} σ2 H2):=by
 refine ⟨λ i m σ H=>m=n - i/\i<=n/\Pv i σ H,⟨n,by simp,z3e _,h0⟩,?_⟩;rintro i m σ H ⟨rfl,hi,p⟩;by_cases B:i < n
 ·refine .inr ⟨B,Pv (i+1),λ σ' H' p'=>⟨n - (i+1),by omega,zr,B,p'⟩,λ x H' y=> ?_⟩;obtain ⟨e,y⟩:=y;subst e y;exact hs i σ _ B p
 ·have e:i=n:=by omega
  subst e;exact .inl ⟨z3b _,hd σ H p⟩
abbrev R2:=V ->V ->Hp ->VK ->Prop
def OpR (X:Cx) (f:Value ->Value ->Sem Value) (r:R2):Prop:=
 ∀ (pins:List (Addr×Obj)) (s:Shared) (σ:St) (H:Hp) (x y:V) (v u:Value) (Q:VK),Inv X pins σ H s ->RelV x v ->RelV y u ->r x y H Q ->
  wpAny (model X.prog X.w) X.A (f v u) (EP X pins σ Q) X.xe s
def UnR (X:Cx) (f:Value ->Sem Value) (r:V ->Hp ->VK ->Prop):Prop:=
 ∀ (pins:List (Addr×Obj)) (s:Shared) (σ:St) (H:Hp) (x:V) (v:Value) (Q:VK),Inv X pins σ H s ->RelV x v ->r x H Q ->
  wpAny (model X.prog X.w) X.A (f v) (EP X pins σ Q) X.xe s
def q30 (X:Cx) (f:Value) (r:List V ->Hp ->VK ->Prop):Prop:=
 ∀ (pins:List (Addr×Obj)) (s:Shared) (σ:St) (H:Hp) (xs:List V) (us:List Value) (Q:VK),Inv X pins σ H s ->Vals xs us ->r xs H Q ->
  wpAny (model X.prog X.w) X.A (call f us) (EP X pins σ Q) X.xe s
def tOp (r:R2) (ta tb:TE):TE:=λ σ H Q=>ta σ H λ x H1=>tb σ H1 λ y H2=>r x y H2 Q
def tUn (r:V ->Hp ->VK ->Prop) (ta:TE):TE:=λ σ H Q=>ta σ H λ x H1=>r x H1 Q
def rI (C:Int ->Int ->Prop) (g:Int ->Int ->V):R2:=λ x y H Q=>∃ i j,x= .int i/\y= .int j/\C i j/\Q (g i j) H
def rI0 (g:Int ->Int ->V):R2:=λ x y H Q=>∃ i j,x= .int i/\y= .int j/\Q (g i j) H
def rU (g:Int ->V):V ->Hp ->VK ->Prop:=λ x H Q=>∃ i,x= .int i/\Q (g i) H
section
variable {X:Cx} {a b c:Expr} {ta tb tc:TE} {pos:Pos}
theorem binT (ha:PE X a ta) (hb:PE X b tb) {pins:List (Addr×Obj)} {s:Shared} {σ:St} {H:Hp} {R:V ->V ->Hp ->Prop} (I:Inv X pins σ H s)
  (h:ta σ H λ x H1=>tb σ H1 λ y H2=>R x y H2) {Q:Value ->Shared ->Prop} {f:Value ->Value ->Sem Value}
  (hf:∀ v u D x y H2,Inv X pins σ H2 D ->RelV x v ->RelV y u ->R x y H2 ->wpAny (model X.prog X.w) X.A (f v u) Q X.xe D):
  wpAny (model X.prog X.w) X.A (eval a X.env) (λ v s₁=>wpAny (model X.prog X.w) X.A (eval b X.env) (λ u s₂=>wpAny (model X.prog X.w) X.A (f v u) Q X.xe s₂) X.xe s₁) X.xe s:=by
 refine thn (ha pins s σ H _ I h) λ v s1 B=> ?_;obtain ⟨x,H1,I1,r1,q1⟩:=B;refine thn (hb pins s1 σ H1 _ I1 q1) λ u D B=> ?_;obtain ⟨y,H2,I2,r2,q2⟩:=B;exact hf v u D x y H2 I2 r1 r2 q2
theorem qm {op:Operator} {r:R2} (ho:OpR X (binaryOp op) r) (ha:PE X a ta) (hb:PE X b tb):PE X (.BinOp a op b pos) (tOp r ta tb):=by
 intro pins s σ H Q I h;exact wpAny_BinOp (binT ha hb I h λ v u s2 x y H2 I2 rx ry q=>ho pins s2 σ H2 x y v u Q I2 rx ry q)
theorem qol {op:UnaryOp} {r:V ->Hp ->VK ->Prop} (ho:UnR X (unaryOp op) r) (ha:PE X a ta):PE X (.UnaryOp op a pos) (tUn r ta):=by
 intro pins s σ H Q I h;exact UnaryOp_ (thn (ha pins s σ H _ I h) λ v s1 ⟨x,H1,I1,r1,q1⟩=>ho pins s1 σ H1 x v Q I1 r1 q1)
theorem opI {f:Value ->Value ->Sem Value} {C:Int ->Int ->Prop} {g:Int ->Int ->Int}
  (rule:∀ (i j:Int) (t u:Tok) (s:Shared) (Q:Value ->Shared ->Prop) (E:Value ->Shared ->Prop),C i j ->Q (.int (g i j) s.toks) {s with toks:=s.toks+1} ->wpAny (model X.prog X.w) X.A (f (.int i t) (.int j u)) Q E s):
  OpR X f (rI C λ i j=> .int (g i j)):=by
 intro pins s σ H x y v u Q I rx ry h;obtain ⟨i,j,rfl,rfl,hc,q⟩:=h;obtain ⟨t,rfl⟩:=rx;obtain ⟨t',rfl⟩:=ry;exact rule i j t t' s _ _ hc ⟨.int (g i j),H,I.tok _,⟨_,zr⟩,q⟩
theorem opI0 {f:Value ->Value ->Sem Value} {g:Int ->Int ->Int}
  (rule:∀ (i j:Int) (t u:Tok) (s:Shared) (Q:Value ->Shared ->Prop) (E:Value ->Shared ->Prop),Q (.int (g i j) s.toks) {s with toks:=s.toks+1} ->wpAny (model X.prog X.w) X.A (f (.int i t) (.int j u)) Q E s):
  OpR X f (rI0 λ i j=> .int (g i j)):=by
 intro pins s σ H x y v u Q I rx ry h;obtain ⟨i,j,rfl,rfl,q⟩:=h;obtain ⟨t,rfl⟩:=rx;obtain ⟨t',rfl⟩:=ry;exact rule i j t t' s _ _ ⟨.int (g i j),H,I.tok _,⟨_,zr⟩,q⟩
theorem opB0 {f:Value ->Value ->Sem Value} {g:Int ->Int ->Bool}
  (rule:∀ (i j:Int) (t u:Tok) (s:Shared) (Q:Value ->Shared ->Prop) (E:Value ->Shared ->Prop),Q (.bool (g i j)) s ->wpAny (model X.prog X.w) X.A (f (.int i t) (.int j u)) Q E s):
  OpR X f (rI0 λ i j=> .bl (g i j)):=by
 intro pins s σ H x y v u Q I rx ry h;obtain ⟨i,j,rfl,rfl,q⟩:=h;obtain ⟨t,rfl⟩:=rx;obtain ⟨t',rfl⟩:=ry;exact rule i j t t' s _ _ ⟨.bl (g i j),H,I,zr,q⟩
def CDiv (i j:Int):Prop:=0 < j/\j < 1073741824
def CPow (i j:Int):Prop:=0<=j/\j<=1000000/\i.natAbs < 2^64
def CMul (i j:Int):Prop:=(-(2^64) < i/\i < 2^64)\/ (-(2^64) < j/\j < 2^64)
theorem CMul.ok {i j:Int} (h:CMul i j):IntMulOk i j:=by
 rcases h with ⟨h1,h2⟩ | ⟨h1,h2⟩
 ·exact .of_left (intBits_le_64 h1 h2)
 ·exact .of_right (intBits_le_64 h1 h2)
theorem q1v:OpR X (binaryOp .Add) (rI0 λ i j=> .int (i+j)):=opI0 λ _ _ _ _ _ _ _ q=>add_int q
theorem qn6:OpR X (binaryOp .Sub) (rI0 λ i j=> .int (i - j)):=opI0 λ _ _ _ _ _ _ _ q=>sub_int q
theorem q4z:OpR X (binaryOp .Mult) (rI CMul λ i j=> .int (i*j)):=opI λ _ _ _ _ _ _ _ hc q=>mul_int q hc.ok
theorem q2f:OpR X (binaryOp .FloorDiv) (rI CDiv λ i j=> .int (i / j)):=opI λ i j _ _ _ _ _ B q=>by
 have h1:(0:Int) < j:=B.1;have h2:j < 1073741824:=B.2;exact floordiv_int (by omega) (by rw [Int.fdiv_eq_ediv_of_nonneg i (by omega)];exact q) (.inl (PyProof.noPylong_small (by omega)))
theorem q1d:OpR X (binaryOp .Mod) (rI (λ _ j=>0 < j) λ i j=> .int (i%j)):=opI λ i j _ _ _ _ _ hc q=>by
 have h1:(0:Int) < j:=hc;exact mod_int' (by omega) (by rw [Int.fmod_eq_emod_of_nonneg i (by omega)];exact q)
theorem qn7:OpR X (binaryOp .Pow) (rI CPow λ i j=> .int (i^j.toNat)):=opI λ _ _ _ _ _ _ _ B q=>pow_int_small B.1 B.2.1 B.2.2 q
theorem unI {f:Value ->Sem Value} {g:Int ->Int}
  (rule:∀ (i:Int) (t:Tok) (s:Shared) (Q:Value ->Shared ->Prop) (E:Value ->Shared ->Prop),Q (.int (g i) s.toks) {s with toks:=s.toks+1} ->wpAny (model X.prog X.w) X.A (f (.int i t)) Q E s):
  UnR X f (rU λ i=> .int (g i)):=by
 intro pins s σ H x v Q I rx h;obtain ⟨i,rfl,q⟩:=h;obtain ⟨t,rfl⟩:=rx;exact rule i t s _ _ ⟨.int (g i),H,I.tok _,⟨_,zr⟩,q⟩
theorem qn8:UnR X (unaryOp .USub) (rU λ i=> .int (-i)):=unI λ _ _ _ _ _ q=>neg_int q
end
def scal:V ->V ->Bool
 | .non,.non=>true | .non,.int _=>true | .int _,.non=>true | .non,.bl _=>true | .bl _,.non=>true | .non,.str _=>true | .str _,.non=>true
 | .int _,.int _=>true | .bl _,.bl _=>true | .str _,.str _=>true | .byt _,.byt _=>true
 | .int _,.str _=>true | .str _,.int _=>true | .bl _,.str _=>true | .str _,.bl _=>true
 | _,_=>false
def rEq:R2:=λ x y H Q=>scal x y=true/\Q (.bl (decide (x=y))) H
def rNe:R2:=λ x y H Q=>scal x y=true/\Q (.bl (!decide (x=y))) H
theorem qes {i j:Int}:decide (V.int i=V.int j)=(i==j):=by
 rw [z2b];simp
theorem qgt {i j:Bool}:decide (V.bl i=V.bl j)=(i==j):=by
 rw [z2b];simp
theorem qet {i j:Str}:decide (V.str i=V.str j)=(i==j):=by
 rw [z2b];simp
theorem qeu {i j:Array UInt8}:decide (V.byt i=V.byt j)=(i.toList==j.toList):=by
 rw [z2b];cases i
 cases j
 simp
section
variable {X:Cx} {a b c:Expr} {ta tb tc:TE} {pos:Pos}
theorem q13 {pins:List (Addr×Obj)} {σ:St} {H:Hp} {s:Shared} {Q:VK} {k k':Bool} (I:Inv X pins σ H s) (q:Q (.bl k) H) (e:k=k'):EP X pins σ Q (.bool k') s:=by
 subst e;exact ⟨.bl k,H,I,zr,q⟩
theorem q3q:OpR X (compareOp .Eq) rEq:=by
 intro pins s σ H x y v u Q I rx ry h;obtain ⟨B,q⟩:=h;cases x with
 | non=>
  cases rx
  cases y with
  | non=>cases ry;exact PySem.EqNone.eq_none_none (q13 I q (by simp))
  | bl j=>cases ry;exact PySem.EqNone.eq_none_bool (q13 I q (by simp))
  | int j=>obtain ⟨t',rfl⟩:=ry;exact PySem.EqNone.eq_none_int (q13 I q (by simp))
  | str j=>obtain ⟨t',rfl⟩:=ry;exact PySem.EqNone.eq_none_str (q13 I q (by simp))
  | _=>exact absurd (show false=true from B) z15
 | bl i=>
  cases rx
  cases y with
  | non=>cases ry;exact PySem.EqNone.eq_bool_none (q13 I q (by simp))
  | bl j=>cases ry;exact eq_bool (q13 I q qgt)
  | str j=>obtain ⟨t',rfl⟩:=ry;exact PySem.EqMixed.eq_bool_str (q13 I q (by simp))
  | _=>exact absurd (show false=true from B) z15
 | int i=>
  obtain ⟨t,rfl⟩:=rx;cases y with
  | non=>cases ry;exact PySem.EqNone.eq_int_none (q13 I q (by simp))
  | int j=>obtain ⟨t',rfl⟩:=ry;exact eq_int (q13 I q qes)
  | str j=>obtain ⟨t',rfl⟩:=ry;exact PySem.EqMixed.eq_int_str (q13 I q (by simp))
  | _=>exact absurd (show false=true from B) z15
 | str i=>
  obtain ⟨t,rfl⟩:=rx;cases y with
  | non=>cases ry;exact PySem.EqNone.eq_str_none (q13 I q (by simp))
  | bl j=>cases ry;exact PySem.EqMixed.eq_str_bool (q13 I q (by simp))
  | int j=>obtain ⟨t',rfl⟩:=ry;exact PySem.EqMixed.eq_str_int (q13 I q (by simp))
  | str j=>obtain ⟨t',rfl⟩:=ry;exact eq_str (q13 I q qet)
  | _=>exact absurd (show false=true from B) z15
 | byt i=>
  obtain ⟨t,rfl⟩:=rx;cases y with
  | byt j=>obtain ⟨t',rfl⟩:=ry;exact PySem.W.eq_bytes (q13 I q qeu)
  | _=>exact absurd (show false=true from B) z15
 | _=>cases y <;> exact absurd (show false=true from B) z15
theorem q4h:OpR X (compareOp .NotEq) rNe:=by
 intro pins s σ H x y v u Q I rx ry h;obtain ⟨B,q⟩:=h;cases x with
 | non=>
  cases rx
  cases y with
  | non=>cases ry;exact PySem.EqNone.ne_none_none (q13 I q (by simp))
  | bl j=>cases ry;exact PySem.EqNone.ne_none_bool (q13 I q (by simp))
  | int j=>obtain ⟨t',rfl⟩:=ry;exact PySem.EqNone.ne_none_int (q13 I q (by simp))
  | str j=>obtain ⟨t',rfl⟩:=ry;exact PySem.EqNone.ne_none_str (q13 I q (by simp))
  | _=>exact absurd (show false=true from B) z15
 | bl i=>
  cases rx
  cases y with
  | non=>cases ry;exact PySem.EqNone.ne_bool_none (q13 I q (by simp))
  | bl j=>cases ry;exact ne_bool (q13 I q (congrArg not qgt))
  | str j=>obtain ⟨t',rfl⟩:=ry;exact PySem.EqMixed.ne_bool_str (q13 I q (by simp))
  | _=>exact absurd (show false=true from B) z15
 | int i=>
  obtain ⟨t,rfl⟩:=rx;cases y with
  | non=>cases ry;exact PySem.EqNone.ne_int_none (q13 I q (by simp))
  | int j=>obtain ⟨t',rfl⟩:=ry;exact ne_int (q13 I q (congrArg not qes))
  | str j=>obtain ⟨t',rfl⟩:=ry;exact PySem.EqMixed.ne_int_str (q13 I q (by simp))
  | _=>exact absurd (show false=true from B) z15
 | str i=>
  obtain ⟨t,rfl⟩:=rx;cases y with
  | non=>cases ry;exact PySem.EqNone.ne_str_none (q13 I q (by simp))
  | bl j=>cases ry;exact PySem.EqMixed.ne_str_bool (q13 I q (by simp))
  | int j=>obtain ⟨t',rfl⟩:=ry;exact PySem.EqMixed.ne_str_int (q13 I q (by simp))
  | str j=>obtain ⟨t',rfl⟩:=ry;exact ne_str (q13 I q (congrArg not qet))
  | _=>exact absurd (show false=true from B) z15
 | byt i=>
  obtain ⟨t,rfl⟩:=rx;cases y with
  | byt j=>obtain ⟨t',rfl⟩:=ry;exact PySem.W.ne_bytes (q13 I q (congrArg not qeu))
  | _=>exact absurd (show false=true from B) z15
 | _=>cases y <;> exact absurd (show false=true from B) z15
theorem q75:OpR X (compareOp .Lt) (rI0 λ i j=> .bl (decide (i < j))):=opB0 λ _ _ _ _ _ _ _ q=>lt_int q
theorem qkp:OpR X (compareOp .LtE) (rI0 λ i j=> .bl (decide (i<=j))):=opB0 λ _ _ _ _ _ _ _ q=>le_int q
theorem q7z:OpR X (compareOp .In) (λ x y H Q=>∃ i j,x= .str i/\y= .str j/\Q (.bl (!(Builtin.Str.occurrences j i 0 j.length 1).isEmpty)) H):=by
 intro pins s σ H x y v u Q I rx ry h;obtain ⟨i,j,rfl,rfl,q⟩:=h;obtain ⟨t,rfl⟩:=rx;obtain ⟨t',rfl⟩:=ry;exact in_str (q13 I q rfl)
theorem qn9:OpR X (compareOp .Is) (λ x y H Q=>y= .non/\Q (.bl (decide (x= .non))) H):=by
  intro pins s σ H x y v u Q I rx ry h;obtain ⟨rfl,q⟩:=h;cases ry
  refine is_none_gen (q13 I q ?_);cases x <;> first
    | (cases rx;rfl)
    | (obtain ⟨t,rfl⟩:=rx;rfl)
theorem qev:OpR X (compareOp .IsNot) (λ x y H Q=>y= .non/\Q (.bl (!decide (x= .non))) H):=by
  intro pins s σ H x y v u Q I rx ry h;obtain ⟨rfl,q⟩:=h;cases ry
  refine isnot_none_gen (q13 I q ?_);cases x <;> first
    | (cases rx;rfl)
    | (obtain ⟨t,rfl⟩:=rx;rfl)
theorem q14 (b:Expr) {op:CmpOp} (h:op≠ .In:=by decide) (h2:op≠ .NotIn:=by decide):behindInMarks op b=false:=by
 have e1:(op==CmpOp.In)=false:=by cases op <;> first | rfl | exact absurd rfl h
 have e2:(op==CmpOp.NotIn)=false:=by cases op <;> first | rfl | exact absurd rfl h2
 cases b <;> simp [behindInMarks,e1,e2]
theorem q24 {op:CmpOp} {r:R2} (ho:OpR X (compareOp op) r) (ha:PE X a ta) (hb:PE X b tb) (hm:behindInMarks op b=false):PE X (.Compare a [op] [b] pos) (tOp r ta tb):=by
 intro pins s σ H Q I h;exact wpAny_Compare1 (binT ha hb I h λ v u s2 x y H2 I2 rx ry q=>ho pins s2 σ H2 x y v u Q I2 rx ry q) hm
def qfo (t:TE):TT:=λ σ H Q=>t σ H λ x H'=>∃ k,x= .bl k/\Q k H'
theorem q15 {op:CmpOp} {r:R2} (ho:OpR X (compareOp op) r) (ha:PE X a ta) (hb:PE X b tb) (hm:behindInMarks op b=false):PT X (.Compare a [op] [b] pos) (qfo (tOp r ta tb)):=by
 intro pins s σ H Q I h;refine wpAny_isTrue_Compare1 (thn (ha pins s σ H _ I h) λ v s1 ⟨x,H1,I1,r1,q1⟩=>thn (hb pins s1 σ H1 _ I1 q1) λ u s2 ⟨y,H2,I2,r2,q2⟩=>
  thn (ho pins s2 σ H2 x y v u _ I2 r1 r2 q2) λ c s3 ⟨z,H3,I3,r3,k,e,q3⟩=> ?_) hm
 subst e;cases r3
 exact z1l ⟨H3,I3,q3⟩
def qna (r r':R2) (ta tb tc:TE):TE:=λ σ H Q=>ta σ H λ x H1=>tb σ H1 λ y H2=>r x y H2 λ z H3=>∃ k,z= .bl k/\
 (if k=true then tc σ H3 λ w' H4=>r' y w' H4 Q else Q (.bl false) H3)
theorem qiw {op B:CmpOp} {r O:R2} (ho:OpR X (compareOp op) r) (D:OpR X (compareOp B) O) (ha:PE X a ta) (hb:PE X b tb) (hc:PE X c tc)
  (hm:lastMarks [op,B] [b,c]=false:=by with_unfolding_all rfl):PT X (.Compare a [op,B] [b,c] pos) (qfo (qna r O ta tb tc)):=by
 intro pins s σ H Q I h;refine isTrue_chain (thn (ha pins s σ H _ I h) λ v s1 ⟨x,H1,I1,r1,q1⟩=>test_link (thn (hb pins s1 σ H1 _ I1 q1) λ u s2 ⟨y,H2,I2,r2,q2⟩=>
  thn (ho pins s2 σ H2 x y v u _ I2 r1 r2 q2) λ d s3 ⟨z,H3,I3,r3,k,e,q3⟩=> ?_)) hm
 subst e;cases r3
 refine z1l ?_;cases k with
 | false=>
  obtain ⟨k',e',q'⟩:=q3;cases e'
  exact ite_ff ⟨H3,I3,q'⟩
 | true=>
  refine ite_tt (test_last (thn (hc pins s3 σ H3 _ I3 q3) λ w' s4 ⟨z',H4,I4,r4,q4⟩=>thn (D pins s4 σ H4 y z' u w' _ I4 r2 r4 q4) λ d' s5 J=> ?_));obtain ⟨z2,H5,I5,r5,k2,e2,q5⟩:=J;subst e2;cases r5
  exact z1l ⟨H5,I5,q5⟩
theorem q9m:(sizeLine:Nat) < 2^63:=by rw [sizeLine_eq];decide
theorem qfp:OpR X (binaryOp .Add) (λ x y H Q=>∃ i j,x= .str i/\y= .str j/\i.length+j.length<=sizeLine/\Q (.str (i++j)) H):=by
 intro pins s σ H x y v u Q I rx ry h;obtain ⟨i,j,rfl,rfl,hz,q⟩:=h;obtain ⟨t,rfl⟩:=rx;obtain ⟨t',rfl⟩:=ry;exact add_str (λ t' tk=>⟨.str (i++j),H,I.tok _,⟨_,zr⟩,q⟩) hz
theorem q5e {x:V} {us:List Value} (r:Vals [x] us):∃ u,us=[u]/\RelV x u:=by
 cases r with
 | cons r1 r2=>cases r2;exact ⟨_,rfl,r1⟩
theorem q9n {x y:V} {us:List Value} (r:Vals [x,y] us):∃ u B,us=[u,B]/\RelV x u/\RelV y B:=by
 cases r with
 | cons r1 r2=>
  cases r2 with
  | cons r3 r4=>cases r4;exact ⟨_,_,rfl,r1,r3⟩
theorem qgu:q30 X (.type "int") (λ xs H Q=>(∃ i,xs=[.int i]/\Q (.int i) H)\/ ∃ k,xs=[.bl k]/\Q (.int (if k then 1 else 0)) H):=by
 intro pins s σ H xs us Q I r h;rcases h with ⟨i,rfl,q⟩ | ⟨k,rfl,q⟩
 ·obtain ⟨u,rfl,t,rfl⟩:=q5e r;exact call_int_int ⟨.int i,H,I,⟨_,zr⟩,q⟩
 ·obtain ⟨u,rfl,r1⟩:=q5e r;cases r1
  exact call_int_bool ⟨.int (if k then 1 else 0),H,I.tok _,⟨_,zr⟩,q⟩
def LenV (K:PySem.W.Frag) (x:V) (H:Hp) (n:Nat):Prop:=
 match x with
 | .str y=>y.length<=sizeLine/\n=y.length
 | .byt y=>y.size<=sizeLine/\n=y.size
 | .ref p=>(∃ xs,SqL K H p xs/\n=xs.length)\/ ∃ xs,SqT K H p xs/\n=xs.length
 | _=>False
theorem qix:q30 X (.builtin "len") (λ xs H Q=>∃ x n,xs=[x]/\LenV X.K x H n/\Q (.int n) H):=by
 intro pins s σ H xs us Q I r h;obtain ⟨x,n,rfl,e,q⟩:=h;obtain ⟨u,rfl,rx⟩:=q5e r;have hl:=q9m;have hs:sizeLine=16777216:=sizeLine_eq;cases x with
 | str y=>
  obtain ⟨t,rfl⟩:=rx;obtain ⟨hy,e'⟩:y.length<=sizeLine/\n=y.length:=e;subst e';exact len_str (by omega) ⟨.int _,H,I.tok _,⟨_,zr⟩,q⟩
 | byt y=>
  obtain ⟨t,rfl⟩:=rx;obtain ⟨hy,e'⟩:y.size<=sizeLine/\n=y.size:=e;subst e';exact PySem.W.len_bytes (by omega) ⟨.int _,H,I.tok _,⟨_,zr⟩,q⟩
 | ref p=>
  cases rx
  have e':(∃ xs,SqL X.K H p xs/\n=xs.length)\/ ∃ xs,SqT X.K H p xs/\n=xs.length:=e;rcases e' with ⟨xs,D,e'⟩ | ⟨xs,D,e'⟩
  ·subst e';obtain ⟨its,J,pl,hz⟩:=I.list D;have B:=J.length;exact Calls.call_len_list pl.isList (by simp only [z1k];omega) ⟨.int xs.length,H,I.tok _,⟨_,by simp only [z1k];rw [B]⟩,q⟩
  ·subst e';obtain ⟨its,J,pl,hz⟩:=I.tuple D;have B:=J.length;exact len_tuple pl (by simp only [z1k];omega) ⟨.int xs.length,H,I.tok _,⟨_,by simp only [z1k];rw [B]⟩,q⟩
 | _=>exact (show False from e).elim
end
structure ObjM (h:Heap) (x dx C:Addr) (mA:Str ->Option Value):Prop where
 obj:h.get? x=some (PySem.W.instObj C dx)
 ns:h.Ns1 dx mA
 ne:dx≠x
theorem qgv {h:Heap} {dx:Addr} {mA:Str ->Option Value} (n:h.Ns1 dx mA):∃ B,h.get? dx=some B/\∀ name,PySem.W.lookIn name B=some (mA name):=by
 obtain ⟨o,es,ep,ho,hd,hk,_,hm⟩:=n;refine ⟨o,ho,λ name=> ?_⟩;have e:=hm name;unfold nsFind findBy at e;rw [<- Array.find?_toList] at e;unfold PySem.W.lookIn;rw [hd]
 dsimp only
 split
 ·rename_i y q;rw [q] at e;exact congrArg some e
 ·rename_i q;rw [q] at e;have a:es.toList.any (·.refKey)=false:=by
   rw [List.any_eq_false];intro y hy;obtain ⟨z,t,hkey⟩:=hk y (Array.mem_toList_iff.mp hy);simp [DictEntry.refKey,hkey]
  have a':¬ es.toList.any (·.refKey)=true:=by rw [a];exact z15
  rw [if_neg a'];exact congrArg some e
theorem ObjM.look {h:Heap} {x dx C:Addr} {mA:Str ->Option Value} (I:ObjM h x dx C mA):∃ B,PySem.W.InstAt h x (PySem.W.instObj C dx) C (some B)/\∀ name,PySem.W.lookIn name B=some (mA name):=
 let ⟨B,ho,hl⟩:=qgv I.ns
 ⟨B,⟨I.obj,rfl,rfl,ho⟩,hl⟩
section
variable {prog:Program} {w:World} {A:Around} {E:Value ->Shared ->Prop} {s:Shared} {K:PySem.W.Frag} {x dx C f:Addr} {mA:Str ->Option Value} {name:Str} {v:Value}
theorem ql5 {B:Bool} {Q:Value ->Shared ->Prop} (X:K.In s.heap) (I:ObjM s.heap x dx C mA) (hg:PySem.W.plainGet K C name=true) (hh:PySem.W.hasDictIn K C=true)
  (ha:PySem.W.findIn K (.ref C) name=some none) (hv:mA name=some v) (D:PySem.W.handedIn v=true) (h:Q v {s with toks:=s.toks+1}):
  wpAny (model prog w) A (getAttr (.ref x) name B) Q E s:=by
 obtain ⟨od,J,hl⟩:=I.look;exact PySem.W.get_value X J (PySem.W.plainGet_of hg).1 (PySem.W.findObj_own hh ha rfl (by rw [hl,hv])) D h
theorem qiy {pl:Sem Bool} {Q:Value×List Value ->Shared ->Prop} (X:K.In s.heap) (I:ObjM s.heap x dx C mA) (B:PySem.W.plainGet K C name=true)
  (hf:PySem.W.findIn K (.ref C) name=some (some (.ref f))) (ht:PySem.W.isFn K (.ref f)=true) (hv:mA name=none) (h:Q (.ref f,[.ref x]) s):
  wpAny (model prog w) A (getMethod (.ref x) name pl) Q E s:=by
 obtain ⟨od,J,hl⟩:=I.look;exact PySem.W.method_fn X J (PySem.W.plainGet_of B).1 (PySem.W.plainGet_of B).2 hf (beq_iff_eq.mp ht) (by show (PySem.W.lookIn name od).map (·.isSome)=some false;rw [hl,hv];rfl) h
theorem ql6 {ns:List Str} {Q:Unit ->Shared ->Prop} (X:K.In s.heap) (I:ObjM s.heap x dx C mA)
  (hs:PySem.W.findIn K (.ref C) "__setattr__"=some (some (.builtin "object.__setattr__"))) (hp:PySem.W.plainOver K C=true) (ht:PySem.W.takerIn K C name=some none) (hh:PySem.W.hasDictIn K C=true)
  (hw:PySem.Within mA ns) (hsz:ns.length<=sizeLine)
  (h:∀ h',ObjM h' x dx C (λ y=>if y=name then some v else mA y) ->Heap.SameBut dx s.heap h' ->Q () {s with heap:=h',toks:=s.toks+2}):
  wpAny (model prog w) A (setAttr (.ref x) name v) Q E s:=by
 obtain ⟨od,J,hl⟩:=I.look;refine PySem.W.set_plain X J hs (PySem.W.osa_open (s:={s with toks:=s.toks+1}) (r:=none) X J hp ht λ b=> ?_);obtain ⟨cd,hc,U⟩:=PySem.W.any_some hh;have hx:s.heap.get? x=some ⟨.ref C,some dx,.plain,#[]⟩:=I.obj;refine z3h (z3g (z3h (z3h (wpAny_loadPart hx (z3h (PySem.W.Looks.here (s:={s with toks:=s.toks+1}) (PySem.W.looks_clsIn X hc) ?_))))));rw [U];refine z3g (a:=some dx) (z3h (z3g (z3h ?_)));refine wpAny_nsSet1 (s:={s with toks:=s.toks+1}) I.ns λ h' B D=> ?_;obtain ⟨oD,esD,epD,Z,Y,O⟩:=B.count (PySem.Within.cons name v hw);refine z3h (wpAny_lookBehind Z (by rw [Y];exact pastItsLine_dict (z34 O (by rw [z1w];omega))) ?_);exact z3g (h _ ⟨(D.2 _ (Ne.symm I.ne)).trans I.obj,B,I.ne⟩ D)
theorem qiz {R:Result ->Shared ->Prop} {vs:List Value} {B:List (Str×Value)} (X:K.In s.heap) (hm:PySem.W.makesIn K C=true)
  (hi:PySem.W.findIn K (.ref C) "__init__"=some (some (.ref f))) (hf:PySem.W.typeIn K (.ref f)=some (.type "function"))
  (h:codeAny (model prog w) (A.under (.builtin "type.__call__" ⟨.ref C::vs,B⟩)) (.call (.ref f) ⟨.ref (s.heap.objs.size+1)::vs,B⟩) (PySem.W.InitBack (s.heap.objs.size+1) R)
   {s with heap:=(s.heap.push PySem.W.emptyDict).push (PySem.W.instObj C s.heap.objs.size)}):
  codeAny (model prog w) A (.call (.ref C) ⟨vs,B⟩) R s:=by
 obtain ⟨hh,g,d,t,os⟩:=s;exact PySem.W.make_core (PySem.W.makes_of X hm) (PySem.W.looks_findIn X hi) (λ self=>PySem.W.bind_fn X self hf) (.inl rfl) h
end
def putF (f:Str) (v:V):List (Str×V) ->List (Str×V)
 | []=>[(f,v)]
 | (g,x)::r=>if g=f then (g,v)::r else (g,x)::putF f v r
theorem q8u (f g:Str) (v:V):∀ fs:List (Str×V),(putF f v fs).lookup g=if g=f then some v else fs.lookup g
  | []=>by
    show List.lookup g [(f,v)]=_;by_cases h:g=f
    · have B:(g==f)=true:=beq_iff_eq.mpr h
      simp only [List.lookup,B,if_pos h]
    · have B:(g==f)=false:=beq_eq_false_iff_ne.mpr h
      simp only [List.lookup,B,if_neg h]
  | (k,x)::r=>by
    have ih:=q8u f g v r;rw [show putF f v ((k,x)::r)=(if k=f then (k,v)::r else (k,x)::putF f v r) from rfl];by_cases hk:k=f
    · rw [if_pos hk]
      by_cases h:g=k
      · have B:(g==k)=true:=beq_iff_eq.mpr h
        simp only [List.lookup,B,if_pos (h.trans hk)]
      · have B:(g==k)=false:=beq_eq_false_iff_ne.mpr h
        simp only [List.lookup,B,if_neg (λ e:g=f=>h (e.trans hk.symm))]
    · rw [if_neg hk]
      by_cases h:g=k
      · have B:(g==k)=true:=beq_iff_eq.mpr h
        simp only [List.lookup,B,if_neg (λ e:g=f=>hk (h.symm.trans e))]
      · have B:(g==k)=false:=beq_eq_false_iff_ne.mpr h
        simp only [List.lookup,B];exact ih
theorem q80 (f:Str) (v:V):∀ fs:List (Str×V),f∈(putF f v fs).map (·.1)/\∀ g,g∈fs.map (·.1) ->g∈(putF f v fs).map (·.1)
  | []=>⟨by simp [putF],λ g h=>by simp at h⟩
  | (k,x)::r=>by
    obtain ⟨i1,i2⟩:=q80 f v r;rw [show putF f v ((k,x)::r)=(if k=f then (k,v)::r else (k,x)::putF f v r) from rfl];by_cases hk:k=f
    · rw [if_pos hk]
      subst hk;exact ⟨by simp,λ g h=>by simpa using h⟩
    · rw [if_neg hk]
      refine ⟨?_,λ g h=> ?_⟩
      · rw [z2t]
        exact z0s _ i1
      · rw [z2t] at h ⊢
        rcases z2v.mp h with e | e
        · exact z2v.mpr (.inl e)
        · exact z0s _ (i2 g e)
theorem q8v (f:Str) (v:V):∀ fs:List (Str×V),(putF f v fs).length<=fs.length+1
  | []=>by simp [putF]
  | (k,x)::r=>by
    have ih:=q8v f v r;rw [show putF f v ((k,x)::r)=(if k=f then (k,v)::r else (k,x)::putF f v r) from rfl];by_cases hk:k=f
    · rw [if_pos hk,z1w,z1w];omega
    · rw [if_neg hk,z1w,z1w];omega
theorem RelO.qai {v:V} {o:Option Value} (r:RelO (some v) o):∃ u,o=some u/\RelV v u:=by
 cases o with
 | none=>exact (show False from r).elim
 | some u=>exact ⟨u,rfl,r⟩
theorem RelO.ql7 {o:Option Value} (r:RelO none o):o=none:=by
 cases o with
 | none=>rfl
 | some u=>exact (show False from r).elim
theorem qgw {v:V} {u:Value} (r:RelV v u):PySem.W.handedIn u=true:=by
 cases v with
 | non=>cases (show u=Value.none from r);rfl
 | bl b=>cases (show u=Value.bool b from r);rfl
 | int i=>obtain ⟨t,e⟩:=(show ∃ t,u=Value.int i t from r);cases e;rfl
 | str x=>obtain ⟨t,e⟩:=(show ∃ t,u=Value.str x t from r);cases e;rfl
 | byt b=>obtain ⟨t,e⟩:=(show ∃ t,u=Value.bytes b t from r);cases e;rfl
 | flt b=>obtain ⟨t,e⟩:=(show ∃ t,u=Value.float b t from r);cases e;rfl
 | ref a=>cases (show u=Value.ref a from r);rfl
 | ty n=>cases (show u=Value.type n from r);rfl
section
variable {P:Program} {w:World} {H H':Hp} {h h':Heap} {a C dx:Addr} {fs fs':List (Str×V)}
theorem q8e (hok:HOk P w H h) (e:H a=some (.ins C dx fs)):∃ mA,ObjM h a dx C mA/\(∀ f,RelO (fs.lookup f) (mA f))/\PySem.Within mA (fs.map (·.1))/\fs.length<=1000/\H dx=some (.own a):=by
 obtain ⟨d,z,ne,ob,mA,n,r,q⟩:=(show ObjOk P w H h a (.ins C dx fs) from hok a _ e);exact ⟨mA,⟨ob,n,ne⟩,r,q,z,d⟩
end
structure Cls (K:PySem.W.Frag) (C:Addr):Prop where
 pg:PySem.W.plainGet K C Str.empty=true
 hd:PySem.W.hasDictIn K C=true
 po:PySem.W.plainOver K C=true
 sa:PySem.W.findIn K (.ref C) "__setattr__"=some (some (.builtin "object.__setattr__"))
theorem Cls.get {K:PySem.W.Frag} {C:Addr} (c:Cls K C) (f:Str):PySem.W.plainGet K C f=true:=c.pg
def NoAttr (K:PySem.W.Frag) (C:Addr) (f:Str):Prop:=PySem.W.findIn K (.ref C) f=some none
theorem NoAttr.taker {K:PySem.W.Frag} {C:Addr} {f:Str} (n:NoAttr K C f):PySem.W.takerIn K C f=some none:=by
 unfold PySem.W.takerIn;rw [show PySem.W.findIn K (.ref C) f=some none from n];rfl
structure Meth (K:PySem.W.Frag) (C:Addr) (m:Str) (f:Addr):Prop where
 at_:PySem.W.findIn K (.ref C) m=some (some (.ref f))
 fn:PySem.W.isFn K (.ref f)=true
 kp:PySem.W.keepIn K (.ref f)=true
section
variable {X:Cx} {pins:List (Addr×Obj)} {σ:St} {H:Hp} {s:Shared} {a C dx:Addr} {fs:List (Str×V)} {f:Str} {v:V} {A:Around} {E:Value ->Shared ->Prop}
theorem qfq {b:Bool} {Q:Value ->Shared ->Prop} (I:Inv X pins σ H s) (e:H a=some (.ins C dx fs)) (c:Cls X.K C) (n:NoAttr X.K C f) (l:fs.lookup f=some v)
  (h:∀ u s',Inv X pins σ H s' ->RelV v u ->Q u s'):wpAny (model X.prog X.w) A (getAttr (.ref a) f b) Q E s:=by
 obtain ⟨mA,O,r,_,_,_⟩:=q8e I.hok e;obtain ⟨u,hu,B⟩:=RelO.qai (v:=v) (o:=mA f) (by rw [<- l];exact r f);exact ql5 I.kIn O (c.get f) c.hd n hu (qgw B) (h u _ (I.tok _) B)
theorem qfr {m:Str} {g:Addr} {pl:Sem Bool} {Q:Value×List Value ->Shared ->Prop} (I:Inv X pins σ H s) (e:H a=some (.ins C dx fs)) (c:Cls X.K C) (k:Meth X.K C m g) (l:fs.lookup m=none)
  (h:Q (.ref g,[.ref a]) s):wpAny (model X.prog X.w) A (getMethod (.ref a) m pl) Q E s:=by
 obtain ⟨mA,O,r,_,_,_⟩:=q8e I.hok e;have hn:mA m=none:=RelO.ql7 (by rw [<- l];exact r m);exact qiy I.kIn O (c.get m) k.at_ k.fn hn h
theorem qfs {y:V} {u:Value} {Q:Unit ->Shared ->Prop} (I:Inv X pins σ H s) (e:H a=some (.ins C dx fs)) (c:Cls X.K C) (n:NoAttr X.K C f) (hl:fs.length < 1000) (ry:RelV y u)
  (h:∀ s',Inv X pins σ (upd H a (.ins C dx (putF f y fs))) s' ->Q () s'):wpAny (model X.prog X.w) A (setAttr (.ref a) f u) Q E s:=by
 obtain ⟨mA,O,r,wi,_,ho⟩:=q8e I.hok e;have hz:(fs.map (·.1)).length<=sizeLine:=by rw [z2c,sizeLine_eq];omega
 refine ql6 I.kIn O c.sa c.po n.taker c.hd wi hz λ h' B sb=>h _ ?_;have hd:∃ o,h'.get? dx=some o:=let ⟨o,_,_,e',_⟩:=B.ns;⟨o,e'⟩
 refine I.write (x:=a) (e:=dx) (by rw [e];exact True.intro) (.inr ho) (λ b q hb z=>(sb.2 b hb).trans z) hd ?_;refine ⟨by rw [qg O.ne];exact ho,?_,O.ne,B.obj,_,B.ns,λ g=> ?_,λ g hg=> ?_⟩
 ·have:=q8v f y fs;omega
 ·show RelO ((putF f y fs).lookup g) (if g=f then some u else mA g);rw [q8u];by_cases q:g=f
  ·rw [if_pos q,if_pos q];exact ry
  ·rw [if_neg q,if_neg q];exact r g
 ·by_cases q:g=f
  ·rw [q];exact (q80 f y fs).1
  ·refine (q80 f y fs).2 g (wi g λ z=>hg ?_);show (if g=f then some u else mA g)=none;rw [if_neg q];exact z
theorem Inv.made (I:Inv X pins σ H s):Inv X pins σ (upd (upd H s.heap.objs.size (.own (s.heap.objs.size+1))) (s.heap.objs.size+1) (.ins C s.heap.objs.size []))
  {s with heap:=(s.heap.push PySem.W.emptyDict).push (PySem.W.instObj C s.heap.objs.size)}:=by
 have e1:(s.heap.push PySem.W.emptyDict).get? s.heap.objs.size=some PySem.W.emptyDict:=z0y s.heap rfl;have e2:((s.heap.push PySem.W.emptyDict).push (PySem.W.instObj C s.heap.objs.size)).get? (s.heap.objs.size+1)=some (PySem.W.instObj C s.heap.objs.size):=by
  have:=z0y (s.heap.push PySem.W.emptyDict) (o:=PySem.W.instObj C s.heap.objs.size) rfl
  rwa [z2p] at this
 have e3:(s.heap.push PySem.W.emptyDict).Ns s.heap.objs.size (λ _=>none):=⟨PySem.W.emptyDict,#[],_,e1,rfl,(λ e he=>absurd he (by simp)),λ _=>rfl⟩;have I1:=I.laid (a:=s.heap.objs.size) (o:= .own (s.heap.objs.size+1)) (h':=s.heap.push PySem.W.emptyDict) (t':=s.toks) (λ b u q=>z0i _ q) (z3b _) ⟨_,e1⟩;refine I1.laid (a:=s.heap.objs.size+1) (o:= .ins C s.heap.objs.size []) (t':=s.toks) (λ b u q=>z0i _ q) (Nat.le_of_eq (z2p _ _)) ?_;have ne:s.heap.objs.size≠s.heap.objs.size+1:=z33 (z1z _);refine ⟨by rw [qg ne,qa],z3e _,ne,e2,λ _=>none,(Heap.Ns1.of_empty e3).at λ o q=>z0i _ q,λ _=>True.intro,λ y hy=>absurd rfl hy⟩
theorem ql8 {prog:Program} {w:World} {env:Env} {e:Expr} {f:Str} {pos:Pos} {s:Shared} {Q:Value ->Shared ->Prop} (hb:attributeBase e f env (eval e env)=eval e env)
  (h:wpAny (model prog w) A (eval e env) (λ o s₁=>wpAny (model prog w) A (getAttr o f true) Q E s₁) E s):wpAny (model prog w) A (eval (.Attribute e f pos) env) Q E s:=
 Attribute_any_ h (by rw [arm_eval_Attribute,hb])
end
def tFld (K:PySem.W.Frag) (ta:TE) (f:Str):TE:=λ σ H Q=>ta σ H λ x H1=>∃ a C dx fs v,x= .ref a/\H1 a=some (.ins C dx fs)/\Cls K C/\NoAttr K C f/\fs.lookup f=some v/\Q v H1
def sFld (K:PySem.W.Frag) (ta tv:TE) (f:Str):TS:=λ D σ H=>tv σ H λ y H1=>ta σ H1 λ x H2=>∃ a C dx fs,x= .ref a/\H2 a=some (.ins C dx fs)/\Cls K C/\NoAttr K C f/\fs.length < 1000/\
 D.nx σ (upd H2 a (.ins C dx (putF f y fs)))
section
variable {X:Cx} {o e value:Expr} {f:Str} {pos pos' tpos:Pos} {ta tv:TE}
theorem q5p (he:PE X e ta) (hb:attributeBase e f X.env (eval e X.env)=eval e X.env):PE X (.Attribute e f pos) (tFld X.K ta f):=by
 intro pins s σ H Q I h;refine ql8 hb (thn (he pins s σ H _ I h) λ u s1 B=> ?_);obtain ⟨x,H1,I1,rx,a,C,dx,fs,v,ex,ea,c,n,l,q⟩:=B;subst ex;obtain rfl:u=Value.ref a:=rx;exact qfq I1 ea c n l λ u' s2 I2 ru=>⟨v,H1,I2,ru,q⟩
theorem q50 (ha:PE X o ta) (hv:PE X value tv) (hs:swapsWith value (some (.Attribute o f pos')) pos.line X.env=pure false):PS X (.Assign [.Attribute o f pos'] value pos) (sFld X.K ta tv f):=by
 intro pins s σ H D I h;refine plainObj_wpAny_Assign_Attribute (thn (hv pins s σ H _ I h) λ u s1 ⟨y,H1,I1,ry,q⟩=>thn (ha pins s1 σ H1 _ I1 q) λ ov s2 B=> ?_) hs;obtain ⟨x,H2,I2,rx,a,C,dx,fs,ex,ea,c,n,l,q2⟩:=B;subst ex;obtain rfl:ov=Value.ref a:=rx;exact qfs I2 ea c n l ry λ s3 I3=>⟨σ,_,I3,q2⟩
end
section
variable {X:Cx} {pins:List (Addr×Obj)} {σ:St} {H:Hp} {s:Shared} {A:Around} {E:Value ->Shared ->Prop} {Q:Value ->Shared ->Prop} {c:Value} {b:Bool}
inductive TyOf (K:PySem.W.Frag) (H:Hp):V ->Value ->Prop where
 | non:TyOf K H .non (.type "NoneType")
 | bl (x:Bool):TyOf K H (.bl x) (.type "bool")
 | int (i:Int):TyOf K H (.int i) (.type "int")
 | str (x:Str):TyOf K H (.str x) (.type "str")
 | flt (x:UInt64):TyOf K H (.flt x) (.type "float")
 | lst {a:Addr} {xs:List V} (e:H a=some (.lst xs)):TyOf K H (.ref a) (.type "list")
 | frz {a:Addr} {o:Obj} {xs:List V} (e:H a=some (.frz o (.lst xs))):TyOf K H (.ref a) (.type "list")
 | tup {a:Addr} {xs:List V} (e:H a=some (.tup xs)):TyOf K H (.ref a) (.type "tuple")
 | dK {a:Addr} {kvs:List (Key×V)} (e:H a=some (.dK kvs)):TyOf K H (.ref a) (.type "dict")
 | dT {a:Addr} {kvs:List (List Key×V)} (e:H a=some (.dT kvs)):TyOf K H (.ref a) (.type "dict")
 | ins {a C dx:Addr} {fs:List (Str×V)} (e:H a=some (.ins C dx fs)) (cl:Cls K C) (ha:PySem.W.findIn K (.ref C) "__class__"=some (some (.builtin "object.__class__")))
   (hn:PySem.W.specialIn K (.builtin "object.__class__") "__get__"=some (some (.builtin "getset_descriptor.__get__"))) (htk:PySem.W.takesIn K (.builtin "object.__class__")=some true)
   (hm:PySem.W.mroIn K C (.type "object")=some true):TyOf K H (.ref a) (.ref C)
theorem qgx {x:V} {u t:Value} (I:Inv X pins σ H s) (rx:RelV x u) (ty:TyOf X.K H x t) (e:PySem.W.kitOne X.K t c=some b) (h:∀ tk,Q (.bool b) {s with toks:=tk}):
  wpAny (model X.prog X.w) A (call (.builtin "isinstance") [u,c]) Q E s:=by
 cases ty with
 | non=>cases (show u=Value.none from rx);exact z2i PySem.W.kitx_none I.kIn True.intro e (λ z=>nomatch z) h
 | bl y=>cases (show u=Value.bool y from rx);exact z2i PySem.W.kitx_bool I.kIn True.intro e (λ z=>nomatch z) h
 | int i=>obtain ⟨t,q⟩:=(show ∃ t,u=Value.int i t from rx);cases q;exact z2i PySem.W.kitx_int I.kIn True.intro e (λ z=>nomatch z) h
 | str y=>obtain ⟨t,q⟩:=(show ∃ t,u=Value.str y t from rx);cases q;exact z2i PySem.W.kitx_str I.kIn True.intro e (λ z=>nomatch z) h
 | flt y=>obtain ⟨t,q⟩:=(show ∃ t,u=Value.float y t from rx);cases q;exact z2i PySem.W.kitx_float I.kIn True.intro e (λ z=>nomatch z) h
 | @lst a xs B=>
  cases (show u=Value.ref a from rx)
  obtain ⟨_,_,n,_,h1⟩:=(show ObjOk X.prog X.w H s.heap a (.lst xs) from I.hok a _ B);exact z2i PySem.W.kitx_list I.kIn ⟨_,h1,rfl⟩ e (λ z=>nomatch z) h
 | @frz a ob xs B=>
  cases (show u=Value.ref a from rx)
  obtain ⟨_,_,_,n,_,h1⟩:=(show ObjOk X.prog X.w H s.heap a (.frz ob (.lst xs)) from I.hok a _ B);exact z2i PySem.W.kitx_list I.kIn ⟨_,h1,rfl⟩ e (λ z=>nomatch z) h
 | @tup a xs B=>
  cases (show u=Value.ref a from rx)
  obtain ⟨_,_,_,p⟩:=(show ObjOk X.prog X.w H s.heap a (.tup xs) from I.hok a _ B);obtain ⟨o,h1,h2,_⟩:=p;exact z2i PySem.W.kitx_tuple I.kIn ⟨o,h1,h2⟩ e (λ z=>nomatch z) h
 | @dK a kvs B=>
  cases (show u=Value.ref a from rx)
  obtain ⟨_,_,vs,_,p⟩:=(show ObjOk X.prog X.w H s.heap a (.dK kvs) from I.hok a _ B);obtain ⟨o,es,ep,h1,h2,_⟩:=p;exact z2i PySem.W.kitx_dict I.kIn ⟨o,h1,h2.1⟩ e (λ z=>nomatch z) h
 | @dT a kvs B=>
  cases (show u=Value.ref a from rx)
  obtain ⟨_,_,xs,_,o,es,ep,h1,h2,_⟩:=(show ObjOk X.prog X.w H s.heap a (.dT kvs) from I.hok a _ B);exact z2i PySem.W.kitx_dict I.kIn ⟨o,h1,h2.1⟩ e (λ z=>nomatch z) h
 | @ins a C dx fs B cl ha hn D hm=>
  cases (show u=Value.ref a from rx)
  obtain ⟨mA,O,_⟩:=q8e I.hok B;obtain ⟨od,J,_⟩:=O.look;exact z2i (PySem.W.kitx_own (cl.get _) cl.hd ha hn D hm) I.kIn J e (λ z=>nomatch z) h
end
structure Room (k:Nat) (A:Around):Prop where
 hd:A.handled=none
 dp:A.depth+3*k+5 < recursionLimit
 un:A.units+16*k+200 < cLine
theorem Room.mono {j k:Nat} {A:Around} (r:Room k A) (h:j<=k):Room j A:=⟨r.hd,by have:=r.dp;omega,by have:=r.un;omega⟩
theorem Room.deeper {k:Nat} {A:Around} (r:Room (k+1) A) (env:Env):Room k (A.deeper env):=
 ⟨r.hd,by have:=r.dp;show A.depth+1+3*k+5 < _;omega,by have:=r.un;show A.units+3+16*k+200 < _;omega⟩
theorem qft {A:Around} {C:Addr} {us:List Value} {kw:List (Str×Value)}:(A.under (.builtin "type.__call__" ⟨.ref C::us,kw⟩)).depth=A.depth+1:=by
 first | rfl | simp [Around.under,Code.weight,Code.isCreation,Code.isGuard,Code.isCaller,Code.frames,Code.isFrame,guardIds]
theorem qfu {A:Around} {C:Addr} {us:List Value} {kw:List (Str×Value)}:(A.under (.builtin "type.__call__" ⟨.ref C::us,kw⟩)).units=A.units+1:=by
 first | rfl | simp [Around.under,Code.cUnits,Code.frames,Code.isFrame]
theorem Room.make {k:Nat} {A:Around} (r:Room (k+1) A) (C:Addr) (us:List Value) (kw:List (Str×Value)):Room k (A.under (.builtin "type.__call__" ⟨.ref C::us,kw⟩)):=
 ⟨r.hd,by have:=r.dp;rw [qft];omega,by have:=r.un;rw [qfu];omega⟩
theorem Room.depth {k:Nat} {A:Around} (r:Room k A):A.depth < recursionLimit:=by have:=r.dp;omega
theorem Room.units {k:Nat} {A:Around} (r:Room k A):A.units+64 < cLine:=by have:=r.un;omega
def tNil:TA:=λ _ H Q=>Q [] H
def q1l (ta:TE) (tr:TA):TA:=λ σ H Q=>ta σ H λ x H1=>tr σ H1 λ xs H2=>Q (x::xs) H2
section
variable {X:Cx} {e:Expr} {es:List Expr} {te:TE} {t:TA} {pos:Pos}
theorem q1h:PA X [] tNil:=λ _ _ _ _ H Q I h=>Calls.spliced_nil ⟨[],H,I,.nil,h⟩
theorem ql9 (ha:PE X e te) (hr:PA X es t) (hs:starEach (e::es) X.env=(false,eval e X.env)::starEach es X.env:=by rfl):PA X (e::es) (q1l te t):=by
 intro pos pins s σ H Q I h;rw [hs];show wpAny _ _ (spliced ((false,eval e X.env)::backTo pos (starEach es X.env))) _ _ s;refine Calls.spliced_cons (thn (ha pins s σ H _ I h) λ u s1 B=> ?_);obtain ⟨x,H1,I1,r1,q1⟩:=B;exact thn (hr pos pins s1 σ H1 _ I1 q1) λ us s2 ⟨xs,H2,I2,r2,q2⟩=>⟨x::xs,H2,I2,.cons r1 r2,q2⟩
def tTup (t:TA):TE:=λ σ H Q=>t σ H λ xs H1=>xs.length<=sizeLine/\∀ p,H1 p=none ->Q (.ref p) (upd H1 p (.tup xs))
def tLst (t:TA):TE:=λ σ H Q=>t σ H λ xs H1=>xs.length<=sizeLine/\∀ p,H1 p=none ->Q (.ref p) (upd H1 p (.lst xs))
theorem q2j {x1} (h:PA X es t):PE X (.Tuple es x1 pos) (tTup t):=by
 intro pins s σ H Q I hq;refine wpAny_Tuple_spliced (thn (h pos pins s σ H _ I hq) λ us s1 ⟨xs,H1,I1,r,z,q⟩=>⟨by rw [<- r.length];exact z,?_⟩);have hf:H1 s1.heap.objs.size=none:=I1.hok.fresh (z3b _);refine ⟨.ref s1.heap.objs.size,upd H1 s1.heap.objs.size (.tup xs),I1.laid (t':=s1.toks) (λ b u e=>z0i _ e) (z3b _) ?_,zr,q _ hf⟩;exact ⟨z,us,r,⟨_,z0y _ rfl,zr,_,zr⟩⟩
theorem q1a (h:PA X es t):PE X (.List es pos) (tLst t):=by
 intro pins s σ H Q I hq;refine wpAny_List_spliced (thn (h pos pins s σ H _ I hq) λ us s1 ⟨xs,H1,I1,r,z,q⟩=>⟨by rw [<- r.length];exact z,?_⟩);have hf:H1 s1.heap.objs.size=none:=I1.hok.fresh (z3b _);refine ⟨.ref s1.heap.objs.size,upd H1 s1.heap.objs.size (.lst xs),I1.laid (t':=s1.toks) (λ b u e=>z0i _ e) (z3b _) ?_,zr,q _ hf⟩;exact ⟨z,us,0,r,z0y _ rfl⟩
end
abbrev Sp:=List V ->Hp ->VK ->XK ->Prop
abbrev CXT:=List Env ->Hp ->Shared ->XK ->Value ->Shared ->Prop
structure Env0 (P:Program) (w:World) (K:PySem.W.Frag) (mg:Str ->Option Value) (base:Heap) (A:Around) (outer:List Env) (s:Shared) (H:Hp):Prop where
 frames:A.frames=some outer
 mod:Mod K mg base
 bs:∀ b o,base.get? b=some o ->s.heap.get? b=some o/\H b=none
 bsz:base.objs.size<=s.heap.objs.size
 funs:s.heap.FunFrames base outer
 frf:∀ b∈frs outer,H b=none
 hok:HOk P w H s.heap
 bare:AllBare s.gens
def CE (outer:List Env) (P:Program) (w:World) (H:Hp) (s:Shared) (Q:VK) (u:Value) (s':Shared):Prop:=
 ∃ v H',s'.os=s.os/\AllBare s'.gens/\Un (frs outer) [] H H' s.heap s'.heap/\HOk P w H' s'.heap/\RelV v u/\Q v H'
def CR (CX:CXT) (outer:List Env) (P:Program) (w:World) (H:Hp) (s:Shared) (Q:VK) (E:XK) (r:Result) (s':Shared):Prop:=
 match r with
 | .ok (.ret u)=>CE outer P w H s Q u s'
 | .ok _=>False
 | .error e=>CX outer H s E e s'
structure FnOk (P:Program) (w:World) (K:PySem.W.Frag) (mg:Str ->Option Value) (base:Heap) (CX:CXT) (k:Nat) (f:Addr) (fd:FuncData) (ps:List Str) (sp:Sp):Prop where
 len:∀ vs H Q E,sp vs H Q E ->vs.length=ps.length
 run:∀ (A:Around) (outer:List Env) (s:Shared) (H:Hp) (args:Args) (us:List Value) (vs:List V) (Q:VK) (E:XK),Room k A ->Env0 P w K mg base A outer s H ->BindsTo s fd args (ps.zip us) ->Vals vs us ->sp vs H Q E ->
  codeAny (model P w) A (.call (.ref f) args) (CR CX outer P w H s Q E) s
theorem Env0.make {P:Program} {w:World} {K:PySem.W.Frag} {mg:Str ->Option Value} {base:Heap} {A:Around} {outer:List Env} {s:Shared} {H:Hp} (e:Env0 P w K mg base A outer s H) (C:Addr) (us:List Value) (kw:List (Str×Value)):
  Env0 P w K mg base (A.under (.builtin "type.__call__" ⟨.ref C::us,kw⟩)) outer s H:=⟨by first | exact e.frames | (simpa [Around.under,Code.envs,Code.isFrame,pushEnvs] using e.frames),e.mod,e.bs,e.bsz,e.funs,e.frf,e.hok,e.bare⟩
section
variable {X:Cx} {pins:List (Addr×Obj)} {σ:St} {H:Hp} {s s':Shared}
theorem Inv.env0 (I:Inv X pins σ H s):Env0 X.prog X.w X.K X.mg X.base X.A X.stack s H:=
 ⟨I.ok.frames,I.ok.mod,I.bs,z34 I.ok.bsz I.sz,I.stack,I.stkFree,I.hok,I.bare⟩
theorem Inv.after {Q:VK} {u:Value} (I:Inv X pins σ H s) (h:CE X.stack X.prog X.w H s Q u s'):EP X pins σ Q u s':=by
 obtain ⟨v,H',os,bare,un,hok,r,q⟩:=h;obtain ⟨hh,g,d,t,B⟩:=s';obtain rfl:B=s.os:=os;exact ⟨v,H',I.call (h':=hh) (g':=g) (d':=d) (t':=t) (ch:=[]) un hok bare (λ b z=>absurd z (by simp)),r,q⟩
end
def qkq (sp:Sp) (dvs:List V) (E:XK) (t:TA):TE:=λ σ H Q=>t σ H λ vs H1=>sp (vs++dvs) H1 Q E
def qkr (C:Addr) (m:Str) (sp:Sp) (dvs:List V) (E:XK) (ta:TE) (t:TA):TE:=λ σ H Q=>ta σ H λ x H1=>∃ a dx fs,x= .ref a/\H1 a=some (.ins C dx fs)/\fs.lookup m=none/\
 t σ H1 λ vs H2=>sp (x::(vs++dvs)) H2 Q E
def qks (C:Addr) (sp:Sp) (dvs:List V) (E:XK) (t:TA):TE:=λ σ H Q=>t σ H λ vs H1=>∀ x dx,H1 x=none ->H1 dx=none ->dx≠x ->
 sp (.ref x::(vs++dvs)) (upd (upd H1 dx (.own x)) x (.ins C dx [])) (λ v H2=>v= .non/\Q (.ref x) H2) E
def Binds (K:PySem.W.Frag) (fd:FuncData) (ps:List Str) (ds:List Value):Prop:=
 ∀ (s:Shared) (us:List Value),K.In s.heap ->(us++ds).length=ps.length ->BindsTo s fd ⟨us,[]⟩ (ps.zip (us++ds))
theorem Binds.all {K:PySem.W.Frag} {fd:FuncData} {ps:List Str} (h:∀ us:List Value,us.length=ps.length ->bindArgs fd ⟨us,[]⟩=pure (ps.zip us)):Binds K fd ps []:=λ s us _ hl=>by
 rw [z2d] at hl ⊢;exact .of_eq (h us hl)
def q6s (CX:CXT) (X:Cx) (E:XK):Prop:=∀ (pins:List (Addr×Obj)) (σ:St) (H:Hp) (s:Shared) (e:Value) (s':Shared),Inv X pins σ H s ->CX X.stack H s E e s' ->X.xe e s'
section
variable {X:Cx} {CX:CXT} {k:Nat} {f C:Addr} {fd:FuncData} {ps:List Str} {sp:Sp} {dvs:List V} {ds:List Value} {E:XK} {x m:Str} {p pos apos:Pos} {e o:Expr} {es:List Expr} {ta:TE} {t:TA}
theorem qgy {pins:List (Addr×Obj)} {σ:St} {H:Hp} {s:Shared} {Q:VK} {us:List Value} {vs:List V} (F:FnOk X.prog X.w X.K X.mg X.base CX k f fd ps sp) (hr:Room k X.A) (hb:Binds X.K fd ps ds) (hd:Vals dvs ds) (hx:q6s CX X E)
  (I:Inv X pins σ H s) (r:Vals vs us) (h:sp (vs++dvs) H Q E):wpAny (model X.prog X.w) X.A (call (.ref f) us) (EP X pins σ Q) X.xe s:=by
 have r2:Vals (vs++dvs) (us++ds):=r.append hd;have hl:(us++ds).length=ps.length:=by rw [<- r2.length];exact F.len _ _ _ _ h
 refine wpAny_call (z36 (F.run X.A X.stack s H ⟨us,[]⟩ (us++ds) (vs++dvs) Q E hr I.env0 (hb s us I.kIn hl) r2 h) λ r s' hq=> ?_);cases r with
 | error e=>exact hx pins σ H s e s' I hq
 | ok fl=>
  cases fl with
  | ret u=>exact I.after hq
  | next=>exact False.elim hq
  | brk=>exact False.elim hq
  | cont=>exact False.elim hq
theorem qla (F:FnOk X.prog X.w X.K X.mg X.base CX k f fd ps sp) (hr:Room k X.A) (hg:Gl X x) (hm:X.mg x=some (.ref f)) (hk:PySem.W.keepIn X.K (.ref f)=true) (hb:Binds X.K fd ps ds) (hd:Vals dvs ds) (hx:q6s CX X E)
  (ha:PA X (e::es) t) (B:(x==("__debug__":Str))=false:=by decide) (he:starEach (e::es) X.env=(false,eval e X.env)::starEach es X.env:=by rfl) (D:(backTo pos (starEach es X.env)).any (·.1)=false:=by rfl):
  PE X (.Call (.Name x p) (e::es) [] pos) (qkq sp dvs E t):=by
 intro pins s σ H Q I h;refine z1b (qah I hg hm ?_ B);refine PySem.W.callWith_K (h₀:=X.base) I.ok.mod.kin hk (thn (ha pos pins s σ H _ I h) λ us s1 ⟨vs,H1,I1,r,q⟩=>⟨I1.kIn,?_⟩) he D;exact qgy F hr hb hd hx I1 r q
theorem qlb {pl:Sem Bool} (he:PE X o ta) (c:Cls X.K C) (hm:Meth X.K C m f) (F:FnOk X.prog X.w X.K X.mg X.base CX k f fd ps sp) (hr:Room k X.A) (hb:Binds X.K fd ps ds) (hd:Vals dvs ds) (hx:q6s CX X E) (ha:PA X (e::es) t)
  (D:starEach (e::es) X.env=(false,eval e X.env)::starEach es X.env:=by rfl) (B:(backTo pos (starEach es X.env)).any (·.1)=false:=by rfl)
  (ht:eval (.Call (.Attribute o m apos) (e::es) [] pos) X.env=(do
   let ov <- eval o X.env
   standAt apos.atName
   let (f,first) <- holding [ov] (getMethod ov m pl)
   callWith pos f first (backTo pos (starEach (e::es) X.env)) (backToKw pos (keywordEach [] X.env))):=by rfl):
  PE X (.Call (.Attribute o m apos) (e::es) [] pos) (qkr C m sp dvs E ta t):=by
 intro pins s σ H Q I h;refine PySem.W.methodCall_KW (pl:=pl) (thn (he pins s σ H _ I h) λ u s1 J=> ?_) ht;obtain ⟨x,H1,I1,rx,a,dx,fs,ex,ea,l,q⟩:=J;subst ex;obtain rfl:u=Value.ref a:=rx;refine qfr I1 ea c hm l ?_;refine PySem.W.callWith_K (first:=[.ref a]) (h₀:=X.base) I.ok.mod.kin hm.kp (thn (ha pos pins s1 σ H1 _ I1 q) λ us s2 ⟨vs,H2,I2,r,q2⟩=>⟨I2.kIn,?_⟩) D B;exact qgy (us:= .ref a::us) (vs:= .ref a::vs) F hr hb hd hx I2 (.cons rfl r) q2
structure Mk (K:PySem.W.Frag) (C f:Addr):Prop where
 makes:PySem.W.makesIn K C=true
 init:PySem.W.findIn K (.ref C) "__init__"=some (some (.ref f))
 fn:PySem.W.isFn K (.ref f)=true
 kp:PySem.W.keepIn K (.ref C)=true
theorem qj0 {pins:List (Addr×Obj)} {σ:St} {H:Hp} {s:Shared} {Q:VK} {us:List Value} {vs:List V} (M:Mk X.K C f) (F:FnOk X.prog X.w X.K X.mg X.base CX k f fd ps sp) (hr:Room (k+1) X.A) (hb:Binds X.K fd ps ds) (hd:Vals dvs ds)
  (hx:q6s CX X E) (I:Inv X pins σ H s) (r:Vals vs us)
  (h:∀ x dx,H x=none ->H dx=none ->dx≠x ->sp (.ref x::(vs++dvs)) (upd (upd H dx (.own x)) x (.ins C dx [])) (λ v H2=>v= .non/\Q (.ref x) H2) E):
  wpAny (model X.prog X.w) X.A (call (.ref C) us) (EP X pins σ Q) X.xe s:=by
 have hq:=h (s.heap.objs.size+1) s.heap.objs.size (I.hok.fresh (Nat.le_succ _)) (I.hok.fresh (z3b _)) (z33 (z1z _));have I2:=Inv.made (C:=C) I;have r2:Vals (V.ref (s.heap.objs.size+1)::(vs++dvs)) (Value.ref (s.heap.objs.size+1)::(us++ds)):= .cons rfl (r.append hd);have hl:(Value.ref (s.heap.objs.size+1)::us++ds).length=ps.length:=by
  have e:=r2.length;rw [F.len _ _ _ _ hq] at e;exact e.symm
 refine wpAny_call (qiz (f:=f) I.kIn M.makes M.init (beq_iff_eq.mp M.fn) (z36 (F.run _ X.stack _ _ ⟨Value.ref (s.heap.objs.size+1)::us,[]⟩ (Value.ref (s.heap.objs.size+1)::(us++ds)) _ _ E (hr.make C us [])
  (I2.env0.make C us []) (hb _ (Value.ref (s.heap.objs.size+1)::us) I2.kIn hl) r2 hq) λ r s' B=> ?_))
 cases r with
 | error e=>exact hx pins σ _ _ e s' I2 B
 | ok fl=>
  cases fl with
  | ret u=>
   obtain ⟨v,H',I3,rv,ev,q3⟩:=I2.after B;subst ev;exact ⟨rv,⟨V.ref (s.heap.objs.size+1),H',I3,zr,q3⟩⟩
  | next=>exact False.elim B
  | brk=>exact False.elim B
  | cont=>exact False.elim B
theorem qlc (M:Mk X.K C f) (F:FnOk X.prog X.w X.K X.mg X.base CX k f fd ps sp) (hr:Room (k+1) X.A) (hg:Gl X x) (hm:X.mg x=some (.ref C)) (hb:Binds X.K fd ps ds) (hd:Vals dvs ds) (hx:q6s CX X E)
  (ha:PA X (e::es) t) (B:(x==("__debug__":Str))=false:=by decide) (he:starEach (e::es) X.env=(false,eval e X.env)::starEach es X.env:=by rfl) (D:(backTo pos (starEach es X.env)).any (·.1)=false:=by rfl):
  PE X (.Call (.Name x p) (e::es) [] pos) (qks C sp dvs E t):=by
 intro pins s σ H Q I h;refine z1b (qah I hg hm ?_ B);refine PySem.W.callWith_K (h₀:=X.base) I.ok.mod.kin M.kp (thn (ha pos pins s σ H _ I h) λ us s1 ⟨vs,H1,I1,r,q⟩=>⟨I1.kIn,?_⟩) he D;exact qj0 M F hr hb hd hx I1 r q
end
section
variable {X:Cx} {CX:CXT} {k:Nat} {f C:Addr} {fd:FuncData} {ps ks:List Str} {sp:Sp} {E:XK} {x m:Str} {p pos apos kpos:Pos} {e o:Expr} {es:List Expr} {kws:List Keyword} {te ta:TE} {t tk:TA} {nm:Option Str}
variable {g:List Value ->List Value ->List Value} {gV:List V ->List V ->List V}
end
structure FnScope (N P:List Str) (sc:Scope):Prop where
 kind:sc.kind= .function
 co:sc.isCoroutine=false
 gen:sc.isGenerator=false
 nd:N.Nodup
 pre:N.take P.length=P
 par:∀ x∈P,sc.names.lookup x=some .local\/ sc.names.lookup x=some .cell
 nofree:∀ y∈sc.names,y.2≠ .free
theorem qb4 {kindOf:Str ->Option NameKind} {x:Str}:∀ {B:List (Str×Value)} {m:Str ->Option Value},(∀ v,(x,v)∉B) ->bindL kindOf B m x=m x
  | [],_,_=>rfl
  | (n,v)::r,m,h=>by
    unfold bindL;rw [qb4 λ w hw=>h w (z0s _ hw)];split
    · have:x≠n:=by rintro rfl;exact h v z18
      simp [this]
    · rfl
theorem qb5 {kindOf:Str ->Option NameKind} {x:Str}:∀ {B:List (Str×Value)} {m:Str ->Option Value},(∀ v,(x,v)∉B) ->bindC kindOf B m x=m x
  | [],_,_=>rfl
  | (n,v)::r,m,h=>by
    unfold bindC;rw [qb5 λ w hw=>h w (z0s _ hw)];split
    · rfl
    · have:x≠n:=by rintro rfl;exact h v z18
      simp [this]
theorem qb6 {kindOf:Str ->Option NameKind} {x:Str} {v:Value}:∀ {P:List Str} {vs:List Value} {i:Nat} {m:Str ->Option Value},P.Nodup ->P[i]? =some x ->vs[i]? =some v ->kindOf x=some .local ->
  bindL kindOf (P.zip vs) m x=some v
 | [],_,_,_,_,h,_,_=>by simp at h
 | _::_,[],_,_,_,_,h,_=>by simp at h
 | p::P,w::vs,0,m,nd,h1,h2,hk=>by
  simp at h1 h2;subst h1;subst h2
  show bindL kindOf ((p,w)::P.zip vs) m p=_;unfold bindL;rw [qb4 λ v hv=>(z2e.mp nd).1 (List.of_mem_zip hv).1,if_pos hk];simp
 | p::P,w::vs,i+1,m,nd,h1,h2,hk=>by
  show bindL kindOf ((p,w)::P.zip vs) m x=_;unfold bindL;exact qb6 (i:=i) (z2e.mp nd).2 (by simpa using h1) (by simpa using h2) hk
theorem qb7 {kindOf:Str ->Option NameKind} {x:Str} {v:Value}:∀ {P:List Str} {vs:List Value} {i:Nat} {m:Str ->Option Value},P.Nodup ->P[i]? =some x ->vs[i]? =some v ->kindOf x≠some .local ->
  bindC kindOf (P.zip vs) m x=some v
 | [],_,_,_,_,h,_,_=>by simp at h
 | _::_,[],_,_,_,_,h,_=>by simp at h
 | p::P,w::vs,0,m,nd,h1,h2,hk=>by
  simp at h1 h2;subst h1;subst h2
  show bindC kindOf ((p,w)::P.zip vs) m p=_;unfold bindC;rw [qb5 λ v hv=>(z2e.mp nd).1 (List.of_mem_zip hv).1,if_neg hk];simp
 | p::P,w::vs,i+1,m,nd,h1,h2,hk=>by
  show bindC kindOf ((p,w)::P.zip vs) m x=_;unfold bindC;exact qb7 (i:=i) (z2e.mp nd).2 (by simpa using h1) (by simpa using h2) hk
def q4i (N:List Str) (vs:List V):St:=vs.map some++List.replicate (N.length - vs.length) none
def cxOf (CX:CXT) (P:Program) (w:World) (K:PySem.W.Frag) (mg:Str ->Option Value) (base:Heap) (N:List Str) (qual:Str) (scope:Scope) (f:Addr) (cd:Value) (A:Around) (outer:List Env) (s:Shared) (H:Hp) (E:XK):Cx where
 prog:=P
 w:=w
 K:=K
 mg:=mg
 base:=base
 A:=A.deeper (envOfC qual scope s.heap.objs.size f cd)
 N:=N
 s₀:=s
 H₀:=H
 env:=envOfC qual scope s.heap.objs.size f cd
 outer:=outer
 stack:=envOfC qual scope s.heap.objs.size f cd::outer
 ex:=[]
 calm:=true
 fn:=λ _=>true
 pn:=[]
 xe:=λ e s'=>wpAny (model P w) (A.deeper (envOfC qual scope s.heap.objs.size f cd)) (leaving (envOfC qual scope s.heap.objs.size f cd) e) (λ _ s''=>CX outer H s E e s'') (λ e' s''=>CX outer H s E e' s'') s'
theorem qcf {B:Scope} {n:Nat} {x:Str} (h:B.names.lookup x=some .cell):∃ c,(cellsFrom n B.names []).lookup x=some c:=by
 have q:=PySem.W.cellsFrom_some B.names n [] (.inl h);exact Option.isSome_iff_exists.mp q
theorem qgz {CX:CXT} {P:Program} {w:World} {K:PySem.W.Frag} {mg:Str ->Option Value} {base:Heap} {N ps:List Str} {qual:Str} {scope:Scope} {f:Addr} {O:Value} {A:Around} {outer:List Env} {s s1:Shared} {H:Hp} {E:XK} {us:List Value} {vs:List V}
    (S:FnScope N ps scope) (hd:A.handled=none) (B:Env0 P w K mg base A outer s H) (hl:vs.length=ps.length) (r:Vals vs us)
    (x:InCallC s s.heap.objs.size (bindL (envOfC qual scope s.heap.objs.size f O).kindOf (ps.zip us) λ _=>none) (cellsFrom (s.heap.objs.size+1) scope.names []) (bindC (envOfC qual scope s.heap.objs.size f O).kindOf (ps.zip us) λ _=>none) s1):
    Inv (cxOf CX P w K mg base N qual scope f O A outer s H E) [] (q4i N vs) H s1:=by
  have hpl:ps.length<=N.length:=by have:=congrArg List.length S.pre;rw [z1u] at this;omega
  obtain ⟨h1,tk,rfl,hk⟩:=x.done;have D:∀ b:Addr,b∉(cxOf CX P w K mg base N qual scope f O A outer s H E).ex:=λ b z=>absurd (show b∈([]:List Addr) from z) (by simp);refine ⟨⟨B.mod,S.kind,zr,zr,z3b _,λ y z c h1 h2=> ?_,λ y hy=> ?_,λ y c _ h=> ?_,λ _=>hd,Around.frames_deeper B.frames,.inr ⟨zr,zr⟩,λ b z=>absurd z (D b),B.bs,B.bsz,λ b _ _=>D b,λ b z=>absurd z (D b),B.funs,B.frf⟩,
    rfl,B.bare,Un.kept hk,⟨_,x.toInCall.ns,λ i y v h1 h2 h3=> ?_⟩,λ y c h=>⟨_,x.cell y c h⟩,B.hok.fresh (z3b _),λ y c h=> ?_,λ p hp=>absurd (show p∈([]:List (Addr×Obj)) from hp) (by simp),B.hok.kept hk,?_⟩
  · exact name_of_addr x.apart (z0z h1) (z0z h2)
  · have hy:scope.names.lookup y=some .cell\/ scope.names.lookup y=some .free:=hy
    rcases hy with hy | hy
    · exact qcf hy
    · exact absurd rfl (S.nofree _ (z0z hy))
  · exact z31 (x.above y c (z0z h))
  · have hi:i < vs.length:=by
      unfold q4i at h2;by_cases hi:i < vs.length
      · exact hi
      · rw [z04 (by simpa using hi)] at h2
        rw [List.getElem?_replicate] at h2;split at h2 <;> cases h2
    have ha:vs[i]? =some v:=by
      unfold q4i at h2;rw [List.getElem?_append_left (by simpa using hi),z1j] at h2;cases e:vs[i]? with
      | none=>rw [e] at h2;cases h2
      | some a=>rw [e] at h2;cases h2;rfl
    obtain ⟨u,hu,rv⟩:=r.get ha;have hp:ps[i]? =some y:=by
      rw [<- S.pre,List.getElem?_take_of_lt (by omega)];exact h1
    have J:ps.Nodup:=by rw [<- S.pre];exact S.nd.sublist (List.take_sublist _ _)
    refine ⟨u,rv,?_⟩;rcases S.par y (z0u hp) with k | k
    · exact .inl ⟨k,qb6 J hp hu k⟩
    · obtain ⟨c,e⟩:=qcf (n:=s.heap.objs.size+1) k
      refine .inr ⟨.inl k,c,e,?_⟩;have q:=x.cell y c e;rw [qb7 J hp hu (by show scope.names.lookup y≠_;rw [k];decide)] at q;exact q
  · exact B.hok.fresh (z31 (x.above y c (z0z h)))
  · unfold q4i
    show _=N.length;rw [z17,z2c,List.length_replicate];omega
theorem qom {CX:CXT} {P:Program} {w:World} {K:PySem.W.Frag} {mg:Str ->Option Value} {base:Heap} {k:Nat} {f:Addr} {name qual:Str} {params:Arguments} {body:List Stmt} {scope:Scope} {dV kV U pm cdv ct oc:Value} {an od:Option Addr}
  {a7:Array (Option Value)} {N ps:List Str} {sp:Sp} (lk:K.lookup f=some ⟨oc,od,.func (PySem.W.fnOf name qual params body scope dV kV U pm an cdv ct),a7⟩) (a0:PySem.W.codeIn K cdv qual=true) (S:FnScope N ps scope)
  (len:∀ vs H Q E,sp vs H Q E ->vs.length=ps.length)
  (B:∀ (A:Around) (outer:List Env) (s:Shared) (H:Hp) (vs:List V) (Q:VK) (E:XK),Room k (A.deeper (envOfC qual scope s.heap.objs.size f cdv)) ->sp vs H Q E ->
   ∃ t,PSs (cxOf CX P w K mg base N qual scope f cdv A outer s H E) body t/\t {nx:=λ _ H'=>Q .non H',rt:=Q} (q4i N vs) H):
  FnOk P w K mg base CX (k+1) f (PySem.W.fnOf name qual params body scope dV kV U pm an cdv ct) ps sp:=by
 refine ⟨len,λ A outer s H args us vs Q E hr Y hb r Z=> ?_⟩;have hl:=len _ _ _ _ Z;have KX:K.In s.heap:=Y.mod.kin.keeps λ b o e=>(Y.bs b o e).1;have a6:s.heap.NoLimit:=Y.mod.nolimit.keeps λ b o e=>(Y.bs b o e).1;have D:∀ y∈ps.zip us,scope.names.lookup y.1=some .local\/ (scope.names.lookup y.1=some .cell/\((cellsFrom (s.heap.objs.size+1) scope.names []).lookup y.1).isSome=true):=λ ⟨n,v⟩ hy=>by
  rcases S.par n (List.of_mem_zip hy).1 with q | q
  ·exact .inl q
  ·exact .inr ⟨q,PySem.W.cellsFrom_some _ _ _ (.inl q)⟩
 refine codeAny_call_function hr.depth (KX _ _ lk) rfl S.co S.gen rfl (PySem.W.codeRec_of KX a0) (hb _ _ _ _ ?_);refine wpAny_newFunctionEnv_cells S.kind D λ env he s1 x=> ?_;subst he;refine ⟨a6.keeps x.toInCall.keep,codeAny_func ?_⟩;obtain ⟨t,ht,hq⟩:=B A outer s H vs Q E (hr.deeper _) Z;have I:Inv (cxOf CX P w K mg base N qual scope f cdv A outer s H E) [] (q4i N vs) H s1:=qgz S hr.hd Y hl r x;refine z3i (ht [] s1 (q4i N vs) H _ I hq) (λ fl s' O=> ?_) λ e s' O=>O;have fin:∀ {σ':St} {H':Hp} {v:V} {u:Value},Inv (cxOf CX P w K mg base N qual scope f cdv A outer s H E) [] σ' H' s' ->RelV v u ->Q v H' ->CE outer P w H s Q u s':=
  λ {σ' H' v u} J rv q=>⟨v,H',J.os,J.bare,J.base,J.hok,rv,q⟩
 cases fl with
 | ret u=>
  obtain ⟨v,σ',H',J,rv,q⟩:=O;exact fin J rv q
 | next=>
  obtain ⟨σ',H',J,q⟩:=O;exact fin (v:=V.non) (u:=Value.none) J rfl q
 | brk=>
  obtain ⟨_,_,_,q⟩:=O;exact False.elim q
 | cont=>
  obtain ⟨_,_,_,q⟩:=O;exact False.elim q
section
variable {X:Cx} {x:Str} {p pos:Pos} {e:Expr} {es:List Expr} {t:TA} {id T:String} {r:List V ->Hp ->VK ->Prop}
def tCB (r:List V ->Hp ->VK ->Prop) (t:TA):TE:=λ σ H Q=>t σ H λ vs H1=>r vs H1 Q
theorem qu (hc:q30 X (.builtin id) r) (hg:Gl X x) (hm:X.mg x=none) (hv:bootBuiltins x=some (.builtin id)) (ha:PA X (e::es) t) (hn:x≠"__name__":=by decide) (B:(x==("__debug__":Str))=false:=by decide)
  (he:starEach (e::es) X.env=(false,eval e X.env)::starEach es X.env:=by rfl) (D:(backTo pos (starEach es X.env)).any (·.1)=false:=by rfl):PE X (.Call (.Name x p) (e::es) [] pos) (tCB r t):=by
 intro pins s σ H Q I h;refine z1b (q5m I hg hm hv ?_ hn B);exact PyProof.Rows.callWith_builtin1 (thn (ha pos pins s σ H _ I h) λ us s1 ⟨vs,H1,I1,r1,q1⟩=>hc pins s1 σ H1 vs us Q I1 r1 q1) he D
theorem q1u (hc:q30 X (.type T) r) (hg:Gl X x) (hm:X.mg x=none) (hv:bootBuiltins x=some (.type T)) (ha:PA X (e::es) t) (hn:x≠"__name__":=by decide) (B:(x==("__debug__":Str))=false:=by decide)
  (he:starEach (e::es) X.env=(false,eval e X.env)::starEach es X.env:=by rfl) (D:(backTo pos (starEach es X.env)).any (·.1)=false:=by rfl):PE X (.Call (.Name x p) (e::es) [] pos) (tCB r t):=by
 intro pins s σ H Q I h;refine z1b (q5m I hg hm hv ?_ hn B);exact z02 (thn (ha pos pins s σ H _ I h) λ us s1 ⟨vs,H1,I1,r1,q1⟩=>hc pins s1 σ H1 vs us Q I1 r1 q1) he D
end
end L2
namespace HT
open PySem PyProof.Rows
section
open PySem.SeqAt
open PySem.AutoSeq1 (wpAny_loadPart')
open PySem.MeetsSeq PySem.MeetsSeq2 PySem.MeetsSeq3
end
section
variable {prog:Program} {w:World} {A:Around} {E:Value ->Shared ->Prop} {s:Shared}
theorem cat_tup {t b:Addr} {vs B:List Value} {Q:Value ->Shared ->Prop} (ht:IsTup s.heap t vs.toArray) (hb:IsTup s.heap b B.toArray) (hv:vs≠ [])
  (h1:B=[] ->Q (.ref t) s) (h2:B≠ [] ->Q (.ref s.heap.objs.size) {s with heap:=s.heap.push {cls:= .type "tuple",data:= .seq (vs++B).toArray}})
  (hsz:vs.length+B.length<=sizeLine):wpAny (model prog w) A (binaryOp .Add (.ref t) (.ref b)) Q E s:=by
 obtain ⟨⟨cls,dd,data,sl⟩,ho,hc,n,hd⟩:=id ht;obtain ⟨⟨a0,J,Z,Y⟩,D,O,n2,U⟩:=id hb;simp only at hc hd O U;subst hc hd O U;have e:vs.toArray++B.toArray=(vs++B).toArray:=by simp
 by_cases hw:B=[]
 ·exact concat_meets ⟨_,ho,zr⟩ ⟨_,D,zr⟩ noFill_tuple_add seq_tuple_add PySem.F.slot_tuple_add PySem.F.entry_tuple_add (PySem.F.args_tuple_add_2 _ _)
   (tuple_addW1 t b vs.toArray B.toArray n n2 dd J sl Y (by simpa using hv) (by simp [hw])) ⟨ho,D,h1 hw⟩
 ·refine concat_meets ⟨_,ho,zr⟩ ⟨_,D,zr⟩ noFill_tuple_add seq_tuple_add PySem.F.slot_tuple_add PySem.F.entry_tuple_add (PySem.F.args_tuple_add_2 _ _)
   (tuple_addW2 t b vs.toArray B.toArray n n2 dd J sl Y (by simpa using hv) (by simpa using hw) (by rw [z1k,z1k];exact hsz)) ⟨ho,D,?_⟩
  rw [e];exact h2 hw
def sIx (n d:Nat):Option Int ->Nat
 | none=>d
 | some v=>if v < 0 then (v+(n:Int)).toNat else min v.toNat n
theorem sIx_none (n d:Nat):sIx n d none=d:=rfl
theorem sIx_nat (n d k:Nat):sIx n d (some (k:Int))=min k n:=by
 show (if (k:Int) < 0 then ((k:Int)+(n:Int)).toNat else min (k:Int).toNat n)=min k n;rw [if_neg (by omega),z1n]
theorem sIx_le (n d:Nat) (hd:d<=n) (o:Option Int):sIx n d o<=n:=by
 cases o with
 | none=>exact hd
 | some v=>
  show (if v < 0 then (v+(n:Int)).toNat else min v.toNat n)<=n;by_cases B:v < 0
  ·rw [if_pos B];omega
  ·rw [if_neg B];exact Nat.min_le_right _ _
theorem clip_eq (v:Int) (n d:Nat):(if v < 0 then max (v+(n:Int)) 0 else min v (n:Int))=((sIx n d (some v):Nat):Int):=by
 show (if v < 0 then max (v+(n:Int)) 0 else min v (n:Int))=(((if v < 0 then (v+(n:Int)).toNat else min v.toNat n):Nat):Int);by_cases B:v < 0
 ·simp only [if_pos B];omega
 ·simp only [if_neg B];omega
theorem qfv (lo hi:Option Int) (n:Nat):Builtin.Slice.sliceAdjust lo hi 1 (n:Int)=(((sIx n 0 lo:Nat):Int),((sIx n n hi:Nat):Int)):=by
 have h1:¬ ((1:Int) < 0):=by omega
 unfold Builtin.Slice.sliceAdjust;simp only [h1,if_false];refine Prod.ext ?_ ?_
 ·cases lo with
  | none=>rfl
  | some v=>exact clip_eq v n 0
 ·cases hi with
  | none=>rfl
  | some v=>exact clip_eq v n n
theorem qfw (i j:Nat):Builtin.Slice.slicePlaces (i:Int) (j:Int) 1=j - i:=by
 unfold Builtin.Slice.slicePlaces;have h1:(1:Int) > 0:=by omega
 simp only [h1,if_true,Int.ediv_one];split <;> omega
theorem q9o {v:Value} {o:Option Int} {Q:Option Int ->Shared ->Prop} (p:IsPart v o) (h:Q o s):wpAny (model prog w) A (Builtin.Slice.slicePartIndex v) Q E s:=by
 cases p with
 | none=>exact slicePart_none h
 | int i t=>exact slicePart_int h
theorem sliceApplied_gen {U:Addr} {J O:Value} {lo hi:Option Int} {n:Nat} {Q:Int×Int×Nat ->Shared ->Prop} (hs:s.heap.IsSliceOf U J O .none) (pl:IsPart J lo) (pu:IsPart O hi)
  (h:Q (((sIx n 0 lo:Nat):Int),1,sIx n n hi - sIx n 0 lo) s):wpAny (model prog w) A (Builtin.Slice.sliceApplied (.ref U) (pure (n:Int))) Q E s:=by
 obtain ⟨os,D,hcs,B⟩:=id hs;unfold Builtin.Slice.sliceApplied Builtin.Slice.sliceFields;refine z3h (z3h (wpAny_field D B (x:=J) rfl (z3h (wpAny_field D B (x:=O) rfl (z3h (wpAny_field D B (x:= .none) rfl (z3g ?_)))))));refine z3h (slicePart_none ?_);show wpAny _ _ (if ((1:Int)==0)=true then _ else _) _ _ s;rw [if_neg (by decide)];refine z3h (q9o pl (z3h (q9o pu (z3h (z3g ?_)))));show wpAny _ _ (match Builtin.Slice.sliceAdjust lo hi 1 (n:Int) with | (lo,hi)=>pure (lo,(1:Int),Builtin.Slice.slicePlaces lo hi 1)) _ _ s;rw [qfv lo hi n];show wpAny _ _ (pure (((sIx n 0 lo:Nat):Int),(1:Int),Builtin.Slice.slicePlaces ((sIx n 0 lo:Nat):Int) ((sIx n n hi:Nat):Int) 1)) _ _ s;rw [qfw];exact z3g h
theorem qj1 (xs:Array Value) (i k:Nat):((List.range k).filterMap λ (m:Nat)=>xs[((i:Int)+(m:Int)*1).toNat]?).toArray=((xs.toList.drop i).take k).toArray:=by
 have e:(λ (m:Nat)=>xs[((i:Int)+(m:Int)*1).toNat]?)=λ m=>xs[i+m]? :=by
  funext m
  have:((i:Int)+(m:Int)*1).toNat=i+m:=by omega
  rw [this]
 rw [e];have:=pick_run xs i k;rw [List.filterMap_map] at this;have e2:((λ x=>xs[x]?)∘λ x=>i+x)=λ m=>xs[i+m]? :=rfl;rw [e2] at this;rw [this]
theorem getItem_tuple_cut {t Z:Addr} {B:Array Value} {vl vu:Value} {lo hi:Option Int} {Q:Value ->Shared ->Prop} (ht:IsTup s.heap t B) (hs:s.heap.IsSliceOf Z vl vu .none) (pl:IsPart vl lo) (pu:IsPart vu hi)
    (hw:¬ (sIx B.size 0 lo=0/\sIx B.size B.size hi=B.size))
    (h:Q (.ref s.heap.objs.size) {s with heap:=s.heap.push {cls:= .type "tuple",data:= .seq ((B.toList.drop (sIx B.size 0 lo)).take (sIx B.size B.size hi - sIx B.size 0 lo)).toArray}})
    (hsz:B.size<=sizeLine):wpAny (model prog w) A (getItem (.ref t) (.ref Z)) Q E s:=by
  have D:sizeOk (.seq ((B.toList.drop (sIx B.size 0 lo)).take (sIx B.size B.size hi - sIx B.size 0 lo)).toArray):=by
    show ((B.toList.drop (sIx B.size 0 lo)).take (sIx B.size B.size hi - sIx B.size 0 lo)).toArray.size<=sizeLine;rw [z1k,z1u,z1v,z0v];omega
  have hj:sIx B.size B.size hi<=B.size:=sIx_le _ _ (z3b _) hi;obtain ⟨os,Y,O,hds⟩:=id hs;have J:s.TypeIs (.ref Z) "slice":=⟨os,Y,O⟩;unfold getItem
  try with_reducible refine z2w ?_
  first | refine z3h (z3g ?_) | skip
  refine z3h (wpAny_sequenceKey ht.typeIs (by decide) ?_);refine z3h (wpAny_callSpecial?_slot (name:=Str.ofString "__getitem__") ht.typeIs PyProof.Rows.slot_tuple_getitem
    (z22 PyProof.Rows.slot_tuple_getitem ht.typeIs entry_tuple_getitem ?_ (args_tuple_getitem _ _)))
  show wpAny _ _ (Builtin.Tuple.tupleItemsOf (.ref t) >>=_) _ _ s;refine z3h (tupleItemsOf_ ht ?_);refine z3h (wpAny_typeOf J ?_);rw [if_pos (by decide)];refine z3h (sliceApplied_gen hs pl pu ?_);have U:¬ ((((sIx B.size 0 lo:Nat):Int)==0&&(1:Int)==1&&(sIx B.size B.size hi - sIx B.size 0 lo)==B.size)=true):=by
    intro q;rw [z20,z20] at q;have q1:((sIx B.size 0 lo:Nat):Int)=0:=eq_of_beq q.1.1;have q2:sIx B.size B.size hi - sIx B.size 0 lo=B.size:=eq_of_beq q.2;exact hw ⟨by omega,by omega⟩
  show wpAny _ _ (if (((sIx B.size 0 lo:Nat):Int)==0&&(1:Int)==1&&(sIx B.size B.size hi - sIx B.size 0 lo)==B.size)=true then _ else _) _ _ s;rw [if_neg U,qj1]
  first
    | exact z3h (m:=Builtin.Tuple.tupleExact _) (z1o (z3g ⟨_,rfl,z3g h⟩) D)
    | exact z3h (m:=Builtin.Tuple.tupleExact _) (z1o (z3h (z3g (z3g ⟨_,rfl,z3g h⟩))) D)
    | exact z3h (z3h (m:=Builtin.Tuple.tupleExact _) (z1o (z3g (z3g ⟨_,rfl,z3g h⟩)) D))
    | exact z3h (z3h (m:=Builtin.Tuple.tupleExact _) (z1o (z3g ⟨_,rfl,z3g h⟩) D))
end
end HT
namespace L2
open PySem PySem.Spec PyProof.Rows
abbrev TO:=St ->Hp ->(Option Int ->Hp ->Prop) ->Prop
def PO (X:Cx) (e:Option Expr) (t:TO):Prop:=
 ∀ (pins:List (Addr×Obj)) (s:Shared) (σ:St) (H:Hp) (Q:Option Int ->Hp ->Prop),Inv X pins σ H s ->t σ H Q ->
  wpAny (model X.prog X.w) X.A (evalPart e X.env) (λ u s'=>∃ o H',Inv X pins σ H' s'/\IsPart u o/\Q o H') X.xe s
def qld:TO:=λ _ H Q=>Q none H
def qon (t:TE):TO:=λ σ H Q=>t σ H λ x H1=>∃ i,x= .int i/\Q (some i) H1
section
variable {X:Cx} {e:Expr} {te:TE} {lo hi:Option Expr} {tl th:TO} {pos p2:Pos}
theorem q4c:PO X none qld:=by
 intro pins s σ H Q I h;rw [evalPart_none];exact z3g ⟨none,H,I,.none,h⟩
theorem q3l (h:PE X e te):PO X (some e) (qon te):=by
 intro pins s σ H Q I hw;rw [evalPart_some];refine thn (h pins s σ H _ I hw) λ u s1 B=> ?_;obtain ⟨x,H1,I1,r1,q1⟩:=B;obtain ⟨i,rfl,q⟩:=q1;obtain ⟨t,rfl⟩:=r1;exact ⟨some i,H1,I1,.int i t,q⟩
def SlR (X:Cx) (r:V ->Option Int ->Option Int ->Hp ->VK ->Prop):Prop:=
 ∀ (pins:List (Addr×Obj)) (s:Shared) (σ:St) (H:Hp) (x:V) (v vl vu:Value) (lo hi:Option Int) (sl:Addr) (Q:VK),Inv X pins σ H s ->RelV x v ->s.heap.IsSliceOf sl vl vu .none ->IsPart vl lo ->IsPart vu hi ->r x lo hi H Q ->
  ∃ T id,typeLookup (.type T) "__getitem__"=pure (some (.builtin id))/\s.TypeIs v T/\wpAny (model X.prog X.w) X.A (getItem v (.ref sl)) (EP X pins σ Q) X.xe s
def tSl (r:V ->Option Int ->Option Int ->Hp ->VK ->Prop) (te:TE) (tl th:TO):TE:=λ σ H Q=>te σ H λ x H1=>tl σ H1 λ l H2=>th σ H2 λ u H3=>r x l u H3 Q
theorem q3e {r:V ->Option Int ->Option Int ->Hp ->VK ->Prop} (hr:SlR X r) (he:PE X e te) (hl:PO X lo tl) (hu:PO X hi th):PE X (.Subscript e (.Slice lo hi none p2) pos) (tSl r te tl th):=by
 intro pins s σ H Q I h;refine Subscript_ (thn (he pins s σ H _ I h) λ v s1 B=> ?_);obtain ⟨x,H1,I1,r1,q1⟩:=B;refine wpAny_Slice (thn (hl pins s1 σ H1 _ I1 q1) λ D s2 ⟨l,H2,I2,pl,q2⟩=>thn (hu pins s2 σ H2 _ I2 q2) λ J s3 B=> ?_);obtain ⟨u,H3,I3,pu,q3⟩:=B;rw [evalPart_none];refine z3g ?_;have I4:Inv X pins σ H3 {s3 with heap:=s3.heap.push {cls:= .type "slice",data:= .fields #[D,J,.none]}}:=I3.kept (t':=s3.toks) λ b ob q=>z0i _ q;obtain ⟨T,id,hT,ht,hg⟩:=hr pins {s3 with heap:=s3.heap.push {cls:= .type "slice",data:= .fields #[D,J,.none]}} σ H3 x v D J l u s3.heap.objs.size Q I4 r1 (Heap.IsSliceOf.new ..) pl pu q3;show wpAny (model X.prog X.w) X.A (subscriptTail e (.Slice lo hi none p2) v (.ref s3.heap.objs.size)) (EP X pins σ Q) X.xe {s3 with heap:=s3.heap.push {cls:= .type "slice",data:= .fields #[D,J,.none]}};exact tail_any (ops:=[.ref s3.heap.objs.size,v]) ht hT hg (by with_unfolding_all rfl)
def cutV (xs:List V) (lo hi:Option Int):List V:=(xs.drop (HT.sIx xs.length 0 lo)).take (HT.sIx xs.length xs.length hi - HT.sIx xs.length 0 lo)
theorem q8w (xs:List V) (lo hi:Option Int):(cutV xs lo hi).length<=xs.length:=by
 unfold cutV;rw [z1u,z1v];omega
def rSlT (K:PySem.W.Frag):V ->Option Int ->Option Int ->Hp ->VK ->Prop:=λ x lo hi H Q=>∃ a xs,x= .ref a/\SqT K H a xs/\
 ¬ (HT.sIx xs.length 0 lo=0/\HT.sIx xs.length xs.length hi=xs.length)/\∀ p,H p=none ->Q (.ref p) (upd H p (.tup (cutV xs lo hi)))
theorem qh0:SlR X (rSlT X.K):=by
 intro pins s σ H x v vl vu lo hi sl Q I rx hs pl pu h;obtain ⟨a,xs,rfl,hx,hw,q⟩:=h;cases rx
 obtain ⟨its,r,ht,hz⟩:=I.tuple hx;have B:its.toArray.size=xs.length:=by rw [z1k];exact r.length.symm
 refine ⟨"tuple",_,PyProof.Rows.slot_tuple_getitem.lookup,ht.typeIs,?_⟩;refine HT.getItem_tuple_cut ht hs pl pu (by rw [B];exact hw) ?_ (by rw [B];exact hz);rw [B];refine ⟨.ref s.heap.objs.size,_,I.laid (t':=s.toks) (o:= .tup (cutV xs lo hi)) (λ b ob q=>z0i _ q) (z3b _) ?_,zr,q _ (I.hok.fresh (z3b _))⟩;exact ⟨z34 (q8w xs lo hi) hz,_,(r.drop (HT.sIx xs.length 0 lo)).take (HT.sIx xs.length xs.length hi - HT.sIx xs.length 0 lo),IsTup.new _ _⟩
def qoo (K:PySem.W.Frag):R2:=λ x y H Q=>∃ a b xs ys,x= .ref a/\y= .ref b/\SqT K H a xs/\SqT K H b ys/\xs≠ []/\xs.length+ys.length<=sizeLine/\
 (ys=[] ->Q (.ref a) H)/\(ys≠ [] ->∀ p,H p=none ->Q (.ref p) (upd H p (.tup (xs++ys))))
theorem Vals.q8f {xs:List V} {us:List Value} (r:Vals xs us):us=[]↔xs=[]:=by
 cases r with
 | nil=>simp
 | cons _ _=>simp
theorem qle:OpR X (binaryOp .Add) (qoo X.K):=by
 intro pins s σ H x y v u Q I rx ry h;obtain ⟨a,b,xs,ys,rfl,rfl,ha,hb,hx,hz,q1,q2⟩:=h;cases rx
 cases ry
 obtain ⟨its,r1,p1,_⟩:=I.tuple ha;obtain ⟨B,r2,p2,_⟩:=I.tuple hb;refine HT.cat_tup p1 p2 (λ z=>hx (r1.q8f.mp z)) (λ z=>⟨.ref a,H,I,rfl,q1 (r2.q8f.mp z)⟩) (λ z=> ?_) (by rw [<- r1.length,<- r2.length];exact hz);refine ⟨.ref s.heap.objs.size,_,I.laid (t':=s.toks) (o:= .tup (xs++ys)) (λ b ob q=>z0i _ q) (z3b _) ?_,zr,q2 (λ w=>z (r2.q8f.mpr w)) _ (I.hok.fresh (z3b _))⟩;exact ⟨by rw [z17];exact hz,_,r1.append r2,IsTup.new _ _⟩
end
def ixN (n:Nat) (i:Int):Option Nat:=if 0<=i then (if i < n then some i.toNat else none) else if -(n:Int)<=i then some (i+n).toNat else none
def atI {α:Type} (xs:List α) (i:Int):Option α:=(ixN xs.length i).bind λ j=>xs[j]?
theorem qlf {n:Nat} {i:Int} {j:Nat} (h:ixN n i=some j):seqIndex? i n=some j/\j < n/\ -(n:Int)<=i/\i < n:=by
 unfold ixN at h;by_cases B:0<=i
 ·rw [if_pos B] at h;by_cases h1:i < n
  ·rw [if_pos h1] at h;have e:i.toNat=j:=Option.some.inj h;exact ⟨by rw [seqIndex_of B h1,e],by omega,by omega,h1⟩
  ·rw [if_neg h1] at h;cases h
 ·rw [if_neg B] at h;by_cases h1: -(n:Int)<=i
  ·rw [if_pos h1] at h;have e:(i+n).toNat=j:=Option.some.inj h;exact ⟨by rw [seqIndex_neg (by omega) h1,e],by omega,h1,by omega⟩
  ·rw [if_neg h1] at h;cases h
theorem qaj {α:Type} {xs:List α} {i:Int} {v:α} (h:atI xs i=some v):∃ j,seqIndex? i xs.length=some j/\xs[j]? =some v/\j < xs.length/\ -(xs.length:Int)<=i/\i < xs.length:=by
 unfold atI at h;cases e:ixN xs.length i with
 | none=>rw [e] at h;cases h
 | some j=>
  rw [e] at h;obtain ⟨h1,h2,h3,h4⟩:=qlf e;exact ⟨j,h1,h,h2,h3,h4⟩
theorem qk {α:Type} {xs:List α} {j:Nat} {v:α} (h:xs[j]? =some v):atI xs (j:Int)=some v:=by
 have hj:j < xs.length:=(z06.mp h).1;have e:ixN xs.length (j:Int)=some j:=by
  unfold ixN;rw [if_pos (by omega),if_pos (by omega)];simp
 unfold atI;rw [e];exact h
def qlg (b:Expr):Prop:=∀ o i,subscripted b false o i=operate [o,i] (getItem o i)
def IxR (X:Cx) (r:R2):Prop:=
 ∀ (value slice:Expr) (pins:List (Addr×Obj)) (s:Shared) (σ:St) (H:Hp) (x y:V) (v u:Value) (Q:VK),Inv X pins σ H s ->RelV x v ->RelV y u ->r x y H Q ->
  subscripted slice false v u=operate [v,u] (getItem v u) ->wpAny (model X.prog X.w) X.A (subscriptTail value slice v u) (EP X pins σ Q) X.xe s
def MtR (X:Cx) (id:String) (r:V ->List V ->Hp ->VK ->Prop):Prop:=
 ∀ (pins:List (Addr×Obj)) (s:Shared) (σ:St) (H:Hp) (x:V) (xs:List V) (v:Value) (us:List Value) (Q:VK),Inv X pins σ H s ->RelV x v ->Vals xs us ->r x xs H Q ->
  wpAny (model X.prog X.w) X.A (call (.builtin id) (v::us)) (EP X pins σ Q) X.xe s
section
variable {X:Cx} {a b:Expr} {ta tb:TE} {pos:Pos}
theorem qh {r:R2} (hr:IxR X r) (ha:PE X a ta) (hb:PE X b tb) (hs:qlg b):PE X (.Subscript a b pos) (tOp r ta tb):=by
 intro pins s σ H Q I h;exact Subscript_ (binT ha hb I h λ v u s2 x y H2 I2 rx ry q=>hr a b pins s2 σ H2 x y v u Q I2 rx ry q (hs _ _))
def rIxL (K:PySem.W.Frag):R2:=λ x y H Q=>∃ p xs i v,x= .ref p/\y= .int i/\SqL K H p xs/\atI xs i=some v/\Q v H
def rIxT (K:PySem.W.Frag):R2:=λ x y H Q=>∃ p xs i v,x= .ref p/\y= .int i/\SqT K H p xs/\atI xs i=some v/\Q v H
def rIxS:R2:=λ x y H Q=>∃ z i c,x= .str z/\y= .int i/\z.length<=sizeLine/\atI z.cps.toList i=some c/\Q (.str ⟨#[c]⟩) H
theorem qlh:IxR X (rIxL X.K):=by
  intro value J pins s σ H x y v u Q I rx ry h Y;obtain ⟨p,xs,i,z,rfl,rfl,hq,he,q⟩:=h;cases rx
  obtain ⟨t,rfl⟩:=ry;obtain ⟨its,r,pl,hz⟩:=I.list hq;obtain ⟨j,h1,h2,h3,h4,h5⟩:=qaj he;obtain ⟨w,O,D⟩:=r.get h2;have hl:=r.length;have hn:=q9m;have fin:EP X pins σ Q w s:=⟨z,H,I,D,q⟩;by_cases U:0<=i
  · have B:i.toNat=j:=by
      rw [seqIndex_of U h5] at h1;exact Option.some.inj h1
    exact item_listR pl.isList U (by omega) (by rw [B];simpa using O) fin Y
  · have B:(i+(its.toArray.size:Int)).toNat=j:=by
      rw [seqIndex_neg (by omega) h4] at h1;rw [z1k,<- hl];exact Option.some.inj h1
    exact subscriptTail_builtinR (x:=w) pl.isList.typeIs slot_list_getitem.lookup
      (wpAny_getItem_list_neg (Q:=λ r s'=>r=w/\EP X pins σ Q r s') pl.isList (by omega) (by rw [z1k] <;> omega) (by omega) (by rw [B];simpa using O) ⟨rfl,fin⟩) Y
theorem qnb:IxR X (rIxT X.K):=by
 intro value D pins s σ H x y v u Q I rx ry h hs;obtain ⟨p,xs,i,z,rfl,rfl,hq,he,q⟩:=h;cases rx
 obtain ⟨t,rfl⟩:=ry;obtain ⟨its,r,pl,hz⟩:=I.tuple hq;obtain ⟨j,h1,h2,h3,h4,h5⟩:=qaj he;obtain ⟨w,ew,B⟩:=r.get h2;have hl:=r.length;have hn:=q9m;have fin:EP X pins σ Q w s:=⟨z,H,I,B,q⟩;exact subscriptTail_builtinR (x:=w) pl.typeIs slot_tuple_getitem.lookup
  (getItem_tuple (j:=j) (Q:=λ r s'=>r=w/\EP X pins σ Q r s') pl (by omega) (by omega) (by rw [z1k,<- hl];exact h1) (by simpa using ew) ⟨rfl,fin⟩) hs
theorem q9p:IxR X rIxS:=by
 intro value B pins s σ H x y v u Q I rx ry h hs;obtain ⟨z,i,c,rfl,rfl,hz,he,q⟩:=h;obtain ⟨t,rfl⟩:=rx;obtain ⟨t',rfl⟩:=ry;obtain ⟨j,h1,h2,h3,h4,h5⟩:=qaj he;have hl:z.cps.toList.length=z.length:=by simp [Str.length]
 rw [hl] at h1 h4 h5;have hn:=q9m;exact tail_any (typeIs_str s z t) slot_str_getitem.lookup (getItem_str (c:=c) (by
  have e1:decide (i < -(2^63:Int))=false:=z28 (by omega);have e2:decide (i >=2^63)=false:=z28 (by omega);rw [e1,e2,Bool.or_false]) (by rw [h1];simpa using h2) ⟨.str ⟨#[c]⟩,H,I.tok _,⟨_,rfl⟩,q⟩) hs
theorem qcg (lo hi:Option Int) (n:Nat):(sliceBounds lo hi none n).1=((HT.sIx n 0 lo:Nat):Int)/\(sliceBounds lo hi none n).2.1=((HT.sIx n n hi:Nat):Int)/\(sliceBounds lo hi none n).2.2=1:=by
 refine ⟨?_,?_,zr⟩
 ·cases lo with
  | none=>simp [sliceBounds,HT.sIx]
  | some i=>
   simp only [sliceBounds,HT.sIx,Option.getD_none,show (1:Int) > 0 by decide,if_true];by_cases h:i < 0
   ·simp only [h,if_true] <;> omega
   ·simp only [h,if_false] <;> omega
 ·cases hi with
  | none=>simp [sliceBounds,HT.sIx]
  | some i=>
   simp only [sliceBounds,HT.sIx,Option.getD_none,show (1:Int) > 0 by decide,if_true];by_cases h:i < 0
   ·simp only [h,if_true] <;> omega
   ·simp only [h,if_false] <;> omega
theorem qbm (its:List Value) (lo hi:Option Int):slicePick its.toArray lo hi none=((its.drop (HT.sIx its.length 0 lo)).take (HT.sIx its.length its.length hi - HT.sIx its.length 0 lo)).toArray:=by
 obtain ⟨h1,h2,h3⟩:=qcg lo hi its.toArray.size;unfold slicePick;rw [h1,h2,h3];simp only [sliceRange_one,pick_run,z1k] <;> rfl
def rSlL (K:PySem.W.Frag):V ->Option Int ->Option Int ->Hp ->VK ->Prop:=λ x lo hi H Q=>∃ a xs,x= .ref a/\SqL K H a xs/\∀ p,H p=none ->Q (.ref p) (upd H p (.lst (cutV xs lo hi)))
theorem qli:SlR X (rSlL X.K):=by
 intro pins s σ H x v vl vu lo hi sl Q I rx hs pl pu h;obtain ⟨a,xs,rfl,hx,q⟩:=h;cases rx
 obtain ⟨its,r,ht,hz⟩:=I.list hx;have B:=r.length;refine ⟨"list",_,slot_list_getitem.lookup,ht.isList.typeIs,?_⟩;refine wpAny_getItem_list_slice ht.isList hs pl pu .none (by simp) ?_ (by rw [z1k] <;> omega);rw [qbm,<- B];refine ⟨.ref s.heap.objs.size,_,I.laid (t':=s.toks) (o:= .lst (cutV xs lo hi)) (λ b ob q=>z0i _ q) (z3b _) ?_,zr,q _ (I.hok.fresh (z3b _))⟩;exact ⟨z34 (q8w xs lo hi) hz,_,0,(r.drop (HT.sIx xs.length 0 lo)).take (HT.sIx xs.length xs.length hi - HT.sIx xs.length 0 lo),z0y _ rfl⟩
theorem qch:q30 X (.type "list") (λ xs H Q=>∃ p ys,xs=[.ref p]/\(SqL X.K H p ys\/ SqT X.K H p ys)/\∀ l,H l=none ->Q (.ref l) (upd H l (.lst ys))):=by
 intro pins s σ H xs us Q I r h;obtain ⟨p,ys,rfl,hq,q⟩:=h;obtain ⟨u,rfl,rx⟩:=q5e r;cases rx
 have fin:∀ (its:List Value),Vals ys its ->ys.length<=sizeLine ->∀ (h':Heap) (B:Nat),(∀ b o',s.heap.get? b=some o' ->h'.get? b=some o') ->
   h'.get? s.heap.objs.size=some {cls:= .type "list",dict:=none,data:= .seq its.toArray B,slots:=#[]} ->EP X pins σ Q (.ref s.heap.objs.size) {s with heap:=h'}:=λ its D hz h' B kp e=>
  ⟨.ref s.heap.objs.size,_,I.laid (t':=s.toks) kp (z3b _) (show ObjOk X.prog X.w _ h' _ (.lst ys) from ⟨hz,its,B,D,e⟩),rfl,q _ (I.hok.fresh (z3b _))⟩
 rcases hq with hq | hq
 ·obtain ⟨its,D,pl,hz⟩:=I.list hq;have J:=D.length;obtain ⟨o,ho,O,n,hd⟩:=pl.isList;exact call_list_seq p (.inl rfl) ho O hd (λ h' B kp e=>fin its D hz h' B kp e) (by simp only [z1k] <;> omega)
 ·obtain ⟨its,D,pl,hz⟩:=I.tuple hq;have J:=D.length;obtain ⟨o,ho,O,n,hd⟩:=pl;exact call_list_seq p (.inr rfl) ho O hd (λ h' B kp e=>fin its D hz h' B kp e) (by simp only [z1k] <;> omega)
theorem qbn:q30 X (.type "tuple") (λ xs H Q=>∃ p ys,xs=[.ref p]/\((SqL X.K H p ys/\∀ l,H l=none ->Q (.ref l) (upd H l (.tup ys)))\/ (SqT X.K H p ys/\Q (.ref p) H))):=by
 intro pins s σ H xs us Q I r h;obtain ⟨p,ys,rfl,h⟩:=h;obtain ⟨u,rfl,rx⟩:=q5e r;cases rx
 rcases h with ⟨hq,q⟩ | ⟨hq,q⟩
 ·obtain ⟨its,B,pl,hz⟩:=I.list hq;have D:=B.length;refine call_tuple_list pl.isList (λ h' kp=> ?_) (by simp only [z1k] <;> omega);have I1:Inv X pins σ H {s with heap:=h'}:=I.kept (t':=s.toks) kp;have I2:Inv X pins σ (upd H h'.objs.size (.tup ys)) {s with heap:=h'.push {cls:= .type "tuple",data:= .seq its.toArray}}:=
   I1.laid (t':=s.toks) (λ b o e=>z0i _ e) (z3b _) (show ObjOk X.prog X.w _ _ _ (.tup ys) from ⟨hz,its,B,IsTup.new _ _⟩)
  exact ⟨.ref h'.objs.size,_,I2,zr,q _ (I1.hok.fresh (z3b _))⟩
 ·obtain ⟨its,B,pl,hz⟩:=I.tuple hq;exact call_tuple_same pl ⟨.ref p,H,I,zr,q⟩
def tyV (K:PySem.W.Frag) (T:String) (x:V) (H:Hp):Prop:=match x with
 | .str _=>T="str"
 | .int _=>T="int"
 | .ref p=>(T="list"/\∃ xs,SqL K H p xs)\/ (T="tuple"/\∃ o,K.lookup p=some o/\o.cls= .type "tuple"/\o.dict=none)\/
   (T="dict"/\((∃ kvs,H p=some (.dK kvs))\/ ∃ kvs,H p=some (.dT kvs)))\/ (T="set"/\∃ S n,H p=some (.set S n))
 | _=>False
theorem qnc {pins:List (Addr×Obj)} {σ:St} {H:Hp} {s:Shared} {T:String} {x:V} {v:Value} (I:Inv X pins σ H s) (r:RelV x v) (ty:tyV X.K T x H):
    s.TypeIs v T/\∀ a,v= .ref a ->∃ B,s.heap.get? a=some B/\B.dict=none:=by
  cases x with
  | str z=>
    obtain ⟨t,rfl⟩:=r;cases (show T="str" from ty)
    exact ⟨typeIs_str s z t,λ _ e=>nomatch e⟩
  | int i=>
    obtain ⟨t,rfl⟩:=r;cases (show T="int" from ty)
    exact ⟨typeIs_int s i t,λ _ e=>nomatch e⟩
  | ref p=>
    cases r
    rcases ty with ⟨rfl,xs,hq⟩ | ⟨rfl,o,hk,hc,hd⟩ | ⟨rfl,hk⟩ | ⟨rfl,S,n,hk⟩
    · obtain ⟨its,_,pl,_⟩:=I.list hq
      refine ⟨pl.isList.typeIs,λ a e=> ?_⟩;cases e
      obtain ⟨o,n,e,c,hd,_⟩:=pl;exact ⟨o,e,hd⟩
    · refine ⟨⟨o,I.kIn p o hk,hc⟩,λ a e=> ?_⟩
      cases e
      exact ⟨o,I.kIn _ o hk,hd⟩
    · have z:∃ o,s.heap.get? p=some o/\o.ExactDict:=by
        rcases hk with ⟨kvs,hk⟩ | ⟨kvs,hk⟩
        · obtain ⟨_,_,_,_,o,_,_,e,ex,_⟩:=I.hok p _ hk
          exact ⟨o,e,ex⟩
        · obtain ⟨_,_,_,_,o,_,_,e,ex,_⟩:=I.hok p _ hk
          exact ⟨o,e,ex⟩
      obtain ⟨o,e,ex⟩:=z;refine ⟨⟨o,e,ex.1⟩,λ a e2=> ?_⟩;cases e2
      exact ⟨o,e,ex.2.1⟩
    · obtain ⟨o,_,_,_,e,ex,_⟩:=I.hok p _ hk
      refine ⟨⟨o,e,ex.1⟩,λ a e2=> ?_⟩;cases e2
      exact ⟨o,e,ex.2.1⟩
  | _=>exact False.elim ty
def tBM (K:PySem.W.Frag) (T:String) (r:V ->List V ->Hp ->VK ->Prop) (to:TE) (t:TA):TE:=λ σ H Q=>to σ H λ x H1=>tyV K T x H1/\t σ H1 λ xs H2=>r x xs H2 Q
variable {o e:Expr} {es:List Expr} {to:TE} {t:TA} {name:Str} {apos cpos:Pos} {T id:String} {r:V ->List V ->Hp ->VK ->Prop}
theorem q45 (pa:PlainAttrs T) (slot:Slot T name id) (U:typeOf (.builtin id)=pure (.type "method_descriptor")) (hm:MtR X id r) (ho:PE X o to) (ha:PA X (e::es) t)
  (D:attributeBase o name X.env (eval o X.env)=eval o X.env:=by rfl)
  (O:((backTo cpos (starEach (e::es) X.env)).all (λ x=> !x.1)&&(backToKw cpos (keywordEach [] X.env)).all (λ x=>x.1.isSome)
   &&decide ((e::es).length+([]:List Keyword).length+(if ([]:List Keyword).isEmpty then 0 else 1) < 30))=true:=by rfl)
  (J:(apos.endLine==cpos.line)=true:=by rfl) (hs:starEach (e::es) X.env=(false,eval e X.env)::starEach es X.env:=by rfl) (B:(backTo cpos (starEach es X.env)).any (·.1)=false:=by rfl):
  PE X (.Call (.Attribute o name apos) (e::es) [] cpos) (tBM X.K T r to t):=by
 intro pins s σ H Q I h;refine wpAny_Call_method_late D O J rfl (thn (ho pins s σ H _ I h) λ v s1 Y=> ?_);obtain ⟨x,H1,I1,r1,ty,q1⟩:=Y;obtain ⟨h1,h2⟩:=qnc I1 r1 ty;refine ⟨T,id,pa,slot,U,h1,h2,?_⟩;have Z:=ha cpos pins s1 σ H1 _ I1 q1;rw [hs] at Z ⊢;refine Calls.callWith_builtin (by show (false || (backTo cpos (starEach es X.env)).any (·.1))=false;rw [B] <;> rfl) (Calls.evalArgs_plain ?_);exact thn Z λ us s2 ⟨vs,H2,I2,r2,q2⟩=>hm pins s2 σ H2 x vs v us Q I2 r1 r2 q2
/- xs.append(e),list.index on a module's tuple .. are MtR facts of 06m -/
end
def MtM (X:Cx) (id:String) (r:V ->List V ->Hp ->VK ->Prop):Prop:=
 ∀ (pins:List (Addr×Obj)) (s:Shared) (σ:St) (H:Hp) (x:V) (xs:List V) (v:Value) (us:List Value) (Q:VK),Inv X pins σ H s ->RelV x v ->Vals xs us ->r x xs H Q ->
  wpAny (model X.prog X.w) X.A (call (.builtin id) (v::us)) (EP X pins σ Q) X.xe s
theorem Vals.one:∀ {x:V} {us:List Value},Vals [x] us ->∃ u,us=[u]/\RelV x u
 | _,_,.cons r .nil=>⟨_,rfl,r⟩
section
variable {X:Cx} {pins:List (Addr×Obj)} {σ:St} {H:Hp} {s:Shared} {l b:Addr} {xs ys zs:List V}
theorem Inv.lset {its its':List Value} {n:Nat} {f:Array Value ->Array Value} {t':Nat} (I:Inv X pins σ H s) (hH:H l=some (.lst xs))
  (e:s.heap.get? l=some {cls:= .type "list",data:= .seq its.toArray n}) (hf:f its.toArray=its'.toArray) (hv:Vals ys its') (hz:ys.length<=sizeLine):
  Inv X pins σ (upd H l (.lst ys)) {s with heap:=s.heap.update l (Obj.mapSeq f),toks:=t'}:=by
 have q:=PySem.IsL.update e f;rw [hf] at q;refine I.write (x:=l) (e:=l) (by rw [hH];exact trivial) (.inl rfl) (λ b' u hb hu=>(z0j s.heap (Obj.mapSeq f) (Ne.symm hb)).trans hu) ⟨_,q⟩ ?_;exact ⟨hz,its',_,hv,q⟩
theorem Inv.lnew {its:List Value} {t':Nat} (I:Inv X pins σ H s) (hv:Vals ys its) (hz:ys.length<=sizeLine):
  Inv X pins σ (upd H s.heap.objs.size (.lst ys)) {s with heap:=s.heap.push {cls:= .type "list",data:= .seq its.toArray},toks:=t'}:=
 I.laid (λ _ _ q=>z0i _ q) (z3b _) ⟨hz,its,0,hv,z0y _ rfl⟩
theorem Inv.fresh (I:Inv X pins σ H s):H s.heap.objs.size=none:=I.hok.fresh (z3b _)
theorem Inv.lstM (I:Inv X pins σ H s) (hH:H l=some (.lst xs)):xs.length<=sizeLine/\∃ (its:List Value) (n:Nat),Vals xs its/\xs.length=its.length/\s.heap.get? l=some {cls:= .type "list",data:= .seq its.toArray n}:=by
 obtain ⟨z,its,n,r,e⟩:=I.hok l _ hH;exact ⟨z,its,n,r,r.length,e⟩
theorem qj2 {n:Nat} (h:n<=sizeLine):Builtin.List.listTooLong n=false:=by
 unfold Builtin.List.listTooLong;exact z28 (by omega)
end
section
variable {X:Cx}
def qlj:V ->List V ->Hp ->VK ->Prop:=λ x vs H Q=>∃ l xs y,x= .ref l/\vs=[y]/\H l=some (.lst xs)/\xs.length < sizeLine/\Q .non (upd H l (.lst (xs++ [y])))
theorem q3a:MtM X "list.append" qlj:=by
 intro pins s σ H x vs v us Q I rx rv h;obtain ⟨l,xs,y,rfl,rfl,B,hz,q⟩:=h;cases rx
 obtain ⟨u,rfl,ru⟩:=rv.one;obtain ⟨z,its,n,r,hl,e⟩:=I.lstM B;refine call_meets F.slot_list_append ⟨_,e,rfl⟩ F.entry_list_append (F.args_list_append_2 _ _) (PySem.list_append l its.toArray n u (by rw [z1k];omega)) ⟨e,?_⟩;refine ⟨.non,_,I.lset (its':=its++ [u]) B e (by simp) (r.append (.cons ru .nil)) ?_,zr,q⟩;rw [z17,List.length_singleton];omega
def qlk:V ->List V ->Hp ->VK ->Prop:=λ x vs H Q=>∃ l b xs zs,x= .ref l/\vs=[.ref b]/\H l=some (.lst xs)/\H b=some (.lst zs)/\xs.length+zs.length<=sizeLine/\Q .non (upd H l (.lst (xs++zs)))
theorem qb8:MtM X "list.extend" qlk:=by
 intro pins s σ H x vs v us Q I rx rv h;obtain ⟨l,b,xs,zs,rfl,rfl,J,hB,hz,q⟩:=h;cases rx
 obtain ⟨u,rfl,ru⟩:=rv.one;cases ru
 obtain ⟨z,its,n,r,hl,e⟩:=I.lstM J;obtain ⟨z2,B,n2,r2,hl2,e2⟩:=I.lstM hB;have hsz:its.toArray.size+B.toArray.size<=sizeLine:=by rw [z1k,z1k];omega
 have D:¬ (!its.toArray.isEmpty&&Builtin.List.listTooLong (its.toArray.size+B.toArray.size))=true:=by
  rw [qj2 hsz,Bool.and_false];exact z15
 refine call_meets F.slot_list_extend ⟨_,e,zr⟩ F.entry_list_extend (F.args_list_extend_2 _ _)
  (AutoSeq1.list_extend_list_list_0 l its.toArray n b B.toArray n2 D (by rw [z1k];omega) (by omega)) ⟨e,e2,?_⟩
 refine ⟨.non,_,I.lset (its':=its++B) J e (by simp) (r.append r2) ?_,zr,q⟩;rw [z17];omega
def rCat:R2:=λ x y H Q=>∃ l b xs zs,x= .ref l/\y= .ref b/\H l=some (.lst xs)/\H b=some (.lst zs)/\xs.length+zs.length<=sizeLine/\∀ p,H p=none ->Q (.ref p) (upd H p (.lst (xs++zs)))
theorem q6t:OpR X (binaryOp .Add) rCat:=by
 intro pins s σ H x y v u Q I rx ry h;obtain ⟨l,b,xs,zs,rfl,rfl,hH,hB,hz,q⟩:=h;cases rx
 cases ry
 obtain ⟨z,its,n,r,hl,e⟩:=I.lstM hH;obtain ⟨z2,B,n2,r2,hl2,e2⟩:=I.lstM hB;refine PySem.P.add_list e e2 ?_ (by rw [z1k,z1k];omega);have ea:its.toArray++B.toArray=(its++B).toArray:=by simp
 rw [ea];exact ⟨.ref _,_,I.lnew (t':=s.toks) (r.append r2) (by rw [z17];omega),rfl,q _ I.fresh⟩
end
section
variable {prog:Program} {w:World} {A:Around} {E:Value ->Shared ->Prop} {s:Shared}
end
section
variable {X:Cx}
end
section
variable {κ:Type} [DecidableEq κ]
def valV (kvs:List (κ×V)) (k:κ):Option V:=(kvs.find? λ kv=>decide (kv.1=k)).map (·.2)
def putK (kvs:List (κ×V)) (k:κ) (v:V):List (κ×V):=
 if (kvs.any λ kv=>decide (kv.1=k))=true then kvs.map (λ kv=>if kv.1=k then (kv.1,v) else kv) else kvs++ [(k,v)]
theorem q2p {p:κ×V} {r:List (κ×V)} {k:κ} (e:p.1=k):valV (p::r) k=some p.2:=by simp [valV,z2f,e]
theorem q2q {p:κ×V} {r:List (κ×V)} {k:κ} (e:¬ p.1=k):valV (p::r) k=valV r k:=by simp [valV,z2f,e]
theorem q4n (k:κ):∀ kvs:List (κ×V),(kvs.any λ kv=>decide (kv.1=k))=(valV kvs k).isSome
 | []=>rfl
 | p::r=>by
  rw [z2y];by_cases e:p.1=k
  ·simp only [q2p e,z2m e,Bool.true_or,Option.isSome_some]
  ·rw [q2q e,z28 e,Bool.false_or];exact q4n k r
theorem qci (k j:κ) (y:V):∀ kvs:List (κ×V),valV (kvs.map λ B=>if B.1=k then (B.1,y) else B) j=(valV kvs j).map λ x=>if j=k then y else x
 | []=>rfl
 | p::r=>by
  have D:=qci k j y r;rw [z2t];by_cases h:p.1=k
  ·rw [if_pos h];by_cases e:p.1=j
   ·rw [q2p (p:=(p.1,y)) e,q2p e,Option.map_some,if_pos (e.symm.trans h)]
   ·rw [q2q (p:=(p.1,y)) e,q2q e,D]
  ·rw [if_neg h];by_cases e:p.1=j
   ·rw [q2p (p:=p) e,q2p e,Option.map_some,if_neg (λ z=>h (e.trans z))]
   ·rw [q2q (p:=p) e,q2q e,D]
theorem qb9 (k j:κ) (y:V):∀ kvs:List (κ×V),valV kvs k=none ->valV (kvs++ [(k,y)]) j=if j=k then some y else valV kvs j
 | [],_=>by
  by_cases e:k=j
  ·rw [if_pos e.symm];exact q2p (p:=(k,y)) e
  ·rw [if_neg (λ z=>e z.symm)];exact q2q (p:=(k,y)) e
 | p::r,hn=>by
  rw [List.cons_append];have hk:¬ p.1=k:=λ z=>by rw [q2p z] at hn;cases hn
  rw [q2q hk] at hn;have ih:=qb9 k j y r hn;by_cases e:p.1=j
  ·rw [q2p e,q2p e,if_neg (λ z=>hk (e.trans z))]
  ·rw [q2q e,q2q e,ih]
theorem q2y (kvs:List (κ×V)) (k j:κ) (y:V):valV (putK kvs k y) j=if j=k then some y else valV kvs j:=by
 unfold putK;by_cases a:(kvs.any λ kv=>decide (kv.1=k))=true
 ·rw [if_pos a,qci];rw [q4n] at a;by_cases e:j=k
  ·obtain ⟨x,hx⟩:=Option.isSome_iff_exists.mp a;rw [if_pos e,e,hx,Option.map_some,if_pos rfl]
  ·rw [if_neg e];cases valV kvs j with
   | none=>rfl
   | some x=>rw [Option.map_some,if_neg e]
 ·rw [if_neg a];refine qb9 k j y kvs ?_;rw [q4n] at a;cases q:valV kvs k with
  | none=>rfl
  | some x=>rw [q] at a;exact (a rfl).elim
theorem q2a (kvs:List (κ×V)) (k:κ) (v:V):(putK kvs k v).length<=kvs.length+1:=by
 unfold putK;split
 ·rw [z2c];omega
 ·rw [z17,z1w,z2g];omega
theorem qj3 {kvs:List (κ×V)} {k:κ} (v:V) (h:valV kvs k=none):putK kvs k v=kvs++ [(k,v)]:=by
 unfold putK;rw [q4n,h];exact if_neg (by decide)
theorem RelO.q51 {o:Option V} {u:Option Value} (r:RelO o u):o.isSome=u.isSome:=by
 cases o with
 | none=>cases u with
  | none=>rfl
  | some _=>exact (show False from r).elim
 | some _=>cases u with
  | none=>exact (show False from r).elim
  | some _=>rfl
theorem RelO.getD {o:Option V} {u:Option Value} {d:V} {d':Value} (r:RelO o u) (rd:RelV d d'):RelV (o.getD d) (u.getD d'):=by
 cases o with
 | none=>cases u with
  | none=>exact rd
  | some _=>exact (show False from r).elim
 | some _=>cases u with
  | none=>exact (show False from r).elim
  | some _=>exact r
theorem KV.val {kvs:List (κ×V)} {vs:List (κ×Value)} (r:KV kvs vs) (k:κ):RelO (valV kvs k) (valueAt vs k):=by
 unfold KV at r
 induction r with
 | nil=>exact True.intro
 | @cons p q ps B h t ih=>
  obtain ⟨h1,h2⟩:=h;by_cases e:p.1=k
  ·have e':q.1=k:=h1.symm.trans e;have b:valueAt (q::B) k=some q.2:=by simp [valueAt,z2f,e']
   rw [q2p e,b];exact h2
  ·have e':¬ q.1=k:=λ z=>e (h1.trans z);have b:valueAt (q::B) k=valueAt B k:=by simp [valueAt,z2f,e']
   rw [q2q e,b];exact ih
theorem KV.any {kvs:List (κ×V)} {vs:List (κ×Value)} (r:KV kvs vs) (k:κ):(kvs.any λ B=>decide (B.1=k))=vs.any λ B=>decide (B.1=k):=by
 unfold KV at r
 induction r with
 | nil=>rfl
 | cons h t ih=>rw [z2y,z2y,ih,h.1]
theorem KV.repl {kvs:List (κ×V)} {vs:List (κ×Value)} (r:KV kvs vs) (k:κ) {y:V} {u:Value} (ry:RelV y u):
  KV (kvs.map λ B=>if B.1=k then (B.1,y) else B) (vs.map λ B=>if B.1=k then (B.1,u) else B):=by
 unfold KV at r ⊢
 induction r with
 | nil=>exact .nil
 | @cons p q ps qs h t ih=>
  rw [z2t,z2t];refine .cons ?_ ih;obtain ⟨h1,h2⟩:=h;by_cases e:p.1=k
  ·rw [if_pos e,if_pos (h1.symm.trans e)];exact ⟨h1,ry⟩
  ·rw [if_neg e,if_neg (λ z=>e (h1.trans z))];exact ⟨h1,h2⟩
theorem KV.put {kvs:List (κ×V)} {vs:List (κ×Value)} (r:KV kvs vs) (k:κ) {y:V} {u:Value} (ry:RelV y u):KV (putK kvs k y) (stored vs k u):=by
 unfold putK stored;rw [r.any k];by_cases e:(vs.any λ kv=>decide (kv.1=k))=true
 ·rw [if_pos e,if_pos e];exact r.repl k ry
 ·rw [if_neg e,if_neg e];exact Paired.snoc r ⟨rfl,ry⟩
theorem KV.length {kvs:List (κ×V)} {vs:List (κ×Value)} (r:KV kvs vs):kvs.length=vs.length:=Paired.length r
end
theorem q6a {P:Program} {w:World} {k:Key} {u:Value} (r:RelV (kV k) u):(q18 P w).is k u=true:=by
 cases k with
 | inl i=>obtain ⟨t,e⟩:=(show ∃ t,u=Value.int i t from r);subst e;exact qds P w i t
 | inr x=>obtain ⟨t,e⟩:=(show ∃ t,u=Value.str x t from r);subst e;exact qdt P w x t
theorem qnd {a b:Key} (e:kV a=kV b):a=b:=by
 cases a with
 | inl i=>cases b with
  | inl j=>have e':V.int i=V.int j:=e;injection e' with e';rw [e']
  | inr y=>exact nomatch (show V.int i=V.str y from e)
 | inr x=>cases b with
  | inl j=>exact nomatch (show V.str x=V.int j from e)
  | inr y=>have e':V.str x=V.str y:=e;injection e' with e';rw [e']
theorem qba {P:Program} {w:World}:∀ {ks:List Key} {us:List Value},Vals (ks.map kV) us ->ItemsAre (q18 P w) ks us
 | [],_,r=>by rw [z37] at r;cases r;exact .nil
 | k::ks,_,r=>by
  rw [z2t] at r;cases r with
  | cons h t=>exact .cons (q6a h) (qba t)
abbrev KT (H:Hp):List (List Key×V) ->List (List Key×Addr×Value) ->Prop:=Paired λ p q=>p.1=q.1/\H q.2.1=some (.tup (p.1.map kV))/\RelV p.2 q.2.2
theorem KT.val {H:Hp} {kvs:List (List Key×V)} {xs:List (List Key×Addr×Value)} (r:KT H kvs xs) (k:List Key):RelO (valV kvs k) ((atKey xs k).map (·.2)):=by
 induction r with
 | nil=>exact True.intro
 | @cons p q ps B h t ih=>
  obtain ⟨h1,_,h2⟩:=h;by_cases e:p.1=k
  ·have e':q.1=k:=h1.symm.trans e;have b:atKey (q::B) k=some q.2:=by simp [atKey,z2f,e']
   rw [q2p e,b];exact h2
  ·have e':¬ q.1=k:=λ z=>e (h1.trans z);have b:atKey (q::B) k=atKey B k:=by simp [atKey,z2f,e']
   rw [q2q e,b];exact ih
theorem KT.repl {H:Hp} {kvs:List (List Key×V)} {xs:List (List Key×Addr×Value)} (r:KT H kvs xs) (k:List Key) {y:V} {u:Value} (ry:RelV y u):
  KT H (kvs.map λ B=>if B.1=k then (B.1,y) else B) (xs.map (putAt k u)):=by
 induction r with
 | nil=>exact .nil
 | @cons p q ps qs h t ih=>
  rw [z2t,z2t];refine .cons ?_ ih;obtain ⟨h1,h2,h3⟩:=h;unfold putAt;by_cases e:p.1=k
  ·rw [if_pos e,if_pos (h1.symm.trans e)];exact ⟨h1,h2,ry⟩
  ·rw [if_neg e,if_neg (λ z=>e (h1.trans z))];exact ⟨h1,h2,h3⟩
theorem KT.put {H:Hp} {kvs:List (List Key×V)} {xs:List (List Key×Addr×Value)} (r:KT H kvs xs) (k:List Key) {b:Addr} {y:V} {u:Value} (hb:H b=some (.tup (k.map kV))) (ry:RelV y u):
  KT H (putK kvs k y) (storedH xs k b u):=by
 have e:(kvs.any λ kv=>decide (kv.1=k))=(atKey xs k).isSome:=by
  rw [q4n,(r.val k).q51,Option.isSome_map]
 unfold putK storedH;rw [e];by_cases q:(atKey xs k).isSome=true
 ·rw [if_pos q,if_pos q];exact r.repl k ry
 ·rw [if_neg q,if_neg q];exact Paired.snoc r ⟨rfl,hb,ry⟩
theorem KT.keeps {H H':Hp} {kvs:List (List Key×V)} {xs:List (List Key×Addr×Value)} (r:KT H kvs xs) (ht:∀ b ys,H b=some (.tup ys) ->H' b=some (.tup ys)):KT H' kvs xs:=
 Paired.mapP r λ _ _ z=>⟨z.1,ht _ _ z.2.1,z.2.2⟩
section
variable {P:Program} {w:World} {H:Hp} {h:Heap} {a:Addr}
theorem qkt {u:HO} (ok:HOk P w H h) (e:Rd H a u):ObjOk P w H h a u:=e.ok ok
theorem q6b {kvs:List (Key×V)} (ok:HOk P w H h) (e:Rd H a (.dK kvs)):kvs.length<=sizeLine/\(a==sysModules)=false/\∃ vs,KV kvs vs/\h.DictOf (q18 P w) a vs:=
 show ObjOk P w H h a (.dK kvs) from qkt ok e
theorem qc3 {kvs:List (Key×V)} (ok:HOk P w H h) (e:H a=some (.dK kvs)):kvs.length<=sizeLine/\(a==sysModules)=false/\∃ vs,KV kvs vs/\h.DictOf (q18 P w) a vs:=q6b ok (.inl e)
theorem q5q {ks:List Key} (ok:HOk P w H h) (e:H a=some (.tup (ks.map kV))):(tupleKind (q18 P w)).is h ks a:=by
 obtain ⟨_,its,r,o,h1,h2,n,h3⟩:=(show ObjOk P w H h a (.tup (ks.map kV)) from ok a _ e);exact ⟨o,its.toArray,n,h1,h2,h3,by simpa using qba r⟩
theorem q76 {kvs:List (List Key×V)} (ok:HOk P w H h) (e:Rd H a (.dT kvs)):kvs.length<=sizeLine/\(a==sysModules)=false/\
  ∃ xs,KT H kvs xs/\h.DictOfH (tupleKind (q18 P w)) a xs:=by
 obtain ⟨z,y,xs,r,o,es,ep,h1,h2,h3,h4,h5⟩:=(show ObjOk P w H h a (.dT kvs) from qkt ok e);refine ⟨z,y,xs,r,o,es,ep,h1,h2,h3,h4,λ x B=> ?_,h5⟩;have all:∀ {l:List (List Key×V)} {m:List (List Key×Addr×Value)},KT H l m ->∀ x∈m,(tupleKind (q18 P w)).is h x.1 x.2.1:=by
  intro l m q
  induction q with
  | nil=>intro x B;exact nomatch B
  | @cons p q ps qs hq t ih=>
   intro x B;rcases z2v.mp B with e | B
   ·subst e;exact q5q ok (by rw [<- hq.1];exact hq.2.1)
   ·exact ih x B
 exact all r x B
theorem qku {kvs:List (List Key×V)} (ok:HOk P w H h) (e:H a=some (.dT kvs)):kvs.length<=sizeLine/\(a==sysModules)=false/\
  ∃ xs,KT H kvs xs/\h.DictOfH (tupleKind (q18 P w)) a xs:=q76 ok (.inl e)
end
def DGet (H:Hp) (a:Addr) (y:V) (r:Option V):Prop:=
 (∃ kvs k,Rd H a (.dK kvs)/\y=kV k/\r=valV kvs k)\/ ∃ kvs k b,Rd H a (.dT kvs)/\y= .ref b/\H b=some (.tup (k.map kV))/\r=valV kvs k
def DPut (H:Hp) (a:Addr) (y v:V) (H':Hp):Prop:=
 (∃ kvs k,H a=some (.dK kvs)/\y=kV k/\kvs.length < sizeLine/\H'=upd H a (.dK (putK kvs k v)))\/
 ∃ kvs k b,H a=some (.dT kvs)/\y= .ref b/\H b=some (.tup (k.map kV))/\kvs.length < sizeLine/\H'=upd H a (.dT (putK kvs k v))
theorem DGet.k {H:Hp} {a:Addr} {kvs:List (Key×V)} {k:Key} (e:H a=some (.dK kvs)):DGet H a (kV k) (valV kvs k):= .inl ⟨kvs,k,.inl e,rfl,rfl⟩
theorem DGet.t {H:Hp} {a b:Addr} {kvs:List (List Key×V)} {k:List Key} (e:H a=some (.dT kvs)) (eb:H b=some (.tup (k.map kV))):DGet H a (.ref b) (valV kvs k):= .inr ⟨kvs,k,b,.inl e,rfl,eb,rfl⟩
theorem DPut.k {H:Hp} {a:Addr} {kvs:List (Key×V)} {k:Key} {v:V} (e:H a=some (.dK kvs)) (hl:kvs.length < sizeLine):DPut H a (kV k) v (upd H a (.dK (putK kvs k v))):= .inl ⟨kvs,k,e,rfl,hl,rfl⟩
section
variable {X:Cx} {pins:List (Addr×Obj)} {σ:St} {H:Hp} {s:Shared} {a:Addr} {y v:V} {u r:Value} {o:Option V} {A:Around} {E:Value ->Shared ->Prop}
theorem Inv.big (I:Inv X pins σ H s):sysModules < s.heap.objs.size:=by
 have h:mainGlobals < s.heap.objs.size:=(I.mod.glob.keeps I.bk).lt;exact Nat.lt_trans (by decide) h
theorem qh1 {Q:Value ->Shared ->Prop} (hu:A.units+1 < cLine) (I:Inv X pins σ H s) (g:DGet H a y (some v)) (ry:RelV y u) (h:∀ D s',Inv X pins σ H s' ->RelV v D ->Q D s'):
  wpAny (model X.prog X.w) A (getItem (.ref a) u) Q E s:=by
 rcases g with ⟨kvs,k,e,ey,l⟩ | ⟨kvs,k,b,e,ey,eb,l⟩
 ·subst ey;obtain ⟨z,hd,vs,rel,J⟩:=q6b I.hok e;obtain ⟨D,hw,B⟩:=RelO.qai (v:=v) (o:=valueAt vs k) (by rw [l];exact rel.val k);exact wpAny_getItem_of (q6a ry) J.mapOf hw (h D _ (I.tok _) B)
 ·subst ey;cases (show u=Value.ref b from ry)
  obtain ⟨z,hd,xs,rel,J⟩:=q76 I.hok e;obtain ⟨D,hw,B⟩:=RelO.qai (v:=v) (o:=(atKey xs k).map (·.2)) (by rw [l];exact rel.val k);obtain ⟨p,hp,O⟩:=z0k.mp hw;refine wpAny_getItem_heap (tupleKind_room_in1 hu) (q5q I.hok eb) J hp ?_;rw [O];exact h D _ (I.tok _) B
theorem d_in {Q:Value ->Shared ->Prop} (hu:A.units+1 < cLine) (I:Inv X pins σ H s) (g:DGet H a y o) (ry:RelV y u) (h:∀ s',Inv X pins σ H s' ->Q (.bool o.isSome) s'):
  wpAny (model X.prog X.w) A (compareOp .In u (.ref a)) Q E s:=by
 rcases g with ⟨kvs,k,e,ey,l⟩ | ⟨kvs,k,b,e,ey,eb,l⟩
 ·subst ey;obtain ⟨z,hd,vs,rel,B⟩:=q6b I.hok e;refine wpAny_in_of (q6a ry) hd B.mapOf ?_;rw [<- (rel.val k).q51,<- l];exact h _ (I.tok _)
 ·subst ey;cases (show u=Value.ref b from ry)
  obtain ⟨z,hd,xs,rel,B⟩:=q76 I.hok e;refine wpAny_in_heap (tupleKind_room_in1 hu) (q5q I.hok eb) hd B ?_;have q:=(rel.val k).q51;rw [Option.isSome_map] at q;rw [<- q,<- l];exact h _ (I.tok _)
theorem qll {Q:Value ->Shared ->Prop} (hu:A.units+1 < cLine) (I:Inv X pins σ H s) (g:DGet H a y o) (ry:RelV y u) (h:∀ s',Inv X pins σ H s' ->Q (.bool (!o.isSome)) s'):
  wpAny (model X.prog X.w) A (compareOp .NotIn u (.ref a)) Q E s:=by
 rcases g with ⟨kvs,k,e,ey,l⟩ | ⟨kvs,k,b,e,ey,eb,l⟩
 ·subst ey;obtain ⟨z,hd,vs,rel,B⟩:=q6b I.hok e;refine wpAny_notIn_of (q6a ry) hd B.mapOf ?_;rw [<- (rel.val k).q51,<- l];exact h _ (I.tok _)
 ·subst ey;cases (show u=Value.ref b from ry)
  obtain ⟨z,hd,xs,rel,B⟩:=q76 I.hok e;refine wpAny_notIn_heap (tupleKind_room_in1 hu) (q5q I.hok eb) hd B ?_;have q:=(rel.val k).q51;rw [Option.isSome_map] at q;rw [<- q,<- l];exact h _ (I.tok _)
theorem q5i {h':Heap} {t':Nat} {B:HO} (I:Inv X pins σ H s) (mu:Mut (H a)) (hs:Heap.SameBut a s.heap h') (he:∃ q,h'.get? a=some q) (new:ObjOk X.prog X.w (upd H a B) h' a B):
  Inv X pins σ (upd H a B) {s with heap:=h',toks:=t'}:=
 I.write (x:=a) (e:=a) mu (.inl rfl) (λ b q hb z=>(hs.2 b hb).trans z) he new
theorem q9q {P:Program} {w:World} {H':Hp} {h':Heap} {kvs:List (Key×V)} {vs:List (Key×Value)} (z:kvs.length<=sizeLine) (hd:(a==sysModules)=false) (rel:KV kvs vs) (dd:h'.DictOf (q18 P w) a vs):
  ObjOk P w H' h' a (.dK kvs):=⟨z,hd,vs,rel,dd⟩
theorem qh2 {H':Hp} {Q:Unit ->Shared ->Prop} (hu:A.units+1 < cLine) (I:Inv X pins σ H s) (g:DPut H a y v H') (ry:RelV y u) (rv:RelV v r) (h:∀ s',Inv X pins σ H' s' ->Q () s'):
  wpAny (model X.prog X.w) A (setItem (.ref a) u r) Q E s:=by
 rcases g with ⟨kvs,k,e,ey,l,eH⟩ | ⟨kvs,k,b,e,ey,eb,l,eH⟩
 ·subst ey eH;obtain ⟨z,hd,vs,rel,D⟩:=qc3 I.hok e;have hz:vs.length<=sizeLine:=by rw [<- rel.length];exact z
  have hl:(putK kvs k v).length<=sizeLine:=by have:=q2a kvs k v;omega
  refine wpAny_setItem_pairs (hsz:=hz) (q6a ry) D λ h' B J=>h _ ?_;have he:∃ q,h'.get? a=some q:=let ⟨q,_,_,hq,_⟩:=B;⟨q,hq⟩
  exact q5i I (by rw [e];exact True.intro) J he (q9q hl hd (rel.put k rv) B)
 ·subst ey eH;cases (show u=Value.ref b from ry)
  obtain ⟨z,hd,xs,rel,D⟩:=qku I.hok e;have hz:xs.length<=sizeLine:=by rw [<- Paired.length rel];exact z
  have hl:(putK kvs k v).length<=sizeLine:=by have:=q2a kvs k v;omega
  refine wpAny_setItem_heap (hsz:=hz) (tupleKind_room_in1 hu) (q5q I.hok eb) D λ h' B J=>h _ ?_;obtain ⟨q,es,ep,hq,h2,h3,h4,_,h5⟩:=B;refine q5i I (by rw [e];exact True.intro) J ⟨q,hq⟩ ⟨hl,hd,_,(rel.put k eb rv).keeps λ c ys O=> ?_,q,es,ep,hq,h2,h3,h4,h5⟩;rw [qg (qkm O e (λ z=>nomatch z))];exact O
end
section
variable {X:Cx} {pins:List (Addr×Obj)} {σ:St} {H:Hp} {s:Shared} {a:Addr} {kvs:List (Key×V)} {k:Key} {u:Value} {A:Around} {E:Value ->Shared ->Prop}
end
def NoSl (i:Expr):Prop:=∀ ov iv,subscripted i false ov iv=operate [ov,iv] (getItem ov iv)
theorem qlm {prog:Program} {w:World} {A:Around} {E:Value ->Shared ->Prop} {s:Shared} {env:Env} {value B:Expr} {pos:Pos} {T id:String} {Q:Value ->Shared ->Prop}
    (hl:typeLookup (.type T) "__getitem__"=pure (some (.builtin id))) (hs:NoSl B)
    (h:wpAny (model prog w) A (eval value env) (λ o U=>wpAny (model prog w) A (eval B env) (λ i D=>D.TypeIs o T/\wpAny (model prog w) A (getItem o i) Q E D) E U) E s):
    wpAny (model prog w) A (eval (.Subscript value B pos) env) Q E s:=by
  refine Subscript_ (z3i h (λ o U h₁=>z3i h₁ (λ i D J=> ?_) λ _ _ x=>x) λ _ _ x=>x);obtain ⟨O,J⟩:=J;unfold subscriptTail;refine z3h ?_;rw [getitemInPython_of_ne O.not_modules];refine z3h (wpAny_specialOf O hl ?_);have fin:wpAny (model prog w) A (subscripted B false o i) (λ r s₃=>wpAny (model prog w) A (letTemporaryGo value o r >>=λ _=>pure r) Q E s₃) E D:=by
    rw [hs o i];exact wpAny_operating (z3i J (λ r s₃ h₃=>z3h (wpAny_letTemporaryGo (z3g h₃))) λ _ _ x=>x)
  first
    | exact z3g (z3h fin)
    | exact z3h (z3g (z3h fin))
    | exact z3h fin
theorem qdu {X:Cx} {pins:List (Addr×Obj)} {σ:St} {H:Hp} {s:Shared} {a:Addr} {y:V} {o:Option V} (I:Inv X pins σ H s) (g:DGet H a y o):s.TypeIs (.ref a) "dict":=by
 rcases g with ⟨kvs,k,e,_,_⟩ | ⟨kvs,k,b,e,_,_,_⟩
 ·obtain ⟨_,_,vs,_,B⟩:=q6b I.hok e;exact B.typeIs
 ·obtain ⟨_,_,xs,_,B⟩:=q76 I.hok e;exact B.typeIs
def qop (td ty:TE):TE:=λ σ H Q=>td σ H λ x H1=>ty σ H1 λ y H2=>∃ a v,x= .ref a/\DGet H2 a y (some v)/\Q v H2
def tDIn (ty td:TE):TE:=λ σ H Q=>ty σ H λ y H1=>td σ H1 λ x H2=>∃ a o,x= .ref a/\DGet H2 a y o/\Q (.bl o.isSome) H2
def qln (ty td:TE):TE:=λ σ H Q=>ty σ H λ y H1=>td σ H1 λ x H2=>∃ a o,x= .ref a/\DGet H2 a y o/\Q (.bl (!o.isSome)) H2
def qoq (td ty tv:TE):TS:=λ D σ H=>tv σ H λ v H1=>td σ H1 λ x H2=>ty σ H2 λ y H3=>∃ a H4,x= .ref a/\DPut H3 a y v H4/\D.nx σ H4
section
variable {X:Cx} {o i e value:Expr} {pos pos' tpos:Pos} {td ty tv:TE}
theorem qak (hu:X.A.units+1 < cLine) (ho:PE X o td) (hi:PE X i ty) (hs:NoSl i):PE X (.Subscript o i pos) (qop td ty):=by
 intro pins s σ H Q I h;refine qlm PySem.F.slot_dict_getitem.lookup hs (thn (ho pins s σ H _ I h) λ u s1 ⟨x,H1,I1,rx,q1⟩=>thn (hi pins s1 σ H1 _ I1 q1) λ iv s2 D=> ?_);obtain ⟨y,H2,I2,ry,a,v,ex,g,q2⟩:=D;subst ex;obtain rfl:u=Value.ref a:=rx;exact ⟨qdu I2 g,qh1 hu I2 g ry λ w' s3 I3 B=>⟨v,H2,I3,B,q2⟩⟩
theorem qne (hu:X.A.units+1 < cLine) (hi:PE X i ty) (ho:PE X o td):PC X .In i o (tDIn ty td):=by
 intro pins s σ H Q I h;refine thn (hi pins s σ H _ I h) λ iv s1 ⟨y,H1,I1,ry,q1⟩=>thn (ho pins s1 σ H1 _ I1 q1) λ u s2 B=> ?_;obtain ⟨x,H2,I2,rx,a,ov,ex,g,q2⟩:=B;subst ex;obtain rfl:u=Value.ref a:=rx;exact d_in hu I2 g ry λ s3 I3=>⟨.bl ov.isSome,H2,I3,zr,q2⟩
theorem qh3 (hu:X.A.units+1 < cLine) (hi:PE X i ty) (ho:PE X o td):PC X .NotIn i o (qln ty td):=by
 intro pins s σ H Q I h;refine thn (hi pins s σ H _ I h) λ iv s1 ⟨y,H1,I1,ry,q1⟩=>thn (ho pins s1 σ H1 _ I1 q1) λ u s2 B=> ?_;obtain ⟨x,H2,I2,rx,a,ov,ex,g,q2⟩:=B;subst ex;obtain rfl:u=Value.ref a:=rx;exact qll hu I2 g ry λ s3 I3=>⟨.bl (!ov.isSome),H2,I3,zr,q2⟩
theorem qal (hu:X.A.units+1 < cLine) (ho:PE X o td) (hi:PE X i ty) (hv:PE X value tv) (hs:swapsWith value (some (.Subscript o i pos')) pos.line X.env=pure false):
  PS X (.Assign [.Subscript o i pos'] value pos) (qoq td ty tv):=by
 intro pins s σ H D I h;refine wpAny_Assign_Subscript (thn (hv pins s σ H _ I h) λ r s1 ⟨v,H1,I1,rv,q1⟩=>thn (ho pins s1 σ H1 _ I1 q1) λ u s2 ⟨x,H2,I2,rx,q2⟩=>thn (hi pins s2 σ H2 _ I2 q2) λ iv s3 B=> ?_) hs;obtain ⟨y,H3,I3,ry,a,H4,ex,g,q3⟩:=B;subst ex;obtain rfl:u=Value.ref a:=rx;exact qh2 hu I3 g ry rv λ s4 I4=>⟨σ,H4,I4,q3⟩
end
theorem qcj {P:Program} {w:World} {H:Hp} (h:Heap) (hb:sysModules < h.objs.size):ObjOk P w H (h.push {cls:= .type "dict",data:= .dict #[]}) h.objs.size (.dK []):=
 ⟨z3e _,beq_eq_false_iff_ne.mpr (Ne.symm (z33 hb)),[],.nil,Heap.DictOf.new h⟩
theorem qj4 {P:Program} {w:World} {H:Hp} (h:Heap) (hb:sysModules < h.objs.size):ObjOk P w H (h.push {cls:= .type "dict",data:= .dict #[]}) h.objs.size (.dT []):=
 ⟨z3e _,beq_eq_false_iff_ne.mpr (Ne.symm (z33 hb)),[],.nil,_,#[],0,z0y _ rfl,⟨rfl,rfl,rfl⟩,rfl,rfl,z2q⟩
def qnf:TE:=λ _ H Q=>∀ p,H p=none ->Q (.ref p) (upd H p (.dK []))
def qng:TE:=λ _ H Q=>∀ p,H p=none ->Q (.ref p) (upd H p (.dT []))
section
variable {X:Cx} {pos:Pos}
theorem q5r:PE X (.Dict [] [] pos) qnf:=λ pins s σ H Q I h=>
 wpAny_Dict_empty ⟨.ref s.heap.objs.size,_,I.laid (a:=s.heap.objs.size) (o:= .dK []) (t':=s.toks) (λ _ _ q=>z0i _ q) (z3b _) (qcj s.heap I.big),rfl,h _ (I.hok.fresh (z3b _))⟩
theorem qj5:PE X (.Dict [] [] pos) qng:=λ pins s σ H Q I h=>
 wpAny_Dict_empty ⟨.ref s.heap.objs.size,_,I.laid (a:=s.heap.objs.size) (o:= .dT []) (t':=s.toks) (λ _ _ q=>z0i _ q) (z3b _) (qj4 s.heap I.big),rfl,h _ (I.hok.fresh (z3b _))⟩
end
def qck:List (TE×TE) ->St ->Hp ->(List (V×V) ->Hp ->Prop) ->Prop
 | [],_,H,Q=>Q [] H
 | (tk,tv)::r,σ,H,Q=>tk σ H λ x H1=>tv σ H1 λ y H2=>qck r σ H2 λ ps H3=>Q ((x,y)::ps) H3
abbrev VV:List (V×V) ->List (Value×Value) ->Prop:=Paired λ p q=>RelV p.1 q.1/\RelV p.2 q.2
def PPs (X:Cx) (pos:Pos) (keys:List (Option Expr)) (values:List Expr) (trs:List (TE×TE)):Prop:=
 ∀ (pins:List (Addr×Obj)) (s:Shared) (σ:St) (H:Hp) (Q:List (V×V) ->Hp ->Prop),Inv X pins σ H s ->qck trs σ H Q ->
  wpAny (model X.prog X.w) X.A (evalPairs (pairTrees keys values X.env pos)) (λ vs s'=>∃ ps H',Inv X pins σ H' s'/\VV ps vs/\Q ps H') X.xe s
theorem qlo {X:Cx} {pos:Pos}:PPs X pos [] [] []:=λ pins s σ H Q I h=>pairTrees_nil_walk ⟨[],H,I,.nil,h⟩
theorem qcl {X:Cx} {pos:Pos} {k v:Expr} {ks:List (Option Expr)} {vs:List Expr} {tk tv:TE} {B:List (TE×TE)} (hk:PE X k tk) (hv:PE X v tv) (hr:PPs X pos ks vs B):
  PPs X pos (some k::ks) (v::vs) ((tk,tv)::B):=λ pins s σ H Q I h=>
 pairTrees_cons_walk (thn (hk pins s σ H _ I h) λ u s1 ⟨x,H1,I1,rx,q1⟩=>thn (hv pins s1 σ H1 _ I1 q1) λ w2 s2 ⟨y,H2,I2,ry,q2⟩=>
  thn (hr pins s2 σ H2 _ I2 q2) λ ws s3 ⟨ps,H3,I3,rel,q3⟩=>⟨(x,y)::ps,H3,I3,.cons ⟨rx,ry⟩ rel,q3⟩)
def q17 (kvs more:List (Key×V)):List (Key×V):=more.foldl (λ acc kv=>putK acc kv.1 kv.2) kvs
theorem KV.merge:∀ {more:List (Key×V)} {B:List (Key×Value)} {kvs:List (Key×V)} {vs:List (Key×Value)},KV more B ->KV kvs vs ->KV (q17 kvs more) (merged vs B):=by
 intro more B kvs vs r;unfold KV at r
 induction r generalizing kvs vs with
 | nil=>intro q;exact q
 | @cons p q ps qs h t ih=>
  intro r0;have e:KV (putK kvs p.1 p.2) (stored vs q.1 q.2):=by
   have:=r0.put p.1 h.2;rw [<- h.1];exact this
  exact ih e
theorem q3i:∀ (more kvs:List (Key×V)),(q17 kvs more).length<=kvs.length+more.length
 | [],kvs=>by show kvs.length<=kvs.length+0;omega
 | p::r,kvs=>by
  have h1:=q3i r (putK kvs p.1 p.2);have h2:=q2a kvs p.1 p.2;show (q17 (putK kvs p.1 p.2) r).length<=_;rw [z1w];omega
theorem q9r {P:Program} {w:World}:∀ {kvs:List (Key×V)} {J:List (Value×Value)},VV (kvs.map λ D=>(kV D.1,D.2)) J ->∃ B,Carries (q18 P w) J B/\KV kvs B
 | [],_,r=>by rw [z37] at r;cases r;exact ⟨[],True.intro,.nil⟩
 | p::kvs,_,r=>by
  rw [z2t] at r;cases r with
  | @cons a b as bs h t=>
   obtain ⟨B,c,q⟩:=q9r (P:=P) (w:=w) t;obtain ⟨b1,b2⟩:=b;exact ⟨(p.1,b2)::B,⟨q6a h.1,zr,c⟩,.cons ⟨zr,h.2⟩ q⟩
def qor (trs:List (TE×TE)):TE:=λ σ H Q=>∀ p,H p=none ->qck trs σ (upd H p (.dK [])) λ ps H2=>H2 p=some (.dK [])/\∃ kvs:List (Key×V),ps=kvs.map (λ kv=>(kV kv.1,kv.2))/\kvs.length<=15/\Q (.ref p) (upd H2 p (.dK (q17 [] kvs)))
theorem qlp {X:Cx} {pos:Pos} {keys:List (Option Expr)} {B:List Expr} {O:List (TE×TE)} (h:PPs X pos keys B O) (J:keys.all (·.isSome)=true) (hl:keys.length=B.length) (h0:keys≠ [])
  (U:keys.length<=15):PE X (.Dict keys B pos) (qor O):=by
 intro pins s σ H Q I q;have hn:=I.hok.fresh (z3b s.heap.objs.size);have I1:=I.laid (a:=s.heap.objs.size) (o:= .dK []) (h':=s.heap.push {cls:= .type "dict",data:= .dict #[]}) (t':=s.toks) (λ _ _ q=>z0i _ q) (z3b _) (qcj s.heap I.big);refine wpAny_Dict_walk (knd:=q18 X.prog X.w) J hl h0 U (thn (h pins _ σ _ _ I1 (q _ hn)) λ ws s2 Y=> ?_);obtain ⟨ps,H2,I2,rel,e,kvs,ep,lk,q2⟩:=Y;subst ep;obtain ⟨rs,c,rk⟩:=q9r (P:=X.prog) (w:=X.w) rel;obtain ⟨z,hd,vs0,r0,dd⟩:=qc3 I2.hok e;cases r0
 refine ⟨rs,c,dd,λ h' D hs=>⟨.ref s.heap.objs.size,_,?_,zr,q2⟩⟩;have hz:(q17 [] kvs).length<=sizeLine:=by
  have h1:=q3i kvs [];rw [z2g] at h1;rw [sizeLine_eq];omega
 have he:∃ q,h'.get? s.heap.objs.size=some q:=let ⟨q,_,_,hq,_⟩:=D;⟨q,hq⟩
 exact q5i I2 (by rw [e];exact True.intro) hs he (q9q hz hd (rk.merge .nil) D)
structure M1 (X:Cx) (o:Expr) (m:Str) (apos:Pos) (e:Expr) (cpos:Pos):Prop where
 base:attributeBase o m X.env (eval o X.env)=eval o X.env
 few:((backTo cpos (starEach [e] X.env)).all (λ x=> !x.1)&&(backToKw cpos (keywordEach [] X.env)).all (λ x=>x.1.isSome)
  &&decide (([e]:List Expr).length+([]:List Keyword).length+(if ([]:List Keyword).isEmpty then 0 else 1) < 30))=true
 line:(apos.endLine==cpos.line)=true
 trees:backTo cpos (starEach [e] X.env)=[(false,eval e X.env)]
structure M2 (X:Cx) (o:Expr) (m:Str) (apos:Pos) (e f:Expr) (cpos:Pos):Prop where
 base:attributeBase o m X.env (eval o X.env)=eval o X.env
 few:((backTo cpos (starEach [e,f] X.env)).all (λ x=> !x.1)&&(backToKw cpos (keywordEach [] X.env)).all (λ x=>x.1.isSome)
  &&decide (([e,f]:List Expr).length+([]:List Keyword).length+(if ([]:List Keyword).isEmpty then 0 else 1) < 30))=true
 line:(apos.endLine==cpos.line)=true
 trees:backTo cpos (starEach [e,f] X.env)=[(false,eval e X.env),(false,eval f X.env)]
def IsD (H:Hp) (a:Addr):Prop:=(∃ kvs,Rd H a (.dK kvs))\/ ∃ kvs,Rd H a (.dT kvs)
theorem q9s {X:Cx} {pins:List (Addr×Obj)} {σ:St} {H:Hp} {s:Shared} {a:Addr} (I:Inv X pins σ H s) (d:IsD H a):
  s.TypeIs (.ref a) "dict"/\(∀ b,Value.ref a= .ref b ->∃ B,s.heap.get? b=some B/\B.dict=none)/\(a==sysModules)=false:=by
 rcases d with ⟨kvs,e⟩ | ⟨kvs,e⟩
 ·obtain ⟨_,hd,vs,_,D⟩:=q6b I.hok e;refine ⟨D.typeIs,λ b q=> ?_,hd⟩;cases q
  obtain ⟨B,_,_,h1,h2,_⟩:=D;exact ⟨B,h1,h2.2.1⟩
 ·obtain ⟨_,hd,xs,_,D⟩:=q76 I.hok e;refine ⟨D.typeIs,λ b q=> ?_,hd⟩;cases q
  obtain ⟨B,_,_,h1,h2,_⟩:=D;exact ⟨B,h1,h2.2.1⟩
section
variable {X:Cx} {pins:List (Addr×Obj)} {σ:St} {H:Hp} {s:Shared} {a:Addr} {y d:V} {u r:Value} {o:Option V} {A:Around} {E:Value ->Shared ->Prop}
theorem qnh {Q:Value ->Shared ->Prop} (hu:A.units+1 < cLine) (I:Inv X pins σ H s) (g:DGet H a y o) (ry:RelV y u) (D:RelV d r) (h:∀ J s',Inv X pins σ H s' ->RelV (o.getD d) J ->Q J s'):
  wpAny (model X.prog X.w) A (call (.builtin "dict.get") [.ref a,u,r]) Q E s:=by
 rcases g with ⟨kvs,k,e,ey,l⟩ | ⟨kvs,k,b,e,ey,eb,l⟩
 ·subst ey;obtain ⟨z,hd,vs,rel,B⟩:=q6b I.hok e;refine call_meetsIn PySem.F.slot_dict_get B.typeIs PySem.F.entry_dict_get (PySem.F.args_dict_get_3 _ _ _) (meets_dict_get_default (q18 X.prog X.w) a (q6a ry) hd r) ⟨_,B.mapOf,h _ _ (I.tok _) ?_⟩;rw [l];exact (rel.val k).getD D
 ·subst ey;cases (show u=Value.ref b from ry)
  obtain ⟨z,hd,xs,rel,B⟩:=q76 I.hok e;refine call_meetsIn PySem.F.slot_dict_get B.typeIs PySem.F.entry_dict_get (PySem.F.args_dict_get_3 _ _ _) (meetsH_dict_get_default (tupleKind (q18 X.prog X.w)) a b hd r) ⟨tupleKind_room_in1 hu,k,xs,q5q I.hok eb,B,h _ _ (I.tok _) ?_⟩;rw [l];exact (rel.val k).getD D
end
def qh4 (td ty tx:TE):TE:=λ σ H Q=>td σ H λ x H1=>∃ a,x= .ref a/\IsD H1 a/\ty σ H1 λ y H2=>tx σ H2 λ z H3=>∃ o,DGet H3 a y o/\Q (o.getD z) H3
section
variable {X:Cx} {o e f:Expr} {apos cpos:Pos} {td ty tx:TE}
theorem q3t (hu:X.A.units+1 < cLine) (ho:PE X o td) (he:PE X e ty) (hf:PE X f tx) (m:M2 X o "get" apos e f cpos):PE X (.Call (.Attribute o "get" apos) [e,f] [] cpos) (qh4 td ty tx):=by
 intro pins s σ H Q I h;refine wpAny_Call_method m.base m.few m.line PySem.F.plainAttrs_dict PySem.F.slot_dict_get PySem.F.type_dict_get (thn (ho pins s σ H _ I h) λ u s1 D=> ?_);obtain ⟨x,H1,I1,rx,a,ex,d,q1⟩:=D;subst ex;obtain rfl:u=Value.ref a:=rx;obtain ⟨t1,t2,_⟩:=q9s I1 d;refine ⟨t1,t2,?_⟩;rw [m.trees];refine Calls.callWith_builtin rfl (Calls.evalArgs_plain (Calls.spliced_cons (thn (he pins s1 σ H1 _ I1 q1) λ iv s2 ⟨y,H2,I2,ry,q2⟩=>
  Calls.spliced_cons (thn (hf pins s2 σ H2 _ I2 q2) λ fv s3 ⟨z,H3,I3,rz,ov,g,q3⟩=>Calls.spliced_nil ?_))))
 exact qnh hu I3 g ry rz λ w' s4 I4 B=>⟨_,H3,I4,B,q3⟩
end
section
variable {X:Cx} {pins:List (Addr×Obj)} {σ:St} {H:Hp} {s:Shared} {a:Addr} {kvs:List (Key×V)} {A:Around} {E:Value ->Shared ->Prop}
end
section
variable {X:Cx} {pins:List (Addr×Obj)} {σ:St} {H:Hp} {s:Shared} {a:Addr} {y:V} {u:Value} {A:Around} {E:Value ->Shared ->Prop}
end
end L2
namespace Att
open PySem PySem.W PySem.Calls PyProof.Rows
theorem q9t {P:Params} {h:Heap}:∀ (ns:List Int) (vs:List Value),WellAll P h vs (ns.map WData.int) ->IntsAre vs ns:=by
 intro ns
 induction ns with
 | nil=>
  intro vs w;rw [z37] at w;cases w
  exact .nil
 | cons n ns ih=>
  intro vs w;rw [z2t] at w;cases w with
  | cons a b=>
   cases a
   exact .cons _ _ (ih _ b)
theorem qh5 {l:OpenLaw} {n:Nat} (hn:l.most=some n) {P:Params} {h:Heap} {args:List WData} {vals:List Value}
    (B:l.row.toRowW.claim.pre args=true) (U:WellAll P h vals args):
    ∃ a vs ns,vals=[Value.ref a]/\args=[WData.list (ns.map WData.int)]/\h.get? a=some {cls:= .type "list",data:= .seq vs.toArray}/\IntsAre vs ns/\ns.length<=n:=by
  have O:WShape.hasAll [] args [.list .int]=true:=(pre_splitW B).1;have Y:l.pre.holds [] {args:=args}=true:=(pre_splitW B).2;obtain ⟨d,r,rfl,h1,h2⟩:=hasAllW_cons O;obtain rfl:=hasAllW_nil h2;obtain ⟨xs,rfl,h3⟩:=hasW_list h1;obtain ⟨ns,rfl⟩:=items_int h3;have J:ns.length<=n:=by
    unfold OpenLaw.pre at Y;have h4:(WTm.not (.lt (.lit (.int (n:Int))) (.len (.arg 0)))).holds [] {args:=[.list (ns.map .int)]}=true:=by
      have h4:=(holds_andW Y).1;rw [hn] at h4;exact h4
    have h5:=condW_of h4 (w_not (w_lt w_lit (w_len_list (w_arg rfl))));rw [z2c] at h5;refine Nat.le_of_not_lt λ q=> ?_;have q':(n:Int) < ((ns.length:Nat):Int):=by omega
    first
      | (rw [z2m q'] at h5;exact absurd h5 (by decide))
      | (simp at h5;omega)
  cases U with
  | cons w1 w2=>
    cases w2
    cases w1 with
    | list ho D=>exact ⟨_,_,ns,rfl,rfl,ho,q9t ns _ D,J⟩
theorem qh6 (l:OpenLaw) (args:List WData):l.row.toRowW.claim.post args (.bool true) args=true:=
 postW_of (r:=l.row.toRowW) (X:=(true==true))
  (show WShape.has [] (.bool true) .bool=true by first | rfl | decide | simp [WShape.has,WShape.arms,WShape.armsAll])
  (show (WTm.eq .res (.lit (.bool true))).value [] {args:=args,res:=some (.bool true),after:=args}=some (.bool (true==true)) from w_eq_bool (w_res rfl) w_lit) rfl
theorem qdv {l:OpenLaw} {n:Nat} {q:Program} {B:List Str} {XP:(Str ->Option Value) ->Heap ->Prop} {YP:World ->Heap ->Prop} {d:DefRec}
  (hn:l.most=some n) (a8:d.params.defaults=[])
  (call:∀ (w:World) (s₀ D:Shared) (mg mb:Str ->Option Value) (U:Addr) (o:Obj) (pm cd J:Value) (a:Addr) (vs:List Value) (ns:List Int),
   Ground q B [] XP w s₀ mg mb D.heap ->YP w D.heap ->
   D.heap.get? U=some o ->o.data= .func (docDef d.name d.params d.body d.scope pm cd J) ->D.heap.CodeRec cd d.name ->mg d.name=some (.ref U) ->
   D.heap.get? a=some {cls:= .type "list",data:= .seq vs.toArray} ->IntsAre vs ns ->ns.length<=n ->D.gens=#[] ->
   codeAny (model l.prog w) callerA (.call (.ref U) ⟨[.ref a],[]⟩) (λ r s'=>r= .ok (.ret (.bool true))/\OldK D.heap s'.heap/\s'.os=D.os/\AllBare s'.gens) D):
  WalkO q B XP YP l.row.toRowW d [] (λ f vs=>PySem.call f vs):=by
 intro w s₀ D mg mb G Y U o pm cd J dV kV ho hd a7 hD a9 hg args vals as a6 b3 hrd b0 hlo;obtain rfl:dV= .none:=Dflts.none hD a8;obtain rfl:kV= .none:=Dflts.noKw hD;obtain ⟨a,vs,ns,rfl,rfl,a0,O,Z⟩:=qh5 hn a6 b0;refine enter_call (z36 (call w s₀ D mg mb U o pm cd J a vs ns G Y ho (fd_plain hd) a7 a9 a0 O Z hg) λ r s' hq=> ?_);obtain ⟨rfl,h2,h3,h4⟩:=hq;exact ⟨.inl ⟨.bool true,.bool true,[],rfl,λ _=>rfl,.bool true,qh6 l _,λ _=>⟨List.Pairwise.nil,λ _ hm=>(nomatch hm)⟩⟩,h2,h3,h4⟩
section
variable {prog:Program} {w:World} {A:Around} {E:Value ->Shared ->Prop} {s:Shared} {K:Frag}
end
end Att
namespace L2
open PySem PySem.Spec PyProof.Rows
theorem qbb:∀ {vs:List Value} {ns:List Int},IntsAre vs ns ->Vals (ns.map V.int) vs
 | _,_,.nil=> .nil
 | _,_,.cons n t h=> .cons ⟨t,rfl⟩ (qbb h)
def Only (H:Hp):Prop:=∀ b,H b=none\/ ∃ o xs,H b=some (.frz o (.lst xs))
theorem qj6 {P:Program} {w:World} {K:PySem.W.Frag} {mg mb:Str ->Option Value} {CX:CXT} {k:Nat} {fa a:Addr} {fd:FuncData} {x:Str} {sp:Sp} {B:Shared} {vs:List Value} {ns:List Int}
  (KX:K.In B.heap) (a6:B.heap.Ns mainGlobals mg) (J:B.heap.Ns builtinsNs mb) (b0:∀ x:Str,x≠"__name__" ->mb x=bootBuiltins x) (a0:B.heap.NoLimit) (hg:B.gens=#[])
  (ha:B.heap.get? a=some {cls:= .type "list",data:= .seq vs.toArray}) (hi:IntsAre vs ns) (hl:ns.length<=sizeLine) (hr:Room k callerA)
  (F:∀ base:Heap,K.In base ->base.Ns mainGlobals mg ->FnOk P w K mg base CX k fa fd [x] sp) (Y:∀ (s:Shared) (u:Value),BindsTo s fd ⟨[u],[]⟩ [(x,u)])
  (b3:∀ H:Hp,Only H ->SqL K H a (ns.map V.int) ->sp [.ref a] H (λ v _=>v= .bl true) λ _ _ _=>False)
  (a9:∀ H e s',CX [] H B (λ _ _ _=>False) e s' ->False):
  codeAny (model P w) callerA (.call (.ref fa) ⟨[.ref a],[]⟩) (λ r s'=>r= .ok (.ret (.bool true))/\OldK B.heap s'.heap/\s'.os=B.os/\AllBare s'.gens) B:=by
 have rv:=qbb hi;have a8:=hi.length;have U:∀ H:Hp,Only H ->SqL K H a (ns.map V.int) ->HOk P w H B.heap ->(∀ b,H b≠none ->b=a) ->(H a≠none ->K.lookup a=none) ->
   codeAny (model P w) callerA (.call (.ref fa) ⟨[.ref a],[]⟩) (λ r s'=>r= .ok (.ret (.bool true))/\OldK B.heap s'.heap/\s'.os=B.os/\AllBare s'.gens) B:=by
  intro H hO hS hok hA hK;have D:∀ {b:Addr} {o:Obj},B.heap.get? b=some o ->H b=none ->(hidT B.heap H).get? b=some o:=λ e n=>qir e n;have b4:∀ {b:Addr} {o:Obj} {es:Array DictEntry} {ep:Nat},B.heap.get? b=some o ->o.data= .dict es ep ->H b=none:=λ {b o es ep} e d=>by
   cases q:H b with
   | none=>rfl
   | some u=>
    have e':b=a:=hA b (by rw [q];simp);subst e';rw [ha] at e;cases e;have d':Data.seq vs.toArray _=Data.dict es ep:=d;cases d'
  have O:∀ {b:Addr} {m:Str ->Option Value},B.heap.Ns b m ->(hidT B.heap H).Ns b m:=λ {b m} ⟨o,es,ep,e,d,r⟩=>⟨o,es,ep,D e (b4 e d),d,r⟩;have Z:K.In (hidT B.heap H):=λ b o e=>D (KX b o e) (by
   cases q:H b with
   | none=>rfl
   | some u=>
    have e':b=a:=hA b (by rw [q];simp);subst e';rw [hK (by rw [q];simp)] at e;cases e)
  have hM:Mod K mg (hidT B.heap H):=⟨Z,O a6,⟨mb,O J,b0⟩,let ⟨mc,h1,h2⟩:=a0;⟨mc,O h1,h2⟩⟩;have e0:Env0 P w K mg (hidT B.heap H) callerA [] B H:=⟨rfl,hM,λ b o e=>ql1 e,Nat.le_of_eq (qgn _ _),trivial,λ b J=>absurd (show b∈([]:List Addr) from J) (by simp),hok,.of_eq hg⟩;refine z36 ((F _ Z (O a6)).run callerA [] B H ⟨[.ref a],[]⟩ [.ref a] [.ref a] _ _ hr e0 (Y B (.ref a)) (.cons rfl .nil) (b3 H hO hS)) λ r s' h=> ?_;cases r with
  | error e=>exact (a9 H e s' h).elim
  | ok fl=>
   cases fl with
   | next=>exact False.elim h
   | brk=>exact False.elim h
   | cont=>exact False.elim h
   | ret u=>
    obtain ⟨v,H',os,bare,un,a7,r',q⟩:=h;have q':v= .bl true:=q;subst q';obtain rfl:u=Value.bool true:=r';refine ⟨zr,OldK.of_keep λ b o e=> ?_,os,bare⟩;cases q:H b with
    | none=>exact un.keep b o e q (by intro z;exact absurd (show b∈([]:List Addr) from z) (by simp)) (by simp)
    | some u=>
     rcases hO b with z | ⟨ob,xs,z⟩
     ·rw [q] at z;cases z
     ·have z2:=un.frzs b ob _ z;obtain ⟨e1,_⟩:=hok b _ z;obtain ⟨e2,_⟩:=a7 b _ z2;rw [e] at e1;cases e1;exact e2
 cases hk:K.lookup a with
 | some o=>
  have e:=KX a o hk;rw [ha] at e;cases e
  refine U (λ _=>none) (λ _=> .inl rfl) (.inr ⟨_,vs.toArray,_,hk,rfl,rfl,rfl,by rw [z1k,a8];exact hl,by simpa using rv⟩) (λ b u z=>by have z':(none:Option HO)=some u:=z;cases z') (λ b z=>absurd rfl z) λ z=>absurd rfl z
 | none=>
  refine U (λ b=>if b=a then some (.frz {cls:= .type "list",data:= .seq vs.toArray} (.lst (ns.map V.int))) else none) (λ b=> ?_) (.inl (.inr ⟨{cls:= .type "list",data:= .seq vs.toArray},if_pos rfl⟩)) (λ b u z=> ?_) (λ b z=> ?_) λ _=>hk
  ·by_cases J:b=a
   ·exact .inr ⟨_,_,if_pos J⟩
   ·exact .inl (if_neg J)
  ·by_cases J:b=a
   ·have z':=(if_pos J).symm.trans z;cases z'
    subst J;exact ⟨ha,by rw [z2c];exact hl,vs,_,rv,ha⟩
   ·have z':=(if_neg J).symm.trans z;cases z'
  ·by_cases J:b=a
   ·exact J
   ·exact absurd (if_neg J) z
abbrev KOf {K:PySem.W.Frag} {h:Heap} (_:K.In h):PySem.W.Frag:=K
theorem qew {l:PySem.W.OpenLaw} {n k:Nat} {q:Program} {J:List Str} {XP:(Str ->Option Value) ->Heap ->Prop} {YP:World ->Heap ->Prop} {d:DefRec} {K:Params ->PySem.W.Frag} {CX:World ->CXT} {sp:World ->Sp} {x:Str}
  (hn:l.most=some n) (a7:n<=sizeLine) (a0:d.params.defaults=[]) (hr:Room k callerA)
  (hY:∀ (w:World) (h:Heap),YP w h ->(K w.params).In h)
  (F:∀ (w:World) (mg:Str ->Option Value) (U:Addr) (h:Heap),(K w.params).In h ->h.Ns mainGlobals mg ->mg d.name=some (.ref U) ->
   ∃ fd:FuncData,(∀ (s:Shared) (u:Value),BindsTo s fd ⟨[u],[]⟩ [(x,u)])/\
    ∀ base:Heap,(K w.params).In base ->base.Ns mainGlobals mg ->FnOk l.prog w (K w.params) mg base (CX w) k U fd [x] (sp w))
  (a8:∀ (w:World) (H:Hp) (a:Addr) (ns:List Int),ns.length<=n ->Only H ->SqL (K w.params) H a (ns.map V.int) ->sp w [.ref a] H (λ v _=>v= .bl true) λ _ _ _=>False)
  (Z:∀ (w:World) (H:Hp) (s:Shared) (e:Value) (s':Shared),CX w [] H s (λ _ _ _=>False) e s' ->False):
  PySem.W.WalkO q J XP YP l.row.toRowW d [] (λ f vs=>PySem.call f vs):=by
 refine Att.qdv hn a0 λ w s₀ s₁ mg mb U o pm cd doc a vs ns G Y ho hd hcd a6 O D B hg=> ?_;have KX:=hY w _ Y;obtain ⟨fd,hb,hF⟩:=F w mg U _ KX G.T.g a6;exact qj6 KX G.T.g G.T.b G.T.builtins G.T.nolimit hg O D (z34 B a7) hr hF hb (λ H hO hS=>a8 w H a ns B hO hS) λ H e s'=>Z w H s₁ e s'
theorem qj7 {l:PySem.W.OpenLaw} {n k:Nat} {q:Program} {B:List Str} {XP:(Str ->Option Value) ->Heap ->Prop} {Y:World ->Heap ->Prop} {d:DefRec} {K:Params ->PySem.W.Frag} {CX:CXT} {sp:PySem.W.Frag ->Sp} {x:Str}
  (hn:l.most=some n) (O:n<=sizeLine) (J:d.params.defaults=[]) (hr:Room k callerA)
  (hY:∀ (w:World) (h:Heap),Y w h ->(K w.params).In h)
  (F:∀ (w:World) (mg:Str ->Option Value) (Z:Addr) (h:Heap),(K w.params).In h ->h.Ns mainGlobals mg ->mg d.name=some (.ref Z) ->
   ∃ fd:FuncData,(∀ (s:Shared) (u:Value),BindsTo s fd ⟨[u],[]⟩ [(x,u)])/\
    ∀ base:Heap,(K w.params).In base ->base.Ns mainGlobals mg ->FnOk l.prog w (K w.params) mg base CX k Z fd [x] (sp (K w.params)))
  (U:∀ (K:PySem.W.Frag) (H:Hp) (a:Addr) (ns:List Int),ns.length<=n ->Only H ->SqL K H a (ns.map V.int) ->sp K [.ref a] H (λ v _=>v= .bl true) λ _ _ _=>False)
  (D:∀ (H:Hp) (s:Shared) (e:Value) (s':Shared),CX [] H s (λ _ _ _=>False) e s' ->False):
  PySem.W.WalkO q B XP Y l.row.toRowW d [] (λ f vs=>PySem.call f vs):=
 qew (K:=K) (CX:=λ _=>CX) (sp:=λ w=>sp (K w.params)) hn O J hr hY F (λ w H a ns h1 h2 h3=>U (K w.params) H a ns h1 h2 h3) λ _ H s e s'=>D H s e s'
end L2
/- THE LAST THEOREM (shape;LID,My.*are yours):
   My.Adr:a structure of the addresses that your layer names (classes,functions);My.Txt K t:a structure (Prop) of the equations over K;
   My.qdm:{K} {implicit addresses ..} (e1:nsIn K mainGlobals "law"=some (some (.ref f))) (e2:K.lookup f=some ⟨oc,od,.func (fnOf "law" "law" params body scope dV kV doc pm an cdv ct),sl⟩) (e3:codeIn K cdv "law"=true) .. :∃ t,My.Txt K t
set_option maxRecDepth 100000 in
set_option maxHeartbeats 0 in
theorem PySem.Challenge.cw_LID_holds : PySem.Challenge.rw_LID.Holds := by
 w_on;o_law;k_head;(case hw=>w_witness2)
 k_fill
 refine L2.qew (l:=PySem.Challenge.rw_LID) (n:=63) (k:=40) (x:="script") (CX:=λ w=> ..) (sp:=λ _=>My.sp_law) rfl (by decide) rfl ⟨zr,by decide,by decide⟩ (λ w h Y=>PySem.W.kIn_of Y) ?F ?S ?C
 case F=>
  intro w mg fa h KX G hmg;have T:∃ t,My.Txt (L2.KOf KX) t:=by
   dsimp only [L2.KOf] -- K must stand as «<heap const> w.params» for k_is
   refine' My.qdm ?e1 ?e2 ?e3 ..
   (case e1=>PySem.W.k_is) -- in the order:a name ->its address ->its object ->its parts
   (case e2=>PySem.W.k_is)
   ..
  obtain ⟨t,T⟩:=T;have e0:=hmg.symm.trans (z2z KX G T.law);cases e0 -- fa is the law's own address
  exact ⟨_,λ s u=> .of_eq rfl,λ base kb nb=>My.law_fn T kb nb⟩ -- if «.of_eq rfl» comes too early:refine' ⟨_,?b,λ base kb nb=>My.law_fn T kb nb⟩;exact λ s u=> .of_eq rfl
 case S=>exact λ w H a ns hl hO hS=> ..
 case C=>exact ..
(the tactic k_is has no namespace:write k_is) -/
namespace L2
open PySem PySem.Spec PyProof.Rows
def qex (s:Stmt) (j:Nat):Stmt:=match s with
 | .ClassDef _ _ _ body _ _ _ _ _ _ _=>body.getD j (.Pass ⟨0,0,0,0⟩)
 | _=> .Pass ⟨0,0,0,0⟩
def q2o (s:Stmt):Arguments:=match s with
 | .FunctionDef _ a _ _ _ _ _ _ _ _=>a
 | _=>{posonlyargs:=[],args:=[],vararg:=none,kwonlyargs:=[],kw_defaults:=[],kwarg:=none,defaults:=[]}
def q1z (s:Stmt):List Stmt:=match s with
 | .FunctionDef _ _ b _ _ _ _ _ _ _=>b
 | _=>[]
def qf (s:Stmt):Scope:=match s with
 | .FunctionDef _ _ _ _ _ _ sc _ _ _=>sc
 | _=>{kind:= .function,names:=[],isGenerator:=false,isCoroutine:=false}
abbrev CX0:CXT:=λ _ _ _ _ _ _=>False
abbrev E0:XK:=λ _ _ _=>False
theorem qfx {X:Cx}:q6s CX0 X E0:=λ _ _ _ _ _ _ _ h=>h.elim
structure Fun (K:PySem.W.Frag) (x qual:Str) (st:Stmt) (f:Addr) (fd:FuncData):Prop where
 ex:∃ (oc:Value) (od:Option Addr) (kV doc pm:Value) (an:Option Addr) (cdv ct:Value) (osl:Array (Option Value)),
  fd=PySem.W.fnOf x qual (q2o st) (q1z st) (qf st) .none kV doc pm an cdv ct/\K.lookup f=some ⟨oc,od,.func fd,osl⟩/\PySem.W.codeIn K cdv qual=true
 kp:PySem.W.keepIn K (.ref f)=true
section
variable {P:Program} {w:World} {K:PySem.W.Frag} {mg:Str ->Option Value} {base:Heap}
theorem Fun.ok {x qual:Str} {st:Stmt} {f:Addr} {fd:FuncData} {N ps:List Str} {k:Nat} {sp:Sp} (F:Fun K x qual st f fd) (S:FnScope N ps (qf st)) (len:∀ vs H Q E,sp vs H Q E ->vs.length=ps.length)
  (B:∀ (cdv:Value) (A:Around) (outer:List Env) (s:Shared) (H:Hp) (vs:List V) (Q:VK) (E:XK),Room k (A.deeper (envOfC qual (qf st) s.heap.objs.size f cdv)) ->sp vs H Q E ->
   ∃ t,PSs (cxOf CX0 P w K mg base N qual (qf st) f cdv A outer s H E).nox (q1z st) t/\t {nx:=λ _ H'=>Q .non H',rt:=Q} (q4i N vs) H):FnOk P w K mg base CX0 (k+1) f fd ps sp:=by
 obtain ⟨oc,od,kV,doc,pm,an,cdv,ct,osl,rfl,lk,D⟩:=F.ex;refine qom lk D S len λ A outer s H vs Q E hr J=> ?_;obtain ⟨t,h,q⟩:=B cdv A outer s H vs Q E hr J;exact ⟨t,h.nox,q⟩
theorem qh7 {x qual:Str} {st:Stmt} {f:Addr} {U:Value} {Y J:Option Addr} {D:Array (Option Value)} {kV B O cdv ct:Value} (l:K.lookup f=some ⟨U,Y,.func (PySem.W.fnOf x qual (q2o st) (q1z st) (qf st) .none kV B O J cdv ct),D⟩)
  (c:PySem.W.codeIn K cdv qual=true) (k:PySem.W.keepIn K (.ref f)=true):Fun K x qual st f (PySem.W.fnOf x qual (q2o st) (q1z st) (qf st) .none kV B O J cdv ct):=⟨⟨U,Y,kV,B,O,J,cdv,ct,D,rfl,l,c⟩,k⟩
end
theorem q2w {A:Around} {k:Nat} (hr:Room k A):A.units+1 < cLine:=Nat.lt_of_le_of_lt (Nat.add_le_add_left (by decide:1<=64) _) hr.units
theorem q1r {n:Nat} (h:n<=1000):n < sizeLine:=Nat.lt_of_le_of_lt h (by decide)
section
variable {X:Cx}
theorem pv (i:Nat) {x:Str} {pos:Pos} (hN:X.N[i]? =some x:=by rfl) (hv:Vis X.env.scope x:=by first | exact Or.inl rfl | exact Or.inr (Or.inl rfl) | exact Or.inr (Or.inr rfl)) (hd:(x==("__debug__":Str))=false:=by decide)
  (B:(x==("__classdict__":Str))=false:=by decide):PE X (.Name x pos) (tVar i):=qn2 hN hv hd B
end
theorem iteF {A B:Prop} (h:B):if false=true then A else B:=by
 rw [if_neg z15];exact h
theorem iteT {A B:Prop} (h:A):if true=true then A else B:=by
 rw [if_pos rfl];exact h
theorem ite2 {c A B:Prop} [Decidable c] (h1:c ->A) (h2:¬ c ->B):if c then A else B:=by
 by_cases h:c
 ·rw [if_pos h];exact h1 h
 ·rw [if_neg h];exact h2 h
def Same (H H':Hp):Prop:=∀ b o,H b=some o ->H' b=some o
theorem Same.refl (H:Hp):Same H H:=λ _ _ h=>h
theorem Same.trans {H H1 H2:Hp} (a:Same H H1) (b:Same H1 H2):Same H H2:=λ c o h=>b c o (a c o h)
theorem Same.free {H H':Hp} (e:Same H H') {l:Addr} (h:H' l=Option.none):H l=Option.none:=by
 cases q:H l with
 | none=>rfl
 | some o=>
  rw [e l o q] at h;cases h
theorem Same.seq {K:PySem.W.Frag} {H H':Hp} {a:Addr} {xs:List V} (e:Same H H') (h:SqL K H a xs):SqL K H' a xs:=by
 rcases h with (h | ⟨o,h⟩) | h
 ·exact .inl (.inl (e _ _ h))
 ·exact .inl (.inr ⟨o,e _ _ h⟩)
 ·exact .inr h
section
variable {X:Cx}
end
section
variable {κ:Type} [DecidableEq κ]
theorem qj8 {kvs:List (κ×V)} {k:κ} (h:valV kvs k=none):¬ k∈kvs.map (·.1):=by
 intro m;obtain ⟨p,hp,e⟩:=z38.mp m;have q:(kvs.any λ kv=>decide (kv.1=k))=true:=z23.mpr ⟨p,hp,z2m e⟩;rw [q4n,h] at q;exact absurd q (by simp)
theorem qey:∀ {l:List κ} {k:κ},l.Nodup ->¬ k∈l ->(l++ [k]).Nodup
 | [],k,_,_=>by simp
 | a::r,k,h,hk=>by
  obtain ⟨h1,h2⟩:=z2e.mp h;show (a::(r++ [k])).Nodup;refine z2e.mpr ⟨λ m=> ?_,qey h2 λ m=>hk (z2v.mpr (Or.inr m))⟩;rcases z27.mp m with q | q
  ·exact h1 q
  ·exact hk (z2v.mpr (Or.inl (z16.mp q).symm))
theorem qlq {kvs:List (κ×V)} {k:κ} (v:V) (hn:(kvs.map (·.1)).Nodup) (h:valV kvs k=none):((putK kvs k v).map (·.1)).Nodup:=by
 rw [qj3 v h,z2h];exact qey hn (qj8 h)
end
theorem qam {β:Type} {x n:Str} {b c:β} {l:List (Str×β)} (h:((n,b)::l).lookup x=some c):(x=n/\b=c)\/ l.lookup x=some c:=by
 rw [List.lookup_cons] at h;cases e:x==n with
 | true=>
  rw [e] at h;exact .inl ⟨eq_of_beq e,Option.some.inj h⟩
 | false=>
  rw [e] at h;exact .inr h
theorem q97 {β:Type} {x n:Str} {b:β} {l:List (Str×β)} (h:x=n\/ ∃ c,l.lookup x=some c):∃ c,((n,b)::l).lookup x=some c:=by
 rw [List.lookup_cons];cases e:x==n with
 | true=>exact ⟨b,rfl⟩
 | false=>
  rcases h with h | h
  ·subst h;simp at e
  ·exact h
theorem q77 {env:Env}:∀ (names:List (Str×NameKind)) (B:List (Str×Addr)),(∀ y∈names,y.2= .free ->∃ c,env.cells.lookup y.1=some c) ->
    (∀ x c,B.lookup x=some c ->env.cells.lookup x=some c) ->
    ∃ cl,(forIn names B (λ x r=>if (x.2==NameKind.free)=true then (cellOf env x.1 >>=λ c=>pure (ForInStep.yield ((x.1,c)::r))) else pure (ForInStep.yield r)):Sem (List (Str×Addr)))=pure cl/\
      (∀ x c,cl.lookup x=some c ->env.cells.lookup x=some c)/\(∀ y∈names,y.2= .free ->∃ c,cl.lookup y.1=some c)/\(∀ x c,B.lookup x=some c ->∃ D,cl.lookup x=some D)
  | [],B,_,h=>⟨B,rfl,h,(λ _ z=>nomatch z),λ x c e=>⟨c,e⟩⟩
  | (n,k)::r,B,hn,h=>by
    rw [List.forIn_cons];by_cases hk:k= .free
    · subst hk
      obtain ⟨c,U⟩:=hn (n,.free) z18 rfl;have e1:(cellOf env n:Sem Addr)=pure c:=by
        have O:env.cells.lookup n=some c:=U;unfold cellOf;rw [O]
      obtain ⟨cl,e,h1,h2,h3⟩:=q77 r ((n,c)::B) (λ y hy=>hn y (z0s _ hy)) (λ x D e=>by
        rcases qam e with ⟨e1,e2⟩ | e
        · subst e1;subst e2;exact U
        · exact h x D e)
      refine ⟨cl,?_,h1,?_,λ x D e=> ?_⟩
      · show ((if ((n,NameKind.free).2==NameKind.free)=true then (cellOf env n >>=λ c=>pure (ForInStep.yield ((n,c)::B))) else pure (ForInStep.yield B)) >>=_)=_
        rw [if_pos (show ((n,NameKind.free).2==NameKind.free)=true from rfl),e1];exact e
      · intro y hy J
        rcases z2v.mp hy with rfl | hy
        · exact h3 n c (by simp)
        · exact h2 y hy J
      · obtain ⟨c2,e2⟩:=q97 (n:=n) (b:=c) (.inr ⟨D,e⟩)
        exact h3 x c2 e2
    · obtain ⟨cl,e,h1,h2,h3⟩:=q77 r B (λ y hy=>hn y (z0s _ hy)) h
      refine ⟨cl,?_,h1,?_,h3⟩
      · show ((if ((n,k).2==NameKind.free)=true then (cellOf env n >>=λ c=>pure (ForInStep.yield ((n,c)::B))) else pure (ForInStep.yield B)) >>=_)=_
        rw [if_neg (by simpa using hk)];exact e
      · intro y hy J
        rcases z2v.mp hy with rfl | hy
        · exact absurd J hk
        · exact h2 y hy J
theorem qez {scope:Scope} {env:Env} (h:∀ y∈scope.names,y.2= .free ->∃ c,env.cells.lookup y.1=some c):
  ∃ cl,closureFor scope env=pure cl/\(∀ x c,cl.lookup x=some c ->env.cells.lookup x=some c)/\(∀ y∈scope.names,y.2= .free ->∃ c,cl.lookup y.1=some c):=by
 obtain ⟨cl,e,h1,h2,_⟩:=q77 scope.names [] h (λ x c e=>by simp at e);refine ⟨cl,?_,h1,h2⟩;unfold closureFor;show ((forIn scope.names [] (λ x r=>if (x.2==NameKind.free)=true then (cellOf env x.1 >>=λ c=>pure (ForInStep.yield ((x.1,c)::r))) else pure (ForInStep.yield r)):Sem (List (Str×Addr))) >>=λ r=>pure r)=_;rw [e];rfl
def relK (env:Env) (x:Str) (k:NameKind):NameKind:=if (k== .free&&env.scope.kind== .function&&env.kindOf x==some .cell)=true then .cell else k
theorem q6u {env:Env} {x:Str}:∀ (names:List (Str×NameKind)),
    (names.map λ (n,k)=>if (k==NameKind.free&&env.scope.kind== .function&&env.kindOf n==some .cell)=true then (n,NameKind.cell) else (n,k)).lookup x=(names.lookup x).map (relK env x)
  | []=>rfl
  | (n,k)::r=>by
    have ih:=q6u (env:=env) (x:=x) r;have e:(if (k==NameKind.free&&env.scope.kind== .function&&env.kindOf n==some .cell)=true then (n,NameKind.cell) else (n,k))=(n,relK env n k):=by
      unfold relK;split <;> rfl
    show List.lookup x ((if (k==NameKind.free&&env.scope.kind== .function&&env.kindOf n==some .cell)=true then (n,NameKind.cell) else (n,k))::_)=_;rw [e,List.lookup_cons,List.lookup_cons];cases hx:x==n with
    | true=>
      have:=eq_of_beq hx;subst this;rfl
    | false=>exact ih
theorem q8x {scope:Scope} {cl:List (Str×Addr)} {C:Addr} {env:Env} {x:Str}:(compEnvC scope cl C env).kindOf x=(scope.names.lookup x).map (relK env x):=q6u (env:=env) (x:=x) scope.names
theorem qh8 {env:Env} {x:Str}:relK env x .free= .cell\/ relK env x .free= .free:=by
 unfold relK;split
 ·exact .inl rfl
 ·exact .inr rfl
theorem qlr {env:Env} {x:Str} {k:NameKind} (h:relK env x k= .cell\/ relK env x k= .free):k= .cell\/ k= .free:=by
 unfold relK at h;split at h
 ·rename_i z;simp only [z20,beq_iff_eq] at z;exact .inr z.1.1
 ·exact h
def capt (caps:List (Option Nat)) (σ:St):St:=caps.map λ o=>match o with
 | none=>none
 | some j=>(σ[j]?).join
def q9u (oN:List Str) (osc:Scope) (N:List Str) (caps:List (Option Nat)) (sc:Scope):Bool:=
 (sc.kind== .function)&&decide N.Nodup&&(N.length==caps.length)&&sc.names.all (λ y=> !(y.2== .cell))&&
 sc.names.all (λ y=> !(y.2== .local) || sc.names.lookup y.1==some .local)&&
 sc.names.all (λ y=> !(y.2== .free) || (osc.names.lookup y.1==some .cell || osc.names.lookup y.1==some .free))&&
 (N.zip caps).all (λ p=>match p.2 with
  | none=>true
  | some j=>oN[j]? ==some p.1&&sc.names.lookup p.1==some .free)
structure CompOk (oN:List Str) (osc:Scope) (N:List Str) (caps:List (Option Nat)) (sc:Scope):Prop where
 kind:sc.kind= .function
 nd:N.Nodup
 len:N.length=caps.length
 nocell:∀ y∈sc.names,y.2≠ .cell
 loc:∀ y∈sc.names,y.2= .local ->sc.names.lookup y.1=some .local
 fr:∀ y∈sc.names,y.2= .free ->osc.names.lookup y.1=some .cell\/ osc.names.lookup y.1=some .free
 cap:∀ (i j:Nat) (x:Str),N[i]? =some x ->caps[i]? =some (some j) ->oN[j]? =some x/\sc.names.lookup x=some .free
theorem qbc {D:List Str} {B:Scope} {N:List Str} {caps:List (Option Nat)} {J:Scope} (h:q9u D B N caps J=true):CompOk D B N caps J:=by
  unfold q9u at h;simp only [z20,z21,decide_eq_true_eq,beq_iff_eq,Bool.or_eq_true,Bool.not_eq_true',beq_eq_false_iff_ne,ne_eq] at h;obtain ⟨⟨⟨⟨⟨⟨h1,h2⟩,h3⟩,h4⟩,h5⟩,h6⟩,h7⟩:=h;refine ⟨h1,h2,h3,h4,λ y hy e=> ?_,λ y hy e=> ?_,λ i j x hi hj=> ?_⟩
  · rcases h5 y hy with z | z
    · exact absurd e z
    · exact z
  · rcases h6 y hy with z | z
    · exact absurd e z
    · exact z
  · have hm:(x,some j)∈N.zip caps:=by
      refine z0u (i:=i) ?_;rw [List.getElem?_zip_eq_some];exact ⟨hi,hj⟩
    have:=h7 _ hm
    simpa using this
def q3j (X:Cx) (N:List Str) (scope:Scope) (cl:List (Str×Addr)) (C:Addr) (fp:List Addr) (s:Shared) (H:Hp):Cx:=
 {X with N:=N,s₀:=s,H₀:=H,env:=compEnvC scope cl C X.env,outer:=X.stack,ex:=fp,fn:=λ _=>false,pn:=[],xe:=λ _ _=>False}
section
variable {X:Cx} {pins:List (Addr×Obj)} {σ:St} {H:Hp} {s:Shared} {N:List Str} {caps:List (Option Nat)} {scope:Scope} {cl:List (Str×Addr)} {fp:List Addr}
theorem qj9 (I:Inv X pins σ H s) (hf:∀ b∈fp,FpOk X pins H b) (ho:∀ b∈fp,∃ o,s.heap.get? b=some o) (S:CompOk X.N X.env.scope N caps scope)
    (Z:∀ x c,cl.lookup x=some c ->X.env.cells.lookup x=some c) (c2:∀ y∈scope.names,y.2= .free ->∃ c,cl.lookup y.1=some c)
    {h':Heap} {m:Str ->Option Value} {tk:Nat} (hn:h'.Ns s.heap.objs.size m) (hk:∀ b u,s.heap.get? b=some u ->h'.get? b=some u):
    Inv (q3j X N scope cl s.heap.objs.size fp s H) [] (capt caps σ) H {s with heap:=h',toks:=tk}:=by
  have a0:∀ b∈fp,b∉frs X.stack:=λ b hb z=>by
    obtain ⟨_,f1,f2,_⟩:=hf b hb;rcases z2v.mp (I.stkSub b z) with e | e
    · exact f1 e
    · exact f2 e
  have J:∀ x,scope.names.lookup x=some .free ->∃ c,cl.lookup x=some c:=λ x e=>c2 (x,.free) (z0z e) rfl;refine ⟨⟨I.ok.mod,S.kind,I.ok.glob,I.ok.blt,z3b _,λ x y c e1 e2=>I.ok.inj x y c (Z x c e1) (Z y c e2),λ x hx=> ?_,λ x c z _=>absurd (show false=true from z) (by decide),I.ok.hd,I.ok.frames,.inl rfl,
    λ b hb=>⟨?_,λ x c e=>(hf b hb).2.2.2.2.1 x c (Z x c e)⟩,I.bs,z34 I.ok.bsz I.sz,λ b o e hb=> ?_,a0,I.stack,I.stkFree⟩,
    rfl,I.bare,Un.kept hk,⟨m,hn,λ i x v e1 e2 e3=> ?_⟩,λ x c e=> ?_,I.hok.fresh (z3b _),λ x c e=>I.freeC x c (Z x c e),λ p hp=>absurd (show p∈([]:List (Addr×Obj)) from hp) (by simp),I.hok.kept hk,?_⟩
  · have B:(scope.names.lookup x).map (relK X.env x)=some .cell\/ (scope.names.lookup x).map (relK X.env x)=some .free:=by
      rw [<- q8x (cl:=cl) (C:=s.heap.objs.size)];exact hx
    cases e:scope.names.lookup x with
    | none=>
      rw [e] at B;rcases B with z | z <;> cases z
    | some k=>
      rw [e] at B;have z:relK X.env x k= .cell\/ relK X.env x k= .free:=by
        rcases B with z | z
        · exact .inl (Option.some.inj z)
        · exact .inr (Option.some.inj z)
      rcases qlr z with z | z
      · subst z
        exact absurd rfl (S.nocell _ (z0z e))
      · subst z
        exact J x e
  · obtain ⟨o,e⟩:=ho b hb
    exact z33 (z32 e)
  · obtain ⟨_,_,_,f3,_⟩:=hf b hb
    rcases f3 with z | z
    · exact I.ok.noex b o e z
    · exact absurd (z1a (z32 e) (z34 I.ok.bsz z)) (z2x _)
  · have hi:i < caps.length:=by
      unfold capt at e2;obtain ⟨h1,_⟩:=z06.mp e2
      simpa using h1
    have D:(capt caps σ)[i]? =(caps[i]?).map λ o=>match o with
        | none=>none
        | some j=>(σ[j]?).join:=by
      unfold capt;rw [z1j]
    rw [e2] at D;cases q:caps[i]? with
    | none=>
      rw [q] at D;cases D
    | some o=>
      rw [q] at D;cases o with
      | none=>
        cases (Option.some.inj D)
      | some j=>
        have ej:σ[j]? =some (some v):=by
          have z:some v=(σ[j]?).join:=Option.some.inj D;cases q2:σ[j]? with
          | none=>rw [q2] at z;cases z
          | some w=>rw [q2] at z;exact congrArg some z.symm
        obtain ⟨n1,n2⟩:=S.cap i j x e1 q;have Y:X.env.kindOf x=some .cell\/ X.env.kindOf x=some .free:=S.fr (x,.free) (z0z n2) rfl;obtain ⟨m0,_,hl⟩:=I.loc;obtain ⟨u,r,l⟩:=hl j x v n1 ej (.inr Y);refine ⟨u,r,?_⟩;rcases l with ⟨k,_⟩ | ⟨_,c,D,z⟩
        · rw [k] at Y
          rcases Y with z | z <;> cases z
        · obtain ⟨c',e'⟩:=J x n2
          have:c'=c:=Option.some.inj ((Z x c' e').symm.trans D);subst this;refine .inr ⟨?_,c',e',?_⟩
          · have kk:(compEnvC scope cl s.heap.objs.size X.env).kindOf x=some (relK X.env x .free):=by rw [q8x,n2];rfl
            rcases qh8 (env:=X.env) (x:=x) with z | z
            · rw [z] at kk;exact .inl kk
            · rw [z] at kk;exact .inr kk
          · obtain ⟨o,O,U⟩:=z
            exact ⟨o,hk _ _ O,U⟩
  · obtain ⟨v,o,O,U⟩:=I.cell x c (Z x c e)
    exact ⟨v,o,hk _ _ O,U⟩
  · show (capt caps σ).length=N.length
    unfold capt;rw [z2c];exact S.len.symm
end
def PF (X:Cx) (ifs:List Expr) (t:TT):Prop:=
 ∀ (pins:List (Addr×Obj)) (s:Shared) (σ:St) (H:Hp) (Q:Bool ->Hp ->Prop),Inv X pins σ H s ->t σ H Q ->
  wpAny (model X.prog X.w) X.A (forIn ifs true λ c r=>if r=true then do let ok <- isTrue c X.env (eval c X.env);pure (ForInStep.yield ok) else pure (ForInStep.yield r)) (TP X pins σ Q) X.xe s
def tYes:TT:=λ _ H Q=>Q true H
section
variable {X:Cx}
theorem q3u:PF X [] tYes:=λ _ _ _ H _ I h=>z3g ⟨H,I,h⟩
theorem q6v {c:Expr} {t:TT} (hc:PT X c t):PF X [c] t:=by
 intro pins s σ H Q I h;rw [List.forIn_cons];refine z3h ?_;rw [if_pos rfl];refine z3h (thn (hc pins s σ H Q I h) λ ok s1 q=>z3g ?_);exact z3g q
end
theorem qcm {prog:Program} {w:World} {A:Around} {R:Result ->Shared ->Prop} {s:Shared} {elt B iter:Expr} {ifs:List Expr} {scope:Scope} {pos:Pos} {it D:Value} {env:Env} (I:Nat ->Shared ->Prop)
  (turn:∀ n s,I n s ->wpAny (model prog w) A (pyNext it) (λ r U=>match r with
   | none=>R (.ok .next) U
   | some v=>wpAny (model prog w) A (letOwnedTupleGo B it v) (λ _ J=>wpAny (model prog w) A (assign B env v) (λ _ Z=>
     wpAny (model prog w) A (forIn ifs true λ c r=>if r=true then do let ok <- isTrue c env (eval c env);pure (ForInStep.yield ok) else pure (ForInStep.yield r)) (λ ok s₃=>
      if ok=true then wpAny (model prog w) A (eval elt env) (λ x s₄=>
       wpAny (model prog w) A (call (.builtin "list.append") [D,x]) (λ _ s₅=>∃ m,m < n/\I m s₅) (λ _ _=>False) s₄) (λ _ _=>False) s₃
      else ∃ m,m < n/\I m s₃) (λ _ _=>False) Z) (λ _ _=>False) J) (λ _ _=>False) U) (λ _ _=>False) s)
  (n:Nat) (h:I n s):
  codeAny (model prog w) A (.compLoop (.ListComp elt [⟨B,iter,ifs,0⟩] scope pos) 0 it D env) R s:=by
 refine codeAny_loop rfl I (λ n s hI=> ?_) n h;show wpAny _ A ((compTurn (.ListComp elt [⟨B,iter,ifs,0⟩] scope pos) 0 it D env).onRaise (λ x=>do noteFrame x env;theTreesLotGoes x)) _ _ s;refine wpAny_noted ?_;rw [compTurn_list];refine z3h (wpAny_standAt (z3h (z3i (turn n s hI) (λ r U Y=> ?_) λ _ _ z=>False.elim z)));cases r with
 | none=>exact z3g Y
 | some v=>
  refine z3h (z3i Y (λ _ J O=> ?_) λ _ _ z=>False.elim z);refine z3h (z3i O (λ _ Z h₂=>z3h (z3i h₂ (λ ok s₃ h₃=> ?_) λ _ _ z=>False.elim z)) λ _ _ z=>False.elim z);cases ok with
  | false=>exact z3g ⟨rfl,h₃⟩
  | true=>
   exact z3h (z3h (z3i h₃ (λ x s₄ h₄=>z3h (z3i h₄ (λ _ s₅ h₅=>z3g (z3g ⟨zr,h₅⟩)) λ _ _ z=>False.elim z)) λ _ _ z=>False.elim z))
def qkv (J:It) (g:TG) (tf:TT) (te:TE) (D:Addr) (QE:Hp ->Prop) (W:Nat ->Nat ->St ->Hp ->Prop):Prop:=∀ i m σ H,W i m σ H ->
 (J.stop i H/\QE H)\/ (J.go i H/\∃ N:St ->Hp ->Prop,(∀ σ' H',N σ' H' ->∃ m',m' < m/\W (i+1) m' σ' H')/\∀ x H',J.yld i H x H' ->g x σ H' λ σ2 H2=>tf σ2 H2 λ b H3=>
  if b=true then te σ2 H3 λ v H4=>∃ xs,H4 D=some (.lst xs)/\xs.length < sizeLine/\N σ2 (upd H4 D (.lst (xs++ [v]))) else N σ2 H3)
def qfy (caps:List (Option Nat)) (wi:TI) (g:TG) (tf:TT) (te:TE):TE:=λ σ H Q=>wi σ H λ J H1=>∀ D,H1 D=none ->
 ∃ W:Nat ->Nat ->St ->Hp ->Prop,(∃ m,W 0 m (capt caps σ) (upd H1 D (.lst [])))/\qkv J g tf te D (λ H'=>Q (.ref D) H') W
section
variable {X:Cx} {pins:List (Addr×Obj)} {σ:St} {H:Hp} {s:Shared} {N:List Str} {caps:List (Option Nat)} {scope:Scope} {elt tg iter:Expr} {ifs:List Expr} {wi:TI} {g:TG} {tf:TT} {te:TE} {pos:Pos}
theorem qbd {RR:Value ->Addr ->Result ->Shared ->Prop} {cl:List (Str×Addr)} {Q:VK} (hc:X.calm=true) (S:CompOk X.N X.env.scope N caps scope) (hi:PI X tg iter wi)
  (hg:∀ cl C fp s H,PG (q3j X N scope cl C fp s H) tg g) (hf:∀ cl C fp s H,PF (q3j X N scope cl C fp s H) ifs tf) (he:∀ cl C fp s H,PE (q3j X N scope cl C fp s H) elt te)
  (c1:∀ x c,cl.lookup x=some c ->X.env.cells.lookup x=some c) (c2:∀ y∈scope.names,y.2= .free ->∃ c,cl.lookup y.1=some c)
  (I:Inv X pins σ H s) (h:qfy caps wi g tf te σ H Q)
  (fin:∀ (D C:Addr) (m:Str ->Option Value) (H5:Hp) (s5:Shared),Inv X pins σ H5 s5 ->s5.heap.Ns C m ->FpOk X pins H5 C ->Q (.ref D) H5 ->RR (.ref D) C (.ok .next) s5):
  wpAny (model X.prog X.w) X.A (eval iter X.env) (λ x s₁=>wpAny (model X.prog X.w) X.A (pyIter x) (λ it s₂=>wpAny (model X.prog X.w) X.A (newList []) (λ a9 s₃=>
   wpAny (model X.prog X.w) X.A (newFunctionEnv scope X.env.globals cl [] X.env.qual none .none (some X.env)) (λ a0 s₄=>
    codeAny (model X.prog X.w) X.A (.compStart (.ListComp elt [⟨tg,iter,ifs,0⟩] scope pos) 0 it a9 {a0 with scope:=relabel scope X.env}) (RR a9 a0.locals) s₄) X.xe s₃) X.xe s₂) X.xe s₁) X.xe s:=by
 refine thn (hi pins s σ H _ I h) λ v s1 h1=>thn h1 λ itv U h2=> ?_;obtain ⟨it,fp,tn,J,H2,e,I2,T,b6,f2,q⟩:=h2;subst e;have nD:H2 U.heap.objs.size=none:=I2.hok.fresh (z3b _);obtain ⟨W,⟨m0,w0⟩,turn⟩:=q U.heap.objs.size nD;refine z1o ?_;have I3:Inv X pins σ (upd H2 U.heap.objs.size (.lst [])) {U with heap:=U.heap.push {cls:= .type "list",data:= .seq ([]:List Value).toArray}}:=
  I2.laid (t':=U.toks) (o:= .lst []) (λ b ob e=>z0i _ e) (z3b _) ⟨z3e _,[],0,.nil,z0y _ rfl⟩
 have b5:∀ b∈fp,∃ o,U.heap.get? b=some o:=λ b O=>let ⟨o,e,_⟩:=T.obj 0 U.heap b6 b O;⟨o,e⟩
 have c7:∀ b∈fp,b≠U.heap.objs.size:=λ b O=>let ⟨o,e⟩:=b5 b O;z33 (z32 e)
 generalize c6:({U with heap:=U.heap.push {cls:= .type "list",data:= .seq ([]:List Value).toArray}}:Shared)=s3 at I3;have eh:s3.heap=U.heap.push {cls:= .type "list",data:= .seq ([]:List Value).toArray}:=by rw [<- c6]
 generalize hD:U.heap.objs.size=D at*;generalize c4:upd H2 D (.lst [])=H3 at I3 w0;have f3:∀ b∈fp,FpOk X pins H3 b:=λ b O=>⟨by rw [<- c4,qg (c7 b O)];exact (f2 b O).1,(f2 b O).2⟩;have c8:∀ b∈fp,∃ o,s3.heap.get? b=some o:=λ b O=>let ⟨o,e⟩:=b5 b O;⟨o,by rw [eh];exact z0i _ e⟩
 have c9:tn 0 s3.heap:=T.keep 0 _ _ b6 λ b O o e=>by rw [eh];exact z0i _ e
 show wpAny (model X.prog X.w) X.A (newFunctionEnv scope X.env.globals cl [] X.env.qual none .none (some X.env)) _ X.xe s3;refine wpAny_newFunctionEnv S.nocell (by intro y hy;simp at hy) (λ h₁ b3 b4=> ?_) S.kind;have k1:∀ b u,s3.heap.get? b=some u ->h₁.get? b=some u:=λ b u e=>b4.extBut b u (z33 (z32 e)) (z0i _ e);have J0:=qj9 (tk:=s3.toks+([]:List (Str×Value)).length) I3 f3 c8 S c1 c2 b3 k1;generalize hC:s3.heap.objs.size=C at*;generalize B:q3j X N scope cl C fp s3 H3=X' at J0;have Y:tn 0 h₁:=T.keep 0 _ _ c9 λ b O o e=>k1 b o e;have Z:∀ {H':Hp},(∀ b∈fp,H' b=none) ->∀ b∈fp,FpOk X' [] H' b:=λ {H'} hn b O=>by
  subst B;exact ⟨hn b O,(J0.ok.exf b O).1,J0.ok.exfs b O,.inl O,(J0.ok.exf b O).2,λ p hp=>absurd (show p∈([]:List (Addr×Obj)) from hp) (by simp)⟩
 have a6:∀ s4:Shared,s4={s3 with heap:=h₁,toks:=s3.toks+([]:List (Str×Value)).length} ->
   codeAny (model X.prog X.w) X.A (.compLoop (.ListComp elt [⟨tg,iter,ifs,0⟩] scope pos) 0 (.ref it) (.ref D) (compEnvC scope cl C X.env)) (RR (.ref D) C) s4:=by
  rintro s4 rfl;refine qcm (λ n s'=>∃ i σ' H',Inv X' [] σ' H' s'/\tn i s'.heap/\(∀ b∈fp,H' b=none)/\W i n σ' H') ?_ m0 ⟨0,_,H3,J0,Y,λ b O=>(f3 b O).1,w0⟩;rintro n s4 ⟨i,σ4,H4,J4,Y,b0,w4⟩;rcases turn i n σ4 H4 w4 with ⟨stop,qn⟩ | ⟨go,Nn,c5,step⟩
  ·have d:=T.done X' (by subst B;rfl) (by subst B;rfl) (by subst B;rfl) (by subst B;exact hc) i [] s4 σ4 H4 (λ _ _=>False) J4 (Z b0) Y stop;have eA:X'.A=X.A:=by subst B;rfl
   rw [eA] at d;refine z3i d (λ r s5 hr=> ?_) λ _ _ z=>z;obtain ⟨hr,J5⟩:=hr;subst hr;have I5:Inv X pins σ H4 s5:=by
    subst B;exact I3.call' J5.os J5.base J5.hok J5.bare λ b O=>⟨(f3 b O).2.2.2.1,(f3 b O).2.1,(f3 b O).2.2.2.2.1,(f3 b O).2.2.2.2.2⟩
   obtain ⟨m,hn,_⟩:=J5.loc;have fr:=J5.free;subst B;exact fin D C m H4 s5 I5 hn (I3.fpOk (b:=C) (Nat.le_of_eq hC) fr) qn
  ·have d:=T.item X' (by subst B;rfl) (by subst B;rfl) (by subst B;rfl) (by subst B;exact hc) i [] s4 σ4 H4 (λ _ _=>False) J4 (Z b0) Y go;have eA:X'.A=X.A:=by subst B;rfl
   rw [eA] at d;refine z3i d (λ r s5 hr=> ?_) λ _ _ z=>z;obtain ⟨u,hr,h5⟩:=hr;subst hr;refine z3i h5 (λ _ s6 q6=> ?_) λ _ _ z=>z;obtain ⟨x,H6,J6,r6,y6,a8,b9⟩:=q6;have b8:=J6.pinned (Z b9) (T.obj _ _ a8);have again:∀ {H9:Hp} {s9:Shared} {σ9:St},Inv X' ([]++q7y fp s6.heap) σ9 H9 s9 ->Nn σ9 H9 ->∃ m,m < n/\∃ i σ' H',Inv X' [] σ' H' s9/\tn i s9.heap/\(∀ b∈fp,H' b=none)/\W i m σ' H':=λ {H9 s9 σ9} J9 q9=>by
    obtain ⟨m',hm,w9⟩:=c5 σ9 H9 q9;refine ⟨m',hm,i+1,σ9,H9,J9.unpinned,T.keep _ _ _ a8 λ b O o e=>(J9.pin (b,o) (z0n _ (z0n _ (q4g O e)))).1,λ b O=> ?_,w9⟩;obtain ⟨o,e,d⟩:=T.obj _ _ a8 b O;exact (J9.pin (b,o) (z0n _ (z0n _ (q4g O e)))).2.1
   subst B;refine z3i (hg cl C fp s3 H3 _ s6 σ4 H6 x u _ b8 r6 (step x H6 y6)) (λ _ s7 q7=> ?_) λ _ _ z=>z;obtain ⟨σ7,H7,J7,q7⟩:=q7;refine z3i (hf cl C fp s3 H3 _ s7 σ7 H7 _ J7 q7) (λ ok s8 q8=> ?_) λ _ _ z=>z;obtain ⟨H8,J8,q8⟩:=q8;cases ok with
   | false=>
    rw [if_neg (by decide)] at q8;rw [if_neg (by decide)];exact again J8 q8
   | true=>
    rw [if_pos rfl] at q8;rw [if_pos rfl];refine z3i (he cl C fp s3 H3 _ s8 σ7 H8 _ J8 q8) (λ v9 s9 q9=> ?_) λ _ _ z=>z;obtain ⟨y,H9,J9,r9,xs,c0,hz,q9⟩:=q9;refine z3i (q3a (X:=q3j X N scope cl C fp s3 H3) _ s9 σ7 H9 (.ref D) [y] (.ref D) [v9] (λ _ H'=>Nn σ7 H') J9 rfl (.cons r9 .nil) ⟨D,xs,y,zr,zr,c0,hz,q9⟩) (λ _ s10 a7=> ?_) λ _ _ z=>z;obtain ⟨_,H10,b7,_,a7⟩:=a7;exact again b7 a7
 exact codeAny_compStart_list (a6 _ rfl) (T.self _ 0 _ _ _ Y (a6 _ rfl))
theorem q25 (hc:X.calm=true) (ho:q9u X.N X.env.scope N caps scope=true) (hi:PI X tg iter wi)
  (hg:∀ cl C fp s H,PG (q3j X N scope cl C fp s H) tg g) (hf:∀ cl C fp s H,PF (q3j X N scope cl C fp s H) ifs tf) (he:∀ cl C fp s H,PE (q3j X N scope cl C fp s H) elt te)
  (hs:∀ x,foldedSetIterable iter X.env x=pure x:=by intro _;rfl):PE X (.ListComp elt [⟨tg,iter,ifs,0⟩] scope pos) (qfy caps wi g tf te):=by
 intro pins s σ H Q I h;have S:=qbc ho;obtain ⟨cl,O,c1,c2⟩:=qez (scope:=scope) (env:=X.env) (λ y hy e=>I.ok.has y.1 (S.fr y hy e));rw [eval_ListComp];refine wpAny_comprehension_free (use:=none) rfl hs O S.kind S.loc (qbd (RR:=λ J C=>compPost (model X.prog X.w) X.A X.xe none (EP X pins σ Q) J C) hc S hi hg hf he c1 c2 I h ?_);intro D C m H5 s5 I5 hn B q;exact ⟨m,hn,λ h' sb=>⟨.ref D,H5,I5.turned (t':=s5.toks) (λ b o hb e=>(sb.2 b hb).trans e) B.1 B.2.1 B.2.2.2.1 B.2.2.2.2.1 B.2.2.2.2.2,zr,q⟩⟩
theorem qfz {i:Nat} {x:Str} {U B:Pos} (hN:X.N.Nodup) (a8:X.N[i]? =some x) (hx:X.env.scope.names.lookup x=some .local) (hc:X.calm=true) (ho:q9u X.N X.env.scope N caps scope=true) (hi:PI X tg iter wi)
  (hg:∀ cl C fp s H,PG (q3j X N scope cl C fp s H) tg g) (hf:∀ cl C fp s H,PF (q3j X N scope cl C fp s H) ifs tf) (he:∀ cl C fp s H,PE (q3j X N scope cl C fp s H) elt te)
  (a9:swapsWith (.ListComp elt [⟨tg,iter,ifs,0⟩] scope pos) (some (.Name x U)) B.line X.env=pure true:=by rfl)
  (hs:∀ x,foldedSetIterable iter X.env x=pure x:=by intro _;rfl):PS X (.Assign [.Name x U] (.ListComp elt [⟨tg,iter,ifs,0⟩] scope pos) B) (tAsg (qfy caps wi g tf te) (qc1 i)):=by
 intro pins s σ H D I h;have S:=qbc ho;obtain ⟨cl,a7,c1,c2⟩:=qez (scope:=scope) (env:=X.env) (λ y hy e=>I.ok.has y.1 (S.fr y hy e));rw [exec_Assign_Name_used _ _ _ _ a9];refine z3h (wpAny_standAt (z3h ?_));show wpAny _ X.A (do let _ <- comprehension (.ListComp elt [⟨tg,iter,ifs,0⟩] scope pos) scope X.env _ (newList []) false (eval iter X.env) (some (assign (.Name x U) X.env))) _ _ s;refine z3h (z3i (wpAny_comprehension_free (use:=some (assign (.Name x U) X.env)) (Q:=λ _ s'=>SP X pins D .next s') rfl hs a7 S.kind S.loc
  (qbd (RR:=λ a6 C=>compPost (model X.prog X.w) X.A X.xe (some (assign (.Name x U) X.env)) (λ _ s'=>SP X pins D .next s') a6 C) hc S hi hg hf he c1 c2 I h ?_)) (λ _ s' hq=>z3g (z3g hq)) λ _ _ e=>e)
 intro Da C m H5 s5 I5 hn O q;obtain ⟨oC,es,ep,Z,hd,J⟩:=id hn;have a0:=I5.pinned (fp:=[C]) (λ b Y=>by
  have e:b=C:=by simpa using Y
  subst e;exact O) (λ b Y=>by
  have e:b=C:=by simpa using Y
  subst e;exact ⟨oC,Z,λ v z=>by rw [hd] at z;cases z⟩)
 show wpAny _ X.A (assign (.Name x U) X.env (.ref Da)) _ _ _;refine wpAny_assign_Name (q96 a0 hN a8 (.inl hx) (v:= .ref Da) rfl (λ s6 I6=> ?_) (.inr hx));have pC:=I6.pin (C,oC) (z0n _ (z0n _ (q4g (by simp) Z)));refine ⟨m,⟨oC,es,ep,pC.1,hd,J⟩,λ h' sb=> ?_⟩;exact ⟨_,H5,I6.unpinned.turned (t':=s6.toks) (λ b o Y e=>(sb.2 b Y).trans e) O.1 O.2.1 O.2.2.2.1 O.2.2.2.2.1 O.2.2.2.2.2,q⟩
end
theorem q20 {J:It} {g:TG} {tf:TT} {te:TE} {D:Addr} {Y:Hp ->Prop} {σ:St} {H:Hp} (n:Nat) (Pv:Nat ->St ->Hp ->Prop) (h0:Pv 0 σ H) (O:∀ i σ H,i < n ->Pv i σ H ->J.go i H) (U:∀ σ H,Pv n σ H ->J.stop n H/\Y H)
  (hs:∀ i σ H,i < n ->Pv i σ H ->∀ x H',J.yld i H x H' ->g x σ H' λ σ2 H2=>tf σ2 H2 λ b H3=>if b=true then te σ2 H3 λ v H4=>∃ xs,H4 D=some (.lst xs)/\xs.length < sizeLine/\Pv (i+1) σ2 (upd H4 D (.lst (xs++ [v]))) else Pv (i+1) σ2 H3):
  ∃ W:Nat ->Nat ->St ->Hp ->Prop,(∃ m,W 0 m σ H)/\qkv J g tf te D Y W:=by
 refine ⟨λ i m σ H=>m=n - i/\i<=n/\Pv i σ H,⟨n,by simp,z3e _,h0⟩,?_⟩;rintro i m σ H ⟨rfl,hi,p⟩;by_cases B:i < n
 ·exact .inr ⟨O i σ H B p,Pv (i+1),λ σ' H' p'=>⟨n - (i+1),by omega,zr,B,p'⟩,hs i σ H B p⟩
 ·have e:i=n:=by omega
  subst e;exact .inl (U σ H p)
theorem q9v {J:It} {g:TG} {tb:TS} {D:Ends} {σ:St} {H:Hp} (n:Nat) (Pv:Nat ->St ->Hp ->Prop) (h0:Pv 0 σ H) (O:∀ i σ H,i < n ->Pv i σ H ->J.go i H) (U:∀ σ H,Pv n σ H ->J.stop n H/\D.nx σ H)
  (hs:∀ i σ H,i < n ->Pv i σ H ->∀ x H',J.yld i H x H' ->g x σ H' λ σ2 H2=>tb {D with nx:=Pv (i+1),ct:=Pv (i+1),bk:=D.nx} σ2 H2):
  ∃ W:Nat ->Nat ->St ->Hp ->Prop,(∃ m,W 0 m σ H)/\∀ i m σ H,W i m σ H ->
   (J.stop i H/\D.nx σ H)\/ (J.go i H/\∃ N:St ->Hp ->Prop,(∀ σ' H',N σ' H' ->∃ Y,Y < m/\W (i+1) Y σ' H')/\∀ x H',J.yld i H x H' ->g x σ H' λ σ2 H2=>tb {D with nx:=N,ct:=N,bk:=D.nx} σ2 H2):=by
 refine ⟨λ i m σ H=>m=n - i/\i<=n/\Pv i σ H,⟨n,by simp,z3e _,h0⟩,?_⟩;rintro i m σ H ⟨rfl,hi,p⟩;by_cases B:i < n
 ·exact .inr ⟨O i σ H B p,Pv (i+1),λ σ' H' p'=>⟨n - (i+1),by omega,zr,B,p'⟩,hs i σ H B p⟩
 ·have e:i=n:=by omega
  subst e;exact .inl (U σ H p)
def Its (z:Str):It:=⟨λ i _=>i < z.cps.size,λ i H x H'=>H'=H/\∃ c,z.cps[i]? =some c/\x= .str ⟨#[c]⟩,λ i _=>i=z.cps.size⟩
theorem qni {M:Model} {A:Around} {E:Value ->Shared ->Prop} {s:Shared} {tg:Expr} {it:Addr} {x:Str} {t:Tok} {Q:Unit ->Shared ->Prop} (hQ:Q () s):wpAny M A (letOwnedTupleGo tg (.ref it) (.str x t)) Q E s:=by
 unfold letOwnedTupleGo;cases tg <;> exact z3g hQ
theorem qja {P:Program} {w:World} {K:PySem.W.Frag} {tg:Expr} (it:Addr) (z:Str) (t:Tok) (ty:String) (D:ty="str_ascii_iterator"\/ ty="str_iterator"):
  Turn P w K tg (Its z) [it] it (λ i h=>h.IsStrIter it ty z t i) where
 mem:=by simp
 obj:=λ i h st b B=>by
  have e:b=it:=by simpa using B
  subst e;obtain ⟨o,e,c,d⟩:=st;exact ⟨o,e,λ v z=>by rw [d] at z;cases z⟩
 keep:=λ i h h' st k=>let ⟨o,ho,r⟩:=st;⟨o,k it (by simp) o ho,r⟩
 item:=by
  intro X Z hw Y J i pins s σ H E I O st hg;subst Z hw Y;obtain ⟨U,f1,f2,f3,f4,f5⟩:=O it (by simp);have W:Walks X.prog X.w X.A it [it] [it] z.cps.size (SignAt z) (λ i h=>h.IsStrIter it ty z t i):=by
   rcases D with rfl | rfl
   ·exact Walks.strAscii (I.ok.hd J) it z t
   ·exact Walks.strWide (I.ok.hd J) it z t
  refine W.item i s _ _ hg st λ v h' tk hv a0 kk=> ?_;obtain ⟨c,u,hx,rfl⟩:=hv;have I1:Inv X pins σ H {s with heap:=h',toks:=tk}:=I.turned (λ b o B e=>kk b o (by simpa using B) e) U f1 f3 f4 f5;exact ⟨_,zr,qni ⟨.str ⟨#[c]⟩,H,I1,⟨u,zr⟩,⟨zr,c,hx,zr⟩,a0,λ b B=>(O b B).1⟩⟩
 done:=by
  intro X Z hw Y J i pins s σ H E I O st hg;subst Z hw Y;obtain ⟨U,f1,f2,f3,f4,f5⟩:=O it (by simp);have W:Walks X.prog X.w X.A it [it] [it] z.cps.size (SignAt z) (λ i h=>h.IsStrIter it ty z t i):=by
   rcases D with rfl | rfl
   ·exact Walks.strAscii (I.ok.hd J) it z t
   ·exact Walks.strWide (I.ok.hd J) it z t
  have e:i=z.cps.size:=hg;subst e;exact W.done s _ _ st λ h' tk kk=>⟨zr,I.turned (λ b o B e=>kk b o (by simpa using B) e) U f1 f3 f4 f5⟩
 self:=λ _ _ _ _ _ st h=>by
  rcases D with rfl | rfl
  ·exact wpAny_pyIter_striter_ascii st h
  ·exact wpAny_pyIter_striter_wide st h
section
variable {X:Cx} {tg:Expr}
def iStr (tl:TE):TI:=λ σ H R=>tl σ H λ x H1=>∃ z,x= .str z/\R (Its z) H1
theorem qnj {l:Expr} {tl:TE} (hl:PE X l tl):PI X tg l (iStr tl):=by
 intro pins s σ H R I h;refine thn (hl pins s σ H _ I h) λ v s1 D=> ?_;obtain ⟨x,H1,I1,r1,q1⟩:=D;obtain ⟨z,e,q⟩:=q1;subst e;obtain ⟨t,rfl⟩:=r1;have fin:∀ ty,(ty="str_ascii_iterator"\/ ty="str_iterator") ->PIE X pins σ tg R (.ref s1.heap.objs.size) {s1 with heap:=s1.heap.push {cls:= .type ty,data:= .fields #[.str z t,.int 0 0]}}:=λ ty B=>by
  refine ⟨s1.heap.objs.size,[s1.heap.objs.size],_,_,H1,zr,I1.kept (t':=s1.toks) λ b o e=>z0i _ e,qja _ z t ty B,⟨_,z0y _ rfl,zr,zr⟩,λ b hb=> ?_,q⟩;have e:b=s1.heap.objs.size:=by simpa using hb
  subst e;exact I1.fpOk (z3b _) (I1.hok.fresh (z3b _))
 cases J:z.cps.all (· < 128)
 ·exact wpAny_pyIter_wide J (fin _ (.inr rfl))
 ·exact wpAny_pyIter_ascii J (fin _ (.inl rfl))
end
def cutS (z:Str) (lo hi:Option Int):Str:=⟨((z.cps.toList.drop (HT.sIx z.length 0 lo)).take (HT.sIx z.length z.length hi - HT.sIx z.length 0 lo)).toArray⟩
theorem qbo (lo hi:Option Int) (n:Nat):Builtin.Str.strSliceIndices lo hi 1 n=(List.range (HT.sIx n n hi - HT.sIx n 0 lo)).map (HT.sIx n 0 lo+ ·):=by
 have h:Builtin.Str.strSliceIndices lo hi 1 n=sliceRange ((HT.sIx n 0 lo:Nat):Int) ((HT.sIx n n hi:Nat):Int) 1:=by
  unfold Builtin.Str.strSliceIndices;simp only [show (1:Int) > 0 by decide,if_true]
  congr 1
  ·cases lo with
   | none=>rfl
   | some i=>
    rw [<- HT.clip_eq i n 0];show max 0 (min (if i < 0 then i+(n:Int) else i) (n:Int))=_;split <;> omega
  ·cases hi with
   | none=>rfl
   | some i=>
    rw [<- HT.clip_eq i n n];show max 0 (min (if i < 0 then i+(n:Int) else i) (n:Int))=_;split <;> omega
 rw [h];unfold sliceRange;simp only [show (1:Int) > 0 by decide,if_true];have e2:(if ((HT.sIx n 0 lo:Nat):Int) < ((HT.sIx n n hi:Nat):Int) then (((HT.sIx n n hi:Nat):Int) - ((HT.sIx n 0 lo:Nat):Int)+1 - 1) / 1 else 0).toNat=HT.sIx n n hi - HT.sIx n 0 lo:=by
  split
  ·rw [Int.ediv_one];omega
  ·omega
 rw [e2]
 apply z10
 intro k _;omega
theorem qg0 (xs:Array Nat) (i k:Nat):(((List.range k).map (i+ ·)).filterMap (xs[·]?))=(xs.toList.drop i).take k:=by
 induction k with
 | zero=>simp
 | succ k ih=>
  rw [List.range_succ,z2h,List.filterMap_append,ih,z2r]
  congr 1
  simp only [z2t,z37,List.getElem?_drop,z0o];cases h:xs[i+k]? <;> simp [h]
theorem qdw (z:Str) (lo hi:Option Int):(cutS z lo hi).length<=z.length:=by
 show ((z.cps.toList.drop _).take _).toArray.size<=z.length;rw [z1k,z1u,z1v];have:z.cps.toList.length=z.length:=by simp [Str.length]
 omega
section
variable {X:Cx}
def rSlS:V ->Option Int ->Option Int ->Hp ->VK ->Prop:=λ x lo hi H Q=>∃ z,x= .str z/\z.length<=sizeLine/\Q (.str (cutS z lo hi)) H
theorem qnk:SlR X rSlS:=by
  intro pins s σ H x v vl vu lo hi sl Q I rx hs pl pu h;obtain ⟨z,rfl,J,q⟩:=h;obtain ⟨t,rfl⟩:=rx;refine ⟨"str",_,F.slot_str_getitem.lookup,typeIs_str s z t,?_⟩;obtain ⟨l,rfl,el⟩:∃ l:Option (Int×Tok),vl=partValue l/\l.map (·.1)=lo:=by
    cases pl with
    | none=>exact ⟨none,rfl,rfl⟩
    | int i t=>exact ⟨some (i,t),rfl,rfl⟩
  obtain ⟨u,rfl,eu⟩:∃ u:Option (Int×Tok),vu=partValue u/\u.map (·.1)=hi:=by
    cases pu with
    | none=>exact ⟨none,rfl,rfl⟩
    | int i t=>exact ⟨some (i,t),rfl,rfl⟩
  refine wpAny_getItem_str_slice (l:=l) (u:=u) (st:=none) hs rfl ?_;have ep:slicePicked z l u none=(List.range (HT.sIx z.length z.length hi - HT.sIx z.length 0 lo)).map (HT.sIx z.length 0 lo+ ·):=by
    unfold slicePicked;rw [el,eu];exact qbo lo hi z.length
  have ec:(slicePicked z l u none).filterMap (z.cps[·]?)=(z.cps.toList.drop (HT.sIx z.length 0 lo)).take (HT.sIx z.length z.length hi - HT.sIx z.length 0 lo):=by
    rw [ep,qg0]
  unfold sliceMade;split
  · rename_i hw
    have B:(slicePicked z l u none).length=z.length:=by simpa using hw
    have e:cutS z lo hi=z:=by
      have hl:z.cps.toList.length=z.length:=by simp [Str.length]
      rw [ep,z2c,z1p] at B;have h1:=HT.sIx_le z.length z.length (z3b _) hi;have D:HT.sIx z.length 0 lo=0\/ z.length=0:=by omega
      unfold cutS;rcases D with D | D
      · rw [B,D,List.drop_zero,z0h (by omega)]
      · have O:z.cps.toList=[]:=List.eq_nil_of_length_eq_zero (by omega)
        rw [O,List.drop_nil,List.take_nil];cases z with
        | mk cps=>
          congr 1
          exact (Array.toList_inj.mp O).symm
    rw [e] at q;exact ⟨.str z,H,I,⟨t,zr⟩,q⟩
  · have e:(⟨((slicePicked z l u none).filterMap (z.cps[·]?)).toArray⟩:Str)=cutS z lo hi:=by
      unfold cutS;rw [ec]
    rw [e];exact ⟨z34 (qdw z lo hi) J,.str (cutS z lo hi),H,I.tok _,⟨_,zr⟩,q⟩
end
theorem qh9 (bs:List Bool):(List.range bs.length).all (λ i=>(bs[i]?).getD true)=bs.all id:=by
 rw [z2b,z21,z21]
 constructor
 ·intro h b hb;obtain ⟨i,hi,e⟩:=List.mem_iff_getElem.mp hb;have:=h i (z2n.mpr hi);rw [z09 hi,e] at this;exact this
 ·intro h i hi;have B:=z2n.mp hi;rw [z09 B];exact h _ (z1y B)
theorem qls {bs:List Bool} {us:List Value} (r:Vals (bs.map V.bl) us) {i:Nat} {v:Value} (h:us[i]? =some v):∃ b,bs[i]? =some b/\v= .bool b:=by
 have hl:=r.length;obtain ⟨hi,_⟩:=z06.mp h;rw [<- hl,z2c] at hi;have e:(bs.map V.bl)[i]? =some (V.bl bs[i]):=by rw [z1j,z09 hi];rfl
 obtain ⟨u,hu,ru⟩:=r.get e;rw [h] at hu;cases hu
 exact ⟨bs[i],z09 hi,ru⟩
section
variable {X:Cx}
theorem q6c (hc:X.calm=true) (K:PySem.W.Frag) (hK:X.K=K:=by rfl):q30 X (.builtin "all") (λ xs H Q=>∃ (p:Addr) (bs:List Bool),xs=[.ref p]/\SqL K H p (bs.map V.bl)/\Q (.bl (bs.all id)) H):=by
 subst hK;intro pins s σ H xs us Q I r h;obtain ⟨p,bs,rfl,hp,q⟩:=h;obtain ⟨u,rfl,ru⟩:=q5e r;cases ru
 obtain ⟨its,rv,pl,hz⟩:=I.list hp;have hl:its.toArray.size=bs.length:=by
  have:=rv.length;rw [z2c] at this;rw [z1k];exact this.symm
 have hh:X.A.in1.handled=none:=I.ok.hd hc;have D:p≠s.heap.objs.size:=λ e=>by
  obtain ⟨o,n,e1,_⟩:=pl;exact absurd (z32 e1) (by rw [e];exact z2x _)
 refine call_all_walk (z1m pl.isList ?_);refine ⟨s.heap.objs.size,_,_,_,_,_,λ i=>(bs[i]?).getD true,zr,Walks.list hh _ p D its.toArray,⟨⟨_,z0y _ rfl,zr,zr⟩,pl.isList.at λ o e=>z0i _ e⟩,?_,λ h' tk kk=> ?_⟩
 ·intro i v s' Q' E' hv hq;have J:its[i]? =some v:=by simpa using hv
  obtain ⟨b,e,rfl⟩:=qls rv J;have B:Q' ((bs[i]?).getD true) s':=hq;rw [e] at B;exact z1l B
 ·rw [hl,qh9];exact ⟨.bl _,H,I.kept λ b o e=>kk b o (by simp;exact z33 (z32 e)) (z0i _ e),rfl,q⟩
def tyTs:List String:=["NoneType","bool","int","str","list","tuple","dict"]
def tyNs:List String:=["bool","int","str","list","tuple","dict"]
def tyIs (T n:String):Bool:=T==n || (T=="bool"&&n=="int")
theorem qlt:∀ T∈tyTs,∀ n∈tyNs,PySem.W.kitMeta n=true/\(PySem.fastBuiltinMro T).map (·.contains (Value.type n))=some (tyIs T n):=by decide+kernel
theorem q8g {K:PySem.W.Frag} {T n:String} (hT:T∈tyTs) (hn:n∈tyNs):PySem.W.kitOne K (.type T) (.type n)=some (tyIs T n):=by
 obtain ⟨h1,h2⟩:=qlt T hT n hn;unfold PySem.W.kitOne;split
 ·rename_i e;have e':=eq_of_beq e;injection e' with B;subst B;simp [tyIs]
 ·unfold PySem.W.kitCls;show (if PySem.W.kitMeta n=true then PySem.W.subIn K (.type T) (.type n) else none)=_;rw [if_pos h1];exact h2
theorem q5s (K:PySem.W.Frag) (hK:X.K=K:=by rfl):q30 X (.builtin "isinstance") (λ xs H Q=>∃ x n T,xs=[x,.ty n]/\TyOf K H x (.type T)/\T∈tyTs/\n∈tyNs/\Q (.bl (tyIs T n)) H):=by
 subst hK;intro pins s σ H xs us Q I r h;obtain ⟨x,n,T,rfl,ty,hT,hn,q⟩:=h;obtain ⟨u,c,rfl,ru,rc⟩:=q9n r;cases rc
 exact qgx I ru ty (q8g hT hn) λ tk=>⟨.bl _,H,I.tok tk,zr,q⟩
theorem qos {x:Str} {i:Int} {pos:Pos} (hg:Gl X x) (hm:∃ t,X.mg x=some (.int i t)) (hd:(x==("__debug__":Str))=false:=by decide):PE X (.Name x pos) (tC (.int i)):=by
 obtain ⟨t,e⟩:=hm;exact qer hg e ⟨t,zr⟩ hd
theorem qkw {x z:Str} {pos:Pos} (hg:Gl X x) (hm:∃ t,X.mg x=some (.str z t)) (hd:(x==("__debug__":Str))=false:=by decide):PE X (.Name x pos) (tC (.str z)):=by
 obtain ⟨t,e⟩:=hm;exact qer hg e ⟨t,zr⟩ hd
theorem q3f {x:Str} {n:String} {pos:Pos} (hg:Gl X x) (hm:X.mg x=none) (hv:bootBuiltins x=some (.type n)) (hn:x≠"__name__":=by decide) (hd:(x==("__debug__":Str))=false:=by decide):PE X (.Name x pos) (tC (.ty n)):=
 ql2 hg hm hv rfl hn hd
end
structure Top (K:PySem.W.Frag) (mg:Str ->Option Value) (x:Str) (st:Stmt) (ps:List Str):Prop where
 ex:∃ f fd,Fun K x x st f fd/\mg x=some (.ref f)/\∀ us:List Value,us.length=ps.length ->bindArgs fd ⟨us,[]⟩=pure (ps.zip us)
theorem qnl {K:PySem.W.Frag} {h:Heap} {mg:Str ->Option Value} {x:Str} {st:Stmt} {ps:List Str} {f:Addr} {oc:Value} {od D:Option Addr} {O:Array (Option Value)} {kV B J cdv ct:Value} (X:K.In h) (G:h.Ns mainGlobals mg)
  (b:∀ (kV B J:Value) (D:Option Addr) (cdv ct:Value) (us:List Value),us.length=ps.length ->bindArgs (PySem.W.fnOf x x (q2o st) (q1z st) (qf st) .none kV B J D cdv ct) ⟨us,[]⟩=pure (ps.zip us))
  (a:PySem.W.nsIn K mainGlobals x=some (some (.ref f)))
  (l:K.lookup f=some ⟨oc,od,.func (PySem.W.fnOf x x (q2o st) (q1z st) (qf st) .none kV B J D cdv ct),O⟩) (c:PySem.W.codeIn K cdv x=true) (k:PySem.W.keepIn K (.ref f)=true):Top K mg x st ps:=by
 have F:=qh7 (st:=st) l c k;exact ⟨f,_,F,z2z X G a,b kV B J D cdv ct⟩
structure Def (P:Program) (w:World) (K:PySem.W.Frag) (mg:Str ->Option Value) (base:Heap) (k:Nat) (x:Str) (ps:List Str) (sp:Sp):Prop where
 ex:∃ f fd,FnOk P w K mg base CX0 k f fd ps sp/\mg x=some (.ref f)/\PySem.W.keepIn K (.ref f)=true/\Binds K fd ps []
theorem Top.ok {P:Program} {w:World} {K:PySem.W.Frag} {mg:Str ->Option Value} {base:Heap} {x:Str} {st:Stmt} {N ps:List Str} {k:Nat} {sp:Sp} (T:Top K mg x st ps) (S:FnScope N ps (qf st)) (len:∀ vs H Q E,sp vs H Q E ->vs.length=ps.length)
  (B:∀ (f:Addr) (cdv:Value) (A:Around) (outer:List Env) (s:Shared) (H:Hp) (vs:List V) (Q:VK) (E:XK),Room k (A.deeper (envOfC x (qf st) s.heap.objs.size f cdv)) ->sp vs H Q E ->
   ∃ t,PSs (cxOf CX0 P w K mg base N x (qf st) f cdv A outer s H E).nox (q1z st) t/\t {nx:=λ _ H'=>Q .non H',rt:=Q} (q4i N vs) H):Def P w K mg base (k+1) x ps sp:=by
 obtain ⟨f,fd,F,hm,hb⟩:=T.ex;exact ⟨f,fd,F.ok S len (B f),hm,F.kp,Binds.all hb⟩
theorem Top.fin {l:PySem.W.OpenLaw} {w:World} {K:PySem.W.Frag} {mg:Str ->Option Value} {D:Addr} {x:Str} {st:Stmt} {N:List Str} {k:Nat} {sp:Sp} (T:Top K mg "law" st [x]) (J:mg "law"=some (.ref D)) (S:FnScope N [x] (qf st))
  (len:∀ vs H Q E,sp vs H Q E ->vs.length=[x].length)
  (B:∀ (base:Heap) (f:Addr) (cdv:Value) (A:Around) (outer:List Env) (s:Shared) (H:Hp) (vs:List V) (Q:VK) (E:XK),Room k (A.deeper (envOfC "law" (qf st) s.heap.objs.size f cdv)) ->sp vs H Q E ->
   ∃ t,PSs (cxOf CX0 l.prog w K mg base N "law" (qf st) f cdv A outer s H E).nox (q1z st) t/\t {nx:=λ _ H'=>Q .non H',rt:=Q} (q4i N vs) H):
  ∃ fd:FuncData,(∀ (s:Shared) (v:Value),BindsTo s fd ⟨[v],[]⟩ [(x,v)])/\∀ base:Heap,K.In base ->base.Ns mainGlobals mg ->FnOk l.prog w K mg base CX0 (k+1) D fd [x] sp:=by
 obtain ⟨f,fd,F,hm,hb⟩:=T.ex;have e:=J.symm.trans hm;injection e with e;injection e with e;subst e;exact ⟨fd,λ s v=> .of_eq (hb [v] rfl),λ base _ _=>F.ok S len (B base D)⟩
section
variable {X:Cx} {k k':Nat} {x:Str} {ps:List Str} {sp:Sp} {p pos:Pos} {e:Expr} {es:List Expr} {t:TA}
theorem ql (D:Def X.prog X.w X.K X.mg X.base k x ps sp) (hr:Room k' X.A) (hg:Gl X x) (ha:PA X (e::es) t) (J:k<=k':=by decide)
  (B:(x==("__debug__":Str))=false:=by decide) (he:starEach (e::es) X.env=(false,eval e X.env)::starEach es X.env:=by rfl) (O:(backTo pos (starEach es X.env)).any (·.1)=false:=by rfl):
  PE X (.Call (.Name x p) (e::es) [] pos) (qkq sp [] E0 t):=by
 obtain ⟨f,fd,F,hm,hk,hb⟩:=D.ex;exact qla F (hr.mono J) hg hm hk hb .nil qfx ha B he O
end
section
variable {X:Cx} {tg:Expr}
theorem q1b (K:PySem.W.Frag) (hK:X.K=K:=by rfl):q30 X (.builtin "len") (λ xs H Q=>∃ x n,xs=[x]/\LenV K x H n/\Q (.int n) H):=by subst hK;exact qix
theorem qx (K:PySem.W.Frag) (hK:X.K=K:=by rfl):IxR X (rIxL K):=by subst hK;exact qlh
theorem qr (K:PySem.W.Frag) (hK:X.K=K:=by rfl):IxR X (rIxT K):=by subst hK;exact qnb
theorem qcn (K:PySem.W.Frag) (hK:X.K=K:=by rfl):SlR X (rSlL K):=by subst hK;exact qli
theorem qlu (K:PySem.W.Frag) (hK:X.K=K:=by rfl):SlR X (rSlT K):=by subst hK;exact qh0
theorem q23 (K:PySem.W.Frag) {l:Expr} {tl:TE} (hl:PE X l tl) (hK:X.K=K:=by rfl):PI X tg l (qko K tl):=by subst hK;exact ql4 hl
theorem q4d (K:PySem.W.Frag) {l:Expr} {tl:TE} (hl:PE X l tl) (hK:X.K=K:=by rfl):PI X tg l (iTup K tl):=by subst hK;exact qn5 hl
theorem qg1 (K:PySem.W.Frag) (hK:X.K=K:=by rfl):q30 X (.type "list") (λ xs H Q=>∃ p ys,xs=[.ref p]/\(SqL K H p ys\/ SqT K H p ys)/\∀ l,H l=none ->Q (.ref l) (upd H l (.lst ys))):=by subst hK;exact qch
theorem q2b (K:PySem.W.Frag) (hK:X.K=K:=by rfl):q30 X (.type "tuple") (λ xs H Q=>∃ p ys,xs=[.ref p]/\((SqL K H p ys/\∀ l,H l=none ->Q (.ref l) (upd H l (.tup ys)))\/ (SqT K H p ys/\Q (.ref p) H))):=by subst hK;exact qbn
end
theorem q5t {α:Type} {xs:List α} {i:Int} (h0:0<=i) (h1:i < xs.length):∃ v,atI xs i=some v/\v∈xs:=by
 have B:i.toNat < xs.length:=by omega
 refine ⟨xs[i.toNat],?_,z1y B⟩;unfold atI ixN;rw [if_pos h0,if_pos h1];show xs[i.toNat]? =_;exact z09 B
theorem qnm {α:Type} {xs:List α} {i:Int} (h0:0<=i) (h1:i < xs.length):atI xs i=xs[i.toNat]? :=by
 unfold atI ixN;rw [if_pos h0,if_pos h1];rfl
theorem qd {H:Hp} {a:Addr} {o:HO} (h:H a=none):Same H (upd H a o):=λ b u e=>by
 rw [qg (q2v e h)];exact e
theorem Same.set {H H':Hp} {a:Addr} {o:HO} (h:Same H H') (n:H a=none):Same H (upd H' a o):=λ b u e=>by
 rw [qg (q2v e n)];exact h b u e
theorem Same.seqT {K:PySem.W.Frag} {H H':Hp} {a:Addr} {xs:List V} (e:Same H H') (h:SqT K H a xs):SqT K H' a xs:=by
 rcases h with (h | ⟨o,h⟩) | h
 ·exact .inl (.inl (e _ _ h))
 ·exact .inl (.inr ⟨o,e _ _ h⟩)
 ·exact .inr h
def q16:Expr ->Bool
 | .Starred _ _=>false
 | _=>true
theorem qbp {e:Expr} {es:List Expr} {env:Env} (h:q16 e=true):starEach (e::es) env=(false,eval e env)::starEach es env:=by
 cases e <;> first
  | rfl
  | cases h
theorem q1f {X:Cx} {e:Expr} {es:List Expr} {te:TE} {t:TA} (ha:PE X e te) (hr:PA X es t) (hs:q16 e=true:=by rfl):PA X (e::es) (q1l te t):=ql9 ha hr (qbp hs)
theorem q1w:bootBuiltins "len"=some (.builtin "len"):=by decide+kernel
theorem q1c:bootBuiltins "isinstance"=some (.builtin "isinstance"):=by decide+kernel
theorem q9w:bootBuiltins "all"=some (.builtin "all"):=by decide+kernel
theorem qha:bootBuiltins "sorted"=some (.builtin "sorted"):=by decide+kernel
theorem qhb:bootBuiltins "zip"=some (.type "zip"):=by decide+kernel
theorem q6w:bootBuiltins "str"=some (.type "str"):=by decide+kernel
theorem q9x:bootBuiltins "int"=some (.type "int"):=by decide+kernel
theorem qf0:bootBuiltins "bool"=some (.type "bool"):=by decide+kernel
theorem qf1:bootBuiltins "list"=some (.type "list"):=by decide+kernel
theorem q2h:bootBuiltins "tuple"=some (.type "tuple"):=by decide+kernel
theorem qf2:bootBuiltins "dict"=some (.type "dict"):=by decide+kernel
theorem qnn:bootBuiltins "set"=some (.type "set"):=by decide+kernel
theorem qlv {α:Type} {l:List α} {i:Nat} {d:α} (h:i < l.length):l.getD i d=l[i]:=by
 rw [z05,z09 h];rfl
theorem qlw {α:Type} {l:List α} {i:Nat} {d:α} (h:l.length<=i):l.getD i d=d:=by
 rw [z05,List.getElem?_eq_none_iff.mpr h];rfl
theorem pa_1 {X:Cx} {B:Expr} {t0:TE} (h0:PE X B t0) (D:q16 B=true:=by rfl):PA X [B] (q1l t0 tNil):=(q1f h0 q1h D)
theorem pa_2 {X:Cx} {B e1:Expr} {t0 t1:TE} (h0:PE X B t0) (h1:PE X e1 t1) (D:q16 B=true:=by rfl) (J:q16 e1=true:=by rfl):PA X [B,e1] (q1l t0 (q1l t1 tNil)):=(q1f h0 (q1f h1 q1h J) D)
theorem pa_3 {X:Cx} {B e1 e2:Expr} {t0 t1 t2:TE} (h0:PE X B t0) (h1:PE X e1 t1) (h2:PE X e2 t2) (D:q16 B=true:=by rfl) (J:q16 e1=true:=by rfl) (O:q16 e2=true:=by rfl):PA X [B,e1,e2] (q1l t0 (q1l t1 (q1l t2 tNil))):=(q1f h0 (q1f h1 (q1f h2 q1h O) J) D)
theorem pa_4 {X:Cx} {B e1 e2 e3:Expr} {t0 t1 t2 t3:TE} (h0:PE X B t0) (h1:PE X e1 t1) (h2:PE X e2 t2) (h3:PE X e3 t3) (D:q16 B=true:=by rfl) (J:q16 e1=true:=by rfl) (O:q16 e2=true:=by rfl) (U:q16 e3=true:=by rfl):PA X [B,e1,e2,e3] (q1l t0 (q1l t1 (q1l t2 (q1l t3 tNil)))):=(q1f h0 (q1f h1 (q1f h2 (q1f h3 q1h U) O) J) D)
theorem pa_5 {X:Cx} {B e1 e2 e3 D:Expr} {t0 t1 t2 t3 t4:TE} (h0:PE X B t0) (h1:PE X e1 t1) (h2:PE X e2 t2) (h3:PE X e3 t3) (h4:PE X D t4) (J:q16 B=true:=by rfl) (O:q16 e1=true:=by rfl) (U:q16 e2=true:=by rfl) (Y:q16 e3=true:=by rfl) (Z:q16 D=true:=by rfl):PA X [B,e1,e2,e3,D] (q1l t0 (q1l t1 (q1l t2 (q1l t3 (q1l t4 tNil))))):=(q1f h0 (q1f h1 (q1f h2 (q1f h3 (q1f h4 q1h Z) Y) U) O) J)
theorem pa_7 {X:Cx} {B e1 e2 e3 D J O:Expr} {t0 t1 t2 t3 t4 t5 t6:TE} (h0:PE X B t0) (h1:PE X e1 t1) (h2:PE X e2 t2) (h3:PE X e3 t3) (h4:PE X D t4) (h5:PE X J t5) (h6:PE X O t6) (U:q16 B=true:=by rfl) (Y:q16 e1=true:=by rfl) (Z:q16 e2=true:=by rfl) (a0:q16 e3=true:=by rfl) (a6:q16 D=true:=by rfl) (a7:q16 J=true:=by rfl) (a8:q16 O=true:=by rfl):PA X [B,e1,e2,e3,D,J,O] (q1l t0 (q1l t1 (q1l t2 (q1l t3 (q1l t4 (q1l t5 (q1l t6 tNil))))))):=(q1f h0 (q1f h1 (q1f h2 (q1f h3 (q1f h4 (q1f h5 (q1f h6 q1h a8) a7) a6) a0) Z) Y) U)
theorem pa_8 {X:Cx} {B e1 e2 e3 D J O U:Expr} {t0 t1 t2 t3 t4 t5 t6 t7:TE} (h0:PE X B t0) (h1:PE X e1 t1) (h2:PE X e2 t2) (h3:PE X e3 t3) (h4:PE X D t4) (h5:PE X J t5) (h6:PE X O t6) (h7:PE X U t7) (Y:q16 B=true:=by rfl) (Z:q16 e1=true:=by rfl) (a0:q16 e2=true:=by rfl) (a6:q16 e3=true:=by rfl) (a7:q16 D=true:=by rfl) (a8:q16 J=true:=by rfl) (a9:q16 O=true:=by rfl) (b0:q16 U=true:=by rfl):PA X [B,e1,e2,e3,D,J,O,U] (q1l t0 (q1l t1 (q1l t2 (q1l t3 (q1l t4 (q1l t5 (q1l t6 (q1l t7 tNil)))))))):=(q1f h0 (q1f h1 (q1f h2 (q1f h3 (q1f h4 (q1f h5 (q1f h6 (q1f h7 q1h b0) a9) a8) a7) a6) a0) Z) Y)
theorem q3r {X:Cx} {B s1:Stmt} {t0 t1:TS} (h0:PS X B t0) (h1:PS X s1 t1):PSs X [B,s1] (tSeq t0 t1):=(qy h0 (qi h1))
theorem q46 {X:Cx} {B s1 D:Stmt} {t0 t1 t2:TS} (h0:PS X B t0) (h1:PS X s1 t1) (h2:PS X D t2):PSs X [B,s1,D] (tSeq t0 (tSeq t1 t2)):=(qy h0 (qy h1 (qi h2)))
theorem q78 {X:Cx} {B s1 D s3:Stmt} {t0 t1 t2 t3:TS} (h0:PS X B t0) (h1:PS X s1 t1) (h2:PS X D t2) (h3:PS X s3 t3):PSs X [B,s1,D,s3] (tSeq t0 (tSeq t1 (tSeq t2 t3))):=(qy h0 (qy h1 (qy h2 (qi h3))))
theorem qc4 {X:Cx} {B s1 D s3 J:Stmt} {t0 t1 t2 t3 O:TS} (h0:PS X B t0) (h1:PS X s1 t1) (h2:PS X D t2) (h3:PS X s3 t3) (h4:PS X J O):PSs X [B,s1,D,s3,J] (tSeq t0 (tSeq t1 (tSeq t2 (tSeq t3 O)))):=(qy h0 (qy h1 (qy h2 (qy h3 (qi h4)))))
theorem qg2 {X:Cx} {B s1 D s3 J O:Stmt} {t0 t1 t2 t3 U Y:TS} (h0:PS X B t0) (h1:PS X s1 t1) (h2:PS X D t2) (h3:PS X s3 t3) (h4:PS X J U) (h5:PS X O Y):PSs X [B,s1,D,s3,J,O] (tSeq t0 (tSeq t1 (tSeq t2 (tSeq t3 (tSeq U Y))))):=(qy h0 (qy h1 (qy h2 (qy h3 (qy h4 (qi h5))))))
theorem qot {X:Cx} {B s1 D s3 J O U Y s8:Stmt} {t0 t1 t2 t3 Z t5 t6 t7 t8:TS} (h0:PS X B t0) (h1:PS X s1 t1) (h2:PS X D t2) (h3:PS X s3 t3) (h4:PS X J Z) (h5:PS X O t5) (h6:PS X U t6) (h7:PS X Y t7) (h8:PS X s8 t8):PSs X [B,s1,D,s3,J,O,U,Y,s8] (tSeq t0 (tSeq t1 (tSeq t2 (tSeq t3 (tSeq Z (tSeq t5 (tSeq t6 (tSeq t7 t8)))))))):=(qy h0 (qy h1 (qy h2 (qy h3 (qy h4 (qy h5 (qy h6 (qy h7 (qi h8)))))))))
theorem qkx {X:Cx} {B:Stmt} {D:List Stmt} {t0 u:TS} (h0:PS X B t0) (hu:PSs X D u):PSs X (B::D) (tSeq t0 u):=(qy h0 hu)
theorem qou {X:Cx} {B s1 D:Stmt} {J:List Stmt} {t0 t1 t2 u:TS} (h0:PS X B t0) (h1:PS X s1 t1) (h2:PS X D t2) (hu:PSs X J u):PSs X (B::s1::D::J) (tSeq t0 (tSeq t1 (tSeq t2 u))):=(qy h0 (qy h1 (qy h2 hu)))
theorem qov {X:Cx} {B s1 D s3:Stmt} {J:List Stmt} {t0 t1 t2 t3 u:TS} (h0:PS X B t0) (h1:PS X s1 t1) (h2:PS X D t2) (h3:PS X s3 t3) (hu:PSs X J u):PSs X (B::s1::D::s3::J) (tSeq t0 (tSeq t1 (tSeq t2 (tSeq t3 u)))):=(qy h0 (qy h1 (qy h2 (qy h3 hu))))
theorem qow {X:Cx} {B s1 D s3 J:Stmt} {O:List Stmt} {t0 t1 t2 t3 U u:TS} (h0:PS X B t0) (h1:PS X s1 t1) (h2:PS X D t2) (h3:PS X s3 t3) (h4:PS X J U) (hu:PSs X O u):PSs X (B::s1::D::s3::J::O) (tSeq t0 (tSeq t1 (tSeq t2 (tSeq t3 (tSeq U u))))):=(qy h0 (qy h1 (qy h2 (qy h3 (qy h4 hu)))))
theorem q6x {X:Cx} {body:List Stmt} {D:Ends} {σ:St} {H:Hp} (n:Nat) (C:St ->Hp ->Prop) (rest:∃ u,PSs X (body.drop n) u/\∀ σ H,C σ H ->u D σ H)
  (first:∀ u,PSs X (body.drop n) u ->(∀ σ H,C σ H ->u D σ H) ->∃ t,PSs X body t/\t D σ H):∃ t,PSs X body t/\t D σ H:=
 let ⟨u,h1,h2⟩:=rest
 first u h1 h2
mutual
inductive Dat (K:PySem.W.Frag) (H:Hp):PyData ->V ->Prop
 | non:Dat K H .none .non
 | bl (b:Bool):Dat K H (.bool b) (.bl b)
 | int (i:Int):Dat K H (.int i) (.int i)
 | str (x:Str) (h:PyData.strOk x=true):Dat K H (.str x) (.str x)
 | lst {a:Addr} {xs:List V} {ds:List PyData}:SqL K H a xs ->Dats K H ds xs ->Dat K H (.list ds) (.ref a)
 | tup {a:Addr} {xs:List V} {ds:List PyData}:SqT K H a xs ->Dats K H ds xs ->Dat K H (.tuple ds) (.ref a)
inductive Dats (K:PySem.W.Frag) (H:Hp):List PyData ->List V ->Prop
 | nil:Dats K H [] []
 | cons {d:PyData} {x:V} {ds:List PyData} {xs:List V}:Dat K H d x ->Dats K H ds xs ->Dats K H (d::ds) (x::xs)
end
section
variable {K:PySem.W.Frag} {H H':Hp}
mutual
theorem Dat.same (s:Same H H'):∀ (d:PyData) (x:V),Dat K H d x ->Dat K H' d x
 | _,_,.non=> .non
 | _,_,.bl b=> .bl b
 | _,_,.int i=> .int i
 | _,_,.str x h=> .str x h
 | _,_,.lst h r=> .lst (s.seq h) (Dats.same s _ _ r)
 | _,_,.tup h r=> .tup (s.seqT h) (Dats.same s _ _ r)
theorem Dats.same (s:Same H H'):∀ (ds:List PyData) (xs:List V),Dats K H ds xs ->Dats K H' ds xs
 | _,_,.nil=> .nil
 | _,_,.cons a b=> .cons (Dat.same s _ _ a) (Dats.same s _ _ b)
end
mutual
theorem Dat.lay:∀ (d:PyData) (x:V),Dat K H d x ->d.canLay0=true
 | _,_,.non=>rfl
 | _,_,.bl _=>rfl
 | _,_,.int _=>rfl
 | _,_,.str _ h=>h
 | _,_,.lst _ r=>Dats.lay _ _ r
 | _,_,.tup _ r=>Dats.lay _ _ r
theorem Dats.lay:∀ (ds:List PyData) (xs:List V),Dats K H ds xs ->PyData.canLayAll0 ds=true
 | _,_,.nil=>rfl
 | _,_,.cons a b=>by rw [PyData.canLayAll0,Dat.lay _ _ a,Dats.lay _ _ b];rfl
end
end
section
variable {X:Cx} {pins:List (Addr×Obj)} {σ:St} {H:Hp} {s:Shared}
mutual
theorem Dat.reads (I:Inv X pins σ H s):∀ (d:PyData) (x:V) (u:Value),Dat X.K H d x ->RelV x u ->∃ as,Reads s.heap u d as
 | _,_,_,.non,r=>by cases r;exact ⟨_,.none⟩
 | _,_,_,.bl b,r=>by cases r;exact ⟨_,.bool b⟩
 | _,_,_,.int i,r=>by obtain ⟨t,rfl⟩:=r;exact ⟨_,.int i t⟩
 | _,_,_,.str x _,r=>by obtain ⟨t,rfl⟩:=r;exact ⟨_,.str x t⟩
 | _,_,_,.lst h q,r=>by
  cases r
  obtain ⟨its,rv,⟨o,n,e,c,_,d⟩,_⟩:=I.list h;obtain ⟨as,B⟩:=Dats.reads I _ _ _ q rv;exact ⟨_,.list e c d (by simpa using B)⟩
 | _,_,_,.tup h q,r=>by
  cases r
  obtain ⟨its,rv,⟨o,e,c,n,d⟩,_⟩:=I.tuple h;obtain ⟨as,B⟩:=Dats.reads I _ _ _ q rv;exact ⟨_,.tuple e c d (by simpa using B)⟩
theorem Dats.reads (I:Inv X pins σ H s):∀ (ds:List PyData) (xs:List V) (us:List Value),Dats X.K H ds xs ->Vals xs us ->∃ as,ReadsAll s.heap us ds as
 | _,_,_,.nil,r=>by cases r;exact ⟨_,.nil⟩
 | _,_,_,.cons a b,r=>by
  cases r with
  | cons r1 r2=>
   obtain ⟨as,h1⟩:=Dat.reads I _ _ _ a r1;obtain ⟨bs,h2⟩:=Dats.reads I _ _ _ b r2;exact ⟨_,.cons h1 h2⟩
end
end
section
variable {X:Cx}
theorem q98 {u d e:Nat} (hu:u+64 < cLine) (hd:d<=60):u+min d e < cLine:=by
 have:min d e<=d:=Nat.min_le_left _ _;omega
def rEqD (K:PySem.W.Frag):R2:=λ x y H Q=>∃ d e,Dat K H d x/\Dat K H e y/\d.depth<=60/\Q (.bl (PyData.eqv d e)) H
theorem qno (hu:X.A.units+64 < cLine) (K:PySem.W.Frag) (hK:X.K=K:=by rfl):OpR X (compareOp .Eq) (rEqD K):=by
 subst hK;intro pins s σ H x y v u Q I rx ry h;obtain ⟨d,e,hd,B,hz,q⟩:=h;obtain ⟨as,ra⟩:=Dat.reads I _ _ _ hd rx;obtain ⟨bs,rb⟩:=Dat.reads I _ _ _ B ry;exact SeqAt.rcAt_reads ra rb (Dat.lay _ _ hd) (Dat.lay _ _ B) (q98 hu hz) X.prog X.w X.xe _ (q13 I q rfl)
end
def LtAt (A:Around) (s:Shared) (u v:Value) (r:Bool):Prop:=
 ∀ (prog:Program) (w:World) (E:Value ->Shared ->Prop) (Q:Value ->Shared ->Prop),Q (.bool r) s ->wpAny (model prog w) A (richCompare .Lt u v) Q E s
inductive LexAt (A:Around) (s:Shared):List Value ->List Value ->Bool ->Prop
 | nn:LexAt A s [] [] false
 | nc {v:Value} {vs:List Value}:LexAt A s [] (v::vs) true
 | cn {u:Value} {us:List Value}:LexAt A s (u::us) [] false
 | eq {u v:Value} {us vs:List Value} {r:Bool}:SeqAt.EqAt A s u v true ->LexAt A s us vs r ->LexAt A s (u::us) (v::vs) r
 | lt {u v:Value} {us vs:List Value} {r:Bool}:SeqAt.EqAt A s u v false ->LtAt A s u v r ->LexAt A s (u::us) (v::vs) r
section
open PySem.SeqAt
open PySem.AutoSeq1 (wpAny_loadPart')
open PySem.MeetsSeq PySem.MeetsSeq2 PySem.MeetsSeq3
theorem qco (l b:Addr) (D B:Array Value) (n n2:Nat) (dd a0:Option Addr) (sl a7:Array (Option Value)) (r:Bool):
  Meets (Builtin.«tuple.__lt__» ⟨[.ref l,.ref b],[]⟩)
   (λ A R s=>s.heap.get? l=some {cls:= .type "tuple",dict:=dd,data:= .seq D n,slots:=sl}/\s.heap.get? b=some {cls:= .type "tuple",dict:=a0,data:= .seq B n2,slots:=a7}/\
    LexAt A.in1 s D.toList B.toList r/\R (.ok (.ret (.bool r))) s):=
 .of_wp λ prog w A R s h=>by
  obtain ⟨hp,g,d,tk,os⟩:=s;obtain ⟨hl,hb,hx,h⟩:=h;have f2:=AutoSeq1.sub_tuple_tuple
  wp_walk using wpAny_loadPart' hl,wpAny_loadPart' hb,wpAny_forIn_list _ (λ rest b s'=>b.1=none/\s'=⟨hp,g,d,tk,os⟩/\∃ (vs ws:List Value),rest=vs.zip ws/\
   LexAt A.in1 ⟨hp,g,d,tk,os⟩ vs ws r/\vs.length+B.size=ws.length+D.size) _
  case turn=>
   rintro ⟨y,x⟩ rest b s' ⟨U,rfl,vs,ws,hz,Y,J⟩;cases Y with
   | nn=>rw [List.zip_nil_left] at hz;cases hz
   | nc=>rw [List.zip_nil_left] at hz;cases hz
   | cn=>rw [List.zip_nil_right] at hz;cases hz
   | eq he hr=>
    rw [z1c] at hz;injection hz with Z O;injection Z with hy hx;subst hy hx;simp only [z1w] at J;refine z3h (he prog w _ _ ?_)
    wp_walk
    exact ⟨zr,zr,_,_,O,hr,by omega⟩
   | lt he hr=>
    rw [z1c] at hz;injection hz with Z O;injection Z with hy hx;subst hy hx;refine z3h (he prog w _ _ ?_);have a6:=hr prog w
    wp_walk using a6
    exact ⟨_,zr,by simpa using h⟩
  case fin=>
   rintro ⟨b1,b2⟩ s' ⟨U,rfl,vs,ws,hz,Y,J⟩;simp only at U;subst U;have hv:r=decide (D.size < B.size):=by
    cases Y with
    | nn=>
     simp only [z2g] at J;exact (z28 (by omega)).symm
    | nc=>
     simp only [z2g,z1w] at J;exact (z2m (by omega)).symm
    | cn=>
     simp only [z2g,z1w] at J;exact (z28 (by omega)).symm
    | eq _ _=>rw [z1c] at hz;cases hz
    | lt _ _=>rw [z1c] at hz;cases hz
   rw [hv] at h
   wp_walk
   exact ⟨_,zr,by simpa [Builtin.Tuple.tupleCompareSizes] using h⟩
  case h=>
   exact ⟨rfl,rfl,D.toList,B.toList,rfl,hx,by simp;omega⟩
end
theorem qjb {A:Around} {s:Shared} {l b:Addr} {D B:Array Value} {r:Bool} (hl:IsTup s.heap l D) (hb:IsTup s.heap b B) (hx:LexAt A.in1 s D.toList B.toList r) (hu:A.units < cLine):LtAt A s (.ref l) (.ref b) r:=by
 intro prog w E Q h;obtain ⟨⟨cls,dd,data,sl⟩,ho,hc,n,hd⟩:=id hl;obtain ⟨⟨a6,Z,Y,a0⟩,U,J,n2,O⟩:=id hb;simp only at hc hd J O;subst hc hd J O;exact richCompare_meets_room (op:= .Lt) ⟨_,ho,zr⟩ ⟨_,U,zr⟩ PySem.F.slot_tuple_lt PySem.F.entry_tuple_lt (PySem.F.args_tuple_lt_2 _ _) (qco l b D B n n2 dd Z sl a0 r)
  ⟨ho,U,hx,show Value.bool r≠Value.notImplemented/\Q (.bool r) s from ⟨(λ x=>nomatch x),h⟩⟩ hu
mutual
def ltD? :PyData ->PyData ->Option Bool
 | .int a,.int b=>some (decide (a < b))
 | .str a,.str b=>some (decide (a.cps.toList < b.cps.toList))
 | .tuple as,.tuple bs=>lexD? as bs
 | _,_=>none
def lexD? :List PyData ->List PyData ->Option Bool
 | [],[]=>some false
 | [],_::_=>some true
 | _::_,[]=>some false
 | a::as,b::bs=>if PyData.eqv a b=true then lexD? as bs else ltD? a b
end
mutual
theorem q9y:∀ (U B:PyData) (A:Around) (s:Shared) (a b:Value) (as bs:List Addr) (r:Bool),Reads s.heap a U as ->Reads s.heap b B bs ->U.canLay0=true ->B.canLay0=true ->
    A.units+min U.depth B.depth < cLine ->ltD? U B=some r ->LtAt A s a b r
  | .int x,B,A,s,_,_,_,_,r,J,O,D,Y,hu,e=>by
    cases J
    cases O <;> first
      | (cases e;intro prog w E Q h;exact show wpAny (model prog w) A (compareOp .Lt _ _) Q E s from lt_int h)
      | (exact nomatch e)
  | .str x,B,A,s,_,_,_,_,r,J,O,D,Y,hu,e=>by
    cases J
    cases O <;> first
      | (cases e;intro prog w E Q h;exact show wpAny (model prog w) A (compareOp .Lt _ _) Q E s from lt_str h)
      | (exact nomatch e)
  | .tuple xs,B,A,s,_,_,_,_,r,J,O,D,Y,hu,e=>by
    cases J with
    | tuple h1 h2 h3 h4=>
      cases O with
      | tuple k1 k2 k3 k4=>
        exact qjb ⟨_,h1,h2,_,h3⟩ ⟨_,k1,k2,_,k3⟩ (q8y xs _ A.in1 s _ _ _ _ r h4 k4 D Y (SeqAt.room_in hu) e) (SeqAt.room_here hu)
      | none=>exact nomatch e
      | bool=>exact nomatch e
      | int=>exact nomatch e
      | str=>exact nomatch e
      | list=>exact nomatch e
      | dict=>exact nomatch Y
  | .none,_,_,_,_,_,_,_,_,_,_,_,_,_,e=>by simp [ltD?] at e
  | .bool _,_,_,_,_,_,_,_,_,_,_,_,_,_,e=>by simp [ltD?] at e
  | .list _,_,_,_,_,_,_,_,_,_,_,_,_,_,e=>by simp [ltD?] at e
  | .dict _,_,_,_,_,_,_,_,_,_,_,D,_,_,_=>nomatch D
theorem q8y:∀ (xs ys:List PyData) (A:Around) (s:Shared) (vs Z:List Value) (as bs:List Addr) (r:Bool),ReadsAll s.heap vs xs as ->ReadsAll s.heap Z ys bs ->PyData.canLayAll0 xs=true ->PyData.canLayAll0 ys=true ->
  A.units+min (PyData.depthAll xs) (PyData.depthAll ys) < cLine ->lexD? xs ys=some r ->LexAt A s vs Z r
 | [],[],_,_,_,_,_,_,r,J,O,_,_,_,e=>by cases J;cases O;cases e;exact .nn
 | [],_::_,_,_,_,_,_,_,r,J,O,_,_,_,e=>by cases J;cases O;cases e;exact .nc
 | _::_,[],_,_,_,_,_,_,r,J,O,_,_,_,e=>by cases J;cases O;cases e;exact .cn
 | x::xs,y::ys,A,s,_,_,_,_,r,J,O,ha,hb,hu,e=>by
  have B:x.canLay0=true/\PyData.canLayAll0 xs=true:=by simpa [PyData.canLayAll0] using ha
  have D:y.canLay0=true/\PyData.canLayAll0 ys=true:=by simpa [PyData.canLayAll0] using hb
  cases J with
  | cons r1 rs=>
   cases O with
   | cons U Y=>
    have eq:=SeqAt.eqAt_reads x y A s _ _ _ _ r1 U B.1 D.1 (SeqAt.room_head hu);rw [lexD?] at e;cases q:PyData.eqv x y with
    | true=>
     rw [q] at eq;rw [if_pos q] at e;exact .eq eq (q8y xs ys A s _ _ _ _ r rs Y B.2 D.2 (SeqAt.room_tail hu) e)
    | false=>
     rw [q] at eq;rw [if_neg (by rw [q];exact z15)] at e;exact .lt eq (q9y x y A s _ _ _ _ r r1 U B.1 D.1 (SeqAt.room_head hu) e)
end
section
variable {X:Cx}
def rLtD (K:PySem.W.Frag):R2:=λ x y H Q=>∃ d e r,Dat K H d x/\Dat K H e y/\d.depth<=60/\ltD? d e=some r/\Q (.bl r) H
theorem qnp (hu:X.A.units+64 < cLine) (K:PySem.W.Frag) (hK:X.K=K:=by rfl):OpR X (compareOp .Lt) (rLtD K):=by
 subst hK;intro pins s σ H x y v u Q I rx ry h;obtain ⟨d,e,r,hd,B,hz,hr,q⟩:=h;obtain ⟨as,ra⟩:=Dat.reads I _ _ _ hd rx;obtain ⟨bs,rb⟩:=Dat.reads I _ _ _ B ry;exact q9y d e X.A s v u _ _ r ra rb (Dat.lay _ _ hd) (Dat.lay _ _ B) (q98 hu hz) hr X.prog X.w X.xe _ (q13 I q rfl)
end
def tyD:PyData ->String
 | .none=>"NoneType"
 | .bool _=>"bool"
 | .int _=>"int"
 | .str _=>"str"
 | .list _=>"list"
 | .tuple _=>"tuple"
 | .dict _=>"dict"
theorem qhc (d:PyData):tyD d∈tyTs:=by
 cases d <;> simp [tyD,tyTs]
section
variable {X:Cx}
theorem q3b (K:PySem.W.Frag) (hK:X.K=K:=by rfl):q30 X (.builtin "isinstance") (λ xs H Q=>∃ x n d,xs=[x,.ty n]/\Dat K H d x/\n∈tyNs/\Q (.bl (tyIs (tyD d) n)) H):=by
 subst hK;intro pins s σ H xs us Q I r h;obtain ⟨x,n,d,rfl,hd,hn,q⟩:=h;obtain ⟨u,c,rfl,B,rc⟩:=q9n r;cases rc
 have e:=q8g (K:=X.K) (qhc d) hn;have fin:∀ tk,EP X pins σ Q (.bool (tyIs (tyD d) n)) {s with toks:=tk}:=λ tk=>⟨.bl _,H,I.tok tk,rfl,q⟩;cases hd with
 | non=>cases B;exact z2i PySem.W.kitx_none I.kIn True.intro e (λ z=>nomatch z) fin
 | bl b=>cases B;exact z2i PySem.W.kitx_bool I.kIn True.intro e (λ z=>nomatch z) fin
 | int i=>obtain ⟨t,rfl⟩:=B;exact z2i PySem.W.kitx_int I.kIn True.intro e (λ z=>nomatch z) fin
 | str z h=>obtain ⟨t,rfl⟩:=B;exact z2i PySem.W.kitx_str I.kIn True.intro e (λ z=>nomatch z) fin
 | lst hq _=>
  cases B
  obtain ⟨its,_,⟨o,m,e1,c,_,_⟩,_⟩:=I.list hq;exact z2i PySem.W.kitx_list I.kIn ⟨o,e1,c⟩ e (λ z=>nomatch z) fin
 | tup hq _=>
  cases B
  obtain ⟨its,_,⟨o,e1,c,_⟩,_⟩:=I.tuple hq;exact z2i PySem.W.kitx_tuple I.kIn ⟨o,e1,c⟩ e (λ z=>nomatch z) fin
def rNeD (K:PySem.W.Frag):R2:=λ x y H Q=>∃ d e,Dat K H d x/\Dat K H e y/\d.depth<=60/\Q (.bl (!PyData.eqv d e)) H
theorem qnq (hu:X.A.units+64 < cLine) (K:PySem.W.Frag) (hK:X.K=K:=by rfl):OpR X (compareOp .NotEq) (rNeD K):=by
 subst hK;intro pins s σ H x y v u Q I rx ry h;obtain ⟨d,e,hd,B,hz,q⟩:=h;obtain ⟨as,ra⟩:=Dat.reads I _ _ _ hd rx;obtain ⟨bs,rb⟩:=Dat.reads I _ _ _ B ry;exact SeqAt.compareNe_reads ra rb (Dat.lay _ _ hd) (Dat.lay _ _ B) (q98 hu hz) (q13 I q rfl)
def q8h (x y:Str):Int:=match Builtin.Str.occurrences x y 0 x.length 1 with | i::_=>(i:Int) | []=>-1
def qox:V ->List V ->Hp ->VK ->Prop:=λ x xs H Q=>∃ z y,x= .str z/\xs=[.str y]/\Q (.int (q8h z y)) H
theorem qf3:MtR X "str.find" qox:=by
 intro pins s σ H x xs v us Q I rx rv h;obtain ⟨z,y,rfl,rfl,q⟩:=h;obtain ⟨t,rfl⟩:=rx;obtain ⟨u,rfl,ru⟩:=rv.one;obtain ⟨t2,rfl⟩:=ru;exact call_gives F.slot_str_find (typeIs_str _ _ _) F.entry_str_find (F.args_str_find_2 _ _) (gives_str_find z y t t2) ⟨.int _,H,I.tok _,⟨_,zr⟩,q⟩
end
end L2
namespace L2
open PySem PySem.Spec PyProof.Rows PySem.W
def RawD (h:Heap) (d:Addr) (es:Array DictEntry) (ep:Nat):Prop:=∃ o,h.get? d=some o/\o.ExactDict/\o.data= .dict es ep
theorem RawD.ty {s:Shared} {d:Addr} {es:Array DictEntry} {ep:Nat} (x:RawD s.heap d es ep):s.TypeIs (.ref d) "dict":=let ⟨o,e,c,_⟩:=x;⟨o,e,c.1⟩
section
variable {prog:Program} {w:World} {A:Around} {E:Value ->Shared ->Prop} {s:Shared} {d it:Addr} {es:Array DictEntry} {ep i:Nat}
theorem qjc {Q:Value ->Shared ->Prop} (hd:(d==sysModules)=false) (x:RawD s.heap d es ep)
  (q:Q (.ref s.heap.objs.size) {s with heap:=s.heap.push {cls:= .type "dict_keyiterator",data:= .fields #[.ref d,.int 0 0,.int es.size 0,.int ep 0]}}):wpAny (model prog w) A (pyIter (.ref d)) Q E s:=by
 obtain ⟨o,ho,hc,B⟩:=id x;refine wpAny_pyIter_slot x.ty PySem.F.slot_dict_iter (z22 PySem.F.slot_dict_iter x.ty PySem.F.entry_dict_iter ?_ (PySem.F.args_dict_iter_1 _));unfold Builtin.«dict.__iter__» Builtin.Dict.dictSlotNone;refine z3h (z3h (wpAny_notOrdered_dict x.ty ?_));show wpAny _ _ (pure (Value.ref d)) _ _ s;refine z3g ?_;show wpAny _ _ (Builtin.Dict.showsAll d >>=_) _ _ s;unfold Builtin.Dict.showsAll;rw [if_neg (by rw [hd];exact z15)];refine z3h (z3g (z3h (z1q ho B (z3h (z2j ho B ?_)))));refine z3h (z1o (z3g ⟨_,zr,"dict_keyiterator",_,⟨_,z0y _ rfl,zr⟩,z00.lookup,?_⟩))
 simpa [rawInt] using q
theorem qjd {e:DictEntry} {Q:Option Value ->Shared ->Prop} (B:s.heap.IsKeyIter it d i es.size ep) (x:RawD s.heap d es ep) (hx:es[i]? =some e)
  (q:∀ h',h'.IsKeyIter it d (i+1) es.size ep ->Heap.SameBut it s.heap h' ->Q (some e.key) {s with heap:=h'}):wpAny (model prog w) A (pyNext (.ref it)) Q E s:=by
 obtain ⟨o,ho,hc,hd⟩:=id B;obtain ⟨od,O,hcd,J⟩:=id x;unfold pyNext;refine z3h (z2u (wpAny_callSpecial?_slot (name:=Str.ofString "__next__") B.typeIs z00
  (z22 z00 B.typeIs PySem.F.entry_dict_keyiterator_next ?_ (PySem.F.args_dict_keyiterator_next_1 _))))
 refine z3h (z3g (z3h (z3h ?_)));refine z3h (z01 B.typeIs (z3g ?_));refine z3h (wpAny_fieldsOf ho hd ?_);simp only [show Builtin.Dict_items.ownsTuple "dict_keyiterator"=false by decide,z14,if_false];show wpAny _ _ (if (Value.ref d==Value.none)=true then _ else _) _ _ s;rw [if_neg (show ¬ ((Value.ref d==Value.none)=true) from z15)];refine z3h (z3g (z3h (z1q O J ?_)));rw [if_neg (by simp)];refine z3h (z3g (z3h (z2j O J ?_)));rw [if_neg (by simp)];refine z3g ?_;simp only [show ¬ ((i:Int) < 0) from by omega,if_false,z1n,hx];refine z3h ?_;refine z3h (z01 B.typeIs (z3g ?_));refine z3h (wpAny_isOneOf_keyiter B.typeIs ?_);show wpAny _ _ (setField (.ref it) 1 (rawInt ((i:Int)+1)) >>=_) _ _ s;refine z3h (z2s ho hd (by simp) ?_);have D:(s.heap.update it (Obj.mapFields (·.setIfInBounds 1 (rawInt ((i:Int)+1))))).IsKeyIter it d (i+1) es.size ep:=
  ⟨_,z0p _ ho (Obj.isFreed_of_fields (Obj.data_mapFields hd _)),(Obj.cls_mapFields ..).trans hc,by rw [Obj.data_mapFields hd];simp [rawInt]⟩
 refine z3h (z2w ?_);refine z3h (wpAny_isOneOf_keyiter (s:={s with heap:=s.heap.update it (Obj.mapFields (·.setIfInBounds 1 (rawInt ((i:Int)+1))))}) D.typeIs ?_);show wpAny _ _ (pure e.key) _ _ _;exact z3g (z3g ⟨_,zr,z3g (q _ D (z0x ..))⟩)
theorem qlx {Q:Option Value ->Shared ->Prop} (hh:A.handled=none) (B:s.heap.IsKeyIter it d i es.size ep) (x:RawD s.heap d es ep) (hx:es.size<=i)
  (q:∀ h',Heap.ExtBut it s.heap h' ->Q none {s with heap:=h'}):wpAny (model prog w) A (pyNext (.ref it)) Q E s:=by
 obtain ⟨o,ho,hc,hd⟩:=id B;obtain ⟨od,J,hcd,D⟩:=id x;unfold pyNext;refine z3h (z2u (wpAny_callSpecial?_slot (name:=Str.ofString "__next__") B.typeIs z00
  (z22 z00 B.typeIs PySem.F.entry_dict_keyiterator_next ?_ (PySem.F.args_dict_keyiterator_next_1 _))))
 refine z3h (z3g (z3h (z3h ?_)));refine z3h (z01 B.typeIs (z3g ?_));refine z3h (wpAny_fieldsOf ho hd ?_);simp only [show Builtin.Dict_items.ownsTuple "dict_keyiterator"=false by decide,z14,if_false];show wpAny _ _ (if (Value.ref d==Value.none)=true then _ else _) _ _ s;rw [if_neg (show ¬ ((Value.ref d==Value.none)=true) from z15)];refine z3h (z3g (z3h (z1q J D ?_)));rw [if_neg (by simp)];refine z3h (z3g (z3h (z2j J D ?_)));rw [if_neg (by simp)];refine z3g ?_;simp only [show ¬ ((i:Int) < 0) from by omega,if_false,z1n,z0l hx];refine z3h ?_;refine z3h (z01 B.typeIs (z3g ?_));show wpAny _ _ (setField (.ref it) 0 .none >>=_) _ _ s;refine z3h (z2s ho hd (by simp) ?_);show wpAny _ _ (newExc (.type "StopIteration") [] >>=_) _ _ _;refine z3h ?_;simp only [newExc,newTuple];refine z3h (z1o ?_ (by size_fits));refine z3h (m:=firstArgMember _ _) (wpAny_of_eq (a:=Value.none) (by first | rfl | (simp only [firstArgMember];rfl)) ?_);refine z1o ?_ (by size_fits);simp only [raiseNew];refine z3h (wpAny_handled ?_);rw [show A.in1.handled=none from hh];refine z3h (z3g (wpAny_throw ?_));refine z3h (wpAny_isInstance (T:="StopIteration") (b:=true) ⟨_,z0y _ rfl,zr⟩ isSubtype_stop ?_);exact z3g (q _ (((z0x ..).extBut.push _).push _))
end
end L2
namespace Tim
section
variable {α:Type}
def srt (lt:α ->α ->Bool) (l:List α):List α:=l.mergeSort λ a b=> !lt b a
theorem q5u (lt:α ->α ->Bool) (l:List α):(srt lt l).Perm l:=List.mergeSort_perm _ _
theorem qf4 {lt:α ->α ->Bool} (h:STO lt) (l:List α):(srt lt l).Pairwise λ a b=>lt b a=false:=by
 have:=List.pairwise_mergeSort (le:=λ a b=> !lt b a) (λ a b c h1 h2=>by
  cases e:lt c a with
  | false=>rfl
  | true=>
   rcases h.nt b e with q | q
   ·rw [q] at h2;cases h2
   ·rw [q] at h1;cases h1) (λ a b=>by
  cases e:lt b a with
  | false=>rfl
  | true=>
   rw [h.asym e];rfl) l
 exact List.Pairwise.imp (λ {a b} (z:(!lt b a)=true)=>by simpa using z) this
theorem qhd {lt:α ->α ->Bool} (h:STO lt) {l k:List α} (p:k.Perm l) (a:k.Pairwise λ a b=>lt b a=false):k=srt lt l:=h.uniq (p.trans (q5u lt l).symm) a (qf4 h l)
end
section
open PySem
theorem qdx {α:Type} {lt:α ->α ->Bool} (h:STO lt) (B:Value ->α) {vs out:List Value} (D:Sorted (λ v=>rank lt (vs.map B) (B v)) vs out):out.map B=srt lt (vs.map B):=by
 refine qhd h (D.perm.map B) ?_;rw [List.pairwise_map];refine List.Pairwise.imp_of_mem (λ {x y} hx hy hr=> ?_) D.asc;have mx:B x∈vs.map B:=z38.mpr ⟨x,D.perm.mem_iff.mp hx,rfl⟩;have my:B y∈vs.map B:=z38.mpr ⟨y,D.perm.mem_iff.mp hy,rfl⟩;rw [qen (λ a _=>h.irr a) (λ a _ b _ c _=>h.tr a b c) (λ a _ b _ c _ z=>h.nt b z) my mx];exact z28 (by omega)
theorem qje {α:Type} {lt:α ->α ->Bool} (h:STO lt) (B:Value ->α) {vs:List Value} {x y:Value} (hx:x∈vs) (hy:y∈vs):lt (B x) (B y)=decide (rank lt (vs.map B) (B x) < rank lt (vs.map B) (B y)):=
 qen (λ a _=>h.irr a) (λ a _ b _ c _=>h.tr a b c) (λ a _ b _ c _ z=>h.nt b z) (z38.mpr ⟨x,hx,rfl⟩) (z38.mpr ⟨y,hy,rfl⟩)
end
end Tim
namespace L2
open PySem PySem.Spec PyProof.Rows PySem.W
def strLt (x y:Str):Bool:=decide (x.cps.toList < y.cps.toList)
theorem q6y:Tim.STO strLt:=by
 have h:=(Tim.ql0.lex).map (λ z:Str=>z.cps.toList) (λ a b e=>by
  cases a
  cases b
  congr
  exact Array.toList_inj.mp e)
 have e:strLt=λ a b:Str=>Tim.lexB (λ x y:Nat=>decide (x < y)) a.cps.toList b.cps.toList:=by
  funext a b
  exact Tim.qaf _ _
 rw [e];exact h
def sOf:Value ->Str
 | .str x _=>x
 | _=>""
theorem q99 {B:List Str}:∀ {us:List Value},Vals (B.map V.str) us ->us.map sOf=B/\(∀ u∈us,∃ x t,u= .str x t)/\StrsAre us B:=by
 induction B with
 | nil=>
  intro us r;cases r
  exact ⟨rfl,(λ _ z=>nomatch z),.nil⟩
 | cons x B ih=>
  intro us r;cases r with
  | cons r1 rr=>
   obtain ⟨t,rfl⟩:=r1;obtain ⟨a,b,c⟩:=ih rr;refine ⟨by rw [z2t,a];rfl,λ u hu=> ?_,.cons x t c⟩;rcases z2v.mp hu with rfl | hu
   ·exact ⟨x,t,zr⟩
   ·exact b u hu
theorem q5v:∀ {us:List Value},(∀ u∈us,∃ x t,u= .str x t) ->Vals ((us.map sOf).map V.str) us
 | [],_=> .nil
 | u::us,h=>by
  obtain ⟨x,t,rfl⟩:=h u (z18 ..);exact .cons ⟨t,zr⟩ (q5v λ v hv=>h v (z0s _ hv))
section
variable {prog:Program} {w:World} {A:Around} {s:Shared} {a:Addr}
theorem qhe {ws:List Str} {vs:List Value} (r:Vals (ws.map V.str) vs):Tim.Keys prog w A s a vs (λ v=>Tim.rank strLt (vs.map sOf) (sOf v)):=by
 intro h2 s' _;obtain ⟨e1,e2,e3⟩:=q99 r;refine ⟨oneType',λ E Q q=> ?_,λ x B y hy E Q q=> ?_⟩
 ·match vs,h2,e3 with
  | v1::v2::vr,_,e3=>
   rw [keyKind_strs e3];exact z3g q
 ·rw [<- Tim.qje q6y sOf B hy] at q;obtain ⟨x',t,rfl⟩:=e2 x B;obtain ⟨y',u,rfl⟩:=e2 y hy;rw [keyLt'_oneType];exact oneLt_str q
end
section
variable {X:Cx}
theorem Inv.qdy {pins:List (Addr×Obj)} {σ:St} {H:Hp} {s:Shared} {xs:List V} {out:Array Value} {l:Addr} {n tk:Nat} {h':Heap} {Q:VK} (I:Inv X pins σ H s) (rv:Vals xs out.toList) (hz:xs.length<=sizeLine)
  (keep:∀ b o,s.heap.get? b=some o ->h'.get? b=some o) (hl:s.heap.objs.size<=l) (hg:h'.get? l=some (seqObj "list" out n)) (q:Q (.ref l) (upd H l (.lst xs))):EP X pins σ Q (.ref l) {s with heap:=h',toks:=tk}:=by
 refine ⟨.ref l,_,I.laid (a:=l) (o:= .lst xs) (t':=tk) keep hl ⟨hz,out.toList,n,rv,?_⟩,zr,q⟩;rw [Array.toArray_toList];exact hg
end
section
variable {prog:Program} {w:World} {A:Around} {E:Value ->Shared ->Prop} {s:Shared} {a:Addr}
end
section
variable {X:Cx}
end
end L2
namespace L2
open PySem PySem.Spec PyProof.Rows
section
variable {X:Cx}
theorem qf5 (K:PySem.W.Frag) {es:List Expr} {k:Nat} {t:TGs} {n:Nat} {pos:Pos} (hc:X.calm=true) (h:PGs X es t) (hK:X.K=K:=by rfl)
  (hn:(assignEach es X.env).length=n:=by rfl) (B:(assignEach es X.env).findIdx? (·.1)=none:=by rfl):PG X (.Tuple es k pos) (gTup K n t):=by
 subst hK;exact q43 hc h hn B
def qly (K:PySem.W.Frag):R2:=λ x y H Q=>∃ d ds,Dat K H d x/\Dat K H (.list ds) y/\PyData.depthAll ds<=60/\Q (.bl (!ds.any λ y=>PyData.eqv y d)) H
theorem qhf (hu:X.A.units+64 < cLine) (K:PySem.W.Frag) (hK:X.K=K:=by rfl):OpR X (compareOp .NotIn) (qly K):=by
 subst hK;intro pins s σ H x y v u Q I rx ry h;obtain ⟨d,ds,hd,B,hz,q⟩:=h;obtain ⟨as,ra⟩:=Dat.reads I _ _ _ hd rx;obtain ⟨bs,rb⟩:=Dat.reads I _ _ _ B ry;exact SeqAt.notIn_list_reads rb ra (Dat.lay _ _ B) (Dat.lay _ _ hd) (by have:min (PyData.depthAll ds) d.depth<=PyData.depthAll ds:=Nat.min_le_left _ _;omega) (q13 I q rfl)
end
section
variable {X:Cx} {e:Expr} {lo hi:Option Expr} {se:Expr} {te:TE} {tl th ts:TO} {p2 pos:Pos}
end
section
variable {X:Cx}
end
section
variable {X:Cx}
end
section
variable {prog:Program} {w:World} {A:Around} {R:Result ->Shared ->Prop} {I:Addr} {fp wr:List Addr} {n:Nat} {P:Nat ->Value ->Prop} {St:Nat ->Heap ->Prop}
end
section
variable {X:Cx} {e d:Expr} {t tk:TA} {p pos kpos:Pos}
end
section
variable {prog:Program} {w:World} {A:Around} {E:Value ->Shared ->Prop} {s:Shared}
end
section
variable {prog:Program} {w:World} {A:Around} {R:Result ->Shared ->Prop} {I:Addr} {fp wr:List Addr} {n:Nat} {P:Nat ->Value ->Prop} {St:Nat ->Heap ->Prop}
end
section
variable {X:Cx}
end
def Itd (a:Addr) (o:Obj) (kvs:List (Key×V)):It:=
 ⟨λ i H=>H a=some (.frz o (.dK kvs))/\i < kvs.length,λ i H x H'=>H'=H/\∃ kv,kvs[i]? =some kv/\x=kV kv.1,λ i H=>H a=some (.frz o (.dK kvs))/\kvs.length<=i⟩
theorem qjf {P:Program} {w:World} {es:List DictEntry} {vs:List (Key×Value)} (p:Pairs (q18 P w) es vs):∀ {kvs:List (Key×V)} {i:Nat} {B:Key×V},KV kvs vs ->kvs[i]? =some B ->∃ e,es[i]? =some e/\RelV (kV B.1) e.key:=by
 induction p with
 | nil=>
  intro kvs i B r h;cases r
  simp at h
 | cons a b c ih=>
  intro kvs i B r h;cases r with
  | cons d f=>
   cases i with
   | zero=>
    simp at h
    subst h;refine ⟨_,zr,?_⟩;rw [<- d.1] at a;rcases q22 a with ⟨i,t,e1,e2⟩ | ⟨x',t,e1,e2⟩
    ·rw [e1];exact ⟨t,e2⟩
    ·rw [e1];exact ⟨t,e2⟩
   | succ i=>simpa using ih f (by simpa using h)
section
variable {X:Cx} {tg:Expr}
theorem Inv.freeze {pins:List (Addr×Obj)} {σ:St} {H:Hp} {s:Shared} {a:Addr} {o:Obj} {kvs:List (Key×V)} (I:Inv X pins σ H s) (e:H a=some (.dK kvs)) (ho:s.heap.get? a=some o):Inv X pins σ (upd H a (.frz o (.dK kvs))) s:=by
 have u:Un X.fs [] H (upd H a (.frz o (.dK kvs))) s.heap s.heap:=by
  refine ⟨λ b o q _ _ _=>q,λ b o q _ _ _=>⟨o.slots,q⟩,λ b B q n _=> ?_,λ b B q _=>⟨B,q⟩,λ b xs q=> ?_,λ b B u q=> ?_,λ b ps q=>⟨#[],?_⟩⟩
  ·rw [qg (λ z=>by rw [z,e] at n;cases n)];exact n
  ·rw [qg (λ z=>by rw [z,e] at q;cases q)];exact q
  ·rw [qg (λ z=>by rw [z,e] at q;cases q)];exact q
  ·rw [qg (λ z=>by rw [z,e] at q;cases q),q];simp
 have hok:HOk X.prog X.w (upd H a (.frz o (.dK kvs))) s.heap:=λ b B q=>by
  by_cases z:b=a
  ·subst z;rw [qa] at q;cases q
   have:=I.hok b _ e;exact ⟨ho,this⟩
  ·rw [qg z] at q;have hb:=I.hok b B q;exact hb.stay (λ c u _ g=>g) (λ c g=>by rw [qg (λ z=>by rw [z,e] at g;cases g)];exact g) λ c xs g=>by rw [qg (λ z=>by rw [z,e] at g;cases g)];exact g
 have:=I.un (t':=s.toks) u hok;exact this
theorem qhg {P:Program} {w:World} {K:PySem.W.Frag} (a it:Addr) (o:Obj) (es:Array DictEntry) (ep:Nat) (kvs:List (Key×V)) (ho:o.ExactDict) (B:o.data= .dict es ep):Turn P w K tg (Itd a o kvs) [it] it (λ i h=>h.IsKeyIter it a i es.size ep) where
 mem:=by simp
 obj:=λ i h st b U=>by
  have e:b=it:=by simpa using U
  subst e;obtain ⟨o,e,c,d⟩:=st;exact ⟨o,e,λ v z=>by rw [d] at z;cases z⟩
 keep:=λ i h h' st k=>by
  obtain ⟨o,e,r⟩:=st;exact ⟨o,k it (by simp) o e,r⟩
 item:=by
  intro X hP hw hK hc i pins s σ H E I hf st hg;subst hP hw hK;obtain ⟨ha,hi⟩:=hg;obtain ⟨O,hz,a8,vs,rel,o2,a6,a0,J,a9,D,_,Y,a7⟩:=I.hok a _ ha;rw [O] at J;cases J
  rw [B] at D;cases D
  obtain ⟨e,he,ru⟩:=qjf Y rel (z09 hi);obtain ⟨f0,f1,f2,f3,f4,f5⟩:=hf it (by simp);refine qjd st ⟨o,O,ho,B⟩ (e:=e) (by simpa using he) λ h' Z sb=> ?_;have I1:Inv X pins σ H {s with heap:=h'}:=I.turned (t':=s.toks) (λ b o U e=>(sb.2 b U).trans e) f0 f1 f3 f4 f5;obtain ⟨oi,ei,ci,di⟩:=id Z;exact ⟨_,rfl,qc2 (s:={s with heap:=h'}) ei ci di (by decide) ⟨kV kvs[i].1,H,I1,ru,⟨rfl,_,z09 hi,rfl⟩,Z,λ b U=>(hf b U).1⟩⟩
 done:=by
  intro X hP hw hK hc i pins s σ H E I hf st hg;subst hP hw hK;obtain ⟨ha,hi⟩:=hg;obtain ⟨O,hz,a8,vs,rel,o2,a6,a0,J,a9,D,_,Y,a7⟩:=I.hok a _ ha;rw [O] at J;cases J
  rw [B] at D;cases D
  have hl:es.size=kvs.length:=by
   have h1:=Y.length;have h2:kvs.length=vs.length:=Paired.length rel;rw [z0v] at h1;omega
  obtain ⟨f0,f1,f2,f3,f4,f5⟩:=hf it (by simp);exact qlx (I.ok.hd hc) st ⟨o,O,ho,B⟩ (by omega) λ h' eb=>⟨zr,I.turned (t':=s.toks) (λ b o U e=>eb b o U e) f0 f1 f3 f4 f5⟩
 self:=by
  intro A i s Q E st h;exact wpAny_pyIter_keyiter st h
def iDct (tl:TE):TI:=λ σ H R=>tl σ H λ x H1=>∃ a kvs,x= .ref a/\((H1 a=some (.dK kvs)/\∀ o,R (Itd a o kvs) (upd H1 a (.frz o (.dK kvs))))\/ ∃ o,H1 a=some (.frz o (.dK kvs))/\R (Itd a o kvs) H1)
theorem qjg {l:Expr} {tl:TE} (hl:PE X l tl):PI X tg l (iDct tl):=by
 intro pins s σ H R I h;refine thn (hl pins s σ H _ I h) λ v s1 Y=> ?_;obtain ⟨x,H1,I1,r1,q1⟩:=Y;obtain ⟨a,kvs,e,q⟩:=q1;subst e;cases r1
 obtain ⟨H2,o,I2,ha,q2⟩:∃ H2 o,Inv X pins σ H2 s1/\H2 a=some (.frz o (.dK kvs))/\R (Itd a o kvs) H2:=by
  rcases q with ⟨e,q⟩ | ⟨o,e,q⟩
  ·obtain ⟨hz,D,vs,rel,o,es,ep,ho,r⟩:=I1.hok a _ e;exact ⟨_,o,I1.freeze e ho,qa,q o⟩
  ·exact ⟨H1,o,I1,e,q⟩
 obtain ⟨O,hz,D,vs,rel,o2,es,ep,J,U,B,_,hp2,hnd⟩:=I2.hok a _ ha;rw [O] at J;cases J
 refine qjc D ⟨o,O,U,B⟩ ?_;refine ⟨s1.heap.objs.size,[s1.heap.objs.size],_,_,H2,zr,I2.kept (t':=s1.toks) λ b o e=>z0i _ e,qhg a _ o es ep kvs U B,⟨_,z0y _ rfl,zr,zr⟩,λ b hb=> ?_,q2⟩;have e:b=s1.heap.objs.size:=by simpa using hb
 subst e;exact I2.fpOk (z3b _) (I2.hok.fresh (z3b _))
theorem qjh {a:Addr} {o:Obj} {kvs:List (Key×V)} {g:TG} {tb:TS} {D:Ends} {σ:St} {H:Hp} (Pv:Nat ->St ->Hp ->Prop) (h0:Pv 0 σ H) (hl:∀ i σ H,i<=kvs.length ->Pv i σ H ->H a=some (.frz o (.dK kvs)))
  (hs:∀ i B σ H,kvs[i]? =some B ->Pv i σ H ->g (kV B.1) σ H λ σ2 H2=>tb {D with nx:=Pv (i+1),ct:=Pv (i+1),bk:=D.nx} σ2 H2) (he:∀ σ H,Pv kvs.length σ H ->D.nx σ H):
  ∃ W:Nat ->Nat ->St ->Hp ->Prop,(∃ m,W 0 m σ H)/\∀ i m σ H,W i m σ H ->((Itd a o kvs).stop i H/\D.nx σ H)\/ ((Itd a o kvs).go i H/\∃ N:St ->Hp ->Prop,(∀ σ' H',N σ' H' ->∃ J,J < m/\W (i+1) J σ' H')/\∀ x H',(Itd a o kvs).yld i H x H' ->g x σ H' λ σ2 H2=>tb {D with nx:=N,ct:=N,bk:=D.nx} σ2 H2):=by
 refine q9v kvs.length Pv h0 (λ i σ H hi p=>⟨hl i σ H (z31 hi) p,hi⟩) (λ σ H p=>⟨⟨hl _ σ H (z3b _) p,z3b _⟩,he σ H p⟩) λ i σ H hi p x H' y=> ?_;obtain ⟨rfl,B,hk,rfl⟩:=y;exact hs i B σ H' hk p
theorem q9z:q30 X (.type "dict") (λ xs H Q=>∃ (a:Addr) (kvs:List (Key×V)),xs=[.ref a]/\Rd H a (.dK kvs)/\∀ d,H d=none ->Q (.ref d) (upd H d (.dK kvs))):=by
 intro pins s σ H xs us Q I r h;obtain ⟨a,kvs,rfl,ha,q⟩:=h;obtain ⟨u,rfl,ru⟩:=q5e r;cases ru
 obtain ⟨hz,D,vs,rel,hd⟩:=ha.ok I.hok;have hl:kvs.length=vs.length:=Paired.length rel;refine kt_call_dict D hd (by omega) λ h' B hs=> ?_;exact ⟨.ref s.heap.objs.size,_,I.laid (a:=s.heap.objs.size) (o:= .dK kvs) (t':=s.toks) (λ b o e=>(hs.2 b (z33 (z32 e))).trans (z0i _ e)) (z3b _) ⟨hz,beq_eq_false_iff_ne.mpr (Ne.symm (z33 I.big)),vs,rel,B⟩,zr,q _ (I.hok.fresh (z3b _))⟩
end
section
variable {X:Cx} {e:Expr} {lo hi:Option Expr} {se:Expr} {te:TE} {tl th ts:TO} {p2 pos:Pos}
end
section
variable {prog:Program} {w:World} {A:Around} {E:Value ->Shared ->Prop} {s:Shared}
theorem qlz {nm:String} {a b:Addr} {oa ob:Obj} {B eb:Array DictEntry} {pa pb:Nat} {Q:Bool ->Shared ->Prop} (na:(a==sysModules)=false) (nb:(b==sysModules)=false) (J:s.heap.get? a=some oa) (D:oa.data= .dict B pa)
  (U:s.heap.get? b=some ob) (O:ob.data= .dict eb pb) (a0:KeysOf (q18 prog w) eb) (hsz:B.size=eb.size)
  (Z:∀ (i:Nat) (e:DictEntry),B[i]? =some e ->∃ k j f,(q18 prog w).is k e.key=true/\e.hash=(q18 prog w).hash k/\(eb.findIdx? λ g=>(q18 prog w).is k g.key)=some j/\eb[j]? =some f/\SeqAt.EqAt A s e.val f.val true)
  (q:Q true s):wpAny (model prog w) A (Builtin.Dict.samePairs nm a b) Q E s:=by
 unfold Builtin.Dict.samePairs Builtin.Dict.showsAll;rw [if_neg (by rw [na];exact z15),if_neg (by rw [nb];exact z15)];refine z3h (z3g ?_);refine z3h (z3g ?_);refine z3h (z1q J D ?_);refine z3h (z1q U O ?_);rw [if_neg (by simp [hsz])];refine z3h (z2j J D ?_);refine z3h ?_;rw [Std.Legacy.Range.forIn_eq_forIn_range'];simp only [Std.Legacy.Range.size,Nat.sub_zero,Nat.add_sub_cancel,Nat.div_one];refine wpAny_forIn_list _ (λ rest x s'=>s'=s/\x=(none,())/\∃ i,i<=B.size/\rest=List.range' i (B.size - i)) _ ?_ ?_ _ _ ⟨rfl,rfl,0,z3e _,by simp⟩
 ·rintro x rest st s' ⟨rfl,rfl,i,hi,hr⟩;have lt:i < B.size:=by
   rcases Nat.lt_or_ge i B.size with h | h
   ·exact h
   ·rw [Nat.sub_eq_zero_of_le h] at hr;cases hr
  have e2:B.size - i=(B.size - (i+1))+1:=by omega
  rw [e2,List.range'_succ,List.cons.injEq] at hr;obtain ⟨rfl,hr⟩:=hr;refine z3h (z1q J D ?_);have ge:=z08 lt;obtain ⟨k,j,f,h1,h2,h3,h4,h5⟩:=Z x _ ge;rw [ge];have Y:wpAny (model prog w) A (holding [B[x].key,B[x].val] (do
     let __x <- dictFind b B[x].key B[x].hash
     match __x with
      | some j=>do
       let __do_lift <- dictEntries b
       match __do_lift[j]? with
        | some f=>holding [f.val] (eqBool B[x].val f.val)
        | x=>unsupported "internal:dict-equal"
      | x=>pure false)) (λ v s2=>v=true/\s2=s') E s':=by
   refine z2w (z3h ?_);rw [h2];refine wpAny_dictFind_of h1 U O a0 ?_;rw [h3];refine z3h (z1q U O ?_);rw [h4];exact z2w (h5 prog w _ _ ⟨zr,zr⟩)
  refine z3h (z3i Y (λ v s2 hv=> ?_) λ _ _ z=>z);obtain ⟨rfl,rfl⟩:=hv;rw [if_neg (by decide)];refine z3h (z2j J D ?_);rw [if_neg (by simp)];exact z3g ⟨zr,zr,x+1,lt,hr⟩
 ·rintro st s' ⟨rfl,rfl,i,hi,hr⟩;exact z3g q
end
theorem q81 {P:Program} {w:World} {es:List DictEntry} {vs:List (Key×Value)} (p:Pairs (q18 P w) es vs):∀ {i:Nat} {e:DictEntry},es[i]? =some e ->∃ B,vs[i]? =some B/\(q18 P w).is B.1 e.key=true/\e.val=B.2:=by
 induction p with
 | nil=>
  intro i e h;simp at h
 | cons a b c ih=>
  intro i e h;cases i with
  | zero=>
   simp at h
   subst h;exact ⟨_,zr,a,b⟩
  | succ i=>simpa using ih (by simpa using h)
theorem qhh {P:Program} {w:World} {es:List DictEntry} {vs:List (Key×Value)} (p:Pairs (q18 P w) es vs) {i:Nat} {kv:Key×Value} (h:vs[i]? =some kv):∃ e,es[i]? =some e:=by
 have hl:=p.length;have hi:=(z06.mp h).1;exact ⟨_,z09 (by omega)⟩
theorem qhi {kvs:List (Key×V)} {vs:List (Key×Value)} (r:KV kvs vs):∀ {i:Nat} {q:Key×Value},vs[i]? =some q ->∃ p,kvs[i]? =some p/\p.1=q.1/\RelV p.2 q.2:=by
 induction r with
 | nil=>
  intro i q h;simp at h
 | cons a b ih=>
  intro i q h;cases i with
  | zero=>
   simp at h
   subst h;exact ⟨_,zr,a⟩
  | succ i=>simpa using ih (by simpa using h)
theorem qnr {kvs:List (Key×V)} {vs:List (Key×Value)} (r:KV kvs vs) {i:Nat} {p:Key×V} (h:kvs[i]? =some p):∃ q,vs[i]? =some q/\p.1=q.1/\RelV p.2 q.2:=by
 have hl:kvs.length=vs.length:=Paired.length r;have hi:=(z06.mp h).1;obtain ⟨p',h',e⟩:=qhi r (z09 (show i < vs.length by omega));rw [h] at h';cases h'
 exact ⟨_,z09 (show i < vs.length by omega),e⟩
theorem qm0 {F:(Key×V) ->(Key×V) ->Prop} {B D:List (Key×V)} (h:Paired F B D):∀ {i:Nat} {p:Key×V},B[i]? =some p ->∃ q,D[i]? =some q/\F p q:=by
 induction h with
 | nil=>
  intro i p h;simp at h
 | cons a b ih=>
  intro i p h;cases i with
  | zero=>
   simp at h
   subst h;exact ⟨_,zr,a⟩
  | succ i=>simpa using ih (by simpa using h)
section
variable {X:Cx}
def DatP (K:PySem.W.Frag) (H:Hp) (p q:Key×V):Prop:=p.1=q.1/\∃ d,Dat K H d p.2/\Dat K H d q.2/\d.depth<=60
def qns (K:PySem.W.Frag):R2:=λ x y H Q=>∃ a b k1 k2,x= .ref a/\y= .ref b/\Rd H a (.dK k1)/\Rd H b (.dK k2)/\Paired (DatP K H) k1 k2/\Q (.bl false) H
theorem qji (hu:X.A.units+64 < cLine) (K:PySem.W.Frag) (hK:X.K=K:=by rfl):OpR X (compareOp .NotEq) (qns K):=by
  subst hK;intro pins s σ H x y v u Q I rx ry h;obtain ⟨a,b,k1,k2,rfl,rfl,ra,rb,hp,q⟩:=h;cases rx
  cases ry
  obtain ⟨hz1,c8,v1,b3,o1,e1,p1,D,a0,b6,c5,a9,d3⟩:=ra.ok I.hok;obtain ⟨hz2,c9,v2,b4,o2,e2,p2,Y,b0,b7,c6,J,a8⟩:=rb.ok I.hok;have l0:k1.length=k2.length:=Paired.length hp;have l1:k1.length=v1.length:=Paired.length b3;have l2:k2.length=v2.length:=Paired.length b4;have l3:=a9.length;have l4:=J.length;rw [z0v] at l3 l4;show wpAny _ _ (richCompare .NotEq (.ref a) (.ref b)) _ _ s;refine wpAny_richCompare_same_room (T:="dict") ⟨o1,D,a0.1⟩ ⟨o2,Y,b0.1⟩ PySem.F.slot_dict_ne (z22 PySem.F.slot_dict_ne ⟨o1,D,a0.1⟩ PySem.F.entry_dict_ne ?_ (PySem.F.args_dict_ne_2 _ _)) (by omega);unfold Builtin.«dict.__ne__»;have T1:s.TypeIs (.ref a) "dict":=⟨o1,D,a0.1⟩;have T2:s.TypeIs (.ref b) "dict":=⟨o2,Y,b0.1⟩;have same:∀ nm (Q2:Bool ->Shared ->Prop) (E2:Value ->Shared ->Prop),Q2 true s ->wpAny (model X.prog X.w) X.A.in1 (Builtin.Dict.samePairs nm a b) Q2 E2 s:=λ nm Q2 E2 q2=>by
    refine qlz c8 c9 D b6 Y b7 c6 (by omega) (λ i e he=> ?_) q2;have b8:e1.toList[i]? =some e:=by simpa using he
    obtain ⟨kv,c7,i1,i2⟩:=q81 a9 b8;obtain ⟨pv,d0,pe,pr⟩:=qhi b3 c7;obtain ⟨qv,d2,qe,d,U,a6,dz⟩:=qm0 hp d0;obtain ⟨qw,Z,we,wr⟩:=qnr b4 d2;obtain ⟨f,hf⟩:=qhh J Z;obtain ⟨qw2,O,j1,j2⟩:=q81 J hf;rw [Z] at O;cases O
    have ek:kv.1=qw.1:=by rw [<- pe,qe,we]
    obtain ⟨k',c4,b9⟩:=c5 e (Array.mem_of_getElem? he);have b5:k'=kv.1:=(q18 X.prog X.w).inj _ _ _ c4 i1;have B:e2[i]? =some f:=by simpa using hf
    have a7:i < e2.size:=(Array.getElem?_eq_some_iff.mp B).1;refine ⟨kv.1,i,f,i1,by rw [b9,b5],?_,B,?_⟩
    · rw [Array.findIdx?_eq_some_iff_getElem]
      refine ⟨a7,?_,λ j hj=> ?_⟩
      · have:e2[i]=f:=by
          have:=z08 a7;rw [this] at B;exact Option.some.inj B
        rw [this,ek];exact j1
      · intro z
        have c0:j < e2.size:=by omega
        obtain ⟨qj,d1,z1,_⟩:=q81 J (i:=j) (e:=e2[j]) (by simp [c0]);have ej:kv.1=qj.1:=(q18 X.prog X.w).inj _ _ _ z z1;have m1:(v2.map (·.1))[j]? =some qw.1:=by rw [z1j,d1];show some qj.1=_;rw [<- ej,ek]
        have m2:(v2.map (·.1))[i]? =some qw.1:=by rw [z1j,Z];rfl
        obtain ⟨b1,c1⟩:=z06.mp m1;obtain ⟨b2,c2⟩:=z06.mp m2;have:=(z07.mp a8) j i b1 b2 hj;exact this (c1.trans c2.symm)
    · rw [i2,j2]
      obtain ⟨as,r1⟩:=Dat.reads I _ _ _ U pr;obtain ⟨bs,r2⟩:=Dat.reads I _ _ _ a6 wr;have hq:=SeqAt.eqAt_reads d d X.A.in1 s _ _ as bs r1 r2 (Dat.lay _ _ U) (Dat.lay _ _ a6) (by
        have:X.A.in1.units=X.A.units+1:=rfl;rw [this];have:min d.depth d.depth<=d.depth:=Nat.min_le_left _ _;omega)
      rw [SeqAt.eqv_refl _ (Dat.lay _ _ U)] at hq;exact hq
  refine z3h (m:=Builtin.Dict.dictSlotArgs "__ne__" ⟨[.ref a,.ref b],[]⟩) ?_;unfold Builtin.Dict.dictSlotArgs;refine z3h (wpAny_notOrdered_dict T1 ?_);refine z3g ?_;refine z3h (wpAny_isInstance T2 isSubtype_dict_dict ?_);rw [if_neg (by decide)];refine z3h (m:=Builtin.Dict.addrOf (Value.ref a)) (z3g ?_);refine z3h (m:=Builtin.Dict.addrOf (Value.ref b)) (z3g ?_);refine z3h (same _ _ _ ?_);exact z3g ⟨_,rfl,(λ z=>nomatch z),q13 I q rfl⟩
end
def cA (mg:Str ->Option Value) (x:Str):Addr:=match mg x with
 | some (.ref a)=>a
 | _=>0
theorem q8i {mg:Str ->Option Value} {x:Str} {C:Addr} (h:mg x=some (.ref C)):cA mg x=C:=by
 unfold cA;rw [h]
structure MTop (K:PySem.W.Frag) (C:Addr) (m qual:Str) (st:Stmt) (ps:List Str):Prop where
 ex:∃ f fd,Fun K m qual st f fd/\Meth K C m f/\∀ us:List Value,us.length=ps.length ->bindArgs fd ⟨us,[]⟩=pure (ps.zip us)
theorem qm1 {K:PySem.W.Frag} {C:Addr} {m qual:Str} {st:Stmt} {ps:List Str} {f:Addr} {oc:Value} {od D:Option Addr} {O:Array (Option Value)} {kV B J cdv ct:Value}
  (b:∀ (kV B J:Value) (D:Option Addr) (cdv ct:Value) (us:List Value),us.length=ps.length ->bindArgs (PySem.W.fnOf m qual (q2o st) (q1z st) (qf st) .none kV B J D cdv ct) ⟨us,[]⟩=pure (ps.zip us))
  (a:PySem.W.findIn K (.ref C) m=some (some (.ref f))) (i:PySem.W.isFn K (.ref f)=true)
  (l:K.lookup f=some ⟨oc,od,.func (PySem.W.fnOf m qual (q2o st) (q1z st) (qf st) .none kV B J D cdv ct),O⟩) (c:PySem.W.codeIn K cdv qual=true) (k:PySem.W.keepIn K (.ref f)=true):MTop K C m qual st ps:=
 ⟨f,_,qh7 (st:=st) l c k,⟨a,i,k⟩,b kV B J D cdv ct⟩
structure MDef (P:Program) (w:World) (K:PySem.W.Frag) (mg:Str ->Option Value) (base:Heap) (k:Nat) (C:Addr) (m:Str) (ps:List Str) (sp:Sp):Prop where
 ex:∃ f fd,FnOk P w K mg base CX0 k f fd ps sp/\Meth K C m f/\Binds K fd ps []
theorem MTop.ok {P:Program} {w:World} {K:PySem.W.Frag} {mg:Str ->Option Value} {base:Heap} {C:Addr} {m qual:Str} {st:Stmt} {N ps:List Str} {k:Nat} {sp:Sp} (T:MTop K C m qual st ps) (S:FnScope N ps (qf st)) (len:∀ vs H Q E,sp vs H Q E ->vs.length=ps.length)
  (B:∀ (f:Addr) (cdv:Value) (A:Around) (outer:List Env) (s:Shared) (H:Hp) (vs:List V) (Q:VK) (E:XK),Room k (A.deeper (envOfC qual (qf st) s.heap.objs.size f cdv)) ->sp vs H Q E ->
   ∃ t,PSs (cxOf CX0 P w K mg base N qual (qf st) f cdv A outer s H E).nox (q1z st) t/\t {nx:=λ _ H'=>Q .non H',rt:=Q} (q4i N vs) H):MDef P w K mg base (k+1) C m ps sp:=by
 obtain ⟨f,fd,F,hm,hb⟩:=T.ex;exact ⟨f,fd,F.ok S len (B f),hm,Binds.all hb⟩
section
variable {X:Cx} {k k':Nat} {C:Addr} {ps ks:List Str} {sp:Sp} {x m:Str} {p pos apos:Pos} {e o:Expr} {es:List Expr} {ta:TE} {t tk:TA} {kws:List Keyword}
theorem qm2 {pl:Sem Bool} (D:MDef X.prog X.w X.K X.mg X.base k C m ps sp) (c:Cls X.K C) (hr:Room k' X.A) (he:PE X o ta) (ha:PA X (e::es) t) (B:k<=k':=by decide)
  (O:starEach (e::es) X.env=(false,eval e X.env)::starEach es X.env:=by rfl) (J:(backTo pos (starEach es X.env)).any (·.1)=false:=by rfl)
  (ht:eval (.Call (.Attribute o m apos) (e::es) [] pos) X.env=(do
   let ov <- eval o X.env
   standAt apos.atName
   let (f,first) <- holding [ov] (getMethod ov m pl)
   callWith pos f first (backTo pos (starEach (e::es) X.env)) (backToKw pos (keywordEach [] X.env))):=by rfl):
  PE X (.Call (.Attribute o m apos) (e::es) [] pos) (qkr C m sp [] E0 ta t):=by
 obtain ⟨f,fd,F,hm,hb⟩:=D.ex;exact qlb he c hm F (hr.mono B) hb .nil qfx ha O J ht
variable {y:Str} {dv:V}
end
end L2
namespace L2
open PySem PySem.Spec PyProof.Rows PySem.W
section
variable {prog:Program} {w:World} {A:Around} {s:Shared} {a:Addr}
end
section
variable {X:Cx}
end
end L2
namespace L2
open PySem PySem.Spec PyProof.Rows
section
variable {X:Cx} {pins:List (Addr×Obj)} {σ:St} {H:Hp} {s:Shared} {a:Addr} {kvs:List (Key×V)} {k:Key} {z:V} {u r:Value} {A:Around} {E:Value ->Shared ->Prop}
theorem qnt {Q:Value ->Shared ->Prop} (I:Inv X pins σ H s) (e:H a=some (.dK kvs)) (hl:kvs.length < sizeLine) (ry:RelV (kV k) u) (rz:RelV z r)
  (h1:∀ v J s',valV kvs k=some v ->Inv X pins σ H s' ->RelV v J ->Q J s') (h2:valV kvs k=none ->∀ s',Inv X pins σ (upd H a (.dK (putK kvs k z))) s' ->Q r s'):
  wpAny (model X.prog X.w) A (call (.builtin "dict.setdefault") [.ref a,u,r]) Q E s:=by
 obtain ⟨zl,hd,vs,rel,O⟩:=qc3 I.hok e;have rv:=rel.val k;refine call_meetsIn PySem.F.slot_dict_setdefault O.typeIs PySem.F.entry_dict_setdefault (PySem.F.args_dict_setdefault_3 _ _ _) (kt_meets_setdefault (q18 X.prog X.w) a (q6a ry) hd r) ⟨vs,O,by rw [<- rel.length];exact zl,λ J hw=> ?_,λ hn h' B hs=> ?_⟩
 ·cases D:valV kvs k with
  | none=>
   rw [D,hw] at rv;exact rv.elim
  | some v=>
   rw [D,hw] at rv;exact h1 v J _ D (I.tok _) rv
 ·have hp:(putK kvs k z).length<=sizeLine:=by have:=q2a kvs k z;omega
  have he:∃ q,h'.get? a=some q:=let ⟨q,_,_,hq,_⟩:=B;⟨q,hq⟩
  refine h2 ?_ _ (q5i I (by rw [e];exact True.intro) hs he (q9q hp hd (rel.put k rz) B));cases D:valV kvs k with
  | none=>rfl
  | some v=>
   rw [D,hn] at rv;exact rv.elim
end
def qnu (td ty tx:TE):TE:=λ σ H Q=>td σ H λ x H1=>∃ a,x= .ref a/\IsD H1 a/\ty σ H1 λ y H2=>tx σ H2 λ z H3=>∃ kvs k,H3 a=some (.dK kvs)/\y=kV k/\kvs.length < sizeLine/\
 (∀ v,valV kvs k=some v ->Q v H3)/\(valV kvs k=none ->Q z (upd H3 a (.dK (putK kvs k z))))
section
variable {X:Cx} {o e f:Expr} {apos cpos:Pos} {td ty tx:TE}
theorem qjj (ho:PE X o td) (he:PE X e ty) (hf:PE X f tx) (m:M2 X o "setdefault" apos e f cpos):PE X (.Call (.Attribute o "setdefault" apos) [e,f] [] cpos) (qnu td ty tx):=by
 intro pins s σ H Q I h;refine wpAny_Call_method m.base m.few m.line PySem.F.plainAttrs_dict PySem.F.slot_dict_setdefault PySem.F.type_dict_setdefault (thn (ho pins s σ H _ I h) λ u s1 D=> ?_);obtain ⟨x,H1,I1,rx,a,ex,d,q1⟩:=D;subst ex;obtain rfl:u=Value.ref a:=rx;obtain ⟨t1,t2,_⟩:=q9s I1 d;refine ⟨t1,t2,?_⟩;rw [m.trees];refine Calls.callWith_builtin rfl (Calls.evalArgs_plain (Calls.spliced_cons (thn (he pins s1 σ H1 _ I1 q1) λ iv s2 ⟨y,H2,I2,ry,q2⟩=>
  Calls.spliced_cons (thn (hf pins s2 σ H2 _ I2 q2) λ fv s3 ⟨z,H3,I3,rz,kvs,k,eH,ey,hl,q3,q4⟩=>Calls.spliced_nil ?_))))
 subst ey;exact qnt I3 eH hl ry rz (λ v w' s4 ev I4 B=>⟨_,H3,I4,B,q3 v ev⟩) λ en s4 I4=>⟨z,_,I4,rz,q4 en⟩
end
end L2
namespace L2
open PySem PySem.Spec PyProof.Rows PySem.W
def q1m (w:World):Bool:=w.params.followText "set-order"
def TxS (P:Program) (w:World) (h:Heap) (a:Addr) (xs:List Str):Prop:=
 ∃ o es ep t,h.get? a=some o/\o.ExactSet/\o.data= .set es ep t/\ElemsOf (strKind P w) es.toList/\es.toList.map (λ e=>sOf e.2)=xs/\xs.Nodup/\es.size < scanBound/\t.fits es.size=true/\t.led= !q1m w/\(0 < es.size ->t.plain=false)
theorem qm3 (t:SetTable) (j:Nat):(t.put j).1.led=t.led/\(t.put j).1.plain=t.plain:=⟨rfl,rfl⟩
theorem qdz (t:SetTable) (n:Nat):(t.orStandIn n).led=t.led:=by
 unfold SetTable.orStandIn SetTable.standIn;split <;> rfl
theorem qg3 (t:SetTable) (es:Array (Int×Value)) (h:Int) (x:Value):(layNew t es h x).2.1.led=t.led:=by
 unfold layNew;split
 ·dsimp only
  rw [qdz];exact (qm3 _ _).1
 ·rfl
theorem qe0 (t:SetTable) (es:Array (Int×Value)) (n:Nat):(relayAll t es n).2.1.led=t.led/\(t.plain=false ->(relayAll t es n).2.1.plain=false):=by
 unfold relayAll;split
 ·rename_i t' order e;have e2:t'.led=t.led/\t'.plain=t.plain:=by
   unfold SetTable.relaid SetTable.laid at e;cases q:SetTable.layClean (SetTable.sizeAbove n - 1) (es.map (·.1)) with
   | none=>
    rw [q] at e;cases e
   | some ow=>
    rw [q] at e;cases e
    exact ⟨zr,zr⟩
  dsimp only
  split
  ·exact ⟨e2.1,λ z=>e2.2.trans z⟩
  ·exact ⟨zr,λ _=>rfl⟩
 ·exact ⟨zr,λ _=>rfl⟩
section
variable {P:Program} {w:World} {A:Around} {E:Value ->Shared ->Prop} {s:Shared} {a:Addr} {xs:List Str}
theorem q82 {x:Str} {v:Value} (h:(strKind P w).is x v=true):sOf v=x/\∃ t,v= .str x t:=by
 obtain ⟨t,rfl⟩:=Value.isStrOf_shape (x:=x) (v:=v) h;exact ⟨zr,t,zr⟩
theorem qcp {es:List (Int×Value)} (h:ElemsOf (strKind P w) es) (x:Str):x∈es.map (λ e=>sOf e.2)↔∃ e∈es,(strKind P w).is x e.2=true:=by
 constructor
 ·intro hx;obtain ⟨e,B,rfl⟩:=z38.mp hx;obtain ⟨⟨k,hk,_⟩,_⟩:=h e B;exact ⟨e,B,by rw [(q82 hk).1];exact hk⟩
 ·rintro ⟨e,B,hk⟩;exact z38.mpr ⟨e,B,(q82 hk).1⟩
theorem qbe {h:Heap} {o:Obj} {es:Array (Int×Value)} {ep:Nat} {t:SetTable} (ho:h.get? a=some o) (J:o.ExactSet) (hd:o.data= .set es ep t)
  {B:Array (Int×Value)} {t':SetTable} (D:ElemsOf (strKind P w) B.toList) (O:(B.toList.map λ e=>sOf e.2).Nodup) (hb:B.size < scanBound) (hf:t'.fits B.size=true) (hl:t'.led= !q1m w) (hp:t'.plain=false):
  (h.update a (Obj.putSet B t')).get? a=some {o with data:= .set B (ep+1) t'}/\TxS P w (h.update a (Obj.putSet B t')) a (B.toList.map λ e=>sOf e.2):=by
 have U:(h.update a (Obj.putSet B t')).get? a=some {o with data:= .set B (ep+1) t'}:=by
  have:=z0p (Obj.putSet B t') ho (by rw [putSet_of B t' hd];rfl);rw [putSet_of B t' hd] at this;exact this
 exact ⟨U,_,B,ep+1,t',U,J,zr,D,zr,O,hb,hf,hl,λ _=>hp⟩
theorem qjk {x:Str} {t0:Tok} {Q:Bool ->Shared ->Prop} (hS:TxS P w s.heap a xs) (b7:xs.length+1 < scanBound)
  (h:∀ b h' ys,Heap.SameBut a s.heap h' ->TxS P w h' a ys ->(if x∈xs then ys=xs else ys.Perm (xs++ [x])) ->Q b {s with heap:=h'}):
  wpAny (model P w) A (setAddHashed a (.str x t0) ((strKind P w).hash x)) Q E s:=by
 obtain ⟨o,es,ep,t,ho,c1,hd,Y,a0,d4,hb,hf,a9,hpl⟩:=id hS;have hkey:(strKind P w).is x (.str x t0)=true:=strKind_is P w x t0;have b8:(Value.str x t0).scannable=true:=rfl;have hn:es.size=xs.length:=by rw [<- a0,z2c,z0v]
 have d2:es.size+1 < scanBound:=by rw [hn];exact b7
 unfold setAddHashed setAddHashedIn;refine z2w (z3h (z1r ho hd hf ?_))
 dsimp only
 rw [byScan_of b8 hb Y];simp only [↓reduceIte];unfold setAddByScan;refine z3h ?_;refine z3h (z3f ?_);refine z3h (wpAny_setScan_of hkey ho hd hf Y ?_);cases hr:List.findIdx? (λ e=>(strKind P w).is x e.2) es.toList with
 | some j=>
  dsimp only
  obtain ⟨hj,d5,_⟩:=List.findIdx?_eq_some_iff_getElem.mp hr;have hm:x∈xs:=by rw [<- a0];exact (qcp Y x).mpr ⟨_,z1y hj,d5⟩
  refine z3g (z3g ?_);have e:s={s with heap:=s.heap}:=by cases s;rfl
  have:=h false s.heap xs (Heap.SameBut.refl a s.heap) hS (by rw [if_pos hm]);rw [e];exact this
 | none=>
  dsimp only
  have hm:¬ x∈xs:=λ hx=>by
   rw [<- a0] at hx;obtain ⟨e,he,hp⟩:=(qcp Y x).mp hx;have:=List.findIdx?_eq_none_iff.mp hr e he;rw [hp] at this;cases this
  have c5:∀ (b:Bool) {s₁:Shared} {Q':Unit ->Shared ->Prop},Q' () s₁ ->wpAny (model P w) A (match b with | true=>rule "set.scan.the-table-gave-way" | false=>pure ()) Q' E s₁:=
   λ b s₁ Q' hq=>by cases b <;> first | exact z3g hq | exact z3f hq
  have D:=layNew_perm t es ((strKind P w).hash x) (.str x t0);have J:=layNew_fits t es ((strKind P w).hash x) (.str x t0);have a7:=qg3 t es ((strKind P w).hash x) (.str x t0);generalize hL:layNew t es ((strKind P w).hash x) (.str x t0)=L at D J a7 ⊢;obtain ⟨B,t1,O,d6⟩:=L
  dsimp only at D J a7 ⊢
  rw [z1h] at D;have a8:ElemsOf (strKind P w) B.toList:=(Y.push hkey b8).perm D;have b6:(B.toList.map λ e=>sOf e.2).Perm (xs++ [x]):=by
   have:=D.map λ e:Int×Value=>sOf e.2;rw [z2h,a0] at this;exact this
  have b0:(xs++ [x]).Nodup:=z1s.mpr ⟨d4,by simp,λ u hu v hv e=>hm (by rw [z16.mp hv] at e;exact e ▸ hu)⟩;have U:B.size < scanBound:=by rw [<- z0v,D.length_eq,z17,z0v];simpa using d2
  refine z3h (c5 _ ?_);have tail:∀ t2:SetTable,t2.fits B.size=true ->t2.led=t1.led ->t2.plain=false ->wpAny (model P w) A (do
    storeSet a B t2
    if (!O&&t2.tooFull)=true then do
      (match (relayAll t2 B (SetTable.grown B.size)).2.2 with | true=>rule "set.scan.the-table-gave-way" | false=>pure ())
      storeSet a (relayAll t2 B (SetTable.grown B.size)).1 (relayAll t2 B (SetTable.grown B.size)).2.1
      pure (some true)
     else pure (some true)) (λ r s'=>∃ h' ys,r=some true/\s'={s with heap:=h'}/\Heap.SameBut a s.heap h'/\TxS P w h' a ys/\ys.Perm (xs++ [x])) E s:=λ t2 d3 c6 c7=>by
   refine z3h (wpAny_storeSet_of ho hd ?_ (fits_of_scanBound U));obtain ⟨c4,d0⟩:=qbe (P:=P) (w:=w) ho c1 hd a8 (b6.nodup_iff.mpr b0) U d3 (by rw [c6,a7,a9]) c7;have b4:=z0x s.heap a (Obj.putSet B t2);split
   ·have hp:=relayAll_perm t2 B (SetTable.grown B.size);have b5:=relayAll_fits t2 B (SetTable.grown B.size);have a6:=qe0 t2 B (SetTable.grown B.size);generalize hRl:relayAll t2 B (SetTable.grown B.size)=Rl at hp b5 a6 ⊢;obtain ⟨Z,t3,c9⟩:=Rl
    dsimp only at hp b5 a6 ⊢
    have c0:ElemsOf (strKind P w) Z.toList:=a8.perm hp;have hsz:Z.size=B.size:=by rw [<- z0v,hp.length_eq,z0v]
    have b9:Z.size < scanBound:=by rw [hsz];exact U
    have c8:(Z.toList.map λ e=>sOf e.2).Perm (xs++ [x]):=(hp.map _).trans b6;refine z3h (c5 _ ?_);refine z3h (wpAny_storeSet_of c4 rfl ?_ (fits_of_scanBound b9));obtain ⟨_,d1⟩:=qbe (P:=P) (w:=w) c4 c1 rfl c0 (c8.nodup_iff.mpr b0) b9 b5 (by rw [a6.1,c6,a7,a9]) (a6.2 c7);exact z3g ⟨_,_,zr,zr,b4.trans (z0x _ a _),d1,c8⟩
   ·exact z3g ⟨_,_,zr,zr,b4,d0,b6⟩
  split
  ·rename_i b3;refine z3h ?_;rw [hashByValue_scannable 8 b8];refine z3g ?_;refine z3i (tail _ (SetTable.fits_plain_off J) rfl rfl) (λ r s' z=> ?_) λ e s' z=>z;obtain ⟨h',ys,rfl,rfl,h1,h2,h3⟩:=z;exact z3g (h true h' ys h1 h2 (by rw [if_neg hm];exact h3))
  ·rename_i b3;refine z3h (z3g ?_);simp only [↓reduceIte];refine z3i (tail t1 J rfl (by simpa using b3)) (λ r s' z=> ?_) λ e s' z=>z;obtain ⟨h',ys,rfl,rfl,h1,h2,h3⟩:=z;exact z3g (h true h' ys h1 h2 (by rw [if_neg hm];exact h3))
end
theorem TxS.keep {P:Program} {w:World} {h h':Heap} {a:Addr} {xs:List Str} (x:TxS P w h a xs) (k:∀ o,h.get? a=some o ->h'.get? a=some o):TxS P w h' a xs:=by
 obtain ⟨o,es,ep,t,ho,r⟩:=x;exact ⟨o,es,ep,t,k o ho,r⟩
section
variable {prog:Program} {w:World} {A:Around} {R:Result ->Shared ->Prop} {I:Addr} {fp wr:List Addr} {G:Array GenState ->Array GenState ->Prop} {n:Nat} {P:Nat ->Value ->Prop} {St:Nat ->Shared ->Prop}
def InS (val:Nat ->Str) (i:Nat) (ys:List Str):Prop:=(∀ x,x∈ys↔∃ j,j < i/\val j=x)/\ys.length<=i
theorem InS.next {val:Nat ->Str} {i:Nat} {ys zs:List Str} (h:InS val i ys) (e:if val i∈ys then zs=ys else zs.Perm (ys++ [val i])):InS val (i+1) zs:=by
 have step:∀ x,(∃ j,j < i+1/\val j=x)↔(∃ j,j < i/\val j=x)\/ x=val i:=λ x=>by
  constructor
  ·rintro ⟨j,hj,rfl⟩;rcases Nat.lt_or_ge j i with h1 | h1
   ·exact .inl ⟨j,h1,zr⟩
   ·exact .inr (by rw [show j=i by omega])
  ·rintro (⟨j,hj,rfl⟩ | rfl)
   ·exact ⟨j,by omega,zr⟩
   ·exact ⟨i,z1z _,zr⟩
 by_cases c:val i∈ys
 ·rw [if_pos c] at e;subst e;refine ⟨λ x=> ?_,Nat.le_succ_of_le h.2⟩;rw [step,<- h.1 x];exact ⟨.inl,λ z=>z.elim id λ q=>q ▸ c⟩
 ·rw [if_neg c] at e;refine ⟨λ x=> ?_,?_⟩
  ·rw [step,e.mem_iff,z27,z16,h.1 x]
  ·rw [e.length_eq,z17];exact Nat.succ_le_succ h.2
theorem qcq (W:WalksS prog w A.in1 I fp wr G n P St) (S:Addr) (Y:S∉fp) (val:Nat ->Str) (a9:∀ i v,P i v ->∃ t,v= .str (val i) t) (O:n+1 < scanBound):
  ∀ (k i:Nat) (s:Shared) (ys:List Str),n - i=k ->i<=n ->St i s ->TxS prog w s.heap S ys ->InS val i ys ->
   (∀ s' zs,Moved (S::wr) G s s' ->TxS prog w s'.heap S zs ->InS val n zs ->R (.ok (.ret .none)) s') ->
   codeAny (model prog w) A (.builtin "set.update.loop" ⟨[.ref S,.ref I],[]⟩) R s:=by
 have Z:S∉wr:=λ h=>Y (W.sub _ h);have D:∀ b∈wr,b∈S::wr:=λ b O=>z0s _ O;intro k
 induction k with
 | zero=>
  intro i s ys hk hi J hS B hR;have e:i=n:=by omega
  subst e;refine z2k F.entry_set_update_loop ?_;rw [Around.under_plainId F.plain_set_update_loop _];show wpAny _ A.in1 (pyNext (.ref I) >>=_) _ _ s;refine z3h (W.done s _ _ J λ s' hm=> ?_);show wpAny _ A.in1 (ret Value.none) _ _ s';exact z3g (hR s' ys (hm.mono D) (hS.keep λ o e=>hm.heap S o Z e) B)
 | succ k ih=>
  intro i s ys hk hi J hS B hR;have a0:i < n:=by omega
  refine z2k F.entry_set_update_loop ?_;rw [Around.under_plainId F.plain_set_update_loop _];show wpAny _ A.in1 (pyNext (.ref I) >>=_) _ _ s;refine z3h (W.item i s _ _ a0 J λ v s' hP a8 hm=> ?_);obtain ⟨t,rfl⟩:=a9 i v hP;have b0:TxS prog w s'.heap S ys:=hS.keep λ o e=>hm.heap S o Z e;show wpAny _ A.in1 (holding [Value.str (val i) t] (setAdd S (.str (val i) t)) >>=_) _ _ s';refine z3h (z2w ?_);unfold setAdd;refine z2w ?_;refine z3h ((strKind prog w).pyHash (k:=val i) (strKind_is _ _ _ _) ?_);refine qjk (s:={s' with toks:=s'.toks+1}) b0 (by have:=B.2;omega) λ b h' zs a7 b3 hz=> ?_;refine z3g ⟨plainId_quiet F.plain_set_update_loop _,ih (i+1) _ zs (by omega) a0 (W.frame _ s' _ _ a8 (Nat.le_succ _) λ b O o e=> ?_) b3 (B.next hz) λ b4 us a6 U hu=> ?_⟩
  ·rw [a7.2 b (λ h:b=S=>Y (by rw [<- h];exact O))];exact e
  ·refine hR b4 us (Moved.trans W.gtrans ((hm.mono D).then_heap (Nat.le_succ _) λ b o O e=> ?_) a6) U hu;rw [a7.2 b (λ h:b=S=>O (by rw [h];exact z18))];exact e
end
theorem q7n {prog:Program} {w:World} {A:Around} {E:Value ->Shared ->Prop} {s:Shared} (a:Value) {Q₁:Value ->Shared ->Prop}
  (h:Q₁ (.ref s.heap.objs.size) {s with heap:=s.heap.push {cls:= .type "set",dict:=none,data:= .set #[] 0 (.fresh 0 0 (!q1m w))}}):
  codeAny (model prog w) A (.call (.builtin "set.__new__") ⟨[.type "set",a],[]⟩) (wants Q₁ E) s:=by
 refine codeAny_of_tree ?_;show wpAny _ A.in1 (do checkBuiltinCall "set.__new__" ⟨[.type "set",a],[]⟩;again (.builtin "set.__new__" ⟨[.type "set",a],[]⟩)) _ _ s;refine z3h (wpAny_of_eq (PySem.F.newCall_set_1 a) (z3g ⟨plainId_quiet F.plain_set_new _,z2k F.entry_set_new ?_⟩));rw [Around.under_plainId F.plain_set_new _];unfold Builtin.«set.__new__» Builtin.Frozenset.newClass;have B:=sub_set_self;obtain ⟨hp,g,d,tk,os⟩:=s
 dsimp only
 wp_walk
 refine z25 (z3g ?_)
 dsimp only
 simp only [newObj];refine z3h (wpAny_alloc (z3g ?_));exact z3g h
theorem qbf {P:Program} {w:World} {h:Heap} {a:Addr} (e:h.get? a=some {cls:= .type "set",dict:=none,data:= .set #[] 0 (.fresh 0 0 (!q1m w))}):TxS P w h a []:=
 ⟨_,#[],0,_,e,⟨rfl,rfl,rfl⟩,rfl,λ e he=>by simp at he,rfl,z2q,by decide,by rfl,rfl,λ z=>absurd z (by decide)⟩
theorem qhj {vs:List Value} {B:List Str} (h:StrsAre vs B) (i:Nat) (v:Value) (e:vs[i]? =some v):∃ t,v= .str (B.getD i "") t:=by
 induction h generalizing i with
 | nil=>simp at e
 | cons x t hr ih=>
  cases i with
  | zero=>
   simp at e
   exact ⟨t,e.symm⟩
  | succ i=>exact ih i (by simpa using e)
theorem sub_list_set':isSubtype (.type "list") (.type "set")=pure false:=by rw [isSubtype_type];kernel_rfl
theorem sub_list_frozenset':isSubtype (.type "list") (.type "frozenset")=pure false:=by rw [isSubtype_type];kernel_rfl
section
variable {prog:Program} {w:World} {A:Around} {E:Value ->Shared ->Prop} {s:Shared}
set_option maxHeartbeats 3200000 in
theorem qhk {l:Addr} {B:Array Value} {ws:List Str} {Q:Value ->Shared ->Prop} (hh:A.handled=none) (hl:s.heap.IsList l B) (hi:StrsAre B.toList ws) (hb:B.size+1 < scanBound)
  (h:∀ (h':Heap) (tk:Nat) (ys:List Str),TxS prog w h' s.heap.objs.size ys ->InS (λ i=>ws.getD i "") B.size ys ->(∀ b o,b < s.heap.objs.size ->s.heap.get? b=some o ->h'.get? b=some o) ->Q (.ref s.heap.objs.size) {s with heap:=h',toks:=tk}):
  wpAny (model prog w) A (call (.type "set") [.ref l]) Q E s:=by
 obtain ⟨c,tl,c6⟩:=PySem.F.called_set.mro;have c0:=PySem.F.called_set.made;have c9:=PySem.F.called_set.sub;refine wpAny_call (codeAny_of_tree ?_);show wpAny _ _ (callAny (.type "set") _) _ _ _;refine z3g ⟨Code.quiet_builtin _ (by decide+kernel),z2k PySem.F.entry_type_call ?_⟩;rw [Around.under_plain (weight_type_call_type "set" [.ref l] []) rfl];have h1:=PySem.F.called_set.notType;have h2:=PySem.F.called_set.canCreate;have hct:=PySem.F.typeCall_set_1 (.ref l)
 repeat (any_goals (first | assumption | wp_step))
 refine z36 (q7n (.ref l) (E:=E) (Q₁:=λ obj s₁=>obj= .ref s.heap.objs.size/\s₁={s with heap:=s.heap.push {cls:= .type "set",dict:=none,data:= .set #[] 0 (.fresh 0 0 (!q1m w))}}) ⟨rfl,rfl⟩) λ r s₁ hr=> ?_;cases r with
 | error e=>exact hr
 | ok fl=>
  cases fl with
  | ret obj=>
   obtain ⟨rfl,rfl⟩:=hr;have hS:(s.heap.push {cls:= .type "set",dict:=none,data:= .set #[] 0 (.fresh 0 0 (!q1m w))}).get? s.heap.objs.size=some {cls:= .type "set",dict:=none,data:= .set #[] 0 (.fresh 0 0 (!q1m w))}:=z0y _ rfl;have hT:Shared.TypeIs {s with heap:=s.heap.push {cls:= .type "set",dict:=none,data:= .set #[] 0 (.fresh 0 0 (!q1m w))}} (.ref s.heap.objs.size) "set":=⟨_,hS,rfl⟩;have hli:=PySem.F.called_set.init.lookup;have hbi:=PySem.F.called_set.init.bind (.ref s.heap.objs.size)
   repeat (any_goals (first | assumption | wp_step))
   refine z36 (codeAny_call_builtin (R:=wants (λ r s₂=>r= .none/\∃ h' tk ys,s₂={s with heap:=h',toks:=tk}/\TxS prog w h' s.heap.objs.size ys/\InS (λ i=>ws.getD i "") B.size ys/\
     (∀ b o,b < s.heap.objs.size ->s.heap.get? b=some o ->h'.get? b=some o)) E) PySem.F.called_set.init.plain PySem.F.entry_set_init (check_set_init_1 hT ?_)) λ r₂ s₂ O=> ?_
   ·obtain ⟨ol,a8,Y,nl,Z⟩:=hl;obtain ⟨d0,U,c1,D⟩:=ol;simp only at Y Z;subst Y;subst Z;have a9:(s.heap.push {cls:= .type "set",dict:=none,data:= .set #[] 0 (.fresh 0 0 (!q1m w))}).get? l=some {cls:= .type "list",dict:=U,data:= .seq B nl,slots:=D}:=z0i _ a8;have c8:=sub_list_set';have c7:=sub_list_frozenset';have hne:(Value.type "list"==Value.type "dict")=false:=by decide
    have a0:(s.heap.push {cls:= .type "set",dict:=none,data:= .set #[] 0 (.fresh 0 0 (!q1m w))}).IsList l B:=⟨_,a9,rfl,nl,rfl⟩;unfold Builtin.«set.__init__» noKeywords Builtin.Frozenset.updateFrom;generalize b4:pyIter=PI
    wp_walk
    subst b4;refine z1m a0 ?_;refine z3h (wpAny_runValue ?_);have a6:l < s.heap.objs.size:=z32 a8;have b8:A.in1.in1.in1.handled=none:=by simp [hh]
    have a7:l≠(s.heap.push {cls:= .type "set",dict:=none,data:= .set #[] 0 (.fresh 0 0 (!q1m w))}).objs.size:=by
     rw [z2p];exact z33 (z1t a6)
    have b5:s.heap.objs.size∉ [(s.heap.push {cls:= .type "set",dict:=none,data:= .set #[] 0 (.fresh 0 0 (!q1m w))}).objs.size,l]:=by
     rw [z2p];simp only [z2v,z16,z24,or_false,not_or];exact ⟨z33 (z1z _),z35 a6⟩
    have b0:∀ (i:Nat) (v:Value),B[i]? =some v ->∃ t,v= .str ((λ i=>ws.getD i "") i) t:=λ i v hv=>qhj hi i v (by rw [z0o];exact hv);refine qcq ((Walks.list b8 _ l a7 B).toS) s.heap.objs.size b5 (λ i=>ws.getD i "") b0 hb (B.size - 0) 0 _ [] (by omega) (z3e _)
     ⟨⟨_,z0y _ rfl,rfl,rfl⟩,(a0.push _)⟩ (qbf (z0i _ hS)) ⟨λ x=>⟨(λ z=>nomatch z),λ ⟨j,z,_⟩=>absurd z (Nat.not_lt_zero _)⟩,z3b _⟩ ?hR
    case hR=>
     intro s' zs hm J hz;obtain ⟨h',g',d',c5,c4⟩:=s';have eg:g'=s.gens:=hm.gens;have ed:d'=s.drawn:=hm.drawn;have eo:c4=s.os:=hm.os;subst eg;subst ed;subst eo;show wpAny _ _ _ _ _ _;refine z3g ?_;show wpAny _ _ (ret Value.none) _ _ _;refine z3g ⟨zr,h',c5,zs,zr,J,hz,λ b o hb e=> ?_⟩;have b6:b≠s.heap.objs.size:=z33 hb;have b7:b≠(s.heap.push {cls:= .type "set",dict:=none,data:= .set #[] 0 (.fresh 0 0 (!q1m w))}).objs.size:=by
      rw [z2p];exact z33 (z1t hb)
     exact hm.heap b o (by simp only [z2v,z16,z24,or_false,not_or];exact ⟨b6,b7⟩) (z0i _ (z0i _ e))
   ·cases r₂ with
    | error e=>exact O
    | ok b3=>
     cases b3 with
     | ret r=>
      obtain ⟨rfl,h',tk,ys,rfl,J,hz,b9⟩:=O
      repeat (any_goals (first | assumption | wp_step))
      exact h _ _ _ J hz b9
     | _=>exact O.elim
  | _=>exact hr.elim
end
theorem sub_tuple_set':isSubtype (.type "tuple") (.type "set")=pure false:=by rw [isSubtype_type];kernel_rfl
theorem sub_tuple_frozenset':isSubtype (.type "tuple") (.type "frozenset")=pure false:=by rw [isSubtype_type];kernel_rfl
section
variable {prog:Program} {w:World} {A:Around} {E:Value ->Shared ->Prop} {s:Shared}
set_option maxHeartbeats 3200000 in
theorem qg4 {l:Addr} {B:Array Value} {ws:List Str} {Q:Value ->Shared ->Prop} (hh:A.handled=none) (hl:s.heap.IsTuple l B) (hi:StrsAre B.toList ws) (hb:B.size+1 < scanBound)
  (h:∀ (h':Heap) (tk:Nat) (ys:List Str),TxS prog w h' s.heap.objs.size ys ->InS (λ i=>ws.getD i "") B.size ys ->(∀ b o,b < s.heap.objs.size ->s.heap.get? b=some o ->h'.get? b=some o) ->Q (.ref s.heap.objs.size) {s with heap:=h',toks:=tk}):
  wpAny (model prog w) A (call (.type "set") [.ref l]) Q E s:=by
 obtain ⟨c,tl,c6⟩:=PySem.F.called_set.mro;have c0:=PySem.F.called_set.made;have c9:=PySem.F.called_set.sub;refine wpAny_call (codeAny_of_tree ?_);show wpAny _ _ (callAny (.type "set") _) _ _ _;refine z3g ⟨Code.quiet_builtin _ (by decide+kernel),z2k PySem.F.entry_type_call ?_⟩;rw [Around.under_plain (weight_type_call_type "set" [.ref l] []) rfl];have h1:=PySem.F.called_set.notType;have h2:=PySem.F.called_set.canCreate;have hct:=PySem.F.typeCall_set_1 (.ref l)
 repeat (any_goals (first | assumption | wp_step))
 refine z36 (q7n (.ref l) (E:=E) (Q₁:=λ obj s₁=>obj= .ref s.heap.objs.size/\s₁={s with heap:=s.heap.push {cls:= .type "set",dict:=none,data:= .set #[] 0 (.fresh 0 0 (!q1m w))}}) ⟨rfl,rfl⟩) λ r s₁ hr=> ?_;cases r with
 | error e=>exact hr
 | ok fl=>
  cases fl with
  | ret obj=>
   obtain ⟨rfl,rfl⟩:=hr;have hS:(s.heap.push {cls:= .type "set",dict:=none,data:= .set #[] 0 (.fresh 0 0 (!q1m w))}).get? s.heap.objs.size=some {cls:= .type "set",dict:=none,data:= .set #[] 0 (.fresh 0 0 (!q1m w))}:=z0y _ rfl;have hT:Shared.TypeIs {s with heap:=s.heap.push {cls:= .type "set",dict:=none,data:= .set #[] 0 (.fresh 0 0 (!q1m w))}} (.ref s.heap.objs.size) "set":=⟨_,hS,rfl⟩;have hli:=PySem.F.called_set.init.lookup;have hbi:=PySem.F.called_set.init.bind (.ref s.heap.objs.size)
   repeat (any_goals (first | assumption | wp_step))
   refine z36 (codeAny_call_builtin (R:=wants (λ r s₂=>r= .none/\∃ h' tk ys,s₂={s with heap:=h',toks:=tk}/\TxS prog w h' s.heap.objs.size ys/\InS (λ i=>ws.getD i "") B.size ys/\
     (∀ b o,b < s.heap.objs.size ->s.heap.get? b=some o ->h'.get? b=some o)) E) PySem.F.called_set.init.plain PySem.F.entry_set_init (check_set_init_1 hT ?_)) λ r₂ s₂ O=> ?_
   ·obtain ⟨ol,a8,Y,nl,Z⟩:=hl;obtain ⟨d0,U,c1,D⟩:=ol;simp only at Y Z;subst Y;subst Z;have a9:(s.heap.push {cls:= .type "set",dict:=none,data:= .set #[] 0 (.fresh 0 0 (!q1m w))}).get? l=some {cls:= .type "tuple",dict:=U,data:= .seq B nl,slots:=D}:=z0i _ a8;have c8:=sub_tuple_set';have c7:=sub_tuple_frozenset';have hne:(Value.type "tuple"==Value.type "dict")=false:=by decide
    have a0:(s.heap.push {cls:= .type "set",dict:=none,data:= .set #[] 0 (.fresh 0 0 (!q1m w))}).IsTuple l B:=⟨_,a9,rfl,nl,rfl⟩;unfold Builtin.«set.__init__» noKeywords Builtin.Frozenset.updateFrom;generalize b4:pyIter=PI
    wp_walk
    subst b4;refine wpAny_pyIter_tuple a0 ?_;refine z3h (wpAny_runValue ?_);have a6:l < s.heap.objs.size:=z32 a8;have b8:A.in1.in1.in1.handled=none:=by simp [hh]
    have a7:l≠(s.heap.push {cls:= .type "set",dict:=none,data:= .set #[] 0 (.fresh 0 0 (!q1m w))}).objs.size:=by
     rw [z2p];exact z33 (z1t a6)
    have b5:s.heap.objs.size∉ [(s.heap.push {cls:= .type "set",dict:=none,data:= .set #[] 0 (.fresh 0 0 (!q1m w))}).objs.size,l]:=by
     rw [z2p];simp only [z2v,z16,z24,or_false,not_or];exact ⟨z33 (z1z _),z35 a6⟩
    have b0:∀ (i:Nat) (v:Value),B[i]? =some v ->∃ t,v= .str ((λ i=>ws.getD i "") i) t:=λ i v hv=>qhj hi i v (by rw [z0o];exact hv);refine qcq ((Walks.tuple b8 _ l a7 B).toS) s.heap.objs.size b5 (λ i=>ws.getD i "") b0 hb (B.size - 0) 0 _ [] (by omega) (z3e _)
     ⟨⟨_,z0y _ rfl,rfl,rfl⟩,(a0.push _)⟩ (qbf (z0i _ hS)) ⟨λ x=>⟨(λ z=>nomatch z),λ ⟨j,z,_⟩=>absurd z (Nat.not_lt_zero _)⟩,z3b _⟩ ?hR
    case hR=>
     intro s' zs hm J hz;obtain ⟨h',g',d',c5,c4⟩:=s';have eg:g'=s.gens:=hm.gens;have ed:d'=s.drawn:=hm.drawn;have eo:c4=s.os:=hm.os;subst eg;subst ed;subst eo;show wpAny _ _ _ _ _ _;refine z3g ?_;show wpAny _ _ (ret Value.none) _ _ _;refine z3g ⟨zr,h',c5,zs,zr,J,hz,λ b o hb e=> ?_⟩;have b6:b≠s.heap.objs.size:=z33 hb;have b7:b≠(s.heap.push {cls:= .type "set",dict:=none,data:= .set #[] 0 (.fresh 0 0 (!q1m w))}).objs.size:=by
      rw [z2p];exact z33 (z1t hb)
     exact hm.heap b o (by simp only [z2v,z16,z24,or_false,not_or];exact ⟨b6,b7⟩) (z0i _ (z0i _ e))
   ·cases r₂ with
    | error e=>exact O
    | ok b3=>
     cases b3 with
     | ret r=>
      obtain ⟨rfl,h',tk,ys,rfl,J,hz,b9⟩:=O
      repeat (any_goals (first | assumption | wp_step))
      exact h _ _ _ J hz b9
     | _=>exact O.elim
  | _=>exact hr.elim
end
theorem q79 {α:Type}:∀ (l:List α) (i:Nat) (h:i < l.length),(l[i]::l.eraseIdx i).Perm l
 | x::r,0,_=> .refl _
 | x::r,i+1,h=>(List.Perm.swap x _ _).trans (List.Perm.cons x (q79 r i (Nat.lt_of_succ_lt_succ h)))
section
variable {M:Model} {A:Around} {E:Value ->Shared ->Prop}
theorem qg5 {s:Shared} {B:Source} {n:Nat} {Q:Nat ->Shared ->Prop} (hn:n≠0) (h:∀ i d,i < n ->Q i {s with drawn:=d}):wpAny M A (choose B n) Q E s:=
 λ _ _ _=>⟨hn,h _ _ (Nat.mod_lt _ (Nat.pos_of_ne_zero hn))⟩
theorem qcr {α:Type}:∀ (n:Nat) (xs:List α) (s:Shared) (Q:List α ->Shared ->Prop),n=xs.length ->(∀ ys d,ys.Perm xs ->Q ys {s with drawn:=d}) ->wpAny M A (drawOrder n xs) Q E s
 | 0,xs,s,Q,e,h=>by
  have:xs=[]:=z0f.mp e.symm;subst this;exact z3g (h [] s.drawn (.refl _))
 | n+1,[],s,Q,e,h=>by cases e
 | n+1,x::r,s,Q,e,h=>by
  unfold drawOrder;refine z3h (qg5 (by simp) λ i d hi=> ?_);have hx:(x::r)[i]? =some (x::r)[i]:=z09 hi;rw [hx]
  dsimp only
  refine z3h (qcr n _ _ _ (by rw [List.length_eraseIdx,if_pos hi];exact (Nat.succ.inj e)) λ ys d2 hp=>z3g ?_);exact h _ d2 ((List.Perm.cons _ hp).trans (q79 _ _ hi))
end
theorem qf6 {α:Type} (next:Nat ->Nat):∀ (n k:Nat) (left:List α) (out:Array α),n=left.length ->(pickOrder.go next n k left out).toList.Perm (out.toList++left)
 | 0,k,left,out,e=>by
  have:left=[]:=z0f.mp e.symm;subst this;unfold pickOrder.go;rw [z2d]
 | n+1,k,left,out,e=>by
  unfold pickOrder.go;have hi:next k%left.length < left.length:=Nat.mod_lt _ (by omega);rw [z09 hi]
  dsimp only
  refine (qf6 next n (k+1) _ _ (by rw [List.length_eraseIdx,if_pos hi];omega)).trans ?_;rw [z1h,z1g];exact List.Perm.append_left _ (q79 _ _ hi)
theorem q6d {α:Type} (next:Nat ->Nat) (xs:Array α):(pickOrder next xs).toList.Perm xs.toList:=by
 unfold pickOrder;have:=qf6 next xs.size 0 xs.toList #[] (by simp)
 simpa using this
section
variable {prog:Program} {w:World} {A:Around} {E:Value ->Shared ->Prop} {s:Shared} {a:Addr}
theorem qe1 {o:Obj} {es:Array (Int×Value)} {ep:Nat} {t:SetTable} {Q:Bool ->Shared ->Prop} (ho:s.heap.get? a=some o) (hd:o.data= .set es ep t) (hf:t.fits es.size=true) (h:Q (!q1m w&&(!t.plain&&decide (es.size > 1))) s):
  wpAny (model prog w) A (setDrawn a) Q E s:=by
 unfold setDrawn setsByText;refine z3h (z1r ho hd hf ?_);exact z3h (z3h (z25 (z3g (z3g h))))
end
theorem q2e:Slot "set_iterator" "__next__" "set_iterator.__next__":=
 .of (owner:="set_iterator") (n:="__next__") (by rw [typeLookup_type,builtinLookup_eq_fast];kernel_rfl) (by decide+kernel) (by decide+kernel) (by decide+kernel)
  (by first | exact .inl (by decide+kernel) | exact .inr (by decide+kernel)) (by rw [isSubtype_type];kernel_rfl)
theorem q53:entryFor table "set_iterator.__next__"=some Builtin.«set_iterator.__next__»:=entryFor_of_tree (by kernel_rfl)
theorem qcs:Manifest.owners.lookup (String.ofList ['r','o','t','a','r','e','t','i','_','t','e','s'].reverse)=some Manifest.sig_set_iterator:=by kernel_rfl
theorem q5w (a:Value):argsOk "set_iterator.__next__" ⟨[a],[]⟩:=by
 unfold argsOk;rw [signature?_of (id:="set_iterator.__next__") (n:=['_','_','t','x','e','n','_','_']) (o:=['r','o','t','a','r','e','t','i','_','t','e','s']) (by kernel_rfl) qcs]
 kernel_rfl
theorem qan:entryFor table "set.__iter__"=some Builtin.«frozenset.__iter__»:=entryFor_alias (id':="frozenset.__iter__") (by kernel_rfl) rfl (by decide+kernel) (by kernel_rfl)
section
variable {prog:Program} {w:World} {A:Around} {E:Value ->Shared ->Prop} {s:Shared} {a I:Addr} {es:Array (Int×Value)} {ep:Nat} {t:SetTable}
def q2g (first:Value) (i:Nat) (a:Addr) (n ep:Nat):Obj:={cls:= .type "set_iterator",data:= .fields #[first,.int i 0,.ref a,.int n 0,.int ep 0]}
def q4w (ps:List Nat):Obj:={cls:= .type "tuple",data:= .seq (ps.map λ (i:Nat)=>rawInt i).toArray}
theorem qjl {o:Obj} {Q:Value ->Shared ->Prop} (ho:s.heap.get? a=some o) (D:o.ExactSet) (hd:o.data= .set es ep t) (J:t.fits es.size=true) (hsz:es.size<=sizeLine)
  (h1:(!q1m w&&(!t.plain&&decide (es.size > 1)))=true ->∀ (ps:List Nat) (d:Drawn),ps.Perm (List.range es.size) ->Q (.ref (s.heap.objs.size+1)) {s with heap:=(s.heap.push (q4w ps)).push (q2g (.ref s.heap.objs.size) 0 a es.size ep),drawn:=d})
  (h0:(!q1m w&&(!t.plain&&decide (es.size > 1)))=false ->Q (.ref s.heap.objs.size) {s with heap:=s.heap.push (q2g (.int 0 0) 0 a es.size ep)}):wpAny (model prog w) A (pyIter (.ref a)) Q E s:=by
 have ty:s.TypeIs (.ref a) "set":=⟨o,ho,D.1⟩;refine wpAny_pyIter_slot ty PySem.F.slot_set_iter (z22 PySem.F.slot_set_iter ty qan ?_ (PySem.F.args_set_iter_1 _));unfold Builtin.«frozenset.__iter__» Builtin.Frozenset.slot0 Builtin.Frozenset.sizeOf;refine z3h (z3h ?_);show wpAny _ _ (pure (Value.ref a,([]:List Value))) _ _ s;refine z3g ?_;refine z3g ?_;refine z3h (z3h (z12 ho hd J (z3g ?_)));refine z3h (qe1 ho hd J ?_);have fin:∀ (first:Value) (B:Shared),(∀ O,s.heap.get? a=some O ->B.heap.get? a=some O) ->Q (.ref B.heap.objs.size) {B with heap:=B.heap.push (q2g first 0 a es.size ep)} ->
   wpAny (model prog w) A.in1 (do ret (<- newFields "set_iterator" [first,rawInt 0,.ref a,rawInt es.size,rawInt (<- setEpoch a)])) (λ fin s'=>∃ v,fin=Fin.done (Flow.ret v)/\∃ U r,s'.TypeIs v U/\typeLookup (.type U) "__next__"=pure (some r)/\Q v s') E B:=λ first B hk hq=>by
  refine z3h (wpAny_setEpoch_of (hk _ ho) hd J ?_);refine z3h (z1o (z3g ⟨_,zr,"set_iterator",_,⟨_,z0y _ rfl,zr⟩,q2e.lookup,?_⟩))
  simpa [rawInt,q2g] using hq
 cases Y:(!q1m w&&(!t.plain&&decide (es.size > 1))) with
 | true=>
  simp only [if_true];refine z3h (qcr es.size _ _ _ (by simp) λ ps d hp=> ?_);simp only [newTuple];refine z3h (z1o ?_ ?_)
  ·refine fin _ _ (λ O e=>z0i _ e) ?_;have:=h1 Y ps d hp;show Q (.ref (s.heap.push (q4w ps)).objs.size) {s with heap:=(s.heap.push (q4w ps)).push (q2g (.ref s.heap.objs.size) 0 a es.size ep),drawn:=d};rw [z2p];exact this
  ·show (List.map (λ (i:Nat)=>rawInt i) ps).toArray.size<=sizeLine;rw [z1k,z2c,hp.length_eq,z1p];exact hsz
 | false=>
  simp only [z14,if_false];refine z3h (z3g ?_);exact fin _ s (λ _ e=>e) (h0 Y)
end
section
variable {prog:Program} {w:World} {A:Around} {E:Value ->Shared ->Prop} {s:Shared} {a I T:Addr} {es:Array (Int×Value)} {ep i:Nat} {t:SetTable} {o:Obj}
theorem qbq {ps:List Nat} {p:Nat} {h:Int} {x:Value} {Q:Option Value ->Shared ->Prop} (B:s.heap.get? I=some (q2g (.ref T) i a es.size ep)) (hT:s.heap.get? T=some (q4w ps)) (ho:s.heap.get? a=some o) (hd:o.data= .set es ep t) (J:t.fits es.size=true)
  (hp:ps[i]? =some p) (hx:es[p]? =some (h,x))
  (q:∀ h',h'.get? I=some (q2g (.ref T) (i+1) a es.size ep) ->Heap.SameBut I s.heap h' ->Q (some x) {s with heap:=h'}):wpAny (model prog w) A (pyNext (.ref I)) Q E s:=by
 have ty:s.TypeIs (.ref I) "set_iterator":=⟨_,B,rfl⟩;unfold pyNext;refine z3h (z2u (wpAny_callSpecial?_slot (name:=Str.ofString "__next__") ty q2e (z22 q2e ty q53 ?_ (q5w _))));unfold Builtin.«set_iterator.__next__»;refine z3h (z3g ?_);refine z3h (wpAny_fieldsOf B rfl ?_)
 dsimp only [z11]
 refine z3h (z12 ho hd J ?_);rw [if_neg (by simp)];have D:((ps.map λ (i:Nat)=>rawInt i).toArray)[i]? =some (rawInt p):=by
  rw [List.getElem?_toArray,z1j,hp];rfl
 refine z3h (wpAny_seqItems hT rfl ?_)
 dsimp only
 rw [z1n,D];show wpAny _ _ (setNextDrawn a ((p:Int)).toNat ((ep:Int)).toNat >>=_) _ _ s;rw [z1n,z1n];unfold setNextDrawn;refine z3h (z3h (z1r ho hd J ?_))
 dsimp only
 rw [if_neg (by simp),hx];refine z3g ?_;refine z3h (z2s B rfl (by simp) ?_);refine z3g ⟨_,zr,z3g (q _ ?_ (z0x ..))⟩;have:=z0p (Obj.mapFields (·.setIfInBounds 1 (rawInt ((i:Int)+1)))) B rfl;exact this
theorem qa0 {Q:Option Value ->Shared ->Prop} (hh:A.handled=none) (q:∀ h',(∀ b o,s.heap.get? b=some o ->h'.get? b=some o) ->Q none {s with heap:=h'}):
  wpAny (model prog w) A.in1 (newExc (.type "StopIteration") [] >>=raiseNew (α:=Fin)) (λ fin s'=>∃ v,fin=Fin.done (Flow.ret v)/\wpAny (model prog w) A (pure (some v)) Q E s')
   (λ e s'=>wpAny (model prog w) A (do let d <- isInstance e (.type "StopIteration");if d=true then pure none else throw e) Q E s') s:=by
 refine z3h ?_;simp only [newExc,newTuple];refine z3h (z1o ?_ (by size_fits));refine z3h (m:=firstArgMember _ _) (wpAny_of_eq (a:=Value.none) (by first | rfl | (simp only [firstArgMember];rfl)) ?_);refine z1o ?_ (by size_fits);simp only [raiseNew];refine z3h (wpAny_handled ?_);rw [show A.in1.handled=none from hh];refine z3h (z3g (wpAny_throw ?_));refine z3h (wpAny_isInstance (T:="StopIteration") (b:=true) ⟨_,z0y _ rfl,zr⟩ isSubtype_stop ?_);exact z3g (q _ λ b o e=>z0i _ (z0i _ e))
theorem qct {ps:List Nat} {Q:Option Value ->Shared ->Prop} (hh:A.handled=none) (B:s.heap.get? I=some (q2g (.ref T) i a es.size ep)) (hT:s.heap.get? T=some (q4w ps)) (ho:s.heap.get? a=some o) (hd:o.data= .set es ep t) (hf:t.fits es.size=true)
  (hp:ps[i]? =none) (q:∀ h',(∀ b o,b≠I ->s.heap.get? b=some o ->h'.get? b=some o) ->Q none {s with heap:=h'}):wpAny (model prog w) A (pyNext (.ref I)) Q E s:=by
 have ty:s.TypeIs (.ref I) "set_iterator":=⟨_,B,rfl⟩;unfold pyNext;refine z3h (z2u (wpAny_callSpecial?_slot (name:=Str.ofString "__next__") ty q2e (z22 q2e ty q53 ?_ (q5w _))));unfold Builtin.«set_iterator.__next__»;refine z3h (z3g ?_);refine z3h (wpAny_fieldsOf B rfl ?_)
 dsimp only [z11]
 refine z3h (z12 ho hd hf ?_);rw [if_neg (by simp)];have D:((ps.map λ (i:Nat)=>rawInt i).toArray)[i]? =none:=by
  rw [List.getElem?_toArray,z1j,hp];rfl
 refine z3h (wpAny_seqItems hT rfl ?_)
 dsimp only
 rw [z1n,D]
 dsimp only
 have g1:=z0p (Obj.mapFields (·.setIfInBounds 0 (rawInt 0))) B rfl;refine z3h (z2s B rfl (by simp) ?_);refine z3h (z2s g1 rfl (by simp) ?_);refine qa0 hh λ h' k=>q h' λ b o hb e=>k b o ?_;exact (((z0x ..).trans (z0x ..)).2 b hb).trans e
def qnv (w:World) (a:Addr) (es:Array (Int×Value)) (ep:Nat) (t:SetTable) (k i:Nat) (nx:Option (Value×Nat)):Prop:=
 (q1m w=true/\nx=((pickOrder (w.params.setOrder a ep) es)[i]?).map λ e=>(e.2,k))\/
 (q1m w=false/\(!t.plain&&decide (es.size > 1))=false/\(!t.led&& !es.isEmpty)=false/\nx=match es[SetTable.below t.place k]?,t.place[SetTable.below t.place k]? with
  | some (_,x),some j=>some (x,j+1)
  | _,_=>none)
theorem q7a {k:Nat} {nx:Option (Value×Nat)} {Q:Option Value ->Shared ->Prop} (hh:A.handled=none) (U:s.heap.get? I=some (q2g (.int k 0) i a es.size ep)) (ho:s.heap.get? a=some o) (hd:o.data= .set es ep t) (Z:t.fits es.size=true) (hn:qnv w a es ep t k i nx)
  (q1:∀ x j h',nx=some (x,j) ->h'.get? I=some (q2g (.int j 0) (i+1) a es.size ep) ->Heap.SameBut I s.heap h' ->Q (some x) {s with heap:=h'})
  (q0:nx=none ->∀ h',(∀ b o,b≠I ->s.heap.get? b=some o ->h'.get? b=some o) ->Q none {s with heap:=h'}):wpAny (model prog w) A (pyNext (.ref I)) Q E s:=by
 have ty:s.TypeIs (.ref I) "set_iterator":=⟨_,U,rfl⟩;unfold pyNext;refine z3h (z2u (wpAny_callSpecial?_slot (name:=Str.ofString "__next__") ty q2e (z22 q2e ty q53 ?_ (q5w _))));unfold Builtin.«set_iterator.__next__»;refine z3h (z3g ?_);refine z3h (wpAny_fieldsOf U rfl ?_)
 dsimp only [z11]
 refine z3h (z12 ho hd Z ?_);rw [if_neg (by simp)];refine z3h ?_;have J:∀ x (j:Nat),nx=some (x,j) ->wpAny (model prog w) A.in1 (do
     setField (Value.ref I) 0 (rawInt j)
     setField (Value.ref I) 1 (rawInt ((i:Int)+1))
     ret x) (λ fin s'=>∃ v,fin=Fin.done (Flow.ret v)/\wpAny (model prog w) A (pure (some v)) Q E s')
    (λ e s'=>wpAny (model prog w) A (do let d <- isInstance e (.type "StopIteration");if d=true then pure none else throw e) Q E s') s:=λ x j Y=>by
  have g1:=z0p (Obj.mapFields (·.setIfInBounds 0 (rawInt j))) U rfl;have g2:=z0p (Obj.mapFields (·.setIfInBounds 1 (rawInt ((i:Int)+1)))) g1 rfl;refine z3h (z2s U rfl (by simp) ?_);refine z3h (z2s g1 rfl (by simp) ?_);exact z3g ⟨_,zr,z3g (q1 x j _ Y g2 ((z0x ..).trans (z0x ..)))⟩
 have D:nx=none ->wpAny (model prog w) A.in1 (do
     setField (Value.ref I) 2 Value.none
     let d <- newExc (Value.type "StopIteration") []
     raiseNew d) (λ fin s'=>∃ v,fin=Fin.done (Flow.ret v)/\wpAny (model prog w) A (pure (some v)) Q E s')
    (λ e s'=>wpAny (model prog w) A (do let d <- isInstance e (.type "StopIteration");if d=true then pure none else throw e) Q E s') s:=λ Y=>by
  refine z3h (z2s U rfl (by simp) ?_);refine qa0 hh λ h' k=>q0 Y h' λ b o O e=>k b o ?_;exact ((z0x ..).2 b O).trans e
 unfold setNext;refine z3h (z1r ho hd Z ?_);unfold setsByText;refine z3h (z3h (z25 (z3g ?_)));rcases hn with ⟨O,B⟩ | ⟨O,h1,h2,B⟩
 ·rw [if_pos (show ({program:=(model prog w).prog,params:=(model prog w).w.params}:Setting).params.followText "set-order"=true from O)]
  dsimp only
  rw [if_neg (by simp)];unfold setWalk;refine z3h (z3h (z1r ho hd Z ?_));unfold setsByText;refine z3h (z3h (z25 (z3g ?_)));rw [if_pos (show ({program:=(model prog w).prog,params:=(model prog w).w.params}:Setting).params.followText "set-order"=true from O)];refine z3h (z25 (z3g (z3g ?_)))
  dsimp only
  have e':(pickOrder ((model prog w).w.params.setOrder a ep) es)[(i:Int).toNat]? =(pickOrder (w.params.setOrder a ep) es)[i]? :=by
   rw [z1n];rfl
  rw [e'];cases e:(pickOrder (w.params.setOrder a ep) es)[i]? with
  | none=>
   rw [e] at B;exact D B
  | some y=>
   rw [e] at B;exact J y.2 _ B
 ·rw [if_neg (show ¬ ({program:=(model prog w).prog,params:=(model prog w).w.params}:Setting).params.followText "set-order"=true from by rw [show ({program:=(model prog w).prog,params:=(model prog w).w.params}:Setting).params.followText "set-order"=false from O];exact z15)]
  dsimp only
  show wpAny _ _ (if (!t.plain&&decide (es.size > 1))=true then _ else _) _ _ s;rw [if_neg (by rw [h1];exact z15)];show wpAny _ _ ((if (!t.led&& !es.isEmpty)=true then unsupported _ else pure ()) >>=_) _ _ s;rw [if_neg (by rw [h2];exact z15)];refine z3h (z3g (z3g ?_));rw [z1n];cases e1:es[SetTable.below t.place k]? with
  | none=>
   rw [e1] at B;exact D B
  | some y=>
   cases e2:t.place[SetTable.below t.place k]? with
   | none=>
    rw [e1,e2] at B;exact D B
   | some j=>
    rw [e1,e2] at B;exact J y.2 _ B
end
theorem q83:Slot "set_iterator" "__iter__" "set_iterator.__iter__":=
 .of (owner:="set_iterator") (n:="__iter__") (by rw [typeLookup_type,builtinLookup_eq_fast];kernel_rfl) (by decide+kernel) (by decide+kernel) (by decide+kernel)
  (by first | exact .inl (by decide+kernel) | exact .inr (by decide+kernel)) (by rw [isSubtype_type];kernel_rfl)
theorem qbr:entryFor table "set_iterator.__iter__"=some Builtin.«dict_keyiterator.__iter__»:=entryFor_alias (id':="dict_keyiterator.__iter__") (by kernel_rfl) rfl (by decide+kernel) (by kernel_rfl)
theorem qcu (a:Value):argsOk "set_iterator.__iter__" ⟨[a],[]⟩:=by
 unfold argsOk;rw [signature?_of (id:="set_iterator.__iter__") (n:=['_','_','r','e','t','i','_','_']) (o:=['r','o','t','a','r','e','t','i','_','t','e','s']) (by kernel_rfl) qcs]
 kernel_rfl
section
variable {prog:Program} {w:World} {A:Around} {E:Value ->Shared ->Prop} {s:Shared} {a I T:Addr} {es:Array (Int×Value)} {ep:Nat} {t:SetTable} {o:Obj}
theorem qao {first:Value} {i n:Nat} {Q:Value ->Shared ->Prop} (hI:s.heap.get? I=some (q2g first i a n ep)) (h:Q (.ref I) s):wpAny (model prog w) A (pyIter (.ref I)) Q E s:=by
 have ty:s.TypeIs (.ref I) "set_iterator":=⟨_,hI,rfl⟩;refine wpAny_pyIter_slot ty q83 (z22 q83 ty qbr ?_ (qcu _));show wpAny _ _ (ret (.ref I)) _ _ s;exact z3g ⟨_,zr,"set_iterator",_,ty,q2e.lookup,h⟩
theorem qe2 {ps:List Nat} (hh:A.handled=none) (hT:T≠I) (ha:a≠I) (hd:o.data= .set es ep t) (O:t.fits es.size=true) (hp:ps.Perm (List.range es.size)):
  Walks prog w A I [I,T,a] [I] es.size (λ i v=>∃ p h,ps[i]? =some p/\es[p]? =some (h,v)) (λ i h=>h.get? I=some (q2g (.ref T) i a es.size ep)/\h.get? T=some (q4w ps)/\h.get? a=some o) where
 sub:=λ b B=>by simp at B;simp [B]
 frame:=λ _ _ _ st hk=>⟨hk I (by simp) _ st.1,hk T (by simp) _ st.2.1,hk a (by simp) _ st.2.2⟩
 item:=λ i s Q E hi st D=>by
  have pl:ps.length=es.size:=by rw [hp.length_eq,z1p]
  have h1:ps[i]? =some (ps[i]'(by omega)):=z09 (by omega);have hm:ps[i]'(by omega) < es.size:=z2n.mp (hp.mem_iff.mp (z1y (by omega)));generalize ps[i]'(by omega)=p at h1 hm;have h2:es[p]? =some es[p]:=z08 hm;refine qbq (h:=es[p].1) (x:=es[p].2) st.1 st.2.1 st.2.2 hd O h1 h2 λ h' g J=> ?_;exact D _ h' s.toks ⟨p,es[p].1,h1,h2⟩ ⟨g,(J.2 T hT).trans st.2.1,(J.2 a ha).trans st.2.2⟩ λ b o B e=>(J.2 b (λ z=>B (by simp [z]))).trans e
 done:=λ s Q E st D=>by
  have pl:ps.length=es.size:=by rw [hp.length_eq,z1p]
  exact qct hh st.1 st.2.1 st.2.2 hd O (List.getElem?_eq_none (by omega)) λ h' k=>D h' s.toks λ b o B e=>k b o (λ z=>B (by simp [z])) e
 self:=λ _ _ _ _ st D=>qao st.1 D
theorem qg6 (Y:A.handled=none) (ha:a≠I) (hd:o.data= .set es ep t) (U:t.fits es.size=true) (D:q1m w=true):
  Walks prog w A I [I,a] [I] es.size (λ i v=>∃ e,(pickOrder (w.params.setOrder a ep) es)[i]? =some e/\v=e.2) (λ i h=>h.get? I=some (q2g (.int 0 0) i a es.size ep)/\h.get? a=some o) where
 sub:=λ b D=>by simp at D;simp [D]
 frame:=λ _ _ _ st hk=>⟨hk I (by simp) _ st.1,hk a (by simp) _ st.2⟩
 item:=λ i s Q E hi st J=>by
  have pl:(pickOrder (w.params.setOrder a ep) es).size=es.size:=by rw [<- z0v,(q6d _ _).length_eq,z0v]
  have h1:(pickOrder (w.params.setOrder a ep) es)[i]? =some ((pickOrder (w.params.setOrder a ep) es)[i]'(by omega)):=z08 (by omega);refine q7a (k:=0) Y st.1 st.2 hd U (.inl ⟨D,zr⟩) (λ x j h' B g O=> ?_) λ B=> ?_
  ·rw [h1] at B;cases B
   exact J _ h' s.toks ⟨_,h1,zr⟩ ⟨g,(O.2 a ha).trans st.2⟩ λ b o D e=>(O.2 b (λ z=>D (by simp [z]))).trans e
  ·rw [h1] at B;cases B
 done:=λ s Q E st J=>by
  have pl:(pickOrder (w.params.setOrder a ep) es).size=es.size:=by rw [<- z0v,(q6d _ _).length_eq,z0v]
  have h1:(pickOrder (w.params.setOrder a ep) es)[es.size]? =none:=z0l (by omega);refine q7a (k:=0) Y st.1 st.2 hd U (.inl ⟨D,zr⟩) (λ x j h' B g O=> ?_) λ B h' k=>J h' s.toks λ b o D e=>k b o (λ z=>D (by simp [z])) e;rw [h1] at B;cases B
 self:=λ _ _ _ _ st J=>qao st.1 J
theorem qhl (Y:A.handled=none) (ha:a≠I) (hd:o.data= .set es ep t) (J:t.fits es.size=true) (D:q1m w=false) (hl:t.led=true) (h1:es.size<=1):
  Walks prog w A I [I,a] [I] es.size (λ i v=>∃ e,es[i]? =some e/\v=e.2) (λ i h=>h.get? I=some (q2g (.int (((if i=0 then 0 else t.place.getD 0 0+1):Nat):Int) 0) i a es.size ep)/\h.get? a=some o) where
 sub:=λ b D=>by simp at D;simp [D]
 frame:=λ _ _ _ st hk=>⟨hk I (by simp) _ st.1,hk a (by simp) _ st.2⟩
 item:=λ i s Q E hi st O=>by
  have i0:i=0:=by omega
  subst i0;have ps:t.place.size=es.size:=by
   unfold SetTable.fits at J;simp at J
   exact J.1
  have e1:es[0]? =some (es[0]'(by omega)):=z08 (by omega);have e2:t.place[0]? =some (t.place.getD 0 0):=by
   rw [z08 (by omega)];simp [Array.getD,show 0 < t.place.size by omega]
  have eb:SetTable.below t.place 0=0:=by
   unfold SetTable.below;rw [show t.place.size=1 by omega];simp [SetTable.below.go]
  refine q7a (k:=0) Y st.1 st.2 hd J (.inr ⟨D,by simp;omega,by rw [hl];rfl,rfl⟩) (λ x j h' B g U=> ?_) λ B=> ?_
  ·rw [eb,e1,e2] at B;cases B
   exact O _ h' s.toks ⟨_,e1,zr⟩ ⟨g,(U.2 a ha).trans st.2⟩ λ b o D e=>(U.2 b (λ z=>D (by simp [z]))).trans e
  ·rw [eb,e1,e2] at B;cases B
 done:=λ s Q E st O=>by
  have ps:t.place.size=es.size:=by
   unfold SetTable.fits at J;simp at J
   exact J.1
  refine q7a Y st.1 st.2 hd J (.inr ⟨D,by simp;omega,by rw [hl];rfl,rfl⟩) (λ x j h' B g U=> ?_) λ B h' k=>O h' s.toks λ b o D e=>k b o (λ z=>D (by simp [z])) e;have e0:es[SetTable.below t.place (if es.size=0 then 0 else t.place.getD 0 0+1)]? =none:=by
   by_cases z:es.size=0
   ·exact z0l (by omega)
   ·rw [if_neg z];have:SetTable.below t.place (t.place.getD 0 0+1)=1:=by
     unfold SetTable.below;rw [show t.place.size=1 by omega];simp [SetTable.below.go,Array.getD,show 0 < t.place.size by omega]
    rw [this];exact z0l (by omega)
  rw [e0] at B;cases B
 self:=λ _ _ _ _ st O=>qao st.1 O
end
section
variable {prog:Program} {w:World} {A:Around} {E:Value ->Shared ->Prop} {s:Shared} {a:Addr} {xs:List Str}
theorem qjm {Q:Bool ->Shared ->Prop} (J:s.TypeIs (.ref a) "set") (h:Q false s):wpAny (model prog w) A (Builtin.List.listLengthHint (.ref a)) Q E s:=by
 unfold Builtin.List.listLengthHint;refine z3h (wpAny_specialOf J PySem.F.slot_set_len.lookup ?_);generalize D:("set.__len__":String)=O
 wp_delta
 rw [show splitId O=some ("set","__len__") from by subst D;decide+kernel];subst D;refine z3h (wpAny_isInstance (T:="set") (b:=true) J (by rw [isSubtype_type];kernel_rfl) ?_);refine wpAny_ite_split (λ B=>absurd B (by decide)) (λ _=> ?_);refine wpAny_ite_split (λ _=> ?_) (λ B=>absurd (by decide+kernel) B);refine z3h (wpAny_typeOf J ?_);exact z3g h
theorem q84 {α:Type} {L:List α} {f:α ->Value} {P:Nat ->Value ->Prop} {B:Array Value} {n:Nat} (hn:n=L.length) (hP:∀ i v,P i v ->∃ e,L[i]? =some e/\v=f e) (D:ItemsOf P B n):B.toList=L.map f:=by
 apply z1i
 intro j;rw [z1j,z0o];cases e:B[j]? with
 | some v=>
  obtain ⟨e',he,rfl⟩:=hP j v (D.2 j v e);rw [he];rfl
 | none=>
  have:B.size<=j:=by simpa using e
  rw [D.1] at this;rw [List.getElem?_eq_none (by omega)];rfl
def qoy (prog:Program) (w:World) (A:Around) (s:Shared) (S:Addr) (xs:List Str) (it:Value) (s1:Shared):Prop:=
 ∃ (J:Addr) (fp:List Addr) (n:Nat) (P:Nat ->Value ->Prop) (St:Nat ->Heap ->Prop) (h1:Heap) (d:Drawn),it= .ref J/\s1={s with heap:=h1,drawn:=d}/\(∀ b o,s.heap.get? b=some o ->h1.get? b=some o)/\
  Walks prog w A J fp [J] n P St/\St 0 h1/\S∉fp/\s.heap.objs.size<=J/\n<=sizeLine/\∀ acc,ItemsOf P acc n ->(acc.toList.map sOf).Perm xs/\∀ v∈acc.toList,∃ x t,v= .str x t
theorem qjn (hh:A.handled=none) (x:TxS prog w s.heap a xs) {S:Addr} (hS:S < s.heap.objs.size) (Y:S≠a):wpAny (model prog w) A (pyIter (.ref a)) (qoy prog w A s S xs) E s:=by
 obtain ⟨o,es,ep,t,ho,a8,hd,a7,a6,hnd,hb,hf,a0,a9⟩:=x;have al:a < s.heap.objs.size:=z32 ho;have hsz:es.size<=sizeLine:=fits_of_scanBound hb;have O:∀ v∈es.toList.map (λ e=>e.2),∃ x t,v=Value.str x t:=λ v hv=>by
  obtain ⟨e,he,rfl⟩:=z38.mp hv;obtain ⟨⟨k,hk,_⟩,_⟩:=a7 e he;obtain ⟨_,t,ht⟩:=q82 hk;exact ⟨k,t,ht⟩
 have B:∀ l:List Value,l.Perm (es.toList.map λ e=>e.2) ->(l.map sOf).Perm xs/\∀ v∈l,∃ x t,v=Value.str x t:=λ l hp=>by
  refine ⟨?_,λ v hv=>O v (hp.mem_iff.mp hv)⟩;have:=hp.map sOf;rw [z3a] at this;rw [<- a6];exact this
 refine qjl ho a8 hd hf hsz (λ hdr ps d hp=> ?_) (λ D=> ?_)
 ·have hT:((s.heap.push (q4w ps)).push (q2g (.ref s.heap.objs.size) 0 a es.size ep)).get? s.heap.objs.size=some (q4w ps):=z0i _ (z0y _ rfl);have hI:((s.heap.push (q4w ps)).push (q2g (.ref s.heap.objs.size) 0 a es.size ep)).get? (s.heap.objs.size+1)=some (q2g (.ref s.heap.objs.size) 0 a es.size ep):=by
   have:=z0y (s.heap.push (q4w ps)) (o:=q2g (.ref s.heap.objs.size) 0 a es.size ep) rfl
   rwa [z2p] at this
  refine ⟨_,_,_,_,_,_,d,zr,zr,λ b o e=>z0i _ (z0i _ e),qe2 hh (z33 (z1z _)) (z33 (z1t al)) hd hf hp,⟨hI,hT,z0i _ (z0i _ ho)⟩,?_,Nat.le_succ _,hsz,λ U Z=> ?_⟩
  ·simp only [z2v,z24,or_false,not_or];exact ⟨z33 (z1t hS),z33 hS,Y⟩
  ·have e:=q84 (L:=ps) (f:=λ p=>((es[p]?).map (·.2)).getD .none) (by rw [hp.length_eq,z1p]) (λ i v ⟨p,h,h1,h2⟩=>⟨p,h1,by rw [h2];rfl⟩) Z;refine B _ ?_;rw [e];refine (hp.map _).trans ?_;refine List.Perm.of_eq ?_
   apply z1i
   intro j;have e2:es.toList[j]? =es[j]? :=z0o;rw [z1j,z1j,e2];by_cases hj:j < es.size
   ·rw [List.getElem?_range hj,z08 hj];simp [hj]
   ·rw [List.getElem?_eq_none (l:=List.range es.size) (by rw [z1p];omega),z0l (by omega)];rfl
 ·have hI:(s.heap.push (q2g (.int 0 0) 0 a es.size ep)).get? s.heap.objs.size=some (q2g (.int 0 0) 0 a es.size ep):=z0y _ rfl;have sf:S∉ [s.heap.objs.size,a]:=by
   simp only [z2v,z24,or_false,not_or];exact ⟨z33 hS,Y⟩
  cases J:q1m w with
  | true=>
   refine ⟨_,_,_,_,_,_,s.drawn,zr,zr,λ b o e=>z0i _ e,qg6 hh (z33 al) hd hf J,⟨hI,z0i _ ho⟩,sf,z3b _,hsz,λ U Z=> ?_⟩;have e:=q84 (L:=(pickOrder (w.params.setOrder a ep) es).toList) (f:=λ e=>e.2) (by rw [(q6d _ _).length_eq,z0v]) (λ i v ⟨e,h1,h2⟩=>⟨e,by rw [z0o];exact h1,h2⟩) Z;refine B _ ?_;rw [e];exact (q6d _ _).map _
  | false=>
   have h1:es.size<=1:=by
    rw [J] at D;by_cases z:es.size<=1
    ·exact z
    ·have:=a9 (by omega);rw [this] at D;simp at D
     omega
   refine ⟨_,_,_,_,_,_,s.drawn,rfl,rfl,λ b o e=>z0i _ e,qhl hh (z33 al) hd hf J (by rw [a0,J];rfl) h1,⟨hI,z0i _ ho⟩,sf,z3b _,hsz,λ U Z=> ?_⟩;have e:=q84 (L:=es.toList) (f:=λ e=>e.2) (by rw [z0v]) (λ i v ⟨e,h1,h2⟩=>⟨e,by rw [z0o];exact h1,h2⟩) Z;refine B _ ?_;rw [e]
end
section
variable {prog:Program} {w:World} {A:Around} {E:Value ->Shared ->Prop} {s:Shared} {a:Addr} {xs:List Str}
def qa1 (xs:List Str) (vs:List Value):Prop:=(vs.map sOf).Perm xs/\∀ v∈vs,∃ x t,v= .str x t
theorem qg7 {R:Result ->Shared ->Prop} (hh:A.handled=none) (x:TxS prog w s.heap a xs) (S:Addr) (a0:S≠a) (res:Value) (c₀:Nat) (hS:s.heap.get? S=some {cls:= .type "list",data:= .seq #[] c₀})
  (hR:∀ h' tk d B Y,(∀ b o,b≠S ->s.heap.get? b=some o ->h'.get? b=some o) ->h'.get? S=some {cls:= .type "list",dict:=none,data:= .seq B Y,slots:=#[]} ->qa1 xs B.toList ->R (.ok (.ret res)) {s with heap:=h',toks:=tk,drawn:=d}):
  wpAny (model prog w) A.in1 (Builtin.List.listExtendWith (.ref S) (.ref a) res)
   (λ fin s'=>match fin with | .done f=>R (.ok f) s' | .again Y=>Y.quiet=true/\codeAny (model prog w) A Y R s') (λ e s'=>R (.error e) s') s:=by
 obtain ⟨o,es,ep,t,ho,b0,rest⟩:=id x;have ty:s.TypeIs (.ref a) "set":=⟨o,ho,b0.1⟩;unfold Builtin.List.listExtendWith;refine z3h (wpAny_typeOf (T:="set") ty ?_);have h1:Builtin.List.listSameRef (.ref S) (.ref a)=false:=by simp [Builtin.List.listSameRef,a0]
 simp only [h1,show (Value.type "set"==Value.type "list")=false by decide,show (Value.type "set"==Value.type "tuple")=false by decide,Bool.or_false,z14,if_false];refine z3h (z3i (qjn (A:=A.in1) (E:=λ e s'=>R (.error e) s') hh x (z32 hS) a0) (λ it s1 Z=> ?_) λ e s' z=>z);obtain ⟨J,fp,n,P,St,h2,d,rfl,rfl,keep,W,st,a6,hJ,hn,a8⟩:=Z;have D:=keep _ _ hS;have hSJ:S≠J:=z33 (z1a (z32 hS) hJ);have key:∀ (h:Heap) (c₁ tk:Nat),St 0 h ->(∀ b o,b≠S ->h2.get? b=some o ->h.get? b=some o) ->
   h.get? S=some {cls:= .type "list",data:= .seq #[] c₁} ->codeAny (model prog w) A (.builtin "list.extend.loop" ⟨[.ref S,.ref J,res],[]⟩) R {s with heap:=h,toks:=tk,drawn:=d}:=by
  intro h c₁ tk b5 hk D;refine codeAny_extend_loopS W.toS hn S a6 res n 0 _ #[] c₁ rfl (z3e _) b5 D (ItemsOf.nil _) λ s' B Y hm b3 ha=> ?_;rw [Moved.eq_with hm];refine hR s'.heap s'.toks d B Y (λ b o U e=>hm.heap b o (λ O=> ?_) (hk b o U (keep b o e))) b3 (a8 B ha);rcases z2v.mp O with e' | O
  ·exact U e'
  ·have z:=z16.mp O;exact absurd (z32 e) (by rw [z];exact Nat.not_lt.mpr hJ)
 refine z3h (z2w (qjm ⟨o,keep _ _ ho,b0.1⟩ ?_));refine wpAny_ite_split (λ _=> ?_) (λ _=>z3g ⟨plainId_quiet PySem.F.plain_extend_loop _,key _ c₀ _ st (λ b o _ e=>e) D⟩);refine z3h (z3f ?_);refine z3h ?_;show wpAny _ _ (updateSeq S (·.push .none) >>=λ _=>updateSeq S (·.pop)) _ _ _;refine z3h (wpAny_updateSeq D rfl ?_);have a7:=z0p (Obj.mapSeq (·.push Value.none)) D rfl;refine wpAny_updateSeq (hz:=by seq_fits) a7 rfl ?_;have b4:=z0p (Obj.mapSeq (·.pop)) a7 rfl;refine z3g ⟨plainId_quiet PySem.F.plain_extend_loop _,key _ _ _ ?_ (λ b o U e=> ?_) b4⟩
 ·refine W.frame 0 _ _ st λ b U o e=> ?_;have a9:b≠S:=λ h=>a6 (h ▸ U);exact (z0j _ _ (Ne.symm a9)).trans ((z0j _ _ (Ne.symm a9)).trans e)
 ·exact (z0j _ _ (Ne.symm U)).trans ((z0j _ _ (Ne.symm U)).trans e)
theorem qe3 {R:List Value ->Shared ->Prop} (hh:A.handled=none) (x:TxS prog w s.heap a xs)
  (h:∀ (vs:List Value) (h':Heap) (tk:Nat) (d:Drawn),qa1 xs vs ->(∀ b o,s.heap.get? b=some o ->h'.get? b=some o) ->s.heap.objs.size<=h'.objs.size ->R vs {s with heap:=h',toks:=tk,drawn:=d}):wpAny (model prog w) A (collect (.ref a)) R E s:=by
 have al:a < s.heap.objs.size:=by
  obtain ⟨_,_,_,_,e,_⟩:=x;exact z32 e
 unfold collect;refine z3h (wpAny_runValue (z2k entry_proto_collect' ?_));rw [Around.under_plainId PySem.F.plain_proto_collect _];show wpAny _ A.in1 (newList [] >>=λ l=>again (.builtin "list.__iadd__" ⟨[l,.ref a],[]⟩)) _ _ s;refine z3h (z1o ?_);refine z3g ⟨plainId_quiet z0e _,z2k entry_list_iadd' ?_⟩;rw [Around.under_plainId z0e _];have hS:(s.heap.push {cls:= .type "list",data:= .seq ([]:List Value).toArray}).get? s.heap.objs.size=some {cls:= .type "list",data:= .seq #[]}:=z0y _ rfl;show wpAny _ A.in1 (Builtin.List.listExtendWith (.ref s.heap.objs.size) (.ref a) (.ref s.heap.objs.size)) _ _ _;have key:=qg7 (A:=A) (prog:=prog) (w:=w) (xs:=xs) (a:=a) (s:={s with heap:=s.heap.push {cls:= .type "list",data:= .seq ([]:List Value).toArray}}) hh (x.keep λ o e=>z0i _ e) s.heap.objs.size
  (z35 al) (.ref s.heap.objs.size) 0 hS
  (R:=λ (q:Result) (s':Shared)=>∃ (h':Heap) (tk:Nat) (d:Drawn) (B:Array Value) (J:Nat),q= .ok (.ret (.ref s.heap.objs.size))/\s'={s with heap:=h',toks:=tk,drawn:=d}/\(∀ b o,s.heap.get? b=some o ->h'.get? b=some o)/\
   h'.get? s.heap.objs.size=some {cls:= .type "list",dict:=none,data:= .seq B J,slots:=#[]}/\qa1 xs B.toList)
  (λ h' tk d B J hk D O=>⟨h',tk,d,B,J,rfl,rfl,λ b o e=>hk b o (z33 (z32 e)) (z0i _ e),D,O⟩)
 refine z3i key (λ f s' y=> ?_) λ e s' y=> ?_
 ·cases f with
  | done f=>
   obtain ⟨h',tk,d,B,J,e,rfl,hk,D,U⟩:=y;cases e
   show wpAny _ A (load s.heap.objs.size >>=_) _ _ _;refine z3h (wpAny_load D (z3g ?_));exact h B.toList h' tk d U hk (z31 (z32 D))
  | again c=>
   refine ⟨y.1,z36 y.2 λ q s2 z=> ?_⟩;obtain ⟨h',tk,d,B,J,rfl,rfl,hk,D,U⟩:=z;show wpAny _ A (load s.heap.objs.size >>=_) _ _ _;refine z3h (wpAny_load D (z3g ?_));exact h B.toList h' tk d U hk (z31 (z32 D))
 ·obtain ⟨_,_,_,_,_,e',_⟩:=y;cases e'
end
def SetH (P:Program) (w:World) (a:Addr) (ys:List Str):HO:= .ext λ h=>TxS P w h a ys
section
variable {X:Cx} {pins:List (Addr×Obj)} {σ:St} {H:Hp} {s:Shared}
theorem Inv.drew {d:Drawn} (I:Inv X pins σ H s):Inv X pins σ H {s with drawn:=d}:=
 I.step (h':=s.heap) (g':=s.gens) (d':=d) (t':=s.toks) (ch:=[]) (λ _ z=>nomatch z) (λ _ _ _ _ _ e _=>e) (λ b o _ _ _ e _=>⟨o.slots,e⟩) (λ _ _ _ _ n=>n) (λ b o _ e=>⟨o,e⟩) (λ _ _ e=>e) (λ _ _ _ e=>e) (λ b ps e=>⟨#[],by rw [e];simp⟩) (λ _ e=>e) I.hok I.bare
theorem qhm (hc:X.calm=true) (P:Program) (w:World) (K:PySem.W.Frag) (hK:X.K=K:=by rfl) (hP:X.prog=P:=by rfl) (hw:X.w=w:=by rfl):q30 X (.type "set") (λ xs H Q=>∃ (p:Addr) (B:List Str),xs=[.ref p]/\(SqL K H p (B.map V.str)\/ SqT K H p (B.map V.str))/\B.length<=4000/\
  ∀ (l:Addr) (ys:List Str),H l=none ->ys.Nodup ->(∀ x,x∈ys↔x∈B) ->Q (.ref l) (upd H l (SetH P w l ys))):=by
 subst hK hP hw;intro pins s σ H xs us Q I r h;obtain ⟨p,B,rfl,hp,hl,q⟩:=h;obtain ⟨u,rfl,ru⟩:=q5e r;cases ru
 have fin:∀ (its:List Value),its.length=B.length ->∀ (h':Heap) (tk:Nat) (ys:List Str),TxS X.prog X.w h' s.heap.objs.size ys ->InS (λ i=>B.getD i "") its.toArray.size ys ->(∀ b o,b < s.heap.objs.size ->s.heap.get? b=some o ->h'.get? b=some o) ->EP X pins σ Q (.ref s.heap.objs.size) {s with heap:=h',toks:=tk}:=λ its J h' tk ys Y a0 keep=>by
  have O:∀ b o,s.heap.get? b=some o ->h'.get? b=some o:=λ b o e=>keep b o (z32 e) e;have D:ys.Nodup:=by
   obtain ⟨_,_,_,_,_,_,_,_,_,D,_⟩:=Y;exact D
  have Z:∃ o,h'.get? s.heap.objs.size=some o:=by
   obtain ⟨o,_,_,_,e,_⟩:=Y;exact ⟨o,e⟩
  refine ⟨.ref _,_,I.laid (a:=s.heap.objs.size) (o:=SetH X.prog X.w s.heap.objs.size ys) (t':=tk) O (z3b _) ⟨Y,Z,λ h1 h2 z k=>z.keep k⟩,zr,q _ ys I.fresh D λ x=> ?_⟩;rw [a0.1 x,z1k,J]
  constructor
  ·rintro ⟨j,U,rfl⟩;show B.getD j ""∈B;rw [z05,z09 U];exact z1y U
  ·intro hx;obtain ⟨j,U,e⟩:=List.getElem_of_mem hx;refine ⟨j,U,?_⟩;show B.getD j ""=x;rw [z05,z09 U];exact e
 have hh:=I.ok.hd hc;rcases hp with hp | hp
 ·obtain ⟨its,rv,⟨o,n,e,c,_,d⟩,z⟩:=I.list hp;have J:its.length=B.length:=by rw [<- rv.length,z2c]
  obtain ⟨_,_,e3⟩:=q99 rv;exact qhk hh ⟨o,e,c,n,d⟩ (by rw [z11];exact e3) (by rw [z1k,J];unfold scanBound;omega) (fin its J)
 ·obtain ⟨its,rv,⟨o,e,c,n,d⟩,z⟩:=I.tuple hp;have J:its.length=B.length:=by rw [<- rv.length,z2c]
  obtain ⟨_,_,e3⟩:=q99 rv;exact qg4 hh ⟨o,e,c,n,d⟩ (by rw [z11];exact e3) (by rw [z1k,J];unfold scanBound;omega) (fin its J)
end
section
variable {X:Cx}
end
section
variable {X:Cx}
end
section
variable {X:Cx}
end
section
variable {X:Cx} {tg:Expr}
end
end L2
namespace L2
open PySem PySem.Spec PyProof.Rows
section
variable {X:Cx}
theorem qm4 {K:PySem.W.Frag} {T n m:String} (B:T∈tyTs) (hn:n∈tyNs) (hm:m∈tyNs):PySem.W.kitAny K (.type T) [.type n,.type m]=some (tyIs T n || tyIs T m):=by
 unfold PySem.W.kitAny;rw [q8g B hn];cases tyIs T n with
 | true=>rfl
 | false=>
  unfold PySem.W.kitAny;show (match PySem.W.kitOne K (.type T) (.type m) with | some true=>some true | some false=>PySem.W.kitAny K (.type T) [] | none=>none)=_;rw [q8g B hm];cases tyIs T m <;> rfl
theorem qg8 (K:PySem.W.Frag) (hK:X.K=K:=by rfl):q30 X (.builtin "isinstance") (λ xs H Q=>∃ x n m d O,xs=[x,.ref O]/\H O=some (.tup [.ty n,.ty m])/\Dat K H d x/\n∈tyNs/\m∈tyNs/\Q (.bl (tyIs (tyD d) n || tyIs (tyD d) m)) H):=by
 subst hK;intro pins s σ H xs us Q I r h;obtain ⟨x,n,m,d,O,rfl,J,hd,hn,hm,q⟩:=h;obtain ⟨u,c,rfl,B,rc⟩:=q9n r;cases rc
 obtain ⟨its,rv,⟨o,ho,hc,k,D⟩,_⟩:=I.tuple (SqT.of (K:=X.K) J);obtain ⟨ua,ub,rfl,ra,rb⟩:=q9n rv;cases ra
 cases rb
 obtain ⟨oc,od,U,osl⟩:=o;cases hc
 cases D
 have e:=qm4 (K:=X.K) (qhc d) hn hm;have fin:∀ tk,EP X pins σ Q (.bool (tyIs (tyD d) n || tyIs (tyD d) m)) {s with toks:=tk}:=λ tk=>⟨.bl _,H,I.tok tk,rfl,q⟩;cases hd with
 | non=>cases B;exact PySem.W.kia_tup PySem.W.kitx_none I.kIn True.intro ho e (λ z=>nomatch z) fin
 | bl b=>cases B;exact PySem.W.kia_tup PySem.W.kitx_bool I.kIn True.intro ho e (λ z=>nomatch z) fin
 | int i=>obtain ⟨t,rfl⟩:=B;exact PySem.W.kia_tup PySem.W.kitx_int I.kIn True.intro ho e (λ z=>nomatch z) fin
 | str z h=>obtain ⟨t,rfl⟩:=B;exact PySem.W.kia_tup PySem.W.kitx_str I.kIn True.intro ho e (λ z=>nomatch z) fin
 | lst hq _=>
  cases B
  obtain ⟨its,_,⟨o,m,e1,c,_,_⟩,_⟩:=I.list hq;exact PySem.W.kia_tup PySem.W.kitx_list I.kIn ⟨o,e1,c⟩ ho e (λ z=>nomatch z) fin
 | tup hq _=>
  cases B
  obtain ⟨its,_,⟨o,e1,c,_⟩,_⟩:=I.tuple hq;exact PySem.W.kia_tup PySem.W.kitx_tuple I.kIn ⟨o,e1,c⟩ ho e (λ z=>nomatch z) fin
end
section
variable {prog:Program} {w:World} {A:Around} {E:Value ->Shared ->Prop} {s:Shared}
theorem q7o {t Y:Addr} {B:Array Value} {vl vu:Value} {lo hi:Option Int} {Q:Value ->Shared ->Prop} (ht:IsTup s.heap t B) (Z:s.heap.IsSliceOf Y vl vu .none) (pl:IsPart vl lo) (pu:IsPart vu hi)
    (hw:HT.sIx B.size 0 lo=0/\HT.sIx B.size B.size hi=B.size) (h:Q (.ref t) s):wpAny (model prog w) A (getItem (.ref t) (.ref Y)) Q E s:=by
  obtain ⟨os,U,O,hds⟩:=id Z;have J:s.TypeIs (.ref Y) "slice":=⟨os,U,O⟩;unfold getItem
  try with_reducible refine z2w ?_
  first | refine z3h (z3g ?_) | skip
  refine z3h (wpAny_sequenceKey ht.typeIs (by decide) ?_);refine z3h (wpAny_callSpecial?_slot (name:=Str.ofString "__getitem__") ht.typeIs PyProof.Rows.slot_tuple_getitem
    (z22 PyProof.Rows.slot_tuple_getitem ht.typeIs entry_tuple_getitem ?_ (args_tuple_getitem _ _)))
  show wpAny _ _ (Builtin.Tuple.tupleItemsOf (.ref t) >>=_) _ _ s;refine z3h (tupleItemsOf_ ht ?_);refine z3h (wpAny_typeOf J ?_);rw [if_pos (by decide)];refine z3h (HT.sliceApplied_gen Z pl pu ?_);have D:(((HT.sIx B.size 0 lo:Nat):Int)==0&&(1:Int)==1&&(HT.sIx B.size B.size hi - HT.sIx B.size 0 lo)==B.size)=true:=by
    rw [hw.1,hw.2];simp
  show wpAny _ _ (if (((HT.sIx B.size 0 lo:Nat):Int)==0&&(1:Int)==1&&(HT.sIx B.size B.size hi - HT.sIx B.size 0 lo)==B.size)=true then _ else _) _ _ s;rw [if_pos D];refine z3h (m:=Builtin.Tuple.tupleIsExact (.ref t)) (z3h (m:=typeOf (.ref t)) (wpAny_typeOf ht.typeIs (z3g ?_)));rw [if_pos (by decide)]
  first
    | exact z3h (z3f (z3g ⟨_,rfl,z3g h⟩))
    | exact z3f (z3g ⟨_,rfl,z3g h⟩)
    | exact z3f (z3h (z3g (z3g ⟨_,rfl,z3g h⟩)))
    | exact z3h (z3f (z3h (z3g (z3g ⟨_,rfl,z3g h⟩))))
    | skip
end
section
variable {X:Cx}
def rSlA (K:PySem.W.Frag):V ->Option Int ->Option Int ->Hp ->VK ->Prop:=λ x lo hi H Q=>∃ a xs,x= .ref a/\SqT K H a xs/\∀ p H',Same H H' ->SqT K H' p (cutV xs lo hi) ->Q (.ref p) H'
theorem q6z (K:PySem.W.Frag) (hK:X.K=K:=by rfl):SlR X (rSlA K):=by
 subst hK;intro pins s σ H x v vl vu lo hi sl Q I rx J pl O h;obtain ⟨a,xs,rfl,D,q⟩:=h;by_cases hw:HT.sIx xs.length 0 lo=0/\HT.sIx xs.length xs.length hi=xs.length
 ·cases rx
  obtain ⟨its,r,ht,hz⟩:=I.tuple D;have B:its.toArray.size=xs.length:=by rw [z1k];exact r.length.symm
  refine ⟨"tuple",_,PyProof.Rows.slot_tuple_getitem.lookup,ht.typeIs,?_⟩;refine q7o ht J pl O (by rw [B];exact hw) ⟨.ref a,H,I,rfl,q a H (Same.refl H) ?_⟩;have:cutV xs lo hi=xs:=by
   unfold cutV;rw [hw.1,hw.2,List.drop_zero,Nat.sub_zero,z26]
  rw [this];exact D
 ·exact qh0 pins s σ H _ v vl vu lo hi sl Q I rx J pl O ⟨a,xs,zr,D,hw,λ p hp=>q p _ (qd hp) (SqT.of qa)⟩
end
section
variable {X:Cx}
def qoz:R2:=λ x y H Q=>∃ a b xs ys,x= .ref a/\y= .ref b/\H a=some (.tup xs)/\H b=some (.tup ys)/\xs.length+ys.length<=sizeLine/\∀ p H',Same H H' ->H' p=some (.tup (xs++ys)) ->Q (.ref p) H'
theorem qm5:OpR X (binaryOp .Add) qoz:=by
 intro pins s σ H x y v u Q I rx ry h;obtain ⟨a,b,xs,ys,rfl,rfl,Z,hb,hz,q⟩:=h;by_cases hx:xs=[]
 ·subst hx;cases rx
  cases ry
  obtain ⟨its,r1,p1,_⟩:=I.tuple (SqT.of (K:=X.K) Z);obtain ⟨O,r2,p2,_⟩:=I.tuple (SqT.of (K:=X.K) hb);have e0:its=[]:=r1.q8f.mpr rfl;subst e0;obtain ⟨⟨cls,dd,data,sl⟩,ho,hc,n,hd⟩:=id p1;obtain ⟨⟨a6,Y,U,a0⟩,J,B,n2,D⟩:=id p2;simp only at hc hd B D;subst hc hd B D;exact concat_meets ⟨_,ho,zr⟩ ⟨_,J,zr⟩ noFill_tuple_add seq_tuple_add PySem.F.slot_tuple_add PySem.F.entry_tuple_add (PySem.F.args_tuple_add_2 _ _)
   (tuple_addW0 a b #[] O.toArray n n2 dd Y sl a0 rfl) ⟨ho,J,⟨.ref b,H,I,rfl,q b H (Same.refl _) hb⟩⟩
 ·refine qle pins s σ H _ _ v u Q I rx ry ⟨a,b,xs,ys,zr,zr,SqT.of Z,SqT.of hb,hx,hz,λ e=> ?_,λ _ p hp=>q p _ (qd hp) qa⟩;subst e;exact q a H (Same.refl _) (by rw [z2d];exact Z)
end
section
variable {prog:Program} {w:World} {A:Around} {E:Value ->Shared ->Prop} {s:Shared}
theorem q8o {it t:Addr} {i:Nat} {B:Array Value} {x:Value} {Q:Value ->Shared ->Prop} (D:s.heap.IsTupleIter it t i) (ht:s.heap.IsTuple t B) (hx:B[i]? =some x)
  (hQ:∀ h',h'.IsTupleIter it t (i+1) ->Heap.SameBut it s.heap h' ->Q x {s with heap:=h'}):
  wpAny (model prog w) A (Builtin.SmallTypes.nextOf (.ref it)) Q E s:=by
 obtain ⟨o,ho,hc,hd⟩:=id D;obtain ⟨ol,O,_,nl,J⟩:=ht;unfold Builtin.SmallTypes.nextOf;refine z3h (wpAny_callSpecial?_slot (name:=Str.ofString "__next__") D.typeIs F.slot_tuple_iterator_next
  (z22 F.slot_tuple_iterator_next D.typeIs F.entry_tuple_iterator_next ?_ (F.args_tuple_iterator_next_1 _)))
 show wpAny _ _ (field (.ref it) 0 >>=_) _ _ s;refine z3h (wpAny_field ho hd (x:= .ref t) rfl ?_);show wpAny _ _ (if (Value.ref t==Value.none)=true then _ else _) _ _ s;rw [if_neg (show ¬ ((Value.ref t==Value.none)=true) from z15)];show wpAny _ _ (field (.ref it) 1 >>=_) _ _ s;refine z3h (wpAny_field ho hd (x:= .int i 0) rfl ?_);show wpAny _ _ (seqItems? (.ref t) >>=_) _ _ s;refine z3h (wpAny_seqItems O J ?_);simp only [z1n,hx];refine z3h (z2s ho hd (by simp) (z3g ⟨x,zr,z3g (hQ _ ?_ (z0x ..))⟩));exact ⟨_,z0p _ ho (Obj.isFreed_of_fields (Obj.data_mapFields hd _)),(Obj.cls_mapFields ..).trans hc,by
  rw [Obj.data_mapFields hd];simp [rawInt]⟩
theorem q9a {it t:Addr} {i:Nat} {B:Array Value} {Q:Value ->Shared ->Prop} (U:A.handled=none) (D:s.heap.IsTupleIter it t i) (ht:s.heap.IsTuple t B) (hx:B[i]? =none)
    (hE:∀ h' e,Heap.ExtBut it s.heap h' ->(∃ o,h'.get? e=some o/\o.cls= .type "StopIteration") ->E (.ref e) {s with heap:=h'}):
    wpAny (model prog w) A (Builtin.SmallTypes.nextOf (.ref it)) Q E s:=by
  obtain ⟨o,ho,hc,hd⟩:=id D;obtain ⟨ol,O,_,nl,J⟩:=ht;unfold Builtin.SmallTypes.nextOf;refine z3h (wpAny_callSpecial?_slot (name:=Str.ofString "__next__") D.typeIs F.slot_tuple_iterator_next
    (z22 F.slot_tuple_iterator_next D.typeIs F.entry_tuple_iterator_next ?_ (F.args_tuple_iterator_next_1 _)))
  show wpAny _ _ (field (.ref it) 0 >>=_) _ _ s;refine z3h (wpAny_field ho hd (x:= .ref t) rfl ?_);show wpAny _ _ (if (Value.ref t==Value.none)=true then _ else _) _ _ s;rw [if_neg (show ¬ ((Value.ref t==Value.none)=true) from z15)];show wpAny _ _ (field (.ref it) 1 >>=_) _ _ s;refine z3h (wpAny_field ho hd (x:= .int i 0) rfl ?_);show wpAny _ _ (seqItems? (.ref t) >>=_) _ _ s;refine z3h (wpAny_seqItems O J ?_);simp only [z1n,hx];refine z3h (z3f (z3h (z2s ho hd (by simp) ?_)));show wpAny _ _ (newExc (.type "StopIteration") [] >>=_) _ _ _;refine z3h ?_;simp only [newExc,newTuple];refine z3h (z1o ?_ (by size_fits));refine z3h (m:=firstArgMember _ _) (wpAny_of_eq (a:=Value.none) (by first | rfl | (simp only [firstArgMember];rfl)) ?_);refine z1o ?_ (by size_fits);simp only [raiseNew];refine z3h (wpAny_handled ?_)
  first | rw [show A.in1.handled=none from U] | rw [U]
  refine z3h (z3g (wpAny_throw ?_));exact hE _ _ (((z0x ..).extBut.push _).push _) ⟨_,z0y _ rfl,zr⟩
theorem q3m (hh:A.handled=none) (it t:Addr) (O:t≠it) (B:Array Value):
  Draws prog w A it [it,t] B.size (λ i v=>B[i]? =some v) (λ i h=>h.IsTupleIter it t i/\h.IsTuple t B) where
 live:=λ _ _ st=>let ⟨o,ho,_⟩:=st.1;⟨o,ho⟩
 frame:=λ _ _ _ st hk=>⟨st.1.at λ o e=>hk it (by simp) o e,let ⟨o,e,r⟩:=st.2;⟨o,hk t (by simp) o e,r⟩⟩
 item:=λ i s Q E hi st hQ=>by
  refine q8o st.1 st.2 (x:=B[i]) (by simp [hi]) λ h' D J=> ?_;exact hQ _ h' s.toks (by simp [hi]) ⟨D,st.2.extBut J.extBut O⟩ J
 done:=λ s Q E st hE=>q9a hh st.1 st.2 (by simp) hE
structure ZAp (z TI TO i1 i2:Addr) (f1 f2:List Addr):Prop where
 TIz:TI≠z
 TOz:TO≠z
 i1z:i1≠z
 i2z:i2≠z
 TITO:TI≠TO
 TIi1:TI≠i1
 TIi2:TI≠i2
 TOi1:TO≠i1
 TOi2:TO≠i2
 i12:i1≠i2
 z1:z∉f1
 TO1:TO∉f1
 i21:i2∉f1
 z2:z∉f2
 TO2:TO∉f2
 i1f:i1∉f2
theorem q47 {it:Addr} {h h':Heap} {f:List Addr} (x:Heap.ExtBut it h h') (n:it∉f):∀ b∈f,∀ o,h.get? b=some o ->h'.get? b=some o:=λ b hb o e=>x b o (λ z=>n (z ▸ hb)) e
theorem qjo {z TI TO i1 i2:Addr} {f1 f2:List Addr} {n1 n2 k1 k2:Nat} {P1 P2:Nat ->Value ->Prop} {S1 S2:Nat ->Heap ->Prop} {a b:Value} {Q:Value ->Shared ->Prop} (D:ZAp z TI TO i1 i2 f1 f2)
  (D1:Draws prog w A i1 f1 n1 P1 S1) (D2:Draws prog w A i2 f2 n2 P2 S2)
  (hz:IsZip s.heap z TI TO .none) (d2:IsPair s.heap TI (.ref i1) (.ref i2)) (d3:IsPair s.heap TO a b)
  (h1:S1 k1 s.heap) (h2:S2 k2 s.heap) (hx:k1 < n1) (hy:k2 < n2)
  (hQ:∀ x y h' tk,P1 k1 x ->P2 k2 y ->IsZip h' z TI TO (rawInt s.heap.objs.size) ->IsPair h' TO x y ->S1 (k1+1) h' ->S2 (k2+1) h' ->IsPair h' s.heap.objs.size x y ->h'.objs.size=s.heap.objs.size+1 ->
   (∀ c o,c≠z ->c≠TO ->c≠i1 ->c≠i2 ->s.heap.get? c=some o ->h'.get? c=some o) ->Q (.ref s.heap.objs.size) {s with heap:=h',toks:=tk}):
  wpAny (model prog w) A (Builtin.«zip.__next__» ⟨[.ref z],[]⟩) (λ fin s'=>∃ v,fin= .done (.ret v)/\Q v s') E s:=by
 obtain ⟨hp,g,d,tk₀,os⟩:=s;show wpAny _ _ (field (.ref z) 2 >>=_) _ _ _;refine z3h (wpAny_field hz rfl (x:= .bool false) rfl ?_);show wpAny _ _ (field (.ref z) 3 >>=_) _ _ _;refine z3h (wpAny_field hz rfl (x:= .ref TI) rfl ?_);refine z3h (wpAny_seqItems d2 rfl ?_);show wpAny _ _ (Builtin.SmallTypes.ownedTupleIsFree (.ref z) >>=_) _ _ _;refine z3h ?_;unfold Builtin.SmallTypes.ownedTupleIsFree;refine z3h (wpAny_field hz rfl (x:= .none) rfl (z3g ?_));simp only [if_true];refine z3h (z3f ?_);refine z3h (wpAny_field hz rfl (x:= .ref TO) rfl ?_);refine z3h (wpAny_setField_rec hz (by simp) λ h₁ b5 U=> ?_)
 replace b5:IsZip h₁ z TI TO .ellipsis:=b5
 refine z3h ?_;simp only [List.zipIdx_cons,List.zipIdx_nil,List.forIn_cons,List.forIn_nil];refine z3h (z3h (wpAny_onRaise ?_));show wpAny _ _ (Builtin.SmallTypes.nextOf (.ref i1) >>=_) _ _ _;have c0:S1 k1 h₁:=D1.frame _ _ _ h1 (q47 U.extBut D.z1);refine z3h (D1.item k1 _ _ _ hx c0 λ x h₂ tk₂ d0 c5 Y=>z3g ?_);have a8:IsPair h₂ TO a b:=Y.extBut _ _ D.TOi1 (U.extBut _ _ D.TOz d3);refine z3h (wpAny_seqItems a8 rfl ?_);refine z3h (wpAny_updateSeq_pair a8 λ h₃ O Z=> ?_)
 replace O:IsPair h₃ TO x b:=O
 refine z3h (wpAny_letGo (z3g ?_));refine z3h (z3h (wpAny_onRaise ?_));show wpAny _ _ (Builtin.SmallTypes.nextOf (.ref i2) >>=_) _ _ _;have c7:S2 k2 h₃:=D2.frame _ _ _ (D2.frame _ _ _ (D2.frame _ _ _ h2 (q47 U.extBut D.z2)) (q47 Y.extBut D.i1f)) (q47 Z.extBut D.TO2);refine z3h (D2.item k2 _ _ _ hy c7 λ y h₄ tk₄ d1 c8 a0=>z3g ?_);have a9:IsPair h₄ TO x b:=a0.extBut _ _ D.TOi2 O;refine z3h (wpAny_seqItems a9 rfl ?_);refine z3h (wpAny_updateSeq_pair a9 λ B J a6=> ?_)
 replace J:IsPair B TO x y:=J
 refine z3h (wpAny_letGo (z3g (z3g ?_)));refine z3h (wpAny_seqItems J rfl ?_);refine z3h (wpAny_newTuple ?_);have hsz:B.objs.size=hp.objs.size:=by rw [a6.1,a0.1,Z.1,Y.1,U.1]
 have b9:IsZip B z TI TO .ellipsis:=a6.extBut _ _ D.TOz.symm (a0.extBut _ _ D.i2z.symm (Z.extBut _ _ D.TOz.symm (Y.extBut _ _ D.i1z.symm b5)));have d4:∀ c o,c≠z ->c≠TO ->c≠i1 ->c≠i2 ->hp.get? c=some o ->B.get? c=some o:=λ c o c1 c2 c3 c4 e=>
  a6.extBut _ _ c2 (a0.extBut _ _ c4 (Z.extBut _ _ c2 (Y.extBut _ _ c3 (U.extBut _ _ c1 e))))
 have c6:S1 (k1+1) B:=D1.frame _ _ _ (D1.frame _ _ _ (D1.frame _ _ _ c5 (q47 Z.extBut D.TO1)) (q47 a0.extBut D.i21)) (q47 a6.extBut D.TO1);have c9:S2 (k2+1) B:=D2.frame _ _ _ c8 (q47 a6.extBut D.TO2);have b0:z < B.objs.size:=z32 b9;show wpAny _ _ (Builtin.SmallTypes.ownedTupleHandOut (.ref z) (.ref B.objs.size) >>=_) _ _ _;refine z3h ?_;unfold Builtin.SmallTypes.ownedTupleHandOut;have d5:IsZip (B.push {cls:= .type "tuple",data:= .seq #[x,y]}) z TI TO .ellipsis:=z0i _ b9;refine z3h (wpAny_setField_rec d5 (by simp) λ h₇ b6 b3=> ?_)
 replace b6:IsZip h₇ z TI TO (rawInt B.objs.size):=b6
 refine wpAny_setField_rec b6 (by simp) λ h₈ a7 b4=> ?_
 replace a7:IsZip h₈ z TI TO (rawInt B.objs.size):=a7
 have up:∀ c o,c≠z ->B.get? c=some o ->h₈.get? c=some o:=λ c o c1 e=>b4.extBut _ _ c1 (b3.extBut _ _ c1 (z0i _ e));have b7:IsPair h₈ B.objs.size x y:=b4.extBut _ _ (z35 b0) (b3.extBut _ _ (z35 b0) (z0y _ rfl));have b8:h₈.objs.size=B.objs.size+1:=by rw [b4.1,b3.1,z2p]
 rw [hsz] at a7 b7 b8;refine z3g ⟨_,zr,?_⟩;show Q (.ref B.objs.size) _;rw [hsz];exact hQ x y h₈ _ d0 d1 a7 (up _ _ D.TOz J) (D1.frame _ _ _ c6 λ b hb o e=>up b o (λ q=>D.z1 (q ▸ hb)) e) (D2.frame _ _ _ c9 λ b hb o e=>up b o (λ q=>D.z2 (q ▸ hb)) e) b7 b8 λ c o c1 c2 c3 c4 e=>up c o c1 (d4 c o c1 c2 c3 c4 e)
theorem qm6 {z TI TO i1 i2:Addr} {f1 f2:List Addr} {n1 n2 k1 k2:Nat} {P1 P2:Nat ->Value ->Prop} {S1 S2:Nat ->Heap ->Prop} {a b:Value} {Q:Fin ->Shared ->Prop} (D:ZAp z TI TO i1 i2 f1 f2)
  (D1:Draws prog w A i1 f1 n1 P1 S1) (D2:Draws prog w A i2 f2 n2 P2 S2)
  (hz:IsZip s.heap z TI TO .none) (b6:IsPair s.heap TI (.ref i1) (.ref i2)) (b7:IsPair s.heap TO a b)
  (h1:S1 k1 s.heap) (h2:S2 k2 s.heap) (a8:k1=n1\/ (k1 < n1/\k2=n2))
  (hE:∀ h' tk e,(∀ c o,c≠z ->c≠TO ->c≠i1 ->c≠i2 ->s.heap.get? c=some o ->h'.get? c=some o) ->(∃ o,h'.get? e=some o/\o.cls= .type "StopIteration") ->E (.ref e) {s with heap:=h',toks:=tk}):
  wpAny (model prog w) A (Builtin.«zip.__next__» ⟨[.ref z],[]⟩) Q E s:=by
 obtain ⟨hp,g,d,tk₀,os⟩:=s;show wpAny _ _ (field (.ref z) 2 >>=_) _ _ _;refine z3h (wpAny_field hz rfl (x:= .bool false) rfl ?_);show wpAny _ _ (field (.ref z) 3 >>=_) _ _ _;refine z3h (wpAny_field hz rfl (x:= .ref TI) rfl ?_);refine z3h (wpAny_seqItems b6 rfl ?_);show wpAny _ _ (Builtin.SmallTypes.ownedTupleIsFree (.ref z) >>=_) _ _ _;refine z3h ?_;unfold Builtin.SmallTypes.ownedTupleIsFree;refine z3h (wpAny_field hz rfl (x:= .none) rfl (z3g ?_));simp only [if_true];refine z3h (z3f ?_);refine z3h (wpAny_field hz rfl (x:= .ref TO) rfl ?_);refine z3h (wpAny_setField_rec hz (by simp) λ h₁ Z Y=> ?_)
 replace Z:IsZip h₁ z TI TO .ellipsis:=Z
 refine z3h ?_;simp only [List.zipIdx_cons,List.zipIdx_nil,List.forIn_cons,List.forIn_nil];refine z3h (z3h (wpAny_onRaise ?_));show wpAny _ _ (Builtin.SmallTypes.nextOf (.ref i1) >>=_) _ _ _;have a7:S1 k1 h₁:=D1.frame _ _ _ h1 (q47 Y.extBut D.z1);rcases a8 with hx | ⟨hx,hy⟩
 ·subst hx;refine z3h (D1.done _ _ _ a7 λ h₂ e J he=> ?_);obtain ⟨oe,B,U⟩:=he;have b3:IsZip h₂ z TI TO .ellipsis:=J _ _ D.i1z.symm Z;have a6:e≠z:=λ x=>by subst x;rw [b3] at B;cases B;simp at U
  refine wpAny_setField_rec b3 (by simp) λ h₃ _ O=>hE h₃ _ e (λ c o c1 _ c3 _ x=>O.extBut _ _ c1 (J _ _ c3 (Y.extBut _ _ c1 x))) ⟨oe,O.extBut _ _ a6 B,U⟩
 ·subst hy;refine z3h (D1.item k1 _ _ _ hx a7 λ x h₂ tk₂ hPx h1₂ J=>z3g ?_);have a0:IsPair h₂ TO a b:=J.extBut _ _ D.TOi1 (Y.extBut _ _ D.TOz b7);refine z3h (wpAny_seqItems a0 rfl ?_);refine z3h (wpAny_updateSeq_pair a0 λ h₃ b8 O=> ?_);refine z3h (wpAny_letGo (z3g ?_));refine z3h (z3h (wpAny_onRaise ?_));show wpAny _ _ (Builtin.SmallTypes.nextOf (.ref i2) >>=_) _ _ _;have b5:S2 k2 h₃:=D2.frame _ _ _ (D2.frame _ _ _ (D2.frame _ _ _ h2 (q47 Y.extBut D.z2)) (q47 J.extBut D.i1f)) (q47 O.extBut D.TO2);refine z3h (D2.done _ _ _ b5 λ h₄ e a9 he=> ?_);obtain ⟨oe,B,U⟩:=he;have b4:IsZip h₄ z TI TO .ellipsis:=a9 _ _ D.i2z.symm (O.extBut _ _ D.TOz.symm (J.extBut _ _ D.i1z.symm Z));have a6:e≠z:=λ x=>by subst x;rw [b4] at B;cases B;simp at U
  refine wpAny_setField_rec b4 (by simp) λ h₅ _ b0=>hE h₅ _ e (λ c o c1 c2 c3 c4 x=>b0.extBut _ _ c1 (a9 _ _ c4 (O.extBut _ _ c2 (J.extBut _ _ c3 (Y.extBut _ _ c1 x))))) ⟨oe,b0.extBut _ _ a6 B,U⟩
theorem q8z {z TI TO B J:Addr} {f1 f2:List Addr} {n1 n2 O U:Nat} {P1 P2:Nat ->Value ->Prop} {Y Z:Nat ->Heap ->Prop} {a b:Value} {Q:Option Value ->Shared ->Prop} (hh:A.handled=none) (D:ZAp z TI TO B J f1 f2)
  (D1:∀ A:Around,A.handled=none ->Draws prog w A B f1 n1 P1 Y) (D2:∀ A:Around,A.handled=none ->Draws prog w A J f2 n2 P2 Z)
  (hz:IsZip s.heap z TI TO .none) (a0:IsPair s.heap TI (.ref B) (.ref J)) (b0:IsPair s.heap TO a b)
  (h1:Y O s.heap) (h2:Z U s.heap) (hx:O < n1) (hy:U < n2)
  (hQ:∀ x y h' tk,P1 O x ->P2 U y ->IsZip h' z TI TO (rawInt s.heap.objs.size) ->IsPair h' TO x y ->Y (O+1) h' ->Z (U+1) h' ->IsPair h' s.heap.objs.size x y ->h'.objs.size=s.heap.objs.size+1 ->
   (∀ c o,c≠z ->c≠TO ->c≠B ->c≠J ->s.heap.get? c=some o ->h'.get? c=some o) ->Q (some (.ref s.heap.objs.size)) {s with heap:=h',toks:=tk}):
  wpAny (model prog w) A (pyNext (.ref z)) Q E s:=by
 have hT:s.TypeIs (.ref z) "zip":=⟨_,hz,rfl⟩;unfold pyNext;exact z3h (z2u (wpAny_callSpecial?_slot (name:=Str.ofString "__next__") hT F.slot_zip_next
  (z22 F.slot_zip_next hT F.entry_zip_next
   (qjo D (D1 _ hh) (D2 _ hh) hz a0 b0 h1 h2 hx hy λ x y h' tk a1 a2 a3 a4 a5 a6 a7 a8 a9=>z3g (hQ x y h' tk a1 a2 a3 a4 a5 a6 a7 a8 a9)) (F.args_zip_next_1 _))))
theorem q6e {z TI TO J O:Addr} {f1 f2:List Addr} {n1 n2 Z k2:Nat} {P1 P2:Nat ->Value ->Prop} {S1 S2:Nat ->Heap ->Prop} {a b:Value} {Q:Option Value ->Shared ->Prop} (hh:A.handled=none) (D:ZAp z TI TO J O f1 f2)
  (D1:∀ A:Around,A.handled=none ->Draws prog w A J f1 n1 P1 S1) (D2:∀ A:Around,A.handled=none ->Draws prog w A O f2 n2 P2 S2)
  (hz:IsZip s.heap z TI TO .none) (U:IsPair s.heap TI (.ref J) (.ref O)) (Y:IsPair s.heap TO a b)
  (h1:S1 Z s.heap) (h2:S2 k2 s.heap) (B:Z=n1\/ (Z < n1/\k2=n2))
  (hQ:∀ h' tk,(∀ c o,c≠z ->c≠TO ->c≠J ->c≠O ->s.heap.get? c=some o ->h'.get? c=some o) ->Q none {s with heap:=h',toks:=tk}):wpAny (model prog w) A (pyNext (.ref z)) Q E s:=by
 have hT:s.TypeIs (.ref z) "zip":=⟨_,hz,rfl⟩;unfold pyNext;refine z3h (z2u (wpAny_callSpecial?_slot (name:=Str.ofString "__next__") hT F.slot_zip_next
  (z22 F.slot_zip_next hT F.entry_zip_next (qm6 D (D1 _ hh) (D2 _ hh) hz U Y h1 h2 B λ h' tk e hk he=> ?_) (F.args_zip_next_1 _))))
 obtain ⟨o,ho,hc⟩:=he;refine z3h (wpAny_isInstance (T:="StopIteration") (b:=true) ⟨o,ho,hc⟩ isSubtype_stop ?_);exact z3g (hQ _ _ hk)
end
section
variable {X:Cx} {pins:List (Addr×Obj)} {σ:St} {H:Hp} {s:Shared} {h':Heap}
theorem FpOk.ch {fp:List Addr} (hf:∀ b∈fp,FpOk X pins H b):∀ b∈fp,(b∈X.ex\/ X.s₀.heap.objs.size<=b)/\b≠X.env.locals/\(∀ x c,X.env.cells.lookup x=some c ->c≠b)/\∀ p∈X.pn++pins,p.1≠b:=λ b hb=>
 let ⟨_,f1,_,f3,f4,f5⟩:=hf b hb;⟨f3,f1,f4,f5⟩
theorem q6h {fp:List Addr} {t':Nat} (I:Inv X pins σ H s) (J:∀ b∈fp,FpOk X pins H b) (k:∀ b o,b∉fp ->s.heap.get? b=some o ->h'.get? b=some o):Inv X pins σ H {s with heap:=h',toks:=t'}:=by
 have D:∀ b u,H b=some u ->b∉fp:=λ b u e z=>by rw [(J b z).1] at e;cases e
 refine I.step (g':=s.gens) (d':=s.drawn) (ch:=fp) (FpOk.ch J) (λ b o _ _ B e _=>k b o B e) (λ b o _ _ B e _=>⟨o.slots,k b o B e⟩) (λ _ _ _ _ n=>n)
  (λ b o B e=>⟨o,k b o B e⟩) (λ _ _ e=>e) (λ _ _ _ e=>e) (λ b ps e=>⟨#[],by rw [e];simp⟩) (λ m hm=> ?_) (λ b u e=> ?_) I.bare
 ·obtain ⟨o,es,ep,ho,r⟩:=hm;exact ⟨o,es,ep,k _ o (λ z=>(J _ z).2.1 rfl) ho,r⟩
 ·refine (I.hok b u e).stay (λ c v B q=>k c v ?_ q) (λ _ q=>q) λ _ _ q=>q;rcases B with z | z
  ·rw [z];exact D b u e
  ·exact D c _ z
theorem q6i {fp:List Addr} {t':Nat} {a:Addr} {o:HO} (I:Inv X pins σ H s) (J:∀ b∈fp,FpOk X pins H b) (k:∀ b o,b∉fp ->s.heap.get? b=some o ->h'.get? b=some o) (hp:s.heap.objs.size<=a)
  (new:ObjOk X.prog X.w (upd H a o) h' a o):Inv X pins σ (upd H a o) {s with heap:=h',toks:=t'}:=by
 have hn:H a=none:=I.hok.fresh hp;have D:∀ b u,H b=some u ->b∉fp:=λ b u e z=>by rw [(J b z).1] at e;cases e
 have old:∀ {b u},H b=some u ->upd H a o b=some u:=λ {b u} q=>by rw [qg (q2v q hn)];exact q
 refine I.step (g':=s.gens) (d':=s.drawn) (ch:=fp) (FpOk.ch J) (λ b o _ _ B e _=>k b o B e) (λ b o _ _ B e _=>⟨o.slots,k b o B e⟩)
  (λ b u B e n=>by rw [qg (z33 (z1a (z32 e) hp))];exact n)
  (λ b o B e=>⟨o,k b o B e⟩) (λ b xs e=>old e) (λ b o u e=>old e) (λ b ps e=>⟨#[],by rw [old e];simp⟩) (λ m hm=> ?_) (λ b u e=> ?_) I.bare
 ·obtain ⟨o,es,ep,ho,r⟩:=hm;exact ⟨o,es,ep,k _ o (λ z=>(J _ z).2.1 rfl) ho,r⟩
 ·by_cases O:b=a
  ·subst O;rw [qa] at e;cases e
   exact new
  ·rw [qg O] at e;refine (I.hok b u e).stay (λ c v B q=>k c v ?_ q) (λ c q=>old q) λ c xs q=>old q;rcases B with z | z
   ·rw [z];exact D b u e
   ·exact D c _ z
end
def Itz (K:PySem.W.Frag) (a b:Addr):It:=
  ⟨λ i H=>∃ xs ys x y,SqT K H a xs/\SqT K H b ys/\xs[i]? =some x/\ys[i]? =some y,
   λ i H v H'=>∃ p x y,v= .ref p/\H p=none/\H'=upd H p (.tup [x,y])/\∀ xs ys,SqT K H a xs ->SqT K H b ys ->xs[i]? =some x/\ys[i]? =some y,
   λ i H=>∃ xs ys,SqT K H a xs/\SqT K H b ys/\i=min xs.length ys.length⟩
theorem qjp {P:Program} {w:World} {K:PySem.W.Frag} {elts:List Expr} {kk} {pos:Pos} (z TI TO i1 Y a b:Addr) (D:ZAp z TI TO i1 Y [i1,a] [Y,b]) (ha:a≠i1) (hb:b≠Y):
  Turn P w K (.Tuple elts kk pos) (Itz K a b) [z,TI,TO,i1,Y] z
   (λ i h=>IsZip h z TI TO .none/\IsPair h TI (.ref i1) (.ref Y)/\(∃ u v,IsPair h TO u v)/\h.IsTupleIter i1 a i/\h.IsTupleIter Y b i) where
 mem:=by simp
 obj:=λ i h st c B=>by
  obtain ⟨hz,J,⟨u,v,O⟩,⟨o1,e1,_,d1⟩,⟨o2,e2,_,d2⟩⟩:=st;simp only [z2v,z24,or_false] at B;rcases B with rfl | rfl | rfl | rfl | rfl
  ·exact ⟨_,hz,λ _ q=>by cases q⟩
  ·exact ⟨_,J,λ _ q=>by cases q⟩
  ·exact ⟨_,O,λ _ q=>by cases q⟩
  ·exact ⟨_,e1,λ _ q=>by rw [d1] at q;cases q⟩
  ·exact ⟨_,e2,λ _ q=>by rw [d2] at q;cases q⟩
 keep:=λ i h h' st k=>by
  obtain ⟨hz,J,⟨u,v,O⟩,h1,h2⟩:=st;exact ⟨k z (by simp) _ hz,k TI (by simp) _ J,⟨u,v,k TO (by simp) _ O⟩,h1.at λ o e=>k i1 (by simp) o e,h2.at λ o e=>k Y (by simp) o e⟩
 item:=by
  intro X hP hw hK B i pins s σ H E I hf st hg;subst hP hw hK;obtain ⟨xs,ys,x,y,a0,a6,hx,hy⟩:=hg;obtain ⟨its,ra,pa,_⟩:=I.tuple a0;obtain ⟨Z,rb,pb,_⟩:=I.tuple a6;obtain ⟨u,hu,ru⟩:=ra.get hx;obtain ⟨v,hv,rv⟩:=rb.get hy;obtain ⟨hz,J,⟨u0,v0,O⟩,h1,h2⟩:=st;have b3:i < its.toArray.size:=by
   have:=(z06.mp hu).1
   simpa using this
  have b4:i < Z.toArray.size:=by
   have:=(z06.mp hv).1
   simpa using this
  refine q8z (I.ok.hd B) D (λ A hA=>q3m hA i1 a ha its.toArray) (λ A hA=>q3m hA Y b hb Z.toArray) hz J O ⟨h1,pa⟩ ⟨h2,pb⟩ b3 b4 λ u' v' h' tk e1 e2 b5 a7 b7 b8 hT hsz hk=> ?_;have a8:u'=u:=by simpa [hu] using e1.symm
  have a9:v'=v:=by simpa [hv] using e2.symm
  subst a8 a9;refine ⟨_,zr,wpAny_letOwnedTupleGo_zip b5 λ h2 b6 U=> ?_⟩;have b9:z < s.heap.objs.size:=z32 hz;have b0:IsPair h2 s.heap.objs.size u' v':=U.extBut _ _ (z35 b9) hT;have I2:Inv X pins σ (upd H s.heap.objs.size (.tup [x,y])) {s with heap:=h2,toks:=tk}:=by
   refine q6i (s:=s) (fp:=[z,TI,TO,i1,Y]) I hf (λ c o B e=> ?_) (z3b _) ?_
   ·simp only [z2v,z24,or_false,not_or] at B;exact U.extBut _ _ B.1 (hk c o B.1 B.2.2.1 B.2.2.2.1 B.2.2.2.2 e)
   ·exact ⟨by show 2<=sizeLine;decide,[u',v'],.cons ru (.cons rv .nil),_,b0,rfl,_,rfl⟩
  refine ⟨.ref s.heap.objs.size,upd H s.heap.objs.size (.tup [x,y]),I2,zr,⟨_,x,y,zr,I.fresh,zr,λ xs' ys' q1 q2=> ?_⟩,⟨b6,?_,⟨_,_,U.extBut _ _ D.TOz a7⟩,b7.1.extBut U.extBut D.i1z,b8.1.extBut U.extBut D.i2z⟩,λ c B=> ?_⟩
  ·rw [I.q69 q1 a0,I.q69 q2 a6];exact ⟨hx,hy⟩
  ·exact U.extBut _ _ D.TIz (hk _ _ D.TIz D.TITO D.TIi1 D.TIi2 J)
  ·rw [qg]
   ·exact (hf c B).1
   ·simp only [z2v,z24,or_false] at B;obtain ⟨o1,g1,_⟩:=h1;obtain ⟨o2,g2,_⟩:=‹s.heap.IsTupleIter Y b i›;rcases B with rfl | rfl | rfl | rfl | rfl
    ·exact z33 (z32 hz)
    ·exact z33 (z32 J)
    ·exact z33 (z32 O)
    ·exact z33 (z32 g1)
    ·exact z33 (z32 g2)
 done:=by
  intro X hP hw hK B i pins s σ H E I hf st hg;subst hP hw hK;obtain ⟨xs,ys,a0,a6,hi⟩:=hg;obtain ⟨its,ra,pa,_⟩:=I.tuple a0;obtain ⟨Z,rb,pb,_⟩:=I.tuple a6;obtain ⟨hz,J,⟨u0,v0,O⟩,h1,h2⟩:=st;have l1:its.toArray.size=xs.length:=by rw [z1k];exact ra.length.symm
  have l2:Z.toArray.size=ys.length:=by rw [z1k];exact rb.length.symm
  refine q6e (I.ok.hd B) D (λ A hA=>q3m hA i1 a ha its.toArray) (λ A hA=>q3m hA Y b hb Z.toArray) hz J O ⟨h1,pa⟩ ⟨h2,pb⟩ ?_ λ h' tk hk=>⟨zr,q6h I hf λ c o B e=> ?_⟩
  ·rw [l1,l2];omega
  ·simp only [z2v,z24,or_false,not_or] at B;exact hk c o B.1 B.2.2.1 B.2.2.2.1 B.2.2.2.2 e
 self:=λ _ _ _ _ _ st h=>wpAny_pyIter_zip st.1 h
abbrev zpH1 (h:Heap) (l1:Addr):Heap:=h.push {cls:= .type "tuple_iterator",data:= .fields #[.ref l1,.int 0 0]}
abbrev zpH2 (h:Heap) (l1 l2:Addr):Heap:=(zpH1 h l1).push {cls:= .type "tuple_iterator",data:= .fields #[.ref l2,.int 0 0]}
abbrev zpH3 (h:Heap) (l1 l2:Addr):Heap:=(zpH2 h l1 l2).push {cls:= .type "tuple",data:= .seq #[.ref h.objs.size,.ref (zpH1 h l1).objs.size]}
abbrev zpH4 (h:Heap) (l1 l2:Addr):Heap:=(zpH3 h l1 l2).push {cls:= .type "tuple",data:= .seq #[.none,.none]}
abbrev zpH5 (h:Heap) (l1 l2:Addr):Heap:=(zpH4 h l1 l2).push {cls:= .type "zip",data:= .fields #[.none,.bool false,.bool false,.ref (zpH2 h l1 l2).objs.size,.ref (zpH3 h l1 l2).objs.size]}
theorem qg9 (l1 l2:Addr) (xs ys:Array Value):
  Meets (Builtin.«zip.__new__» ⟨[.type "zip",.ref l1,.ref l2],[]⟩) (λ _ R s=>s.heap.IsTuple l1 xs/\s.heap.IsTuple l2 ys/\
   R (.ok (.ret (.ref (zpH4 s.heap l1 l2).objs.size))) {s with heap:=zpH5 s.heap l1 l2}):=
 .of_wp λ prog w A R s h=>by
  obtain ⟨hp,g,d,tk,os⟩:=s;obtain ⟨J,O,h⟩:=h;have U:=sub_zip;have B:Heap.IsTuple (Shared.heap ⟨hp,g,d,tk,os⟩) l1 xs:=J;have D:Heap.IsTuple (Shared.heap ⟨hp.push {cls:= .type "tuple_iterator",data:= .fields #[.ref l1,.int 0 0]},g,d,tk,os⟩) l2 ys:=Heap.IsTuple.push O _
  wp_walk using wpAny_pyIter_tuple B,wpAny_pyIter_tuple D
  exact ⟨_,zr,h⟩
section
variable {prog:Program} {w:World} {A:Around} {E:Value ->Shared ->Prop} {s:Shared}
theorem qhn {l1 l2:Addr} {xs ys:Array Value} {Q:Value ->Shared ->Prop} (D:s.heap.IsTuple l1 xs) (J:s.heap.IsTuple l2 ys)
  (h:∀ h',IsZip h' (s.heap.objs.size+4) (s.heap.objs.size+2) (s.heap.objs.size+3) .none ->IsPair h' (s.heap.objs.size+2) (.ref s.heap.objs.size) (.ref (s.heap.objs.size+1)) ->
   IsPair h' (s.heap.objs.size+3) .none .none ->h'.IsTupleIter s.heap.objs.size l1 0 ->h'.IsTupleIter (s.heap.objs.size+1) l2 0 ->h'.objs.size=s.heap.objs.size+5 ->
   (∀ c o,s.heap.get? c=some o ->h'.get? c=some o) ->Q (.ref (s.heap.objs.size+4)) {s with heap:=h'}):
  wpAny (model prog w) A (call (.type "zip") [.ref l1,.ref l2]) Q E s:=by
 refine callType_new F.called_zip (by decide) (F.typeCall_zip_2 _ _) (F.newCall_zip_2 _ _) (λ obj=>F.args_object_init_3 obj _ _) F.entry_zip_new
  (qg9 l1 l2 xs ys) ⟨D,J,?_⟩
 have z1:(zpH1 s.heap l1).objs.size=s.heap.objs.size+1:=z2p ..;have z2:(zpH2 s.heap l1 l2).objs.size=s.heap.objs.size+2:=by rw [z2p,z1]
 have O:(zpH3 s.heap l1 l2).objs.size=s.heap.objs.size+3:=by rw [z2p,z2]
 have U:(zpH4 s.heap l1 l2).objs.size=s.heap.objs.size+4:=by rw [z2p,O]
 have z5:(zpH5 s.heap l1 l2).objs.size=s.heap.objs.size+5:=by rw [z2p,U]
 have B:(zpH5 s.heap l1 l2).get? (zpH4 s.heap l1 l2).objs.size=some _:=z0y _ rfl;have g4:(zpH5 s.heap l1 l2).get? (zpH3 s.heap l1 l2).objs.size=some _:=z0i _ (z0y _ rfl);have Z:(zpH5 s.heap l1 l2).get? (zpH2 s.heap l1 l2).objs.size=some _:=z0i _ (z0i _ (z0y _ rfl));have Y:(zpH5 s.heap l1 l2).get? (zpH1 s.heap l1).objs.size=some _:=z0i _ (z0i _ (z0i _ (z0y _ rfl)));have g1:(zpH5 s.heap l1 l2).get? s.heap.objs.size=some _:=z0i _ (z0i _ (z0i _ (z0i _ (z0y _ rfl))));show _/\_;rw [z2,O,U] at B;rw [z1,z2] at Z;rw [O] at g4;rw [z1] at Y;rw [U];exact ⟨⟨_,B,zr⟩,h _ B Z g4 ⟨_,g1,zr,zr⟩ ⟨_,Y,zr,zr⟩ z5 λ c o x=>
  z0i _ (z0i _ (z0i _ (z0i _ (z0i _ x))))⟩
end
theorem qm7 {n a b:Addr} (h1:a < n) (h2:b < n):ZAp (n+4) (n+2) (n+3) n (n+1) [n,a] [n+1,b]:=by
 have D:=PyProof.Rows.zipApart_new (n:=n) (l1:=a) (l2:=b) h1 h2;have no:∀ {x y z:Addr},y≠x ->z≠x ->x∉ [y,z]:=λ {x y z} p q h=>by
  simp only [z2v,z24,or_false] at h;rcases h with h | h
  ·exact p h.symm
  ·exact q h.symm
 exact ⟨D.TIz,D.TOz,D.i1z,D.i2z,D.TITO,D.TIi1,D.TIi2,D.TOi1,D.TOi2,D.i12,no D.i1z D.l1z,no D.TOi1.symm D.l1TO,no D.i12 D.l1i2,no D.i2z D.l2z,no D.TOi2.symm D.l2TO,no D.i12.symm D.l2i1⟩
section
variable {X:Cx} {elts:List Expr} {pt:Pos}
def iZip (K:PySem.W.Frag) (ta:TA):TI:=λ σ H R=>ta σ H λ vs H1=>∃ a b,vs=[.ref a,.ref b]/\(∃ xs,SqT K H1 a xs)/\(∃ ys,SqT K H1 b ys)/\R (Itz K a b) H1
theorem qho (K:PySem.W.Frag) {kk} {a b:Expr} {ta:TA} {p pos:Pos} (hg:Gl X "zip") (hm:X.mg "zip"=none) (ha:PA X [a,b] ta) (hs:starEach [a,b] X.env=[(false,eval a X.env),(false,eval b X.env)]:=by rfl) (B:starEach [b] X.env=[(false,eval b X.env)]:=by rfl) (hK:X.K=K:=by rfl):
  PI X (.Tuple elts kk pt) (.Call (.Name "zip" p) [a,b] [] pos) (iZip K ta):=by
 subst hK;intro pins s σ H R I h;refine Call_ (q5m I hg hm qhb (z02 (thn (ha pos pins s σ H _ I h) λ us s1 U=> ?_) (by rw [hs,B]) (by rw [B];rfl)));obtain ⟨vs,H1,I1,r1,q1⟩:=U;obtain ⟨x,y,e,⟨xs,hx⟩,⟨ys,hy⟩,q⟩:=q1;subst e;cases r1 with
 | cons r O=>
  cases O with
  | cons r' O=>
   cases O
   cases r
   cases r'
   obtain ⟨its,ra,pa,_⟩:=I1.tuple hx;obtain ⟨jts,rb,pb,_⟩:=I1.tuple hy;have la:x < s1.heap.objs.size:=by obtain ⟨_,e,_⟩:=id pa;exact z32 e
   have Z:y < s1.heap.objs.size:=by obtain ⟨_,e,_⟩:=id pb;exact z32 e
   refine qhn pa pb λ h' hz D J g1 g2 hsz hk=>wpAny_pyIter_zip hz ?_;refine ⟨_,_,_,_,H1,zr,I1.kept (t':=s1.toks) hk,qjp (s1.heap.objs.size+4) (s1.heap.objs.size+2) (s1.heap.objs.size+3) s1.heap.objs.size (s1.heap.objs.size+1) x y (qm7 la Z) (z33 la) (z33 (z1t Z)),⟨hz,D,⟨_,_,J⟩,g1,g2⟩,λ c Y=> ?_,q⟩;have le:s1.heap.objs.size<=c:=by
    simp only [z2v,z24,or_false] at Y;rcases Y with rfl | rfl | rfl | rfl | rfl
    ·exact Nat.le_add_right _ 4
    ·exact Nat.le_add_right _ 2
    ·exact Nat.le_add_right _ 3
    ·exact z3b _
    ·exact Nat.le_add_right _ 1
   exact I1.fpOk le (I1.hok.fresh le)
end
theorem qf7 {K:PySem.W.Frag} {a b:Addr} {xs ys:List V} {g:TG} {tb:TS} {D:Ends} {σ:St} {H:Hp} (Pv:Nat ->St ->Hp ->Prop) (h0:Pv 0 σ H) (hl:∀ i σ H,i<=min xs.length ys.length ->Pv i σ H ->SqT K H a xs/\SqT K H b ys)
  (hs:∀ i x y p σ H,xs[i]? =some x ->ys[i]? =some y ->H p=none ->Pv i σ H ->g (.ref p) σ (upd H p (.tup [x,y])) λ σ2 H2=>tb {D with nx:=Pv (i+1),ct:=Pv (i+1),bk:=D.nx} σ2 H2) (he:∀ σ H,Pv (min xs.length ys.length) σ H ->D.nx σ H):
  ∃ W:Nat ->Nat ->St ->Hp ->Prop,(∃ m,W 0 m σ H)/\∀ i m σ H,W i m σ H ->((Itz K a b).stop i H/\D.nx σ H)\/ ((Itz K a b).go i H/\∃ N:St ->Hp ->Prop,(∀ σ' H',N σ' H' ->∃ B,B < m/\W (i+1) B σ' H')/\∀ x H',(Itz K a b).yld i H x H' ->g x σ H' λ σ2 H2=>tb {D with nx:=N,ct:=N,bk:=D.nx} σ2 H2):=by
 refine q9v (min xs.length ys.length) Pv h0 (λ i σ H hi p=> ?_) (λ σ H p=>⟨⟨xs,ys,(hl _ σ H (z3b _) p).1,(hl _ σ H (z3b _) p).2,zr⟩,he σ H p⟩) λ i σ H hi p x H' y=> ?_
 ·obtain ⟨q1,q2⟩:=hl i σ H (z31 hi) p;have l1:i < xs.length:=by omega
  have l2:i < ys.length:=by omega
  exact ⟨xs,ys,xs[i],ys[i],q1,q2,z09 l1,z09 l2⟩
 ·obtain ⟨q1,q2⟩:=hl i σ H (z31 hi) p;obtain ⟨c,x',y',rfl,hc,rfl,hq⟩:=y;obtain ⟨e1,e2⟩:=hq xs ys q1 q2;exact hs i x' y' c σ H e1 e2 hc p
section
variable {X:Cx}
end
section
variable {X:Cx} {k k':Nat} {ι:Type} {cls:ι ->Addr} {ps:List Str} {sp:ι ->Sp} {x m:Str} {p pos apos:Pos} {e o:Expr} {es:List Expr} {ta:TE} {t:TA}
end
section
open PySem.AutoSeq1
end
section
variable {X:Cx}
end
def Asc (z:Str):Prop:=∀ c∈z.cps.toList,c < 128
def Itx (a b:Str):It:=
  ⟨λ i H=>∃ x y,a.cps[i]? =some x/\b.cps[i]? =some y,
   λ i H v H'=>∃ p x y,v= .ref p/\H p=none/\H'=upd H p (.tup [.str ⟨#[x]⟩,.str ⟨#[y]⟩])/\a.cps[i]? =some x/\b.cps[i]? =some y,
   λ i H=>i=min a.length b.length⟩
theorem qhp {P:Program} {w:World} {K:PySem.W.Frag} {elts:List Expr} {kk} {pos:Pos} (z TI TO Z Y:Addr) (a b:Str) (ta tb:Tok) (D:ZAp z TI TO Z Y [Z] [Y]):
  Turn P w K (.Tuple elts kk pos) (Itx a b) [z,TI,TO,Z,Y] z
   (λ i h=>IsZip h z TI TO .none/\IsPair h TI (.ref Z) (.ref Y)/\(∃ u v,IsPair h TO u v)/\h.IsStrIter Z "str_ascii_iterator" a ta i/\h.IsStrIter Y "str_ascii_iterator" b tb i) where
 mem:=by simp
 obj:=λ i h st c B=>by
  obtain ⟨hz,J,⟨u,v,O⟩,⟨o1,e1,_,d1⟩,⟨o2,e2,_,d2⟩⟩:=st;simp only [z2v,z24,or_false] at B;rcases B with rfl | rfl | rfl | rfl | rfl
  ·exact ⟨_,hz,λ _ q=>by cases q⟩
  ·exact ⟨_,J,λ _ q=>by cases q⟩
  ·exact ⟨_,O,λ _ q=>by cases q⟩
  ·exact ⟨_,e1,λ _ q=>by rw [d1] at q;cases q⟩
  ·exact ⟨_,e2,λ _ q=>by rw [d2] at q;cases q⟩
 keep:=λ i h h' st k=>by
  obtain ⟨hz,J,⟨u,v,O⟩,⟨o1,e1,c1,d1⟩,⟨o2,e2,c2,d2⟩⟩:=st;exact ⟨k z (by simp) _ hz,k TI (by simp) _ J,⟨u,v,k TO (by simp) _ O⟩,⟨o1,k Z (by simp) _ e1,c1,d1⟩,⟨o2,k Y (by simp) _ e2,c2,d2⟩⟩
 item:=by
  intro X hP hw hK B i pins s σ H E I hf st hg;subst hP hw hK;obtain ⟨x,y,hx,hy⟩:=hg;obtain ⟨hz,J,⟨u0,v0,O⟩,h1,h2⟩:=st;have a7:i < a.cps.size:=(Array.getElem?_eq_some_iff.mp hx).1;have a8:i < b.cps.size:=(Array.getElem?_eq_some_iff.mp hy).1;refine q8z (I.ok.hd B) D (λ A hA=>Draws.strAscii hA Z a ta) (λ A hA=>Draws.strAscii hA Y b tb) hz J O h1 h2 a7 a8 λ u' v' h' tk e1 e2 a9 a0 b3 b4 hT hsz hk=> ?_;obtain ⟨c1,t1,g1,rfl⟩:=e1;obtain ⟨c2,t2,g2,rfl⟩:=e2;rw [hx] at g1;rw [hy] at g2;cases g1
  cases g2
  refine ⟨_,zr,wpAny_letOwnedTupleGo_zip a9 λ h2 b0 U=> ?_⟩;have b5:z < s.heap.objs.size:=z32 hz;have a6:IsPair h2 s.heap.objs.size (.str ⟨#[x]⟩ t1) (.str ⟨#[y]⟩ t2):=U.extBut _ _ (z35 b5) hT;have I2:Inv X pins σ (upd H s.heap.objs.size (.tup [.str ⟨#[x]⟩,.str ⟨#[y]⟩])) {s with heap:=h2,toks:=tk}:=by
   refine q6i (s:=s) (fp:=[z,TI,TO,Z,Y]) I hf (λ c o B e=> ?_) (z3b _) ?_
   ·simp only [z2v,z24,or_false,not_or] at B;exact U.extBut _ _ B.1 (hk c o B.1 B.2.2.1 B.2.2.2.1 B.2.2.2.2 e)
   ·exact ⟨by show 2<=sizeLine;decide,_,.cons ⟨t1,rfl⟩ (.cons ⟨t2,rfl⟩ .nil),_,a6,rfl,_,rfl⟩
  refine ⟨.ref s.heap.objs.size,upd H s.heap.objs.size (.tup [.str ⟨#[x]⟩,.str ⟨#[y]⟩]),I2,zr,⟨_,x,y,zr,I.fresh,zr,hx,hy⟩,⟨b0,?_,⟨_,_,U.extBut _ _ D.TOz a0⟩,?_,?_⟩,λ c B=> ?_⟩
  ·exact U.extBut _ _ D.TIz (hk _ _ D.TIz D.TITO D.TIi1 D.TIi2 J)
  ·obtain ⟨o,q1,q2,q3⟩:=b3;exact ⟨o,U.extBut _ _ D.i1z q1,q2,q3⟩
  ·obtain ⟨o,q1,q2,q3⟩:=b4;exact ⟨o,U.extBut _ _ D.i2z q1,q2,q3⟩
  ·rw [qg]
   ·exact (hf c B).1
   ·simp only [z2v,z24,or_false] at B;obtain ⟨o1,g1,_⟩:=h1;obtain ⟨o2,g2,_⟩:=‹s.heap.IsStrIter Y "str_ascii_iterator" b tb i›;rcases B with rfl | rfl | rfl | rfl | rfl
    ·exact z33 (z32 hz)
    ·exact z33 (z32 J)
    ·exact z33 (z32 O)
    ·exact z33 (z32 g1)
    ·exact z33 (z32 g2)
 done:=by
  intro X hP hw hK B i pins s σ H E I hf st hg;subst hP hw hK;obtain ⟨hz,J,⟨u0,v0,O⟩,h1,h2⟩:=st;refine q6e (I.ok.hd B) D (λ A hA=>Draws.strAscii hA Z a ta) (λ A hA=>Draws.strAscii hA Y b tb) hz J O h1 h2 ?_ λ h' tk hk=>⟨zr,q6h I hf λ c o B e=> ?_⟩
  ·have e1:a.length=a.cps.size:=rfl;have e2:b.length=b.cps.size:=rfl;have:i=min a.length b.length:=hg;omega
  ·simp only [z2v,z24,or_false,not_or] at B;exact hk c o B.1 B.2.2.1 B.2.2.2.1 B.2.2.2.2 e
 self:=λ _ _ _ _ _ st h=>wpAny_pyIter_zip st.1 h
abbrev zsH1 (h:Heap) (a:Str) (t:Tok):Heap:=h.push {cls:= .type "str_ascii_iterator",data:= .fields #[.str a t,.int 0 0]}
abbrev zsH2 (h:Heap) (a:Str) (t:Tok) (b:Str) (u:Tok):Heap:=(zsH1 h a t).push {cls:= .type "str_ascii_iterator",data:= .fields #[.str b u,.int 0 0]}
abbrev zsH3 (h:Heap) (a:Str) (t:Tok) (b:Str) (u:Tok):Heap:=(zsH2 h a t b u).push {cls:= .type "tuple",data:= .seq #[.ref h.objs.size,.ref (zsH1 h a t).objs.size]}
abbrev zsH4 (h:Heap) (a:Str) (t:Tok) (b:Str) (u:Tok):Heap:=(zsH3 h a t b u).push {cls:= .type "tuple",data:= .seq #[.none,.none]}
abbrev zsH5 (h:Heap) (a:Str) (t:Tok) (b:Str) (u:Tok):Heap:=(zsH4 h a t b u).push {cls:= .type "zip",data:= .fields #[.none,.bool false,.bool false,.ref (zsH2 h a t b u).objs.size,.ref (zsH3 h a t b u).objs.size]}
theorem qga (a:Str) (t:Tok) (b:Str) (u:Tok) (ha:(a.cps.all λ x=>decide (x < 128))=true) (hb:(b.cps.all λ x=>decide (x < 128))=true):
  Meets (Builtin.«zip.__new__» ⟨[.type "zip",.str a t,.str b u],[]⟩) (λ _ R s=>
   R (.ok (.ret (.ref (zsH4 s.heap a t b u).objs.size))) {s with heap:=zsH5 s.heap a t b u}):=
 .of_wp λ prog w A R s h=>by
  obtain ⟨hp,g,d,tk,os⟩:=s;have B:=sub_zip
  wp_walk using wpAny_pyIter_ascii ha,wpAny_pyIter_ascii hb
  exact ⟨_,zr,h⟩
section
variable {prog:Program} {w:World} {A:Around} {E:Value ->Shared ->Prop} {s:Shared}
theorem qhq {a b:Str} {t u:Tok} {Q:Value ->Shared ->Prop} (ha:(a.cps.all λ x=>decide (x < 128))=true) (hb:(b.cps.all λ x=>decide (x < 128))=true)
  (h:∀ h',IsZip h' (s.heap.objs.size+4) (s.heap.objs.size+2) (s.heap.objs.size+3) .none ->IsPair h' (s.heap.objs.size+2) (.ref s.heap.objs.size) (.ref (s.heap.objs.size+1)) ->
   IsPair h' (s.heap.objs.size+3) .none .none ->h'.IsStrIter s.heap.objs.size "str_ascii_iterator" a t 0 ->h'.IsStrIter (s.heap.objs.size+1) "str_ascii_iterator" b u 0 ->h'.objs.size=s.heap.objs.size+5 ->
   (∀ c o,s.heap.get? c=some o ->h'.get? c=some o) ->Q (.ref (s.heap.objs.size+4)) {s with heap:=h'}):
  wpAny (model prog w) A (call (.type "zip") [.str a t,.str b u]) Q E s:=by
 refine callType_new F.called_zip (by decide) (F.typeCall_zip_2 _ _) (F.newCall_zip_2 _ _) (λ obj=>F.args_object_init_3 obj _ _) F.entry_zip_new
  (qga a t b u ha hb) ?_
 have z1:(zsH1 s.heap a t).objs.size=s.heap.objs.size+1:=z2p ..;have z2:(zsH2 s.heap a t b u).objs.size=s.heap.objs.size+2:=by rw [z2p,z1]
 have D:(zsH3 s.heap a t b u).objs.size=s.heap.objs.size+3:=by rw [z2p,z2]
 have J:(zsH4 s.heap a t b u).objs.size=s.heap.objs.size+4:=by rw [z2p,D]
 have z5:(zsH5 s.heap a t b u).objs.size=s.heap.objs.size+5:=by rw [z2p,J]
 have B:(zsH5 s.heap a t b u).get? (zsH4 s.heap a t b u).objs.size=some _:=z0y _ rfl;have Y:(zsH5 s.heap a t b u).get? (zsH3 s.heap a t b u).objs.size=some _:=z0i _ (z0y _ rfl);have U:(zsH5 s.heap a t b u).get? (zsH2 s.heap a t b u).objs.size=some _:=z0i _ (z0i _ (z0y _ rfl));have O:(zsH5 s.heap a t b u).get? (zsH1 s.heap a t).objs.size=some _:=z0i _ (z0i _ (z0i _ (z0y _ rfl)));have g1:(zsH5 s.heap a t b u).get? s.heap.objs.size=some _:=z0i _ (z0i _ (z0i _ (z0i _ (z0y _ rfl))));show _/\_;rw [z2,D,J] at B;rw [z1,z2] at U;rw [D] at Y;rw [z1] at O;rw [J];exact ⟨⟨_,B,zr⟩,h _ B U Y ⟨_,g1,zr,zr⟩ ⟨_,O,zr,zr⟩ z5 λ c o x=>
  z0i _ (z0i _ (z0i _ (z0i _ (z0i _ x))))⟩
end
theorem qjq {n:Addr}:ZAp (n+4) (n+2) (n+3) n (n+1) [n] [n+1]:=by
 refine ⟨?_,?_,?_,?_,?_,?_,?_,?_,?_,?_,?_,?_,?_,?_,?_,?_⟩ <;> simp <;> omega
theorem Asc.all {z:Str} (h:Asc z):(z.cps.all λ x=>decide (x < 128))=true:=by
 rw [<- Array.all_toList,z21];exact λ c hc=>z2m (h c hc)
section
variable {X:Cx} {elts:List Expr} {pt:Pos}
def qp0 (ta:TA):TI:=λ σ H R=>ta σ H λ vs H1=>∃ a b:Str,vs=[.str a,.str b]/\Asc a/\Asc b/\R (Itx a b) H1
theorem qm8 {kk} {a b:Expr} {ta:TA} {p pos:Pos} (hg:Gl X "zip") (hm:X.mg "zip"=none) (ha:PA X [a,b] ta) (hs:starEach [a,b] X.env=[(false,eval a X.env),(false,eval b X.env)]:=by rfl) (B:starEach [b] X.env=[(false,eval b X.env)]:=by rfl):
  PI X (.Tuple elts kk pt) (.Call (.Name "zip" p) [a,b] [] pos) (qp0 ta):=by
 intro pins s σ H R I h;refine Call_ (q5m I hg hm qhb (z02 (thn (ha pos pins s σ H _ I h) λ us s1 U=> ?_) (by rw [hs,B]) (by rw [B];rfl)));obtain ⟨vs,H1,I1,r1,q1⟩:=U;obtain ⟨x,y,e,hx,hy,q⟩:=q1;subst e;cases r1 with
 | cons r O=>
  cases O with
  | cons r' O=>
   cases O
   obtain ⟨t,rfl⟩:=r;obtain ⟨u,rfl⟩:=r';refine qhq hx.all hy.all λ h' hz D J g1 g2 hsz hk=>wpAny_pyIter_zip hz ?_;refine ⟨_,_,_,_,H1,zr,I1.kept (t':=s1.toks) hk,qhp (s1.heap.objs.size+4) (s1.heap.objs.size+2) (s1.heap.objs.size+3) s1.heap.objs.size (s1.heap.objs.size+1) x y t u qjq,⟨hz,D,⟨_,_,J⟩,g1,g2⟩,λ c Y=> ?_,q⟩;have le:s1.heap.objs.size<=c:=by
    simp only [z2v,z24,or_false] at Y;rcases Y with rfl | rfl | rfl | rfl | rfl
    ·exact Nat.le_add_right _ 4
    ·exact Nat.le_add_right _ 2
    ·exact Nat.le_add_right _ 3
    ·exact z3b _
    ·exact Nat.le_add_right _ 1
   exact I1.fpOk le (I1.hok.fresh le)
end
theorem qjr {a b:Str} {g:TG} {tb:TS} {D:Ends} {σ:St} {H:Hp} (Pv:Nat ->St ->Hp ->Prop) (h0:Pv 0 σ H)
  (hs:∀ i x y p σ H,a.cps[i]? =some x ->b.cps[i]? =some y ->H p=none ->Pv i σ H ->g (.ref p) σ (upd H p (.tup [.str ⟨#[x]⟩,.str ⟨#[y]⟩])) λ σ2 H2=>tb {D with nx:=Pv (i+1),ct:=Pv (i+1),bk:=D.nx} σ2 H2) (he:∀ σ H,Pv (min a.length b.length) σ H ->D.nx σ H):
  ∃ W:Nat ->Nat ->St ->Hp ->Prop,(∃ m,W 0 m σ H)/\∀ i m σ H,W i m σ H ->((Itx a b).stop i H/\D.nx σ H)\/ ((Itx a b).go i H/\∃ N:St ->Hp ->Prop,(∀ σ' H',N σ' H' ->∃ B,B < m/\W (i+1) B σ' H')/\∀ x H',(Itx a b).yld i H x H' ->g x σ H' λ σ2 H2=>tb {D with nx:=N,ct:=N,bk:=D.nx} σ2 H2):=by
 refine q9v (min a.length b.length) Pv h0 (λ i σ H hi p=> ?_) (λ σ H p=>⟨zr,he σ H p⟩) λ i σ H hi p x H' y=> ?_
 ·have l1:i < a.cps.size:=z1a hi (Nat.min_le_left ..);have l2:i < b.cps.size:=z1a hi (Nat.min_le_right ..);exact ⟨a.cps[i],b.cps[i],z08 l1,z08 l2⟩
 ·obtain ⟨c,x',y',rfl,hc,rfl,e1,e2⟩:=y;exact hs i x' y' c σ H e1 e2 hc p
theorem Vals.split {xs:List V} {us:List Value} (h:Vals xs us):∀ k,Vals (xs.take k) (us.take k)/\Vals (xs.drop k) (us.drop k):=by
 induction h with
 | nil=>intro k;rw [List.take_nil,List.drop_nil,List.take_nil,List.drop_nil];exact ⟨.nil,.nil⟩
 | cons a b B=>
  intro k;cases k with
  | zero=>exact ⟨.nil,.cons a b⟩
  | succ k=>exact ⟨.cons a (B k).1,(B k).2⟩
section
variable {X:Cx}
def qm9:V ->List V ->Hp ->VK ->Prop:=λ x vs H Q=>∃ (l:Addr) (xs:List V) (y:V) (k:Int),x= .ref l/\vs=[.int k,y]/\H l=some (.lst xs)/\xs.length < sizeLine/\0<=k/\k<=xs.length/\Q .non (upd H l (.lst (xs.take k.toNat++y::xs.drop k.toNat)))
theorem qhr:MtM X "list.insert" qm9:=by
 intro pins s σ H x vs v us Q I rx rv h;obtain ⟨l,xs,y,k,rfl,rfl,J,hz,hk0,hk,q⟩:=h;cases rx
 obtain ⟨u,w,rfl,⟨t,rfl⟩,D⟩:=q9n rv;obtain ⟨z,its,n,r,hl,e⟩:=I.lstM J;have hsz:its.toArray.size<=sizeLine:=by rw [z1k,<- hl];exact z
 have B:Builtin.List.listFitsIndex k=true:=by
  have h3:xs.length < 9223372036854775808:=z1a hz (by decide);have h1:decide (-(2^63:Int)<=k)=true:=z2m (by omega);have h2:decide (k < (2^63:Int))=true:=z2m (by omega);unfold Builtin.List.listFitsIndex;rw [h1,h2];decide
 have sp:=r.split k.toNat;refine call_meets F.slot_list_insert ⟨_,e,zr⟩ F.entry_list_insert (F.args_list_insert_3 _ _ _) (PySem.AutoSeq1.list_insert_list_int_val_1 l _ n k t w (by simp [B]) hsz) ⟨e,?_⟩;refine ⟨.non,_,I.lset (its':=its.take k.toNat++w::its.drop k.toNat) J e ?_ (sp.1.append (.cons D sp.2)) ?_,zr,q⟩
 ·have h0:¬ k < 0:=by omega
  have hm:min k.toNat its.length=k.toNat:=by omega
  simp only [if_neg h0,z1k,hm]
  apply Array.ext'
  simp only [z0w,z1h,Array.toList_extract,z11];simp [List.extract_eq_drop_take,z0h]
 ·rw [z17,z1w,z1u,z1v];omega
end
end L2
namespace L2
open PySem PySem.Spec PyProof.Rows PySem.W
section
variable {prog:Program} {w:World} {A:Around} {E:Value ->Shared ->Prop} {s:Shared}
end
section
variable {X:Cx}
section
variable {pins:List (Addr×Obj)} {σ:St} {H:Hp} {s:Shared} {a kS:Addr} {vs ks:List Value} {rk:Value ->Int} {e e1:Nat} {P:PySem.Fin ->Shared ->Prop} {E:Value ->Shared ->Prop} {A:Around}
end
end
theorem q3c {α β:Type} {F:α ->β ->Prop}:∀ {l:List α} {k:List β} {i:Nat} {x:α},Paired F l k ->l[i]? =some x ->∃ y,k[i]? =some y/\F x y
 | _,_,0,x,.cons a b,h=>by
  cases h
  exact ⟨_,zr,a⟩
 | _,_,i+1,x,.cons a b,h=>by
  obtain ⟨d,e,r⟩:=q3c (i:=i) (x:=x) b (by simpa using h);exact ⟨d,by simpa using e,r⟩
theorem q3z {α β:Type} {F:α ->β ->Prop} {x:α} {y:β}:∀ {xs:List α} {ys:List β},Paired F xs ys ->F x y ->Paired F (xs++ [x]) (ys++ [y])
 | _,_,.nil,h=> .cons h .nil
 | _,_,.cons a b,h=> .cons a (q3z b h)
section
variable {X:Cx} {k k':Nat} {x p1:Str} {sp:Sp} {e:Expr} {t:TA} {p pos kpos xp:Pos}
end
end L2
namespace L2
open PySem PySem.Spec PyProof.Rows
section
variable {X:Cx}
def qp1 (K:PySem.W.Frag):R2:=λ x y H Q=>∃ d ds,Dat K H d x/\Dat K H (.list ds) y/\PyData.depthAll ds<=60/\Q (.bl (ds.any λ y=>PyData.eqv y d)) H
theorem q70 (hu:X.A.units+64 < cLine) (K:PySem.W.Frag) (hK:X.K=K:=by rfl):OpR X (compareOp .In) (qp1 K):=by
 subst hK;intro pins s σ H x y v u Q I rx ry h;obtain ⟨d,ds,hd,B,hz,q⟩:=h;obtain ⟨as,ra⟩:=Dat.reads I _ _ _ hd rx;obtain ⟨bs,rb⟩:=Dat.reads I _ _ _ B ry;exact SeqAt.in_list_reads rb ra (Dat.lay _ _ B) (Dat.lay _ _ hd) (by have:min (PyData.depthAll ds) d.depth<=PyData.depthAll ds:=Nat.min_le_left _ _;omega) (q13 I q rfl)
end
def Itn (K:PySem.W.Frag) (a:Addr):It:=
  ⟨λ i H=>∃ xs x,SqT K H a xs/\xs[i]? =some x,
   λ i H v H'=>∃ p x,v= .ref p/\H p=none/\H'=upd H p (.tup [.int (i:Nat),x])/\∀ xs,SqT K H a xs ->xs[i]? =some x,
   λ i H=>∃ xs,SqT K H a xs/\i=xs.length⟩
theorem qgb {P:Program} {w:World} {K:PySem.W.Frag} {elts:List Expr} {kk} {pos:Pos} (e it a:Addr) (O:e≠it) (a9:e≠a) (ha:a≠it):
  Turn P w K (.Tuple elts kk pos) (Itn K a) [e,it] e (λ i h=>(∃ old,IsEnum h e it (i:Nat) old)/\h.IsTupleIter it a i) where
 mem:=by simp
 obj:=λ i h st c B=>by
  obtain ⟨⟨old,D⟩,⟨o1,e1,_,d1⟩⟩:=st;simp only [z2v,z24,or_false] at B;rcases B with rfl | rfl
  ·exact ⟨_,D,λ _ q=>by cases q⟩
  ·exact ⟨_,e1,λ _ q=>by rw [d1] at q;cases q⟩
 keep:=λ i h h' st k=>by
  obtain ⟨⟨old,D⟩,h1⟩:=st;exact ⟨⟨old,k e (by simp) _ D⟩,h1.at λ o z=>k it (by simp) o z⟩
 item:=by
  intro X hP hw hK B i pins s σ H E I Y st hg;subst hP hw hK;obtain ⟨xs,x,J,hx⟩:=hg;obtain ⟨its,ra,pa,_⟩:=I.tuple J;obtain ⟨u,hu,ru⟩:=ra.get hx;obtain ⟨⟨old,D⟩,h1⟩:=st;have b0:i < its.toArray.size:=by
   have:=(z06.mp hu).1
   simpa using this
  refine wpAny_pyNext_enum_itemD (q3m (show X.A.in1.handled=none from I.ok.hd B) it a ha its.toArray) D ⟨h1,pa⟩ b0 O (by simp only [z2v,z24,or_false,not_or];exact ⟨O,a9⟩) λ Z h' tk e1 a7 b3 hT hsz hk=> ?_;have a0:Z=u:=by simpa [hu] using e1.symm
  subst a0;refine ⟨_,zr,wpAny_letOwnedTupleGo_enum a7 λ h2 a8 U=> ?_⟩;have elt:e < s.heap.objs.size:=z32 D;have a6:h2.get? s.heap.objs.size=some {cls:= .type "tuple",data:= .seq #[.int (i:Nat) tk,Z]}:=U.extBut _ _ (z35 elt) hT;have I2:Inv X pins σ (upd H s.heap.objs.size (.tup [.int (i:Nat),x])) {s with heap:=h2,toks:=tk+1}:=by
   refine q6i (s:=s) (fp:=[e,it]) I Y (λ c o B z=> ?_) (z3b _) ?_
   ·simp only [z2v,z24,or_false,not_or] at B;exact U.extBut _ _ B.1 (hk c o B.1 B.2 z)
   ·exact ⟨by show 2<=sizeLine;decide,[.int (i:Nat) tk,Z],.cons ⟨tk,rfl⟩ (.cons ru .nil),_,a6,rfl,_,rfl⟩
  refine ⟨.ref s.heap.objs.size,_,I2,zr,⟨_,x,zr,I.fresh,zr,λ xs' q1=> ?_⟩,⟨⟨Z,?_⟩,b3.1.extBut U.extBut (Ne.symm O)⟩,λ c B=> ?_⟩
  ·rw [I.q69 q1 J];exact hx
  ·have:(((i:Nat):Int)+1)=((i+1:Nat):Int):=by omega
   rw [<- this];exact a8
  ·rw [qg]
   ·exact (Y c B).1
   ·simp only [z2v,z24,or_false] at B;obtain ⟨o1,g1,_⟩:=h1;rcases B with rfl | rfl
    ·exact z33 elt
    ·exact z33 (z32 g1)
 done:=by
  intro X hP hw hK B i pins s σ H E I Y st hg;subst hP hw hK;obtain ⟨xs,J,hi⟩:=hg;obtain ⟨its,ra,pa,_⟩:=I.tuple J;obtain ⟨⟨old,D⟩,h1⟩:=st;have l1:its.toArray.size=xs.length:=by rw [z1k];exact ra.length.symm
  refine wpAny_pyNext_enum_endD (q3m (show X.A.in1.handled=none from I.ok.hd B) it a ha its.toArray) D ⟨by rw [l1,<- hi];exact h1,pa⟩ λ h' hk=>⟨rfl,q6h I Y λ c o B z=> ?_⟩;simp only [z2v,z24,or_false,not_or] at B;exact hk c o B.2 z
 self:=λ _ _ _ _ _ st h=>let ⟨⟨_,D⟩,_⟩:=st;wpAny_pyIter_enum D h
theorem qe4 (l:Addr) (B:Array Value):
  Meets (Builtin.«enumerate.__new__» ⟨[.type "enumerate",.ref l],[]⟩) (λ _ R s=>s.heap.IsTuple l B/\
   R (.ok (.ret (.ref (s.heap.push {cls:= .type "tuple_iterator",data:= .fields #[.ref l,.int 0 0]}).objs.size)))
    {s with heap:=(s.heap.push {cls:= .type "tuple_iterator",data:= .fields #[.ref l,.int 0 0]}).push {cls:= .type "enumerate",data:= .fields #[.none,.bool false,.ref s.heap.objs.size,rawInt 0,.none,.none]}}):=
 .of_wp λ prog w A R s h=>by
  obtain ⟨hp,g,d,tk,os⟩:=s;obtain ⟨hl,h⟩:=h;have J:=sub_enumerate;have D:Heap.IsTuple (Shared.heap ⟨hp,g,d,tk,os⟩) l B:=hl
  wp_walk using wpAny_pyIter_tuple D
  refine wpAny_stack_any λ st=>z3g ?_;split
  ·rename_i c _ _ _ _ _;cases (c==Value.type "enumerate")
   ·wp_walk using wpAny_pyIter_tuple D
    exact ⟨_,zr,h⟩
   ·wp_walk using wpAny_pyIter_tuple D
    exact ⟨_,zr,h⟩
  ·wp_walk using wpAny_pyIter_tuple D
   exact ⟨_,zr,h⟩
section
variable {prog:Program} {w:World} {A:Around} {E:Value ->Shared ->Prop} {s:Shared}
theorem qgc {l:Addr} {B:Array Value} {Q:Value ->Shared ->Prop} (hl:s.heap.IsTuple l B)
  (h:∀ h',IsEnum h' (s.heap.objs.size+1) s.heap.objs.size 0 .none ->h'.IsTupleIter s.heap.objs.size l 0 ->h'.objs.size=s.heap.objs.size+2 ->
   (∀ b o,s.heap.get? b=some o ->h'.get? b=some o) ->Q (.ref (s.heap.objs.size+1)) {s with heap:=h'}):
  wpAny (model prog w) A (call (.type "enumerate") [.ref l]) Q E s:=by
 refine callType_new F.called_enumerate (by decide) (F.typeCall_enumerate_1 _) (F.newCall_enumerate_1 _) (λ obj=>F.args_object_init_2 obj _) F.entry_enumerate_new
  (qe4 l B) ⟨hl,?_⟩
 have hz:(s.heap.push {cls:= .type "tuple_iterator",data:= .fields #[.ref l,.int 0 0]}).objs.size=s.heap.objs.size+1:=z2p ..;show _/\_;rw [hz];have D:IsEnum ((s.heap.push {cls:= .type "tuple_iterator",data:= .fields #[.ref l,.int 0 0]}).push
   {cls:= .type "enumerate",data:= .fields #[.none,.bool false,.ref s.heap.objs.size,rawInt 0,.none,.none]}) (s.heap.objs.size+1) s.heap.objs.size 0 .none:=by
  have:=z0y (s.heap.push {cls:= .type "tuple_iterator",data:= .fields #[.ref l,.int 0 0]})
   (o:={cls:= .type "enumerate",data:= .fields #[.none,.bool false,.ref s.heap.objs.size,rawInt 0,.none,.none]}) rfl
  rw [hz] at this;exact this
 refine ⟨⟨_,D,zr⟩,h _ D ⟨_,z0i _ (z0y _ rfl),zr,zr⟩ (by rw [z2p,hz]) λ b o x=>z0i _ (z0i _ x)⟩
end
theorem qcv:bootBuiltins "enumerate"=some (.type "enumerate"):=by decide+kernel
section
variable {X:Cx} {elts:List Expr} {pt:Pos}
def qnw (K:PySem.W.Frag) (ta:TA):TI:=λ σ H R=>ta σ H λ vs H1=>∃ a,vs=[.ref a]/\(∃ xs,SqT K H1 a xs)/\R (Itn K a) H1
theorem qjs (K:PySem.W.Frag) {kk} {a:Expr} {ta:TA} {p pos:Pos} (hg:Gl X "enumerate") (hm:X.mg "enumerate"=none) (ha:PA X [a] ta) (hs:starEach [a] X.env=[(false,eval a X.env)]:=by rfl) (hK:X.K=K:=by rfl):
  PI X (.Tuple elts kk pt) (.Call (.Name "enumerate" p) [a] [] pos) (qnw K ta):=by
 subst hK;intro pins s σ H R I h;refine Call_ (q5m I hg hm qcv (z02 (thn (ha pos pins s σ H _ I h) λ us s1 B=> ?_) hs rfl));obtain ⟨vs,H1,I1,r1,q1⟩:=B;obtain ⟨x,e,⟨xs,hx⟩,q⟩:=q1;subst e;cases r1 with
 | cons r rr=>
  cases rr
  cases r
  obtain ⟨its,ra,O,_⟩:=I1.tuple hx;have la:x < s1.heap.objs.size:=by obtain ⟨_,e,_⟩:=id O;exact z32 e
  refine qgc O λ h' J g1 hsz hk=>wpAny_pyIter_enum J ?_;refine ⟨_,_,_,_,H1,zr,I1.kept (t':=s1.toks) hk,qgb (s1.heap.objs.size+1) s1.heap.objs.size x (z35 (z1z _)) (z35 (z1t la)) (z33 la),⟨⟨_,J⟩,g1⟩,λ c D=> ?_,q⟩;have le:s1.heap.objs.size<=c:=by
   simp only [z2v,z24,or_false] at D;rcases D with rfl | rfl
   ·exact Nat.le_add_right _ 1
   ·exact z3b _
  exact I1.fpOk le (I1.hok.fresh le)
end
theorem qhs {K:PySem.W.Frag} {a:Addr} {xs:List V} {g:TG} {tb:TS} {D:Ends} {σ:St} {H:Hp} (Pv:Nat ->St ->Hp ->Prop) (h0:Pv 0 σ H) (hl:∀ i σ H,i<=xs.length ->Pv i σ H ->SqT K H a xs)
  (hs:∀ i x p σ H,xs[i]? =some x ->H p=none ->Pv i σ H ->g (.ref p) σ (upd H p (.tup [.int (i:Nat),x])) λ σ2 H2=>tb {D with nx:=Pv (i+1),ct:=Pv (i+1),bk:=D.nx} σ2 H2) (he:∀ σ H,Pv xs.length σ H ->D.nx σ H):
  ∃ W:Nat ->Nat ->St ->Hp ->Prop,(∃ m,W 0 m σ H)/\∀ i m σ H,W i m σ H ->((Itn K a).stop i H/\D.nx σ H)\/ ((Itn K a).go i H/\∃ N:St ->Hp ->Prop,(∀ σ' H',N σ' H' ->∃ B,B < m/\W (i+1) B σ' H')/\∀ x H',(Itn K a).yld i H x H' ->g x σ H' λ σ2 H2=>tb {D with nx:=N,ct:=N,bk:=D.nx} σ2 H2):=by
 refine q9v xs.length Pv h0 (λ i σ H hi p=> ?_) (λ σ H p=>⟨⟨xs,hl _ σ H (z3b _) p,zr⟩,he σ H p⟩) λ i σ H hi p x H' y=> ?_
 ·exact ⟨xs,xs[i],hl i σ H (z31 hi) p,z09 hi⟩
 ·obtain ⟨c,x',rfl,hc,rfl,hq⟩:=y;exact hs i x' c σ H (hq xs (hl i σ H (z31 hi) p)) hc p
section
variable {prog:Program} {w:World} {A:Around} {E:Value ->Shared ->Prop} {s:Shared}
end
section
variable {X:Cx} {elts:List Expr} {pt:Pos}
end
section
variable {X:Cx} {k k':Nat} {C:Addr} {ps:List Str} {sp:Sp} {x:Str} {p pos:Pos} {e:Expr} {es:List Expr} {t:TA}
theorem qnx (D:MDef X.prog X.w X.K X.mg X.base k C "__init__" ps sp) (hk:PySem.W.makesIn X.K C=true) (kp:PySem.W.keepIn X.K (.ref C)=true) (hr:Room k' X.A) (hg:Gl X x) (hm:X.mg x=some (.ref C)) (ha:PA X (e::es) t) (J:k+1<=k':=by decide)
  (B:(x==("__debug__":Str))=false:=by decide) (he:starEach (e::es) X.env=(false,eval e X.env)::starEach es X.env:=by rfl) (O:(backTo pos (starEach es X.env)).any (·.1)=false:=by rfl):PE X (.Call (.Name x p) (e::es) [] pos) (qks C sp [] E0 t):=by
 obtain ⟨f,fd,F,h1,h3⟩:=D.ex;exact qlc ⟨hk,h1.at_,h1.fn,kp⟩ F (hr.mono J) hg hm h3 .nil qfx ha B he O
end
end L2
namespace PySem
section
variable {prog:Program} {w:World} {K:Type} [DecidableEq K] {knd:HeapKind prog w K} {A:Around} {E:Value ->Shared ->Prop} {s:Shared} {d a:Addr} {k:K} {xs:List (K×Addr×Value)}
theorem qa2 {v:Value} {Q:Value ->Shared ->Prop} (hu:knd.room A) (hkey:knd.is s.heap k a) (hm:s.heap.DictOfH knd d xs)
  (h1:∀ p,atKey xs k=some p ->Q p.2 {s with toks:=s.toks+knd.draws k})
  (h2:atKey xs k=none ->∀ h',h'.DictOfH knd d (storedH xs k a v) ->Heap.SameBut d s.heap h' ->Q v {s with heap:=h',toks:=s.toks+knd.draws k})
  (hsz:xs.length<=sizeLine):
  wpAny (model prog w) A (dictSetDefault d (.ref a) v) Q E s:=by
 obtain ⟨o,es,ep,ho,hc,hd,U,J,hn⟩:=hm;unfold dictSetDefault
 try with_reducible refine z2w ?_
 refine z3h (knd.pyHash hu hkey ?_);refine z3h (wpAny_dictFind_heap (s:={s with toks:=s.toks+knd.draws k}) hu hkey ho hd U J hn ?_ ?_)
 ·intro B;have O:k∉xs.map (·.1):=not_mem_keys_of_get B;refine z3h (z3f (z3h (wpAny_updateDictKeys (hz:=by have e:=size_of_entries U;omega) (s:={s with toks:=s.toks+knd.draws k}) ho hd (z3g (h2 (atKey_none_of_get B) _ ⟨_,_,ep+1,z0p _ ho (Obj.isFreed_of_dict (Obj.data_mapDictKeys hd _)),
   hc.mapDictKeys _,Obj.data_mapDictKeys hd _,?_,?_,?_⟩ (z0x ..))))))
  ·rw [storedH_new (atKey_none_of_get B)];simp [U,entryOfKey]
  ·rw [storedH_new (atKey_none_of_get B)];intro x D;rcases z27.mp D with D | D
   ·exact knd.keeps (J x D) ho hd (z0x ..)
   ·simp only [z16] at D;subst D;exact knd.keeps hkey ho hd (z0x ..)
  ·rw [storedH_new (atKey_none_of_get B)];rw [z2h,z1s];refine ⟨hn,by simp,?_⟩;intro x D y hy;simp only [z2t,z37,z16] at hy;subst hy;exact λ e=>O (e ▸ D)
 ·intro j p Y;refine z3h (z1q (s:={s with toks:=s.toks+knd.draws k}) ho hd ?_);rw [entry_at U j,Y];exact z3h (z3f (z3g (h1 p (atKey_of_get hn Y))))
theorem q8p (knd:HeapKind prog w K) (d a:Addr) (hd:(d==sysModules)=false) (B:Value):
  MeetsIn prog w (Builtin.«dict.setdefault» ⟨[.ref d,.ref a,B],[]⟩) (λ A R s=>knd.room A.in1/\∃ k xs,knd.is s.heap k a/\s.heap.DictOfH knd d xs/\xs.length<=sizeLine/\
   (∀ p,atKey xs k=some p ->R (.ok (.ret p.2)) {s with toks:=s.toks+knd.draws k})/\
   (atKey xs k=none ->∀ h',h'.DictOfH knd d (storedH xs k a B) ->Heap.SameBut d s.heap h' ->R (.ok (.ret B)) {s with heap:=h',toks:=s.toks+knd.draws k})):=
 .of_wp λ A R s ⟨hu,k,xs,hkey,hm,hz,h1,h2⟩=>by
  unfold Builtin.«dict.setdefault»;refine z3h ?_;unfold Builtin.Dict.keyAndDefault;refine z3h (wpAny_notOrdered_dict hm.typeIs ?_);show wpAny _ _ (pure (d,Value.ref a,some B)) _ _ s;refine z3g ?_;show wpAny _ _ (if (d==sysModules)=true then _ else (dictSetDefault d (.ref a) B >>=_)) _ _ s;rw [if_neg (by rw [hd];exact z15)];exact z3h (qa2 hu hkey hm (λ p hp=>z3g ⟨p.2,zr,h1 p hp⟩) (λ hn h' D J=>z3g ⟨B,zr,h2 hn h' D J⟩) hz)
end
end PySem
namespace L2
open PySem PySem.Spec PyProof.Rows
section
variable {X:Cx} {pins:List (Addr×Obj)} {σ:St} {H:Hp} {s:Shared} {a b:Addr} {kvs:List (List Key×V)} {k:List Key} {z:V} {r:Value} {A:Around} {E:Value ->Shared ->Prop}
theorem qma {Q:Value ->Shared ->Prop} (hu:A.units+1 < cLine) (I:Inv X pins σ H s) (e:H a=some (.dT kvs)) (eb:H b=some (.tup (k.map kV))) (hl:kvs.length < sizeLine) (rz:RelV z r)
  (h1:∀ v U s',valV kvs k=some v ->Inv X pins σ H s' ->RelV v U ->Q U s') (h2:valV kvs k=none ->∀ s',Inv X pins σ (upd H a (.dT (putK kvs k z))) s' ->Q r s'):
  wpAny (model X.prog X.w) A (call (.builtin "dict.setdefault") [.ref a,.ref b,r]) Q E s:=by
 obtain ⟨zl,hd,xs,rel,J⟩:=qku I.hok e;have rv:=rel.val k;refine call_meetsIn PySem.F.slot_dict_setdefault J.typeIs PySem.F.entry_dict_setdefault (PySem.F.args_dict_setdefault_3 _ _ _) (q8p (tupleKind (q18 X.prog X.w)) a b hd r) ⟨tupleKind_room_in1 hu,k,xs,q5q I.hok eb,J,by rw [<- Paired.length rel];exact zl,λ p hp=> ?_,λ hn h' D hs=> ?_⟩
 ·rw [hp] at rv;cases B:valV kvs k with
  | none=>
   rw [B] at rv;exact rv.elim
  | some v=>
   rw [B] at rv;exact h1 v p.2 _ B (I.tok _) rv
 ·have hp:(putK kvs k z).length<=sizeLine:=by have:=q2a kvs k z;omega
  obtain ⟨q,es,ep,hq,g2,g3,g4,_,g5⟩:=D;refine h2 ?_ _ (q5i I (by rw [e];exact True.intro) hs ⟨q,hq⟩ ⟨hp,hd,_,(rel.put k eb rz).keeps λ c ys O=> ?_,q,es,ep,hq,g2,g3,g4,g5⟩)
  ·rw [hn] at rv;cases B:valV kvs k with
   | none=>rfl
   | some v=>
    rw [B] at rv;exact rv.elim
  ·rw [qg (qkm O e (λ z=>nomatch z))];exact O
end
def qmb (td ty tx:TE):TE:=λ σ H Q=>td σ H λ x H1=>∃ a,x= .ref a/\IsD H1 a/\ty σ H1 λ y H2=>tx σ H2 λ z H3=>∃ kvs k b,H3 a=some (.dT kvs)/\y= .ref b/\H3 b=some (.tup (k.map kV))/\kvs.length < sizeLine/\
 (∀ v,valV kvs k=some v ->Q v H3)/\(valV kvs k=none ->Q z (upd H3 a (.dT (putK kvs k z))))
section
variable {X:Cx} {o e f:Expr} {apos cpos:Pos} {td ty tx:TE}
theorem qht (hu:X.A.units+1 < cLine) (ho:PE X o td) (he:PE X e ty) (hf:PE X f tx) (m:M2 X o "setdefault" apos e f cpos):PE X (.Call (.Attribute o "setdefault" apos) [e,f] [] cpos) (qmb td ty tx):=by
 intro pins s σ H Q I h;refine wpAny_Call_method m.base m.few m.line PySem.F.plainAttrs_dict PySem.F.slot_dict_setdefault PySem.F.type_dict_setdefault (thn (ho pins s σ H _ I h) λ u s1 D=> ?_);obtain ⟨x,H1,I1,rx,a,ex,d,q1⟩:=D;subst ex;obtain rfl:u=Value.ref a:=rx;obtain ⟨t1,t2,_⟩:=q9s I1 d;refine ⟨t1,t2,?_⟩;rw [m.trees];refine Calls.callWith_builtin rfl (Calls.evalArgs_plain (Calls.spliced_cons (thn (he pins s1 σ H1 _ I1 q1) λ iv s2 ⟨y,H2,I2,ry,q2⟩=>
  Calls.spliced_cons (thn (hf pins s2 σ H2 _ I2 q2) λ fv s3 ⟨z,H3,I3,rz,kvs,k,b,eH,ey,eb,hl,q3,q4⟩=>Calls.spliced_nil ?_))))
 subst ey;obtain rfl:iv=Value.ref b:=ry;exact qma hu I3 eH eb hl rz (λ v w' s4 ev I4 B=>⟨_,H3,I4,B,q3 v ev⟩) λ en s4 I4=>⟨z,_,I4,rz,q4 en⟩
end
end L2
namespace L2
open PySem PySem.Spec PyProof.Rows PySem.W
section
variable {X:Cx} {tg:Expr}
end
end L2
open PySem PySem.W PyProof.Rows
namespace L2
theorem us0 {p:List Value ->Prop} (h:p []):∀ us:List Value,us.length=0 ->p us:=λ _ e=>(z0f.mp e).symm ▸ h
theorem us1 {p:List Value ->Prop} (h:∀ a:Value,p [a]):∀ us:List Value,us.length=1 ->p us
 | [],e=>absurd e (by decide)
 | a::t,e=>us0 (p:=λ us=>p (a::us)) (h a) t (Nat.succ.inj e)
theorem us2 {p:List Value ->Prop} (h:∀ a b:Value,p [a,b]):∀ us:List Value,us.length=2 ->p us
 | [],e=>absurd e (by decide)
 | a::t,e=>us1 (p:=λ us=>p (a::us)) (h a) t (Nat.succ.inj e)
theorem us3 {p:List Value ->Prop} (h:∀ a b c:Value,p [a,b,c]):∀ us:List Value,us.length=3 ->p us
 | [],e=>absurd e (by decide)
 | a::t,e=>us2 (p:=λ us=>p (a::us)) (h a) t (Nat.succ.inj e)
theorem us4 {p:List Value ->Prop} (h:∀ a b c d:Value,p [a,b,c,d]):∀ us:List Value,us.length=4 ->p us
 | [],e=>absurd e (by decide)
 | a::t,e=>us3 (p:=λ us=>p (a::us)) (h a) t (Nat.succ.inj e)
theorem us5 {p:List Value ->Prop} (h:∀ a b c d e:Value,p [a,b,c,d,e]):∀ us:List Value,us.length=5 ->p us
 | [],e=>absurd e (by decide)
 | a::t,e=>us4 (p:=λ us=>p (a::us)) (h a) t (Nat.succ.inj e)
theorem us6 {p:List Value ->Prop} (h:∀ a b c d e f:Value,p [a,b,c,d,e,f]):∀ us:List Value,us.length=6 ->p us
 | [],e=>absurd e (by decide)
 | a::t,e=>us5 (p:=λ us=>p (a::us)) (h a) t (Nat.succ.inj e)
structure FiK (K:PySem.W.Frag) (x:Str) (st:Stmt):Prop where
 ex:∃ (f:Addr) (oc:Value) (od an:Option Addr) (osl:Array (Option Value)) (kV doc pm cdv ct:Value),PySem.W.nsIn K mainGlobals x=some (some (.ref f))/\
  K.lookup f=some ⟨oc,od,.func (PySem.W.fnOf x x (q2o st) (q1z st) (qf st) .none kV doc pm an cdv ct),osl⟩/\PySem.W.codeIn K cdv x=true/\PySem.W.keepIn K (.ref f)=true
theorem fiK {K:PySem.W.Frag} {x:Str} {st:Stmt} {f:Addr} {O:Value} {U J:Option Addr} {D:Array (Option Value)} {kV B Y cdv ct:Value} (a:PySem.W.nsIn K mainGlobals x=some (some (.ref f)))
  (l:K.lookup f=some ⟨O,U,.func (PySem.W.fnOf x x (q2o st) (q1z st) (qf st) .none kV B Y J cdv ct),D⟩) (c:PySem.W.codeIn K cdv x=true) (k:PySem.W.keepIn K (.ref f)=true):FiK K x st:=
 ⟨f,O,U,J,D,kV,B,Y,cdv,ct,a,l,c,k⟩
theorem FiK.top {K:PySem.W.Frag} {h:Heap} {mg:Str ->Option Value} {x:Str} {st:Stmt} {ps:List Str} (F:FiK K x st) (X:K.In h) (G:h.Ns mainGlobals mg)
  (b:∀ (kV B J:Value) (D:Option Addr) (cdv ct:Value) (us:List Value),us.length=ps.length ->bindArgs (PySem.W.fnOf x x (q2o st) (q1z st) (qf st) .none kV B J D cdv ct) ⟨us,[]⟩=pure (ps.zip us)):Top K mg x st ps:=by
 obtain ⟨f,oc,od,D,osl,kV,B,J,cdv,ct,a,l,c,k⟩:=F.ex;exact qnl X G b a l c k
structure MiK (K:PySem.W.Frag) (x m qual:Str) (st:Stmt):Prop where
 ex:∃ (C f:Addr) (oc:Value) (od an:Option Addr) (osl:Array (Option Value)) (kV doc pm cdv ct:Value),PySem.W.nsIn K mainGlobals x=some (some (.ref C))/\PySem.W.findIn K (.ref C) m=some (some (.ref f))/\PySem.W.isFn K (.ref f)=true/\
  K.lookup f=some ⟨oc,od,.func (PySem.W.fnOf m qual (q2o st) (q1z st) (qf st) .none kV doc pm an cdv ct),osl⟩/\PySem.W.codeIn K cdv qual=true/\PySem.W.keepIn K (.ref f)=true
theorem miK {K:PySem.W.Frag} {x m qual:Str} {st:Stmt} {C f:Addr} {O:Value} {U J:Option Addr} {D:Array (Option Value)} {kV B Y cdv ct:Value} (n:PySem.W.nsIn K mainGlobals x=some (some (.ref C)))
  (a:PySem.W.findIn K (.ref C) m=some (some (.ref f))) (i:PySem.W.isFn K (.ref f)=true)
  (l:K.lookup f=some ⟨O,U,.func (PySem.W.fnOf m qual (q2o st) (q1z st) (qf st) .none kV B Y J cdv ct),D⟩) (c:PySem.W.codeIn K cdv qual=true) (k:PySem.W.keepIn K (.ref f)=true):MiK K x m qual st:=
 ⟨C,f,O,U,J,D,kV,B,Y,cdv,ct,n,a,i,l,c,k⟩
theorem MiK.top {K:PySem.W.Frag} {h:Heap} {mg:Str ->Option Value} {x m qual:Str} {st:Stmt} {ps:List Str} (F:MiK K x m qual st) (X:K.In h) (G:h.Ns mainGlobals mg)
  (b:∀ (kV B J:Value) (D:Option Addr) (cdv ct:Value) (us:List Value),us.length=ps.length ->bindArgs (PySem.W.fnOf m qual (q2o st) (q1z st) (qf st) .none kV B J D cdv ct) ⟨us,[]⟩=pure (ps.zip us)):MTop K (cA mg x) m qual st ps:=by
 obtain ⟨C,f,oc,od,D,osl,kV,B,J,cdv,ct,n,a,i,l,c,k⟩:=F.ex;rw [q8i (z2z X G n)];exact qm1 b a i l c k
structure CiK (K:PySem.W.Frag) (x:Str):Prop where
 ex:∃ C:Addr,PySem.W.nsIn K mainGlobals x=some (some (.ref C))/\PySem.W.plainGet K C Str.empty=true/\PySem.W.hasDictIn K C=true/\PySem.W.plainOver K C=true/\
  PySem.W.findIn K (.ref C) "__setattr__"=some (some (.builtin "object.__setattr__"))/\PySem.W.makesIn K C=true/\PySem.W.keepIn K (.ref C)=true
theorem ciK {K:PySem.W.Frag} {x:Str} {C:Addr} (n:PySem.W.nsIn K mainGlobals x=some (some (.ref C))) (pg:PySem.W.plainGet K C Str.empty=true) (hd:PySem.W.hasDictIn K C=true) (po:PySem.W.plainOver K C=true)
  (sa:PySem.W.findIn K (.ref C) "__setattr__"=some (some (.builtin "object.__setattr__"))) (mk:PySem.W.makesIn K C=true) (kc:PySem.W.keepIn K (.ref C)=true):CiK K x:=⟨C,n,pg,hd,po,sa,mk,kc⟩
section
variable {K:PySem.W.Frag} {h:Heap} {mg:Str ->Option Value} {x a:Str} {v:Option (Option Value)}
theorem CiK.g (F:CiK K x) (X:K.In h) (G:h.Ns mainGlobals mg):mg x=some (.ref (cA mg x)):=by
 obtain ⟨C,n,_⟩:=F.ex;rw [q8i (z2z X G n)];exact z2z X G n
theorem CiK.cl (F:CiK K x) (X:K.In h) (G:h.Ns mainGlobals mg):Cls K (cA mg x):=by
 obtain ⟨C,n,pg,hd,po,sa,_⟩:=F.ex;rw [q8i (z2z X G n)];exact ⟨pg,hd,po,sa⟩
theorem CiK.mk' (F:CiK K x) (X:K.In h) (G:h.Ns mainGlobals mg):PySem.W.makesIn K (cA mg x)=true:=by
 obtain ⟨C,n,_,_,_,_,mk,_⟩:=F.ex;rw [q8i (z2z X G n)];exact mk
theorem CiK.kp (F:CiK K x) (X:K.In h) (G:h.Ns mainGlobals mg):PySem.W.keepIn K (.ref (cA mg x))=true:=by
 obtain ⟨C,n,_,_,_,_,_,kc⟩:=F.ex;rw [q8i (z2z X G n)];exact kc
structure AiK (K:PySem.W.Frag) (x a:Str) (v:Option (Option Value)):Prop where
 ex:∃ C:Addr,PySem.W.nsIn K mainGlobals x=some (some (.ref C))/\PySem.W.findIn K (.ref C) a=v
theorem aiK {C:Addr} (n:PySem.W.nsIn K mainGlobals x=some (some (.ref C))) (f:PySem.W.findIn K (.ref C) a=v):AiK K x a v:=⟨C,n,f⟩
theorem AiK.at' (F:AiK K x a v) (X:K.In h) (G:h.Ns mainGlobals mg):PySem.W.findIn K (.ref (cA mg x)) a=v:=by
 obtain ⟨C,n,f⟩:=F.ex;rw [q8i (z2z X G n)];exact f
end
end L2
namespace L2
open PySem PySem.Spec PyProof.Rows PySem.Builtin.Str
section
variable {X:Cx}
variable {v1 v2 v3 e:Expr} {t1 t2 t3 te:TE} {pos:Pos}
end
end L2
namespace L2
open PySem PySem.Spec PyProof.Rows PySem.Builtin.Str PySem.StrLaws PySem.NumText
end L2
namespace L2
open PySem PySem.Spec PyProof.Rows PySem.W Builtin
section
variable {X:Cx}
end
section
variable {prog:Program} {w:World} {A:Around} {E:Value ->Shared ->Prop}
end
section
variable {X:Cx}
end
end L2
namespace L2
open PySem PySem.Spec PyProof.Rows
section
variable {prog:Program} {w:World} {A:Around} {R:Result ->Shared ->Prop} {I:Addr} {fp wr:List Addr} {n:Nat} {P:Nat ->Value ->Prop} {St:Nat ->Heap ->Prop}
end
section
variable {X:Cx} {e d:Expr} {t tk:TA} {p pos kpos:Pos}
end
section
variable {X:Cx}
end
end L2
namespace L2
open PySem PySem.Spec PyProof.Rows PySem.W
namespace Tab
end Tab
end L2
namespace L2
open PySem PySem.Spec PyProof.Rows PySem.W
namespace Tab
end Tab
end L2
namespace L2
open PySem PySem.Spec PyProof.Rows PySem.W
section
variable {P:Program} {w:World} {A:Around} {E:Value ->Shared ->Prop} {s:Shared}
end
section
variable {prog:Program} {w:World} {A:Around} {R:Result ->Shared ->Prop} {I:Addr} {fp wr:List Addr} {G:Array GenState ->Array GenState ->Prop} {n:Nat} {P:Nat ->Value ->Prop} {St:Nat ->Shared ->Prop}
end
section
variable {prog:Program} {w:World} {A:Around} {E:Value ->Shared ->Prop} {s:Shared}
end
section
variable {prog:Program} {w:World} {A:Around} {E:Value ->Shared ->Prop} {s:Shared} {a:Addr} {xs:List (Addr×List Str)}
end
section
variable {X:Cx} {pins:List (Addr×Obj)} {σ:St} {H:Hp} {s:Shared}
end
section
variable {X:Cx} {pins:List (Addr×Obj)} {σ:St} {H:Hp} {s:Shared}
end
end L2
namespace L2
open PySem PySem.Spec PyProof.Rows PySem.Builtin.Str PySem.StrLaws PySem.NumText
theorem qgd {S G:Prop} (main:S ->G) (pf:S):G:=main pf
end L2
namespace Tim
open PySem PyProof.Rows
section
variable {M:Model} {A:Around} {E:Value ->Shared ->Prop} {s:Shared} {kd:SortKind} {S:Keyed ->Prop} {rk:Keyed ->Int} {n:Nat}
def Dne (rk:Keyed ->Int) (n:Nat) (st st':SortSt):Prop:=(arrOf st').Perm (arrOf st)/\failedOf st'=none/\(pendingOf st').size<=1/\Up rk (arrOf st') 0 n
theorem qe5 (L:LtOk M A E s kd S rk) {st:SortSt} (B:Sane kd S n st) (h2:2<=n) (a6:n < 64) (hp:pendingOf st=#[]) {Q:Unit ->SortSt ->Prop}
  (h:∀ J,(arrOf J).Perm (arrOf st) ->failedOf J=none ->Up rk (arrOf J) 0 n ->Q () J):wpS M A E s sortRuns' Q st:=by
 rw [sortRuns'_eq];refine wpS_bind (wpS_get ?_)
 dsimp only
 simp only [B.size];have a7:minRun' n n 0=n:=by
  obtain ⟨f,hf⟩:∃ f,n=f+1:=⟨n - 1,by omega⟩;have:minRun' (f+1) n 0=n:=by rw [minRun'_succ,if_pos a6];rfl
  rwa [<- hf] at this
 refine wpS_bind (wpS_mono (wpS_forRange (I:=λ x c J=>(x=0/\c=(none,0)/\J=st)\/ (c=(none,n)/\Dne rk n st J))
  (Q:=λ c J=>c=(none,n)/\Dne rk n st J) ?turn ?last (.inl ⟨rfl,rfl,rfl⟩)) ?after)
 case last=>
  rintro c J (⟨h0,_⟩ | z)
  ·omega
  ·exact z
 case turn=>
  rintro x c J _ hx (⟨rfl,rfl,rfl⟩ | ⟨rfl,D⟩)
  ·dsimp only
   rw [if_neg (show ¬ 0 >=n by omega)];refine wpS_bind (qfl L B (by omega) (by omega) λ k a0 v2 k1 k2 u2=> ?_)
   dsimp only
   rw [a7];have fin:∀ O:SortSt,Mv 0 (0+(n - 0)) J O ->Up rk (arrOf O) 0 n ->Dne rk n J (setPending O ((pendingOf O).push (0,n,0))):=λ O v3 u3=>by
    refine ⟨v3.perm,(v3.sane B).failed,?_,u3⟩;show ((pendingOf O).push (0,n,0)).size<=1;rw [v3.pend,hp];exact z3b _
   have back:∀ O:SortSt,Mv 0 (0+(n - 0)) J O ->(pendingOf O).back? =none:=λ O v3=>by
    rw [v3.pend,hp];rfl
   by_cases Z:k < n
   ·rw [if_pos Z];refine wpS_bind (wpS_lift (z3f ⟨zr,?_⟩));rw [show min (n - 0) n=n by omega];refine wpS_bind (qc9 L (v2.sane B) (by omega) (by omega) u2 λ O v3 u3=> ?_);have v4:Mv 0 (0+(n - 0)) J O:=v2.trans (v3.wide (z3b _) (by omega));simp only [Bool.not_true,z14,if_false];refine wpS_bind (wpS_get ?_);rw [back O v4]
    dsimp only
    rw [show (0+n)=n by omega] at*;exact wpS_bind (wpS_modify (wpS_pure (.inr ⟨zr,fin O v4 u3⟩)))
   ·rw [if_neg Z];have e:k=n:=by omega
    subst e;refine wpS_bind (wpS_get ?_);rw [back a0 v2]
    dsimp only
    rw [show (0+k)=k by omega] at*;exact wpS_bind (wpS_modify (wpS_pure (.inr ⟨zr,fin a0 v2 u2⟩)))
  ·dsimp only
   rw [if_pos (z3b n)];exact wpS_pure ⟨zr,D⟩
 case after=>
  rintro c J ⟨rfl,D⟩
  dsimp only
  refine wpS_bind (wpS_mono (wpS_forRange (I:=λ _ c U=>c=(none,())/\Dne rk n st U) (Q:=λ c U=>c=(none,())/\Dne rk n st U) ?fturn (λ _ _ z=>z) ⟨zr,D⟩) ?fafter)
  case fturn=>
   rintro j c U _ hj ⟨rfl,Y⟩;refine wpS_bind (wpS_get ?_);rw [if_pos Y.2.2.1];exact wpS_pure ⟨zr,Y⟩
  case fafter=>
   rintro c U ⟨rfl,Y⟩
   dsimp only
   exact wpS_pure (h U Y.1 Y.2.1 Y.2.2.2)
end
section
variable {prog:Program} {w:World} {A:Around} {E:Value ->Shared ->Prop} {s:Shared}
theorem qa3 {a:Addr} {vs:List Value} {n:Nat} {rk:Value ->Int} {P:PySem.Fin ->Shared ->Prop} (ho:s.heap.get? a=some (seqObj "list" vs.toArray n)) (O:vs.length < 64) (hk:Keys prog w A s a vs rk)
  (h:∀ out:Array Value,Sorted rk vs out.toList ->P (.done (.ret .none)) {s with heap:=sortedHeap s.heap a vs out}):wpAny (model prog w) A (Builtin.«list.sort» ⟨[.ref a],[]⟩) P E s:=by
 have hz:vs.length<=sizeLine:=z34 (z31 O) (by decide);rw [list_sort_plain];have ha:a < s.heap.objs.size:=z32 ho;have Y:vs.toArray.size=vs.length:=z1k;refine z3h (listItems_at ho rfl (z3h (listUpdate_at ho rfl ?_ (by rw [Y];exact hz) (z3e _))));obtain ⟨e1,U⟩:∃ e1,(s.heap.update a (Obj.mapSeq λ _=>#[])).get? a=some (seqObj "list" #[] e1):=⟨_,get?_update_seq ho (λ _=>#[])⟩;refine z3h (seqEpoch_at U rfl (z3h (wpAny_newTuple (z3h (wpAny_newList (z2w ?_))))));have s1:=z0x s.heap a (Obj.mapSeq λ _=>(#[]:Array Value));have keep:∀ b o,(s.heap.update a (Obj.mapSeq λ _=>#[])).get? b=some o ->(((s.heap.update a (Obj.mapSeq λ _=>#[])).push (seqObj "tuple" vs.toArray 0)).push (seqObj "list" #[] 0)).get? b=some o:=
  λ b o e=>z0i _ (z0i _ e)
 have D:=keep a _ U;have J:∀ b o,b≠a ->s.heap.get? b=some o ->(((s.heap.update a (Obj.mapSeq λ _=>#[])).push (seqObj "tuple" vs.toArray 0)).push (seqObj "list" #[] 0)).get? b=some o:=
  λ b o hb e=>keep b o ((s1.2 b hb).trans e)
 show wpAny (model prog w) A _ P E {s with heap:=((s.heap.update a (Obj.mapSeq λ _=>#[])).push (seqObj "tuple" vs.toArray 0)).push (seqObj "list" #[] 0)}
 dsimp only
 by_cases h2:vs.toArray.size < 2
 ·rw [if_pos h2,if_pos h2];refine z3h (z3g ?_);rw [StateT.run_pure];refine z3h (z3g ?_)
  dsimp only
  have es:((vs.toArray.zip vs.toArray).map (·.2)).toList=vs:=by
   rw [Array.toList_map];show (pairsOf vs).toList.map _=_;rw [pairsOf_toList,List.map_snd_zip (z3b _)]
  refine z3h (seqEpoch_at D rfl (z3h (listUpdate_at D rfl ?_ (z3e _) (by rw [<- z0v,es];omega))));simp only [bne_self_eq_false,z14,if_false];refine z3g (h _ ?_);rw [es];refine ⟨List.Perm.refl _,?_⟩;rw [Y] at h2
  match vs,h2 with
  | [],_=>exact .nil
  | [_],_=>exact List.pairwise_singleton ..
 ·rw [if_neg h2,if_neg h2];obtain ⟨kd,kk,kl⟩:=hk (by omega) {s with heap:=((s.heap.update a (Obj.mapSeq λ _=>#[])).push (seqObj "tuple" vs.toArray 0)).push (seqObj "list" #[] 0)} J;refine z3h (kk _ _ ?_);have hS:∀ p∈(vs.toArray.zip vs.toArray).toList,p.1∈vs:=λ p hp=>by
   have hp':p∈(pairsOf vs).toList:=hp;rw [pairsOf_toList] at hp';exact (mem_zip_self hp').2
  refine z3h (z3i (qe5 (S:=λ p=>p.1∈vs) (rk:=λ p=>rk p.1) (n:=vs.length) (st:=SortSt.mk' kd (vs.toArray.zip vs.toArray) #[] 7 none)
   (Q:=λ _ B=>(arrOf B).Perm (pairsOf vs)/\failedOf B=none/\Up (λ p=>rk p.1) (arrOf B) 0 vs.length)
   (qkz λ x y hx hy=>kl x.1 hx y.1 hy) ⟨pairsOf_size vs,hS,rfl,rfl⟩ (by omega) O rfl λ B a1 a2 a3=>⟨a1,a2,a3⟩) ?_ λ _ _ e=>e)
  rintro ⟨⟨⟩,B⟩ s' ⟨rfl,hp,hf,hu⟩
  dsimp only
  have Z:=qcb hp hu;refine z3h (seqEpoch_at D rfl (z3h (listUpdate_at D rfl ?_ (z3e _) (by rw [<- z0v,Z.perm.length_eq];omega))));rw [hf];simp only [bne_self_eq_false,z14,if_false];exact z3g (h _ Z)
end
end Tim
namespace L2
open PySem PySem.Spec PyProof.Rows PySem.W
section
variable {prog:Program} {w:World} {A:Around} {E:Value ->Shared ->Prop} {s:Shared} {a:Addr}
theorem qcw {x:Value} {Pv:List Value ->Prop} {rk:List Value ->Value ->Int} {Q:Value ->Shared ->Prop} (D:∀ vs,Pv vs ->vs.length < 64)
  (hc:∀ (O:Around) (E':Value ->Shared ->Prop) (R:List Value ->Shared ->Prop),O.handled=A.handled ->(∀ vs h' tk d,Pv vs ->(∀ b o,s.heap.get? b=some o ->h'.get? b=some o) ->s.heap.objs.size<=h'.objs.size ->R vs {s with heap:=h',toks:=tk,drawn:=d}) ->wpAny (model prog w) O (collect x) R E' s)
  (hk:∀ (vs:List Value) (O:Around) (s':Shared) (a:Addr),Pv vs ->O.units<=A.units+4 ->s.heap.objs.size<=a ->(∀ b o,s.heap.get? b=some o ->s'.heap.get? b=some o) ->Tim.Keys prog w O s' a vs (rk vs))
  (h:∀ (vs:List Value) (out:Array Value) (l:Addr) (n:Nat) (h':Heap) (tk:Nat) (d:Drawn),Pv vs ->Tim.Sorted (rk vs) vs out.toList ->(∀ b o,s.heap.get? b=some o ->h'.get? b=some o) ->s.heap.objs.size<=l ->h'.get? l=some (seqObj "list" out n) ->Q (.ref l) {s with heap:=h',toks:=tk,drawn:=d}):
  wpAny (model prog w) A (call (.builtin "sorted") [x]) Q E s:=by
 refine Calls.call_function_entry kind_sorted plain_sorted entry_sorted (args_sorted1 _) ?_;unfold Builtin.«sorted»;refine z3h (m:=checkCount "sorted" 1 1 _) (z3g ?_);refine z3h (hc _ _ _ rfl λ vs h1 tk d pv keep hsz=> ?_);have D:=D vs pv;have hz:vs.length<=sizeLine:=z34 (z31 D) (by decide);refine z3h (wpAny_newList ?_ hz);have J:(h1.push (seqObj "list" vs.toArray 0)).get? h1.objs.size=some (seqObj "list" vs.toArray 0):=z0y _ rfl;show wpAny _ _ _ _ _ {s with heap:=h1.push (seqObj "list" vs.toArray 0),toks:=tk,drawn:=d};have B:∀ b o,s.heap.get? b=some o ->(h1.push (seqObj "list" vs.toArray 0)).get? b=some o:=λ b o e=>z0i _ (keep b o e);refine z3h (z2w (z22 slot_list_sort ⟨_,J,zr⟩ entry_list_sort (Tim.qa3 J D (hk vs _ _ _ pv ?_ hsz B) λ out so=>⟨_,zr,?_⟩) (args_list_sort _)))
 ·show A.units+2<=A.units+4;omega
 ·have U:∀ b o,s.heap.get? b=some o ->b≠h1.objs.size:=λ b o e=>z33 (z1a (z32 e) hsz);have u1:=z0x (h1.push (seqObj "list" vs.toArray 0)) h1.objs.size (Obj.mapSeq λ _=>(#[]:Array Value));obtain ⟨e1,g1⟩:∃ e1,((h1.push (seqObj "list" vs.toArray 0)).update h1.objs.size (Obj.mapSeq λ _=>(#[]:Array Value))).get? h1.objs.size=some (seqObj "list" #[] e1):=⟨_,get?_update_seq J λ _=>#[]⟩;have g2:=z0i (seqObj "list" #[] 0) (z0i (seqObj "tuple" vs.toArray 0) g1);have g3:=get?_update_seq g2 λ _=>out;have u4:=z0x (((((h1.push (seqObj "list" vs.toArray 0)).update h1.objs.size (Obj.mapSeq λ _=>(#[]:Array Value))).push (seqObj "tuple" vs.toArray 0)).push (seqObj "list" #[] 0))) h1.objs.size (Obj.mapSeq λ _=>out);refine z3g ⟨_,zr,h vs out h1.objs.size _ _ tk d pv so (λ b o e=> ?_) hsz g3⟩;refine (u4.2 b (U b o e)).trans (z0i _ (z0i _ ((u1.2 b (U b o e)).trans (B b o e))))
end
section
variable {X:Cx} {pins:List (Addr×Obj)} {σ:St} {H:Hp} {s:Shared}
theorem qbs (hc:X.calm=true) (P:Program) (w:World) (hP:X.prog=P:=by rfl) (hw:X.w=w:=by rfl):q30 X (.builtin "sorted") (λ xs H Q=>∃ (p:Addr) (ys:List Str),xs=[.ref p]/\H p=some (SetH P w p ys)/\ys.length < 64/\∀ l,H l=none ->Q (.ref l) (upd H l (.lst ((Tim.srt strLt ys).map V.str)))):=by
 subst hP hw;intro pins s σ H xs us Q I r h;obtain ⟨p,ys,rfl,hp,O,q⟩:=h;obtain ⟨u,rfl,ru⟩:=q5e r;cases ru
 obtain ⟨U,_,_⟩:ObjOk X.prog X.w H s.heap p (SetH X.prog X.w p ys):=I.hok p _ hp;have yl:ys.length<=sizeLine:=by
  obtain ⟨_,es,_,_,_,_,_,_,e,_,hb,_⟩:=id U;rw [<- e,z2c,z0v];exact fits_of_scanBound hb
 have hh:=I.ok.hd hc;have J:∀ vs,qa1 ys vs ->Vals ((vs.map sOf).map V.str) vs:=λ vs z=>q5v z.2;refine qcw (Pv:=qa1 ys) (rk:=λ vs v=>Tim.rank strLt (vs.map sOf) (sOf v)) (λ vs z=>by rw [show vs.length=ys.length by rw [<- z.1.length_eq,z2c]];exact O)
  (λ A' E' R e k=>qe3 (by rw [e];exact hh) U λ vs h' tk d z=>k vs h' tk d z) (λ vs A' s' a z _ _ _=>qhe (J vs z)) λ vs out l n h' tk d z Y keep hl hg=> ?_
 have ed:=Tim.qdx q6y sOf Y;have D:∀ u∈out.toList,∃ x t,u= .str x t:=λ u hu=>z.2 u (Y.perm.mem_iff.mp hu);have B:=q5v D;have es:Tim.srt strLt (vs.map sOf)=Tim.srt strLt ys:=Tim.qhd q6y ((Tim.q5u strLt _).trans z.1) (Tim.qf4 q6y _);rw [ed,es] at B;exact Inv.qdy (s:={s with drawn:=d}) I.drew B (by rw [z2c,(Tim.q5u strLt ys).length_eq];exact yl) keep hl hg (q l (I.hok.fresh hl))
end
section
variable {prog:Program} {w:World} {A:Around} {E:Value ->Shared ->Prop} {s:Shared} {I:Addr} {fp:List Addr} {n:Nat} {P:Nat ->Value ->Prop} {St:Nat ->Heap ->Prop} {T:String}
end
section
variable {X:Cx} {e:Expr} {te:TE} {p1 p2 q1 q2:Pos}
end
section
variable {prog:Program} {w:World} {A:Around} {E:Value ->Shared ->Prop} {s:Shared}
end
section
variable {prog:Program} {w:World} {A:Around} {E:Value ->Shared ->Prop} {s:Shared} {I:Addr} {fp:List Addr} {n:Nat} {P:Nat ->Value ->Prop} {St:Nat ->Heap ->Prop} {T:String}
end
section
variable {X:Cx} {e:Expr} {te:TE} {p1 p2 q1 q2:Pos}
end
end L2
namespace L2
open PySem PySem.Spec PyProof.Rows
section
variable {X:Cx} {pins:List (Addr×Obj)} {σ:St} {H:Hp} {s:Shared} {a b:Addr} {kvs more:List (Key×V)} {A:Around} {E:Value ->Shared ->Prop}
theorem qp2 {Q:Value ->Shared ->Prop} (I:Inv X pins σ H s) (e:H a=some (.dK kvs)) (eb:Rd H b (.dK more)) (ne:a≠b) (hl:kvs.length+more.length<=sizeLine)
  (h:∀ s',Inv X pins σ (upd H a (.dK (q17 kvs more))) s' ->Q .none s'):
  wpAny (model X.prog X.w) A (call (.builtin "dict.update") [.ref a,.ref b]) Q E s:=by
 obtain ⟨zl,hd,vs,rel,J⟩:=qc3 I.hok e;obtain ⟨zb,hb,ws,B,db⟩:=q6b I.hok eb;refine call_meetsIn PySem.F.slot_dict_update J.typeIs PySem.F.entry_dict_update (PySem.F.args_dict_update_2 _ _) (meets_dict_update (q18 X.prog X.w) a b ne hb) ⟨vs,ws,J,db,by rw [<- rel.length,<- B.length];exact hl,λ h' D _ hs=> ?_⟩;have hp:(q17 kvs more).length<=sizeLine:=z34 (q3i more kvs) hl;have he:∃ q,h'.get? a=some q:=let ⟨q,_,_,hq,_⟩:=D;⟨q,hq⟩
 exact h _ (q5i I (by rw [e];exact True.intro) hs he (q9q hp hd (B.merge rel) D))
end
def qp3 (td ty:TE):TE:=λ σ H Q=>td σ H λ x H1=>∃ a,x= .ref a/\IsD H1 a/\ty σ H1 λ y H2=>∃ kvs more b,H2 a=some (.dK kvs)/\y= .ref b/\Rd H2 b (.dK more)/\a≠b/\kvs.length+more.length<=sizeLine/\
 Q .non (upd H2 a (.dK (q17 kvs more)))
section
variable {X:Cx} {o e:Expr} {apos cpos:Pos} {td ty:TE}
theorem qmc (ho:PE X o td) (he:PE X e ty) (m:M1 X o "update" apos e cpos):PE X (.Call (.Attribute o "update" apos) [e] [] cpos) (qp3 td ty):=by
 intro pins s σ H Q I h;refine wpAny_Call_method m.base m.few m.line PySem.F.plainAttrs_dict PySem.F.slot_dict_update PySem.F.type_dict_update (thn (ho pins s σ H _ I h) λ u s1 B=> ?_);obtain ⟨x,H1,I1,rx,a,ex,d,q1⟩:=B;subst ex;obtain rfl:u=Value.ref a:=rx;obtain ⟨t1,t2,_⟩:=q9s I1 d;refine ⟨t1,t2,?_⟩;rw [m.trees];refine Calls.callWith_builtin rfl (Calls.evalArgs_plain (Calls.spliced_cons (thn (he pins s1 σ H1 _ I1 q1) λ iv s2 ⟨y,H2,I2,ry,kvs,more,b,eH,ey,eb,ne,hl,q2⟩=>Calls.spliced_nil ?_)));subst ey;obtain rfl:iv=Value.ref b:=ry;exact qp2 I2 eH eb ne hl λ s3 I3=>⟨.non,_,I3,zr,q2⟩
end
section
variable {X:Cx}
end
end L2
set_option maxHeartbeats 4000000
namespace Wy
open PySem L2
def top (i:Nat):Stmt:=PySem.Challenge.pw_whyrows_k44_instances_walk.main.body.getD i (.Pass ⟨0,0,0,0⟩)
abbrev q7b:Stmt:=top 4
abbrev q3v:Stmt:=top 5
abbrev q9b:Stmt:=top 6
abbrev q6j:Stmt:=top 8
abbrev q4o:Stmt:=top 9
abbrev q85:Stmt:=top 11
abbrev q9c:Stmt:=top 12
abbrev qap:Stmt:=top 13
abbrev q4p:Stmt:=top 15
abbrev q3o:Stmt:=top 16
abbrev q6k:Stmt:=top 17
abbrev q48:Stmt:=top 19
abbrev q4j:Stmt:=top 20
abbrev q54:Stmt:=top 21
abbrev q7c:Stmt:=top 22
abbrev q55:Stmt:=top 23
abbrev q6l:Stmt:=qex (top 24) 0
abbrev q49:Stmt:=qex (top 24) 1
abbrev q7d:Stmt:=top 25
abbrev q6m:Stmt:=top 26
abbrev q4q:Stmt:=top 28
abbrev q56:Stmt:=top 29
abbrev q5x:Stmt:=top 30
abbrev q57:Stmt:=top 31
abbrev q7e:Stmt:=top 32
abbrev q3w:Stmt:=top 33
abbrev q5y:Stmt:=top 34
abbrev q4a:Stmt:=top 35
abbrev q58:Stmt:=top 36
abbrev q6n:Stmt:=top 37
abbrev q6o:Stmt:=top 38
abbrev q6p:Stmt:=top 39
abbrev q3p:Stmt:=top 40
abbrev q4r:Stmt:=top 41
abbrev q59:Stmt:=top 42
abbrev q5a:Stmt:=top 43
abbrev q6q:Stmt:=top 44
abbrev qge:Stmt:=top 45
local macro_rules | `(tactic| k_updF)=>`(tactic| exact ⟨rfl,rfl,rfl,by decide+kernel,rfl,by decide+kernel,by decide+kernel⟩)
theorem qe6:FnScope ["thing"] ["thing"] (qf q7b):=by k_updF
theorem q7p:FnScope ["thing","first_signs"] ["thing","first_signs"] (qf q3v):=by k_updF
theorem qhu:FnScope ["thing"] ["thing"] (qf q9b):=by k_updF
theorem qcx:FnScope ["value"] ["value"] (qf q6j):=by k_updF
theorem qa4:FnScope ["one","other"] ["one","other"] (qf q4o):=by k_updF
theorem q5f:FnScope ["terms","row","binding","bound","term","value"] ["terms","row","binding"] (qf q85):=by k_updF
theorem qhv:FnScope ["terms","binding"] ["terms","binding"] (qf q9c):=by k_updF
theorem qcy:FnScope ["choice","binding","sides"] ["choice","binding"] (qf qap):=by k_updF
theorem qa5:FnScope ["terms"] ["terms"] (qf q4p):=by k_updF
theorem q2l:FnScope ["body","found","table","terms"] ["body"] (qf q3o):=by k_updF
theorem qcz:FnScope ["terms","known"] ["terms","known"] (qf q6k):=by k_updF
theorem q31:FnScope ["terms","rows","shared","by_shared","row","bound"] ["terms","rows","shared"] (qf q48):=by k_updF
theorem q9d:FnScope ["choices","known"] ["choices","known"] (qf q4j):=by k_updF
theorem qaq:FnScope ["choices","ahead","known"] ["choices","ahead","known"] (qf q54):=by k_updF
theorem qe7:FnScope ["choices","binding"] ["choices","binding"] (qf q7c):=by k_updF
theorem q40:FnScope ["rule","place","known","wanted","later","choice"] ["rule","place","known","wanted"] (qf q55):=by k_updF
theorem q5z:FnScope ["self","rule","place","tables","known","wanted","atom","variables"] ["self","rule","place","tables","known","wanted"] (qf q6l):=by k_updF
theorem q2k:FnScope ["self","binding","longer","row","bound","together"] ["self","binding"] (qf q49):=by k_updF
theorem q3n:FnScope ["rule","tables","known","wanted","steps","ahead","place","atom"] ["rule","tables","known","wanted"] (qf q7d):=by k_updF
theorem q2r:FnScope ["rule","tables","found","step","longer","used","binding"] ["rule","tables"] (qf q6m):=by k_updF
theorem qa6:FnScope ["_law_script","_law_k"] ["_law_script","_law_k"] (qf q4q):=by k_updF
theorem q35:FnScope ["_law_cell","_law_many","_law_number","_law_found","_law_k"] ["_law_cell","_law_many"] (qf q56):=by k_updF
theorem q1n:FnScope ["_law_cell","_law_place","_law_many","_law_first","_law_later","_law_size","_law_at","_law_names_here","_law_k","_law_name","_law_j","_law_x"] ["_law_cell","_law_place","_law_many","_law_first"] (qf q5x):=by k_updF
theorem q4s:FnScope ["_law_script","_law_number","_law_words"] ["_law_script"] (qf q57):=by k_updF
theorem qe8:FnScope ["_law_x","_law_size","_law_values_here"] ["_law_x","_law_size","_law_values_here"] (qf q7e):=by k_updF
theorem q2s:FnScope ["_law_one","_law_other","_law_later","_law_mine","_law_yours"] ["_law_one","_law_other"] (qf q3w):=by k_updF
theorem q5b:FnScope ["_law_one","_law_other","_law_mine","_law_yours"] ["_law_one","_law_other"] (qf q5y):=by k_updF
theorem q42:FnScope ["_law_rows","_law_row_here","_law_most","_law_at"] ["_law_rows","_law_row_here","_law_most"] (qf q4a):=by k_updF
theorem q1o:FnScope ["_law_script","_law_names_here","_law_values_here","_law_most","_law_size","_law_tables_here","_law_cells","_law_cell","_law_x","_law_long","_law_name"] ["_law_script","_law_names_here","_law_values_here","_law_most"] (qf q58):=by k_updF
theorem qd0:FnScope ["_law_x","_law_marks","_law_values_here"] ["_law_x","_law_marks","_law_values_here"] (qf q6n):=by k_updF
theorem q1i:FnScope ["_law_script","_law_names_here","_law_marks","_law_values_here","_law_size","_law_xs","_law_body","_law_there","_law_k","_law_long","_law_terms","_law_ys","_law_head","_law_choices","_law_sign"] ["_law_script","_law_names_here","_law_marks","_law_values_here","_law_size"] (qf q6o):=by k_updF
theorem q4k:FnScope ["_law_terms","_law_row_here","_law_binding","_law_k","_law_wanted"] ["_law_terms","_law_row_here","_law_binding"] (qf q6p):=by k_updF
theorem q3g:FnScope ["_law_choice","_law_binding","_law_one","_law_other"] ["_law_choice","_law_binding"] (qf q3p):=by k_updF
theorem q3s:FnScope ["_law_rule_here","_law_used","_law_binding","_law_k","_law_choice"] ["_law_rule_here","_law_used"] (qf q4r):=by k_updF
theorem q21:FnScope ["_law_script","_law_names_here","_law_marks","_law_values_here","_law_most","_law_tables_here","_law_size"] ["_law_script"] (qf q59):=by k_updF
theorem q71:FnScope ["_law_row_here","_law_value"] ["_law_row_here"] (qf q5a):=by k_updF
theorem q60:FnScope ["_law_rule_here","_law_tables_here","_law_told","_law_k","_law_due"] ["_law_rule_here","_law_tables_here","_law_told"] (qf q6q):=by k_updF
theorem q72:FnScope ["_law_script","_law_rule_here","_law_tables_here","_law_handed_here","_law_name","_law_found"] ["_law_script"] (qf qge):=by k_updF
structure Txt (K:PySem.W.Frag) (mg:Str ->Option Value):Prop where
 b_all:mg "all"=none
 qip:mg "bool"=none
 qim:mg "dict"=none
 qel:mg "enumerate"=none
 b_int:mg "int"=none
 q1j:mg "isinstance"=none
 b_len:mg "len"=none
 qin:mg "list"=none
 q38:mg "range"=none
 b_set:mg "set"=none
 qkj:mg "sorted"=none
 b_str:mg "str"=none
 q2t:mg "tuple"=none
 b_zip:mg "zip"=none
 q8t:∃ t,mg "CAPITAL_LETTERS"=some (.str "ABCDEFGHIJKLMNOPQRSTUVWXYZ" t)
 qae:∃ t,mg "FURTHER_SIGNS"=some (.str "abcdefghijklmnopqrstuvwxyz0123456789" t)
 qdn:∃ t,mg "MOST_SIGNS"=some (.int 12 t)
 qgj:Top K mg "is_whole" q7b ["thing"]
 q8a:Top K mg "is_text_begun_by" q3v ["thing","first_signs"]
 qkk:Top K mg "is_var" q9b ["thing"]
 qec:Top K mg "value_key" q6j ["value"]
 qb1:Top K mg "value_before" q4o ["one","other"]
 qio:Top K mg "matched" q85 ["terms","row","binding"]
 qki:Top K mg "put_in" q9c ["terms","binding"]
 qmv:Top K mg "holds" qap ["choice","binding"]
 qaz:Top K mg "variables_in" q4p ["terms"]
 q7r:Top K mg "variables_of_body" q3o ["body"]
 qeg:Top K mg "are_known" q6k ["terms","known"]
 q9j:Top K mg "rows_by_shared" q48 ["terms","rows","shared"]
 qac:Top K mg "choices_known" q4j ["choices","known"]
 qc0:Top K mg "choices_due" q54 ["choices","ahead","known"]
 qgi:Top K mg "all_hold" q7c ["choices","binding"]
 qbz:Top K mg "asked_later" q55 ["rule","place","known","wanted"]
 qgk:Top K mg "steps_of" q7d ["rule","tables","known","wanted"]
 qej:Top K mg "instances" q6m ["rule","tables"]
 qb2:Top K mg "_law_cell_at" q4q ["_law_script","_law_k"]
 qbx:Top K mg "_law_stream" q56 ["_law_cell","_law_many"]
 qdp:Top K mg "_law_names" q5x ["_law_cell","_law_place","_law_many","_law_first"]
 qbv:Top K mg "_law_values" q57 ["_law_script"]
 qgh:Top K mg "_law_row" q7e ["_law_x","_law_size","_law_values_here"]
 q88:Top K mg "_law_value_ahead" q3w ["_law_one","_law_other"]
 qdo:Top K mg "_law_ahead" q5y ["_law_one","_law_other"]
 q9h:Top K mg "_law_put_among" q4a ["_law_rows","_law_row_here","_law_most"]
 qbu:Top K mg "_law_tables" q58 ["_law_script","_law_names_here","_law_values_here","_law_most"]
 qee:Top K mg "_law_term" q6n ["_law_x","_law_marks","_law_values_here"]
 qek:Top K mg "_law_rule" q6o ["_law_script","_law_names_here","_law_marks","_law_values_here","_law_size"]
 qef:Top K mg "_law_bind" q6p ["_law_terms","_law_row_here","_law_binding"]
 q7s:Top K mg "_law_choice_holds" q3p ["_law_choice","_law_binding"]
 qb0:Top K mg "_law_head_by" q4r ["_law_rule_here","_law_used"]
 qby:Top K mg "_law_handed" q59 ["_law_script"]
 qbw:Top K mg "_law_is_row" q5a ["_law_row_here"]
 qeh:Top K mg "_law_good" q6q ["_law_rule_here","_law_tables_here","_law_told"]
 t_law:Top K mg "law" qge ["_law_script"]
 qoe:mg "Step"=some (.ref (cA mg "Step"))
 q27:Cls K (cA mg "Step")
 qmw:PySem.W.makesIn K (cA mg "Step")=true
 qmx:PySem.W.keepIn K (.ref (cA mg "Step"))=true
 qed:NoAttr K (cA mg "Step") "asks"
 q3h:NoAttr K (cA mg "Step") "by_shared"
 qad:NoAttr K (cA mg "Step") "due"
 q93:NoAttr K (cA mg "Step") "rows"
 q5d:NoAttr K (cA mg "Step") "shared"
 qdq:NoAttr K (cA mg "Step") "table"
 q89:NoAttr K (cA mg "Step") "terms"
 qei:MTop K (cA mg "Step") "__init__" "Step.__init__" q6l ["self","rule","place","tables","known","wanted"]
 q9i:MTop K (cA mg "Step") "joined_on" "Step.joined_on" q49 ["self","binding"]
theorem q1p {b:Bool} {A B:Prop} (e:b=false) (h:B):if b=true then A else B:=by
 subst e;exact iteF h
theorem q4x {b:Bool} {A B:Prop} (e:b=true) (h:A):if b=true then A else B:=by
 subst e;exact iteT h
def fur:Str:="abcdefghijklmnopqrstuvwxyz0123456789"
def capS:Str:="ABCDEFGHIJKLMNOPQRSTUVWXYZ"
def q73 (fs:Str):List Nat ->Bool
 | []=>false
 | c::r=>decide (c∈fs.cps.toList)&&r.all λ d=>decide (d∈fur.cps.toList)
def txtB (fs z:Str):Bool:=decide (1<=z.length)&&decide (z.length<=12)&&q73 fs z.cps.toList
def txtK (fs:Str):Key ->Bool
 | .inr z=>txtB fs z
 | .inl _=>false
def TxOk:Key ->Prop
 | .inr z=>z.length<=200/\PyData.strOk z=true
 | .inl _=>True
def keyD:Key ->PyData
 | .inr z=> .str z
 | .inl i=> .int i
theorem q44 {K:PySem.W.Frag} {H:Hp}:∀ {t:Key},TxOk t ->Dat K H (keyD t) (kV t)
 | .inr z,h=> .str z h.2
 | .inl i,_=> .int i
theorem qd1 {fs z:Str} (h:¬ (1<=z.length/\z.length<=12)):txtB fs z=false:=by
 unfold txtB;by_cases h1:1<=z.length
 ·have h2:¬ z.length<=12:=λ q=>h ⟨h1,q⟩;simp [h2]
 ·simp [h1]
theorem q8j {fs z:Str} (h1:1<=z.length) (h2:z.length<=12):txtB fs z=q73 fs z.cps.toList:=by
 unfold txtB;simp [h1,h2]
theorem q2z (z:Str):z.cps.toList.length=z.length:=by simp [Str.length]
theorem qa7 {z:Str} (h:1<=z.length):∃ c r,z.cps.toList=c::r:=by
 have:=q2z z;cases e:z.cps.toList with
 | nil=>rw [e] at this;simp at this;omega
 | cons c r=>exact ⟨c,r,rfl⟩
theorem qjt {z:Str} (h:1<=z.length):(cutS z (some 1) none).cps.toList=z.cps.toList.tail:=by
 have e1:HT.sIx z.length 0 (some 1)=1:=by
  have:=HT.sIx_nat z.length 0 1;rw [show ((1:Nat):Int)=1 from rfl] at this;rw [this];omega
 have hl:=q2z z;unfold cutS;rw [e1,HT.sIx_none];show ((z.cps.toList.drop 1).take (z.length - 1)).toArray.toList=_;rw [z11,z0h (by rw [z1v];omega),List.drop_one]
variable {P:Program} {w:World} {K:PySem.W.Frag} {mg:Str ->Option Value} {base:Heap}
def qmd (K:PySem.W.Frag):Sp:=λ vs H Q _=>∃ (a:Addr) (ns:List Int) (k:Int),vs=[.ref a,.int k]/\SqL K H a (ns.map V.int)/\0<=k/\Q (.int (ns.getD k.toNat 0)) H
theorem q12 (T:Txt K mg):Def P w K mg base 1 "_law_cell_at" ["_law_script","_law_k"] (qmd K):=by
 refine T.qb2.ok qa6 (λ vs H Q E h=> ?_) λ f cdv A outer s H vs Q E hr h=> ?_
 ·obtain ⟨a,ns,k,rfl,_⟩:=h;rfl
 ·obtain ⟨a,ns,k,rfl,D,h0,q⟩:=h;refine ⟨_,(q3r
   (q1e (q15 q75 (pv 1) (qu (q1b K) rfl T.b_len q1w (pa_1 (pv 0))) (q14 _)) (qi (qt (qh (qx K) (pv 0) (pv 1) (λ _ _=>rfl)))) q11)
   (qt qc)),?_⟩
  refine ⟨_,zr,_,zr,_,_,zr,.inl ⟨_,D,zr⟩,_,_,zr,zr,_,zr,?_⟩;rw [z2c];refine ite2 (λ h1=> ?_) (λ h1=> ?_)
  ·have B:k < ns.length:=by simpa using h1
   have hk:k.toNat < ns.length:=by omega
   refine ⟨_,zr,_,zr,_,_,_,V.int (ns.getD k.toNat 0),zr,zr,D,?_,q⟩;rw [qnm h0 (by rw [z2c];exact B),z1j,z09 hk,qlv hk];rfl
  ·have B:¬ k < ns.length:=by simpa using h1
   have e:ns.getD k.toNat 0=0:=by
    exact qlw (by omega)
   rw [e] at q;exact q
def qju (K:PySem.W.Frag):Sp:=λ vs H Q _=>∃ (t:Key) (fs:Str),vs=[kV t,.str fs]/\TxOk t/\∀ H',Same H H' ->Q (.bl (txtK fs t)) H'
theorem q7q (T:Txt K mg):Def P w K mg base 1 "is_text_begun_by" ["thing","first_signs"] (qju K):=by
 refine T.q8a.ok q7p (λ vs H Q E h=> ?_) λ f cdv A outer s H vs Q E hr h=> ?_
 ·obtain ⟨t,fs,rfl,_⟩:=h;rfl
 ·obtain ⟨t,fs,rfl,hz,k⟩:=h;have hd:=q44 (K:=K) (H:=H) hz;refine ⟨_,(q3r
   (q1e (PW.pt (q68 (q33 (q1s (qu (q3b K) rfl T.q1j q1c (pa_2 (pv 0) (q3f rfl T.b_str q6w))))) (q5n (q33 (qiw qkp qkp qc (qu (q1b K) rfl T.b_len q1w (pa_1 (pv 0))) (qos rfl T.qdn)))))) (qi (qt q4f)) q11)
   (qt (qce (q24 q7z (qh q9p (pv 0) qc (λ _ _=>rfl)) (pv 1) (by with_unfolding_all rfl)) (qcd (qu (q6c rfl K) rfl T.b_all q9w (pa_1 (q25 (N:=["sign"]) (caps:=[none]) rfl (by with_unfolding_all rfl) (qnj (q3e qnk (pv 0) (q3l qc) q4c)) (λ _ _ _ _ _=>(qq (i:=0) (show (["sign"]:List Str).Nodup by decide+kernel) rfl (Or.inl rfl))) (λ _ _ _ _ _=>q3u) (λ _ _ _ _ _=>(q24 q7z (pv 0) (qkw rfl T.qae) (by with_unfolding_all rfl)))))))))),?_⟩
  cases t with
  | inr z=>
   have hz:=hz.1;have J:z.length<=sizeLine:=z34 hz (by decide);have no:¬ (1<=z.length/\z.length<=12) ->Q (.bl false) H:=λ q=>by
    have:=k H (Same.refl H);rw [show txtK fs (.inr z)=false from qd1 q] at this;exact this
   refine ⟨_,zr,_,_,_,zr,hd,by decide,_,zr,?_⟩;refine q1p (show (!tyIs "str" "str")=false by decide) ?_;refine ⟨_,zr,_,_,zr,⟨J,zr⟩,_,_,zr,zr,_,zr,?_⟩;refine ite2 (λ h1=> ?_) (λ h1=> ?_)
   ·refine ⟨_,_,zr,zr,_,zr,?_⟩;refine ite2 (λ h2=> ?_) (λ h2=> ?_)
    ·exact no λ q=>by simp at h2;omega
    ·have l1:1<=z.length:=by simp at h1;omega
     have l2:z.length<=12:=by simp at h2;omega
     obtain ⟨c,r,B⟩:=qa7 l1;have Y:txtK fs (.inr z)=q73 fs z.cps.toList:=q8j (fs:=fs) l1 l2;rw [B] at Y;refine ⟨_,rfl,_,_,c,rfl,rfl,J,(by rw [B];exact qk (j:=0) rfl),_,rfl,_,_,rfl,rfl,_,rfl,?_⟩;rw [StrLaws.found_one];refine ite2 (λ h3=> ?_) (λ h3=> ?_)
     ·refine ⟨_,zr,_,zr,_,zr,J,_,zr,λ D hD=> ?_⟩;have O:(cutS z (some 1) none).cps.toList=r:=by rw [qjt l1,B];rfl
      have hrl:r.length<=12:=by
       have:=q2z z;rw [B,z1w] at this;omega
      have U:(cutS z (some 1) none).cps.size=r.length:=by rw [<- O,z0v]
      refine q20 r.length (λ i σ' H'=>(∃ v,σ'=[v])/\H'=upd H D (.lst ((r.take i).map λ c=>V.bl (decide (c∈fur.cps.toList))))) ⟨⟨_,rfl⟩,rfl⟩ (λ i σ' H' hi _=>by show i < _;rw [U];exact hi) (λ σ' H' p=>⟨U.symm,?_⟩) (λ i σ' H' hi p x H2 y=> ?_)
      ·obtain ⟨_,rfl⟩:=p;refine ⟨D,r.map λ c=>decide (c∈fur.cps.toList),rfl,SqL.of (by rw [qa,z26,z3a];rfl),?_⟩;have:=k (upd H D (.lst ((r.take r.length).map λ c=>V.bl (decide (c∈fur.cps.toList))))) (qd hD);rw [Y] at this;have e2:q73 fs (c::r)=(r.map λ c=>decide (c∈fur.cps.toList)).all id:=by
        show (decide (c∈fs.cps.toList)&&_)=_;rw [h3,Bool.true_and,z39];rfl
       rw [e2] at this;exact this
      ·obtain ⟨⟨v,rfl⟩,rfl⟩:=p;obtain ⟨rfl,c',hc,rfl⟩:=y;have Z:r[i]? =some c':=by rw [<- O,z0o];exact hc
       refine ⟨_,zr,_,_,zr,zr,_,qa,?_,⟨_,zr⟩,?_⟩
       ·rw [z2c,z1u];exact q1r (by omega)
       ·rw [qep,StrLaws.found_one,z2r,Z,z2h];rfl
     ·have:=k H (Same.refl H);rw [Y] at this;have e2:q73 fs (c::r)=false:=by
       show (decide (c∈fs.cps.toList)&&_)=_;rw [Bool.eq_false_iff.mpr h3,z2o]
      rw [e2] at this;exact this
   ·refine ⟨_,zr,iteT ?_⟩;exact no λ q=>by simp at h1;omega
  | inl i=>
   refine ⟨_,zr,_,_,_,zr,hd,by decide,_,zr,?_⟩;refine q4x (show (!tyIs "int" "str")=true by decide) (iteT ?_);exact k H (Same.refl H)
theorem qbg (T:Txt K mg):Def P w K mg base 2 "is_var" ["thing"] (λ vs H Q _=>∃ t:Key,vs=[kV t]/\TxOk t/\∀ H',Same H H' ->Q (.bl (txtK capS t)) H'):=by
 refine T.qkk.ok qhu (λ vs H Q E h=> ?_) λ f cdv A outer s H vs Q E hr h=> ?_
 ·obtain ⟨t,rfl,_⟩:=h;rfl
 ·obtain ⟨t,rfl,hz,k⟩:=h;refine ⟨_,(qi (qt (ql (q7q T) hr rfl (pa_2 (pv 0) (qkw rfl T.q8t))))),?_⟩;exact ⟨_,zr,t,_,zr,hz,k⟩
def mPut (kvs:List (Key×V)) (t v:Key):List (Key×V):=if txtK capS t=true/\valV kvs t=none then putK kvs t (kV v) else kvs
def q19 (kvs:List (Key×V)) (t v:Key):Option (List (Key×V)):=if (valV (mPut kvs t v) t).getD (kV t)=kV v then some (mPut kvs t v) else none
def mAll (kvs:List (Key×V)):List (Key×Key) ->Option (List (Key×V))
 | []=>some kvs
 | p::r=>(q19 kvs p.1 p.2).bind λ k=>mAll k r
theorem q3x (l r:List (Key×Key)):∀ kvs,mAll kvs (l++r)=(mAll kvs l).bind λ k=>mAll k r:=by
 induction l with
 | nil=>exact λ kvs=>rfl
 | cons p l ih=>
  intro kvs;show (q19 kvs p.1 p.2).bind (λ k=>mAll k (l++r))=((q19 kvs p.1 p.2).bind λ k=>mAll k l).bind _;cases q19 kvs p.1 p.2 with
  | none=>rfl
  | some k=>exact ih k
theorem qhw {kvs k:List (Key×V)} {l:List (Key×Key)} {i:Nat} {t v:Key} (h:mAll kvs (l.take i)=some k) (e:l[i]? =some (t,v)):mAll kvs (l.take (i+1))=q19 k t v:=by
 rw [z2r,e,q3x,h];show (q19 k t v).bind (λ k=>some k)=_;cases q19 k t v <;> rfl
theorem qhx {kvs:List (Key×V)} {l:List (Key×Key)} {i:Nat} (h:mAll kvs (l.take i)=none):mAll kvs l=none:=by
 rw [<- z0m i l,q3x,h];rfl
def AllK (kvs:List (Key×V)):Prop:=∀ kv∈kvs,∃ j:Key,kv.2=kV j
theorem q8k {kvs:List (Key×V)} {k:Key} {v:V} {B:Key×V} (h:B∈putK kvs k v):B∈kvs\/ B=(k,v):=by
 unfold putK at h;split at h
 ·obtain ⟨p,hp,e⟩:=z38.mp h;split at e
  ·rename_i z;exact .inr (by rw [<- e,<- z])
  ·exact .inl (by rw [<- e];exact hp)
 ·rcases z27.mp h with h | h
  ·exact .inl h
  ·exact .inr (z16.mp h)
theorem q86 {kvs:List (Key×V)} {k:Key} {v:V} (h:valV kvs k=some v):(k,v)∈kvs:=by
 unfold valV at h;obtain ⟨kv,B,rfl⟩:=z0k.mp h;have h1:=List.find?_some B;have h2:=List.mem_of_find?_eq_some B;have:kv.1=k:=by simpa using h1
 rw [<- this];exact h2
theorem AllK.put {kvs:List (Key×V)} (h:AllK kvs) (t v:Key):AllK (mPut kvs t v):=by
 unfold mPut;split
 ·intro kv hk;rcases q8k hk with hk | rfl
  ·exact h kv hk
  ·exact ⟨v,zr⟩
 ·exact h
theorem AllK.get {kvs:List (Key×V)} (h:AllK kvs) (t:Key):∃ j:Key,(valV kvs t).getD (kV t)=kV j:=by
 cases e:valV kvs t with
 | none=>exact ⟨t,rfl⟩
 | some v=>exact h _ (q86 e)
theorem q90 (kvs:List (Key×V)) (t v:Key):(mPut kvs t v).length<=kvs.length+1:=by
 unfold mPut;split
 ·exact q2a ..
 ·exact Nat.le_succ _
theorem qhy:∀ u v:Key,scal (kV u) (kV v)=true
 | .inl _,.inl _=>rfl
 | .inl _,.inr _=>rfl
 | .inr _,.inl _=>rfl
 | .inr _,.inr _=>rfl
def qgf (K:PySem.W.Frag):Sp:=λ vs H Q _=>∃ (a b d:Addr) (ts us:List Key) (kvs:List (Key×V)),vs=[.ref a,.ref b,.ref d]/\SqT K H a (ts.map kV)/\SqT K H b (us.map kV)/\H d=some (.dK kvs)/\
 (∀ t∈ts,TxOk t)/\AllK kvs/\ts.length<=100/\kvs.length<=100/\
 ((ts.length≠us.length\/ mAll kvs (ts.zip us)=none) ->∀ H',Same H H' ->Q .non H')/\
 (∀ k2 p H',ts.length=us.length ->mAll kvs (ts.zip us)=some k2 ->Same H H' ->H p=none ->H' p=some (.dK k2) ->Q (.ref p) H')
theorem qgg (T:Txt K mg):Def P w K mg base 3 "matched" ["terms","row","binding"] (qgf K):=by
  refine T.qio.ok q5f (λ vs H Q E h=> ?_) λ f cdv A outer s H vs Q E hr h=> ?_
  · obtain ⟨a,b,d,ts,us,kvs,rfl,_⟩:=h
    rfl
  · obtain ⟨a,b,d,ts,us,kvs,rfl,ha,hb,hd,hts,O,lt,lk,kn,ks⟩:=h
    have la:LenV K (.ref a) H ts.length:= .inr ⟨_,ha,by rw [z2c]⟩;have lb:LenV K (.ref b) H us.length:= .inr ⟨_,hb,by rw [z2c]⟩;refine ⟨_,(q78
      (q1e (q15 q4h (qu (q1b K) rfl T.b_len q1w (pa_1 (pv 0))) (qu (q1b K) rfl T.b_len q1w (pa_1 (pv 1))) (q14 _)) (qi (qt q4y)) q11)
      (qo (i:=3) q5f.nd rfl (Or.inl rfl) (q1u q9z rfl T.qim qf2 (pa_1 (pv 2))))
      (q1t PassesOwn.never rfl (qho K rfl T.b_zip (pa_2 (pv 0) (pv 1))) (q43 rfl (q1g (qq (i:=4) q5f.nd rfl (Or.inl rfl)) (q1g (qq (i:=5) q5f.nd rfl (Or.inl rfl)) q34))) (q3r
      (q1e (q1s (ql (qbg T) hr rfl (pa_1 (pv 4)))) (qi (q2n (qjj (pv 3) (pv 4) (pv 5) ⟨rfl,rfl,rfl,rfl⟩))) q11)
      (q1e (q15 q4h (q3t (q2w hr) (pv 3) (pv 4) (pv 4) ⟨rfl,rfl,rfl,rfl⟩) (pv 5) (q14 _)) (qi (qt q4y)) q11)))
      (qt (pv 3))),?_⟩
    refine ⟨_,zr,_,_,zr,la,_,zr,_,_,zr,lb,zr,_,zr,ite2 (λ h1=> ?_) (λ h1=> ?_)⟩
    · refine kn (.inl λ e=> ?_) H (Same.refl H)
      rw [e] at h1;simp at h1
    · have el:ts.length=us.length:=by
        have:decide (V.int ts.length=V.int us.length)=true:=by
          cases q:decide (V.int ts.length=V.int us.length) with
          | true=>rfl
          | false=>exact absurd (by show (!decide (V.int ts.length=V.int us.length))=true;rw [q];rfl) h1
        have:=of_decide_eq_true this;injection this with e;omega
      refine ⟨_,zr,d,kvs,zr,.inl hd,λ q hq=> ?_⟩;have s1:=qd (o:=HO.dK kvs) hq;refine ⟨_,zr,_,zr,a,b,zr,⟨_,s1.seqT ha⟩,⟨_,s1.seqT hb⟩,?_⟩;refine qf7 (xs:=ts.map kV) (ys:=us.map kV) (λ i σ H'=>∃ (v1 v2:Option V) (B:List (Key×V)),σ=[some (.ref a),some (.ref b),some (.ref d),some (.ref q),v1,v2]/\Same H H'/\H' q=some (.dK B)/\mAll kvs ((ts.zip us).take i)=some B/\AllK B/\B.length<=100+i)
        ⟨none,none,kvs,rfl,s1,qa,rfl,O,lk⟩ (λ i σ H' _ p=> ?_) ?_ ?_
      · obtain ⟨v1,v2,B,_,D,_⟩:=p
        exact ⟨D.seqT ha,D.seqT hb⟩
      · rintro i x y p σ H' hx hy hp ⟨v1,v2,B,rfl,D,hk,hm,J,hl⟩
        rw [z1j] at hx hy;obtain ⟨t,ht,rfl⟩:=z0k.mp hx;obtain ⟨v,hv,rfl⟩:=z0k.mp hy;have hil:i < 100:=z1a (z06.mp ht).1 lt;have U:(ts.zip us)[i]? =some (t,v):=by
          rw [List.getElem?_zip_eq_some];exact ⟨ht,hv⟩
        have nx:=qhw hm U;have s3:=qd (o:=HO.tup [kV t,kV v]) hp;have qp:q≠p:=λ e=>by rw [e,hp] at hk;cases hk
        refine ⟨p,_,zr,SqT.of qa,zr,_,_,zr,_,_,zr,zr,?_⟩;have fin:∀ H4:Hp,Same H H4 ->H4 q=some (.dK (mPut B t v)) ->(tIfS (qfo (tOp rNe (qh4 (tVar 3) (tVar 4) (tVar 4)) (tVar 5))) (tRet (tC V.non)) qkn)
            {nx:=(λ σ H'=>∃ (v1 v2:Option V) (Z:List (Key×V)),σ=[some (.ref a),some (.ref b),some (.ref d),some (.ref q),v1,v2]/\Same H H'/\H' q=some (.dK Z)/\mAll kvs ((ts.zip us).take (i+1))=some Z/\AllK Z/\Z.length<=100+(i+1)),rt:=Q}
            [some (.ref a),some (.ref b),some (.ref d),some (.ref q),some (kV t),some (kV v)] H4:=λ H4 s4 h4=>by
          obtain ⟨j,ej⟩:=(J.put t v).get t;have sc:scal ((valV (mPut B t v) t).getD (kV t)) (kV v)=true:=by rw [ej];exact qhy j v
          refine ⟨_,zr,q,zr,.inl ⟨_,.inl h4⟩,_,zr,_,zr,_,DGet.k h4,_,zr,sc,_,zr,ite2 (λ h2=> ?_) (λ h2=> ?_)⟩
          · refine kn (.inr (qhx (i:=i+1) ?_)) _ s4
            rw [nx];unfold q19;rw [if_neg];intro e;rw [z2m e] at h2;cases h2
          · refine ⟨_,_,mPut B t v,zr,s4,h4,?_,J.put t v,?_⟩
            · rw [nx]
              unfold q19;rw [if_pos];by_cases e:(valV (mPut B t v) t).getD (kV t)=kV v
              · exact e
              · exact absurd (by rw [z28 e];rfl) h2
            · have:=q90 B t v
              omega
        refine ⟨_,zr,t,zr,hts t (z0u ht),λ H3 Y=>⟨_,zr,ite2 (λ h2=> ?_) (λ h2=> ?_)⟩⟩
        · have h3:=Y _ _ (s3 _ _ hk)
          refine ⟨_,zr,q,zr,.inl ⟨_,.inl h3⟩,_,zr,_,zr,B,t,h3,zr,q1r (by omega),λ u e=> ?_,λ e=> ?_⟩
          · refine fin _ (D.trans (s3.trans Y)) ?_
            unfold mPut;rw [if_neg (λ z=>by rw [e] at z;exact nomatch z.2)];exact h3
          · refine fin _ ((D.trans (s3.trans Y)).set hq) ?_
            unfold mPut;rw [if_pos ⟨h2,e⟩];exact qa
        · refine fin _ (D.trans (s3.trans Y)) ?_
          unfold mPut;rw [if_neg (λ z=>h2 z.1)];exact Y _ _ (s3 _ _ hk)
      · rintro σ H' ⟨v1,v2,B,rfl,D,hk,hm,J,hl⟩
        rw [z2c,z2c,z0h (by rw [List.length_zip];exact z3b _)] at hm;exact ⟨_,zr,ks B q H' el hm D hq hk⟩
def later:Str:="0123456789abcdefghijklmnopqrstuvwxyz"
theorem qbh:later.length=36:=by decide+kernel
theorem qhz:∀ c∈later.cps.toList,c∈fur.cps.toList:=by decide+kernel
theorem qjv (a b:Str):(a++b).cps.toList=a.cps.toList++b.cps.toList:=by
 show (a.cps++b.cps).toList=_;rw [z0w]
theorem qd2 {z:Str} (h:∀ c∈z.cps.toList,c < 0x110000):PyData.strOk z=true:=by
 unfold PyData.strOk;rw [<- Array.all_toList,z21];exact λ c hc=>z2m (h c hc)
theorem qi0:∀ c∈fur.cps.toList,c < 0x110000:=by decide+kernel
def Wz (n:Nat) (z:Str):Prop:=z.length<=n/\∀ c∈z.cps.toList,c∈fur.cps.toList
theorem Wz.ok {n:Nat} {z:Str} (h:Wz n z):PyData.strOk z=true:=qd2 λ c hc=>qi0 c (h.2 c hc)
def strLt (x y:Str):Bool:=decide (x.cps.toList < y.cps.toList)
def befK:Key ->Key ->Bool
 | .inl i,.inl j=>decide (i < j)
 | .inl _,.inr _=>true
 | .inr _,.inl _=>false
 | .inr x,.inr y=>strLt x y
def keyV:Key ->List V
 | .inl i=>[.int 0,.int i,.str ""]
 | .inr z=>[.int 1,.int 0,.str z]
def qky:Key ->List PyData
 | .inl i=>[.int 0,.int i,.str ""]
 | .inr z=>[.int 1,.int 0,.str z]
def ordD (k:Key):PyData:= .tuple (qky k)
def valD:Key ->PyData
 | .inl i=> .int i
 | .inr z=> .str z
def OkK:Key ->Prop
 | .inl _=>True
 | .inr z=>Wz 40 z
theorem qme {K:PySem.W.Frag} {H:Hp}:∀ {k:Key},OkK k ->Dat K H (valD k) (kV k)
 | .inl i,_=> .int i
 | .inr z,h=> .str z (Wz.ok (n:=40) h)
theorem qd3 {K:PySem.W.Frag} {H:Hp}:∀ {k:Key},OkK k ->Dats K H (qky k) (keyV k)
 | .inl i,_=> .cons (.int 0) (.cons (.int i) (.cons (.str "" (by decide+kernel)) .nil))
 | .inr z,h=> .cons (.int 1) (.cons (.int 0) (.cons (.str z (Wz.ok (n:=40) h)) .nil))
theorem qi1 (k:Key):(ordD k).depth=1:=by cases k <;> rfl
theorem qmf (a b:Int):PyData.eqv (.int a) (.int b)=decide (a=b):=by
 show (a==b)=_;by_cases h:a=b <;> simp [h]
theorem qf8 (a b:Str):PyData.eqv (.str a) (.str b)=decide (a=b):=by
 show (a==b)=_;by_cases h:a=b <;> simp [h]
theorem qmg:∀ a b:Key,ltD? (ordD a) (ordD b)=some (befK a b)
 | .inl i,.inl j=>by
  show lexD? [.int 0,.int i,.str ""] [.int 0,.int j,.str ""]=_;rw [lexD?,if_pos (by decide),lexD?,qmf];by_cases h:i=j
  ·subst h;rw [if_pos (by simp),lexD?,if_pos (by decide),lexD?];simp [befK]
  ·rw [if_neg (by simpa using h),ltD?];rfl
 | .inl i,.inr y=>by
  show lexD? [.int 0,.int i,.str ""] [.int 1,.int 0,.str y]=_;rw [lexD?,if_neg (by decide),ltD?];rfl
 | .inr x,.inl j=>by
  show lexD? [.int 1,.int 0,.str x] [.int 0,.int j,.str ""]=_;rw [lexD?,if_neg (by decide),ltD?];rfl
 | .inr x,.inr y=>by
  show lexD? [.int 1,.int 0,.str x] [.int 1,.int 0,.str y]=_;rw [lexD?,if_pos (by decide),lexD?,if_pos (by decide),lexD?,qf8];by_cases h:x=y
  ·subst h;rw [if_pos (by simp),lexD?];simp [befK,strLt,List.lt_irrefl]
  ·rw [if_neg (by simpa using h),ltD?];rfl
def qny:PyData ->Bool
 | .int _=>true
 | _=>false
def qjw (K:PySem.W.Frag):Sp:=λ vs H Q _=>∃ x d,vs=[x]/\Dat K H d x/\Q (.bl (qny d)) H
theorem qe9 (T:Txt K mg):Def P w K mg base 1 "is_whole" ["thing"] (qjw K):=by
 refine T.qgj.ok qe6 (λ vs H Q E h=> ?_) λ f cdv A outer s H vs Q E hr h=> ?_
 ·obtain ⟨x,d,rfl,_⟩:=h;rfl
 ·obtain ⟨x,d,rfl,hd,k⟩:=h;refine ⟨_,(qi (qt (qce (qu (q3b K) rfl T.q1j q1c (pa_2 (pv 0) (q3f rfl T.b_int q9x))) (qcd (qn3 (qu (q3b K) rfl T.q1j q1c (pa_2 (pv 0) (q3f rfl T.qip qf0)))))))),?_⟩;refine ⟨_,zr,_,_,_,zr,hd,by decide,_,zr,ite2 (λ h1=> ?_) (λ h1=> ?_)⟩
  ·refine ⟨_,zr,_,_,_,zr,hd,by decide,_,zr,?_⟩;cases hd <;> first | exact k | (exact absurd h1 z15)
  ·cases hd <;> first | exact k | (exact absurd rfl h1)
def qmh:Sp:=λ vs H Q _=>∃ k:Key,vs=[kV k]/\OkK k/\∀ p,H p=none ->Q (.ref p) (upd H p (.tup (keyV k)))
theorem q87 (T:Txt K mg):Def P w K mg base 2 "value_key" ["value"] qmh:=by
 refine T.qec.ok qcx (λ vs H Q E h=> ?_) λ f cdv A outer s H vs Q E hr h=> ?_
 ·obtain ⟨k,rfl,_⟩:=h;rfl
 ·obtain ⟨k,rfl,hk,q⟩:=h;refine ⟨_,(q3r
   (q1e (q1s (ql (qe9 T) hr rfl (pa_1 (pv 0)))) (qi (qt (q2j (pa_3 qc (pv 0) q2i)))) q11)
   (qt (q2j (pa_3 qc qc (pv 0))))),?_⟩
  refine ⟨_,zr,_,valD k,zr,qme hk,_,zr,?_⟩;cases k with
  | inl i=>
   refine iteT ?_;exact ⟨_,rfl,by show 3<=sizeLine;decide,λ p hp=>q p hp⟩
  | inr z=>
   refine iteF ?_;exact ⟨_,rfl,by show 3<=sizeLine;decide,λ p hp=>q p hp⟩
def qmi:Sp:=λ vs H Q _=>∃ a b:Key,vs=[kV a,kV b]/\OkK a/\OkK b/\∀ H',Same H H' ->Q (.bl (befK a b)) H'
theorem qa8 (T:Txt K mg):Def P w K mg base 3 "value_before" ["one","other"] qmi:=by
 refine T.qb1.ok qa4 (λ vs H Q E h=> ?_) λ f cdv A outer s H vs Q E hr h=> ?_
 ·obtain ⟨a,b,rfl,_⟩:=h;rfl
 ·obtain ⟨a,b,rfl,D,J,q⟩:=h;refine ⟨_,(qi (qt (q24 (qnp hr.units K) (ql (q87 T) hr rfl (pa_1 (pv 0))) (ql (q87 T) hr rfl (pa_1 (pv 1))) (q14 _)))),?_⟩;refine ⟨_,zr,a,zr,D,λ p hp=> ?_⟩;have s1:=qd (o:=HO.tup (keyV a)) hp;refine ⟨_,zr,b,zr,J,λ r B=> ?_⟩;have O:=qd (o:=HO.tup (keyV b)) B;refine ⟨ordD a,ordD b,befK a b,.tup (SqT.of (O _ _ qa)) (qd3 D),.tup (SqT.of qa) (qd3 J),by rw [qi1];decide,qmg a b,q _ (s1.trans O)⟩
def tv (kvs:List (Key×V)) (t:Key):V:=(valV kvs t).getD (kV t)
def qjx (K:PySem.W.Frag):Sp:=λ vs H Q _=>∃ (a b:Addr) (ts:List Key) (kvs:List (Key×V)),vs=[.ref a,.ref b]/\SqT K H a (ts.map kV)/\H b=some (.dK kvs)/\ts.length<=100/\
 ∀ p H',Same H H' ->H' p=some (.tup (ts.map (tv kvs))) ->Q (.ref p) H'
theorem q6f (T:Txt K mg):Def P w K mg base 1 "put_in" ["terms","binding"] (qjx K):=by
 refine T.qki.ok qhv (λ vs H Q E h=> ?_) λ f cdv A outer s H vs Q E hr h=> ?_
 ·obtain ⟨a,b,ts,kvs,rfl,_⟩:=h;rfl
 ·obtain ⟨a,b,ts,kvs,rfl,ht,U,hl,k⟩:=h;refine ⟨_,(qi (qt (q1u (q2b K) rfl T.q2t q2h (pa_1 (q25 (N:=["term","binding"]) (caps:=[none,some 1]) rfl (by with_unfolding_all rfl) (q4d K (pv 0)) (λ _ _ _ _ _=>(qq (i:=0) (show (["term","binding"]:List Str).Nodup by decide+kernel) rfl (Or.inl rfl))) (λ _ _ _ _ _=>q3u) (λ _ _ _ _ _=>(q3t (q2w hr) (pv 1) (pv 0) (pv 0) ⟨zr,zr,zr,zr⟩))))))),?_⟩;refine ⟨_,zr,a,zr,⟨_,ht⟩,λ D O=> ?_⟩;refine q20 (ts.map kV).length (λ i σ' H'=>(∃ v,σ'=[v,some (.ref b)])/\Same H H'/\H' D=some (.lst ((ts.take i).map (tv kvs)))) ⟨⟨_,zr⟩,qd O,qa⟩ (λ i σ' H' hi p=> ?_) (λ σ' H' p=>⟨?_,?_⟩) (λ i σ' H' hi p x H2 y=> ?_)
  ·obtain ⟨_,B,_⟩:=p;exact ⟨_,(ts.map kV)[i],B.seqT ht,z09 hi⟩
  ·obtain ⟨_,B,_⟩:=p;exact ⟨_,B.seqT ht,z3b _⟩
  ·obtain ⟨_,B,e⟩:=p;rw [z2c,z26] at e;refine ⟨_,_,zr,.inl ⟨SqL.of e,λ q hq=> ?_⟩⟩;exact k q _ (B.trans (qd hq)) qa
  ·obtain ⟨⟨v,rfl⟩,B,e⟩:=p;obtain ⟨rfl,hx⟩:=y;have J:=hx _ (B.seqT ht);rw [z1j] at J;obtain ⟨kk,hk,rfl⟩:=z0k.mp J;refine ⟨_,zr,b,zr,.inl ⟨kvs,.inl (B _ _ U)⟩,_,zr,_,zr,_,DGet.k (B _ _ U),?_⟩;refine ⟨_,e,?_,⟨_,zr⟩,B.set O,?_⟩
   ·rw [z2c,z1u];exact q1r (by omega)
   ·rw [qa,z2r,hk,z2h];rfl
theorem q4e:∀ u v:Key,scal (kV u) (kV v)=true
 | .inl _,.inl _=>rfl
 | .inl _,.inr _=>rfl
 | .inr _,.inl _=>rfl
 | .inr _,.inr _=>rfl
def sgE:Str:="="
def sgN:Str:="!="
def sgL:Str:="<"
def qjy (K:PySem.W.Frag):Sp:=λ vs H Q _=>∃ (c b:Addr) (sg:Str) (x y u v:Key) (kvs:List (Key×V)),vs=[.ref c,.ref b]/\H c=some (.tup [.str sg,kV x,kV y])/\H b=some (.dK kvs)/\tv kvs x=kV u/\tv kvs y=kV v/\OkK u/\OkK v/\
 ∀ H',Same H H' ->Q (.bl (if sg=sgE then decide (kV u=kV v) else if sg=sgN then !decide (kV u=kV v) else befK u v)) H'
theorem qjz (T:Txt K mg):Def P w K mg base 4 "holds" ["choice","binding"] (qjy K):=by
  refine T.qmv.ok qcy (λ vs H Q E h=> ?_) λ f cdv A outer s H vs Q E hr h=> ?_
  · obtain ⟨c,b,sg,x,y,u,v,kvs,rfl,_⟩:=h
    rfl
  · obtain ⟨c,b,sg,x,y,u,v,kvs,rfl,U,hb,ex,ey,ou,ov,k⟩:=h
    refine ⟨_,(q78
      (qo (i:=2) qcy.nd rfl (Or.inl rfl) (ql (q6f T) hr rfl (pa_2 (q3e (qlu K) (pv 0) (q3l qc) q4c) (pv 1))))
      (q1e (q15 q3q (qh (qr K) (pv 0) qc (λ _ _=>rfl)) q2i (q14 _)) (qi (qt (q24 q3q (qh (qr K) (pv 2) qc (λ _ _=>rfl)) (qh (qr K) (pv 2) qc (λ _ _=>rfl)) (q14 _)))) q11)
      (q1e (q15 q3q (qh (qr K) (pv 0) qc (λ _ _=>rfl)) q2i (q14 _)) (qi (qt (q24 q4h (qh (qr K) (pv 2) qc (λ _ _=>rfl)) (qh (qr K) (pv 2) qc (λ _ _=>rfl)) (q14 _)))) q11)
      (qt (ql (qa8 T) hr rfl (pa_2 (qh (qr K) (pv 2) qc (λ _ _=>rfl)) (qh (qr K) (pv 2) qc (λ _ _=>rfl)))))),?_⟩
    refine ⟨_,rfl,_,rfl,_,_,rfl,SqT.of U,(λ z=>absurd z.1 (by show ¬ HT.sIx 3 0 (some 1)=0;decide)),λ q hq=> ?_⟩;have D:cutV [V.str sg,kV x,kV y] (some 1) none=([x,y]:List Key).map kV:=rfl;rw [D];have s1:=qd (o:=HO.tup (([x,y]:List Key).map kV)) hq;refine ⟨_,rfl,q,b,[x,y],kvs,rfl,SqT.of qa,s1 _ _ hb,by show 2<=100;decide,λ p H2 O hp=> ?_⟩;have hp':H2 p=some (.tup [kV u,kV v]):=by
      rw [hp,<- ex,<- ey];rfl
    have J:=O _ _ (s1 _ _ U);have B:=k H2 (s1.trans O);refine ⟨_,zr,_,_,_,_,zr,zr,SqT.of J,qk (j:=0) rfl,zr,_,zr,ite2 (λ h1=> ?_) (λ h1=> ?_)⟩
    · have e1:sg=sgE:=by
        have:=of_decide_eq_true h1;injection this
      rw [if_pos e1] at B;exact ⟨_,zr,_,_,_,_,zr,zr,SqT.of hp',qk (j:=0) rfl,_,zr,_,_,_,_,zr,zr,SqT.of hp',qk (j:=1) rfl,q4e u v,B⟩
    · have e1:sg≠sgE:=λ z=>h1 (z2m (by rw [z];rfl))
      rw [if_neg e1] at B;refine ⟨_,zr,_,_,_,_,zr,zr,SqT.of J,qk (j:=0) rfl,zr,_,zr,ite2 (λ h2=> ?_) (λ h2=> ?_)⟩
      · have e2:sg=sgN:=by
          have:=of_decide_eq_true h2;injection this
        rw [if_pos e2] at B;exact ⟨_,zr,_,_,_,_,zr,zr,SqT.of hp',qk (j:=0) rfl,_,zr,_,_,_,_,zr,zr,SqT.of hp',qk (j:=1) rfl,q4e u v,B⟩
      · have e2:sg≠sgN:=λ z=>h2 (z2m (by rw [z];rfl))
        rw [if_neg e2] at B;refine ⟨_,zr,_,_,_,_,zr,zr,SqT.of hp',qk (j:=0) rfl,_,zr,_,_,_,_,zr,zr,SqT.of hp',qk (j:=1) rfl,u,v,zr,ou,ov,λ H3 s3=> ?_⟩;exact k H3 (s1.trans (O.trans s3)) |> λ z=>by rw [if_neg e1,if_neg e2] at z;exact z
abbrev CT:=Str×Key×Key
abbrev AT:=Str×List Key
def AVh (H:Hp) (e:V×AT):Prop:=∃ p q,e.1= .ref p/\H p=some (.tup [.str e.2.1,.ref q])/\H q=some (.tup (e.2.2.map kV))
theorem AVh.same {H H':Hp} {e:V×AT} (h:AVh H e) (s:Same H H'):AVh H' e:=by
 obtain ⟨p,q,e1,h1,h2⟩:=h;exact ⟨p,q,e1,s _ _ h1,s _ _ h2⟩
def CVh (H:Hp) (e:V×CT):Prop:=∃ p,e.1= .ref p/\H p=some (.tup [.str e.2.1,kV e.2.2.1,kV e.2.2.2])
theorem CVh.same {H H':Hp} {e:V×CT} (h:CVh H e) (s:Same H H'):CVh H' e:=by
 obtain ⟨p,e1,h1⟩:=h;exact ⟨p,e1,s _ _ h1⟩
def qz (ts:List Key):List Key:=ts.filter (txtK capS)
theorem q3y (ts:List Key):(qz ts).length<=ts.length:=z0q ..
theorem qa9 {ts:List Key} {i:Nat} {t:Key} (h:ts[i]? =some t):qz (ts.take (i+1))=qz (ts.take i)++(if txtK capS t=true then [t] else []):=by
 unfold qz;rw [z2r,h,z1d]
 congr 1
 show List.filter (txtK capS) [t]=_;by_cases c:txtK capS t=true
 ·rw [if_pos c,List.filter_cons_of_pos c];rfl
 ·rw [if_neg c,List.filter_cons_of_neg c];rfl
theorem q36 {K:PySem.W.Frag} {H:Hp}:∀ {us:List Key},(∀ u∈us,TxOk u) ->Dats K H (us.map keyD) (us.map kV)
 | [],_=> .nil
 | u::us,h=> .cons (q44 (h u (z18 ..))) (q36 λ x hx=>h x (z0s _ hx))
theorem q4b (us:List Key):PyData.depthAll (us.map keyD)<=0:=by
 induction us with
 | nil=>exact z3b _
 | cons u us ih=>exact Nat.max_le.mpr ⟨by cases u <;> exact z3b _,ih⟩
def inK (us:List Key) (t:Key):Bool:=us.any λ u=>decide (u=t)
theorem q5j {us:List Key} {t:Key}:inK us t=true↔t∈us:=by
 unfold inK;rw [z23];exact ⟨λ ⟨u,hu,e⟩=>by rw [<- of_decide_eq_true e];exact hu,λ h=>⟨t,h,z2m rfl⟩⟩
theorem qi2 (u t:Key):PyData.eqv (keyD u) (keyD t)=decide (u=t):=by
 cases u with
 | inl i=>
  cases t with
  | inl j=>
   show decide (i=j)=_;exact decide_eq_decide.mpr ⟨λ h=>by rw [h],λ h=>by injection h⟩
  | inr z=>exact (z28 (λ h=>by cases h)).symm
 | inr x=>
  cases t with
  | inl j=>exact (z28 (λ h=>by cases h)).symm
  | inr z=>
   show PyData.eqv (.str x) (.str z)=_;rw [qf8];exact decide_eq_decide.mpr ⟨λ h=>by rw [h],λ h=>by injection h⟩
theorem qaa (us:List Key) (t:Key):((us.map keyD).any λ y=>PyData.eqv y (keyD t))=inK us t:=by
 unfold inK;rw [List.any_map]
 congr 1
 funext u
 exact qi2 u t
def qd4 (ks ts:List Key):Bool:=(qz ts).all (inK ks)
def qnz (K:PySem.W.Frag):Sp:=λ vs H Q _=>∃ (a:Addr) (ts:List Key),vs=[.ref a]/\SqT K H a (ts.map kV)/\(∀ t∈ts,TxOk t)/\ts.length<=100/\∀ L H',Same H H' ->H L=none ->H' L=some (.lst ((qz ts).map kV)) ->Q (.ref L) H'
theorem q2x (T:Txt K mg):Def P w K mg base 3 "variables_in" ["terms"] (qnz K):=by
 refine T.qaz.ok qa5 (λ vs H Q E h=> ?_) λ f cdv A outer s H vs Q E hr h=> ?_
 ·obtain ⟨a,ts,rfl,_⟩:=h;rfl
 ·obtain ⟨a,ts,rfl,ht,hok,hl,k⟩:=h;refine ⟨_,(qi (qt (q25 (N:=["term"]) (caps:=[none]) rfl (by with_unfolding_all rfl) (q4d K (pv 0)) (λ _ _ _ _ _=>(qq (i:=0) (show (["term"]:List Str).Nodup by decide+kernel) rfl (Or.inl rfl))) (λ _ _ _ _ _=>q6v (q1s (ql (qbg T) hr rfl (pa_1 (pv 0))))) (λ _ _ _ _ _=>(pv 0))))),?_⟩;refine ⟨_,zr,a,zr,⟨_,ht⟩,λ D U=> ?_⟩;refine q20 (ts.map kV).length (λ i σ' H'=>(∃ v,σ'=[v])/\Same H H'/\H' D=some (.lst ((qz (ts.take i)).map kV))) ⟨⟨_,zr⟩,qd U,qa⟩ (λ i σ' H' hi p=> ?_) (λ σ' H' p=>⟨?_,?_⟩) (λ i σ' H' hi p x H2 y=> ?_)
  ·obtain ⟨_,B,_⟩:=p;exact ⟨_,_,B.seqT ht,z09 hi⟩
  ·obtain ⟨_,B,_⟩:=p;exact ⟨_,B.seqT ht,z3b _⟩
  ·obtain ⟨_,B,e⟩:=p;rw [z2c,z26] at e;exact k D H' B U e
  ·obtain ⟨⟨v,rfl⟩,B,e⟩:=p;obtain ⟨rfl,hx⟩:=y;have O:=hx _ (B.seqT ht);rw [z1j] at O;obtain ⟨t,J,rfl⟩:=z0k.mp O;refine ⟨_,zr,t,zr,hok t (z0u J),λ H3 s3=>⟨_,zr,ite2 (λ h1=> ?_) (λ h1=> ?_)⟩⟩
   ·refine ⟨_,zr,_,s3 _ _ e,?_,⟨_,zr⟩,(B.trans s3).set U,?_⟩
    ·have:=q3y (ts.take i);rw [z1u] at this;rw [z2c];exact z1a (show _ < 1000 by omega) (by decide)
    ·rw [qa,qa9 J,if_pos h1,z2h];rfl
   ·refine ⟨⟨_,zr⟩,B.trans s3,?_⟩;rw [qa9 J,if_neg h1,z2d];exact s3 _ _ e
def qk0 (K:PySem.W.Frag):Sp:=λ vs H Q _=>∃ (a L:Addr) (ts ks:List Key),vs=[.ref a,.ref L]/\SqT K H a (ts.map kV)/\(∀ t∈ts,TxOk t)/\ts.length<=100/\H L=some (.lst (ks.map kV))/\(∀ t∈ks,TxOk t)/\∀ H',Same H H' ->Q (.bl (qd4 ks ts)) H'
theorem q61 (T:Txt K mg):Def P w K mg base 4 "are_known" ["terms","known"] (qk0 K):=by
 refine T.qeg.ok qcz (λ vs H Q E h=> ?_) λ f cdv A outer s H vs Q E hr h=> ?_
 ·obtain ⟨a,L,ts,ks,rfl,_⟩:=h;rfl
 ·obtain ⟨a,L,ts,ks,rfl,ht,hok,hl,hL,Y,k⟩:=h;refine ⟨_,(qi (qt (qu (q6c rfl K) rfl T.b_all q9w (pa_1 (q25 (N:=["variable","known"]) (caps:=[none,some 1]) rfl (by with_unfolding_all rfl) (q23 K (ql (q2x T) hr rfl (pa_1 (pv 0)))) (λ _ _ _ _ _=>(qq (i:=0) (show (["variable","known"]:List Str).Nodup by decide+kernel) rfl (Or.inl rfl))) (λ _ _ _ _ _=>q3u) (λ _ _ _ _ _=>(q24 (q70 hr.units K) (pv 0) (pv 1) (by with_unfolding_all rfl)))))))),?_⟩;refine ⟨_,zr,a,ts,zr,ht,hok,hl,λ V1 H1 s1 hV0 U=> ?_⟩;have vl:=q3y ts;refine ⟨V1,zr,⟨_,SqL.of U⟩,λ D Z=> ?_⟩;refine q20 ((qz ts).map kV).length (λ i σ' H'=>(∃ v,σ'=[v,some (.ref L)])/\Same H1 H'/\H' D=some (.lst ((((qz ts).take i).map (inK ks)).map V.bl))) ⟨⟨_,zr⟩,qd Z,qa⟩ (λ i σ' H' hi p=> ?_) (λ σ' H' p=>⟨?_,?_⟩) (λ i σ' H' hi p x H2 y=> ?_)
  ·obtain ⟨_,B,_⟩:=p;exact ⟨_,_,SqL.of (B _ _ U),z09 hi⟩
  ·obtain ⟨_,B,_⟩:=p;exact ⟨_,SqL.of (B _ _ U),z3b _⟩
  ·obtain ⟨_,B,e⟩:=p;rw [z2c,z26] at e;refine ⟨D,_,zr,SqL.of e,?_⟩;have:=k H' (s1.trans B);rw [z39];exact this
  ·obtain ⟨⟨v,rfl⟩,B,e⟩:=p;obtain ⟨rfl,hx⟩:=y;have O:=hx _ (SqL.of (B _ _ U));rw [z1j] at O;obtain ⟨t,J,rfl⟩:=z0k.mp O;have ot:TxOk t:=hok t (z29.mp (z0u J)).1;refine ⟨_,zr,_,zr,keyD t,ks.map keyD,q44 ot,.lst (SqL.of (B _ _ (s1 _ _ hL))) (q36 Y),z34 (q4b ks) (by decide),?_⟩;rw [qaa];refine ⟨_,e,?_,⟨_,zr⟩,B.set Z,?_⟩
   ·rw [z2c,z2c,z1u];exact z1a (show _ < 1000 by omega) (by decide)
   ·rw [qa,z2r,J,z2h,z2h];rfl
def q1x (as:List AT):List Key:=as.flatMap λ e=>qz e.2
theorem qd5 {α β:Type} {as:List α} {f:α ->List β} {i:Nat} {e:α} (h:as[i]? =some e):(as.take (i+1)).flatMap f=(as.take i).flatMap f++f e:=by
 rw [z2r,h,z13];simp
theorem q4t {α:Type} {as:List α} {f:α ->Bool} {i:Nat} {e:α} (h:as[i]? =some e):(as.take (i+1)).filter f=(as.take i).filter f++(if f e=true then [e] else []):=by
 rw [z2r,h,z1d]
 congr 1
 show List.filter f [e]=_;by_cases c:f e=true
 ·rw [if_pos c,List.filter_cons_of_pos c];rfl
 ·rw [if_neg c,List.filter_cons_of_neg c];rfl
structure AGood (H:Hp) (e:V×AT):Prop where
 at_:AVh H e
 ok:∀ t∈e.2.2,TxOk t
 len:e.2.2.length<=100
structure CGood (H:Hp) (e:V×CT):Prop where
 at_:CVh H e
 o1:TxOk e.2.2.1
 o2:TxOk e.2.2.2
theorem AGood.same {H H':Hp} {e:V×AT} (h:AGood H e) (s:Same H H'):AGood H' e:=⟨h.at_.same s,h.ok,h.len⟩
theorem CGood.same {H H':Hp} {e:V×CT} (h:CGood H e) (s:Same H H'):CGood H' e:=⟨h.at_.same s,h.o1,h.o2⟩
def chK (ks:List Key) (e:CT):Bool:=qd4 ks [e.2.1,e.2.2]
def qo0 (K:PySem.W.Frag):Sp:=λ vs H Q _=>∃ (b:Addr) (as:List (V×AT)),vs=[.ref b]/\SqT K H b (as.map (·.1))/\(∀ e∈as,AGood H e)/\as.length<=100/\∀ L H',Same H H' ->H L=none ->H' L=some (.lst ((q1x (as.map (·.2))).map kV)) ->(q1x (as.map (·.2))).length<=10000 ->Q (.ref L) H'
theorem q7f (T:Txt K mg):Def P w K mg base 4 "variables_of_body" ["body"] (qo0 K):=by
 refine T.q7r.ok q2l (λ vs H Q E h=> ?_) λ f cdv A outer s H vs Q E hr h=> ?_
 ·obtain ⟨b,as,rfl,_⟩:=h;rfl
 ·obtain ⟨b,as,rfl,Z,ok,la,k⟩:=h;refine ⟨_,(q46
   (qo (i:=1) q2l.nd rfl (Or.inl rfl) (q1a q1h))
   (q1t PassesOwn.never rfl (q4d K (pv 0)) (q43 rfl (q1g (qq (i:=2) q2l.nd rfl (Or.inl rfl)) (q1g (qq (i:=3) q2l.nd rfl (Or.inl rfl)) q34))) (qi (q2n (q45 z0g z0a z0b qb8 (pv 1) (pa_1 (ql (q2x T) hr rfl (pa_1 (pv 3))))))))
   (qt (pv 1))),?_⟩
  refine ⟨by decide,λ L U=> ?_⟩;have s1:=qd (o:=HO.lst []) U;refine ⟨_,rfl,b,rfl,⟨_,s1.seqT Z⟩,q8d (xs:=as.map (·.1)) (λ i σ H'=>∃ v2 v3:Option V,σ=[some (.ref b),some (.ref L),v2,v3]/\Same H H'/\H' L=some (.lst ((q1x ((as.map (·.2)).take i)).map kV))/\(q1x ((as.map (·.2)).take i)).length<=100*i) ⟨none,none,rfl,s1,qa,z3b _⟩ (λ i σ H' _ p=>by obtain ⟨_,_,_,z,_⟩:=p;exact z.seqT Z) ?_ ?_⟩
  ·rintro i x σ H1 hx ⟨v2,v3,rfl,O,hl,Y⟩;rw [z1j] at hx;obtain ⟨e,B,rfl⟩:=z0k.mp hx;have hil:=(z06.mp B).1;have J:=(ok e (z0u B)).same O;obtain ⟨p,q,ep,hp,hq⟩:=J.at_;have D:(as.map (·.2))[i]? =some e.2:=by rw [z1j,B];rfl
   have st:q1x ((as.map (·.2)).take (i+1))=q1x ((as.map (·.2)).take i)++qz e.2.2:=qd5 D;refine ⟨p,_,ep,SqT.of hp,zr,_,_,zr,_,_,zr,zr,?_⟩;refine ⟨_,zr,.inl ⟨zr,_,SqL.of hl⟩,_,zr,q,e.2.2,zr,SqT.of hq,J.ok,J.len,λ L2 H2 s2 hL2 h2=> ?_⟩;have vl:=q3y e.2.2;have le:=J.len;refine ⟨L,L2,_,_,zr,zr,s2 _ _ hl,h2,?_,?_⟩
   ·rw [z2c,z2c];exact z34 (show _<=100000 by omega) (by decide)
   ·refine ⟨_,_,zr,(O.trans s2).set U,?_,?_⟩
    ·rw [qa,st,z2h]
    ·rw [st,z17];omega
  ·rintro σ H1 ⟨v2,v3,rfl,O,hl,Y⟩;rw [z2c,<- z2c (·.2),z26] at hl;rw [z2c,<- z2c (f:=(·.2)) (as:=as),z26] at Y;exact ⟨_,rfl,k L H1 O U hl (by rw [z2c] at Y;omega)⟩
def qp4 (K:PySem.W.Frag):Sp:=λ vs H Q _=>∃ (a L:Addr) (cs:List (V×CT)) (ks:List Key),vs=[.ref a,.ref L]/\SqT K H a (cs.map (·.1))/\(∀ e∈cs,CGood H e)/\cs.length<=100/\H L=some (.lst (ks.map kV))/\(∀ t∈ks,TxOk t)/\
 ∀ D H',Same H H' ->H D=none ->H' D=some (.lst ((cs.filter λ e=>chK ks e.2).map (·.1))) ->Q (.ref D) H'
theorem q62 (T:Txt K mg):Def P w K mg base 5 "choices_known" ["choices","known"] (qp4 K):=by
 refine T.qac.ok q9d (λ vs H Q E h=> ?_) λ f cdv A outer s H vs Q E hr h=> ?_
 ·obtain ⟨a,L,cs,ks,rfl,_⟩:=h;rfl
 ·obtain ⟨a,L,cs,ks,rfl,Y,ok,lc,hL,a0,k⟩:=h;refine ⟨_,(qi (qt (q25 (N:=["choice","known"]) (caps:=[none,some 1]) rfl (by with_unfolding_all rfl) (q4d K (pv 0)) (λ _ _ _ _ _=>(qq (i:=0) (show (["choice","known"]:List Str).Nodup by decide+kernel) rfl (Or.inl rfl))) (λ _ _ _ _ _=>q6v (q1s (ql (q61 T) hr rfl (pa_2 (q3e (q6z K) (pv 0) (q3l qc) q4c) (pv 1))))) (λ _ _ _ _ _=>(pv 0))))),?_⟩;refine ⟨_,zr,a,zr,⟨_,Y⟩,λ D hD=> ?_⟩;refine q20 (cs.map (·.1)).length (λ i σ' H'=>(∃ v,σ'=[v,some (.ref L)])/\Same H H'/\H' D=some (.lst (((cs.take i).filter λ e=>chK ks e.2).map (·.1)))) ⟨⟨_,zr⟩,qd hD,qa⟩ (λ i σ' H' hi p=> ?_) (λ σ' H' p=>⟨?_,?_⟩) (λ i σ' H' hi p x H2 y=> ?_)
  ·obtain ⟨_,B,_⟩:=p;exact ⟨_,_,B.seqT Y,z09 hi⟩
  ·obtain ⟨_,B,_⟩:=p;exact ⟨_,B.seqT Y,z3b _⟩
  ·obtain ⟨_,B,e⟩:=p;rw [z2c,z26] at e;exact k D H' B hD e
  ·obtain ⟨⟨v,rfl⟩,B,e⟩:=p;obtain ⟨rfl,hx⟩:=y;have U:=hx _ (B.seqT Y);rw [z1j] at U;obtain ⟨c,O,rfl⟩:=z0k.mp U;have gc:=(ok c (z0u O)).same B;obtain ⟨pc,ep,a6⟩:=gc.at_;have st:((cs.take (i+1)).filter λ e=>chK ks e.2)=((cs.take i).filter λ e=>chK ks e.2)++(if chK ks c.2=true then [c] else []):=q4t (f:=λ e:V×CT=>chK ks e.2) O;refine ⟨_,zr,_,zr,_,_,ep,SqT.of a6,λ q2 H3 s3 J=> ?_⟩;have J:SqT K H3 q2 (([c.2.2.1,c.2.2.2]:List Key).map kV):=J;refine ⟨_,rfl,q2,L,[c.2.2.1,c.2.2.2],ks,rfl,J,?_,by show 2<=100;decide,(B.trans s3) _ _ hL,a0,λ H4 Z=>⟨_,rfl,ite2 (λ h1=> ?_) (λ h1=> ?_)⟩⟩
   ·intro t ht;simp only [z2v,z24,or_false] at ht;rcases ht with rfl | rfl
    ·exact gc.o1
    ·exact gc.o2
   ·refine ⟨_,zr,_,(s3.trans Z) _ _ e,?_,⟨_,zr⟩,(B.trans (s3.trans Z)).set hD,?_⟩
    ·have:=z0q (λ e:V×CT=>chK ks e.2) (cs.take i);rw [z1u] at this;rw [z2c];exact z1a (show _ < 1000 by omega) (by decide)
    ·rw [qa,st,if_pos (show chK ks c.2=true from h1),z2h];rfl
   ·refine ⟨⟨_,zr⟩,B.trans (s3.trans Z),?_⟩;rw [st,if_neg (show ¬ chK ks c.2=true from h1),z2d];exact (s3.trans Z) _ _ e
def qp5 (K:PySem.W.Frag):Sp:=λ vs H Q _=>∃ (a A L:Addr) (cs:List (V×CT)) (as ks:List Key),vs=[.ref a,.ref A,.ref L]/\SqT K H a (cs.map (·.1))/\(∀ e∈cs,CGood H e)/\cs.length<=100/\H A=some (.lst (as.map kV))/\(∀ t∈as,TxOk t)/\H L=some (.lst (ks.map kV))/\(∀ t∈ks,TxOk t)/\
 ∀ D H',Same H H' ->H D=none ->H' D=some (.lst (((cs.filter λ e=>chK ks e.2).filter λ e=> !chK as e.2).map (·.1))) ->Q (.ref D) H'
theorem qar (T:Txt K mg):Def P w K mg base 6 "choices_due" ["choices","ahead","known"] (qp5 K):=by
 refine T.qc0.ok qaq (λ vs H Q E h=> ?_) λ f cdv A outer s H vs Q E hr h=> ?_
 ·obtain ⟨a,A,L,cs,as,ks,rfl,_⟩:=h;rfl
 ·obtain ⟨a,A',L,cs,as,ks,rfl,ha,ok,lc,hA,has,hL,a0,k⟩:=h;refine ⟨_,(qi (qt (q25 (N:=["choice","ahead"]) (caps:=[none,some 1]) rfl (by with_unfolding_all rfl) (q23 K (ql (q62 T) hr rfl (pa_2 (pv 0) (pv 2)))) (λ _ _ _ _ _=>(qq (i:=0) (show (["choice","ahead"]:List Str).Nodup by decide+kernel) rfl (Or.inl rfl))) (λ _ _ _ _ _=>q6v (q33 (q1s (ql (q61 T) hr rfl (pa_2 (q3e (q6z K) (pv 0) (q3l qc) q4c) (pv 1)))))) (λ _ _ _ _ _=>(pv 0))))),?_⟩;refine ⟨_,zr,_,zr,a,L,cs,ks,zr,ha,ok,lc,hL,a0,λ D1 H1 s1 hD1 h1=> ?_⟩;have l1:=z0q (λ e:V×CT=>chK ks e.2) cs;have Z:∀ e∈(cs.filter λ e=>chK ks e.2),CGood H1 e:=λ e he=>(ok e (z29.mp he).1).same s1;have k:∀ D H',Same H1 H' ->H1 D=none ->H' D=some (.lst (((cs.filter λ e=>chK ks e.2).filter λ e=> !chK as e.2).map (·.1))) ->Q (.ref D) H':=λ D H' s' O h'=>k D H' (s1.trans s') (s1.free O) h';generalize (cs.filter λ e=>chK ks e.2)=ds at h1 k l1 Z;refine ⟨D1,zr,⟨_,SqL.of h1⟩,λ D O=> ?_⟩;refine q20 (ds.map (·.1)).length (λ i σ' H'=>(∃ v,σ'=[v,some (.ref A')])/\Same H1 H'/\H' D=some (.lst (((ds.take i).filter λ e=> !chK as e.2).map (·.1)))) ⟨⟨_,zr⟩,qd O,qa⟩ (λ i σ' H' hi p=> ?_) (λ σ' H' p=>⟨?_,?_⟩) (λ i σ' H' hi p x H2 y=> ?_)
  ·obtain ⟨_,B,_⟩:=p;exact ⟨_,_,SqL.of (B _ _ h1),z09 hi⟩
  ·obtain ⟨_,B,_⟩:=p;exact ⟨_,SqL.of (B _ _ h1),z3b _⟩
  ·obtain ⟨_,B,e⟩:=p;rw [z2c,z26] at e;exact k D H' B O e
  ·obtain ⟨⟨v,rfl⟩,B,e⟩:=p;obtain ⟨rfl,hx⟩:=y;have Y:=hx _ (SqL.of (B _ _ h1));rw [z1j] at Y;obtain ⟨c,U,rfl⟩:=z0k.mp Y;have gc:=(Z c (z0u U)).same B;obtain ⟨pc,ep,a6⟩:=gc.at_;have st:((ds.take (i+1)).filter λ e=> !chK as e.2)=((ds.take i).filter λ e=> !chK as e.2)++(if (!chK as c.2)=true then [c] else []):=q4t (f:=λ e:V×CT=> !chK as e.2) U;refine ⟨_,zr,_,zr,_,_,ep,SqT.of a6,λ q2 H3 s3 J=> ?_⟩;have J:SqT K H3 q2 (([c.2.2.1,c.2.2.2]:List Key).map kV):=J;refine ⟨_,rfl,q2,A',[c.2.2.1,c.2.2.2],as,rfl,J,?_,by show 2<=100;decide,(s1.trans (B.trans s3)) _ _ hA,has,λ H4 s4=>⟨_,rfl,ite2 (λ h1=> ?_) (λ h1=> ?_)⟩⟩
   ·intro t ht;simp only [z2v,z24,or_false] at ht;rcases ht with rfl | rfl
    ·exact gc.o1
    ·exact gc.o2
   ·refine ⟨_,zr,_,(s3.trans s4) _ _ e,?_,⟨_,zr⟩,(B.trans (s3.trans s4)).set O,?_⟩
    ·have:=z0q (λ e:V×CT=> !chK as e.2) (ds.take i);rw [z1u] at this;rw [z2c];exact z1a (show _ < 1000 by omega) (by decide)
    ·rw [qa,st,if_pos (show (!chK as c.2)=true from h1),z2h];rfl
   ·refine ⟨⟨_,zr⟩,B.trans (s3.trans s4),?_⟩;rw [st,if_neg (show ¬ (!chK as c.2)=true from h1),z2d];exact (s3.trans s4) _ _ e
def vK:V ->Key
 | .int i=> .inl i
 | .str z=> .inr z
 | _=> .inl 0
theorem q5g:∀ u:Key,vK (kV u)=u
 | .inl _=>rfl
 | .inr _=>rfl
def HOk (kvs:List (Key×V)) (e:CT):Prop:=∃ u v:Key,tv kvs e.2.1=kV u/\tv kvs e.2.2=kV v/\OkK u/\OkK v
def q1k (kvs:List (Key×V)) (e:CT):Bool:=
 if e.1=sgE then decide (tv kvs e.2.1=tv kvs e.2.2) else if e.1=sgN then !decide (tv kvs e.2.1=tv kvs e.2.2) else befK (vK (tv kvs e.2.1)) (vK (tv kvs e.2.2))
def qp6 (K:PySem.W.Frag):Sp:=λ vs H Q _=>∃ (a b:Addr) (cs:List (V×CT)) (kvs:List (Key×V)),vs=[.ref a,.ref b]/\SqL K H a (cs.map (·.1))/\(∀ e∈cs,CVh H e/\HOk kvs e.2)/\cs.length<=100/\H b=some (.dK kvs)/\
 ∀ H',Same H H' ->Q (.bl (cs.all λ e=>q1k kvs e.2)) H'
theorem q91 (T:Txt K mg):Def P w K mg base 5 "all_hold" ["choices","binding"] (qp6 K):=by
 refine T.qgi.ok qe7 (λ vs H Q E h=> ?_) λ f cdv A outer s H vs Q E hr h=> ?_
 ·obtain ⟨a,b,cs,kvs,rfl,_⟩:=h;rfl
 ·obtain ⟨a,b,cs,kvs,rfl,U,ok,lc,hb,k⟩:=h;refine ⟨_,(qi (qt (qu (q6c rfl K) rfl T.b_all q9w (pa_1 (q25 (N:=["choice","binding"]) (caps:=[none,some 1]) rfl (by with_unfolding_all rfl) (q23 K (pv 0)) (λ _ _ _ _ _=>(qq (i:=0) (show (["choice","binding"]:List Str).Nodup by decide+kernel) rfl (Or.inl rfl))) (λ _ _ _ _ _=>q3u) (λ _ _ _ _ _=>(ql (qjz T) hr rfl (pa_2 (pv 0) (pv 1))))))))),?_⟩;refine ⟨_,zr,a,zr,⟨_,U⟩,λ D hD=> ?_⟩;refine q20 (cs.map (·.1)).length (λ i σ' H'=>(∃ v,σ'=[v,some (.ref b)])/\Same H H'/\H' D=some (.lst (((cs.take i).map λ e=>q1k kvs e.2).map V.bl))) ⟨⟨_,zr⟩,qd hD,qa⟩ (λ i σ' H' hi p=> ?_) (λ σ' H' p=>⟨?_,?_⟩) (λ i σ' H' hi p x H2 y=> ?_)
  ·obtain ⟨_,B,_⟩:=p;exact ⟨_,_,B.seq U,z09 hi⟩
  ·obtain ⟨_,B,_⟩:=p;exact ⟨_,B.seq U,z3b _⟩
  ·obtain ⟨_,B,e⟩:=p;rw [z2c,z26] at e;refine ⟨D,_,zr,SqL.of e,?_⟩;have:=k H' B;rw [z39];exact this
  ·obtain ⟨⟨v,rfl⟩,B,e⟩:=p;obtain ⟨rfl,hx⟩:=y;have O:=hx _ (B.seq U);rw [z1j] at O;obtain ⟨c,J,rfl⟩:=z0k.mp O;obtain ⟨cv,u,v,Z,ev,ou,ov⟩:=ok c (z0u J);obtain ⟨pc,ep,Y⟩:=cv.same B;refine ⟨_,rfl,_,rfl,pc,b,c.2.1,c.2.2.1,c.2.2.2,u,v,kvs,by rw [ep];rfl,Y,B _ _ hb,Z,ev,ou,ov,λ H3 s3=> ?_⟩;have eB:(if c.2.1=sgE then decide (kV u=kV v) else if c.2.1=sgN then !decide (kV u=kV v) else befK u v)=q1k kvs c.2:=by
    unfold q1k;rw [Z,ev,q5g,q5g]
   rw [eB];refine ⟨_,s3 _ _ e,?_,⟨_,zr⟩,(B.trans s3).set hD,?_⟩
   ·rw [z2c,z2c,z1u];rw [z2c] at hi;exact z1a (show _ < 1000 by omega) (by decide)
   ·rw [qa,z2r,J,z2h,z2h];rfl
def mKey (sh:List Key) (bk:List (Key×V)):List Key:=sh.map λ t=>vK (tv bk t)
theorem qo1 {bk:List (Key×V)} (h:AllK bk) (t:Key):tv bk t=kV (vK (tv bk t)):=by
 obtain ⟨j,e⟩:=h.get t;have e':tv bk t=kV j:=e;rw [e',q5g]
theorem q8l {bk:List (Key×V)} (h:AllK bk) (B:List Key):B.map (tv bk)=(mKey B bk).map kV:=by
 unfold mKey;rw [z3a];exact z10 λ t _=>qo1 h t
theorem AllK.step {kvs B:List (Key×V)} {t v:Key} (h:AllK kvs) (e:q19 kvs t v=some B):AllK B:=by
 unfold q19 at e;split at e
 ·cases e
  exact h.put t v
 ·cases e
theorem AllK.all:∀ {l:List (Key×Key)} {kvs B:List (Key×V)},AllK kvs ->mAll kvs l=some B ->AllK B
 | [],_,_,h,e=>by cases e;exact h
 | p::l,kvs,B,h,e=>by
  have e':(q19 kvs p.1 p.2).bind (λ k=>mAll k l)=some B:=e;cases q:q19 kvs p.1 p.2 with
  | none=>rw [q] at e';cases e'
  | some k=>rw [q] at e';exact AllK.all (h.step q) e'
abbrev RW:=V×List Key
def RowV (K:PySem.W.Frag) (H:Hp) (e:RW):Prop:=∃ p,e.1= .ref p/\SqT K H p (e.2.map kV)
theorem RowV.same {K:PySem.W.Frag} {H H':Hp} {e:RW} (s:Same H H') (h:RowV K H e):RowV K H' e:=let ⟨p,e1,h1⟩:=h;⟨p,e1,s.seqT h1⟩
abbrev MR:=RW×List (Key×V)
def mOne (ts:List Key) (e:RW):Option MR:=if ts.length=e.2.length then (mAll [] (ts.zip e.2)).map λ b=>(e,b) else none
def PrV (H:Hp) (x:V) (m:MR):Prop:=∃ p q,x= .ref p/\H p=some (.tup [m.1.1,.ref q])/\H q=some (.dK m.2)
theorem PrV.same {H H':Hp} {x:V} {m:MR} (s:Same H H') (h:PrV H x m):PrV H' x m:=let ⟨p,q,e,h1,h2⟩:=h;⟨p,q,e,s _ _ h1,s _ _ h2⟩
def q7g (sh:List Key) (k:List Key) (ms:List MR):List MR:=ms.filter λ m=>decide (mKey sh m.2=k)
structure Grp (H0 H:Hp) (sh:List Key) (ms:List MR) (kvs:List (List Key×V)):Prop where
 at_:∀ k,(valV kvs k=none/\q7g sh k ms=[])\/ ∃ L xs,valV kvs k=some (.ref L)/\H0 L=none/\H L=some (.lst xs)/\Paired (PrV H) xs (q7g sh k ms)
 inj:∀ k k' L,valV kvs k=some (.ref L) ->valV kvs k'=some (.ref L) ->k=k'
theorem qk1 {α β:Type} {as:List α} {f:α ->Option β} {i:Nat} {e:α} (h:as[i]? =some e):(as.take (i+1)).filterMap f=(as.take i).filterMap f++(f e).toList:=by
 rw [z2r,h,List.filterMap_append]
 congr 1
theorem qbi (B k:List Key) (ms:List MR) (m:MR):q7g B k (ms++ [m])=if mKey B m.2=k then q7g B k ms++ [m] else q7g B k ms:=by
 unfold q7g;rw [z1d];by_cases h:mKey B m.2=k
 ·rw [if_pos h,List.filter_cons_of_pos (p:=λ m:MR=>decide (mKey B m.2=k)) (z2m h)];rfl
 ·rw [if_neg h,List.filter_cons_of_neg (p:=λ m:MR=>decide (mKey B m.2=k)) (by simpa using h)];exact z2d _
theorem Grp.same {H0 H H':Hp} {B:List Key} {ms:List MR} {kvs:List (List Key×V)} (s:Same H H') (g:Grp H0 H B ms kvs):Grp H0 H' B ms kvs:=
 ⟨λ k=>(g.at_ k).elim .inl λ ⟨L,xs,e,f,h,r⟩=> .inr ⟨L,xs,e,f,s _ _ h,L2.Paired.mapP r λ _ _ z=>z.same s⟩,g.inj⟩
theorem Grp.old {H0 H H':Hp} {D:List Key} {ms:List MR} {kvs:List (List Key×V)} {m:MR} {L p:Addr} {xs:List V} (g:Grp H0 H D ms kvs) (B:valV kvs (mKey D m.2)=some (.ref L)) (hL:H' L=some (.lst (xs++ [.ref p])))
  (O:H L=some (.lst xs)) (st:∀ b o,b≠L ->H b=some o ->H' b=some o) (hp:PrV H' (.ref p) m):Grp H0 H' D (ms++ [m]) kvs:=by
 have kp:∀ {x n},PrV H x n ->PrV H' x n:=λ ⟨p,q,e,h1,h2⟩=>⟨p,q,e,st _ _ (λ z=>by rw [z,O] at h1;cases h1) h1,st _ _ (λ z=>by rw [z,O] at h2;cases h2) h2⟩;refine ⟨λ k=> ?_,g.inj⟩;rw [qbi];by_cases h:mKey D m.2=k
 ·subst h;rw [if_pos rfl];rcases g.at_ (mKey D m.2) with ⟨z,_⟩ | ⟨U,ys,e2,J,h2,r2⟩
  ·rw [z] at B;cases B
  ·rw [B] at e2;injection e2 with e2;injection e2 with e2;subst e2;rw [O] at h2;injection h2 with h2;injection h2 with h2;subst h2;exact .inr ⟨L,_,B,J,hL,q3z (L2.Paired.mapP r2 λ _ _ z=>kp z) hp⟩
 ·rw [if_neg h];rcases g.at_ k with z | ⟨U,ys,e2,J,h2,r2⟩
  ·exact .inl z
  ·exact .inr ⟨U,ys,e2,J,st _ _ (λ z=>h (g.inj _ _ L (B) (by rw [<- z];exact e2))) h2,L2.Paired.mapP r2 λ _ _ z=>kp z⟩
theorem Grp.new {H0 H H':Hp} {B:List Key} {ms:List MR} {kvs:List (List Key×V)} {m:MR} {L p:Addr} (g:Grp H0 H B ms kvs) (ev:valV kvs (mKey B m.2)=none) (hL:H' L=some (.lst [.ref p])) (fL:H0 L=none)
  (hx:H L=none) (st:∀ k n,(∃ O xs,valV kvs k=some (.ref O)/\O=n/\H n=some (.lst xs)) ->H' n=H n) (kp:∀ {x n},PrV H x n ->PrV H' x n) (hp:PrV H' (.ref p) m):Grp H0 H' B (ms++ [m]) (putK kvs (mKey B m.2) (.ref L)):=by
 refine ⟨λ k=> ?_,λ k k' L2 h1 h2=> ?_⟩
 ·rw [qbi,q2y];by_cases h:mKey B m.2=k
  ·subst h;rw [if_pos rfl,if_pos rfl];rcases g.at_ (mKey B m.2) with ⟨_,z⟩ | ⟨L2,ys,e2,_⟩
   ·rw [z];exact .inr ⟨L,_,zr,fL,hL,.cons hp .nil⟩
   ·rw [ev] at e2;cases e2
  ·rw [if_neg h,if_neg (λ z=>h z.symm)];rcases g.at_ k with z | ⟨D,ys,e2,f2,h2,r2⟩
   ·exact .inl z
   ·exact .inr ⟨D,ys,e2,f2,by rw [st k D ⟨D,ys,e2,rfl,h2⟩];exact h2,L2.Paired.mapP r2 λ _ _ z=>kp z⟩
 ·rw [q2y] at h1 h2;have no:∀ j,valV kvs j=some (.ref L) ->False:=λ j J=>by
   rcases g.at_ j with ⟨z,_⟩ | ⟨L3,ys,e3,_,h3,_⟩
   ·rw [z] at J;cases J
   ·rw [J] at e3;injection e3 with e3;injection e3 with e3;rw [<- e3,hx] at h3;cases h3
  split at h1
  ·rename_i q1;split at h2
   ·rename_i q2;rw [q1,q2]
   ·injection h1 with h1;injection h1 with h1;rw [<- h1] at h2;exact (no _ h2).elim
  ·split at h2
   ·injection h2 with h2;injection h2 with h2;rw [<- h2] at h1;exact (no _ h1).elim
   ·exact g.inj _ _ _ h1 h2
def qo2 (K:PySem.W.Frag):Sp:=λ vs H Q _=>∃ (a b c:Addr) (ts sh:List Key) (rs:List RW),vs=[.ref a,.ref b,.ref c]/\SqT K H a (ts.map kV)/\SqL K H b (rs.map (·.1))/\(∀ e∈rs,RowV K H e)/\SqT K H c (sh.map kV)/\(∀ t∈ts,TxOk t)/\ts.length<=100/\sh.length<=100/\rs.length<=1000/\
 ∀ d kvs H',Same H H' ->H d=none ->H' d=some (.dT kvs) ->Grp H H' sh (rs.filterMap (mOne ts)) kvs ->Q (.ref d) H'
theorem q8q (T:Txt K mg):Def P w K mg base 4 "rows_by_shared" ["terms","rows","shared"] (qo2 K):=by
 refine T.q9j.ok q31 (λ vs H Q E h=> ?_) λ f cdv A outer s H vs Q E hr h=> ?_
 ·obtain ⟨a,b,c,ts,D,rs,rfl,_⟩:=h;rfl
 ·obtain ⟨a,b,c,ts,D,rs,rfl,ha,hb,b9,hc,hts,lt,ls,lr,k⟩:=h;refine ⟨_,(q46
   (qo (i:=3) q31.nd rfl (Or.inl rfl) qj5)
   (q1t PassesOwn.never rfl (q23 K (pv 1)) (qq (i:=4) q31.nd rfl (Or.inl rfl)) (q3r
   (qo (i:=5) q31.nd rfl (Or.inl rfl) (ql (qgg T) hr rfl (pa_3 (pv 0) (pv 4) q5r)))
   (q1e (q15 qev (pv 5) q4y (q14 _)) (qi (q2n (q45 z0g z0c z0d q3a (qht (q2w hr) (pv 3) (ql (q6f T) hr rfl (pa_2 (pv 2) (pv 5))) (q1a q1h) ⟨rfl,rfl,rfl,rfl⟩) (pa_1 (q2j (pa_2 (pv 4) (pv 5))))))) q11)))
   (qt (pv 3))),?_⟩
  refine λ d hd=> ?_;have s1:=qd (o:=HO.dT []) hd;refine ⟨_,rfl,b,rfl,⟨_,s1.seq hb⟩,q5o (xs:=rs.map (·.1)) (λ i σ H'=>∃ (v1 v2:Option V) (kvs:List (List Key×V)),σ=[some (.ref a),some (.ref b),some (.ref c),some (.ref d),v1,v2]/\Same H H'/\H' d=some (.dT kvs)/\kvs.length<=i/\Grp H H' D ((rs.take i).filterMap (mOne ts)) kvs) ⟨none,none,[],rfl,s1,qa,z3b _,⟨λ k=> .inl ⟨rfl,rfl⟩,λ k k' L e=>nomatch e⟩⟩ (λ i σ H' _ p=> ?_) ?_ ?_⟩
  ·obtain ⟨_,_,_,_,z,_⟩:=p;exact z.seq hb
  ·rintro i x σ H1 hx ⟨v1,v2,kvs,rfl,Y,hD,lk,g⟩;rw [z1j] at hx;obtain ⟨e,a6,rfl⟩:=z0k.mp hx;obtain ⟨p,ep,hp⟩:=(b9 e (z0u a6)).same Y;have st:=qk1 (f:=mOne ts) a6;have hil:=(z06.mp a6).1;refine ⟨_,zr,_,zr,λ q hq=> ?_⟩;have s2:=qd (o:=HO.dK []) hq;refine ⟨a,p,q,ts,e.2,[],by rw [ep];rfl,(Y.trans s2).seqT ha,s2.seqT hp,qa,hts,(λ _ z=>nomatch z),lt,by decide,λ b7 H2 s3=> ?_,λ bk r H2 el em s3 hr0 a7=> ?_⟩
   ·refine ⟨_,zr,zr,_,zr,q1p rfl ?_⟩;have e0:mOne ts e=none:=by
     unfold mOne;rcases b7 with z | z
     ·rw [if_neg z]
     ·rw [z];split <;> rfl
    have B:=s2.trans s3;refine ⟨_,_,kvs,zr,Y.trans B,B _ _ hD,by omega,?_⟩;rw [st,e0];show Grp H H2 D (_++ []) kvs;rw [z2d];exact g.same B
   ·refine ⟨_,zr,zr,_,zr,q4x rfl ?_⟩;have e1:mOne ts e=some (e,bk):=by
     unfold mOne;rw [if_pos el,em];rfl
    have ab:AllK bk:=AllK.all (kvs:=[]) (λ _ z=>nomatch z) em;have B:=s2.trans s3;have b5:=Y.trans B;refine ⟨_,zr,d,zr,.inr ⟨_,.inl (B _ _ hD)⟩,_,zr,_,zr,c,r,D,bk,zr,b5.seqT hc,a7,ls,λ b2 H3 s4 a9=> ?_⟩;refine ⟨by decide,λ z hz=> ?_⟩;have s5:=qd (o:=HO.lst []) hz;rw [q8l ab] at a9;have O:=B.trans (s4.trans s5);have g5:=g.same O;refine ⟨kvs,mKey D bk,b2,O _ _ hD,rfl,s5 _ _ a9,z1a (show _ < 2000 by omega) (by decide),λ v ev=> ?_,λ en=> ?_⟩
    ·rcases g5.at_ (mKey D bk) with ⟨z0,_⟩ | ⟨L,xs,e2,f2,h2,r2⟩
     ·rw [z0] at ev;cases ev
     ·rw [e2] at ev;cases ev
      have lx:xs.length<=1000:=by
       have h1:=r2.length;have h2:=z0q (λ m:MR=>decide (mKey D m.2=mKey D bk)) ((rs.take i).filterMap (mOne ts));have h3:=List.length_filterMap_le (mOne ts) (rs.take i);have h4:xs.length=(List.filter (λ m:MR=>decide (mKey D m.2=mKey D bk)) ((rs.take i).filterMap (mOne ts))).length:=h1;rw [z1u] at h3;omega
      have b6:=O _ _ hD;have b0:=(s4.trans s5) _ _ a7;generalize upd H3 z (.lst [])=H5 at*;refine ⟨.inl ⟨rfl,_,SqL.of h2⟩,_,rfl,_,rfl,by show 2<=sizeLine;decide,λ w hw=> ?_⟩;have U:=qd (o:=HO.tup [e.1,.ref r]) hw;have Z:=U _ _ h2;have a0:=U _ _ b6;refine ⟨L,xs,_,rfl,rfl,Z,z1a (show _ < 2000 by omega) (by decide),_,_,kvs,rfl,(Y.trans (O.trans U)).set f2,?_,by omega,?_⟩
      ·rw [qg (λ z=>by rw [z,Z] at a0;cases a0)];exact a0
      ·rw [st,e1];refine (g5.same U).old (m:=(e,bk)) e2 qa Z (λ b o n h=>by rw [qg n];exact h) ⟨w,r,rfl,?_,?_⟩
       ·rw [qg (λ z=>by rw [<- z,qa] at Z;cases Z)];exact qa
       ·have b8:=U _ _ b0;have nL:r≠L:=λ z=>by
         have b3:=b0;rw [z,h2] at b3;cases b3
        rw [qg nL];exact b8
    ·have J:=(B.trans s4) _ _ hD;have g3:=g.same (B.trans s4);have b4:H z=none:=(b5.trans s4).free hz;have zd:z≠d:=λ q=>by rw [q,J] at hz;cases hz
     have a8:=s4 _ _ a7;have eD:upd (upd H3 z (.lst [])) d (.dT (putK kvs (mKey D bk) (.ref z))) z=some (.lst []):=by
      rw [qg zd];exact qa
     refine ⟨.inl ⟨rfl,_,SqL.of eD⟩,_,rfl,_,rfl,by show 2<=sizeLine;decide,λ w hw=> ?_⟩;have U:=qd (o:=HO.tup [e.1,.ref r]) hw;have sH:Same H (upd (upd (upd (upd H3 z (.lst [])) d (.dT (putK kvs (mKey D bk) (.ref z)))) w (.tup [e.1,.ref r])) z (.lst [.ref w])):=(((Y.trans O).set hd).trans U).set b4;have stay:∀ n o,H3 n=some o ->n≠d ->upd (upd (upd (upd H3 z (.lst [])) d (.dT (putK kvs (mKey D bk) (.ref z)))) w (.tup [e.1,.ref r])) z (.lst [.ref w]) n=some o:=λ n o h nd=>by
      have nz:n≠z:=λ q=>by rw [q,hz] at h;cases h
      have Z:upd (upd H3 z (.lst [])) d (.dT (putK kvs (mKey D bk) (.ref z))) n=some o:=by rw [qg nd,qg nz];exact h
      rw [qg nz];exact U _ _ Z
     have zw:w≠z:=λ q=>by rw [q,eD] at hw;cases hw
     have dw:d≠w:=λ q=>by rw [<- q,qa] at hw;cases hw
     refine ⟨z,[],_,zr,zr,U _ _ eD,by decide,_,_,putK kvs (mKey D bk) (.ref z),zr,sH,?_,?_,?_⟩
     ·rw [qg (Ne.symm zd),qg dw];exact qa
     ·have:=q2a kvs (mKey D bk) (.ref z);omega
     ·rw [st,e1];refine g3.new (m:=(e,bk)) (p:=w) en qa b4 hz ?_ (λ ⟨p,q,e,h1,h2⟩=>⟨p,q,e,stay _ _ h1 (λ z=>by rw [z,J] at h1;cases h1),stay _ _ h2 (λ z=>by rw [z,J] at h2;cases h2)⟩) ⟨w,r,rfl,?_,stay _ _ a8 (λ z=>by rw [z,J] at a8;cases a8)⟩
      ·rintro k n ⟨L',xs,e1,rfl,h1⟩;rw [h1];exact stay _ _ h1 (λ z=>by rw [z,J] at h1;cases h1)
      ·rw [qg zw];exact qa
  ·rintro σ H1 ⟨v1,v2,kvs,rfl,Y,hD,lk,g⟩;rw [z2c,z26] at g;exact ⟨_,zr,k d kvs H1 Y hd hD g⟩
structure RuleAt (K:PySem.W.Frag) (H:Hp) (r:Addr) (hd:V) (as:List (V×AT)) (cs:List (V×CT)):Prop where
 at_:∃ b c,SqT K H r [hd,.ref b,.ref c]/\SqT K H b (as.map (·.1))/\SqT K H c (cs.map (·.1))
 body:∀ e∈as,AGood H e
 chs:∀ e∈cs,CGood H e
 la:as.length<=20
 lc:cs.length<=20
theorem RuleAt.same {K:PySem.W.Frag} {H H':Hp} {r:Addr} {hd:V} {as:List (V×AT)} {cs:List (V×CT)} (s:Same H H') (h:RuleAt K H r hd as cs):RuleAt K H' r hd as cs:=
 ⟨let ⟨b,c,h1,h2,h3⟩:=h.at_;⟨b,c,s.seqT h1,s.seqT h2,s.seqT h3⟩,λ e B=>(h.body e B).same s,λ e B=>(h.chs e B).same s,h.la,h.lc⟩
theorem qi3 (xs:List V) (n:Nat) (h:n<=xs.length):cutV xs (some (n:Int)) none=xs.drop n:=by
 unfold cutV;rw [HT.sIx_nat,HT.sIx_none,Nat.min_eq_left h,z0h (by rw [z1v];exact z3b _)]
theorem q9e {α:Type} [DecidableEq α]:∀ {l m:List α},l.Nodup ->(∀ x∈l,x∈m) ->l.length<=m.length
 | [],_,_,_=>z3e _
 | x::l,m,h,B=>by
  obtain ⟨h1,h2⟩:=z2e.mp h;have D:=B x (z18 ..);have ih:=q9e (m:=m.erase x) h2 λ y hy=>(List.mem_erase_of_ne (λ e:y=x=>h1 (e ▸ hy))).mpr (B y (z0s _ hy));rw [List.length_erase_of_mem D] at ih;have:0 < m.length:=List.length_pos_of_mem D;rw [z1w];omega
def q63 (ws ks:List Key) (n:Nat) (as:List AT) (cs:List CT):List Key:=ws++q1x (as.drop n)++(cs.filter λ e=> !chK ks e).flatMap λ e=>qz [e.2.1,e.2.2]
theorem qi4 {D ks:List Key} {n:Nat} {as:List AT} {cs:List CT} (h1:∀ t∈D,TxOk t) (h2:∀ e∈as,∀ t∈e.2,TxOk t) (h3:∀ e∈cs,TxOk e.2.1/\TxOk e.2.2):∀ t∈q63 D ks n as cs,TxOk t:=λ t ht=>by
 unfold q63 at ht;rcases z27.mp ht with ht | ht
 ·rcases z27.mp ht with ht | ht
  ·exact h1 t ht
  ·obtain ⟨e,B,hm⟩:=List.mem_flatMap.mp ht;exact h2 e (z0r B) t (z29.mp hm).1
 ·obtain ⟨e,B,hm⟩:=List.mem_flatMap.mp ht;have hm:=(z29.mp hm).1;have B:=(z29.mp B).1;simp only [z2v,z24,or_false] at hm;rcases hm with rfl | rfl
  ·exact (h3 e B).1
  ·exact (h3 e B).2
def qk2 (K:PySem.W.Frag):Sp:=λ vs H Q _=>∃ (r L W:Addr) (n:Nat) (hd:V) (as:List (V×AT)) (cs:List (V×CT)) (ws:List Key) (zs:List Str),vs=[.ref r,.int n,.ref L,.ref W]/\RuleAt K H r hd as cs/\H L=some (.lst (zs.map V.str))/\H W=some (.lst (ws.map kV))/\
 (∀ z∈zs,TxOk (.inr z))/\(∀ t∈ws,TxOk t)/\zs.length<=4000/\ws.length<=1000/\zs.length < 64/\n<=as.length/\
 ∀ (q:Addr) (us:List Str) (H':Hp),Same H H' ->H' q=some (.tup (us.map V.str)) ->(∀ z,z∈us↔z∈zs/\Sum.inr z∈q63 ws (zs.map Sum.inr) n (as.map (·.2)) (cs.map (·.2))) ->Q (.ref q) H'
theorem qas (T:Txt K mg):Def P w K mg base 6 "asked_later" ["rule","place","known","wanted"] (qk2 K):=by
 refine T.qbz.ok q40 (λ vs H Q E h=> ?_) λ f cdv A outer s H vs Q E hr h=> ?_
 ·obtain ⟨r,L,W,n,hd,as,cs,ws,zs,rfl,_⟩:=h;rfl
 ·obtain ⟨r,L,W,n,hd,as,cs,ws,zs,rfl,hR,hL,hW,oz,ow,lz,lw,lz6,hn,k⟩:=h;refine ⟨_,(q46
   (qo (i:=4) q40.nd rfl (Or.inr rfl) (qm q6t (pv 3) (ql (q7f T) hr rfl (pa_1 (q3e (q6z K) (qh (qr K) (pv 0) qc (λ _ _=>rfl)) (q3l (pv 1)) q4c)))))
   (q1t PassesOwn.never rfl (q4d K (qh (qr K) (pv 0) qc (λ _ _=>rfl))) (qq (i:=5) q40.nd rfl (Or.inl rfl)) (qi (q1e (q33 (q1s (ql (q61 T) hr rfl (pa_2 (q3e (q6z K) (pv 5) (q3l qc) q4c) (pv 2))))) (qi (qo (i:=4) q40.nd rfl (Or.inr rfl) (qm q6t (pv 4) (ql (q2x T) hr rfl (pa_1 (q3e (q6z K) (pv 5) (q3l qc) q4c)))))) q11)))
   (qt (q1u (q2b K) rfl T.q2t q2h (pa_1 (q25 (N:=["variable","later"]) (caps:=[none,some 4]) rfl (by with_unfolding_all rfl) (q23 K (qu (qbs rfl P w) rfl T.qkj qha (pa_1 (q1u (qhm rfl P w K) rfl T.b_set qnn (pa_1 (pv 2)))))) (λ _ _ _ _ _=>(qq (i:=0) (show (["variable","later"]:List Str).Nodup by decide+kernel) rfl (Or.inl rfl))) (λ _ _ _ _ _=>q6v (q15 (q70 hr.units K) (pv 0) (pv 1) (by with_unfolding_all rfl))) (λ _ _ _ _ _=>(pv 0))))))),?_⟩
  obtain ⟨b,c,b5,hb,hc⟩:=hR.at_;refine ⟨_,zr,_,zr,_,_,_,_,zr,zr,b5,qk (j:=1) rfl,_,zr,_,zr,b,_,zr,hb,λ b2 H1 s1 b0=> ?_⟩;rw [qi3 _ _ (by rw [z2c];exact hn),<- List.map_drop] at b0;have la:=hR.la;have lc:=hR.lc;refine ⟨b2,as.drop n,rfl,b0,λ e he=>(hR.body e (z0r he)).same s1,by rw [z1v];omega,λ V1 H2 s2 hV0 hV lV=> ?_⟩;have b8:=s1.trans s2;refine ⟨_,_,_,_,rfl,rfl,b8 _ _ hW,hV,by rw [z2c,z2c];exact z34 (show _<=100000 by omega) (by decide),λ l0 c5=> ?_⟩;have s3:=qd (o:=HO.lst (ws.map kV++(q1x ((as.drop n).map (·.2))).map kV)) c5;have a7:=qa (H:=H2) (a:=l0) (o:=HO.lst (ws.map kV++(q1x ((as.drop n).map (·.2))).map kV));have S3:=b8.trans s3;generalize upd H2 l0 (.lst (ws.map kV++(q1x ((as.drop n).map (·.2))).map kV))=H3 at*;rw [<- z2h] at a7;rw [List.map_drop] at a7 lV;obtain ⟨B,a0⟩:∃ B:List Key,B=zs.map Sum.inr:=⟨_,rfl⟩;have c1:∀ {H'},Same H H' ->H' L=some (.lst (B.map kV)):=λ s=>by
   rw [s _ _ hL,a0,z3a];rfl
  have c9:∀ t∈B,TxOk t:=λ t ht=>by
   rw [a0] at ht;obtain ⟨z,hz,rfl⟩:=z38.mp ht;exact oz z hz
  rw [<- a0] at k;refine ⟨_,rfl,_,_,_,_,rfl,rfl,S3.seqT b5,qk (j:=2) rfl,c,rfl,⟨_,S3.seqT hc⟩,q8d (xs:=cs.map (·.1)) (λ i σ H'=>∃ (l:Addr) (v:Option V) (ls:List Key),σ=[some (.ref r),some (.int n),some (.ref L),some (.ref W),some (.ref l),v]/\Same H H'/\H' l=some (.lst (ls.map kV))/\ls.length<=11000+2*i/\ls=q63 ws B n (as.map (·.2)) ((cs.map (·.2)).take i)) ⟨l0,none,_,rfl,S3,a7,by rw [z17];omega,by unfold q63;simp⟩ (λ i σ H' _ p=> ?_) ?_ ?_⟩
  ·obtain ⟨_,_,_,_,z,_⟩:=p;exact z.seqT hc
  ·rintro i x σ H4 Z ⟨l,v,ls,rfl,J,hl,ll,el⟩;rw [z1j] at Z;obtain ⟨e,a6,rfl⟩:=z0k.mp Z;have gc:=(hR.chs e (z0u a6)).same J;obtain ⟨pc,ep,b4⟩:=gc.at_;have b3:(cs.map (·.2))[i]? =some e.2:=by rw [z1j,a6];rfl
   have st:q63 ws B n (as.map (·.2)) ((cs.map (·.2)).take (i+1))=ls++(if (!chK B e.2)=true then qz [e.2.2.1,e.2.2.2] else []):=by
    rw [el];unfold q63;rw [q4t (f:=λ e:CT=> !chK B e) b3,z13];split
    ·rw [z1g _ _ (qz _)]
     congr 2
     simp
    ·simp
   have o2:∀ t∈([e.2.2.1,e.2.2.2]:List Key),TxOk t:=λ t ht=>by
    simp only [z2v,z24,or_false] at ht;rcases ht with rfl | rfl
    ·exact gc.o1
    ·exact gc.o2
   refine ⟨_,zr,_,zr,_,_,ep,SqT.of b4,λ q2 H5 s5 a8=> ?_⟩;have a8:SqT K H5 q2 (([e.2.2.1,e.2.2.2]:List Key).map kV):=a8;refine ⟨_,rfl,q2,L,[e.2.2.1,e.2.2.2],B,rfl,a8,o2,by show 2<=100;decide,c1 (J.trans s5),c9,λ H6 O=>⟨_,rfl,ite2 (λ h1=> ?_) (λ h1=> ?_)⟩⟩
   ·have b9:=s5.trans O;refine ⟨_,zr,_,zr,_,zr,_,_,ep,SqT.of (b9 _ _ b4),λ q3 H7 s7 a9=> ?_⟩;have a9:SqT K H7 q3 (([e.2.2.1,e.2.2.2]:List Key).map kV):=a9;refine ⟨q3,_,rfl,a9,o2,by show 2<=100;decide,λ V2 H8 s8 d0 c4=> ?_⟩;have c0:=b9.trans (s7.trans s8);have vl:=q3y [e.2.2.1,e.2.2.2];have vl2:(qz [e.2.2.1,e.2.2.2]).length<=2:=vl;have lei:=(z06.mp a6).1;refine ⟨_,_,_,_,rfl,rfl,c0 _ _ hl,c4,by rw [z2c,z2c];exact z34 (show _<=100000 by omega) (by decide),λ l9 c6=> ?_⟩;refine ⟨l9,_,ls++qz [e.2.2.1,e.2.2.2],rfl,J.trans (c0.trans (qd c6)),by rw [qa,z2h],by rw [z17];omega,?_⟩;rw [st,if_pos (show (!chK B e.2)=true from h1)]
   ·refine ⟨l,_,ls,zr,J.trans (s5.trans O),(s5.trans O) _ _ hl,by omega,?_⟩;rw [st,if_neg (show ¬ (!chK B e.2)=true from h1),z2d]
  ·rintro σ H4 ⟨l,v,ls,rfl,J,hl,ll,el⟩;rw [z2c,<- z2c (f:=λ x:V×CT=>x.2) (as:=cs),z26] at el;refine ⟨_,zr,L,zs,zr,.inl (SqL.of (J _ _ hL)),lz,λ sa ys c7 nd mem=> ?_⟩;have sx:=qd (o:=SetH P w sa ys) c7;refine ⟨sa,ys,rfl,qa,by have:=q9e nd (λ x Z=>(mem x).mp Z);omega,λ o ho=> ?_⟩;have sy:=qd (o:=HO.lst ((Tim.srt L2.strLt ys).map V.str)) ho;have Y:=qa (H:=upd H4 sa (SetH P w sa ys)) (a:=o) (o:=HO.lst ((Tim.srt L2.strLt ys).map V.str));have S5:=sx.trans sy;generalize upd (upd H4 sa (SetH P w sa ys)) o (.lst ((Tim.srt L2.strLt ys).map V.str))=H5 at*;have mm:∀ z,z∈Tim.srt L2.strLt ys↔z∈zs:=λ z=>by rw [(Tim.q5u L2.strLt ys).mem_iff];exact mem z
   have len:(Tim.srt L2.strLt ys).length<=63:=by
    have:=q9e nd (λ x Z=>(mem x).mp Z);rw [(Tim.q5u L2.strLt ys).length_eq];omega
   generalize Tim.srt L2.strLt ys=us at*;refine ⟨o,zr,⟨_,SqL.of Y⟩,λ D hD=> ?_⟩;refine q20 (us.map V.str).length (λ i σ' H'=>(∃ v,σ'=[v,some (.ref l)])/\Same H5 H'/\H' D=some (.lst (((us.take i).filter λ z=>inK ls (.inr z)).map V.str))) ⟨⟨_,zr⟩,qd hD,qa⟩ (λ i σ' H' hi p=> ?_) (λ σ' H' p=>⟨?_,?_⟩) (λ i σ' H' hi p x H2 y=> ?_)
   ·obtain ⟨_,J,_⟩:=p;exact ⟨_,_,SqL.of (J _ _ Y),z09 hi⟩
   ·obtain ⟨_,J,_⟩:=p;exact ⟨_,SqL.of (J _ _ Y),z3b _⟩
   ·obtain ⟨_,O,e⟩:=p;rw [z2c,z26] at e;refine ⟨_,_,zr,.inl ⟨SqL.of e,λ q hq=> ?_⟩⟩;refine k q _ _ (J.trans (S5.trans (O.trans (qd hq)))) qa λ z=> ?_;rw [z29,q5j,mm,el]
   ·obtain ⟨⟨v,rfl⟩,O,e⟩:=p;obtain ⟨rfl,Z⟩:=y;have b7:=Z _ (SqL.of (O _ _ Y));rw [z1j] at b7;obtain ⟨t,b6,rfl⟩:=z0k.mp b7;have ot:TxOk (.inr t):=oz t ((mm t).mp (z0u b6));have st:=q4t (f:=λ z:Str=>inK ls (.inr z)) b6;have c8:∀ u∈ls,TxOk u:=by rw [el];exact qi4 ow (λ e he=>by obtain ⟨e,U,rfl⟩:=z38.mp he;exact (hR.body e U).ok) λ e he=>by obtain ⟨e,U,rfl⟩:=z38.mp he;exact ⟨(hR.chs e U).o1,(hR.chs e U).o2⟩
    refine ⟨_,zr,_,zr,keyD (.inr t),ls.map keyD,q44 ot,.lst (SqL.of ((S5.trans O) _ _ hl)) (q36 c8),z34 (q4b ls) (by decide),?_⟩;rw [qaa];refine ⟨_,zr,ite2 (λ h1=> ?_) (λ h1=> ?_)⟩
    ·refine ⟨_,zr,_,e,?_,⟨_,zr⟩,O.set hD,?_⟩
     ·have h8:=z0q (λ z:Str=>inK ls (.inr z)) (us.take i);rw [z1u] at h8;rw [z2c];exact z1a (show _ < 1000 by omega) (by decide)
     ·rw [qa,st,if_pos h1,z2h];rfl
    ·refine ⟨⟨_,zr⟩,O,?_⟩;rw [st,if_neg h1,z2d];exact e
def Keep (p:Addr) (H H':Hp):Prop:=∀ a o,a≠p ->H a=some o ->H' a=some o
theorem Keep.of {p:Addr} {H H':Hp} (s:Same H H'):Keep p H H':=λ a o _ h=>s _ _ h
theorem Keep.trans {p:Addr} {H H' H2:Hp} (s:Keep p H H') (t:Keep p H' H2):Keep p H H2:=λ a o n h=>t _ _ n (s _ _ n h)
def q32 (H:Hp) (p:Addr):Prop:=∃ o,H p=some o/\((∃ C dx fs,o= .ins C dx fs)\/ ∃ xs,o= .lst xs)
theorem Keep.at_ {p a C dx:Addr} {fs:List (Str×V)} {H H':Hp} {o:HO} (s:Keep p H H') (hp:H p=some (.ins C dx fs)) (h:H a=some o) (n:∀ C dx fs,o≠ .ins C dx fs):H' a=some o:=
 s _ _ (λ z=>by rw [z,hp] at h;injection h with h;exact n _ _ _ h.symm) h
theorem Keep.at2 {p a:Addr} {H H':Hp} {o:HO} (s:Keep p H H') (hp:q32 H p) (h:H a=some o) (n:∀ C dx fs,o≠ .ins C dx fs) (n2:∀ xs,o≠ .lst xs):H' a=some o:=
 s _ _ (λ z=>by
  obtain ⟨o2,q,r⟩:=hp;rw [z,q] at h;injection h with h;rcases r with ⟨C,dx,fs,r⟩ | ⟨xs,r⟩
  ·exact n _ _ _ (h.symm.trans r)
  ·exact n2 _ (h.symm.trans r)) h
theorem Keep.seqT {K:PySem.W.Frag} {p a:Addr} {H H':Hp} {xs:List V} (s:Keep p H H') (hp:q32 H p) (h:SqT K H a xs):SqT K H' a xs:=by
 rcases h with (h | ⟨o,h⟩) | h
 ·exact .inl (.inl (s.at2 hp h nofun nofun))
 ·exact .inl (.inr ⟨o,s.at2 hp h nofun nofun⟩)
 ·exact .inr h
theorem RowV.keep {K:PySem.W.Frag} {p:Addr} {H H':Hp} {e:RW} (s:Keep p H H') (hp:q32 H p) (h:RowV K H e):RowV K H' e:=let ⟨q,e1,h1⟩:=h;⟨q,e1,s.seqT hp h1⟩
theorem CGood.keep {p:Addr} {H H':Hp} {e:V×CT} (s:Keep p H H') (hp:q32 H p) (h:CGood H e):CGood H' e:=⟨let ⟨q,e1,h1⟩:=h.at_;⟨q,e1,s.at2 hp h1 nofun nofun⟩,h.o1,h.o2⟩
theorem PrV.keep {p:Addr} {H H':Hp} {x:V} {m:MR} (s:Keep p H H') (hp:q32 H p) (h:PrV H x m):PrV H' x m:=let ⟨q,r,e,h1,h2⟩:=h;⟨q,r,e,s.at2 hp h1 nofun nofun,s.at2 hp h2 nofun nofun⟩
theorem Grp.keep {p:Addr} {H0 H H':Hp} {B:List Key} {ms:List MR} {kvs:List (List Key×V)} (s:Keep p H H') {C dx:Addr} {fs:List (Str×V)} (hp:H p=some (.ins C dx fs)) (g:Grp H0 H B ms kvs):Grp H0 H' B ms kvs:=
 ⟨λ k=>(g.at_ k).elim .inl λ ⟨L,xs,e,f,h,r⟩=> .inr ⟨L,xs,e,f,s.at_ hp h nofun,L2.Paired.mapP r λ _ _ z=>z.keep s ⟨_,hp,.inl ⟨_,_,_,rfl⟩⟩⟩,g.inj⟩
theorem qd6 {f:Str} {v:V}:∀ {fs:List (Str×V)} (ns:List Str),fs.map (·.1)=ns ->ns.contains f=false ->putF f v fs=fs++ [(f,v)]
  | [],_,_,_=>rfl
  | (g,x)::r,[],e,_=>nomatch e
  | (g,x)::r,n::ns,e,h=>by
    injection e with e1 e2;have e1:g=n:=e1;rw [List.contains_cons,Bool.or_eq_false_iff] at h;have ne:¬ g=f:=λ z=>by
      rw [<- e1,z] at h;simp at h
    show (if g=f then (g,v)::r else (g,x)::putF f v r)=_;rw [if_neg ne,qd6 ns e2 h.2];rfl
theorem q64 {K:PySem.W.Frag} {H0 H1:Hp} {p C dx:Addr} {fs:List (Str×V)} {f:Str} {y:V} {N:L2.St ->Hp ->Prop} {σ:L2.St} (ns:List Str) (S1:Same H0 H1) (B:H0 p=none) (hp:H1 p=some (.ins C dx fs)) (hc:Cls K C) (hn:NoAttr K C f) (hl:fs.length < 1000) (e:fs.map (·.1)=ns) (nw:ns.contains f=false)
  (h:∀ H2,Same H0 H2 ->H2 p=some (.ins C dx (fs++ [(f,y)])) ->(∀ a o,a≠p ->H1 a=some o ->H2 a=some o) ->N σ H2):
  ∃ a C dx fs,V.ref p= .ref a/\H1 a=some (.ins C dx fs)/\Cls K C/\NoAttr K C f/\fs.length < 1000/\N σ (upd H1 a (.ins C dx (putF f y fs))):=
 ⟨p,C,dx,fs,rfl,hp,hc,hn,hl,h _ (S1.set B) (by rw [qa,qd6 ns e nw]) λ a o n z=>by rw [qg n];exact z⟩
theorem qat {H H':Hp} {a:Addr} {u:HO} (s:Same H H') (h:Rd H a u):Rd H' a u:=h.elim (λ h=> .inl (s _ _ h)) λ ⟨o,h⟩=> .inr ⟨o,s _ _ h⟩
structure TabsAt (K:PySem.W.Frag) (H:Hp) (t:Addr) (tvs:List (Key×V)) (tb:Str ->List RW):Prop where
 at_:Rd H t (.dK tvs)
 get:∀ z,(valV tvs (.inr z)=none/\tb z=[])\/ ∃ a,valV tvs (.inr z)=some (.ref a)/\H a=some (.lst ((tb z).map (·.1)))
 rows:∀ z,∀ e∈tb z,RowV K H e
 len:∀ z,(tb z).length<=1000
theorem TabsAt.same {K:PySem.W.Frag} {H H':Hp} {t:Addr} {tvs:List (Key×V)} {tb:Str ->List RW} (s:Same H H') (h:TabsAt K H t tvs tb):TabsAt K H' t tvs tb:=
 ⟨qat s h.at_,λ z=>(h.get z).elim .inl λ ⟨a,e,q⟩=> .inr ⟨a,e,s _ _ q⟩,λ z e he=>(h.rows z e he).same s,h.len⟩
structure SD where
 atom:AT
 rows:List RW
 shared:List Key
 due:List (V×CT)
structure StepAt (K:PySem.W.Frag) (mg:Str ->Option Value) (H:Hp) (p:Addr) (d:SD) (by_:V):Prop where
 at_:∃ dx tq rq sq dq aq,H p=some (.ins (cA mg "Step") dx [("table",.str d.atom.1),("terms",.ref tq),("rows",.ref rq),("shared",.ref sq),("by_shared",by_),("due",.ref dq),("asks",.ref aq)])/\
  H tq=some (.tup (d.atom.2.map kV))/\H rq=some (.lst (d.rows.map (·.1)))/\H sq=some (.tup (d.shared.map kV))/\H dq=some (.lst (d.due.map (·.1)))
 rows:∀ e∈d.rows,RowV K H e
 due:∀ e∈d.due,CGood H e
 terms:∀ t∈d.atom.2,TxOk t
 lt:d.atom.2.length<=100
 lr:d.rows.length<=1000
 ls:d.shared.length<=100
 ld:d.due.length<=100
def sdOf (ks:List Key) (cs:List (V×CT)) (tb:Str ->List RW) (a:AT):SD:=
 ⟨a,tb a.1,(qz a.2).filter (inK ks),(cs.filter λ e=>chK (ks++qz a.2) e.2).filter λ e=> !chK ks e.2⟩
def qk3 (K:PySem.W.Frag) (mg:Str ->Option Value):Sp:=λ vs H Q _=>∃ (H0:Hp) (p dx r t L W:Addr) (n:Nat) (hd:V) (as:List (V×AT)) (cs:List (V×CT)) (ws:List Key) (zs:List Str) (tvs:List (Key×V)) (tb:Str ->List RW) (e:V×AT),
 vs=[.ref p,.ref r,.int n,.ref t,.ref L,.ref W]/\Same H0 H/\H0 p=none/\H p=some (.ins (cA mg "Step") dx [])/\RuleAt K H0 r hd as cs/\TabsAt K H0 t tvs tb/\H0 L=some (.lst (zs.map V.str))/\H0 W=some (.lst (ws.map kV))/\
 (∀ z∈zs,TxOk (.inr z))/\(∀ t∈ws,TxOk t)/\ws.length<=1000/\zs.length < 64/\as[n]? =some e/\
 ∀ H',Same H0 H' ->StepAt K mg H' p (sdOf (zs.map Sum.inr) cs tb e.2) .non ->(∀ A ys,H0 A=some (.lst ys) ->(∀ z,valV tvs (.inr z)≠some (.ref A)) ->∀ o,StepAt K mg (upd H' A o) p (sdOf (zs.map Sum.inr) cs tb e.2) .non) ->Q .non H'
theorem qd7 (T:Txt K mg):MDef P w K mg base 7 (cA mg "Step") "__init__" ["self","rule","place","tables","known","wanted"] (qk3 K mg):=by
 refine T.qei.ok q5z (λ vs H Q E h=> ?_) λ f cdv A outer s H vs Q E hr h=> ?_
 ·obtain ⟨H0,p,dx,r,t,L,W,n,hd,as,cs,ws,zs,tvs,tb,e,rfl,_⟩:=h;rfl
 ·obtain ⟨H0,p,dx,r,t,L,W,n,hd,as,cs,ws,zs,tvs,tb,e,rfl,s0,U,hp,hR,hT,hL,hW,oz,ow,lw,lz,he,k⟩:=h;refine ⟨_,(qot
   (qo (i:=6) q5z.nd rfl (Or.inl rfl) (qh (qr K) (qh (qr K) (pv 1) qc (λ _ _=>rfl)) (pv 2) (λ _ _=>rfl)))
   (qo (i:=7) q5z.nd rfl (Or.inl rfl) (ql (q2x T) hr rfl (pa_1 (qh (qr K) (pv 6) qc (λ _ _=>rfl)))))
   (q50 (pv 0) (qh (qr K) (pv 6) qc (λ _ _=>rfl)) rfl)
   (q50 (pv 0) (qh (qr K) (pv 6) qc (λ _ _=>rfl)) rfl)
   (q50 (pv 0) (q3t (q2w hr) (pv 3) (qh (qr K) (pv 6) qc (λ _ _=>rfl)) (q1a q1h) ⟨rfl,rfl,rfl,rfl⟩) rfl)
   (q50 (pv 0) (q1u (q2b K) rfl T.q2t q2h (pa_1 (q25 (N:=["variable","known"]) (caps:=[none,some 4]) rfl (by with_unfolding_all rfl) (q23 K (pv 7)) (λ _ _ _ _ _=>(qq (i:=0) (show (["variable","known"]:List Str).Nodup by decide+kernel) rfl (Or.inl rfl))) (λ _ _ _ _ _=>q6v (q15 (q70 hr.units K) (pv 0) (pv 1) (by with_unfolding_all rfl))) (λ _ _ _ _ _=>(pv 0))))) rfl)
   (q50 (pv 0) q4y rfl)
   (q50 (pv 0) (ql (qar T) hr rfl (pa_3 (qh (qr K) (pv 1) qc (λ _ _=>rfl)) (pv 4) (qm q6t (pv 4) (pv 7)))) rfl)
   (q50 (pv 0) (ql (qas T) hr rfl (pa_4 (pv 1) (pv 2) (pv 4) (pv 5))) rfl)),?_⟩
  obtain ⟨b,c,d7,hb,hc⟩:=hR.at_;have ge:=hR.body e (z0u he);obtain ⟨pe,qe,ee,b8,c8⟩:=ge.at_;have hn:n<=as.length:=z31 (z06.mp he).1;have ae:atI (as.map (·.1)) n=some e.1:=qk (j:=n) (by rw [z1j,he];rfl);refine ⟨_,zr,_,_,_,_,zr,zr,s0.seqT d7,qk (j:=1) rfl,_,zr,_,_,_,_,zr,zr,s0.seqT hb,ae,?_⟩;rw [ee];refine ⟨_,zr,_,_,_,_,zr,zr,SqT.of (s0 _ _ b8),qk (j:=1) rfl,qe,e.2.2,zr,SqT.of (s0 _ _ c8),ge.ok,ge.len,λ V1 H1 s1 hV0 hV=> ?_⟩;have S1:=s0.trans s1;have d2:=s1 _ _ hp;have vp:V1≠p:=λ z=>by rw [z,d2] at hV;cases hV
  refine ⟨_,zr,_,_,_,_,zr,zr,SqT.of (S1 _ _ b8),qk (j:=0) rfl,_,zr,?_⟩;refine q64 [] S1 U d2 T.q27 T.qdq (by show 0 < 1000;decide) rfl rfl λ H2 S2 g4 K2=> ?_;have f8:=K2 _ _ vp hV;refine ⟨_,zr,_,_,_,_,zr,zr,SqT.of (S2 _ _ b8),qk (j:=1) rfl,_,zr,?_⟩;refine q64 ["table"] S2 U g4 T.q27 T.q89 (by show 1 < 1000;decide) rfl (by decide+kernel) λ H3 S3 g5 K3=> ?_;have f9:=K3 _ _ vp f8;have f7:=hT.same S3;refine ⟨_,zr,t,zr,.inl ⟨_,f7.at_⟩,_,zr,_,_,_,_,zr,zr,SqT.of (S3 _ _ b8),qk (j:=0) rfl,by decide,λ em c7=> ?_⟩;have s4:=qd (o:=HO.lst []) c7;have d5:=s4 _ _ g5;have g0:=s4 _ _ f9;have S4:=S3.trans s4;have f2:=qa (H:=H3) (a:=em) (o:=HO.lst []);generalize upd H3 em (.lst [])=H4 at*;refine ⟨_,.inl ⟨_,.inr e.2.1,qat S4 hT.at_,zr,zr⟩,_,zr,?_⟩;obtain ⟨rq,a7,c9⟩:∃ rq,(valV tvs (.inr e.2.1)).getD (.ref em)=V.ref rq/\H4 rq=some (.lst ((tb e.2.1).map (·.1))):=by
   rcases hT.get e.2.1 with ⟨e1,e2⟩ | ⟨a,e1,e2⟩
   ·rw [e1,e2];exact ⟨em,zr,f2⟩
   ·rw [e1];exact ⟨a,zr,S4 _ _ e2⟩
  rw [a7];have rp:rq≠p:=λ z=>by rw [z,d5] at c9;cases c9
  refine q64 ["table","terms"] S4 U d5 T.q27 T.q93 (by show 2 < 1000;decide) rfl (by decide+kernel) λ H5 S5 g6 K5=> ?_;have a9:=K5 _ _ vp g0;have d8:=K5 _ _ rp c9;obtain ⟨B,b7⟩:∃ B:List Key,B=zs.map Sum.inr:=⟨_,rfl⟩;have c6:∀ {H'},Same H0 H' ->H' L=some (.lst (B.map kV)):=λ s=>by
   rw [s _ _ hL,b7,z3a];rfl
  have d0:∀ t∈B,TxOk t:=λ t ht=>by
   rw [b7] at ht;obtain ⟨z,hz,rfl⟩:=z38.mp ht;exact oz z hz
  have lkz:B.length < 64:=by rw [b7,z2c];exact lz
  rw [<- b7] at k;have vl:=q3y e.2.2;have h6:=ge.len;have e7:∀ t∈qz e.2.2,TxOk t:=λ t ht=>ge.ok t (z29.mp ht).1;refine ⟨_,zr,V1,zr,⟨_,SqL.of a9⟩,λ D hD=> ?_⟩;refine q20 ((qz e.2.2).map kV).length (λ i σ' H'=>(∃ v,σ'=[v,some (.ref L)])/\Same H5 H'/\H' D=some (.lst ((((qz e.2.2).take i).filter (inK B)).map kV))) ⟨⟨_,zr⟩,qd hD,qa⟩ (λ i σ' H' hi p=> ?_) (λ σ' H' p=>⟨?_,?_⟩) (λ i σ' H' hi p x H2 y=> ?_)
  ·obtain ⟨_,sm,_⟩:=p;exact ⟨_,_,SqL.of (sm _ _ a9),z09 hi⟩
  ·obtain ⟨_,sm,_⟩:=p;exact ⟨_,SqL.of (sm _ _ a9),z3b _⟩
  ·obtain ⟨_,s6,e6⟩:=p;rw [z2c,z26] at e6;refine ⟨_,_,zr,.inl ⟨SqL.of e6,λ q hq=> ?_⟩⟩;have s7:=s6.trans (qd (o:=HO.tup (((qz e.2.2).filter (inK B)).map kV)) hq);have c5:=qa (H:=H') (a:=q) (o:=HO.tup (((qz e.2.2).filter (inK B)).map kV));generalize upd H' q (.tup (((qz e.2.2).filter (inK B)).map kV))=H7 at*;have S7:=S5.trans s7;have d6:=s7 _ _ g6;have qp:q≠p:=λ z=>by rw [z,d6] at c5;cases c5
   refine ⟨_,zr,?_⟩;refine q64 ["table","terms","rows"] S7 U d6 T.q27 T.q5d (by show 3 < 1000;decide) rfl (by decide+kernel) λ H8 S8 g7 K8=> ?_;have g1:=K8 _ _ vp (s7 _ _ a9);have d9:=K8 _ _ rp (s7 _ _ d8);have g9:=K8 _ _ qp c5;refine ⟨_,zr,?_⟩;refine q64 ["table","terms","rows","shared"] S8 U g7 T.q27 T.q3h (by show 4 < 1000;decide) rfl (by decide+kernel) λ H9 S9 g8 K9=> ?_;have g2:=K9 _ _ vp g1;have e0:=K9 _ _ rp d9;have h0:=K9 _ _ qp g9;refine ⟨_,rfl,_,_,_,_,rfl,rfl,S9.seqT d7,qk (j:=2) rfl,_,rfl,_,rfl,_,rfl,_,_,_,_,rfl,rfl,c6 S9,g2,by rw [z2c,z2c];exact z34 (show _<=1000 by omega) (by decide),λ kv g3=> ?_⟩;have e8:=qd (o:=HO.lst (B.map kV++(qz e.2.2).map kV)) g3;have d1:=qa (H:=H9) (a:=kv) (o:=HO.lst (B.map kV++(qz e.2.2).map kV));generalize upd H9 kv (.lst (B.map kV++(qz e.2.2).map kV))=H10 at*;rw [<- z2h] at d1;have b5:=S9.trans e8;have lc:=hR.lc;refine ⟨c,L,kv,cs,B,B++qz e.2.2,zr,b5.seqT hc,λ x hx=>(hR.chs x hx).same b5,by omega,c6 b5,d0,d1,?_,λ D2 H11 h7 f6 b0=> ?_⟩
   ·intro t ht;rcases z27.mp ht with ht | ht
    ·exact d0 t ht
    ·exact e7 t ht
   ·have Y:=e8.trans h7;have e9:=S9.trans Y;have c0:=Y _ _ g8;have dp:D2≠p:=λ z=>by rw [z,c0] at b0;cases b0
    refine ⟨_,zr,?_⟩;refine q64 ["table","terms","rows","shared","by_shared"] e9 U c0 T.q27 T.qad (by show 5 < 1000;decide) rfl (by decide+kernel) λ H12 b6 d3 c4=> ?_;have b4:=c4 _ _ rp (Y _ _ e0);have c1:=c4 _ _ qp (Y _ _ h0);have b9:=c4 _ _ dp b0;refine ⟨_,zr,_,zr,_,zr,_,zr,r,L,W,n,hd,as,cs,ws,zs,zr,hR.same b6,b6 _ _ hL,b6 _ _ hW,oz,ow,by omega,lw,lz,hn,λ aq us H13 J haq _=> ?_⟩;have f0:=b6.trans J;have d4:=J _ _ d3;refine ⟨_,zr,?_⟩;refine q64 ["table","terms","rows","shared","by_shared","due"] f0 U d4 T.q27 T.qed (by show 6 < 1000;decide) rfl (by decide+kernel) λ a6 a0 b3 Z=> ?_;have lf:=z0q (inK B) (qz e.2.2);have lf1:=z0q (λ x:V×CT=>chK (B++qz e.2.2) x.2) cs;have lf2:=z0q (λ x:V×CT=> !chK B x.2) (cs.filter λ x=>chK (B++qz e.2.2) x.2);have O:StepAt K mg a6 p (sdOf B cs tb e.2) .non:=by
     refine ⟨⟨dx,qe,rq,q,D2,aq,b3,a0 _ _ c8,Z _ _ rp (J _ _ b4),Z _ _ qp (J _ _ c1),Z _ _ dp (J _ _ b9)⟩,λ x hx=>(hT.rows _ x hx).same a0,λ x hx=>(hR.chs x (z29.mp (z29.mp hx).1).1).same a0,ge.ok,h6,hT.len _,?_,?_⟩
     ·show ((qz e.2.2).filter (inK B)).length<=100;omega
     ·show ((cs.filter λ x=>chK (B++qz e.2.2) x.2).filter λ x=> !chK B x.2).length<=100;omega
    refine k a6 a0 O λ A ys hA nT o=> ?_;have a8:=a0 _ _ hA;have iA:q32 a6 A:=⟨_,a8,.inr ⟨_,rfl⟩⟩;have kA:Keep A a6 (upd a6 A o):=λ a q n h=>by rw [qg n];exact h
    have rA:rq≠A:=λ z=>by
     rcases hT.get e.2.1 with ⟨e1,_⟩ | ⟨a,e1,_⟩
     ·rw [e1] at a7;have:em=rq:=by injection a7
      rw [this,z] at c7;have:=S3 _ _ hA;rw [c7] at this;cases this
     ·rw [e1] at a7;have:a=rq:=by injection a7
      exact nT _ (by rw [e1,this,z])
    have dA:D2≠A:=λ z=>by
     have:=b5 _ _ hA;rw [<- z,f6] at this;cases this
    exact ⟨⟨dx,qe,rq,q,D2,aq,kA _ _ (λ z=>by rw [<- z,b3] at a8;cases a8) b3,kA.at2 iA (a0 _ _ c8) nofun nofun,kA _ _ rA (Z _ _ rp (J _ _ b4)),kA.at2 iA (Z _ _ qp (J _ _ c1)) nofun nofun,kA _ _ dA (Z _ _ dp (J _ _ b9))⟩,λ x hx=>(O.rows x hx).keep kA iA,λ x hx=>(O.due x hx).keep kA iA,O.terms,O.lt,O.lr,O.ls,O.ld⟩
  ·obtain ⟨⟨v,rfl⟩,sm,e6⟩:=p;obtain ⟨rfl,hx⟩:=y;have e5:=hx _ (SqL.of (sm _ _ a9));rw [z1j] at e5;obtain ⟨t1,e4,rfl⟩:=z0k.mp e5;have ot:=e7 t1 (z0u e4);have st:=q4t (f:=inK B) e4;refine ⟨_,zr,_,zr,keyD t1,B.map keyD,q44 ot,.lst (SqL.of (c6 (S5.trans sm))) (q36 d0),z34 (q4b B) (by decide),?_⟩;rw [qaa];refine ⟨_,zr,ite2 (λ h1=> ?_) (λ h1=> ?_)⟩
   ·refine ⟨_,zr,_,e6,?_,⟨_,zr⟩,sm.set hD,?_⟩
    ·have h8:=z0q (inK B) ((qz e.2.2).take i);rw [z1u] at h8;rw [z2c];exact z1a (show _ < 1000 by omega) (by decide)
    ·rw [qa,st,if_pos h1,z2h];rfl
   ·refine ⟨⟨_,zr⟩,sm,?_⟩;rw [st,if_neg h1,z2d];exact e6
theorem StepAt.ins {K:PySem.W.Frag} {mg:Str ->Option Value} {H:Hp} {p:Addr} {d:SD} {v:V} (h:StepAt K mg H p d v):∃ C dx fs,H p=some (.ins C dx fs):=let ⟨dx,_,_,_,_,_,h1,_⟩:=h.at_;⟨_,dx,_,h1⟩
theorem StepAt.same {K:PySem.W.Frag} {mg:Str ->Option Value} {H H':Hp} {p:Addr} {d:SD} {v:V} (s:Same H H') (h:StepAt K mg H p d v):StepAt K mg H' p d v:=
 ⟨let ⟨dx,tq,rq,sq,dq,aq,h1,h2,h3,h4,h5⟩:=h.at_;⟨dx,tq,rq,sq,dq,aq,s _ _ h1,s _ _ h2,s _ _ h3,s _ _ h4,s _ _ h5⟩,λ e B=>(h.rows e B).same s,λ e B=>(h.due e B).same s,h.terms,h.lt,h.lr,h.ls,h.ld⟩
theorem q7h:∀ {l:List (Key×Key)} {kvs B:List (Key×V)},mAll kvs l=some B ->B.length<=kvs.length+l.length
 | [],_,_,e=>by cases e;exact z3b _
 | p::l,kvs,B,e=>by
  have e':(q19 kvs p.1 p.2).bind (λ k=>mAll k l)=some B:=e;cases q:q19 kvs p.1 p.2 with
  | none=>rw [q] at e';cases e'
  | some k=>
   rw [q] at e';have h1:=q7h (l:=l) (kvs:=k) e';have h2:=q90 kvs p.1 p.2;unfold q19 at q;split at q
   ·cases q
    rw [z1w];omega
   ·cases q
theorem qk4 {ts:List Key} {e:RW} {m:MR} (h:mOne ts e=some m):m.2.length<=ts.length:=by
 unfold mOne at h;split at h
 ·obtain ⟨b,hb,rfl⟩:=z0k.mp h;have:=q7h hb;rw [List.length_zip,z2g] at this;show b.length<=_;omega
 ·cases h
def ByOk (H:Hp) (d:SD) (v:V):Prop:=v= .non\/ ∃ g kvs H0,v= .ref g/\H g=some (.dT kvs)/\Grp H0 H d.shared (d.rows.filterMap (mOne d.atom.2)) kvs
def q3k (d:SD) (kvs:List (Key×V)):List MR:=q7g d.shared (mKey d.shared kvs) (d.rows.filterMap (mOne d.atom.2))
def q5k (d:SD) (kvs:List (Key×V)):List MR:=((q3k d kvs).map λ m=>(m.1,q17 kvs m.2)).filter λ m=>d.due.all λ e=>q1k m.2 e.2
def StepOn (K:PySem.W.Frag) (mg:Str ->Option Value) (H:Hp) (p:Addr) (d:SD):Prop:=∃ v,StepAt K mg H p d v/\ByOk H d v
def StepFar (K:PySem.W.Frag) (mg:Str ->Option Value) (H:Hp) (p:Addr) (d:SD) (lg:Addr):Prop:=∀ o,StepOn K mg (upd H lg o) p d
theorem q65 {H H':Hp} {A:Addr} (h:∀ a o,a≠A ->H a=some o ->H' a=some o) (o:HO):Same (upd H A o) (upd H' A o):=λ a q e=>by
 by_cases z:a=A
 ·rw [z,qa] at e ⊢;exact e
 ·rw [qg z] at e ⊢;exact h _ _ z e
theorem ByOk.same {H H':Hp} {d:SD} {v:V} (s:Same H H') (h:ByOk H d v):ByOk H' d v:=h.elim .inl λ ⟨g,k,H0,e,h1,h2⟩=> .inr ⟨g,k,H0,e,s _ _ h1,h2.same s⟩
theorem StepOn.same {K:PySem.W.Frag} {mg:Str ->Option Value} {H H':Hp} {p:Addr} {d:SD} (s:Same H H') (h:StepOn K mg H p d):StepOn K mg H' p d:=let ⟨v,h1,h2⟩:=h;⟨v,h1.same s,h2.same s⟩
theorem StepFar.same {K:PySem.W.Frag} {mg:Str ->Option Value} {H H':Hp} {p B:Addr} {d:SD} (s:Same H H') (h:StepFar K mg H p d B):StepFar K mg H' p d B:=λ o=>(h o).same (q65 (λ a q _ e=>s _ _ e) o)
theorem StepAt.setby {K:PySem.W.Frag} {mg:Str ->Option Value} {H H':Hp} {p dx tq rq sq dq aq:Addr} {d:SD} {v v2:V} (h:StepAt K mg H p d v) (kp:Keep p H H')
  (hp:H p=some (.ins (cA mg "Step") dx [("table",.str d.atom.1),("terms",.ref tq),("rows",.ref rq),("shared",.ref sq),("by_shared",v),("due",.ref dq),("asks",.ref aq)]))
  (D:H' p=some (.ins (cA mg "Step") dx [("table",.str d.atom.1),("terms",.ref tq),("rows",.ref rq),("shared",.ref sq),("by_shared",v2),("due",.ref dq),("asks",.ref aq)])):StepAt K mg H' p d v2:=by
 obtain ⟨dx',tq',rq',sq',dq',aq',h1,h2,h3,h4,h5⟩:=h.at_;rw [hp] at h1;cases h1
 have i:q32 H p:=⟨_,hp,.inl ⟨_,_,_,rfl⟩⟩;exact ⟨⟨dx,tq,rq,sq,dq,aq,D,kp.at_ hp h2 nofun,kp.at_ hp h3 nofun,kp.at_ hp h4 nofun,kp.at_ hp h5 nofun⟩,λ e B=>(h.rows e B).keep kp i,λ e B=>(h.due e B).keep kp i,h.terms,h.lt,h.lr,h.ls,h.ld⟩
theorem Grp.far {H0 H:Hp} {B:Addr} {J:List Key} {ms:List MR} {kvs:List (List Key×V)} {ys zs:List V} (g:Grp H0 H J ms kvs) (h0:H0 B=some (.lst ys)) (h1:H B=some (.lst zs)) (o:HO):Grp H0 (upd H B o) J ms kvs:=by
 have D:Keep B H (upd H B o):=λ a q n h=>by rw [qg n];exact h
 have i:q32 H B:=⟨_,h1,.inr ⟨_,rfl⟩⟩;refine ⟨λ k=>(g.at_ k).elim .inl λ ⟨L,xs,e,f,h,r⟩=> .inr ⟨L,xs,e,f,D _ _ (λ z=>by rw [z,h0] at f;cases f) h,L2.Paired.mapP r λ _ _ z=>z.keep D i⟩,g.inj⟩
def qmj (K:PySem.W.Frag) (mg:Str ->Option Value):Sp:=λ vs H Q _=>∃ (p b:Addr) (d:SD) (by_:V) (kvs:List (Key×V)),vs=[.ref p,.ref b]/\StepAt K mg H p d by_/\ByOk H d by_/\H b=some (.dK kvs)/\AllK kvs/\kvs.length<=1000/\
 (∀ m∈q3k d kvs,∀ e∈d.due,HOk (q17 kvs m.2) e.2)/\∀ D H' xs,Keep p H H' ->StepOn K mg H' p d ->(∀ lg ys,H lg=some (.lst ys) ->StepFar K mg H p d lg ->StepFar K mg H' p d lg) ->H D=none ->H' D=some (.lst xs) ->Paired (PrV H') xs (q5k d kvs) ->Q (.ref D) H'
theorem q8r (T:Txt K mg):MDef P w K mg base 6 (cA mg "Step") "joined_on" ["self","binding"] (qmj K mg):=by
 refine T.q9i.ok q2k (λ vs H Q E h=> ?_) λ f cdv A outer s H vs Q E hr h=> ?_
 ·obtain ⟨p,b,d,d3,kvs,rfl,_⟩:=h;rfl
 ·obtain ⟨p,b,d,d3,kvs,rfl,J,hB,hb,ak,lk,ho,k⟩:=h;refine q6x 1 (λ σ H'=>σ=[some (.ref p),some (.ref b),none,none,none,none]/\Keep p H H'/\∃ g gk H0,StepAt K mg H' p d (.ref g)/\H' g=some (.dT gk)/\Grp H0 H' d.shared (d.rows.filterMap (mOne d.atom.2)) gk/\∀ lg ys,H lg=some (.lst ys) ->StepFar K mg H p d lg ->StepFar K mg H' p d lg) ⟨_,(q46
   (qo (i:=2) q2k.nd rfl (Or.inl rfl) (q1a q1h))
   (q1t PassesOwn.never rfl (q23 K (q3t (q2w hr) (q5p (pv 0) rfl) (ql (q6f T) hr rfl (pa_2 (q5p (pv 0) rfl) (pv 1))) (q1a q1h) ⟨rfl,rfl,rfl,rfl⟩)) (q43 rfl (q1g (qq (i:=3) q2k.nd rfl (Or.inl rfl)) (q1g (qq (i:=4) q2k.nd rfl (Or.inl rfl)) q34))) (q46
   (qo (i:=5) q2k.nd rfl (Or.inl rfl) (q1u q9z rfl T.qim qf2 (pa_1 (pv 1))))
   (q2n (qmc (pv 5) (pv 4) ⟨rfl,rfl,rfl,rfl⟩))
   (q1e (q1s (ql (q91 T) hr rfl (pa_2 (q5p (pv 0) rfl) (pv 5)))) (qi (q2n (q45 z0g z0c z0d q3a (pv 2) (pa_1 (q2j (pa_2 (pv 3) (pv 5))))))) q11)))
   (qt (pv 2))),?_⟩ (λ u hu hC=>⟨_,(qkx
   (q1e (q15 qn9 (q5p (pv 0) rfl) q4y (q14 _)) (qi (q50 (pv 0) (ql (q8q T) hr rfl (pa_3 (q5p (pv 0) rfl) (q5p (pv 0) rfl) (q5p (pv 0) rfl))) rfl)) q11)
   hu),?_⟩)
  ·rintro σ H1 ⟨rfl,kp,g,gk,H0,O,hg,gr,far⟩;obtain ⟨_,_,_,hi⟩:=J.ins;have c5:=kp.at_ hi hb nofun;obtain ⟨dx,tq,rq,sq,dq,aq,hp,b7,b6,a6,b4⟩:=O.at_;refine ⟨by decide,λ D hD=> ?_⟩;have s2:=qd (o:=HO.lst []) hD;have b9:=qa (H:=H1) (a:=D) (o:=HO.lst []);generalize upd H1 D (.lst [])=H2 at*;refine ⟨_,zr,p,_,dx,_,_,zr,s2 _ _ hp,T.q27,T.q3h,zr,g,zr,.inr ⟨_,.inl (s2 _ _ hg)⟩,_,zr,p,_,dx,_,_,zr,s2 _ _ hp,T.q27,T.q5d,zr,_,zr,sq,b,d.shared,kvs,zr,SqT.of (s2 _ _ a6),s2 _ _ c5,O.ls,λ q H3 s3 hq=> ?_⟩;rw [q8l ak] at hq;refine ⟨by decide,λ em c6=> ?_⟩;have s4:=qd (o:=HO.lst []) c6;have c7:=qa (H:=H3) (a:=em) (o:=HO.lst []);have eD:em≠D:=λ z=>by
    have:=s3 _ _ b9;rw [<- z,c6] at this;cases this
   generalize upd H3 em (.lst [])=H4 at*;have Z:=s2.trans (s3.trans s4);have b3:=(s3.trans s4) _ _ b9;obtain ⟨La,xs,d4,d7,c4,pr⟩:∃ La xs,(valV gk (mKey d.shared kvs)).getD (.ref em)=V.ref La/\La≠D/\H4 La=some (.lst xs)/\Paired (PrV H4) xs (q3k d kvs):=by
    rcases gr.at_ (mKey d.shared kvs) with ⟨e1,e2⟩ | ⟨L,ys,e1,_,h1,r1⟩
    ·rw [e1];refine ⟨em,[],zr,eD,c7,?_⟩;unfold q3k;rw [e2];exact .nil
    ·rw [e1];exact ⟨L,ys,rfl,(λ z=>by rw [z,hD] at h1;cases h1),Z _ _ h1,L2.Paired.mapP r1 λ _ _ z=>z.same Z⟩
   have d9:(q3k d kvs).length<=1000:=by
    have h1:=z0q (λ m:MR=>decide (mKey d.shared m.2=mKey d.shared kvs)) (d.rows.filterMap (mOne d.atom.2));have h2:=List.length_filterMap_le (mOne d.atom.2) d.rows;have h3:=O.lr;show (List.filter _ _).length<=1000;omega
   refine ⟨_,DGet.t (Z _ _ hg) (s4 _ _ hq),La,d4,⟨_,SqL.of c4⟩,q5o (xs:=xs) (λ i σ H'=>∃ (v3 v4 v5:Option V) (ys:List V),σ=[some (.ref p),some (.ref b),some (.ref D),v3,v4,v5]/\(∀ a o,a≠D ->H4 a=some o ->H' a=some o)/\H' D=some (.lst ys)/\ys.length<=i/\Paired (PrV H') ys ((((q3k d kvs).map λ m=>(m.1,q17 kvs m.2)).take i).filter λ m=>d.due.all λ e=>q1k m.2 e.2)) ⟨none,none,none,[],rfl,λ _ _ _ h=>h,b3,z3b _,.nil⟩ (λ i σ H' _ z=> ?_) ?_ ?_⟩
   ·obtain ⟨_,_,_,_,_,z,_⟩:=z;exact SqL.of (z _ _ d7 c4)
   ·rintro i x σ H5 hx ⟨v3,v4,v5,ys,rfl,k5,a0,ly,Y⟩;obtain ⟨m,hm,pp,q0,rfl,hpp,b5⟩:=q3c pr hx;have S5:Same H1 H5:=λ a o h=>k5 _ _ (λ z=>by rw [z,hD] at h;cases h) (Z _ _ h);have d0:=k5 _ _ (λ z=>by rw [z,b3] at hpp;cases hpp) hpp;have d1:=k5 _ _ (λ z=>by rw [z,b3] at b5;cases b5) b5;have hil:=(z06.mp hm).1;have lm2:m.2.length<=100:=by
     have h1:=(z29.mp (show m∈List.filter _ _ from z0u hm)).1;obtain ⟨e,_,he⟩:=List.mem_filterMap.mp h1;have:=qk4 he;have:=O.lt;omega
    have st:=q4t (f:=λ m:MR=>d.due.all λ e=>q1k m.2 e.2) (as:=(q3k d kvs).map λ m=>(m.1,q17 kvs m.2)) (i:=i) (e:=(m.1,q17 kvs m.2)) (by rw [z1j,hm];rfl);refine ⟨pp,_,zr,SqT.of d0,zr,_,_,zr,_,_,zr,zr,?_⟩;refine ⟨_,zr,b,kvs,zr,.inl (S5 _ _ c5),λ tg a7=> ?_⟩;have s6:=qd (o:=HO.dK kvs) a7;have d8:tg≠q0:=λ z=>by rw [z,d1] at a7;cases a7
    refine ⟨_,rfl,tg,rfl,.inl ⟨_,.inl qa⟩,_,rfl,kvs,m.2,q0,qa,rfl,.inl (s6 _ _ d1),d8,z34 (show _<=2000 by omega) (by decide),?_⟩;have s7:Same H5 (upd (upd H5 tg (.dK kvs)) tg (.dK (q17 kvs m.2))):=s6.set a7;have a9:=qa (H:=upd H5 tg (.dK kvs)) (a:=tg) (o:=HO.dK (q17 kvs m.2));generalize upd (upd H5 tg (.dK kvs)) tg (.dK (q17 kvs m.2))=H7 at*;have S7:=S5.trans s7;refine ⟨_,zr,p,_,dx,_,_,zr,S7 _ _ hp,T.q27,T.qad,zr,_,zr,dq,tg,d.due,q17 kvs m.2,zr,SqL.of (S7 _ _ b4),λ e he=>⟨((O.due e he).same S7).at_,ho m (z0u hm) e he⟩,O.ld,a9,λ H8 s8=>⟨_,zr,ite2 (λ h1=> ?_) (λ h1=> ?_)⟩⟩
    ·have U:=s7.trans s8;have c0:=U _ _ a0;refine ⟨_,rfl,.inl ⟨rfl,_,SqL.of c0⟩,_,rfl,_,rfl,by show 2<=sizeLine;decide,λ w hw=> ?_⟩;have s9:=qd (o:=HO.tup [m.1.1,.ref tg]) hw;have d6:=qa (H:=H8) (a:=w) (o:=HO.tup [m.1.1,.ref tg]);have c1:=s9 _ _ c0;have d2:=s9 _ _ (s8 _ _ a9);generalize upd H8 w (.tup [m.1.1,.ref tg])=H9 at*;have b8:=U.trans s9;have ne:∀ {a o},H9 a=some o ->(∀ xs,o≠ .lst xs) ->upd H9 D (.lst (ys++ [.ref w])) a=some o:=λ {a o} h n=>by
      rw [qg (λ z=>by rw [z,c1] at h;injection h with h;exact n _ h.symm)];exact h
     refine ⟨D,ys,_,rfl,rfl,c1,z1a (show _ < 2000 by omega) (by decide),_,_,_,ys++ [.ref w],rfl,λ a o n h=>by rw [qg n];exact b8 _ _ (k5 _ _ n h),qa,by rw [z17];show _+1<=_;omega,?_⟩;rw [st,if_pos h1];refine q3z (L2.Paired.mapP Y λ _ _ ⟨a1,a2,e,h2,h3⟩=>⟨a1,a2,e,ne (b8 _ _ h2) nofun,ne (b8 _ _ h3) nofun⟩) ⟨w,tg,zr,ne d6 nofun,ne d2 nofun⟩
    ·have U:=s7.trans s8;refine ⟨_,_,_,ys,zr,λ a o n h=>U _ _ (k5 _ _ n h),U _ _ a0,by omega,?_⟩;rw [st,if_neg h1,z2d];exact L2.Paired.mapP Y λ _ _ z=>z.same U
   ·rintro σ H5 ⟨v3,v4,v5,ys,rfl,k5,a0,ly,Y⟩;have S5:Same H1 H5:=λ a o h=>k5 _ _ (λ z=>by rw [z,hD] at h;cases h) (Z _ _ h);have d5:H D=none:=by
     cases e:H D with
     | none=>rfl
     | some o=>
      have nd:D≠p:=λ z=>by rw [z,hp] at hD;cases hD
      have:=kp _ _ nd e;rw [hD] at this;cases this
    rw [z0h (by rw [z2c,<- pr.length];exact z3b _)] at Y;exact ⟨_,zr,k D H5 ys (kp.trans (Keep.of S5)) ⟨.ref g,O.same S5,.inr ⟨g,gk,H0,zr,S5 _ _ hg,gr.same S5⟩⟩ (λ lg zs h1 h2=>(far lg zs h1 h2).same S5) d5 a0 Y⟩
  ·obtain ⟨dx,tq,rq,sq,dq,aq,hp,b7,b6,a6,b4⟩:=J.at_;refine ⟨_,zr,p,_,dx,_,_,zr,hp,T.q27,T.q3h,zr,?_⟩;rcases hB with rfl | ⟨g,gk,H0,rfl,hg,gr⟩
   ·refine ⟨zr,_,zr,q4x rfl ?_⟩;refine ⟨_,zr,p,_,dx,_,_,zr,hp,T.q27,T.q89,zr,_,zr,p,_,dx,_,_,zr,hp,T.q27,T.q93,zr,_,zr,p,_,dx,_,_,zr,hp,T.q27,T.q5d,zr,tq,rq,sq,d.atom.2,d.shared,d.rows,zr,SqT.of b7,SqL.of b6,J.rows,SqT.of a6,J.terms,J.lt,J.ls,J.lr,λ g gk H1 s1 hg0 hg gr=> ?_⟩;have B:=s1 _ _ hp;refine ⟨_,rfl,p,_,dx,_,rfl,B,T.q27,T.q3h,(by show 7 < 1000;decide),?_⟩;have i1:q32 H1 p:=⟨_,B,.inl ⟨_,_,_,rfl⟩⟩;have kp:∀ o,Keep p H1 (upd H1 p o):=λ o a q n h=>by rw [qg n];exact h
    refine hC _ _ ⟨zr,(Keep.of s1).trans (kp _),g,gk,H,⟨⟨dx,tq,rq,sq,dq,aq,qa,(kp _).at_ B (s1 _ _ b7) nofun,(kp _).at_ B (s1 _ _ b6) nofun,(kp _).at_ B (s1 _ _ a6) nofun,(kp _).at_ B (s1 _ _ b4) nofun⟩,λ e he=>((J.rows e he).same s1).keep (kp _) i1,λ e he=>((J.due e he).same s1).keep (kp _) i1,J.terms,J.lt,J.lr,J.ls,J.ld⟩,(kp _).at_ B hg nofun,gr.keep (kp _) B,λ lg ys h1 h2 o=> ?_⟩;have lp:p≠lg:=λ z=>by rw [z,h1] at hp;cases hp
    obtain ⟨v0,b0,_⟩:=h2 o;have c9:upd H lg o p=some (.ins (cA mg "Step") dx [("table",.str d.atom.1),("terms",.ref tq),("rows",.ref rq),("shared",.ref sq),("by_shared",.non),("due",.ref dq),("asks",.ref aq)]):=by rw [qg lp];exact hp
    have ev:v0= .non:=by
     obtain ⟨_,_,_,_,_,_,q1,_⟩:=b0.at_;rw [c9] at q1;cases q1
     rfl
    subst ev;have a8:=s1 _ _ h1;have c8:=(kp (.ins (cA mg "Step") dx (putF "by_shared" (.ref g) [("table",.str d.atom.1),("terms",.ref tq),("rows",.ref rq),("shared",.ref sq),("by_shared",.non),("due",.ref dq),("asks",.ref aq)]))).at_ B a8 nofun;refine ⟨.ref g,b0.setby (λ a q n h=> ?_) c9 (by rw [qg lp];exact qa),.inr ⟨g,gk,H,rfl,?_,(gr.keep (kp _) B).far h1 c8 o⟩⟩
    ·by_cases z:a=lg
     ·rw [z,qa] at h ⊢;exact h
     ·rw [qg z] at h ⊢;rw [qg n];exact s1 _ _ h
    ·rw [qg (λ z=>by rw [z,a8] at hg;cases hg)];exact (kp _).at_ B hg nofun
   ·refine ⟨zr,_,zr,q1p rfl ?_⟩;exact hC _ _ ⟨zr,Keep.of (Same.refl H),g,gk,H0,J,hg,gr,λ _ _ _ h=>h⟩
def strK:Key ->Str
 | .inr z=>z
 | .inl _=>""
def q41 (ts:List Key):List Str:=(qz ts).map strK
theorem q9f (ts:List Key):(q41 ts).map Sum.inr=qz ts:=by
 unfold q41;rw [z3a];have:∀ t∈qz ts,(Sum.inr∘strK) t=t:=λ t ht=>by
  have:=(z29.mp ht).2;cases t with
  | inl i=>cases this
  | inr z=>rfl
 rw [z10 this,List.map_id']
def q29 (zs:List Str) (as:List AT):List Str:=zs++as.flatMap λ a=>q41 a.2
theorem qi5 (zs:List Str) (as:List AT):(q29 zs as).map Sum.inr=zs.map Sum.inr++q1x as:=by
 unfold q29 q1x;rw [z2h,List.map_flatMap]
 congr 2
 funext a
 exact q9f a.2
def q1q (ks:List Key) (cs:List (V×CT)) (tb:Str ->List RW):List AT ->List SD
 | []=>[]
 | a::r=>sdOf ks cs tb a::q1q (ks++qz a.2) cs tb r
theorem qf9 (cs:List (V×CT)) (tb:Str ->List RW) (a:AT):∀ (l:List AT) (ks:List Key),q1q ks cs tb (l++ [a])=q1q ks cs tb l++ [sdOf (ks++q1x l) cs tb a]
 | [],ks=>by
  show [sdOf ks cs tb a]=[sdOf (ks++ []) cs tb a];rw [z2d]
 | b::l,ks=>by
  show sdOf ks cs tb b::q1q (ks++qz b.2) cs tb (l++ [a])=sdOf ks cs tb b::(q1q (ks++qz b.2) cs tb l++ [sdOf (ks++q1x (b::l)) cs tb a]);rw [qf9 cs tb a l,z1g];rfl
def qk5 (K:PySem.W.Frag) (mg:Str ->Option Value):Sp:=λ vs H Q _=>∃ (r t L W:Addr) (hd:V) (as:List (V×AT)) (cs:List (V×CT)) (ws:List Key) (zs:List Str) (tvs:List (Key×V)) (tb:Str ->List RW),
 vs=[.ref r,.ref t,.ref L,.ref W]/\RuleAt K H r hd as cs/\TabsAt K H t tvs tb/\H L=some (.lst (zs.map V.str))/\H W=some (.lst (ws.map kV))/\(∀ z∈zs,TxOk (.inr z))/\(∀ t∈ws,TxOk t)/\ws.length<=1000/\(q29 zs (as.map (·.2))).length < 64/\
 ∀ (A:Addr) (ps:List Addr) (H':Hp),Same H H' ->H A=none ->H' A=some (.lst (ps.map V.ref)) ->(∀ p∈ps,H p=none) ->ps.Nodup ->Paired (λ p d=>StepAt K mg H' p d .non) ps (q1q (zs.map Sum.inr) cs tb (as.map (·.2))) ->Q (.ref A) H'
theorem qea (T:Txt K mg):Def P w K mg base 9 "steps_of" ["rule","tables","known","wanted"] (qk5 K mg):=by
 refine T.qgk.ok q3n (λ vs H Q E h=> ?_) λ f cdv A outer s H vs Q E hr h=> ?_
 ·obtain ⟨r,t,L,W,hd,as,cs,ws,zs,tvs,tb,rfl,_⟩:=h;rfl
 ·obtain ⟨r,t,L,W,hd,as,cs,ws,zs,tvs,tb,rfl,hR,hT,hL,hW,oz,ow,lw,lz,k⟩:=h;refine ⟨_,(q78
   (qo (i:=4) q3n.nd rfl (Or.inl rfl) (q1a q1h))
   (qo (i:=5) q3n.nd rfl (Or.inl rfl) (pv 2))
   (q1t PassesOwn.never rfl (qjs K rfl T.qel (pa_1 (qh (qr K) (pv 0) qc (λ _ _=>rfl)))) (q43 rfl (q1g (qq (i:=6) q3n.nd rfl (Or.inl rfl)) (q1g (qq (i:=7) q3n.nd rfl (Or.inl rfl)) q34))) (q3r
   (q2n (q45 z0g z0c z0d q3a (pv 4) (pa_1 (qnx (qd7 T) T.qmw T.qmx hr rfl T.qoe (pa_5 (pv 0) (pv 6) (pv 1) (pv 5) (pv 3))))))
   (qo (i:=5) q3n.nd rfl (Or.inl rfl) (qm q6t (pv 5) (ql (q2x T) hr rfl (pa_1 (qh (qr K) (pv 7) qc (λ _ _=>rfl))))))))
   (qt (pv 4))),?_⟩
  obtain ⟨b,c,c1,hb,hc⟩:=hR.at_;refine ⟨by decide,λ S D=> ?_⟩;have s1:=qd (o:=HO.lst []) D;have b6:=qa (H:=H) (a:=S) (o:=HO.lst []);generalize upd H S (.lst [])=H1 at*;have nT:∀ z,valV tvs (.inr z)≠some (.ref S):=λ z e=>by
   rcases hT.get z with ⟨e1,_⟩ | ⟨a,e1,h1⟩
   ·rw [e1] at e;cases e
   ·rw [e1] at e;injection e with e;injection e with e;rw [e,D] at h1;cases h1
  refine ⟨_,zr,?_⟩;refine ⟨_,rfl,_,_,_,_,rfl,rfl,s1.seqT c1,qk (j:=1) rfl,b,rfl,⟨_,s1.seqT hb⟩,qhs (K:=K) (xs:=as.map (·.1)) (λ i σ G=>∃ (ah:Addr) (v6 v7:Option V) (ps:List Addr),σ=[some (.ref r),some (.ref t),some (.ref L),some (.ref W),some (.ref S),some (.ref ah),v6,v7]/\Same H G/\G S=some (.lst (ps.map V.ref))/\ah≠S/\G ah=some (.lst ((q29 zs ((as.map (·.2)).take i)).map V.str))/\(∀ p∈ps,H p=none)/\ps.Nodup/\ps.length<=i/\Paired (λ p d=>∀ o,StepAt K mg (upd G S o) p d .non) ps (q1q (zs.map Sum.inr) cs tb ((as.map (·.2)).take i))) ⟨L,none,none,[],rfl,s1,b6,(λ z=>by rw [z,D] at hL;cases hL),(by rw [s1 _ _ hL];show some (HO.lst (zs.map V.str))=some (HO.lst ((zs++ []).map V.str));rw [z2d]),(λ _ z=>nomatch z),z2q,z3b _,.nil⟩ (λ i σ G _ z=> ?_) ?_ ?_⟩
  ·obtain ⟨_,_,_,_,_,z,_⟩:=z;exact z.seqT hb
  ·rintro i x pp σ G0 hx hpp ⟨ah,v6,v7,ps,rfl,c8,a6,b4,a8,fr,nd,c4,c7⟩;refine ⟨_,_,zr,SqT.of qa,zr,_,_,zr,_,_,zr,zr,?_⟩;have U:=qd (o:=HO.tup [V.int (i:Nat),x]) hpp;have sg:=c8.trans U;have B:=U _ _ a6;have Z:=U _ _ a8;have pr:=L2.Paired.mapP c7 λ p d (h:∀ o,StepAt K mg (upd G0 S o) p d .non) o=>(h o).same (q65 (λ a q _ e=>U _ _ e) o);generalize upd G0 pp (.tup [V.int (i:Nat),x])=G at*;rw [z1j] at hx;obtain ⟨e,O,rfl⟩:=z0k.mp hx;have hil:=(z06.mp O).1;have b3:(as.map (·.2))[i]? =some e.2:=by rw [z1j,O];rfl
   have ge:=hR.body e (z0u O);obtain ⟨pe,qe,ee,b9,c0⟩:=ge.at_;have tk:(as.map (·.2)).take (i+1)=(as.map (·.2)).take i++ [e.2]:=by rw [z2r,b3];rfl
   have la:=hR.la;have c5:(q29 zs ((as.map (·.2)).take i)).length < 64:=by
    refine Nat.lt_of_le_of_lt ?_ lz;unfold q29;rw [z17,z17];have:((as.map (·.2)).flatMap λ a=>q41 a.2).length=(((as.map (·.2)).take i).flatMap λ a=>q41 a.2).length+(((as.map (·.2)).drop i).flatMap λ a=>q41 a.2).length:=by
     rw [<- z17,<- z13,z0m]
    omega
   have c6:∀ z∈q29 zs ((as.map (·.2)).take i),TxOk (.inr z):=λ z hz=>by
    unfold q29 at hz;rcases z27.mp hz with hz | hz
    ·exact oz z hz
    ·obtain ⟨a,ha,hz⟩:=List.mem_flatMap.mp hz;obtain ⟨e1,b8,rfl⟩:=z38.mp (List.mem_of_mem_take ha);have:Sum.inr z∈qz e1.2.2:=by rw [<- q9f];exact List.mem_map_of_mem hz
     exact (hR.body e1 b8).ok _ (z29.mp this).1
   refine ⟨_,zr,.inl ⟨zr,_,SqL.of B⟩,_,zr,_,zr,_,zr,_,zr,_,zr,λ x dx hx b7 ndx=> ?_⟩;refine ⟨G,x,dx,r,t,ah,W,i,hd,as,cs,ws,q29 zs ((as.map (·.2)).take i),tvs,tb,e,zr,(qd b7).set hx,hx,qa,hR.same sg,hT.same sg,Z,sg _ _ hW,c6,ow,lw,c5,O,λ H2 s2 sat b5=>⟨zr,?_⟩⟩;refine ⟨S,_,_,rfl,rfl,s2 _ _ B,by rw [z2c];exact z1a (show _ < 1000 by omega) (by decide),?_⟩;have k3:∀ a o,a≠S ->H2 a=some o ->upd H2 S (.lst (ps.map V.ref++ [.ref x])) a=some o:=λ a o n h=>by rw [qg n];exact h
   have S3:Same H (upd H2 S (.lst (ps.map V.ref++ [.ref x]))):=(sg.trans s2).set D;have a7:=qa (H:=H2) (a:=S) (o:=HO.lst (ps.map V.ref++ [.ref x]));generalize upd H2 S (.lst (ps.map V.ref++ [.ref x]))=H3 at*;have a9:=k3 _ _ b4 (s2 _ _ Z);refine ⟨_,zr,_,zr,_,_,_,_,ee,zr,SqT.of (S3 _ _ b9),qk (j:=1) rfl,qe,e.2.2,zr,SqT.of (S3 _ _ c0),ge.ok,ge.len,λ V1 H4 s4 hV0 hV=> ?_⟩;have vl:=q3y e.2.2;have lte:=ge.len;refine ⟨_,_,_,_,rfl,rfl,s4 _ _ a9,hV,by rw [z2c,z2c];exact z34 (show _<=1000 by omega) (by decide),λ J Y=> ?_⟩;have a0:(q29 zs ((as.map (·.2)).take i)).map V.str++(qz e.2.2).map kV=(q29 zs ((as.map (·.2)).take (i+1))).map V.str:=by
    rw [tk];unfold q29;rw [z13,<- z1g,z2h (f:=V.str) (l₁:=_++_)]
    congr 1
    rw [<- q9f,z3a];show (q41 e.2.2).map (kV∘Sum.inr)=(q41 e.2.2++ []).map V.str;rw [z2d];rfl
   rw [a0];have s5:=qd (o:=HO.lst ((q29 zs ((as.map (·.2)).take (i+1))).map V.str)) Y;have b0:=qa (H:=H4) (a:=J) (o:=HO.lst ((q29 zs ((as.map (·.2)).take (i+1))).map V.str));have n2:J≠S:=λ z=>by
    have:=s4 _ _ a7;rw [<- z,Y] at this;cases this
   generalize upd H4 J (.lst ((q29 zs ((as.map (·.2)).take (i+1))).map V.str))=H5 at*;have k5:∀ a o,a≠S ->H2 a=some o ->H5 a=some o:=λ a o n h=>(s4.trans s5) _ _ (k3 _ _ n h);refine ⟨J,_,_,ps++ [x],rfl,S3.trans (s4.trans s5),by rw [(s4.trans s5) _ _ a7,z2h];rfl,n2,b0,?_,?_,by rw [z17];show _+1<=_;omega,?_⟩
   ·intro p hp;rcases z27.mp hp with hp | hp
    ·exact fr p hp
    ·rw [z16.mp hp];exact sg.free hx
   ·refine z1s.mpr ⟨nd,z2e.mpr ⟨by simp,z2q⟩,λ p hp q hq=> ?_⟩;rw [z16.mp hq];rintro rfl;obtain ⟨j,hj⟩:=List.getElem?_of_mem hp;obtain ⟨d,_,hd⟩:=q3c pr hj;obtain ⟨dx,_,_,_,_,_,h1,_⟩:=(hd (.lst [])).at_;by_cases z:p=S
    ·rw [z,qa] at h1;cases h1
    ·rw [qg z,hx] at h1;cases h1
   ·rw [tk,qf9];refine q3z (L2.Paired.mapP pr λ p d h o=>(h o).same (q65 (λ a q n e=>k5 _ _ n (s2 _ _ e)) o)) λ o=> ?_;have:=b5 S _ B nT o;rw [qi5] at this;exact this.same (q65 k5 o)
  ·rintro σ G ⟨ah,v6,v7,ps,rfl,sg,B,b4,Z,fr,nd,c4,pr⟩;rw [z2c,<- z2c (f:=λ x:V×AT=>x.2) (as:=as),z26] at pr;have eu:upd G S (.lst (ps.map V.ref))=G:=by
    funext a
    by_cases z:a=S
    ·rw [z,qa,B]
    ·rw [qg z]
   refine ⟨_,zr,k S ps G sg D B fr nd (L2.Paired.mapP pr λ p d h=> ?_)⟩;have:=h (.lst (ps.map V.ref));rw [eu] at this;exact this
abbrev FD:=List RW×List (Key×V)
def FdV (K:PySem.W.Frag) (H:Hp) (x:V) (f:FD):Prop:=∃ p u b,x= .ref p/\H p=some (.tup [.ref u,.ref b])/\H u=some (.tup (f.1.map (·.1)))/\H b=some (.dK f.2)
theorem FdV.same {K:PySem.W.Frag} {H H':Hp} {x:V} {f:FD} (s:Same H H') (h:FdV K H x f):FdV K H' x f:=let ⟨p,u,b,e,h1,h2,h3⟩:=h;⟨p,u,b,e,s _ _ h1,s _ _ h2,s _ _ h3⟩
theorem FdV.keep {K:PySem.W.Frag} {p:Addr} {H H':Hp} {x:V} {f:FD} (s:Keep p H H') (hp:q32 H p) (h:FdV K H x f):FdV K H' x f:=let ⟨p,u,b,e,h1,h2,h3⟩:=h;⟨p,u,b,e,s.at2 hp h1 nofun nofun,s.at2 hp h2 nofun nofun,s.at2 hp h3 nofun nofun⟩
def q2c (d:SD) (f:FD):List FD:=(q5k d f.2).map λ m=>(f.1++ [m.1],m.2)
def q26 (ini:List FD):List SD ->List FD
 | []=>ini
 | d::r=>q26 (ini.flatMap (q2c d)) r
theorem q7i (d:SD):∀ (l:List SD) (B:List FD),q26 B (l++ [d])=(q26 B l).flatMap (q2c d)
 | [],_=>rfl
 | e::l,B=>q7i d l (B.flatMap (q2c e))
def iniK (cs:List CT):List FD:=if ((cs.filter (chK [])).all λ e=>q1k [] e)=true then [([],[])] else []
theorem StepOn.keep {K:PySem.W.Frag} {mg:Str ->Option Value} {H H':Hp} {p q C dx:Addr} {fs:List (Str×V)} {d:SD} (s:Keep q H H') (hq:H q=some (.ins C dx fs)) (ne:p≠q) (h:StepOn K mg H p d):StepOn K mg H' p d:=by
 obtain ⟨v,h1,h2⟩:=h;have i:q32 H q:=⟨_,hq,.inl ⟨_,_,_,rfl⟩⟩;refine ⟨v,⟨let ⟨dx,tq,rq,sq,dq,aq,a1,a2,a3,a4,a5⟩:=h1.at_;⟨dx,tq,rq,sq,dq,aq,s _ _ ne a1,s.at_ hq a2 nofun,s.at_ hq a3 nofun,s.at_ hq a4 nofun,s.at_ hq a5 nofun⟩,λ e B=>(h1.rows e B).keep s i,λ e B=>(h1.due e B).keep s i,h1.terms,h1.lt,h1.lr,h1.ls,h1.ld⟩,?_⟩;exact h2.elim .inl λ ⟨g,k,H0,e,b1,b2⟩=> .inr ⟨g,k,H0,e,s.at_ hq b1 nofun,b2.keep s hq⟩
theorem q7j {α β:Type} {F:α ->β ->Prop}:∀ {xs:List α} {as:List β} {ys:List α} {bs:List β},Paired F xs as ->Paired F ys bs ->Paired F (xs++ys) (as++bs)
 | _,_,_,_,.nil,h=>h
 | _,_,_,_,.cons a r,h=> .cons a (q7j r h)
theorem qd8 {H:Hp} {a:Addr} {o:HO} (h:H a=some o):upd H a o=H:=by
 funext b
 by_cases z:b=a
 ·rw [z,qa,h]
 ·rw [qg z]
theorem qd9 (cs:List (V×CT)):iniK (cs.map (·.2))=if ((cs.filter λ e=>chK [] e.2).all λ e=>q1k [] e.2)=true then [([],[])] else []:=by
 unfold iniK;rw [List.filter_map,z39];rfl
def qmk (K:PySem.W.Frag):Sp:=λ vs H Q _=>∃ (r t hp ht:Addr) (hn:Str) (ts:List Key) (as:List (V×AT)) (cs:List (V×CT)) (tvs:List (Key×V)) (tb:Str ->List RW),
 vs=[.ref r,.ref t]/\RuleAt K H r (.ref hp) as cs/\SqT K H hp [.str hn,.ref ht]/\SqT K H ht (ts.map kV)/\ts.length<=100/\TabsAt K H t tvs tb/\(q29 [] (as.map (·.2))).length < 64/\(∀ e∈cs,chK [] e.2=true ->HOk [] e.2)/\
 (∀ i,(q26 (iniK (cs.map (·.2))) ((q1q [] cs tb (as.map (·.2))).take i)).length<=10000)/\
 (∀ (i:Nat) (d:SD),(q1q [] cs tb (as.map (·.2)))[i]? =some d ->∀ f∈q26 (iniK (cs.map (·.2))) ((q1q [] cs tb (as.map (·.2))).take i),AllK f.2/\f.2.length<=1000/\f.1.length<=1000/\∀ m∈q3k d f.2,∀ e∈d.due,HOk (q17 f.2 m.2) e.2)/\
 ∀ (R:Addr) (xs:List V) (H':Hp),Same H H' ->H R=none ->H' R=some (.lst xs) ->Paired (λ x (f:FD)=>∃ p h u,x= .ref p/\H' p=some (.tup [.ref h,.ref u])/\H' h=some (.tup (ts.map (tv f.2)))/\H' u=some (.tup (f.1.map (·.1)))) xs (q26 (iniK (cs.map (·.2))) (q1q [] cs tb (as.map (·.2)))) ->Q (.ref R) H'
theorem qda (T:Txt K mg):Def P w K mg base 10 "instances" ["rule","tables"] (qmk K):=by
  refine T.qej.ok q2r (λ vs H Q E h=> ?_) λ f cdv A outer s H vs Q E hr h=> ?_
  · obtain ⟨r,t,hp,ht,hn,ts,as,cs,tvs,tb,rfl,_⟩:=h
    rfl
  · obtain ⟨r,t,hp,ht,hn,ts,as,cs,tvs,tb,rfl,hR,f6,f7,h0,hT,lz,ho,lf,hG,k⟩:=h
    refine q6x 1 (λ σ G=>∃ (fa:Addr) (xs:List V),σ=[some (.ref r),some (.ref t),some (.ref fa),none,none,none,none]/\Same H G/\G fa=some (.lst xs)/\Paired (FdV K G) xs (iniK (cs.map (·.2)))) ⟨_,(q3r
      (q1t PassesOwn.never rfl (q23 K (ql (qea T) hr rfl (pa_4 (pv 0) (pv 1) (q1a q1h) (q1a q1h)))) (qq (i:=3) q2r.nd rfl (Or.inl rfl)) (q46
      (qo (i:=4) q2r.nd rfl (Or.inl rfl) (q1a q1h))
      (q1t PassesOwn.never rfl (q23 K (pv 2)) (q43 rfl (q1g (qq (i:=5) q2r.nd rfl (Or.inr rfl)) (q1g (qq (i:=6) q2r.nd rfl (Or.inl rfl)) q34))) (qi (q2n (q45 z0g z0a z0b qb8 (pv 4) (pa_1 (q25 (N:=["row","together","used"]) (caps:=[none,none,some 5]) rfl (by with_unfolding_all rfl) (q23 K (qm2 (q8r T) T.q27 hr (pv 3) (pa_1 (pv 6)))) (λ _ _ _ _ _=>(qf5 K (n:=2) rfl (q1g (qq (i:=0) (show (["row","together","used"]:List Str).Nodup by decide+kernel) rfl (Or.inl rfl)) (q1g (qq (i:=1) (show (["row","together","used"]:List Str).Nodup by decide+kernel) rfl (Or.inl rfl)) q34)))) (λ _ _ _ _ _=>q3u) (λ _ _ _ _ _=>(q2j (pa_2 (qm qm5 (pv 2) (q2j (pa_1 (pv 0)))) (pv 1))))))))))
      (qo (i:=2) q2r.nd rfl (Or.inl rfl) (pv 4))))
      (qt (q25 (N:=["used","binding","rule"]) (caps:=[none,none,some 0]) rfl (by with_unfolding_all rfl) (q23 K (pv 2)) (λ _ _ _ _ _=>(qf5 K (n:=2) rfl (q1g (qq (i:=0) (show (["used","binding","rule"]:List Str).Nodup by decide+kernel) rfl (Or.inl rfl)) (q1g (qq (i:=1) (show (["used","binding","rule"]:List Str).Nodup by decide+kernel) rfl (Or.inl rfl)) q34)))) (λ _ _ _ _ _=>q3u) (λ _ _ _ _ _=>(q2j (pa_2 (ql (q6f T) hr rfl (pa_2 (qh (qr K) (qh (qr K) (pv 2) qc (λ _ _=>rfl)) qc (λ _ _=>rfl)) (pv 1))) (pv 0))))))),?_⟩ (λ u hu hC=>⟨_,(qkx
      (qo (i:=2) q2r.nd rfl (Or.inl rfl) (qis (q1s (ql (q91 T) hr rfl (pa_2 (ql (q62 T) hr rfl (pa_2 (qh (qr K) (pv 0) qc (λ _ _=>rfl)) (q1a q1h))) q5r))) (q1a (pa_1 (q2j (pa_2 (q2j q1h) q5r)))) (q1a q1h)))
      hu),?_⟩)
    · rintro σ G ⟨fa,xs,rfl,sg,B,pr⟩
      refine ⟨_,zr,_,zr,by decide,λ l1 f8=> ?_⟩;have s1:=qd (o:=HO.lst []) f8;refine ⟨by decide,λ l2 f9=> ?_⟩;have s2:=qd (o:=HO.lst []) f9;have d0:=s2 _ _ (qa (H:=G) (a:=l1) (o:=HO.lst []));have d1:=qa (H:=upd G l1 (.lst [])) (a:=l2) (o:=HO.lst []);have d7:=s1.trans s2;generalize upd (upd G l1 (.lst [])) l2 (.lst [])=G2 at*;have c4:=sg.trans d7;refine ⟨r,t,l1,l2,.ref hp,as,cs,[],[],tvs,tb,rfl,hR.same c4,hT.same c4,d0,d1,(λ _ z=>nomatch z),(λ _ z=>nomatch z),z3e _,lz,λ A ps H1 s3 hA0 hA fr nd st=> ?_⟩;have st:Paired (λ p d=>StepAt K mg H1 p d .non) ps (q1q [] cs tb (as.map (·.2))):=st;generalize q1q [] cs tb (as.map (·.2))=Y at*;generalize i0:iniK (cs.map (·.2))=b9 at*;have c1:=d7.trans s3;have e4:∀ p∈ps,H p=none:=λ p hp=>c4.free (fr p hp);refine ⟨A,zr,⟨_,SqL.of hA⟩,q5o (xs:=ps.map V.ref) (λ i σ F=>∃ (fa:Addr) (v3 v4 v5 v6:Option V) (xs:List V),σ=[some (.ref r),some (.ref t),some (.ref fa),v3,v4,v5,v6]/\Same H F/\F A=some (.lst (ps.map V.ref))/\F fa=some (.lst xs)/\Paired (FdV K F) xs (q26 b9 (Y.take i))/\∀ (j:Nat) (p:Addr) (d:SD),ps[j]? =some p ->Y[j]? =some d ->StepOn K mg F p d) ⟨fa,none,none,none,none,xs,zr,sg.trans c1,hA,c1 _ _ B,L2.Paired.mapP pr λ _ _ z=>z.same c1,λ j p d h1 h2=> ?_⟩ (λ i σ F _ z=> ?_) ?_ ?_⟩
      · obtain ⟨d',h3,h4⟩:=q3c st h1
        rw [h2] at h3;cases h3
        exact ⟨.non,h4,.inl rfl⟩
      · obtain ⟨_,_,_,_,_,_,_,_,z,_⟩:=z
        exact SqL.of z
      · rintro i x σ F hx ⟨fa,v3,v4,v5,v6,xs,rfl,sf,hA,B,pr,st⟩
        rw [z1j] at hx;obtain ⟨p,a8,rfl⟩:=z0k.mp hx;have g1:=e4 p (z0u a8);obtain ⟨d,a7,_⟩:=q3c ‹Paired (λ p d=>StepAt K mg H1 p d .non) ps Y› a8;have tk:Y.take (i+1)=Y.take i++ [d]:=by rw [z2r,a7];rfl
        have g9:=lf (i+1);rw [tk,q7i] at g9;have e7:=hG i d a7;generalize f0:q26 b9 (Y.take i)=fs at*;refine ⟨by decide,λ lg J=> ?_⟩;have s5:=qd (o:=HO.lst []) J;have d4:=qa (H:=F) (a:=lg) (o:=HO.lst []);have c5:∀ (j:Nat) (p:Addr) (d:SD),ps[j]? =some p ->Y[j]? =some d ->StepFar K mg (upd F lg (.lst [])) p d lg:=λ j p d h1 h2 o=>(st j p d h1 h2).same (s5.set J);have h6:fa≠lg:=λ z=>by rw [z,J] at B;cases B
        have nA:A≠lg:=λ z=>by rw [z,J] at hA;cases hA
        have d3:H lg=none:=sf.free J;have sF:=sf.trans s5;have e5:=s5 _ _ hA;have b3:=s5 _ _ B;have h7:=L2.Paired.mapP pr λ _ _ (z:FdV K F _ _)=>z.same s5;generalize upd F lg (.lst [])=F5 at*;refine ⟨_,zr,fa,zr,⟨_,SqL.of b3⟩,q5o (xs:=xs) (λ j σ G=>∃ (v5 v6:Option V) (ys:List V),σ=[some (.ref r),some (.ref t),some (.ref fa),some (.ref p),some (.ref lg),v5,v6]/\Same H G/\G A=some (.lst (ps.map V.ref))/\G fa=some (.lst xs)/\Paired (FdV K G) xs fs/\(∀ (j:Nat) (p:Addr) (d:SD),ps[j]? =some p ->Y[j]? =some d ->StepFar K mg G p d lg)/\G lg=some (.lst ys)/\Paired (FdV K G) ys ((fs.take j).flatMap (q2c d))) ⟨_,_,[],zr,sF,e5,b3,h7,c5,d4,.nil⟩ (λ j σ G _ z=> ?_) ?_ ?_⟩
        · obtain ⟨_,_,_,_,_,_,z,_⟩:=z
          exact SqL.of z
        · rintro j x σ G hx ⟨v5,v6,ys,rfl,se,hA,B,pr,st,J,py⟩
          obtain ⟨f,hf,pp,u,b,rfl,hpp,hu,hb⟩:=q3c pr hx;obtain ⟨ak,lk,lu,hok⟩:=e7 f (z0u hf);refine ⟨pp,_,zr,SqT.of hpp,zr,_,_,zr,_,_,zr,zr,?_⟩;have on:=st i p d a8 a7 (.lst ys);rw [qd8 J] at on;obtain ⟨v,d8,d9⟩:=on;obtain ⟨dx,tq,rq,sq,dq,aq,a0,_⟩:=id d8.at_;refine ⟨_,zr,.inl ⟨zr,_,SqL.of J⟩,_,zr,p,dx,_,zr,a0,zr,_,zr,p,b,d,v,f.2,zr,d8,d9,hb,ak,lk,hok,λ D E2 zs kp on2 c6 c9 hD pz=> ?_⟩;have i2:q32 G p:=⟨_,a0,.inl ⟨_,_,_,rfl⟩⟩;have g6:=kp.at_ a0 hu nofun;have lgD:lg≠D:=λ z=>by rw [z,c9] at J;cases J
          refine ⟨D,zr,⟨_,SqL.of hD⟩,λ C hC=> ?_⟩;refine q20 zs.length (λ k σ' Z=>(∃ v1 v2,σ'=[v1,v2,some (.ref u)])/\Same E2 Z/\∃ U,Z C=some (.lst U)/\Paired (FdV K Z) U (((q5k d f.2).take k).map λ m=>(f.1++ [m.1],m.2))/\U.length<=k) ⟨⟨_,_,rfl⟩,qd hC,[],qa,.nil,z3b _⟩ (λ k σ' Z hi z=> ?_) (λ σ' Z z=>⟨?_,?_⟩) (λ k σ' Z hi z x E3 y=> ?_)
          · obtain ⟨_,O,_⟩:=z
            exact ⟨_,_,SqL.of (O _ _ hD),z09 hi⟩
          · obtain ⟨_,O,_⟩:=z
            exact ⟨_,SqL.of (O _ _ hD),z3b _⟩
          · obtain ⟨_,O,U,b5,pw,lw⟩:=z
            rw [pz.length,z26] at pw;have pl:p≠lg:=λ z=>by rw [z,J] at a0;cases a0
            have b4:=O _ _ (kp.at_ a0 J nofun);have fst:=qd5 (f:=q2c d) hf;have l1:ys.length+U.length<=10000:=by
              have h1:=py.length;have h2:=pw.length;have h3:(fs.flatMap (q2c d)).length=((fs.take (j+1)).flatMap (q2c d)).length+((fs.drop (j+1)).flatMap (q2c d)).length:=by rw [<- z17,<- z13,z0m]
              rw [fst,z17] at h3;have h4:(q2c d f).length=((q5k d f.2).map λ m=>(f.1++ [m.1],m.2)).length:=rfl;omega
            have kl:Keep lg Z (upd Z lg (.lst (ys++U))):=λ a q n h=>by rw [qg n];exact h
            have il:q32 Z lg:=⟨_,b4,.inr ⟨_,rfl⟩⟩;have sE:Same H Z:=λ a o h=>O _ _ (kp _ _ (λ z=>by rw [z,g1] at h;cases h) (se _ _ h));refine ⟨lg,C,ys,U,zr,zr,b4,b5,z34 l1 (by decide),_,_,ys++U,zr,sE.set d3,kl _ _ nA (O _ _ (kp.at_ a0 hA nofun)),kl _ _ h6 (O _ _ (kp.at_ a0 B nofun)),L2.Paired.mapP pr λ _ _ z=>((z.keep kp i2).same O).keep kl il,λ j2 p2 d2 h1 h2=> ?_,qa,?_⟩
            · have e0:StepFar K mg E2 p2 d2 lg:=by
                by_cases e:p2=p
                · subst e
                  have ej:j2=i:=(List.getElem?_inj (z06.mp h1).1 nd).mp (h1.trans a8.symm);subst ej;rw [a7] at h2;cases h2
                  exact c6 lg ys J (st _ _ _ a8 a7)
                · refine λ o=>(st _ _ _ h1 h2 o).keep (q:=p) (λ a q n h=> ?_) (by rw [qg pl];exact a0) e
                  by_cases z:a=lg
                  · rw [z,qa] at h ⊢
                    exact h
                  · rw [qg z] at h ⊢
                    exact kp _ _ n h
              exact λ o=>(e0.same O o).same (q65 (λ a q n e=>by rw [qg n];exact e) o)
            · rw [fst]
              exact q7j (L2.Paired.mapP py λ _ _ z=>((z.keep kp i2).same O).keep kl il) (L2.Paired.mapP pw λ _ _ z=>z.keep kl il)
          · obtain ⟨⟨v1,v2,rfl⟩,O,U,b5,pw,lw⟩:=z
            obtain ⟨rfl,hx⟩:=y;have b8:=hx _ (SqL.of (O _ _ hD));obtain ⟨m,hm,p3,q3,rfl,g3,g5⟩:=q3c pz b8;refine ⟨p3,_,zr,SqT.of (O _ _ g3),zr,_,_,zr,_,_,zr,zr,?_⟩;refine ⟨_,rfl,_,rfl,by show 1<=sizeLine;decide,λ o1 g0=> ?_⟩;have s6:=qd (o:=HO.tup [m.1.1]) g0;refine ⟨u,o1,_,_,rfl,rfl,s6 _ _ (O _ _ g6),qa,by rw [z2c];exact z34 (show _+1<=2000 by omega) (by decide),λ u2 E5 s7 g7=> ?_⟩;refine ⟨_,rfl,by show 2<=sizeLine;decide,λ a9 d5=> ?_⟩;have s8:=qd (o:=HO.tup [.ref u2,.ref q3]) d5;have e8:=qa (H:=E5) (a:=a9) (o:=HO.tup [.ref u2,.ref q3]);have g8:=s8 _ _ g7;have b0:=s6.trans (s7.trans s8);generalize upd E5 a9 (.tup [.ref u2,.ref q3])=E8 at*;have c8:=b0 _ _ b5;have kc:Keep C E8 (upd E8 C (.lst (U++ [.ref a9]))):=λ a q n h=>by rw [qg n];exact h
            have ic:q32 E8 C:=⟨_,c8,.inr ⟨_,rfl⟩⟩;have h9:zs.length<=100000:=by
              have h1:=pz.length;have h2:(fs.flatMap (q2c d)).length=((fs.take (j+1)).flatMap (q2c d)).length+((fs.drop (j+1)).flatMap (q2c d)).length:=by rw [<- z17,<- z13,z0m]
              rw [qd5 (f:=q2c d) hf,z17] at h2;have h3:(q2c d f).length=(q5k d f.2).length:=z2c ..;omega
            refine ⟨U,c8,z1a (show U.length < 100001 by omega) (by decide),⟨_,_,rfl⟩,(O.trans b0).set hC,U++ [.ref a9],qa,?_,by rw [z17];show _+1<=_;omega⟩;rw [z2r,hm,z2h];refine q3z (L2.Paired.mapP pw λ _ _ z=>(z.same b0).keep kc ic) (FdV.keep kc ic ⟨a9,u2,q3,zr,e8,?_,b0 _ _ (O _ _ g5)⟩);rw [g8,z2h];rfl
        · rintro σ G ⟨v5,v6,ys,rfl,se,hA,B,pr,st,J,py⟩
          rw [pr.length,z26] at py;refine ⟨_,zr,lg,_,_,_,_,ys,zr,se,hA,J,?_,λ j p d h1 h2=> ?_⟩
          · rw [tk,q7i,f0]
            exact py
          · have:=st j p d h1 h2 (.lst ys)
            rw [qd8 J] at this;exact this
      · rintro σ F ⟨fa,v3,v4,v5,v6,xs,rfl,sf,hA,B,pr,st2⟩
        rw [z2c,st.length,z26] at pr;obtain ⟨b,c,b7,hb,hc⟩:=hR.at_;have d6:=lf Y.length;rw [z26] at d6;generalize q26 b9 Y=fs at*;refine ⟨_,zr,fa,zr,⟨_,SqL.of B⟩,λ R b6=> ?_⟩;refine q20 xs.length (λ i σ' Z=>(∃ v1 v2,σ'=[v1,v2,some (.ref r)])/\Same F Z/\∃ U,Z R=some (.lst U)/\U.length<=i/\Paired (λ x (f:FD)=>∃ p h u,x= .ref p/\Z p=some (.tup [.ref h,.ref u])/\Z h=some (.tup (ts.map (tv f.2)))/\Z u=some (.tup (f.1.map (·.1)))) U (fs.take i)) ⟨⟨_,_,rfl⟩,qd b6,[],qa,z3b _,.nil⟩ (λ i σ' Z hi z=> ?_) (λ σ' Z z=>⟨?_,?_⟩) (λ i σ' Z hi z x E3 y=> ?_)
        · obtain ⟨_,O,_⟩:=z
          exact ⟨_,_,SqL.of (O _ _ B),z09 hi⟩
        · obtain ⟨_,O,_⟩:=z
          exact ⟨_,SqL.of (O _ _ B),z3b _⟩
        · obtain ⟨_,O,U,h1,_,pw⟩:=z
          rw [pr.length,z26] at pw;exact k R U Z (sf.trans O) (sf.free b6) h1 pw
        · obtain ⟨⟨v1,v2,rfl⟩,O,U,h1,lw,pw⟩:=z
          obtain ⟨rfl,hx⟩:=y;have b8:=hx _ (SqL.of (O _ _ B));obtain ⟨f,hf,pp,u,b,rfl,hpp,hu,hb⟩:=q3c pr b8;have S:=sf.trans O;refine ⟨pp,_,zr,SqT.of (O _ _ hpp),zr,_,_,zr,_,_,zr,zr,?_⟩;refine ⟨_,zr,_,_,_,_,zr,zr,S.seqT b7,qk (j:=0) rfl,_,_,_,_,zr,zr,S.seqT f6,qk (j:=1) rfl,_,zr,ht,b,ts,f.2,zr,S.seqT f7,O _ _ hb,h0,λ h E5 s5 hh=> ?_⟩;refine ⟨_,rfl,by show 2<=sizeLine;decide,λ p2 g2=> ?_⟩;have s6:=qd (o:=HO.tup [.ref h,.ref u]) g2;have e6:=qa (H:=E5) (a:=p2) (o:=HO.tup [.ref h,.ref u]);have a6:=s5.trans s6;have f2:=s6 _ _ hh;generalize upd E5 p2 (.tup [.ref h,.ref u])=E6 at*;have c7:=a6 _ _ h1;have kc:Keep R E6 (upd E6 R (.lst (U++ [.ref p2]))):=λ a q n h=>by rw [qg n];exact h
          have ic:q32 E6 R:=⟨_,c7,.inr ⟨_,rfl⟩⟩;have lx:=pr.length;refine ⟨U,c7,z1a (show U.length < 100001 by omega) (by decide),⟨_,_,rfl⟩,(O.trans a6).set b6,U++ [.ref p2],qa,by rw [z17];show _+1<=_;omega,?_⟩;rw [z2r,hf];exact q3z (L2.Paired.mapP pw λ _ _ ⟨a1,a2,a3,e,q1,q2,q3⟩=>⟨a1,a2,a3,e,kc.at2 ic (a6 _ _ q1) nofun nofun,kc.at2 ic (a6 _ _ q2) nofun nofun,kc.at2 ic (a6 _ _ q3) nofun nofun⟩) ⟨p2,h,u,zr,kc.at2 ic e6 nofun nofun,kc.at2 ic f2 nofun nofun,kc.at2 ic (a6 _ _ (O _ _ hu)) nofun nofun⟩
    · obtain ⟨b,c,b7,hb,hc⟩:=hR.at_
      have lc:=hR.lc;refine ⟨_,zr,_,_,_,_,zr,zr,b7,qk (j:=2) rfl,by decide,λ L0 e9=> ?_⟩;have s1:=qd (o:=HO.lst []) e9;refine ⟨c,L0,cs,[],rfl,s1.seqT hc,λ e he=>(hR.chs e he).same s1,by omega,qa,(λ _ z=>nomatch z),λ D H1 s2 c9 hD=> ?_⟩;refine λ q hq=> ?_;have s3:=qd (o:=HO.dK []) hq;have c0:=s1.trans (s2.trans s3);have lf1:=z0q (λ e:V×CT=>chK [] e.2) cs;refine ⟨D,q,cs.filter (λ e=>chK [] e.2),[],zr,SqL.of (s3 _ _ hD),λ e he=>⟨((hR.chs e (z29.mp he).1).same c0).at_,ho e (z29.mp he).1 (z29.mp he).2⟩,by omega,qa,λ H2 s4=>⟨_,zr,ite2 (λ h1=> ?_) (λ h1=> ?_)⟩⟩
      · have h8:=c0.trans s4
        refine ⟨by decide,λ u hu=> ?_⟩;have s5:=qd (o:=HO.tup []) hu;refine λ q2 g4=> ?_;have s6:=qd (o:=HO.dK []) g4;refine ⟨by show 2<=sizeLine;decide,λ pp hpp=> ?_⟩;have s7:=qd (o:=HO.tup [.ref u,.ref q2]) hpp;refine ⟨by show 1<=sizeLine;decide,λ fa B=> ?_⟩;have s8:=qd (o:=HO.lst [.ref pp]) B;refine hC _ _ ⟨fa,[.ref pp],zr,h8.trans (s5.trans (s6.trans (s7.trans s8))),qa,?_⟩;rw [qd9,if_pos h1];exact .cons ⟨pp,u,q2,zr,s8 _ _ qa,(s6.trans (s7.trans s8)) _ _ qa,(s7.trans s8) _ _ qa⟩ .nil
      · refine ⟨by decide,λ fa B=> ?_⟩
        have s8:=qd (o:=HO.lst []) B;refine hC _ _ ⟨fa,[],zr,c0.trans (s4.trans s8),qa,?_⟩;rw [qd9,if_neg h1];exact .nil
def EqM (k b:List (Key×V)):Prop:=∀ t,valV k t=valV b t
theorem EqM.tv {k b:List (Key×V)} (h:EqM k b) (t:Key):tv k t=Wy.tv b t:=by
 unfold Wy.tv;rw [h t]
theorem EqM.holds {k b:List (Key×V)} (h:EqM k b) (e:CT):q1k k e=q1k b e:=by
 unfold q1k;rw [h.tv,h.tv]
def OnlyV (k:List (Key×V)):Prop:=∀ t v,valV k t=some v ->txtK capS t=true
theorem OnlyV.nil:OnlyV []:=λ _ _ e=>nomatch e
theorem q4u (k:List (Key×V)) (t v s:Key):valV (mPut k t v) s=if s=t/\txtK capS t=true/\valV k t=none then some (kV v) else valV k s:=by
 unfold mPut;by_cases h:txtK capS t=true/\valV k t=none
 ·rw [if_pos h,q2y];by_cases e:s=t
  ·rw [if_pos e,if_pos ⟨e,h⟩]
  ·rw [if_neg e,if_neg (λ z=>e z.1)]
 ·rw [if_neg h,if_neg (λ z=>h z.2)]
theorem q3d {k B:List (Key×V)} {t v:Key} (h:q19 k t v=some B):B=mPut k t v/\Wy.tv B t=kV v:=by
 unfold q19 at h;split at h
 ·rename_i q;cases h
  exact ⟨zr,q⟩
 ·cases h
theorem q7k {k:List (Key×V)} {t v:Key} (h:Wy.tv (mPut k t v) t=kV v):q19 k t v=some (mPut k t v):=if_pos h
theorem OnlyV.step {k B:List (Key×V)} {t v:Key} (o:OnlyV k) (h:q19 k t v=some B):OnlyV B:=λ s x e=>by
 rw [(q3d h).1,q4u] at e;split at e
 ·rename_i q;rw [q.1];exact q.2.1
 ·exact o s x e
theorem OnlyV.all:∀ {l:List (Key×Key)} {k B:List (Key×V)},OnlyV k ->mAll k l=some B ->OnlyV B
 | [],_,_,o,h=>by cases h;exact o
 | p::l,k,B,o,h=>by
  have e':(q19 k p.1 p.2).bind (λ k=>mAll k l)=some B:=h;cases q:q19 k p.1 p.2 with
  | none=>rw [q] at e';cases e'
  | some k3=>rw [q] at e';exact OnlyV.all (o.step q) e'
def Both (k0 k b:List (Key×V)):Prop:=∀ t,valV k t=(valV k0 t).or (valV b t)/\∀ x y,valV k0 t=some x ->valV b t=some y ->x=y
theorem q6g:∀ {l:List (Key×Key)} {k B:List (Key×V)} {t:Key} {x:V},mAll k l=some B ->valV k t=some x ->valV B t=some x
 | [],_,_,_,_,h,e=>by cases h;exact e
 | p::l,k,B,t,x,h,e=>by
  have e':(q19 k p.1 p.2).bind (λ k=>mAll k l)=some B:=h;cases q:q19 k p.1 p.2 with
  | none=>rw [q] at e';cases e'
  | some k3=>
   rw [q] at e';refine q6g (l:=l) (k:=k3) e' ?_;rw [(q3d q).1,q4u,if_neg]
   ·exact e
   ·rintro ⟨rfl,_,z⟩;rw [e] at z;cases z
theorem q5l {k:List (Key×V)} {t:Key} (o:OnlyV k) (c:¬ txtK capS t=true):Wy.tv k t=kV t:=by
 unfold Wy.tv;cases q:valV k t with
 | none=>rfl
 | some x=>exact absurd (o t x q) c
theorem q8m:∀ {l:List (Key×Key)} {k D:List (Key×V)} {t v:Key},OnlyV k ->mAll k l=some D ->(t,v)∈l ->txtK capS t=true ->valV D t=some (kV v)
 | [],_,_,_,_,_,_,m,_=>nomatch m
 | p::l,k,D,t,v,o,h,m,c=>by
  have e':(q19 k p.1 p.2).bind (λ k=>mAll k l)=some D:=h;cases q:q19 k p.1 p.2 with
  | none=>rw [q] at e';cases e'
  | some J=>
   rw [q] at e';rcases z2v.mp m with rfl | m
   ·refine q6g (l:=l) (k:=J) e' ?_;obtain ⟨e3,B⟩:=q3d q;have B:(valV J t).getD (kV t)=kV v:=B;cases z:valV J t with
    | some x=>
     rw [z] at B;exact congrArg some B
    | none=>
     rw [e3,q4u] at z;split at z
     ·cases z
     ·rename_i w;exact absurd ⟨zr,c,z⟩ w
   ·exact q8m (l:=l) (o.step q) e' m c
def NdK (k:List (Key×V)):Prop:=(k.map (·.1)).Nodup
theorem NdK.all:∀ {l:List (Key×Key)} {k B:List (Key×V)},NdK k ->mAll k l=some B ->NdK B
 | [],_,_,n,h=>by cases h;exact n
 | p::l,k,B,n,h=>by
  have e':(q19 k p.1 p.2).bind (λ k=>mAll k l)=some B:=h;cases q:q19 k p.1 p.2 with
  | none=>rw [q] at e';cases e'
  | some k3=>
   rw [q] at e';refine NdK.all (l:=l) (k:=k3) ?_ e';rw [(q3d q).1];unfold mPut;split
   ·rename_i w;exact qlq _ n w.2
   ·exact n
theorem q52 (x:Key) (y:V) (r:List (Key×V)) (t:Key):valV ((x,y)::r) t=if x=t then some y else valV r t:=by
 unfold valV;by_cases h:x=t
 ·rw [if_pos h,List.find?_cons_of_pos (by simpa using h)];rfl
 ·rw [if_neg h,List.find?_cons_of_neg (by simpa using h)]
theorem qdb {r:List (Key×V)} {t:Key} (h:t∉r.map (·.1)):valV r t=none:=by
 cases q:valV r t with
 | none=>rfl
 | some x=>exact absurd (z38.mpr ⟨_,q86 q,rfl⟩) h
theorem q5h:∀ {b:List (Key×V)} {k:List (Key×V)},NdK b ->∀ t,valV (q17 k b) t=(valV b t).or (valV k t)
  | [],_,_,_=>rfl
  | (x,y)::r,k,n,t=>by
    have n':(x::r.map (·.1)).Nodup:=n;obtain ⟨n1,n2⟩:=z2e.mp n';show valV (q17 (putK k x y) r) t=_;rw [q5h (b:=r) n2 t,q2y,q52];by_cases h:x=t
    · subst h
      rw [if_pos rfl,if_pos rfl,qdb n1];rfl
    · rw [if_neg h,if_neg (λ z=>h z.symm)]
def q28:List AT ->List RW ->List (Key×Key)
 | a::as,e::us=>a.2.zip e.2++q28 as us
 | _,_=>[]
theorem qk6 {k b:List (Key×V)} {ks:List Key} {e:CT} (ok:OnlyV k) (ob:OnlyV b) (kn:∀ t∈ks,∃ x,valV k t=some x/\valV b t=some x) (c:chK ks e=true):q1k k e=q1k b e:=by
 have B:∀ t∈([e.2.1,e.2.2]:List Key),Wy.tv k t=Wy.tv b t:=λ t ht=>by
  by_cases v:txtK capS t=true
  ·have:inK ks t=true:=z21.mp c t (z29.mpr ⟨ht,v⟩);obtain ⟨x,h1,h2⟩:=kn t (q5j.mp this);unfold Wy.tv;rw [h1,h2]
  ·rw [q5l ok v,q5l ob v]
 unfold q1k;rw [B _ (z18 ..),B _ (z0s _ (z18 ..))]
theorem qfa {ts vs:List Key} {t:Key} (h:t∈ts) (l:ts.length=vs.length):∃ v,(t,v)∈ts.zip vs:=by
 obtain ⟨i,hi⟩:=List.getElem?_of_mem h;have il:=(z06.mp hi).1;refine ⟨vs[i]'(by omega),z0u (i:=i) ?_⟩;rw [List.getElem?_zip_eq_some];exact ⟨hi,z09 _⟩
def AllIn (S:List Key) (k:List (Key×V)):Prop:=∀ kv∈k,∃ u∈S,kv.2=kV u
theorem AllIn.allK {S:List Key} {k:List (Key×V)} (h:AllIn S k):AllK k:=λ kv hk=>let ⟨u,_,e⟩:=h kv hk;⟨u,e⟩
theorem AllIn.merge {S:List Key}:∀ {b k:List (Key×V)},AllIn S k ->AllIn S b ->AllIn S (q17 k b)
 | [],k,h,_=>h
 | D::r,k,h,g=>by
  show AllIn S (q17 (putK k D.1 D.2) r);refine AllIn.merge (λ x B=> ?_) (λ x B=>g x (z0s _ B));rcases q8k B with B | rfl
  ·exact h x B
  ·exact g D (z18 ..)
theorem AllIn.all {S:List Key}:∀ {l:List (Key×Key)} {k B:List (Key×V)},AllIn S k ->(∀ p∈l,p.2∈S) ->mAll k l=some B ->AllIn S B
 | [],_,_,h,_,e=>by cases e;exact h
 | p::l,k,B,h,hp,e=>by
  have e':(q19 k p.1 p.2).bind (λ k=>mAll k l)=some B:=e;cases q:q19 k p.1 p.2 with
  | none=>rw [q] at e';cases e'
  | some k1=>
   rw [q] at e';refine AllIn.all (k:=k1) ?_ (λ x hx=>hp x (z0s _ hx)) e';rw [(q3d q).1];unfold mPut;split
   ·intro kv hk;rcases q8k hk with hk | rfl
    ·exact h kv hk
    ·exact ⟨p.2,hp p (z18 ..),zr⟩
   ·exact h
theorem AllIn.tv {S:List Key} {k:List (Key×V)} (h:AllIn S k) {t:Key} {x:V} (e:valV k t=some x):∃ u∈S,Wy.tv k t=kV u:=by
 obtain ⟨u,hu,e1⟩:=h _ (q86 e);exact ⟨u,hu,by unfold Wy.tv;rw [e];exact e1⟩
theorem qi6 {ts vs:List Key} {p:Key×Key} (h:p∈ts.zip vs):p.2∈vs:=(List.of_mem_zip (a:=p.1) (b:=p.2) h).2
structure FOk (tb:Str ->List RW) (S ks:List Key) (n:Nat) (f:FD):Prop where
 rows:∀ e∈f.1,∃ z,e∈tb z
 vals:AllIn S f.2
 bnd:∀ t∈ks,∃ x,valV f.2 t=some x
 ov:OnlyV f.2
 l1:f.1.length<=n
 l2:f.2.length<=100*n
theorem qdc {d:SD} {k:List (Key×V)} {m:MR} (h:m∈q3k d k):m.1∈d.rows/\d.atom.2.length=m.1.2.length/\mAll [] (d.atom.2.zip m.1.2)=some m.2:=by
 obtain ⟨e,he,h1⟩:=List.mem_filterMap.mp (z29.mp h).1;unfold mOne at h1;split at h1
 ·rename_i l;obtain ⟨b,hb,rfl⟩:=z0k.mp h1;exact ⟨he,l,hb⟩
 ·cases h1
theorem qi7 (d:SD) (k:List (Key×V)):(q3k d k).length<=d.rows.length:=z34 (z0q ..) (List.length_filterMap_le ..)
theorem qk7 (d:SD) (f:FD):(q2c d f).length<=d.rows.length:=by
 unfold q2c q5k;rw [z2c];refine z34 (z0q ..) ?_;rw [z2c];exact qi7 d f.2
theorem FOk.more {tb:Str ->List RW} {S ks:List Key} {n:Nat} {f:FD} {cs:List (V×CT)} {a:AT} {m:MR} (h:FOk tb S ks n f) (hS:∀ z,∀ e∈tb z,∀ x∈e.2,x∈S) (la:a.2.length<=100) (hm:m∈q3k (sdOf ks cs tb a) f.2):FOk tb S (ks++qz a.2) (n+1) (f.1++ [m.1],q17 f.2 m.2):=by
 obtain ⟨h1,h2,h3⟩:=qdc hm;have h1:m.1∈tb a.1:=h1;have h2:a.2.length=m.1.2.length:=h2;have h3:mAll [] (a.2.zip m.1.2)=some m.2:=h3;have nb:NdK m.2:=NdK.all (k:=[]) z2q h3;have ob:=OnlyV.nil.all h3;have lm:=q7h h3;rw [List.length_zip,z2g] at lm;refine ⟨λ e B=> ?_,h.vals.merge (AllIn.all (k:=[]) (λ _ z=>nomatch z) (λ p hp=>hS _ _ h1 _ (qi6 hp)) h3),λ t ht=> ?_,λ t x e=> ?_,?_,?_⟩
 ·rcases z27.mp B with B | B
  ·exact h.rows e B
  ·rw [z16.mp B];exact ⟨_,h1⟩
 ·show ∃ x,valV (q17 f.2 m.2) t=some x;rw [q5h nb];rcases z27.mp ht with ht | ht
  ·obtain ⟨x,hx⟩:=h.bnd t ht;cases q:valV m.2 t with
   | some y=>exact ⟨y,rfl⟩
   | none=>exact ⟨x,hx⟩
  ·obtain ⟨t1,t2⟩:=z29.mp ht;obtain ⟨v,hv⟩:=qfa t1 h2;rw [q8m OnlyV.nil h3 hv t2];exact ⟨_,zr⟩
 ·have e:valV (q17 f.2 m.2) t=some x:=e;rw [q5h nb] at e;cases q:valV m.2 t with
  | some y=>exact ob t y q
  | none=>
   rw [q] at e;exact h.ov t x e
 ·rw [z17];exact Nat.add_le_add_right h.l1 1
 ·have:=q3i m.2 f.2;have:=h.l2;show (q17 f.2 m.2).length<=_;omega
theorem qdd {α β:Type} {g:α ->List β} {n:Nat}:∀ {l:List α},(∀ x∈l,(g x).length<=n) ->(l.flatMap g).length<=l.length*n
 | [],_=>z3e _
 | x::l,h=>by
  have h1:=h x (z18 ..);have h2:=qdd (l:=l) (λ y hy=>h y (z0s _ hy));rw [List.flatMap_cons,z17,z1w,Nat.add_mul];omega
theorem qbj {cs:List (V×CT)} {tb:Str ->List RW} {S:List Key} (Y:∀ z,∀ e∈tb z,∀ x∈e.2,x∈S) {N:Nat} (Z:∀ z,(tb z).length<=N):∀ (as:List AT) (ks:List Key) (B:List FD) (n i:Nat),(∀ f∈B,FOk tb S ks n f) ->B.length<=N^n ->(∀ a∈as,a.2.length<=100) ->i<=as.length ->
    (∀ f∈q26 B ((q1q ks cs tb as).take i),FOk tb S (ks++q1x (as.take i)) (n+i) f)/\(q26 B ((q1q ks cs tb as).take i)).length<=N^(n+i)
  | as,ks,B,n,0,h,l,_,_=>⟨λ f D=>by
      have:=h f D;rw [show ks++q1x (as.take 0)=ks by rw [List.take_zero];exact z2d _];exact this,l⟩
  | [],_,_,_,_+1,_,_,_,U=>absurd U (Nat.not_succ_le_zero _)
  | a::r,ks,B,n,i+1,h,l,la,U=>by
    have e1:(q1q ks cs tb (a::r)).take (i+1)=sdOf ks cs tb a::(q1q (ks++qz a.2) cs tb r).take i:=rfl;rw [e1];show (∀ f∈q26 (B.flatMap (q2c (sdOf ks cs tb a))) ((q1q (ks++qz a.2) cs tb r).take i),_)/\(q26 (B.flatMap (q2c (sdOf ks cs tb a))) ((q1q (ks++qz a.2) cs tb r).take i)).length<=_;have ih:=qbj (cs:=cs) Y Z r (ks++qz a.2) (B.flatMap (q2c (sdOf ks cs tb a))) (n+1) i (λ g J=> ?_) ?_ (λ b hb=>la b (z0s _ hb)) (Nat.le_of_succ_le_succ U)
    · rw [show n+(i+1)=n+1+i by omega,show ks++q1x ((a::r).take (i+1))=ks++qz a.2++q1x (r.take i) by rw [z1g];rfl]
      exact ih
    · obtain ⟨f,D,J⟩:=List.mem_flatMap.mp J
      obtain ⟨m1,O,rfl⟩:=z38.mp J;obtain ⟨m,hm,rfl⟩:=z38.mp (z29.mp O).1;exact (h f D).more Y (la a (z18 ..)) hm
    · refine z34 (qdd (n:=N) λ f _=>z34 (qk7 _ f) (Z a.1)) ?_
      rw [Nat.pow_succ];exact Nat.mul_le_mul_right N l
theorem qi8 {cs:List (V×CT)} {tb:Str ->List RW}:∀ {as:List AT} {ks:List Key} {i:Nat} {d:SD},(q1q ks cs tb as)[i]? =some d ->∃ a,as[i]? =some a/\d=sdOf (ks++q1x (as.take i)) cs tb a
 | [],_,_,_,h=>by
  have h:([]:List SD)[_]? =some _:=h;simp at h
 | a::r,ks,0,d,h=>by
  have h:some (sdOf ks cs tb a)=some d:=h;injection h with h;refine ⟨a,zr,?_⟩;rw [<- h];show sdOf ks cs tb a=sdOf (ks++ []) cs tb a;rw [z2d]
 | a::r,ks,i+1,d,h=>by
  obtain ⟨b,h1,h2⟩:=qi8 (as:=r) (ks:=ks++qz a.2) (i:=i) (d:=d) h;refine ⟨b,h1,?_⟩;rw [h2,z1g];rfl
theorem qo3 (tb:Str ->List RW) (S:List Key) (cs:List CT):(∀ f∈iniK cs,FOk tb S [] 0 f)/\(iniK cs).length<=1:=by
 unfold iniK;split
 ·refine ⟨λ f hf=> ?_,z3b _⟩;rw [z16.mp hf];exact ⟨(λ _ z=>nomatch z),(λ _ z=>nomatch z),(λ _ z=>nomatch z),OnlyV.nil,z3b _,z3b _⟩
 ·exact ⟨(λ _ z=>nomatch z),z3e _⟩
theorem qde {S ks:List Key} {k:List (Key×V)} {e:CT} (ai:AllIn S k) (oS:∀ u∈S,OkK u) (ov:OnlyV k) (bnd:∀ t∈ks,∃ x,valV k t=some x) (c:chK ks e=true) (h1:txtK capS e.2.1=true\/ OkK e.2.1) (h2:txtK capS e.2.2=true\/ OkK e.2.2):HOk k e:=by
 have B:∀ t∈([e.2.1,e.2.2]:List Key),(txtK capS t=true\/ OkK t) ->∃ u,Wy.tv k t=kV u/\OkK u:=λ t ht o=>by
  by_cases v:txtK capS t=true
  ·obtain ⟨x,hx⟩:=bnd t (q5j.mp (z21.mp c t (z29.mpr ⟨ht,v⟩)));obtain ⟨u,hu,e1⟩:=ai.tv hx;exact ⟨u,e1,oS u hu⟩
  ·exact ⟨t,q5l ov v,o.resolve_left v⟩
 obtain ⟨u,u1,u2⟩:=B _ (z18 ..) h1;obtain ⟨v,v1,v2⟩:=B _ (z0s _ (z18 ..)) h2;exact ⟨u,v,u1,v1,u2,v2⟩
def rwD (e:RW):PyData:= .tuple (e.2.map keyD)
def usD (us:List RW):PyData:= .tuple (us.map rwD)
theorem q66 {α:Type} {K:PySem.W.Frag} {H:Hp} {f:α ->PyData} {g:α ->V}:∀ {l:List α},(∀ x∈l,Dat K H (f x) (g x)) ->Dats K H (l.map f) (l.map g)
 | [],_=> .nil
 | x::l,h=> .cons (h x (z18 ..)) (q66 λ y hy=>h y (z0s _ hy))
theorem qfb {K:PySem.W.Frag} {H:Hp} {e:RW} (h:RowV K H e) (o:∀ u∈e.2,TxOk u):Dat K H (rwD e) e.1:=by
 obtain ⟨p,e1,h1⟩:=h;rw [e1];exact .tup h1 (q36 o)
theorem q7l (us:List RW):PyData.depthAll (us.map rwD)<=1:=by
 induction us with
 | nil=>exact z3e _
 | cons e r ih=>
  have:=q4b e.2;show max (PyData.depthAll (e.2.map keyD)+1) (PyData.depthAll (r.map rwD))<=1;omega
theorem qdf {n:Nat}:∀ {as:List AT},(∀ a∈as,a.2.length<=n) ->(q29 [] as).length<=as.length*n
 | [],_=>z3e _
 | a::r,h=>by
  have h1:=qdf (as:=r) λ b hb=>h b (z0s _ hb);have h2:=h a (z18 ..);have h3:(q41 a.2).length<=a.2.length:=by
   unfold q41;rw [z2c];exact q3y a.2
  show ([]++(q41 a.2++r.flatMap λ a:AT=>q41 a.2)).length<=(r.length+1)*n;have h4:(r.flatMap λ a:AT=>q41 a.2).length<=r.length*n:=h1;rw [List.nil_append,z17,Nat.add_mul];omega
theorem qfc {cs:List (V×CT)} {tb:Str ->List RW}:∀ {as:List AT} {ks:List Key},(q1q ks cs tb as).length=as.length
 | [],_=>rfl
 | a::r,ks=>by
  show (q1q (ks++qz a.2) cs tb r).length+1=r.length+1;rw [qfc]
theorem Both.back {k0 k b b2:List (Key×V)} {t v:Key} (r:Both k0 k b) (ok:OnlyV k) (ob:OnlyV b) (h:q19 b t v=some b2) (Y:txtK capS t=true ->∀ x,valV k0 t=some x ->x=kV v):∃ Z,q19 k t v=some Z/\Both k0 Z b2:=by
 obtain ⟨e2,U⟩:=q3d h;by_cases c:txtK capS t=true
 ·cases O:valV b t with
  | some y=>
   have J:mPut b t v=b:=if_neg (λ z=>by rw [O] at z;exact nomatch z.2);rw [J] at e2;subst e2;have ey:y=kV v:=by
    unfold Wy.tv at U;rw [O] at U;exact U
   have B:valV k t=some (kV v):=by
    rw [(r t).1,O];cases D:valV k0 t with
    | none=>exact congrArg some ey
    | some x=>exact congrArg some (Y c x D)
   have mk:mPut k t v=k:=if_neg (λ z=>by rw [B] at z;exact nomatch z.2);refine ⟨k,?_,r⟩;have:=q7k (k:=k) (t:=t) (v:=v) (by rw [mk];unfold Wy.tv;rw [B];rfl);rw [mk] at this;exact this
  | none=>
   have J:∀ s,valV (mPut b t v) s=if s=t then some (kV v) else valV b s:=λ s=>by
    rw [q4u];by_cases z:s=t
    ·rw [if_pos ⟨z,c,O⟩,if_pos z]
    ·rw [if_neg (λ y=>z y.1),if_neg z]
   cases D:valV k0 t with
   | some x=>
    have ex:=Y c x D;have B:valV k t=some (kV v):=by rw [(r t).1,D,<- ex];rfl
    have mk:mPut k t v=k:=if_neg (λ z=>by rw [B] at z;exact nomatch z.2);refine ⟨k,?_,λ s=> ?_⟩
    ·have:=q7k (k:=k) (t:=t) (v:=v) (by rw [mk];unfold Wy.tv;rw [B];rfl);rw [mk] at this;exact this
    ·rw [e2,J];by_cases z:s=t
     ·subst z;rw [if_pos rfl,D];refine ⟨by rw [B,ex];rfl,λ x' y' h1 h2=> ?_⟩;injection h1 with h1;injection h2 with h2;rw [<- h1,<- h2,ex]
     ·rw [if_neg z];exact r s
   | none=>
    have B:valV k t=none:=by rw [(r t).1,D,O];rfl
    have mk:∀ s,valV (mPut k t v) s=if s=t then some (kV v) else valV k s:=λ s=>by
     rw [q4u];by_cases z:s=t
     ·rw [if_pos ⟨z,c,B⟩,if_pos z]
     ·rw [if_neg (λ y=>z y.1),if_neg z]
    refine ⟨mPut k t v,q7k (by unfold Wy.tv;rw [mk,if_pos rfl];rfl),λ s=> ?_⟩;rw [e2,J,mk];by_cases z:s=t
    ·subst z;rw [if_pos rfl,if_pos rfl,D];exact ⟨rfl,λ x y h1 _=>nomatch h1⟩
    ·rw [if_neg z,if_neg z];exact r s
 ·have J:mPut b t v=b:=if_neg (λ z=>c z.1);have mk:mPut k t v=k:=if_neg (λ z=>c z.1);rw [J] at e2;subst e2;refine ⟨k,?_,r⟩;have:=q7k (k:=k) (t:=t) (v:=v) (by rw [mk,q5l ok c,<- q5l ob c];exact U);rw [mk] at this;exact this
theorem Both.backs:∀ {l:List (Key×Key)} {k0 k b b2:List (Key×V)},Both k0 k b ->OnlyV k ->OnlyV b ->mAll b l=some b2 ->(∀ p∈l,txtK capS p.1=true ->∀ x,valV k0 p.1=some x ->x=kV p.2) ->∃ B,mAll k l=some B/\Both k0 B b2
 | [],_,k,_,_,r,_,_,e,_=>by cases e;exact ⟨k,rfl,r⟩
 | p::l,k0,k,b,b2,r,ok,J,e,D=>by
  have e':(q19 b p.1 p.2).bind (λ k=>mAll k l)=some b2:=e;cases q:q19 b p.1 p.2 with
  | none=>rw [q] at e';cases e'
  | some b1=>
   rw [q] at e';obtain ⟨k1,h1,r1⟩:=r.back ok J q (D p (z18 ..));obtain ⟨B,h2,r2⟩:=Both.backs r1 (ok.step h1) (J.step q) e' (λ x hx=>D x (z0s _ hx));refine ⟨B,?_,r2⟩;show (q19 k p.1 p.2).bind (λ k=>mAll k l)=some B;rw [h1];exact h2
theorem qbk {a:AT} {e:RW}:∀ {as:List AT} {us:List RW},us.length=as.length ->q28 (as++ [a]) (us++ [e])=q28 as us++a.2.zip e.2
 | [],[],_=>by show a.2.zip e.2++q28 [] []=[]++a.2.zip e.2;exact z2d _
 | [],_::_,l=>nomatch l
 | _::_,[],l=>nomatch l
 | b::as,c::us,l=>by
  show b.2.zip c.2++q28 (as++ [a]) (us++ [e])=b.2.zip c.2++q28 as us++a.2.zip e.2;rw [qbk (by simpa using l),z1g]
theorem qbl:∀ {l:List (Key×Key)} {k B:List (Key×V)} {t:Key} {x:V},mAll k l=some B ->valV B t=some x ->valV k t=some x\/ (txtK capS t=true/\∃ v,(t,v)∈l)
 | [],k,B,t,x,e,h=>by cases e;exact .inl h
 | p::l,k,B,t,x,e,h=>by
  have e':(q19 k p.1 p.2).bind (λ k=>mAll k l)=some B:=e;cases q:q19 k p.1 p.2 with
  | none=>rw [q] at e';cases e'
  | some k1=>
   rw [q] at e';rcases qbl (l:=l) e' h with h1 | ⟨h1,v,hv⟩
   ·rw [(q3d q).1,q4u] at h1;split at h1
    ·rename_i z;exact .inr ⟨by rw [z.1];exact z.2.1,p.2,by rw [z.1];exact z18 ..⟩
    ·exact .inl h1
   ·exact .inr ⟨h1,v,z0s _ hv⟩
structure Snd (tb:Str ->List RW) (cs:List (V×CT)) (as:List AT) (ks:List Key) (f:FD) (k:List (Key×V)):Prop where
 eq:EqM f.2 k
 al:AllK k
 all:mAll [] (q28 as f.1)=some k
 len:f.1.length=as.length
 row:∀ (i:Nat) (a:AT) (e:RW),as[i]? =some a ->f.1[i]? =some e ->e∈tb a.1/\a.2.length=e.2.length
 bnd:∀ t∈ks,∃ x,valV k t=some x
 own:∀ t x,valV k t=some x ->t∈ks
 hold:∀ e∈cs,chK ks e.2=true ->q1k k e.2=true
theorem Snd.more {tb:Str ->List RW} {cs:List (V×CT)} {as:List AT} {ks:List Key} {f g:FD} {k:List (Key×V)} {a:AT} (h:Snd tb cs as ks f k) (hg:g∈q2c (sdOf ks cs tb a) f):∃ Z,Snd tb cs (as++ [a]) (ks++qz a.2) g Z:=by
 obtain ⟨m1,a6,rfl⟩:=z38.mp hg;obtain ⟨a7,B⟩:=z29.mp a6;obtain ⟨m,hm,rfl⟩:=z38.mp a7;have B:=z21.mp B;obtain ⟨h1,h2,h3⟩:=qdc hm;have h1:m.1∈tb a.1:=h1;have h2:a.2.length=m.1.2.length:=h2;have h3:mAll [] (a.2.zip m.1.2)=some m.2:=h3;have hkey:mKey ((qz a.2).filter (inK ks)) m.2=mKey ((qz a.2).filter (inK ks)) f.2:=of_decide_eq_true (z29.mp hm).2;have O:OnlyV k:=OnlyV.nil.all h.all;have nb:NdK m.2:=NdK.all (k:=[]) z2q h3;obtain ⟨Z,e1,bo⟩:=Both.backs (k0:=k) (k:=k) (b:=[]) (l:=a.2.zip m.1.2) (b2:=m.2) (λ t=>⟨by show _=(valV k t).or none;rw [Option.or_none],λ x y _ e=>nomatch e⟩) O OnlyV.nil h3 (λ p hp c x J=>by
  have a0:p.1∈(qz a.2).filter (inK ks):=z29.mpr ⟨z29.mpr ⟨(List.of_mem_zip (a:=p.1) (b:=p.2) hp).1,c⟩,q5j.mpr (h.own _ _ J)⟩;have U:vK (Wy.tv m.2 p.1)=vK (Wy.tv f.2 p.1):=List.map_inj_left.mp hkey p.1 a0;have b9:=q8m OnlyV.nil h3 (t:=p.1) (v:=p.2) hp c;obtain ⟨j,ej⟩:=h.al _ (q86 J);have ej:x=kV j:=ej;rw [h.eq.tv] at U;unfold Wy.tv at U;rw [b9,J,ej] at U;have U:vK (kV p.2)=vK (kV j):=U;rw [q5g,q5g] at U;rw [ej,U])
 have em:EqM (q17 f.2 m.2) Z:=λ t=>by
  rw [q5h nb,h.eq t];obtain ⟨r1,r2⟩:=bo t;rw [r1];cases e1:valV k t with
  | none=>rw [Option.or_none];rfl
  | some x=>
   cases e2:valV m.2 t with
   | none=>rfl
   | some y=>exact congrArg some (r2 x y e1 e2).symm
 have a8:=O.all e1;have Y:∀ t∈ks++qz a.2,∃ x,valV Z t=some x:=λ t ht=>by
  rcases z27.mp ht with ht | ht
  ·obtain ⟨x,J⟩:=h.bnd t ht;exact ⟨x,q6g e1 J⟩
  ·obtain ⟨t1,t2⟩:=z29.mp ht;obtain ⟨v,hv⟩:=qfa t1 h2;exact ⟨_,q8m O e1 hv t2⟩
 refine ⟨Z,em,h.al.all e1,?_,?_,λ i b e hi D=> ?_,Y,λ t x J=> ?_,λ e D c=> ?_⟩
 ·rw [qbk h.len,q3x,h.all];exact e1
 ·show (f.1++ [m.1]).length=_;rw [z17,z17,h.len];rfl
 ·have D:(f.1++ [m.1])[i]? =some e:=D;have hl:=h.len;by_cases il:i < as.length
  ·rw [List.getElem?_append_left il] at hi;rw [List.getElem?_append_left (by omega)] at D;exact h.row i b e hi D
  ·rw [z04 (by omega)] at hi;rw [z04 (by omega),hl] at D;cases q:i - as.length with
   | zero=>
    rw [q] at hi D;simp only [List.getElem?_cons_zero,Option.some.injEq] at hi D;rw [<- hi,<- D];exact ⟨h1,h2⟩
   | succ n=>
    rw [q] at hi;simp at hi
 ·rcases qbl e1 J with h9 | ⟨c,v,hv⟩
  ·exact z0t _ (h.own t x h9)
  ·exact z0n _ (z29.mpr ⟨(List.of_mem_zip hv).1,c⟩)
 ·by_cases c0:chK ks e.2=true
  ·rw [<- qk6 O a8 (λ t ht=>let ⟨x,J⟩:=h.bnd t ht;⟨x,J,q6g e1 J⟩) c0];exact h.hold e D c0
  ·rw [<- em.holds];exact B e (z29.mpr ⟨z29.mpr ⟨D,c⟩,by rw [Bool.eq_false_iff.mpr c0];rfl⟩)
theorem q92 {cs:List (V×CT)} {tb:Str ->List RW}:∀ (as B:List AT) (ks:List Key) (D:List FD),(∀ f∈D,∃ k,Snd tb cs B ks f k) ->∀ g∈q26 D (q1q ks cs tb as),∃ k,Snd tb cs (B++as) (ks++q1x as) g k
 | [],B,ks,D,h,g,J=>by
  rw [z2d,show ks++q1x []=ks from z2d _];exact h g J
 | a::r,B,ks,D,h,g,J=>by
  have:=q92 r (B++ [a]) (ks++qz a.2) (D.flatMap (q2c (sdOf ks cs tb a))) (λ g J=>by
   obtain ⟨f,hf,J⟩:=List.mem_flatMap.mp J;obtain ⟨k,hk⟩:=h f hf;exact hk.more J) g J
  rw [z1g,z1g] at this;exact this
theorem qi9 (tb:Str ->List RW) (cs:List (V×CT)):∀ f∈iniK (cs.map (·.2)),∃ k,Snd tb cs [] [] f k:=λ f D=>by
 rw [qd9] at D;split at D
 ·rename_i B;rw [z16.mp D];exact ⟨[],λ _=>rfl,(λ _ z=>nomatch z),rfl,rfl,(λ i a e h=>by simp at h),(λ _ z=>nomatch z),(λ t x e=>nomatch e),λ e he c=>z21.mp B e (z29.mpr ⟨he,c⟩)⟩
 ·cases D
def smaS:Str:="abcdefghijklmnopqrstuvwxyz"
theorem qml:capS.length=26:=by decide+kernel
theorem qfd:smaS.length=26:=by decide+kernel
def sgn (F:Str) (n x:Int):Nat:=(atI F.cps.toList (x%n)).getD 0
theorem qia {F:Str} {n:Int} (h:(F.length:Int)=n) (h0:0 < n) (x:Int):atI F.cps.toList (x%n)=some (sgn F n x)/\sgn F n x∈F.cps.toList:=by
 obtain ⟨d,hd,hm⟩:=q5t (xs:=F.cps.toList) (i:=x%n) (z2l _ (by omega)) (by rw [q2z,h];exact z1e _ h0);have:sgn F n x=d:=by
  unfold sgn;rw [hd];rfl
 rw [this];exact ⟨hd,hm⟩
theorem qmm {F z:Str} {c:Nat} {r:List Nat} (e:z.cps.toList=c::r) (hl:r.length<=11) (hc:c∈F.cps.toList) (hr:∀ d∈r,d∈fur.cps.toList):txtB F z=true:=by
 have hz:=q2z z;rw [e,z1w] at hz;rw [q8j (by omega) (by omega),e];show (decide (c∈F.cps.toList)&&r.all λ d=>decide (d∈fur.cps.toList))=true;rw [z2m hc,Bool.true_and,z21];exact λ d hd=>z2m (hr d hd)
theorem qo4:∀ c∈capS.cps.toList,c < 0x110000:=by decide+kernel
theorem qib:∀ c∈smaS.cps.toList,c < 0x110000:=by decide+kernel
theorem qau:∀ c∈smaS.cps.toList,c∉capS.cps.toList:=by decide+kernel
theorem q2m {F z:Str} (h:txtB F z=true):1<=z.length/\z.length<=12/\∃ c r,z.cps.toList=c::r/\c∈F.cps.toList/\∀ d∈r,d∈fur.cps.toList:=by
 by_cases hl:1<=z.length/\z.length<=12
 ·obtain ⟨c,r,e⟩:=qa7 hl.1;rw [q8j hl.1 hl.2,e] at h;have h':(decide (c∈F.cps.toList)&&r.all λ d=>decide (d∈fur.cps.toList))=true:=h;rw [z20,z21] at h';exact ⟨hl.1,hl.2,c,r,e,of_decide_eq_true h'.1,λ d hd=>of_decide_eq_true (h'.2 d hd)⟩
 ·rw [qd1 hl] at h;cases h
theorem q9g {F z:Str} (hF:∀ c∈F.cps.toList,c < 0x110000) (h:txtB F z=true):PyData.strOk z=true:=by
 obtain ⟨_,_,c,r,e,hc,hr⟩:=q2m h;refine qd2 λ d hd=> ?_;rw [e] at hd;rcases z2v.mp hd with rfl | hd
 ·exact hF _ hc
 ·exact qi0 d (hr d hd)
def GoodK:Key ->Prop
 | .inl _=>True
 | .inr z=>txtB smaS z=true
theorem GoodK.tx:∀ {k:Key},GoodK k ->TxOk k
 | .inl _,_=>True.intro
 | .inr z,h=>⟨z34 (q2m h).2.1 (by decide),q9g qib h⟩
def TmK (t:Key):Prop:=(∃ z,t= .inr z/\txtB capS z=true)\/ (GoodK t/\txtK capS t=false)
theorem GoodK.tm:∀ {k:Key},GoodK k ->TmK k
  | .inl _,_=> .inr ⟨True.intro,rfl⟩
  | .inr z,h=> .inr ⟨h,by
      obtain ⟨h1,h2,c,r,e,hc,_⟩:=q2m h;show txtB capS z=false;rw [q8j h1 h2,e];show (decide (c∈capS.cps.toList)&&_)=false;rw [z28 (qau c hc),z2o]⟩
theorem TmK.tx {t:Key} (h:TmK t):TxOk t:=by
 rcases h with ⟨z,rfl,h⟩ | ⟨h,_⟩
 ·exact ⟨z34 (q2m h).2.1 (by decide),q9g qo4 h⟩
 ·exact h.tx
theorem TmK.fst {z:Str} (h:TmK (.inr z)):∃ c,z.cps.toList[0]? =some c/\z.length<=sizeLine/\decide (c∈capS.cps.toList)=txtK capS (.inr z):=by
 rcases h with ⟨y,e,h⟩ | ⟨h,hn⟩
 ·cases e
  obtain ⟨h1,h2,c,r,e,B,_⟩:=q2m h;exact ⟨c,by rw [e];rfl,z34 h2 (by decide),by rw [z2m B];exact h.symm⟩
 ·obtain ⟨h1,h2,c,r,e,B,_⟩:=q2m h;exact ⟨c,by rw [e];rfl,z34 h2 (by decide),by rw [z28 (qau c B),hn]⟩
def NmI (F z:Str) (i:Nat):Prop:=(i=0/\z="")\/ ∃ c r,z.cps.toList=c::r/\r.length+1=i/\c∈F.cps.toList/\∀ d∈r,d∈fur.cps.toList
theorem NmI.one {F:Str} {c:Nat} (h:c∈F.cps.toList):NmI F ⟨#[c]⟩ 1:= .inr ⟨c,[],rfl,rfl,h,λ _ z=>nomatch z⟩
theorem NmI.more {F z:Str} {i d:Nat} (h:NmI F z i) (hi:i≠0) (hd:d∈fur.cps.toList):NmI F (z++⟨#[d]⟩) (i+1):=by
 rcases h with ⟨e,_⟩ | ⟨c,r,e,hl,hc,hr⟩
 ·exact absurd e hi
 ·refine .inr ⟨c,r++ [d],by rw [qjv,e];rfl,by rw [z17];show r.length+1+1=_;omega,hc,λ x B=> ?_⟩;rcases z27.mp B with B | B
  ·exact hr x B
  ·rw [z16.mp B];exact hd
theorem NmI.len {F z:Str} {i:Nat} (h:NmI F z i):z.length=i:=by
 rcases h with ⟨rfl,rfl⟩ | ⟨c,r,e,hl,_⟩
 ·rfl
 ·rw [<- q2z,e,z1w,hl]
theorem NmI.txt {F z:Str} {i:Nat} (h:NmI F z i) (h0:i≠0) (h12:i<=12):txtB F z=true:=by
 rcases h with ⟨e,_⟩ | ⟨c,r,e,hl,hc,hr⟩
 ·exact absurd e h0
 ·exact qmm e (by omega) hc hr
theorem qmn:∀ c∈smaS.cps.toList,c∈fur.cps.toList:=by decide+kernel
theorem GoodK.ok:∀ {k:Key},GoodK k ->OkK k
 | .inl _,_=>True.intro
 | .inr z,h=>by
  obtain ⟨h1,h2,c,r,e,hc,hr⟩:=q2m h;refine ⟨z34 h2 (by decide),λ d hd=> ?_⟩;rw [e] at hd;rcases z2v.mp hd with rfl | hd
  ·exact qmn _ hc
  ·exact hr d hd
theorem GoodK.no {k:Key} (h:GoodK k):txtK capS k=false:=by
 rcases h.tm with ⟨z,rfl,h1⟩ | ⟨_,h1⟩
 ·have h:txtB smaS z=true:=h;obtain ⟨_,_,c,r,e,hc,_⟩:=q2m h;obtain ⟨_,_,c',r',e',B,_⟩:=q2m h1;rw [e] at e';injection e' with e1 e2;subst e1;exact absurd B (qau c hc)
 ·exact h1
theorem qic {t:Key} (h:txtK capS t=true):TmK t:=by
 cases t with
 | inl i=>cases h
 | inr z=>exact .inl ⟨z,rfl,h⟩
theorem Same.keep {H F B:Hp} {L:Addr} (s:Same H F) (h:H L=none) (k:Keep L F B):Same H B:=λ a o e=>k a o (λ z=>by rw [z,h] at e;cases e) (s a o e)
theorem qk8 (xs:List V) (n:Nat) (h:n<=xs.length):cutV xs (some (n:Int)) none=xs.drop n:=by
 unfold cutV;rw [HT.sIx_nat,HT.sIx_none,Nat.min_eq_left h,z0h (by rw [z1v];exact z3b _)]
theorem q8n {ns:List Int} {k:Nat} (h:k < ns.length):atI (ns.map V.int) (k:Int)=some (V.int (ns.getD k 0)):=qk (by rw [z1j,z09 h,z05,z09 h];rfl)
def qid:Sp:=λ vs H Q _=>∃ c m:Int,vs=[.int c,.int m]/\0<=m/\m<=100/\∀ p (ns:List Int) H',Same H H' ->H' p=some (.lst (ns.map V.int)) ->ns.length=m.toNat ->Q (.ref p) H'
theorem q37 (T:Txt K mg):Def P w K mg base 1 "_law_stream" ["_law_cell","_law_many"] qid:=by
 refine T.qbx.ok q35 (λ vs H Q E h=> ?_) λ f cdv A outer s H vs Q E hr h=> ?_
 ·obtain ⟨c,m,rfl,_⟩:=h;rfl
 ·obtain ⟨c,m,rfl,m0,m1,k⟩:=h;refine ⟨_,(q78
   (qo (i:=2) q35.nd rfl (Or.inl rfl) (qm q1v (qm q1d (pv 0) qc) qc))
   (qo (i:=3) q35.nd rfl (Or.inl rfl) (q1a q1h))
   (q1t PassesOwn.never rfl (q2d rfl T.q38 (pa_1 (qm q1v (pv 1) qc))) (qq (i:=4) q35.nd rfl (Or.inl rfl)) (q3r
   (qo (i:=2) q35.nd rfl (Or.inl rfl) (qm q1d (qm q1v (qm q1v (qm q1v (qm q4z (pv 2) qc) (qm q2f (pv 2) qc)) (qm q4z qc (pv 4))) qc) qc))
   (q2n (q45 z0g z0c z0d q3a (pv 3) (pa_1 (qm q2f (pv 2) qc))))))
   (qt (q3e (qcn K) (pv 3) (q3l qc) q4c))),?_⟩
  refine ⟨_,rfl,_,_,rfl,rfl,(by show (0:Int) < 2147483587;decide),_,_,rfl,rfl,?_⟩;refine ⟨by decide,λ p hp=> ?_⟩;refine ⟨_,zr,_,_,zr,zr,_,zr,by omega,by omega,q39 (lo:=0) (n:=(m+1).toNat) (λ i σ H'=>∃ (kk:Option V) (n:Int) (ns:List Int),σ=[some (.int c),some (.int m),some (.int n),some (.ref p),kk]/\H'=upd H p (.lst (ns.map V.int))/\ns.length=i)
   ⟨none,_,[],rfl,rfl,rfl⟩ ?_ ?_⟩
  ·rintro i σ H' hi ⟨kk,n,ns,rfl,rfl,hl⟩;refine ⟨_,rfl,_,_,rfl,rfl,.inr ⟨by decide,by decide⟩,_,rfl,_,_,rfl,rfl,⟨by decide,by decide⟩,_,_,rfl,rfl,_,rfl,_,_,rfl,rfl,.inl ⟨by decide,by decide⟩,_,_,rfl,rfl,_,_,rfl,rfl,_,_,rfl,rfl,(by show (0:Int) < 2147483647;decide),?_⟩;refine ⟨_,rfl,.inl ⟨rfl,_,SqL.of qa⟩,_,rfl,_,_,rfl,rfl,⟨by decide,by decide⟩,_,_,_,rfl,rfl,qa,by rw [z2c,hl];exact q1r (by omega),?_⟩;refine ⟨_,_,ns++ [(n*39373+n / 54542+17*(0+(i:Int))+3)%2147483647 / 16],rfl,?_,by rw [z17,hl];rfl⟩;rw [qep,z2h];rfl
  ·rintro σ H' ⟨kk,n,ns,rfl,rfl,hl⟩;refine ⟨_,zr,_,zr,_,_,zr,SqL.of qa,λ q hq=> ?_⟩;have e:cutV (ns.map V.int) (some 1) none=(ns.drop 1).map V.int:=by
    have:=qk8 (ns.map V.int) 1 (by rw [z2c];omega);rw [List.map_drop];exact this
   rw [e];have s1:=qd (o:=HO.lst (ns.map V.int)) hp;exact k q (ns.drop 1) _ (s1.trans (qd hq)) qa (by rw [z1v];omega)
def qk9:Sp:=λ vs H Q _=>∃ (c p m:Int) (F:Str),vs=[.int c,.int p,.int m,.str F]/\F.length=26/\0<=m/\m<=10/\
 ∀ (q:Addr) (zs:List Str) H',Same H H' ->H' q=some (.lst (zs.map V.str)) ->zs.length=m.toNat ->(∀ z∈zs,txtB F z=true) ->Q (.ref q) H'
theorem q5c (T:Txt K mg):Def P w K mg base 1 "_law_names" ["_law_cell","_law_place","_law_many","_law_first"] qk9:=by
  refine T.qdp.ok q1n (λ vs H Q E h=> ?_) λ f cdv A outer s H vs Q E hr h=> ?_
  · obtain ⟨c,p,m,F,rfl,_⟩:=h
    rfl
  · obtain ⟨c,p,m,F,rfl,Z,n0',n1',k⟩:=h
    have Y:later.length<=sizeLine:=by rw [qbh];decide
    have lF:F.length<=sizeLine:=by rw [Z];decide
    have pl:=qia (F:=later) (n:=36) (by rw [qbh];rfl) (by decide);have pF:=qia (F:=F) (n:=26) (by rw [Z];rfl) (by decide);have m0:=z2l c (show (12:Int)≠0 by decide);have m1:=z1e c (show (0:Int) < 12 by decide);refine ⟨_,(qg2
      (qo (i:=4) q1n.nd rfl (Or.inl rfl) q2i)
      (qo (i:=5) q1n.nd rfl (Or.inl rfl) (qm q1v qc (qm q1d (pv 0) qc)))
      (qo (i:=6) q1n.nd rfl (Or.inl rfl) (qm q1d (pv 1) (pv 5)))
      (qo (i:=7) q1n.nd rfl (Or.inl rfl) (q1a q1h))
      (q1t PassesOwn.never rfl (q2d rfl T.q38 (pa_1 (pv 2))) (qq (i:=8) q1n.nd rfl (Or.inl rfl)) (q46
      (qo (i:=9) q1n.nd rfl (Or.inl rfl) q2i)
      (q1t PassesOwn.never rfl (q2d rfl T.q38 (pa_1 (pv 5))) (qq (i:=10) q1n.nd rfl (Or.inl rfl)) (q3r
      (qo (i:=11) q1n.nd rfl (Or.inl rfl) (qm q1v (qm q1v (qm q2f (pv 0) (qm q1v (qm q4z qc (pv 10)) qc)) (qm q4z qc (pv 10))) (qm q4z (qm q4z (q1u qgu rfl T.b_int q9x (pa_1 (q24 q3q (pv 10) (pv 6) (q14 _)))) (pv 8)) (qh (qx K) (q1a (pa_4 qc qc qc qc)) (qm q1d (qm q2f (pv 1) qc) qc) (λ _ _=>rfl)))))
      (q1e (q15 q3q (pv 10) qc (q14 _)) (qi (qo (i:=9) q1n.nd rfl (Or.inl rfl) (qh q9p (pv 3) (qm q1d (pv 11) qc) (λ _ _=>rfl)))) (qi (qo (i:=9) q1n.nd rfl (Or.inl rfl) (qm qfp (pv 9) (qh q9p (pv 4) (qm q1d (pv 11) qc) (λ _ _=>rfl))))))))
      (q2n (q45 z0g z0c z0d q3a (pv 7) (pa_1 (pv 9))))))
      (qt (pv 7))),?_⟩
    refine ⟨_,rfl,_,_,rfl,rfl,(by show (0:Int) < 12;decide),_,_,rfl,rfl,?_⟩;refine ⟨_,rfl,_,rfl,_,_,rfl,rfl,(by show 0 < 1+c%12;omega),?_⟩;refine ⟨by decide,λ q hq=> ?_⟩;have t0:=qd (o:=HO.lst []) hq;refine ⟨_,zr,_,zr,by omega,by omega,q39 (lo:=0) (n:=m.toNat) (λ i σ H'=>∃ (v1 v2 v3 B:Option V) (zs:List Str),σ=[some (.int c),some (.int p),some (.int m),some (.str F),some (.str later),some (.int (1+c%12)),some (.int (p%(1+c%12))),some (.ref q),v1,v2,v3,B]/\Same H H'/\H' q=some (.lst (zs.map V.str))/\zs.length=i/\∀ z∈zs,txtB F z=true)
      ⟨none,none,none,none,[],rfl,t0,qa,rfl,λ _ z=>nomatch z⟩ ?_ ?_⟩
    · rintro j σ H0 hj ⟨v1,v2,v3,B,zs,rfl,s0,e0,l0,g0⟩
      refine ⟨_,zr,_,zr,by omega,by omega,q39 (lo:=0) (n:=(1+c%12).toNat) (λ i σ H'=>∃ (v3 B:Option V) (z:Str),σ=[some (.int c),some (.int p),some (.int m),some (.str F),some (.str later),some (.int (1+c%12)),some (.int (p%(1+c%12))),some (.ref q),some (.int (0+(j:Int))),some (.str z),v3,B]/\Same H0 H'/\NmI F z i) ⟨v3,B,"",zr,Same.refl _,.inl ⟨zr,zr⟩⟩ ?_ ?_⟩
      · rintro i σ H1 hi ⟨v3,B,z,rfl,D,J⟩
        have zl:=J.len;refine ⟨_,rfl,_,rfl,_,_,rfl,rfl,.inl ⟨by decide,by decide⟩,_,_,rfl,rfl,_,_,rfl,rfl,⟨by show (0:Int) < 3*(0+(i:Int))+2;omega,by show 3*(0+(i:Int))+2 < 1073741824;omega⟩,_,rfl,_,_,rfl,rfl,.inl ⟨by decide,by decide⟩,_,_,rfl,rfl,_,rfl,_,rfl,rfl,.inr ⟨_,rfl,_,rfl,_,_,rfl,rfl,.inl ⟨by split <;> decide,by split <;> decide⟩,by show 4<=sizeLine;decide,λ L hL=> ?_⟩⟩;have u1:=qd (o:=HO.lst [V.int 1,V.int 5,V.int 7,V.int 11]) hL;obtain ⟨v,O,hv⟩:=q5t (xs:=[V.int 1,V.int 5,V.int 7,V.int 11]) (i:=p / 12%4) (z2l _ (by decide)) (z1e _ (by decide));obtain ⟨n,rfl,n0,n1⟩:∃ n:Int,v= .int n/\0<=n/\n<=11:=by
          simp only [z2v,z24,or_false] at hv;rcases hv with rfl | rfl | rfl | rfl
          · exact ⟨1,zr,by decide,by decide⟩
          · exact ⟨5,zr,by decide,by decide⟩
          · exact ⟨7,zr,by decide,by decide⟩
          · exact ⟨11,zr,by decide,by decide⟩
        refine ⟨_,rfl,_,_,rfl,rfl,⟨by decide,by decide⟩,_,_,rfl,rfl,(by show (0:Int) < 4;decide),_,_,_,_,rfl,rfl,SqL.of qa,O,_,_,rfl,rfl,.inr ⟨by omega,by omega⟩,_,_,rfl,rfl,?_⟩;refine ⟨_,zr,zr,_,zr,ite2 (λ h=> ?_) (λ h=> ?_)⟩
        · have U:i=0:=by
            have:=of_decide_eq_true h;injection this with e;omega
          subst U;exact ⟨_,rfl,_,rfl,_,_,rfl,rfl,(by show (0:Int) < 26;decide),_,_,_,rfl,rfl,lF,(pF _).1,_,_,_,rfl,D.trans u1,NmI.one (pF _).2⟩
        · have U:i≠0:=λ e=>by
            subst e;exact h (by decide)
          refine ⟨_,rfl,_,rfl,_,rfl,_,_,rfl,rfl,(by show (0:Int) < 36;decide),_,_,_,rfl,rfl,Y,(pl _).1,_,_,rfl,rfl,?_,?_⟩
          · rw [zl]
            show i+1<=_;exact z34 (show i+1<=1000 by omega) (by decide)
          · exact ⟨_,_,_,zr,D.trans u1,J.more U (qhz _ (pl _).2)⟩
      · rintro σ H1 ⟨v3,B,z,rfl,D,J⟩
        have e1:=D _ _ e0;refine ⟨_,rfl,.inl ⟨rfl,_,SqL.of e1⟩,_,rfl,q,_,_,rfl,rfl,e1,by rw [z2c];exact q1r (by omega),?_⟩;refine ⟨_,_,_,_,zs++ [z],rfl,(s0.trans D).set hq,by rw [qa,z2h];rfl,by rw [z17,l0];rfl,λ y hy=> ?_⟩;rcases z27.mp hy with hy | hy
        · exact g0 y hy
        · rw [z16.mp hy]
          exact J.txt (by omega) (by omega)
    · rintro σ H1 ⟨v1,v2,v3,B,zs,rfl,s1,e1,l1,g1⟩
      exact ⟨_,zr,k q zs H1 s1 e1 l1 g1⟩
def qie (K:PySem.W.Frag):Sp:=λ vs H Q _=>∃ (a:Addr) (ns:List Int),vs=[.ref a]/\SqL K H a (ns.map V.int)/\
 ∀ (p:Addr) (ks:List Key) (H':Hp),Same H H' ->H' p=some (.lst (ks.map kV)) ->3<=ks.length ->ks.length<=4 ->(∀ k∈ks,GoodK k) ->Q (.ref p) H'
theorem qav (T:Txt K mg):Def P w K mg base 2 "_law_values" ["_law_script"] (qie K):=by
 refine T.qbv.ok q4s (λ vs H Q E h=> ?_) λ f cdv A outer s H vs Q E hr h=> ?_
 ·obtain ⟨a,ns,rfl,_⟩:=h;rfl
 ·obtain ⟨a,ns,rfl,U,k⟩:=h;refine ⟨_,(q46
   (qo (i:=1) q4s.nd rfl (Or.inl rfl) (qm q4z (qm q1d (ql (q12 T) hr rfl (pa_2 (pv 0) qc)) (qm qn7 qc qc)) (qh (qx K) (q1a (pa_2 qc (qol qn8 qc))) (qm q1d (ql (q12 T) hr rfl (pa_2 (pv 0) qc)) qc) (λ _ _=>rfl))))
   (qo (i:=2) q4s.nd rfl (Or.inl rfl) (ql (q5c T) hr rfl (pa_4 (ql (q12 T) hr rfl (pa_2 (pv 0) qc)) (ql (q12 T) hr rfl (pa_2 (pv 0) qc)) qc q2i)))
   (qt (qh (qx K) (q1a (pa_2 (q1a (pa_4 (pv 1) (qh (qx K) (pv 2) qc (λ _ _=>rfl)) (qm q1v (pv 1) qc) (qh (qx K) (pv 2) qc (λ _ _=>rfl)))) (q1a (pa_3 (pv 1) (qm q1v (pv 1) qc) (qm qn6 (pv 1) qc))))) (qm q1d (ql (q12 T) hr rfl (pa_2 (pv 0) qc)) qc) (λ _ _=>rfl)))),?_⟩
  refine ⟨_,rfl,a,ns,_,rfl,U,by decide,_,_,rfl,rfl,⟨by decide,by decide,by decide⟩,_,_,rfl,rfl,(by show (0:Int) < 10^30;decide),?_⟩;refine ⟨_,rfl,by show 2<=sizeLine;decide,λ p hp=> ?_⟩;have s1:=qd (o:=HO.lst [V.int 1,.int (-1)]) hp;have B:=s1.seq U;obtain ⟨v,Y,hv⟩:=q5t (xs:=[V.int 1,.int (-1)]) (i:=ns.getD (3:Int).toNat 0%2) (z2l _ (by decide)) (z1e _ (by decide));obtain ⟨n,rfl,hn⟩:∃ n:Int,v= .int n/\ -(2^64) < n/\n < 2^64:=by
   simp only [z2v,z24,or_false] at hv;rcases hv with rfl | rfl
   ·exact ⟨_,zr,by decide⟩
   ·exact ⟨_,zr,by decide⟩
  refine ⟨_,rfl,a,ns,_,rfl,B,by decide,_,_,rfl,rfl,(by show (0:Int) < 2;decide),_,_,_,_,rfl,rfl,SqL.of qa,Y,_,_,rfl,rfl,.inr hn,?_⟩;refine ⟨_,zr,a,ns,_,zr,B,by decide,_,zr,a,ns,_,zr,B,by decide,_,_,2,smaS,zr,qfd,by decide,by decide,λ q zs H2 s2 hq lz J=> ?_⟩
  match zs,lz,hq,J with
  | [z0,z1],_,hq,J=>
   refine ⟨_,rfl,_,rfl,_,_,_,_,rfl,rfl,SqL.of hq,qk (j:=0) rfl,_,rfl,_,_,rfl,rfl,_,rfl,_,_,_,_,rfl,rfl,SqL.of hq,qk (j:=1) rfl,by show 4<=sizeLine;decide,λ r1 Z=> ?_⟩;refine ⟨_,rfl,_,rfl,_,_,rfl,rfl,_,rfl,_,_,rfl,rfl,by show 3<=sizeLine;decide,λ r2 a0=>⟨by show 2<=sizeLine;decide,λ r3 a6=> ?_⟩⟩;have s3:=qd (o:=HO.lst (([.inl (ns.getD (Int.toNat 2) 0%10^Int.toNat 30*n),.inr z0,.inl (ns.getD (Int.toNat 2) 0%10^Int.toNat 30*n+1),.inr z1]:List Key).map kV)) Z;have s4:=qd (o:=HO.lst (([.inl (ns.getD (Int.toNat 2) 0%10^Int.toNat 30*n),.inl (ns.getD (Int.toNat 2) 0%10^Int.toNat 30*n+1),.inl (ns.getD (Int.toNat 2) 0%10^Int.toNat 30*n - 1)]:List Key).map kV)) a0;have s5:=qd (o:=HO.lst [V.ref r1,.ref r2]) a6;have S5:=(s1.trans (s2.trans (s3.trans (s4.trans s5))));obtain ⟨O,ks,D,hpp,l3,l4,gk⟩:∃ (O:Addr) (ks:List Key),atI [V.ref r1,V.ref r2] (ns.getD (Int.toNat 4) 0%2)=some (.ref O)/\(∀ G:Hp,G r1=some (.lst (([.inl (ns.getD (Int.toNat 2) 0%10^Int.toNat 30*n),.inr z0,.inl (ns.getD (Int.toNat 2) 0%10^Int.toNat 30*n+1),.inr z1]:List Key).map kV)) ->G r2=some (.lst (([.inl (ns.getD (Int.toNat 2) 0%10^Int.toNat 30*n),.inl (ns.getD (Int.toNat 2) 0%10^Int.toNat 30*n+1),.inl (ns.getD (Int.toNat 2) 0%10^Int.toNat 30*n - 1)]:List Key).map kV)) ->G O=some (.lst (ks.map kV)))/\3<=ks.length/\ks.length<=4/\∀ k∈ks,GoodK k:=by
    have:ns.getD (Int.toNat 4) 0%2=0\/ ns.getD (Int.toNat 4) 0%2=1:=by omega
    rcases this with e | e <;> rw [e]
    ·refine ⟨r1,_,rfl,(λ G h _=>h),by show 3<=4;decide,by show 4<=4;decide,λ kk hk=> ?_⟩;simp only [z2v,z24,or_false] at hk;rcases hk with rfl | rfl | rfl | rfl
     ·trivial
     ·exact J z0 (by simp)
     ·trivial
     ·exact J z1 (by simp)
    ·refine ⟨r2,_,rfl,(λ G _ h=>h),by show 3<=3;decide,by show 3<=4;decide,λ kk hk=> ?_⟩;simp only [z2v,z24,or_false] at hk;rcases hk with rfl | rfl | rfl <;> trivial
   exact ⟨_,rfl,a,ns,_,rfl,S5.seq U,by decide,_,_,rfl,rfl,(by show (0:Int) < 2;decide),_,_,_,_,rfl,rfl,SqL.of qa,D,k O ks _ S5 (hpp _ ((s4.trans s5) _ _ qa) (s5 _ _ qa)) l3 l4 gk⟩
def qo5 (K:PySem.W.Frag):Sp:=λ vs H Q _=>∃ (x n:Int) (v:Addr) (ks:List Key),vs=[.int x,.int n,.ref v]/\0<=n/\n<=4/\SqL K H v (ks.map kV)/\1<=ks.length/\ks.length<=4/\
 ∀ (p:Addr) (us:List Key) (H':Hp),Same H H' ->H' p=some (.tup (us.map kV)) ->us.length=n.toNat ->(∀ u∈us,u∈ks) ->Q (.ref p) H'
theorem qeb (T:Txt K mg):Def P w K mg base 1 "_law_row" ["_law_x","_law_size","_law_values_here"] (qo5 K):=by
 refine T.qgh.ok qe8 (λ vs H Q E h=> ?_) λ f cdv A outer s H vs Q E hr h=> ?_
 ·obtain ⟨x,n,v,ks,rfl,_⟩:=h;rfl
 ·obtain ⟨x,n,v,ks,rfl,n0,n4,hV,l1,l4,k⟩:=h;refine ⟨_,(qi (qt (q1u (q2b K) rfl T.q2t q2h (pa_1 (q25 (N:=["_law_k","_law_values_here","_law_x"]) (caps:=[none,some 2,some 0]) rfl (by with_unfolding_all rfl) (q2d rfl T.q38 (pa_1 (pv 1))) (λ _ _ _ _ _=>(qq (i:=0) (show (["_law_k","_law_values_here","_law_x"]:List Str).Nodup by decide+kernel) rfl (Or.inl rfl))) (λ _ _ _ _ _=>q3u) (λ _ _ _ _ _=>(qh (qx K) (pv 1) (qm q1d (qm q1d (qm q2f (pv 2) (qh (qx K) (q1a (pa_4 qc qc qc qc)) (pv 0) (λ _ _=>rfl))) qc) (qu (q1b K) rfl T.b_len q1w (pa_1 (pv 1)))) (λ _ _=>rfl)))))))),?_⟩;refine ⟨_,zr,_,zr,by omega,by omega,λ D hD=> ?_⟩;refine q20 n.toNat (λ j σ' O=>(∃ v',σ'=[v',some (.ref v),some (.int x)])/\Same H O/\∃ us:List Key,O D=some (.lst (us.map kV))/\us.length=j/\∀ u∈us,u∈ks) ⟨⟨_,rfl⟩,qd hD,[],qa,rfl,λ _ z=>nomatch z⟩ (λ i σ' H' hi p=>hi) (λ σ' O p=>⟨z3b _,?_⟩) (λ j σ' O hj p x' E3 y=> ?_)
  ·obtain ⟨_,Y,us,hu,U,Z⟩:=p;exact ⟨_,_,zr,.inl ⟨SqL.of hu,λ q hq=>k q us _ (Y.trans (qd hq)) qa U Z⟩⟩
  ·obtain ⟨⟨v',rfl⟩,Y,us,hu,U,Z⟩:=p;obtain ⟨rfl,rfl⟩:=y;obtain ⟨d,hd,d0,d1⟩:∃ d:Int,atI [V.int 1,V.int 4,V.int 16,V.int 64] (0+(j:Int))=some (V.int d)/\0 < d/\d<=64:=by
    have:j=0\/ j=1\/ j=2\/ j=3:=by omega
    rcases this with rfl | rfl | rfl | rfl
    ·exact ⟨1,zr,by decide,by decide⟩
    ·exact ⟨4,zr,by decide,by decide⟩
    ·exact ⟨16,zr,by decide,by decide⟩
    ·exact ⟨64,zr,by decide,by decide⟩
   refine ⟨_,rfl,_,rfl,by show 4<=sizeLine;decide,λ q hq=> ?_⟩;have s1:=qd (o:=HO.lst [V.int 1,V.int 4,V.int 16,V.int 64]) hq;have B:=(Y.trans s1).seq hV;obtain ⟨e,a0,he⟩:=q5t (xs:=ks.map kV) (i:=x / d%64%(ks.length:Int)) (z2l _ (by omega)) (by rw [z2c];exact z1e _ (by omega));obtain ⟨u,a6,rfl⟩:=z38.mp he;refine ⟨_,rfl,_,_,_,_,rfl,rfl,SqL.of qa,hd,_,_,rfl,rfl,⟨d0,by omega⟩,_,_,rfl,rfl,(by show (0:Int) < 64;decide),_,rfl,_,_,rfl,.inl ⟨_,B,rfl⟩,?_⟩;rw [z2c];refine ⟨_,_,rfl,rfl,(by show (0:Int) < ks.length;omega),_,_,_,_,rfl,rfl,B,a0,?_⟩;refine ⟨_,s1 _ _ hu,by rw [z2c,U];exact q1r (by omega),⟨_,rfl⟩,(Y.trans s1).set hD,us++ [u],by rw [qa,z2h];rfl,by rw [z17,U];rfl,λ x J=> ?_⟩;rcases z27.mp J with J | J
   ·exact Z x J
   ·rw [z16.mp J];exact a6
def q1y (a b:List Key):Bool:=Tim.lexB befK a b
theorem qfe:∀ c∈fur.cps.toList,q8h later ⟨#[c]⟩=if c < 58 then (c:Int) - 48 else (c:Int) - 87:=by decide+kernel
theorem qff:∀ c∈fur.cps.toList,(48<=c/\c<=57)\/ (97<=c/\c<=122):=by decide+kernel
theorem qka {c d:Nat} (B:c∈fur.cps.toList) (hd:d∈fur.cps.toList):decide (q8h later ⟨#[c]⟩ < q8h later ⟨#[d]⟩)=decide (c < d):=by
 rw [qfe c B,qfe d hd];have h1:=qff c B;have h2:=qff d hd
 apply decide_eq_decide.mpr
 split <;> split <;> omega
theorem qo6:∀ c∈fur.cps.toList,c < 128:=by decide+kernel
theorem Wz.asc {n:Nat} {z:Str} (h:Wz n z):Asc z:=λ c hc=>qo6 c (h.2 c hc)
theorem qmo {c d:Nat} (h:V.str ⟨#[c]⟩=V.str ⟨#[d]⟩):c=d:=by
 injection h with e;injection e with e
 simpa using e
theorem qif (x y:Str):strLt x y=Tim.lexB (λ a b:Nat=>decide (a < b)) x.cps.toList y.cps.toList:=Tim.qaf _ _
def qig:Sp:=λ vs H Q _=>∃ a b:Key,vs=[kV a,kV b]/\OkK a/\OkK b/\∀ H',Same H H' ->Q (.bl (befK a b)) H'
theorem q4m (T:Txt K mg):Def P w K mg base 1 "_law_value_ahead" ["_law_one","_law_other"] qig:=by
  refine T.q88.ok q2s (λ vs H Q E h=> ?_) λ f cdv A outer s H vs Q E hr h=> ?_
  · obtain ⟨a,b,rfl,_⟩:=h
    rfl
  · obtain ⟨a,b,rfl,ha,hb,k⟩:=h
    refine ⟨_,(qc4
      (q1e (q15 q4h (qu (q5s K) rfl T.q1j q1c (pa_2 (pv 0) (q3f rfl T.b_str q6w))) (qu (q5s K) rfl T.q1j q1c (pa_2 (pv 1) (q3f rfl T.b_str q6w))) (q14 _)) (qi (qt (qu (q5s K) rfl T.q1j q1c (pa_2 (pv 1) (q3f rfl T.b_str q6w))))) q11)
      (q1e (q1s (qu (q5s K) rfl T.q1j q1c (pa_2 (pv 0) (q3f rfl T.b_int q9x)))) (qi (qt (q24 q75 (pv 0) (pv 1) (q14 _)))) q11)
      (qo (i:=2) q2s.nd rfl (Or.inl rfl) q2i)
      (q1t PassesOwn.never rfl (qm8 rfl T.b_zip (pa_2 (pv 0) (pv 1))) (q43 rfl (q1g (qq (i:=3) q2s.nd rfl (Or.inl rfl)) (q1g (qq (i:=4) q2s.nd rfl (Or.inl rfl)) q34))) (qi (q1e (q15 q4h (pv 3) (pv 4) (q14 _)) (qi (qt (q24 q75 (q45 PySem.F.plainAttrs_str PySem.F.slot_str_find PySem.F.type_str_find qf3 (pv 2) (pa_1 (pv 3))) (q45 PySem.F.plainAttrs_str PySem.F.slot_str_find PySem.F.type_str_find qf3 (pv 2) (pa_1 (pv 4))) (q14 _)))) q11)))
      (qt (q24 q75 (qu (q1b K) rfl T.b_len q1w (pa_1 (pv 0))) (qu (q1b K) rfl T.b_len q1w (pa_1 (pv 1))) (q14 _)))),?_⟩
    have k0:=k H (Same.refl H);cases a with
    | inl i=>
      cases b with
      | inl j=>
        refine ⟨_,zr,_,_,_,zr,.int i,by decide,by decide,_,zr,_,_,_,zr,.int j,by decide,by decide,zr,_,zr,q1p rfl ?_⟩;exact ⟨_,zr,_,_,_,zr,.int i,by decide,by decide,_,zr,q4x rfl ⟨_,zr,_,zr,_,_,zr,zr,k0⟩⟩
      | inr y=>
        refine ⟨_,zr,_,_,_,zr,.int i,by decide,by decide,_,zr,_,_,_,zr,.str y,by decide,by decide,zr,_,zr,q4x rfl ?_⟩;exact ⟨_,zr,_,_,_,zr,.str y,by decide,by decide,k0⟩
    | inr x=>
      cases b with
      | inl j=>
        refine ⟨_,zr,_,_,_,zr,.str x,by decide,by decide,_,zr,_,_,_,zr,.int j,by decide,by decide,zr,_,zr,q4x rfl ?_⟩;exact ⟨_,zr,_,_,_,zr,.int j,by decide,by decide,k0⟩
      | inr y=>
        have Y:Wz 40 x:=ha;have hy:Wz 40 y:=hb;have xs:x.length<=sizeLine:=z34 Y.1 (by decide);have ys:y.length<=sizeLine:=z34 hy.1 (by decide);have k:∀ H',Same H H' ->Q (.bl (strLt x y)) H':=k;refine ⟨_,zr,_,_,_,zr,.str x,by decide,by decide,_,zr,_,_,_,zr,.str y,by decide,by decide,zr,_,zr,q1p rfl ?_⟩;refine ⟨_,zr,_,_,_,zr,.str x,by decide,by decide,_,zr,q1p rfl ?_⟩;refine ⟨_,zr,_,zr,x,y,zr,Y.asc,hy.asc,qjr (λ i σ H'=>∃ (v1 v2:Option V),σ=[some (.str x),some (.str y),some (.str later),v1,v2]/\Same H H'/\x.cps.toList.take i=y.cps.toList.take i) ⟨none,none,zr,Same.refl _,zr⟩ ?_ ?_⟩
        · rintro i c d p σ H1 hc hd hp ⟨v1,v2,rfl,J,D⟩
          have O:x.cps.toList[i]? =some c:=by rw [z0o];exact hc
          have U:y.cps.toList[i]? =some d:=by rw [z0o];exact hd
          have s3:=qd (o:=HO.tup [.str ⟨#[c]⟩,.str ⟨#[d]⟩]) hp;refine ⟨p,_,zr,SqT.of qa,zr,_,_,zr,_,_,zr,zr,?_⟩;refine ⟨_,zr,_,zr,zr,_,zr,ite2 (λ h=> ?_) (λ h=> ?_)⟩
          · have hn:c≠d:=λ e=>by
              subst e;rw [z2m rfl] at h;cases h
            have B:=k _ (J.trans s3);rw [qif,Tim.qag i _ _ _ _ D O U hn,<- qka (Y.2 _ (z0u O)) (hy.2 _ (z0u U))] at B;exact ⟨_,zr,zr,_,zr,later,_,zr,zr,_,zr,zr,_,zr,later,_,zr,zr,_,_,zr,zr,B⟩
          · have he:c=d:=by
              by_cases e:c=d
              · exact e
              · exact absurd (by rw [z28 λ z=>e (qmo z)];rfl) h
            refine ⟨_,_,zr,J.trans s3,?_⟩;rw [z2r,z2r,D,O,U,he]
        · rintro σ H1 ⟨v1,v2,rfl,J,D⟩
          have B:=k _ J;rw [qif,Tim.q95 _ _ (by rw [q2z,q2z];exact D),q2z,q2z] at B;have e2:decide ((x.length:Int) < (y.length:Int))=decide (x.length < y.length):=decide_eq_decide.mpr (by omega);rw [<- e2] at B;exact ⟨_,zr,_,_,zr,⟨xs,zr⟩,_,zr,_,_,zr,⟨ys,zr⟩,_,_,zr,zr,B⟩
theorem qmp (a b:Key):scal (kV a) (kV b)=true:=by cases a <;> cases b <;> rfl
def qkb (K:PySem.W.Frag):Sp:=λ vs H Q _=>∃ (a b:Addr) (ks js:List Key),vs=[.ref a,.ref b]/\SqT K H a (ks.map kV)/\SqT K H b (js.map kV)/\(∀ k∈ks,OkK k)/\(∀ k∈js,OkK k)/\∀ H',Same H H' ->Q (.bl (q1y ks js)) H'
theorem qbt (T:Txt K mg):Def P w K mg base 2 "_law_ahead" ["_law_one","_law_other"] (qkb K):=by
  refine T.qdo.ok q5b (λ vs H Q E h=> ?_) λ f cdv A outer s H vs Q E hr h=> ?_
  · obtain ⟨a,b,ks,O,rfl,_⟩:=h
    rfl
  · obtain ⟨a,b,ks,O,rfl,U,Y,o1,o2,k⟩:=h
    refine ⟨_,(q3r
      (q1t PassesOwn.never rfl (qho K rfl T.b_zip (pa_2 (pv 0) (pv 1))) (q43 rfl (q1g (qq (i:=2) q5b.nd rfl (Or.inl rfl)) (q1g (qq (i:=3) q5b.nd rfl (Or.inl rfl)) q34))) (qi (q1e (q15 q4h (pv 2) (pv 3) (q14 _)) (qi (qt (ql (q4m T) hr rfl (pa_2 (pv 2) (pv 3))))) q11)))
      (qt (q24 q75 (qu (q1b K) rfl T.b_len q1w (pa_1 (pv 0))) (qu (q1b K) rfl T.b_len q1w (pa_1 (pv 1))) (q14 _)))),?_⟩
    refine ⟨_,rfl,_,rfl,a,b,rfl,⟨_,U⟩,⟨_,Y⟩,qf7 (xs:=ks.map kV) (ys:=O.map kV) (λ i σ H'=>∃ (v1 v2:Option V),σ=[some (.ref a),some (.ref b),v1,v2]/\Same H H'/\ks.take i=O.take i) ⟨none,none,rfl,Same.refl _,rfl⟩ (λ i σ H' _ p=>by obtain ⟨_,_,_,z,_⟩:=p;exact ⟨z.seqT U,z.seqT Y⟩) ?_ ?_⟩
    · rintro i x y p σ H1 Z hy hp ⟨v1,v2,rfl,D,J⟩
      rw [z1j] at Z hy;obtain ⟨t,ht,rfl⟩:=z0k.mp Z;obtain ⟨u,hu,rfl⟩:=z0k.mp hy;have s3:=qd (o:=HO.tup [kV t,kV u]) hp;refine ⟨p,_,zr,SqT.of qa,zr,_,_,zr,_,_,zr,zr,?_⟩;refine ⟨_,zr,_,zr,qmp t u,_,zr,ite2 (λ h=> ?_) (λ h=> ?_)⟩
      · have hn:t≠u:=λ e=>by
          subst e;rw [z2m rfl] at h;cases h
        refine ⟨_,zr,_,zr,t,u,zr,o1 t (z0u ht),o2 u (z0u hu),λ H' s'=> ?_⟩;have B:=k _ (D.trans (s3.trans s'));rw [q1y,Tim.qag i _ _ _ _ J ht hu hn] at B;exact B
      · have he:t=u:=by
          by_cases e:t=u
          · exact e
          · exact absurd (by rw [z28 λ z=>e (qnd z)];rfl) h
        refine ⟨_,_,zr,D.trans s3,?_⟩;rw [z2r,z2r,J,ht,hu,he]
    · rintro σ H1 ⟨v1,v2,rfl,D,J⟩
      rw [z2c,z2c] at J;have B:=k _ D;rw [q1y,Tim.q95 _ _ J] at B;have e2:decide ((ks.length:Int) < (O.length:Int))=decide (ks.length < O.length):=decide_eq_decide.mpr (by omega);rw [<- e2] at B;exact ⟨_,zr,_,_,zr,.inr ⟨_,D.seqT U,by rw [z2c]⟩,_,zr,_,_,zr,.inr ⟨_,D.seqT Y,by rw [z2c]⟩,_,_,zr,zr,B⟩
theorem qih:∀ p q:List Key,PyData.eqvAll (p.map keyD) (q.map keyD)=decide (p=q)
 | [],[]=>by rw [z37,PyData.eqvAll];rfl
 | [],_::_=>by rw [z37,z2t,PyData.eqvAll];rfl
 | _::_,[]=>by rw [z37,z2t,PyData.eqvAll];rfl
 | x::p,y::q=>by
  rw [z2t,z2t,PyData.eqvAll,qi2,qih p q];by_cases h1:x=y
  ·by_cases h2:p=q
   ·rw [z2m h1,z2m h2,z2m (by rw [h1,h2])];rfl
   ·rw [z2m h1,z28 h2,z28 (λ e=>h2 (List.cons.inj e).2)];rfl
  ·rw [z28 h1,z28 (λ e=>h1 (List.cons.inj e).1)];rfl
theorem qo7 (e f:RW):PyData.eqv (rwD e) (rwD f)=decide (e.2=f.2):=by
 unfold rwD;rw [PyData.eqv];exact qih _ _
theorem qii (B:List RW) (e:RW):((B.map rwD).any λ y=>PyData.eqv y (rwD e))=B.any λ r=>decide (r.2=e.2):=by
 rw [List.any_map]
 congr 1
 funext r
 exact qo7 r e
def insR (most:Int) (rs:List RW) (e:RW):List RW:=if (rs.any λ r=>decide (r.2=e.2))=true\/ (rs.length:Int)=most then rs else rs.takeWhile (λ r=>q1y r.2 e.2)++e::rs.dropWhile (λ r=>q1y r.2 e.2)
theorem qdg {most:Int} {B:List RW} {e r:RW} (h:r∈insR most B e):r∈B\/ r=e:=by
 unfold insR at h;split at h
 ·exact .inl h
 ·rcases z27.mp h with h | h
  ·exact .inl (List.takeWhile_subset _ h)
  ·rcases z2v.mp h with h | h
   ·exact .inr h
   ·exact .inl (List.dropWhile_subset _ h)
theorem qkc {most:Int} {B:List RW} {e:RW} (h:(B.length:Int)<=most):((insR most B e).length:Int)<=most:=by
 unfold insR;split
 ·exact h
 ·rename_i c;have c2:(B.length:Int)≠most:=λ z=>c (.inr z);have e1:=congrArg List.length (List.takeWhile_append_dropWhile (p:=λ r:RW=>q1y r.2 e.2) (l:=B));rw [z17] at e1;rw [z17,z1w];omega
theorem qmq:Tim.STO befK:=by
 have B:Tim.STO strLt:=q6y;refine ⟨λ a=> ?_,λ a b c h1 h2=> ?_,λ a b h1 h2=> ?_⟩
 ·cases a with
  | inl i=>exact z28 (Int.lt_irrefl i)
  | inr z=>exact B.irr z
 ·cases a with
  | inl i=>
   cases c with
   | inr z=>rfl
   | inl k=>
    cases b with
    | inr y=>cases h2
    | inl j=>exact Tim.qeo.tr i j k h1 h2
  | inr x=>
   cases b with
   | inl j=>cases h1
   | inr y=>
    cases c with
    | inl k=>cases h2
    | inr z=>exact B.tr x y z h1 h2
 ·cases a with
  | inl i=>
   cases b with
   | inl j=>exact congrArg Sum.inl (Tim.qeo.tri i j h1 h2)
   | inr y=>cases h1
  | inr x=>
   cases b with
   | inl j=>cases h2
   | inr y=>exact congrArg Sum.inr (B.tri x y h1 h2)
theorem qaw:Tim.STO q1y:=qmq.lex
theorem qkd {most:Int} {B:List RW} {e:RW} (h:B.Pairwise λ a b=>q1y a.2 b.2=true):(insR most B e).Pairwise λ a b=>q1y a.2 b.2=true:=by
 unfold insR;split
 ·exact h
 ·rename_i c;have J:∀ r∈B,r.2≠e.2:=λ r hr z=>c (.inl (z23.mpr ⟨r,hr,z2m z⟩));have hw:∀ r∈B.takeWhile (λ r=>q1y r.2 e.2),q1y r.2 e.2=true:=λ r hr=>z21.mp List.all_takeWhile r hr;have hd:∀ r∈B.dropWhile (λ r=>q1y r.2 e.2),q1y e.2 r.2=true:=λ r hr=>by
   have U:=h.sublist (List.dropWhile_sublist (λ r:RW=>q1y r.2 e.2));have sub:=List.dropWhile_subset (l:=B) (λ r:RW=>q1y r.2 e.2);cases q:B.dropWhile (λ r:RW=>q1y r.2 e.2) with
   | nil=>rw [q] at hr;cases hr
   | cons y l=>
    rw [q] at hr U sub;have ny:q1y y.2 e.2=false:=by
     have:=List.head?_dropWhile_not (λ r:RW=>q1y r.2 e.2) B;rw [q] at this;exact this
    have ey:q1y e.2 y.2=true:=by
     cases z:q1y e.2 y.2 with
     | true=>rfl
     | false=>exact absurd (qaw.tri _ _ ny z) (J y (sub (z18 ..)))
    rcases z2v.mp hr with rfl | hr
    ·exact ey
    ·exact qaw.tr _ _ _ ey ((z19.mp U).1 r hr)
  refine List.pairwise_append.mpr ⟨h.sublist (List.takeWhile_sublist _),z19.mpr ⟨hd,h.sublist (List.dropWhile_sublist _)⟩,λ a O b D=> ?_⟩;rcases z2v.mp D with rfl | D
  ·exact hw a O
  ·exact qaw.tr _ _ _ (hw a O) (hd b D)
theorem qdh {α:Type} {p:α ->Bool}:∀ {l:List α} {i:Nat},(∀ x∈l.take i,p x=true) ->(∀ x,l[i]? =some x ->p x=false) ->l.takeWhile p=l.take i/\l.dropWhile p=l.drop i
 | [],i,_,_=>by simp
 | x::l,0,_,h=>by
  have:=h x rfl;simp [List.takeWhile_cons,List.dropWhile_cons,this]
 | x::l,i+1,h1,h2=>by
  have B:p x=true:=h1 x (by simp);obtain ⟨a,b⟩:=qdh (l:=l) (i:=i) (λ y hy=>h1 y (by simp [hy])) (λ y hy=>h2 y (by simpa using hy));rw [List.takeWhile_cons,List.dropWhile_cons,if_pos B,if_pos B,a,b];exact ⟨zr,zr⟩
def RwG (K:PySem.W.Frag) (H:Hp) (e:RW):Prop:=RowV K H e/\∀ u∈e.2,GoodK u
theorem RwG.same {H H':Hp} {e:RW} (s:Same H H') (h:RwG K H e):RwG K H' e:=⟨h.1.same s,h.2⟩
theorem RwG.dat {H:Hp} {e:RW} (h:RwG K H e):Dat K H (rwD e) e.1:=qfb h.1 λ u hu=>(h.2 u hu).tx
def qo8 (K:PySem.W.Frag):Sp:=λ vs H Q _=>∃ (L:Addr) (most:Int) (rs:List RW) (e:RW),vs=[.ref L,e.1,.int most]/\H L=some (.lst (rs.map (·.1)))/\(∀ r∈rs,RwG K H r)/\RwG K H e/\rs.length<=100/\
 ∀ H',Keep L H H' ->H' L=some (.lst ((insR most rs e).map (·.1))) ->Q .non H'
theorem q8s (T:Txt K mg):Def P w K mg base 3 "_law_put_among" ["_law_rows","_law_row_here","_law_most"] (qo8 K):=by
 refine T.q9h.ok q42 (λ vs H Q E h=> ?_) λ f cdv A outer s H vs Q E hr h=> ?_
 ·obtain ⟨L,most,B,e,rfl,_⟩:=h;rfl
 ·obtain ⟨L,most,B,e,rfl,U,gr,ge,lr,k⟩:=h;obtain ⟨q,eq,hq⟩:=ge.1;refine ⟨_,(q78
   (q1e (PW.pt (q68 (q15 (q70 hr.units K) (pv 1) (pv 0) (by with_unfolding_all rfl)) (q5n (q15 q3q (qu (q1b K) rfl T.b_len q1w (pa_1 (pv 0))) (pv 2) (q14 _))))) (qi ql3) q11)
   (qo (i:=3) q42.nd rfl (Or.inl rfl) qc)
   (qiu PassesOwn.never (PW.pt (q9l (q15 q75 (pv 3) (qu (q1b K) rfl T.b_len q1w (pa_1 (pv 0))) (q14 _)) (q8c (q1s (ql (qbt T) hr rfl (pa_2 (qh (qx K) (pv 0) (pv 3) (λ _ _=>rfl)) (pv 1))))))) (qi (qo (i:=3) q42.nd rfl (Or.inl rfl) (qm q1v (pv 3) qc))))
   (q2n (q45 z0g PySem.F.slot_list_insert PySem.F.type_list_insert qhr (pv 0) (pa_2 (pv 3) (pv 1))))),?_⟩
  have stay:((B.any λ r=>decide (r.2=e.2))=true\/ (B.length:Int)=most) ->Q .non H:=λ h=>by
   have:=k H (Keep.of (Same.refl H));rw [show insR most B e=B from if_pos h] at this;exact this U
  refine ⟨_,zr,_,zr,rwD e,B.map rwD,ge.dat,.lst (SqL.of U) (q66 λ r hr=>(gr r hr).dat),z34 (q7l B) (by decide),?_⟩;rw [qii];refine ⟨_,zr,ite2 (λ h1=>stay (.inl h1)) (λ h1=> ?_)⟩;refine ⟨_,zr,_,_,zr,.inl ⟨_,SqL.of U,zr⟩,_,zr,zr,_,zr,ite2 (λ h2=>stay (.inr ?_)) (λ h2=> ?_)⟩
  ·have:=of_decide_eq_true h2;injection this with this;rw [z2c] at this;exact this
  ·have n2:(B.length:Int)≠most:=λ z=>h2 (z2m (by rw [z2c,z]));refine ⟨λ n σ G=>Same H G/\∃ i:Nat,σ=[some (.ref L),some e.1,some (.int most),some (.int (i:Int))]/\n=B.length - i/\i<=B.length/\∀ r∈B.take i,q1y r.2 e.2=true,⟨_,Same.refl H,0,rfl,rfl,z3e _,(λ _ z=>by simp at z)⟩,?_⟩;rintro n σ G ⟨sg,i,rfl,rfl,il,hw⟩;have D:=sg _ _ U;have fin:∀ Z,Same H Z ->(∀ r,B[i]? =some r ->q1y r.2 e.2=false) ->Q .non (upd Z L (.lst ((B.map (·.1)).take (i:Int).toNat++e.1::(B.map (·.1)).drop (i:Int).toNat))):=λ Z a7 hn=>by
    obtain ⟨w1,w2⟩:=qdh (p:=λ r:RW=>q1y r.2 e.2) hw hn;have ei:insR most B e=B.take i++e::B.drop i:=by
     unfold insR;rw [if_neg (λ z=>z.elim h1 n2),w1,w2]
    refine k _ (λ a o ne ha=>by rw [qg ne];exact a7 a o ha) ?_;rw [qa,ei,z2h,z2t,List.map_take,List.map_drop];rfl
   have ls:(B.map (·.1)).length < sizeLine:=by rw [z2c];exact q1r (by omega)
   refine ⟨_,zr,_,zr,_,_,zr,.inl ⟨_,SqL.of D,zr⟩,_,_,zr,zr,_,zr,ite2 (λ h3=> ?_) (λ h3=> ?_)⟩
   ·have h3:=of_decide_eq_true h3;rw [z2c] at h3;have J:i < B.length:=by omega
    have O:=z09 J;obtain ⟨pr,er,a6⟩:=(gr _ (z1y J)).1;have a0:atI (B.map (·.1)) (i:Int)=some (.ref pr):=qk (by rw [z1j,O];exact congrArg some er);refine ⟨_,rfl,_,rfl,_,_,_,_,rfl,rfl,SqL.of D,a0,_,rfl,pr,q,(B[i]).2,e.2,by rw [eq];rfl,sg.seqT a6,sg.seqT hq,λ u hu=>((gr _ (z1y J)).2 u hu).ok,λ u hu=>(ge.2 u hu).ok,λ G2 Y=> ?_⟩;refine ⟨_,zr,ite2 (λ h4=> ?_) (λ h4=> ?_)⟩
    ·refine ⟨λ σ' H'=>Same H H'/\σ'=[some (.ref L),some e.1,some (.int most),some (.int ((i+1:Nat):Int))],λ σ' H' hN=> ?_,?_⟩
     ·refine ⟨B.length - (i+1),by omega,hN.1,i+1,hN.2,zr,J,λ r hr=> ?_⟩;rw [z2r,O] at hr;rcases z27.mp hr with hr | hr
      ·exact hw r hr
      ·rw [show r=B[i] by simpa using hr];exact h4
     ·exact ⟨_,zr,_,_,zr,zr,sg.trans Y,zr⟩
    ·have h4:q1y (B[i]).2 e.2=false:=Bool.eq_false_iff.mpr h4;refine ⟨_,rfl,.inl ⟨rfl,_,SqL.of (Y _ _ D)⟩,_,rfl,_,rfl,L,_,e.1,(i:Int),rfl,rfl,Y _ _ D,ls,by omega,by rw [z2c];omega,fin G2 (sg.trans Y) λ r hr=> ?_⟩;rw [O] at hr;injection hr with hr;rw [<- hr];exact h4
   ·have h3:¬ ((i:Int) < ((B.map (·.1)).length:Int)):=λ z=>h3 (z2m z);rw [z2c] at h3;refine ⟨_,rfl,.inl ⟨rfl,_,SqL.of D⟩,_,rfl,_,rfl,L,_,e.1,(i:Int),rfl,rfl,D,ls,by omega,by rw [z2c];omega,fin G sg λ r hr=> ?_⟩;rw [List.getElem?_eq_none (by omega)] at hr;cases hr
structure TbOk (ks:List Key) (most:Int) (rs:List RW):Prop where
 len:(rs.length:Int)<=most
 row:∀ e∈rs,e.2.length<=4/\∀ u∈e.2,u∈ks
 ord:rs.Pairwise λ a b=>q1y a.2 b.2=true
def KeysOk (k:List (Key×V)):Prop:=(∀ kv∈k,∃ z,kv.1= .inr z)/\NdK k
theorem KeysOk.nil:KeysOk []:=⟨(λ _ z=>nomatch z),z2q⟩
theorem qfg {k:List (Key×V)} {t:Key} {v:V} (h:valV k t=none):putK k t v=k++ [(t,v)]:=by
 unfold putK;rw [if_neg];intro c;obtain ⟨B,h1,h2⟩:=z23.mp c;have h2:B.1=t:=of_decide_eq_true h2;unfold valV at h;rw [Option.map_eq_none_iff,List.find?_eq_none] at h;exact h B h1 (by simpa using h2)
theorem qke {k:List (Key×V)} {t:Key} {v x:V} (h:valV k t=some x):(putK k t v).map (·.1)=k.map (·.1):=by
 unfold putK;rw [if_pos]
 ·rw [z3a];refine z10 λ B _=> ?_;show (if B.1=t then (B.1,v) else B).1=B.1;split <;> rfl
 ·exact z23.mpr ⟨_,q86 h,z2m rfl⟩
theorem KeysOk.put {k:List (Key×V)} (h:KeysOk k) (z:Str) (v:V):KeysOk (putK k (.inr z) v):=by
 refine ⟨λ B hk=> ?_,?_⟩
 ·rcases q8k hk with hk | rfl
  ·exact h.1 B hk
  ·exact ⟨_,zr⟩
 ·cases q:valV k (.inr z) with
  | some x=>
   show ((putK k (.inr z) v).map (·.1)).Nodup;rw [qke q];exact h.2
  | none=>
   rw [qfg q];show ((k++ [((Sum.inr z:Key),v)]).map (·.1)).Nodup;rw [z2h];refine z1s.mpr ⟨h.2,by simp,λ a ha b hb e=> ?_⟩;rw [show b= .inr z by simpa using hb] at e;subst e;obtain ⟨B,h1,h2⟩:=z38.mp ha;unfold valV at q;rw [Option.map_eq_none_iff,List.find?_eq_none] at q;exact q B h1 (by simpa using h2)
def TsAt (K:PySem.W.Frag) (H F:Hp) (ks:List Key) (most:Int) (tvs:List (Key×V)):Prop:=∀ k v,valV tvs k=some v ->∃ a rs,v= .ref a/\H a=none/\F a=some (.lst (rs.map (·.1)))/\(∀ e∈rs,RowV K F e)/\TbOk ks most rs
def qmr (K:PySem.W.Frag):Sp:=λ vs H Q _=>∃ (a n v:Addr) (most:Int) (ns:List Int) (n0 n1 n2:Str) (ks:List Key),vs=[.ref a,.ref n,.ref v,.int most]/\SqL K H a (ns.map V.int)/\ns.length<=63/\SqL K H n [.str n0,.str n1,.str n2]/\SqL K H v (ks.map kV)/\1<=ks.length/\ks.length<=4/\(∀ k∈ks,GoodK k)/\0<=most/\most<=14/\
 ∀ (p t:Addr) (size:Int) (tvs:List (Key×V)) (H':Hp),Same H H' ->H' p=some (.tup [.ref t,.int size]) ->H t=none ->H' t=some (.dK tvs) ->0<=size ->size<=4 ->tvs.length<=3 ->TsAt K H H' ks most tvs ->KeysOk tvs ->Q (.ref p) H'
theorem qax (T:Txt K mg):Def P w K mg base 4 "_law_tables" ["_law_script","_law_names_here","_law_values_here","_law_most"] (qmr K):=by
  refine T.qbu.ok q1o (λ vs H Q E h=> ?_) λ f cdv A outer s H vs Q E hr h=> ?_
  · obtain ⟨a,n,v,most,ns,D,O,n2,ks,rfl,_⟩:=h
    rfl
  · obtain ⟨a,n,v,most,ns,D,O,n2,ks,rfl,hS,ln,hN,hV,l1,l4,gk,m0,m14,k⟩:=h
    refine q6x 3 (λ σ G=>∃ (t:Addr) (size:Int) (tvs:List (Key×V)),σ=[some (.ref a),some (.ref n),some (.ref v),some (.int most),some (.int size),some (.ref t),none,none,none,none,none]/\Same H G/\H t=none/\G t=some (.dK tvs)/\0<=size/\size<=4/\tvs.length<=3/\TsAt K H G ks most tvs/\KeysOk tvs/\(valV tvs (.inr D)).isSome=true/\(valV tvs (.inr O)).isSome=true) ⟨_,(q46
      (qo (i:=6) q1o.nd rfl (Or.inl rfl) (qm q6t (q3e (qcn K) (pv 0) (q3l qc) (q3l qc)) (ql (q37 T) hr rfl (pa_2 (ql (q12 T) hr rfl (pa_2 (pv 0) qc)) (qm q1d (ql (q12 T) hr rfl (pa_2 (pv 0) qc)) qc)))))
      (q1t PassesOwn.never rfl (q23 K (pv 6)) (qq (i:=7) q1o.nd rfl (Or.inl rfl)) (qg2
      (qo (i:=8) q1o.nd rfl (Or.inl rfl) (qh (qx K) (ql (q37 T) hr rfl (pa_2 (pv 7) qc)) qc (λ _ _=>rfl)))
      (qo (i:=9) q1o.nd rfl (Or.inl rfl) (pv 4))
      (q1e (q15 q3q (qm q1d (pv 8) qc) qc (q14 _)) (qi (qo (i:=9) q1o.nd rfl (Or.inl rfl) (qm q1d (qm q2f (pv 8) qc) qc))) q11)
      (qo (i:=10) q1o.nd rfl (Or.inl rfl) (qh (qx K) (pv 1) (qh (qx K) (q1a (pa_3 qc qc qc)) (qm q1d (qm q2f (pv 8) qc) qc) (λ _ _=>rfl)) (λ _ _=>rfl)))
      (q1e (PW.pt (q9l (q15 q3q (qm q1d (qm q2f (pv 8) qc) qc) qc (q14 _)) (q8c (qgp (qne (q2w hr) (qh (qx K) (pv 1) qc (λ _ _=>rfl)) (pv 5)))))) (qi (qo (i:=10) q1o.nd rfl (Or.inl rfl) (qh (qx K) (pv 1) qc (λ _ _=>rfl)))) q11)
      (q2n (ql (q8s T) hr rfl (pa_3 (qak (q2w hr) (pv 5) (pv 10) (λ _ _=>rfl)) (ql (qeb T) hr rfl (pa_3 (qm q2f (pv 8) qc) (pv 9) (pv 2))) (pv 3))))))
      (qt (q2j (pa_2 (pv 5) (pv 4))))),?_⟩ (λ u hu hC=>⟨_,(qou
      (qo (i:=4) q1o.nd rfl (Or.inl rfl) (qh (qx K) (q1a (pa_8 qc qc qc qc qc qc qc qc)) (qm q1d (ql (q12 T) hr rfl (pa_2 (pv 0) qc)) qc) (λ _ _=>rfl)))
      (qo (i:=5) q1o.nd rfl (Or.inl rfl) (qlp (qcl (qh (qx K) (pv 1) qc (λ _ _=>rfl)) (q1a q1h) (qcl (qh (qx K) (pv 1) qc (λ _ _=>rfl)) (q1a q1h) qlo)) rfl rfl (λ h=>nomatch h) (by decide)))
      (q1e (q15 q4h (qm q1d (qm q2f (ql (q12 T) hr rfl (pa_2 (pv 0) qc)) qc) qc) qc (q14 _)) (qi (qal (q2w hr) (pv 5) (qh (qx K) (pv 1) qc (λ _ _=>rfl)) (q1a q1h) rfl)) q11)
      hu),?_⟩)
    · rintro σ G ⟨t,size,tvs,rfl,sg,d8,ht,z0,z4,lt,hts,hk,p0,p1⟩
      refine ⟨_,zr,_,zr,_,zr,_,_,zr,sg.seq hS,λ c1 b9=> ?_⟩;have s1:=qd (o:=HO.lst (cutV (ns.map V.int) (some 12) (some 40))) b9;have e1:=qa (H:=G) (a:=c1) (o:=HO.lst (cutV (ns.map V.int) (some 12) (some 40)));obtain ⟨cs,d7,lcs⟩:∃ cs:List Int,cutV (ns.map V.int) (some 12) (some 40)=cs.map V.int/\cs.length<=28:=by
        unfold cutV;refine ⟨(ns.drop _).take _,by rw [List.map_take,List.map_drop],?_⟩;rw [z1u];rw [show (12:Int)=((12:Nat):Int) from rfl,show (40:Int)=((40:Nat):Int) from rfl,HT.sIx_nat,HT.sIx_nat];omega
      rw [d7] at e1 s1 ⊢;generalize upd G c1 (.lst (cs.map V.int))=G1 at*;have S1:=sg.trans s1;have w0:=z2l (ns.getD (Int.toNat 8) 0) (show (9:Int)≠0 by decide);have w1:=z1e (ns.getD (Int.toNat 8) 0) (show (0:Int) < 9 by decide);refine ⟨_,rfl,a,ns,8,rfl,S1.seq hS,by decide,_,rfl,a,ns,8,rfl,S1.seq hS,by decide,_,_,rfl,rfl,(by show (0:Int) < 9;decide),_,_,rfl,w0,by omega,λ c2 ms G2 s2 c0 lms=> ?_⟩;refine ⟨_,_,_,_,rfl,rfl,s2 _ _ e1,c0,by rw [z2c,z2c];exact z34 (show _<=1000 by omega) (by decide),λ cA c4=> ?_⟩;have s3:=qd (o:=HO.lst (cs.map V.int++ms.map V.int)) c4;have e3:=qa (H:=G2) (a:=cA) (o:=HO.lst (cs.map V.int++ms.map V.int));rw [<- z2h] at e3 s3 ⊢;have far:∀ k v,valV tvs k=some v ->v≠ .ref cA:=λ k v e z=>by
        obtain ⟨a1,rs,e1,_,h1,_⟩:=hts k v e;rw [z] at e1;injection e1 with e1;subst e1;rw [(s1.trans s2) _ _ h1] at c4;cases c4
      have a8:=s1.trans (s2.trans s3);have e0:=a8 _ _ ht;have d3:TsAt K H (upd G2 cA (.lst ((cs++ms).map V.int))) ks most tvs:=λ k v e=>by
        obtain ⟨a1,rs,e1,h0,h1,h2,h3⟩:=hts k v e;exact ⟨a1,rs,e1,h0,a8 _ _ h1,λ e he=>(h2 e he).same a8,h3⟩
      have SG:=sg.trans a8;generalize upd G2 cA (.lst ((cs++ms).map V.int))=G3 at*;refine ⟨_,zr,cA,zr,⟨_,SqL.of e3⟩,q5o (xs:=(cs++ms).map V.int) (λ i σ F=>∃ (v7 v8 v9 c8:Option V),σ=[some (.ref a),some (.ref n),some (.ref v),some (.int most),some (.int size),some (.ref t),some (.ref cA),v7,v8,v9,c8]/\Same H F/\F t=some (.dK tvs)/\F cA=some (.lst ((cs++ms).map V.int))/\TsAt K H F ks most tvs) ⟨none,none,none,none,zr,SG,e0,e3,d3⟩ (λ i σ F _ z=> ?_) ?_ ?_⟩
      · obtain ⟨_,_,_,_,_,_,_,z,_⟩:=z
        exact SqL.of z
      · rintro i x0 σ F hx ⟨v7,v8,v9,c8,rfl,sf,b4,c5,b6⟩
        rw [z1j] at hx;obtain ⟨c,hc,rfl⟩:=z0k.mp hx;refine ⟨_,zr,c,2,zr,by decide,by decide,λ xp xs F1 s4 e7 lxs=> ?_⟩;have f7:=sf.trans s4;have d9:=s4 _ _ b4;have b9:=s4 _ _ c5;have f8:TsAt K H F1 ks most tvs:=λ k v e=>by
          obtain ⟨a1,rs,e1,h0,h1,h2,h3⟩:=b6 k v e;exact ⟨a1,rs,e1,h0,s4 _ _ h1,λ e he=>(h2 e he).same s4,h3⟩
        refine ⟨_,_,_,_,zr,zr,SqL.of e7,q8n (k:=1) (by omega),?_⟩;generalize xs.getD 1 0=x;clear b6 b4 c5 sf s4
        apply qgd
        · intro key
          obtain ⟨L,eL,L0,L4⟩:∃ L:Int,L=size/\0<=L/\L<=4:=⟨_,rfl,z0,z4⟩;refine ⟨.int L,by rw [eL];rfl,?_⟩;clear eL;refine ⟨_,rfl,_,_,rfl,rfl,(by show (0:Int) < 7;decide),rfl,_,rfl,ite2 (λ _=> ?_) (λ _=> ?_)⟩
          rotate_left
          · revert L
            exact key
          · refine ⟨_,rfl,_,_,rfl,rfl,⟨by decide,by decide⟩,_,_,rfl,rfl,(by show (0:Int) < 3;decide),key (x / 7%3) (z2l _ (by decide)) ?_⟩
            have:=z1e (x / 7) (show (0:Int) < 3 by decide);omega
        · intro L L0 L4
          refine ⟨_,rfl,by show 3<=sizeLine;decide,λ q hq=> ?_⟩;have s5:=qd (o:=HO.lst [V.int 0,V.int 1,V.int 0]) hq;have e5:=qa (H:=F1) (a:=q) (o:=HO.lst [V.int 0,V.int 1,V.int 0]);generalize upd F1 q (.lst [V.int 0,V.int 1,V.int 0])=F2 at*;have a6:=f7.trans s5;have a0:=s5 _ _ d9;have c0:=s5 _ _ b9;have d6:TsAt K H F2 ks most tvs:=λ k v e=>by
            obtain ⟨a1,rs,e1,h0,h1,h2,h3⟩:=f8 k v e;exact ⟨a1,rs,e1,h0,s5 _ _ h1,λ e he=>(h2 e he).same s5,h3⟩
          apply qgd
          · intro key
            obtain ⟨j,nm,hj,d1,pn⟩:∃ (j:Int) (nm:Str),atI [V.int 0,V.int 1,V.int 0] (x / 21%3)=some (V.int j)/\atI [V.str D,.str O,.str n2] j=some (.str nm)/\(valV tvs (.inr nm)).isSome=true:=by
              have w0:=z2l (x / 21) (show (3:Int)≠0 by decide);have w1:=z1e (x / 21) (show (0:Int) < 3 by decide);generalize x / 21%3=c at*;have:c=0\/ c=1\/ c=2:=by omega
              rcases this with rfl | rfl | rfl
              · exact ⟨0,D,zr,zr,p0⟩
              · exact ⟨1,O,zr,zr,p1⟩
              · exact ⟨0,D,zr,zr,p0⟩
            refine ⟨_,rfl,_,_,rfl,rfl,⟨by decide,by decide⟩,_,_,rfl,rfl,(by show (0:Int) < 3;decide),_,_,_,_,rfl,rfl,SqL.of e5,hj,_,_,_,_,rfl,rfl,a6.seq hN,d1,?_⟩;clear d1;refine ⟨_,rfl,_,_,rfl,rfl,⟨by decide,by decide⟩,_,_,rfl,rfl,(by show (0:Int) < 9;decide),rfl,_,rfl,ite2 (λ _=> ?_) (λ _=> ?_)⟩
            rotate_left
            · revert nm
              exact key
            · refine ⟨_,zr,_,_,_,_,zr,zr,a6.seq hN,qk (j:=2) rfl,_,zr,t,_,zr,DGet.k (k:= .inr n2) a0,_,zr,ite2 (λ h=> ?_) (λ _=> ?_)⟩
              · exact ⟨_,zr,_,_,_,_,zr,zr,a6.seq hN,qk (j:=2) rfl,key n2 h⟩
              · revert nm
                exact key
          · intro nm pn
            obtain ⟨vv,c6⟩:=Option.isSome_iff_exists.mp pn;obtain ⟨La,rs,rfl,c9,U,rows,a7⟩:=d6 _ _ c6;refine ⟨_,rfl,_,rfl,t,_,rfl,(by rw [<- c6];exact DGet.k (k:= .inr nm) a0),?_⟩;refine ⟨_,zr,_,_,zr,zr,⟨by decide,by decide⟩,_,zr,_,zr,x / 567,L,v,ks,zr,L0,L4,a6.seq hV,l1,l4,λ rp us F3 Z d2 lu gu=> ?_⟩;have tl:=a7.len;refine ⟨_,zr,La,most,rs,(.ref rp,us),zr,Z _ _ U,λ r hr=>⟨(rows r hr).same Z,λ u hu=>gk u ((a7.row r hr).2 u hu)⟩,⟨⟨rp,zr,SqT.of d2⟩,λ u hu=>gk u (gu u hu)⟩,by omega,λ F4 kp h4=> ?_⟩;have c7:q32 F3 La:=⟨_,Z _ _ U,.inr ⟨_,rfl⟩⟩;refine ⟨_,_,_,_,zr,Same.keep (a6.trans Z) c9 kp,kp _ _ (λ z=> ?_) (Z _ _ a0),kp _ _ (λ z=>far _ _ c6 (by rw [z])) (Z _ _ c0),λ k v e=> ?_⟩
            · rw [z,U] at a0
              cases a0
            · obtain ⟨a1,f6,e1,h0,h1,h2,h3⟩:=d6 k v e
              by_cases z:a1=La
              · subst z
                rw [h1] at U;injection U with U;injection U with U;refine ⟨a1,_,e1,h0,h4,λ r hr=> ?_,qkc a7.len,λ r hr=> ?_,qkd a7.ord⟩
                · rcases qdg hr with hr | rfl
                  · exact RowV.keep kp c7 ((rows r hr).same Z)
                  · exact RowV.keep kp c7 ⟨rp,zr,SqT.of d2⟩
                · rcases qdg hr with hr | rfl
                  · exact a7.row r hr
                  · exact ⟨by show us.length<=4;omega,gu⟩
              · exact ⟨a1,f6,e1,h0,kp _ _ z (Z _ _ h1),λ r hr=>RowV.keep kp c7 ((h2 r hr).same Z),h3⟩
      · rintro σ F ⟨v7,v8,v9,c8,rfl,sf,b4,c5,b6⟩
        refine ⟨_,rfl,_,rfl,by show 2<=sizeLine;decide,λ p hp=> ?_⟩;have s9:=qd (o:=HO.tup [.ref t,.int size]) hp;refine k p t size tvs _ (sf.trans s9) qa d8 (s9 _ _ b4) z0 z4 lt (λ k v e=> ?_) hk;obtain ⟨a1,rs,e1,h0,h1,h2,h3⟩:=b6 k v e;exact ⟨a1,rs,e1,h0,s9 _ _ h1,λ e he=>(h2 e he).same s9,h3⟩
    · obtain ⟨size,hz,z0,z4⟩:∃ n:Int,atI [V.int 2,V.int 1,V.int 2,V.int 3,V.int 0,V.int 4,V.int 2,V.int 1] (ns.getD (Int.toNat 7) 0%8)=some (V.int n)/\0<=n/\n<=4:=by
        have w0:=z2l (ns.getD (Int.toNat 7) 0) (show (8:Int)≠0 by decide);have w1:=z1e (ns.getD (Int.toNat 7) 0) (show (0:Int) < 8 by decide);generalize ns.getD (Int.toNat 7) 0%8=c at*;have:c=0\/ c=1\/ c=2\/ c=3\/ c=4\/ c=5\/ c=6\/ c=7:=by omega
        rcases this with rfl | rfl | rfl | rfl | rfl | rfl | rfl | rfl
        · exact ⟨2,zr,by decide,by decide⟩
        · exact ⟨1,zr,by decide,by decide⟩
        · exact ⟨2,zr,by decide,by decide⟩
        · exact ⟨3,zr,by decide,by decide⟩
        · exact ⟨0,zr,by decide,by decide⟩
        · exact ⟨4,zr,by decide,by decide⟩
        · exact ⟨2,zr,by decide,by decide⟩
        · exact ⟨1,zr,by decide,by decide⟩
      refine ⟨by show 8<=sizeLine;decide,λ q hq=> ?_⟩;have s1:=qd (o:=HO.lst [V.int 2,V.int 1,V.int 2,V.int 3,V.int 0,V.int 4,V.int 2,V.int 1]) hq;have e1:=qa (H:=H) (a:=q) (o:=HO.lst [V.int 2,V.int 1,V.int 2,V.int 3,V.int 0,V.int 4,V.int 2,V.int 1]);generalize upd H q (.lst [V.int 2,V.int 1,V.int 2,V.int 3,V.int 0,V.int 4,V.int 2,V.int 1])=H1 at*;refine ⟨_,rfl,a,ns,7,rfl,s1.seq hS,by decide,_,_,rfl,rfl,(by show (0:Int) < 8;decide),_,_,_,_,rfl,rfl,SqL.of e1,hz,?_⟩;refine λ t ht=> ?_;have s2:=qd (o:=HO.dK []) ht;have e2:=qa (H:=H1) (a:=t) (o:=HO.dK []);generalize upd H1 t (.dK [])=H2 at*;have S2:=s1.trans s2;refine ⟨_,zr,_,_,_,_,zr,zr,S2.seq hN,qk (j:=0) rfl,by decide,λ J a9=> ?_⟩;have s3:=qd (o:=HO.lst []) a9;have e3:=qa (H:=H2) (a:=J) (o:=HO.lst []);generalize upd H2 J (.lst [])=H3 at*;have S3:=S2.trans s3;refine ⟨_,zr,_,_,_,_,zr,zr,S3.seq hN,qk (j:=1) rfl,by decide,λ B b0=> ?_⟩;have s4:=qd (o:=HO.lst []) b0;have e4:=qa (H:=H3) (a:=B) (o:=HO.lst []);generalize upd H3 B (.lst [])=H4 at*;have S4:=S3.trans s4;have t4:=(s3.trans s4) _ _ e2;refine ⟨t4,[(.inr D,.ref J),(.inr O,.ref B)],rfl,by show 2<=15;decide,?_⟩;have b7:H J=none:=S2.free a9;have b8:H B=none:=S3.free b0;have b5:H t=none:=s1.free ht;have e8:J≠t:=λ z=>by rw [z,e2] at a9;cases a9
      have e9:B≠t:=λ z=>by rw [z,s3 _ _ e2] at b0;cases b0
      have S5:Same H (upd H4 t (.dK (q17 [] [(.inr D,.ref J),(.inr O,.ref B)]))):=S4.set b5;have e5:=qa (H:=H4) (a:=t) (o:=HO.dK (q17 [] [(.inr D,.ref J),(.inr O,.ref B)]));have f0:upd H4 t (.dK (q17 [] [(.inr D,.ref J),(.inr O,.ref B)])) J=some (.lst []):=by rw [qg e8];exact s4 _ _ e3
      have f1:upd H4 t (.dK (q17 [] [(.inr D,.ref J),(.inr O,.ref B)])) B=some (.lst []):=by rw [qg e9];exact e4
      generalize upd H4 t (.dK (q17 [] [(.inr D,.ref J),(.inr O,.ref B)]))=H5 at*;have vv:∀ k,valV (q17 [] [(.inr D,.ref J),(.inr O,.ref B)]) k=if k= .inr O then some (.ref B) else if k= .inr D then some (.ref J) else none:=λ k=>by
        show valV (putK (putK [] (.inr D) (.ref J)) (.inr O) (.ref B)) k=_;rw [q2y,q2y];rfl
      have ln2:(q17 [] [((.inr D:Key),V.ref J),(.inr O,.ref B)]).length<=2:=q3i _ _;have d0:KeysOk (q17 [] [((.inr D:Key),V.ref J),(.inr O,.ref B)]):=(KeysOk.nil.put D (.ref J)).put O (.ref B);generalize q17 [] [((.inr D:Key),V.ref J),(.inr O,.ref B)]=Y at*;have em:TbOk ks most []:=⟨m0,(λ _ z=>nomatch z),.nil⟩;have d5:TsAt K H H5 ks most Y:=λ k v e=>by
        rw [vv] at e;split at e
        · cases e
          exact ⟨_,[],rfl,b8,f1,(λ _ z=>nomatch z),em⟩
        · split at e
          · cases e
            exact ⟨_,[],rfl,b7,f0,(λ _ z=>nomatch z),em⟩
          · cases e
      have p1:(valV Y (.inr O)).isSome=true:=by rw [vv,if_pos rfl];rfl
      have p0:(valV Y (.inr D)).isSome=true:=by
        rw [vv];split
        · rfl
        · rw [if_pos rfl];rfl
      refine ⟨_,rfl,a,ns,7,rfl,S5.seq hS,by decide,_,_,rfl,rfl,⟨by decide,by decide⟩,_,_,rfl,rfl,(by show (0:Int) < 3;decide),rfl,_,rfl,ite2 (λ _=> ?_) (λ _=>hC _ _ ⟨t,size,Y,rfl,S5,b5,e5,z0,z4,by omega,d5,d0,p0,p1⟩)⟩;refine ⟨by decide,λ l2 b3=> ?_⟩;have Z:=qd (o:=HO.lst []) b3;have e6:=qa (H:=H5) (a:=l2) (o:=HO.lst []);generalize upd H5 l2 (.lst [])=H6 at*;have S6:=S5.trans Z;have t6:=Z _ _ e5;have f2:l2≠t:=λ z=>by rw [z,e5] at b3;cases b3
      refine ⟨_,rfl,_,rfl,_,_,_,_,rfl,rfl,S6.seq hN,qk (j:=2) rfl,t,_,rfl,DPut.k (k:= .inr n2) t6 (q1r (by omega)),hC _ _ ⟨t,size,putK Y (.inr n2) (.ref l2),rfl,S6.set b5,b5,qa,z0,z4,by have:=q2a Y (.inr n2) (V.ref l2);omega,λ k v e=> ?_,d0.put _ _,?_,?_⟩⟩
      · rw [q2y] at e
        split at e
        · cases e
          exact ⟨l2,[],rfl,S5.free b3,by rw [qg f2];exact e6,(λ _ z=>nomatch z),em⟩
        · obtain ⟨a1,rs,e1,h0,h1,h2,h3⟩:=d5 k v e
          have ne:a1≠t:=λ z=>by rw [z,e5] at h1;cases h1
          have d4:Keep t H6 (upd H6 t (.dK (putK Y (.inr n2) (.ref l2)))):=λ a o n h=>by rw [qg n];exact h
          rw [vv] at e;split at e
          · cases e
            injection e1 with e1;subst e1;exact ⟨_,[],rfl,b8,d4 _ _ ne (Z _ _ f1),(λ _ z=>nomatch z),em⟩
          · split at e
            · cases e
              injection e1 with e1;subst e1;exact ⟨_,[],rfl,b7,d4 _ _ ne (Z _ _ f0),(λ _ z=>nomatch z),em⟩
            · cases e
      · rw [q2y]
        split
        · rfl
        · exact p0
      · rw [q2y]
        split
        · rfl
        · exact p1
def qms (K:PySem.W.Frag):Sp:=λ vs H Q _=>∃ (c:Int) (a b:Addr) (ms ks:List Key),vs=[.int c,.ref a,.ref b]/\SqL K H a (ms.map kV)/\SqL K H b (ks.map kV)/\1<=ks.length/\(∀ t∈ms,TxOk t)/\
 ∀ (t:Key) (H':Hp),Same H H' ->(t∈ms\/ t∈ks) ->Q (kV t) H'
theorem q4l (T:Txt K mg):Def P w K mg base 1 "_law_term" ["_law_x","_law_marks","_law_values_here"] (qms K):=by
  refine T.qee.ok qd0 (λ vs H Q E h=> ?_) λ f cdv A outer s H vs Q E hr h=> ?_
  · obtain ⟨c,a,b,ms,ks,rfl,_⟩:=h
    rfl
  · obtain ⟨c,a,b,ms,ks,rfl,J,D,l1,om,k⟩:=h
    refine ⟨_,(q3r
      (q1e (PW.pt (q9l (q15 q75 (qm q1d (pv 0) qc) qc (q14 _)) (q8c (q15 (qnq hr.units K) (pv 1) (q1a q1h) (q14 _))))) (qi (qt (qh (qx K) (pv 1) (qm q1d (qm q2f (pv 0) qc) (qu (q1b K) rfl T.b_len q1w (pa_1 (pv 1)))) (λ _ _=>rfl)))) q11)
      (qt (qh (qx K) (pv 2) (qm q1d (qm q2f (pv 0) qc) (qu (q1b K) rfl T.b_len q1w (pa_1 (pv 2)))) (λ _ _=>rfl)))),?_⟩
    obtain ⟨y,hy,my⟩:=q5t (xs:=ks.map kV) (i:=c / 8%(ks.length:Int)) (z2l _ (by omega)) (by rw [z2c];exact z1e _ (by omega));obtain ⟨U,B,rfl⟩:=z38.mp my;refine ⟨_,rfl,_,_,rfl,rfl,(by show (0:Int) < 8;decide),_,_,rfl,rfl,_,rfl,ite2 (λ h1=> ?_) (λ h1=> ?_)⟩
    · refine ⟨_,zr,by decide,λ q hq=> ?_⟩
      have s1:=qd (o:=HO.lst []) hq;refine ⟨.list (ms.map keyD),.list [],.lst (s1.seq J) (q36 om),.lst (SqL.of qa) .nil,?_,_,zr,ite2 (λ h2=> ?_) (λ h2=> ?_)⟩
      · have:=q4b ms
        show PyData.depthAll (ms.map keyD)+1<=60;omega
      · have nm:0 < ms.length:=by
          cases ms with
          | nil=>exact absurd h2 z15
          | cons a r=>exact Nat.succ_pos _
        obtain ⟨x,hx,mx⟩:=q5t (xs:=ms.map kV) (i:=c / 8%(ms.length:Int)) (z2l _ (by omega)) (by rw [z2c];exact z1e _ (by omega));obtain ⟨kx,O,rfl⟩:=z38.mp mx;refine ⟨_,zr,_,zr,_,_,zr,zr,⟨by decide,by decide⟩,_,zr,_,_,zr,.inl ⟨_,s1.seq J,zr⟩,?_⟩;rw [z2c];exact ⟨_,_,rfl,rfl,(by show (0:Int) < ms.length;omega),_,_,_,_,rfl,rfl,s1.seq J,hx,k kx _ s1 (.inl O)⟩
      · refine ⟨_,zr,_,zr,_,_,zr,zr,⟨by decide,by decide⟩,_,zr,_,_,zr,.inl ⟨_,s1.seq D,zr⟩,?_⟩
        rw [z2c];exact ⟨_,_,rfl,rfl,(by show (0:Int) < ks.length;omega),_,_,_,_,rfl,rfl,s1.seq D,hy,k U _ s1 (.inr B)⟩
    · refine ⟨_,zr,_,zr,_,_,zr,zr,⟨by decide,by decide⟩,_,zr,_,_,zr,.inl ⟨_,D,zr⟩,?_⟩
      rw [z2c];exact ⟨_,_,rfl,rfl,(by show (0:Int) < ks.length;omega),_,_,_,_,rfl,rfl,D,hy,k U _ (Same.refl H) (.inr B)⟩
theorem AGood.set {H:Hp} {e:V×AT} {A:Addr} {xs:List V} {o:HO} (h:AGood H e) (B:H A=some (.lst xs)):AGood (upd H A o) e:=by
 obtain ⟨⟨p,q,e1,h1,h2⟩,h3,h4⟩:=h;refine ⟨⟨p,q,e1,?_,?_⟩,h3,h4⟩
 ·rw [qg (λ z=>by rw [z,B] at h1;cases h1)];exact h1
 ·rw [qg (λ z=>by rw [z,B] at h2;cases h2)];exact h2
theorem CGood.set {H:Hp} {e:V×CT} {A:Addr} {xs:List V} {o:HO} (h:CGood H e) (hA:H A=some (.lst xs)):CGood (upd H A o) e:=by
 obtain ⟨⟨p,e1,h1⟩,h3,h4⟩:=h;refine ⟨⟨p,e1,?_⟩,h3,h4⟩;rw [qg (λ z=>by rw [z,hA] at h1;cases h1)];exact h1
def AtK (ms ks:List Key) (a:AT):Prop:=a.2.length<=4/\(∀ t∈a.2,t∈ms\/ t∈ks)/\PyData.strOk a.1=true
def PV (ms ks:List Key) (as:List (V×AT)) (t:Key):Prop:=t∈ks\/ (t∈ms/\∃ e∈as,t∈e.2.2)
def SgOk (z:Str):Prop:=z=sgE\/ z=sgN\/ z=sgL
theorem qc5 {α:Type} {xs:List α} {P:α ->Prop} (h:∀ x∈xs,P x) {i:Int} (h0:0<=i) (h1:i < xs.length):∃ x,atI xs i=some x/\P x:=by
 obtain ⟨e,h2,h3⟩:=q5t h0 h1;exact ⟨e,h2,h e h3⟩
def qkf (K:PySem.W.Frag):Sp:=λ vs H Q _=>∃ (a n m v:Addr) (size:Int) (ns:List Int) (n0 n1 n2:Str) (ms ks:List Key),vs=[.ref a,.ref n,.ref m,.ref v,.int size]/\SqL K H a (ns.map V.int)/\SqL K H n [.str n0,.str n1,.str n2]/\(∀ z∈ [n0,n1,n2],PyData.strOk z=true)/\SqL K H m (ms.map kV)/\SqL K H v (ks.map kV)/\0<=size/\size<=4/\1<=ks.length/\(∀ t∈ms,TxOk t)/\(∀ t∈ks,TxOk t)/\
 ∀ (r hp ht:Addr) (hn:Str) (ts:List Key) (as:List (V×AT)) (cs:List (V×CT)) (H':Hp),Same H H' ->RuleAt K H' r (.ref hp) as cs ->H' hp=some (.tup [.str hn,.ref ht]) ->H' ht=some (.tup (ts.map kV)) ->ts.length<=4 ->as.length<=3 ->cs.length<=3 ->(∀ e∈as,AtK ms ks e.2) ->(∀ t∈ts,PV ms ks as t) ->(∀ e∈cs,PV ms ks as e.2.2.1/\PV ms ks as e.2.2.2/\SgOk e.2.1) ->Q (.ref r) H'
theorem qdi (T:Txt K mg):Def P w K mg base 2 "_law_rule" ["_law_script","_law_names_here","_law_marks","_law_values_here","_law_size"] (qkf K):=by
 refine T.qek.ok q1i (λ vs H Q E h=> ?_) λ f cdv A outer s H vs Q E hr h=> ?_
 ·obtain ⟨a,n,m,v,size,ns,n0,n1,n2,ms,ks,rfl,_⟩:=h;rfl
 ·obtain ⟨a,n,m,v,size,ns,n0,n1,n2,ms,ks,rfl,hS,hN,oN,hM,hV,z0,z4,l1,om,ok,k⟩:=h;have c5:∀ t,t∈ms\/ t∈ks ->TxOk t:=λ t h=>h.elim (om t) (ok t);have dd:=z34 (q4b ms) (show 0<=60 by decide);have name:∀ i:Int,0<=i ->i < 3 ->∃ z:Str,atI [V.str n0,.str n1,.str n2] i=some (.str z)/\PyData.strOk z=true:=λ i h0 h1=>by
   have:i=0\/ i=1\/ i=2:=by omega
   rcases this with rfl | rfl | rfl
   ·exact ⟨n0,zr,oN _ (by simp)⟩
   ·exact ⟨n1,zr,oN _ (by simp)⟩
   ·exact ⟨n2,zr,oN _ (by simp)⟩
  refine q6x 4 (λ σ G=>∃ (xA U th:Addr) (as:List (V×AT)) (zs:List Key) (v8 v9 a0:Option V),σ=[some (.ref a),some (.ref n),some (.ref m),some (.ref v),some (.int size),some (.ref xA),some (.ref U),some (.ref th),v8,v9,a0,none,none,none,none]/\Same H G/\G U=some (.lst (as.map (·.1)))/\as.length<=3/\(∀ e∈as,AGood G e/\AtK ms ks e.2)/\G th=some (.lst (zs.map kV))/\zs.length<=12/\∀ t∈zs,t∈ms/\∃ e∈as,t∈e.2.2) ⟨_,(qc4
   (qo (i:=11) q1i.nd rfl (Or.inr rfl) (ql (q37 T) hr rfl (pa_2 (ql (q12 T) hr rfl (pa_2 (pv 0) qc)) qc)))
   (qo (i:=12) q1i.nd rfl (Or.inl rfl) (q2j (pa_2 (qh (qx K) (pv 1) (qm q1d (qh (qx K) (pv 11) qc (λ _ _=>rfl)) qc) (λ _ _=>rfl)) (q1u (q2b K) rfl T.q2t q2h (pa_1 (q25 (N:=["_law_j","_law_there","_law_values_here","_law_ys"]) (caps:=[none,some 7,some 3,some 11]) rfl (by with_unfolding_all rfl) (q2d rfl T.q38 (pa_1 (qm q1d (qh (qx K) (pv 11) qc (λ _ _=>rfl)) qc))) (λ _ _ _ _ _=>(qq (i:=0) (show (["_law_j","_law_there","_law_values_here","_law_ys"]:List Str).Nodup by decide+kernel) rfl (Or.inl rfl))) (λ _ _ _ _ _=>q3u) (λ _ _ _ _ _=>(ql (q4l T) hr rfl (pa_3 (qh (qx K) (pv 3) (qm q1v qc (pv 0)) (λ _ _=>rfl)) (pv 1) (pv 2))))))))))
   (qo (i:=13) q1i.nd rfl (Or.inl rfl) (q1a q1h))
   (q1t PassesOwn.never rfl (q2d rfl T.q38 (pa_1 (qh (qx K) (q1a (pa_8 qc qc qc qc qc qc qc qc)) (qm q1d (qh (qx K) (pv 11) qc (λ _ _=>rfl)) qc) (λ _ _=>rfl)))) (qq (i:=8) q1i.nd rfl (Or.inr rfl)) (q3r
   (qo (i:=14) q1i.nd rfl (Or.inl rfl) (qh (qx K) (q1a (pa_4 q2i q2i q2i q2i)) (qm q1d (qh (qx K) (pv 11) (qm q1v qc (pv 8)) (λ _ _=>rfl)) qc) (λ _ _=>rfl)))
   (q2n (q45 z0g z0c z0d q3a (pv 13) (pa_1 (q2j (pa_3 (pv 14) (ql (q4l T) hr rfl (pa_3 (qh (qx K) (pv 11) (qm q1v qc (pv 8)) (λ _ _=>rfl)) (pv 7) (pv 3))) (ql (q4l T) hr rfl (pa_3 (qh (qx K) (pv 11) (qm q1v qc (pv 8)) (λ _ _=>rfl)) (pv 7) (pv 3))))))))))
   (qt (q2j (pa_3 (pv 12) (q1u (q2b K) rfl T.q2t q2h (pa_1 (pv 6))) (q1u (q2b K) rfl T.q2t q2h (pa_1 (pv 13))))))),?_⟩ (λ u hu hC=>⟨_,(qov
   (qo (i:=5) q1i.nd rfl (Or.inr rfl) (ql (q37 T) hr rfl (pa_2 (ql (q12 T) hr rfl (pa_2 (pv 0) qc)) qc)))
   (qo (i:=6) q1i.nd rfl (Or.inl rfl) (q1a q1h))
   (qo (i:=7) q1i.nd rfl (Or.inr rfl) (q1a q1h))
   (q1t PassesOwn.never rfl (q2d rfl T.q38 (pa_1 (qh (qx K) (q1a (pa_8 qc qc qc qc qc qc qc qc)) (qm q1d (qh (qx K) (pv 5) qc (λ _ _=>rfl)) qc) (λ _ _=>rfl)))) (qq (i:=8) q1i.nd rfl (Or.inr rfl)) (qc4
   (qo (i:=9) q1i.nd rfl (Or.inl rfl) (pv 4))
   (q1e (q15 q3q (qm q1d (qh (qx K) (pv 5) (qm q1v qc (pv 8)) (λ _ _=>rfl)) qc) qc (q14 _)) (qi (qo (i:=9) q1i.nd rfl (Or.inl rfl) (qm q1d (qm q2f (qh (qx K) (pv 5) (qm q1v qc (pv 8)) (λ _ _=>rfl)) qc) qc))) q11)
   (qfz (i:=10) q1i.nd rfl rfl (N:=["_law_j","_law_marks","_law_values_here","_law_xs","_law_k"]) (caps:=[none,some 2,some 3,some 5,some 8]) rfl (by with_unfolding_all rfl) (q2d rfl T.q38 (pa_1 (pv 9))) (λ _ _ _ _ _=>(qq (i:=0) (show (["_law_j","_law_marks","_law_values_here","_law_xs","_law_k"]:List Str).Nodup by decide+kernel) rfl (Or.inl rfl))) (λ _ _ _ _ _=>q3u) (λ _ _ _ _ _=>(ql (q4l T) hr rfl (pa_3 (qh (qx K) (pv 3) (qm q1v (qm q1v qc (qm q4z qc (pv 4))) (pv 0)) (λ _ _=>rfl)) (pv 1) (pv 2)))))
   (q2n (q45 z0g z0c z0d q3a (pv 6) (pa_1 (q2j (pa_2 (qh (qx K) (pv 1) (qh (qx K) (q1a (pa_7 qc qc qc qc qc qc qc)) (qm q1d (qm q2f (qh (qx K) (pv 5) (qm q1v qc (pv 8)) (λ _ _=>rfl)) qc) qc) (λ _ _=>rfl)) (λ _ _=>rfl)) (q1u (q2b K) rfl T.q2t q2h (pa_1 (pv 10))))))))
   (qo (i:=7) q1i.nd rfl (Or.inr rfl) (qm q6t (pv 7) (q25 (N:=["_law_term_here","_law_marks"]) (caps:=[none,some 2]) rfl (by with_unfolding_all rfl) (q23 K (pv 10)) (λ _ _ _ _ _=>(qq (i:=0) (show (["_law_term_here","_law_marks"]:List Str).Nodup by decide+kernel) rfl (Or.inl rfl))) (λ _ _ _ _ _=>q6v (q15 (q70 hr.units K) (pv 0) (pv 1) (by with_unfolding_all rfl))) (λ _ _ _ _ _=>(pv 0)))))))
   hu),?_⟩)
  ·rintro σ G ⟨xA,U,th,as,zs,v8,v9,a0,rfl,sg,hb,la,ga,a8,lz,gz⟩;have b4:∀ t∈zs,TxOk t:=λ t ht=>om t (gz t ht).1;have pv:∀ t,t∈zs\/ t∈ks ->PV ms ks as t:=λ t h=>h.elim (λ h=> .inr (gz t h)) .inl;refine ⟨_,zr,a,ns,10,zr,sg.seq hS,by decide,_,16,zr,by decide,by decide,λ yA ys G1 s1 hy ly=> ?_⟩;have ly:ys.length=16:=ly;have a9:∀ j:Nat,j < 16 ->atI (ys.map V.int) (j:Int)=some (V.int (ys.getD j 0)):=λ j hj=>q8n (by omega);obtain ⟨hn,g3,_⟩:=name (ys.getD 0 0%3) (z2l _ (by decide)) (z1e _ (by decide));have S1:=sg.trans s1;have w0:=z2l (ys.getD 1 0) (show (5:Int)≠0 by decide);have w1:=z1e (ys.getD 1 0) (show (0:Int) < 5 by decide);refine ⟨_,rfl,_,rfl,_,_,_,_,rfl,rfl,SqL.of hy,a9 0 (by decide),_,_,rfl,rfl,(by show (0:Int) < 3;decide),_,_,_,_,rfl,rfl,S1.seq hN,g3,?_⟩;refine ⟨_,rfl,_,_,_,_,rfl,rfl,SqL.of hy,a9 1 (by decide),_,_,rfl,rfl,(by show (0:Int) < 5;decide),_,rfl,by omega,by omega,λ D hD=> ?_⟩;refine q20 (ys.getD 1 0%5).toNat (λ j σ' E'=>(∃ v',σ'=[v',some (.ref th),some (.ref v),some (.ref yA)])/\Same G1 E'/\∃ ts:List Key,E' D=some (.lst (ts.map kV))/\ts.length=j/\∀ t∈ts,PV ms ks as t) ⟨⟨_,rfl⟩,qd hD,[],qa,rfl,λ _ z=>nomatch z⟩ (λ i σ' H' hi p=>hi) (λ σ' E' p=>⟨z3b _,?_⟩) (λ j σ' E' hj p x E3 y=> ?_)
   ·obtain ⟨_,sm,ts,hts,a6,Y⟩:=p;have b9:ts.length<=4:=by omega
    refine ⟨_,_,zr,.inl ⟨SqL.of hts,λ hd h6=> ?_⟩⟩;have s2:=qd (o:=HO.tup (ts.map kV)) h6;refine ⟨by show 2<=sizeLine;decide,λ hp h7=> ?_⟩;have s3:=qd (o:=HO.tup [V.str hn,.ref hd]) h7;have eh:=s3 _ _ (qa (H:=E') (a:=hd) (o:=HO.tup (ts.map kV)));have g4:=qa (H:=upd E' hd (.tup (ts.map kV))) (a:=hp) (o:=HO.tup [V.str hn,.ref hd]);have SE:=sm.trans (s2.trans s3);generalize upd (upd E' hd (.tup (ts.map kV))) hp (.tup [V.str hn,.ref hd])=E2 at*;refine ⟨by decide,λ cA d9=> ?_⟩;have s4:=qd (o:=HO.lst []) d9;obtain ⟨q,hq,q0,q3⟩:∃ q:Int,atI [V.int 0,V.int 0,V.int 1,V.int 0,V.int 2,V.int 1,V.int 0,V.int 3] (ys.getD 6 0%8)=some (V.int q)/\0<=q/\q<=3:=by
     obtain ⟨x,h1,h2⟩:=qc5 (xs:=[V.int 0,V.int 0,V.int 1,V.int 0,V.int 2,V.int 1,V.int 0,V.int 3]) (P:=λ x=>∃ q:Int,x= .int q/\0<=q/\q<=3) (λ x O=>by
      simp only [z2v,z24,or_false] at O;rcases O with rfl | rfl | rfl | rfl | rfl | rfl | rfl | rfl <;> exact ⟨_,rfl,by decide,by decide⟩) (z2l (ys.getD 6 0) (show (8:Int)≠0 by decide)) (z1e _ (by decide))
     obtain ⟨q,rfl,h3⟩:=h2;exact ⟨q,h1,h3⟩
    refine ⟨by show 8<=sizeLine;decide,λ u hu=> ?_⟩;have s5:=qd (o:=HO.lst [V.int 0,V.int 0,V.int 1,V.int 0,V.int 2,V.int 1,V.int 0,V.int 3]) hu;have b6:=s5 _ _ (qa (H:=E2) (a:=cA) (o:=HO.lst []));have f7:=s4.trans s5;refine ⟨_,rfl,_,_,_,_,rfl,rfl,SqL.of ((SE.trans f7) _ _ hy),a9 6 (by decide),_,_,rfl,rfl,(by show (0:Int) < 8;decide),_,_,_,_,rfl,rfl,SqL.of qa,hq,_,rfl,by omega,by omega,?_⟩;generalize upd (upd E2 cA (.lst [])) u (.lst [V.int 0,V.int 0,V.int 1,V.int 0,V.int 2,V.int 1,V.int 0,V.int 3])=E4 at*;refine q39 (lo:=0) (n:=q.toNat) (λ i σ J=>∃ (v8 d0:Option V) (cs:List (V×CT)),σ=[some (.ref a),some (.ref n),some (.ref m),some (.ref v),some (.int size),some (.ref xA),some (.ref U),some (.ref th),v8,v9,a0,some (.ref yA),some (.ref hp),some (.ref cA),d0]/\Same E2 J/\J cA=some (.lst (cs.map (·.1)))/\cs.length=i/\∀ e∈cs,CGood J e/\PV ms ks as e.2.2.1/\PV ms ks as e.2.2.2/\SgOk e.2.1) ⟨v8,none,[],rfl,f7,b6,rfl,λ _ z=>nomatch z⟩ ?_ ?_
    ·rintro i σ J hi ⟨v8,d0,cs,rfl,sj,hc,lc,gc⟩;have i3:i < 3:=by omega
     have a7:=SE.trans sj;have SJ:=S1.trans a7;have f0:=a7 _ _ hy;have e7:=(s1.trans a7) _ _ a8;have b0:∀ b:Nat,b+i < 16 ->atI (ys.map V.int) ((b:Int)+(0+(i:Int)))=some (V.int (ys.getD (b+i) 0)):=λ b hb=>by
      rw [show (b:Int)+(0+(i:Int))=((b+i:Nat):Int) by omega];exact a9 _ hb
     obtain ⟨z,hz,ez⟩:∃ z:Str,atI [V.str "=",V.str "!=",V.str "<",V.str "<"] (ys.getD (7+i) 0%4)=some (.str z)/\SgOk z:=by
      obtain ⟨x,h1,h2⟩:=qc5 (xs:=[V.str "=",V.str "!=",V.str "<",V.str "<"]) (P:=λ x=>∃ z:Str,x= .str z/\SgOk z) (λ x O=>by
       simp only [z2v,z24,or_false] at O;rcases O with rfl | rfl | rfl | rfl
       ·exact ⟨_,zr,.inl rfl⟩
       ·exact ⟨_,zr,.inr (.inl rfl)⟩
       ·exact ⟨_,zr,.inr (.inr rfl)⟩
       ·exact ⟨_,zr,.inr (.inr rfl)⟩) (z2l (ys.getD (7+i) 0) (show (4:Int)≠0 by decide)) (z1e _ (by decide))
      obtain ⟨q,rfl,h3⟩:=h2;exact ⟨q,h1,h3⟩
     refine ⟨by show 4<=sizeLine;decide,λ q hq=> ?_⟩;have s5:=qd (o:=HO.lst [V.str "=",V.str "!=",V.str "<",V.str "<"]) hq;refine ⟨_,rfl,_,rfl,_,_,rfl,rfl,_,_,_,_,rfl,rfl,SqL.of (s5 _ _ f0),b0 7 (by omega),_,_,rfl,rfl,(by show (0:Int) < 4;decide),_,_,_,_,rfl,rfl,SqL.of qa,hz,?_⟩;have b6:=s5 _ _ hc;have d1:=SJ.trans s5;have c4:=s5 _ _ e7;have e9:=s5 _ _ f0;have i9:=sj.trans s5;have d4:∀ e∈cs,CGood (upd J q (.lst [V.str "=",V.str "!=",V.str "<",V.str "<"])) e/\PV ms ks as e.2.2.1/\PV ms ks as e.2.2.2/\SgOk e.2.1:=λ e B=>⟨(gc e B).1.same s5,(gc e B).2⟩;generalize upd J q (.lst [V.str "=",V.str "!=",V.str "<",V.str "<"])=J5 at*;refine ⟨_,zr,.inl ⟨zr,_,SqL.of b6⟩,_,zr,?_⟩;refine ⟨_,zr,_,zr,_,_,zr,zr,_,_,_,_,zr,zr,SqL.of e9,b0 10 (by omega),_,zr,_,zr,_,th,v,zs,ks,zr,SqL.of c4,d1.seq hV,l1,b4,λ t1 J6 s6 e0=> ?_⟩;refine ⟨_,zr,_,zr,_,_,zr,zr,_,_,_,_,zr,zr,SqL.of (s6 _ _ e9),b0 13 (by omega),_,zr,_,zr,_,th,v,zs,ks,zr,SqL.of (s6 _ _ c4),(d1.trans s6).seq hV,l1,b4,λ t2 J7 s7 e4=> ?_⟩;have f8:=s6.trans s7;have g9:=f8 _ _ b6;refine ⟨by show 3<=sizeLine;decide,λ q2 b3=> ?_⟩;have s8:=qd (o:=HO.tup [V.str z,kV t1,kV t2]) b3;have e8:=qa (H:=J7) (a:=q2) (o:=HO.tup [V.str z,kV t1,kV t2]);have Z:=f8.trans s8;generalize upd J7 q2 (.tup [V.str z,kV t1,kV t2])=J8 at*;have c8:=s8 _ _ g9;refine ⟨cA,_,_,rfl,rfl,c8,by rw [z2c];exact q1r (by omega),?_⟩;refine ⟨_,_,cs++ [(.ref q2,(z,t1,t2))],rfl,(i9.trans Z).set d9,by rw [qa,z2h];rfl,by rw [z17,lc];rfl,λ e B=> ?_⟩;rcases z27.mp B with B | B
     ·exact ⟨((d4 e B).1.same Z).set c8,(d4 e B).2⟩
     ·rw [z16.mp B];exact ⟨CGood.set ⟨⟨q2,zr,e8⟩,e0.elim (b4 _) (ok _),e4.elim (b4 _) (ok _)⟩ c8,pv t1 e0,pv t2 e4,ez⟩
    ·rintro σ J ⟨v8,d0,cs,rfl,sj,hc,lc,gc⟩;have a7:=SE.trans sj;have SJ:=S1.trans a7;have f9:=s1.trans a7;refine ⟨_,zr,_,zr,_,_,zr,.inl ⟨SqL.of (f9 _ _ hb),λ q2 b3=> ?_⟩⟩;have s6:=qd (o:=HO.tup (as.map (·.1))) b3;refine ⟨_,zr,_,_,zr,.inl ⟨SqL.of (s6 _ _ hc),λ q3 h9=> ?_⟩⟩;have s7:=qd (o:=HO.tup (cs.map (·.1))) h9;refine ⟨by show 3<=sizeLine;decide,λ r i0=> ?_⟩;have s8:=qd (o:=HO.tup [V.ref hp,.ref q2,.ref q3]) i0;have Z:=s6.trans (s7.trans s8);exact k r hp hd hn ts as cs _ (SJ.trans Z) ⟨⟨q2,q3,SqT.of qa,SqT.of ((s7.trans s8) _ _ qa),SqT.of (s8 _ _ qa)⟩,λ e B=>(ga e B).1.same (f9.trans Z),λ e B=>(gc e B).1.same Z,by omega,by omega⟩ ((sj.trans Z) _ _ g4) ((sj.trans Z) _ _ eh) b9 la (by omega) (λ e B=>(ga e B).2) Y λ e B=>(gc e B).2
   ·obtain ⟨⟨v',rfl⟩,sm,ts,hts,a6,Y⟩:=p;obtain ⟨rfl,rfl⟩:=y;have SE:=S1.trans sm;have at2:atI (ys.map V.int) (2+(0+(j:Int)))=some (V.int (ys.getD (2+j) 0)):=by
     rw [show (2:Int)+(0+(j:Int))=((2+j:Nat):Int) by omega];exact a9 _ (by omega)
    refine ⟨_,zr,_,zr,_,_,zr,zr,_,_,_,_,zr,zr,SqL.of (sm _ _ hy),at2,?_⟩;refine ⟨_,zr,_,zr,_,th,v,zs,ks,zr,SqL.of (sm _ _ (s1 _ _ a8)),SE.seq hV,l1,b4,λ t E4 s4 ht=> ?_⟩;refine ⟨_,s4 _ _ hts,by rw [z2c,a6];exact q1r (by omega),⟨_,rfl⟩,(sm.trans s4).set hD,ts++ [t],by rw [qa,z2h];rfl,by rw [z17,a6];rfl,λ x O=> ?_⟩;rcases z27.mp O with O | O
    ·exact Y x O
    ·rw [z16.mp O];exact pv t ht
  ·refine ⟨_,zr,a,ns,9,zr,hS,by decide,_,16,zr,by decide,by decide,λ xA xs H1 s1 O lx=> ?_⟩;have lx:xs.length=16:=lx;have c6:∀ j:Nat,j < 16 ->atI (xs.map V.int) (j:Int)=some (V.int (xs.getD j 0)):=λ j hj=>q8n (by omega);refine ⟨by decide,λ U d8=>⟨by decide,λ t0 c9=> ?_⟩⟩;have s2:=qd (o:=HO.lst []) d8;have s3:=qd (o:=HO.lst []) c9;have i7:t0≠U:=λ e=>by rw [e,qa] at c9;cases c9
   have g6:=s3 _ _ (qa (H:=H1) (a:=U) (o:=HO.lst []));have i1:=qa (H:=upd H1 U (.lst [])) (a:=t0) (o:=HO.lst []);have i8:=s2.trans s3;generalize upd (upd H1 U (.lst [])) t0 (.lst [])=H3 at*;obtain ⟨q,hq,q0,q3⟩:∃ q:Int,atI [V.int 1,V.int 2,V.int 2,V.int 3,V.int 2,V.int 1,V.int 2,V.int 0] (xs.getD 0 0%8)=some (V.int q)/\0<=q/\q<=3:=by
    obtain ⟨x,h1,h2⟩:=qc5 (xs:=[V.int 1,V.int 2,V.int 2,V.int 3,V.int 2,V.int 1,V.int 2,V.int 0]) (P:=λ x=>∃ q:Int,x= .int q/\0<=q/\q<=3) (λ x O=>by
     simp only [z2v,z24,or_false] at O;rcases O with rfl | rfl | rfl | rfl | rfl | rfl | rfl | rfl <;> exact ⟨_,rfl,by decide,by decide⟩) (z2l (xs.getD 0 0) (show (8:Int)≠0 by decide)) (z1e _ (by decide))
    obtain ⟨q,rfl,h3⟩:=h2;exact ⟨q,h1,h3⟩
   refine ⟨by show 8<=sizeLine;decide,λ u8 i5=> ?_⟩;have s4:=qd (o:=HO.lst [V.int 1,V.int 2,V.int 2,V.int 3,V.int 2,V.int 1,V.int 2,V.int 0]) i5;have f6:=i8.trans s4;have g7:=s4 _ _ g6;have i2:=s4 _ _ i1;refine ⟨_,rfl,_,_,_,_,rfl,rfl,SqL.of (f6 _ _ O),c6 0 (by decide),_,_,rfl,rfl,(by show (0:Int) < 8;decide),_,_,_,_,rfl,rfl,SqL.of qa,hq,_,rfl,by omega,by omega,?_⟩;generalize upd H3 u8 (.lst [V.int 1,V.int 2,V.int 2,V.int 3,V.int 2,V.int 1,V.int 2,V.int 0])=H4 at*;refine q39 (lo:=0) (n:=q.toNat) (λ i σ F=>∃ (th:Addr) (v8 v9 a0:Option V) (as:List (V×AT)) (zs:List Key),σ=[some (.ref a),some (.ref n),some (.ref m),some (.ref v),some (.int size),some (.ref xA),some (.ref U),some (.ref th),v8,v9,a0,none,none,none,none]/\Same H1 F/\F U=some (.lst (as.map (·.1)))/\as.length=i/\(∀ e∈as,AGood F e/\AtK ms ks e.2)/\F th=some (.lst (zs.map kV))/\th≠U/\zs.length<=4*i/\∀ t∈zs,t∈ms/\∃ e∈as,t∈e.2.2) ⟨t0,none,none,none,[],[],rfl,f6,g7,rfl,(λ _ z=>nomatch z),i2,i7,z3e _,(λ _ z=>nomatch z)⟩ ?_ ?_
   ·rintro i σ F hi ⟨th,v8,v9,a0,as,zs,rfl,sf,hb,la,ga,a8,f2,lz,gz⟩;have i3:i < 3:=by omega
    have b8:=sf _ _ O;have SF:=s1.trans sf;have a1:atI (xs.map V.int) (1+(0+(i:Int)))=some (V.int (xs.getD (1+i) 0)):=by
     rw [show (1:Int)+(0+(i:Int))=((1+i:Nat):Int) by omega];exact c6 _ (by omega)
    apply qgd
    ·intro key;obtain ⟨L,eL,L0,L4⟩:∃ L:Int,L=size/\0<=L/\L<=4:=⟨_,rfl,z0,z4⟩;refine ⟨.int L,by rw [eL];rfl,?_⟩;clear eL;refine ⟨_,rfl,_,rfl,_,_,rfl,rfl,_,_,_,_,rfl,rfl,SqL.of b8,a1,_,_,rfl,rfl,(by show (0:Int) < 7;decide),rfl,_,rfl,ite2 (λ _=> ?_) (λ _=> ?_)⟩
     rotate_left
     ·revert L;exact key
     ·refine ⟨_,rfl,_,rfl,_,_,rfl,rfl,_,_,_,_,rfl,rfl,SqL.of b8,a1,_,_,rfl,rfl,⟨by decide,by decide⟩,_,_,rfl,rfl,(by show (0:Int) < 3;decide),key (xs.getD (1+i) 0 / 7%3) (z2l _ (by decide)) ?_⟩;have:=z1e (xs.getD (1+i) 0 / 7) (show (0:Int) < 3 by decide);omega
    ·intro L L0 L4;refine ⟨_,zr,_,zr,by omega,by omega,λ D hD=> ?_⟩;have i6:D≠U:=λ e=>by rw [e,hb] at hD;cases hD
     refine q20 L.toNat (λ j σ' E'=>(∃ v',σ'=[v',some (.ref m),some (.ref v),some (.ref xA),some (.int (0+(i:Int)))])/\Same F E'/\∃ ts:List Key,E' D=some (.lst (ts.map kV))/\ts.length=j/\∀ t∈ts,t∈ms\/ t∈ks) ⟨⟨_,rfl⟩,qd hD,[],qa,rfl,λ _ z=>nomatch z⟩ (λ i σ' H' hi p=>hi) (λ σ' E' p=>⟨z3b _,?_⟩) (λ j σ' E' hj p x E3 y=> ?_)
     ·obtain ⟨_,sm,ts,hts,a6,Y⟩:=p;have b9:ts.length<=4:=by omega
      have SE:=SF.trans sm;obtain ⟨c,hc,c0,c3⟩:∃ c:Int,atI [V.int 0,V.int 0,V.int 1,V.int 1,V.int 0,V.int 1,V.int 2] (xs.getD (1+i) 0 / 21%7)=some (V.int c)/\0<=c/\c < 3:=by
       obtain ⟨x,h1,h2⟩:=qc5 (xs:=[V.int 0,V.int 0,V.int 1,V.int 1,V.int 0,V.int 1,V.int 2]) (P:=λ x=>∃ q:Int,x= .int q/\0<=q/\q < 3) (λ x O=>by
        simp only [z2v,z24,or_false] at O;rcases O with rfl | rfl | rfl | rfl | rfl | rfl | rfl <;> exact ⟨_,rfl,by decide,by decide⟩) (z2l (xs.getD (1+i) 0 / 21) (show (7:Int)≠0 by decide)) (z1e _ (by decide))
       obtain ⟨q,rfl,h3⟩:=h2;exact ⟨q,h1,h3⟩
      obtain ⟨z,hz,oz⟩:=name c c0 c3;refine ⟨_,rfl,.inl ⟨rfl,_,SqL.of (sm _ _ hb)⟩,_,rfl,by show 7<=sizeLine;decide,λ u7 i4=> ?_⟩;have s5:=qd (o:=HO.lst [V.int 0,V.int 0,V.int 1,V.int 1,V.int 0,V.int 1,V.int 2]) i4;refine ⟨_,rfl,_,rfl,_,_,rfl,rfl,_,_,_,_,rfl,rfl,SqL.of ((sm.trans s5) _ _ b8),a1,_,_,rfl,rfl,⟨by decide,by decide⟩,_,_,rfl,rfl,(by show (0:Int) < 7;decide),_,_,_,_,rfl,rfl,SqL.of qa,hc,_,_,_,_,rfl,rfl,(SE.trans s5).seq hN,hz,?_⟩;have d6:=s5 _ _ hts;have j0:=sm.trans s5;generalize upd E' u7 (.lst [V.int 0,V.int 0,V.int 1,V.int 1,V.int 0,V.int 1,V.int 2])=E5 at*;refine ⟨_,rfl,_,_,rfl,.inl ⟨SqL.of d6,λ l hl=>⟨by show 2<=sizeLine;decide,λ q2 b3=> ?_⟩⟩⟩;have s6:=qd (o:=HO.tup (ts.map kV)) hl;have s7:=qd (o:=HO.tup [V.str z,.ref l]) b3;have av:AVh (upd (upd E5 l (.tup (ts.map kV))) q2 (.tup [V.str z,.ref l])) (.ref q2,(z,ts)):=⟨q2,l,rfl,qa,s7 _ _ qa⟩;have c1:=j0.trans (s6.trans s7);have g5:=(s6.trans s7) _ _ d6;generalize upd (upd E5 l (.tup (ts.map kV))) q2 (.tup [V.str z,.ref l])=E7 at*;have c7:=c1 _ _ hb;have e5:=c1 _ _ a8;have d2:∀ e∈as,AGood E7 e/\AtK ms ks e.2:=λ e B=>⟨(ga e B).1.same c1,(ga e B).2⟩;refine ⟨U,_,_,rfl,rfl,c7,by rw [z2c];exact q1r (by omega),?_⟩;have S8:Same H1 (upd E7 U (.lst (as.map (·.1)++ [.ref q2]))):=(sf.trans c1).set d8;have d7:upd E7 U (.lst (as.map (·.1)++ [.ref q2])) U=some (.lst ((as++ [((V.ref q2,(z,ts)):V×AT)]).map (·.1))):=by rw [qa,z2h];rfl
      have d3:∀ e∈as++ [(.ref q2,(z,ts))],AGood (upd E7 U (.lst (as.map (·.1)++ [.ref q2]))) e/\AtK ms ks e.2:=λ e B=>by
       rcases z27.mp B with B | B
       ·exact ⟨(d2 e B).1.set c7,(d2 e B).2⟩
       ·rw [z16.mp B];exact ⟨AGood.set ⟨av,λ t ht=>c5 t (Y t ht),z34 b9 (by decide)⟩ c7,b9,Y,oz⟩
      have e6:upd E7 U (.lst (as.map (·.1)++ [.ref q2])) th=some (.lst (zs.map kV)):=by rw [qg f2];exact e5
      have b5:upd E7 U (.lst (as.map (·.1)++ [.ref q2])) D=some (.lst (ts.map kV)):=by rw [qg i6];exact g5
      generalize upd E7 U (.lst (as.map (·.1)++ [.ref q2]))=E8 at*;have g0:=s1.trans S8;refine ⟨_,zr,_,zr,D,zr,⟨_,SqL.of b5⟩,λ D2 d5=> ?_⟩;refine q20 (ts.map kV).length (λ j σ' E9=>(∃ v',σ'=[v',some (.ref m)])/\Same E8 E9/\∃ ys:List Key,E9 D2=some (.lst (ys.map kV))/\ys.length<=j/\∀ t∈ys,t∈ms/\t∈ts) ⟨⟨_,rfl⟩,qd d5,[],qa,z3b _,λ _ z=>nomatch z⟩ (λ j σ' E9 hj p=> ?_) (λ σ' E9 p=>⟨?_,?_⟩) (λ j σ' E9 hj p x E10 y=> ?_)
      ·exact ⟨_,(ts.map kV)[j],SqL.of (p.2.1 _ _ b5),z09 hj⟩
      ·exact ⟨_,SqL.of (p.2.1 _ _ b5),z3b _⟩
      ·obtain ⟨_,s8,ys,hy,ly,gy⟩:=p;rw [z2c] at ly;refine ⟨_,_,_,_,rfl,rfl,s8 _ _ e6,hy,by rw [z2c,z2c];exact z34 (show _<=1000 by omega) (by decide),λ q hq=> ?_⟩;have s9:=qd (o:=HO.lst (zs.map kV++ys.map kV)) hq;have g8:=s9 _ _ (s8 _ _ d7);refine ⟨q,_,_,_,as++ [(.ref q2,(z,ts))],zs++ys,rfl,S8.trans (s8.trans s9),g8,by rw [z17,la];rfl,λ e B=>⟨(d3 e B).1.same (s8.trans s9),(d3 e B).2⟩,by rw [qa,z2h],λ e=> ?_,by rw [z17];omega,λ t ht=> ?_⟩
       ·rw [e,s8 _ _ d7] at hq;cases hq
       ·rcases z27.mp ht with ht | ht
        ·obtain ⟨g1,e,B,g2⟩:=gz t ht;exact ⟨g1,e,z0t _ B,g2⟩
        ·exact ⟨(gy t ht).1,_,z0n _ (z16.mpr rfl),(gy t ht).2⟩
      ·obtain ⟨⟨v',rfl⟩,s8,ys,hy,ly,gy⟩:=p;obtain ⟨rfl,b7⟩:=y;have b7:=b7 _ (SqL.of (s8 _ _ b5));rw [z1j] at b7;obtain ⟨t,ht,rfl⟩:=z0k.mp b7;have hm:=z0u ht;refine ⟨_,zr,_,zr,keyD t,ms.map keyD,q44 (c5 t (Y t hm)),.lst ((g0.trans s8).seq hM) (q36 om),dd,?_⟩;rw [qaa];refine ⟨_,zr,ite2 (λ h8=> ?_) (λ _=>⟨⟨_,zr⟩,s8,ys,hy,by omega,gy⟩)⟩;refine ⟨_,rfl,_,hy,by rw [z2c];rw [z2c] at hj;exact q1r (by omega),⟨_,rfl⟩,s8.set d5,ys++ [t],by rw [qa,z2h];rfl,by rw [z17];exact Nat.add_le_add_right ly 1,λ x O=> ?_⟩;rcases z27.mp O with O | O
       ·exact gy x O
       ·rw [z16.mp O];exact ⟨q5j.mp h8,hm⟩
     ·obtain ⟨⟨v',rfl⟩,sm,ts,hts,a6,Y⟩:=p;obtain ⟨rfl,rfl⟩:=y;have SE:=SF.trans sm;have at2:atI (xs.map V.int) (4+4*(0+(i:Int))+(0+(j:Int)))=some (V.int (xs.getD (4+4*i+j) 0)):=by
       rw [show (4:Int)+4*(0+(i:Int))+(0+(j:Int))=((4+4*i+j:Nat):Int) by omega];exact c6 _ (by omega)
      refine ⟨_,zr,_,zr,_,_,zr,zr,.inl ⟨by decide,by decide⟩,_,_,zr,zr,_,zr,_,_,zr,zr,_,_,_,_,zr,zr,SqL.of (sm _ _ b8),at2,?_⟩;refine ⟨_,zr,_,zr,_,m,v,ms,ks,zr,SE.seq hM,SE.seq hV,l1,om,λ t E4 s4 ht=> ?_⟩;refine ⟨_,s4 _ _ hts,by rw [z2c,a6];exact q1r (by omega),⟨_,rfl⟩,(sm.trans s4).set hD,ts++ [t],by rw [qa,z2h];rfl,by rw [z17,a6];rfl,λ x O=> ?_⟩;rcases z27.mp O with O | O
      ·exact Y x O
      ·rw [z16.mp O];exact ht
   ·rintro σ F ⟨th,v8,v9,a0,as,zs,rfl,sf,hb,la,ga,a8,f2,lz,gz⟩;exact hC _ _ ⟨xA,U,th,as,zs,v8,v9,a0,zr,s1.trans sf,hb,by omega,ga,a8,by omega,gz⟩
theorem q4v {K:PySem.W.Frag} {d a:Addr} {H H':Hp} {xs:List V} {k:List (Key×V)} (s:Keep d H H') (hd:H d=some (.dK k)) (h:SqT K H a xs):SqT K H' a xs:=by
 rcases h with (h | ⟨o,h⟩) | h
 ·exact .inl (.inl (s _ _ (λ z=>by rw [z,hd] at h;cases h) h))
 ·exact .inl (.inr ⟨o,s _ _ (λ z=>by rw [z,hd] at h;cases h) h⟩)
 ·exact .inr h
def qo9 (K:PySem.W.Frag):Sp:=λ vs H Q _=>∃ (a b d:Addr) (ts us:List Key) (bk bk2:List (Key×V)),vs=[.ref a,.ref b,.ref d]/\SqT K H a (ts.map kV)/\SqT K H b (us.map kV)/\H d=some (.dK bk)/\ts.length=us.length/\ts.length<=100/\bk.length<=2000/\(∀ t∈ts,TmK t)/\OnlyV bk/\mAll bk (ts.zip us)=some bk2/\
 ∀ H',Keep d H H' ->H' d=some (.dK bk2) ->Q (.bl true) H'
theorem qdj (T:Txt K mg):Def P w K mg base 1 "_law_bind" ["_law_terms","_law_row_here","_law_binding"] (qo9 K):=by
 refine T.qef.ok q4k (λ vs H Q E h=> ?_) λ f cdv A outer s H vs Q E hr h=> ?_
 ·obtain ⟨a,b,d,ts,us,bk,a9,rfl,_⟩:=h;rfl
 ·obtain ⟨a,b,d,ts,us,bk,a9,rfl,ha,hb,hd,el,lt,lk,hts,ov,D,k⟩:=h;have la:LenV K (.ref a) H ts.length:= .inr ⟨_,ha,by rw [z2c]⟩;have lb:LenV K (.ref b) H us.length:= .inr ⟨_,hb,by rw [z2c]⟩;refine ⟨_,(q46
   (q1e (q15 q4h (qu (q1b K) rfl T.b_len q1w (pa_1 (pv 0))) (qu (q1b K) rfl T.b_len q1w (pa_1 (pv 1))) (q14 _)) (qi (qt q4f)) q11)
   (q1t PassesOwn.never rfl (q2d rfl T.q38 (pa_1 (qu (q1b K) rfl T.b_len q1w (pa_1 (pv 0))))) (qq (i:=3) q4k.nd rfl (Or.inl rfl)) (q46
   (qo (i:=4) q4k.nd rfl (Or.inl rfl) (qh (qr K) (pv 0) (pv 3) (λ _ _=>rfl)))
   (q1e (PW.pt (q9l (q1s (qu (q3b K) rfl T.q1j q1c (pa_2 (pv 4) (q3f rfl T.b_str q6w)))) (q8c (q15 q7z (qh q9p (pv 4) qc (λ _ _=>rfl)) q2i (by with_unfolding_all rfl))))) (q3r
   (q1e (qgp (qh3 (q2w hr) (pv 4) (pv 2))) (qi (qal (q2w hr) (pv 2) (pv 4) (qh (qr K) (pv 1) (pv 3) (λ _ _=>rfl)) rfl)) q11)
   (qo (i:=4) q4k.nd rfl (Or.inl rfl) (qak (q2w hr) (pv 2) (pv 4) (λ _ _=>rfl)))) q11)
   (q1e (q15 q4h (pv 4) (qh (qr K) (pv 1) (pv 3) (λ _ _=>rfl)) (q14 _)) (qi (qt q4f)) q11)))
   (qt q4f)),?_⟩
  refine ⟨_,rfl,_,_,rfl,la,_,rfl,_,_,rfl,lb,rfl,_,rfl,q1p (by rw [el,z2m rfl];rfl) ?_⟩;refine ⟨_,rfl,_,_,rfl,la,_,rfl,by omega,by omega,q39 (lo:=0) (n:=ts.length) (λ i σ F=>∃ (v3 v4:Option V) (B:List (Key×V)),σ=[some (.ref a),some (.ref b),some (.ref d),v3,v4]/\Keep d H F/\F d=some (.dK B)/\mAll bk ((ts.zip us).take i)=some B/\B.length<=2000+i) ⟨none,none,bk,rfl,Keep.of (Same.refl H),hd,rfl,lk⟩ ?_ ?_⟩
  ·rintro i σ F hi ⟨v3,v4,B,rfl,kp,hk,hm,hl⟩;have b3:i < us.length:=by omega
   obtain ⟨t,et⟩:∃ t,ts[i]=t:=⟨_,rfl⟩;obtain ⟨v,ev⟩:∃ v,us[i]=v:=⟨_,rfl⟩;have ht:ts[i]? =some t:=by rw [z09 hi,et]
   have hv:us[i]? =some v:=by rw [z09 b3,ev]
   have a8:atI (ts.map kV) (0+(i:Int))=some (kV t):=by rw [Int.zero_add];exact qk (by rw [z1j,ht];rfl)
   have at2:atI (us.map kV) (0+(i:Int))=some (kV v):=by rw [Int.zero_add];exact qk (by rw [z1j,hv];rfl)
   have a6:(ts.zip us)[i]? =some (t,v):=by
    rw [List.getElem?_zip_eq_some];exact ⟨ht,hv⟩
   have b0:=q4v kp hd ha;have O:=q4v kp hd hb;have tm:=hts t (z0u ht);have tx:=tm.tx;have b5:=ov.all hm;obtain ⟨k1,nx,U⟩:∃ k1,q19 B t v=some k1/\mAll bk ((ts.zip us).take (i+1))=some k1:=by
    have e1:mAll bk ((ts.zip us).take (i+1))=q19 B t v:=by
     rw [z2r,a6,q3x,hm];show (q19 B t v).bind (λ k=>some k)=_;cases q19 B t v <;> rfl
    rw [<- z0m (i+1) (ts.zip us),q3x,e1] at D;cases q:q19 B t v with
    | none=>rw [q] at D;cases D
    | some k1=>exact ⟨k1,rfl,by rw [e1,q]⟩
   obtain ⟨e1,e2⟩:=q3d nx;have Y:txtK capS t=false ->kV t=kV v/\k1=B:=λ c=>by
    have c':¬ txtK capS t=true:=by rw [c];exact z15
    have mp:mPut B t v=B:=if_neg (λ z=>c' z.1);rw [mp] at e1;subst e1;rw [q5l b5 c'] at e2;exact ⟨e2,zr⟩
   refine ⟨_,zr,_,zr,_,_,_,_,zr,zr,b0,a8,?_⟩;cases t with
   | inl n=>
    obtain ⟨f1,f2⟩:=Y rfl;refine ⟨_,zr,_,_,_,zr,q44 (K:=K) (H:=F) tx,by decide,_,zr,q1p (show tyIs "int" "str"=false by decide) (iteF ?_)⟩;refine ⟨_,rfl,_,rfl,_,rfl,_,_,_,_,rfl,rfl,O,at2,q4e _ v,_,rfl,q1p (by rw [z2m f1];rfl) ?_⟩;exact ⟨_,_,B,zr,kp,hk,by rw [U,f2],by omega⟩
   | inr z=>
    obtain ⟨c,hc,zs,Z⟩:=tm.fst;refine ⟨_,zr,_,_,_,zr,q44 (K:=K) (H:=F) tx,by decide,_,zr,q4x (show tyIs "str" "str"=true by decide) ?_⟩;refine ⟨_,zr,_,_,c,zr,zr,zs,qk (j:=0) hc,_,_,zr,zr,_,zr,?_⟩;have J:(!(Builtin.Str.occurrences capS ⟨#[c]⟩ 0 capS.length 1).isEmpty)=decide (c∈capS.cps.toList):=StrLaws.found_one ..;refine ite2 (λ h2=> ?_) (λ h2=> ?_)
    ·have b4:txtK capS (.inr z)=true:=Z.symm.trans (J.symm.trans h2);cases e:valV B (.inr z) with
     | none=>
      have mp:mPut B (.inr z) v=putK B (.inr z) (kV v):=if_pos ⟨b4,e⟩;rw [mp] at e1;refine ⟨_,rfl,_,rfl,d,none,rfl,by rw [<- e];exact DGet.k hk,_,rfl,q4x rfl ?_⟩;refine ⟨_,rfl,_,rfl,_,_,_,_,rfl,rfl,O,at2,_,rfl,_,rfl,d,_,rfl,DPut.k (k:=Sum.inr z) hk (z1a (show B.length < 20000 by omega) (by decide)),?_⟩;have a7:Keep d H (upd F d (.dK (putK B (.inr z) (kV v)))):=kp.trans (λ a o n h=>by rw [qg n];exact h);have a0:=qa (H:=F) (a:=d) (o:=HO.dK (putK B (.inr z) (kV v)));generalize upd F d (.dK (putK B (.inr z) (kV v)))=F2 at*;have dg:DGet F2 d (kV (Sum.inr z)) (some (kV v)):=by
       have:valV (putK B (Sum.inr z) (kV v)) (Sum.inr z)=some (kV v):=by rw [q2y,if_pos rfl]
       rw [<- this];exact DGet.k a0
      refine ⟨_,zr,_,zr,d,_,zr,dg,?_⟩;refine ⟨_,rfl,_,rfl,_,rfl,_,_,_,_,rfl,rfl,q4v a7 hd hb,at2,q4e v v,_,rfl,q1p (by rw [z2m rfl];rfl) ?_⟩;exact ⟨_,_,_,rfl,a7,a0,by rw [U,e1],by have:=q2a B (Sum.inr z) (kV v);omega⟩
     | some x=>
      have mp:mPut B (.inr z) v=B:=if_neg (λ y=>by rw [e] at y;exact nomatch y.2);rw [mp] at e1;have ex:x=kV v:=by
       rw [e1] at e2;unfold Wy.tv at e2;rw [e] at e2;exact e2
      have dg:DGet F d (kV (Sum.inr z)) (some x):=by rw [<- e];exact DGet.k hk
      refine ⟨_,zr,_,zr,d,some x,zr,dg,_,zr,q1p rfl ?_⟩;refine ⟨_,zr,_,zr,d,_,zr,dg,?_⟩;refine ⟨_,rfl,_,rfl,_,rfl,_,_,_,_,rfl,rfl,O,at2,by rw [ex];exact q4e v v,_,rfl,q1p (by rw [z2m ex];rfl) ?_⟩;exact ⟨_,_,B,zr,kp,hk,by rw [U,e1],by omega⟩
    ·obtain ⟨f1,f2⟩:=Y (by rw [<- Z,<- J];exact Bool.eq_false_iff.mpr h2);refine ⟨_,rfl,_,rfl,_,rfl,_,_,_,_,rfl,rfl,O,at2,q4e _ v,_,rfl,q1p (by rw [z2m f1];rfl) ?_⟩;exact ⟨_,_,B,zr,kp,hk,by rw [U,f2],by omega⟩
  ·rintro σ F ⟨v3,v4,B,rfl,kp,hk,hm,hl⟩;rw [z0h (by rw [List.length_zip];omega),D] at hm;injection hm with hm;subst hm;exact k F kp hk
def qoa (K:PySem.W.Frag):Sp:=λ vs H Q _=>∃ (c b:Addr) (e:CT) (kvs:List (Key×V)),vs=[.ref c,.ref b]/\SqT K H c [.str e.1,kV e.2.1,kV e.2.2]/\H b=some (.dK kvs)/\HOk kvs e/\SgOk e.1/\
 ∀ H',Same H H' ->Q (.bl (q1k kvs e)) H'
theorem q7m (T:Txt K mg):Def P w K mg base 2 "_law_choice_holds" ["_law_choice","_law_binding"] (qoa K):=by
 refine T.q7s.ok q3g (λ vs H Q E h=> ?_) λ f cdv A outer s H vs Q E hr h=> ?_
 ·obtain ⟨c,b,e,kvs,rfl,_⟩:=h;rfl
 ·obtain ⟨c,b,⟨sg,x,y⟩,kvs,rfl,D,Y,⟨u,v,O,U,ou,ov⟩,so,k⟩:=h;have O:tv kvs x=kV u:=O;have U:tv kvs y=kV v:=U;refine ⟨_,(q78
   (qo (i:=2) q3g.nd rfl (Or.inl rfl) (q3t (q2w hr) (pv 1) (qh (qr K) (pv 0) qc (λ _ _=>rfl)) (qh (qr K) (pv 0) qc (λ _ _=>rfl)) ⟨rfl,rfl,rfl,rfl⟩))
   (qo (i:=3) q3g.nd rfl (Or.inl rfl) (q3t (q2w hr) (pv 1) (qh (qr K) (pv 0) qc (λ _ _=>rfl)) (qh (qr K) (pv 0) qc (λ _ _=>rfl)) ⟨rfl,rfl,rfl,rfl⟩))
   (q1e (q15 q3q (qh (qr K) (pv 0) qc (λ _ _=>rfl)) q2i (q14 _)) (qi (qt (ql (q4m T) hr rfl (pa_2 (pv 2) (pv 3))))) q11)
   (qt (q24 q3q (q24 q3q (pv 2) (pv 3) (q14 _)) (q24 q3q (qh (qr K) (pv 0) qc (λ _ _=>rfl)) q2i (q14 _)) (q14 _)))),?_⟩
  refine ⟨_,zr,b,zr,.inl ⟨kvs,.inl Y⟩,_,zr,_,_,_,_,zr,zr,D,qk (j:=1) rfl,_,zr,_,_,_,_,zr,zr,D,qk (j:=1) rfl,_,DGet.k (k:=x) Y,?_⟩;refine ⟨_,zr,b,zr,.inl ⟨kvs,.inl Y⟩,_,zr,_,_,_,_,zr,zr,D,qk (j:=2) rfl,_,zr,_,_,_,_,zr,zr,D,qk (j:=2) rfl,_,DGet.k (k:=y) Y,?_⟩;have Z:q1k kvs (sg,x,y)=(if sg=sgE then decide (kV u=kV v) else if sg=sgN then !decide (kV u=kV v) else befK u v):=by
   unfold q1k;show (if sg=sgE then decide (tv kvs x=tv kvs y) else if sg=sgN then !decide (tv kvs x=tv kvs y) else befK (vK (tv kvs x)) (vK (tv kvs y)))=_;rw [O,U,q5g,q5g]
  show qc1 3 (tv kvs y) [some (.ref c),some (.ref b),some (tv kvs x),none] _ _;rw [O,U];have k0:=k H (Same.refl H);have B:∀ (a c:Str) (q:Bool),decide (a=c)=q ->decide (V.str a=V.str c)=q:=λ a c q h=>by
   rw [<- h];exact decide_eq_decide.mpr ⟨λ h=>by injection h,λ h=>by rw [h]⟩
  have J:∀ p q:Bool,decide (V.bl p=V.bl q)=(p==q):=by decide
  rcases so with es | es | es
  ·have es:sg=sgE:=es;subst es;rw [Z,if_pos rfl] at k0;refine ⟨_,zr,_,_,_,_,zr,zr,D,qk (j:=0) rfl,zr,_,zr,q1p (B sgE _ _ (by decide+kernel)) ?_⟩;refine ⟨_,zr,_,zr,q4e u v,_,zr,_,_,_,_,zr,zr,D,qk (j:=0) rfl,zr,zr,?_⟩;show Q (.bl (decide (V.bl (decide (kV u=kV v))=V.bl (decide (V.str sgE=V.str (Str.ofString "=")))))) H;rw [B sgE _ true (by decide+kernel),J,show ∀ p:Bool,(p==true)=p by decide];exact k0
  ·have es:sg=sgN:=es;subst es;rw [Z,if_neg (by decide+kernel),if_pos rfl] at k0;refine ⟨_,zr,_,_,_,_,zr,zr,D,qk (j:=0) rfl,zr,_,zr,q1p (B sgN _ _ (by decide+kernel)) ?_⟩;refine ⟨_,zr,_,zr,q4e u v,_,zr,_,_,_,_,zr,zr,D,qk (j:=0) rfl,zr,zr,?_⟩;show Q (.bl (decide (V.bl (decide (kV u=kV v))=V.bl (decide (V.str sgN=V.str (Str.ofString "=")))))) H;rw [B sgN _ false (by decide+kernel),J,show ∀ p:Bool,(p==false)= !p by decide];exact k0
  ·have es:sg=sgL:=es;subst es;refine ⟨_,zr,_,_,_,_,zr,zr,D,qk (j:=0) rfl,zr,_,zr,q4x (B sgL _ _ (by decide+kernel)) ?_⟩;refine ⟨_,zr,_,zr,u,v,zr,ou,ov,λ H' s'=> ?_⟩;have:=k H' s';rw [Z,if_neg (by decide+kernel),if_neg (by decide+kernel)] at this;exact this
theorem qfh:∀ {as:List AT} {us:List RW} {i:Nat} {a:AT} {e:RW},as[i]? =some a ->us[i]? =some e ->∃ r,q28 as us=q28 (as.take i) (us.take i)++(a.2.zip e.2++r)/\q28 (as.take (i+1)) (us.take (i+1))=q28 (as.take i) (us.take i)++a.2.zip e.2
 | [],_,_,_,_,h,_=>by simp at h
 | _::_,[],_,_,_,_,h=>by simp at h
 | a::as,e::us,0,a',e',h,g=>by
  simp only [List.getElem?_cons_zero,Option.some.injEq] at h g;subst h g;exact ⟨q28 as us,rfl,by show a.2.zip e.2++q28 [] []=[]++a.2.zip e.2;exact z2d _⟩
 | a::as,e::us,i+1,a',e',h,g=>by
  obtain ⟨r,h1,h2⟩:=qfh (as:=as) (us:=us) (i:=i) (by simpa using h) (by simpa using g);refine ⟨r,?_,?_⟩
  ·show a.2.zip e.2++q28 as us=a.2.zip e.2++q28 (as.take i) (us.take i)++_;rw [h1,z1g]
  ·show a.2.zip e.2++q28 (as.take (i+1)) (us.take (i+1))=a.2.zip e.2++q28 (as.take i) (us.take i)++_;rw [h2,z1g]
def qob (K:PySem.W.Frag):Sp:=λ vs H Q _=>∃ (r u hp ht:Addr) (hn:Str) (ts:List Key) (as:List (V×AT)) (cs:List (V×CT)) (us:List RW) (bk:List (Key×V)),vs=[.ref r,.ref u]/\RuleAt K H r (.ref hp) as cs/\H hp=some (.tup [.str hn,.ref ht])/\H ht=some (.tup (ts.map kV))/\ts.length<=100/\SqT K H u (us.map (·.1))/\(∀ e∈us,RowV K H e)/\us.length=as.length/\
 (∀ (i:Nat) (a:AT) (e:RW),(as.map (·.2))[i]? =some a ->us[i]? =some e ->a.2.length=e.2.length)/\(∀ e∈as,∀ t∈e.2.2,TmK t)/\mAll [] (q28 (as.map (·.2)) us)=some bk/\(∀ e∈cs,HOk bk e.2/\SgOk e.2.1)/\
 ((cs.all λ e=>q1k bk e.2)=true ->∀ q H',Same H H' ->H' q=some (.tup (ts.map (tv bk))) ->Q (.ref q) H')/\((cs.all λ e=>q1k bk e.2)=false ->∀ H',Same H H' ->Q .non H')
theorem qab (T:Txt K mg):Def P w K mg base 3 "_law_head_by" ["_law_rule_here","_law_used"] (qob K):=by
 refine T.qb0.ok q3s (λ vs H Q E h=> ?_) λ f cdv A outer s H vs Q E hr h=> ?_
 ·obtain ⟨r,u,hp,ht,hn,ts,as,cs,us,bk,rfl,_⟩:=h;rfl
 ·obtain ⟨r,u,hp,ht,hn,ts,as,cs,us,bk,rfl,hR,b4,Z,lts,hu,rv,lu,ln,c1,B,a9,ky,kn⟩:=h;obtain ⟨b,c,a8,hb,hc⟩:=hR.at_;refine ⟨_,(q78
   (qo (i:=2) q3s.nd rfl (Or.inr rfl) q5r)
   (q1t PassesOwn.never rfl (q2d rfl T.q38 (pa_1 (qu (q1b K) rfl T.b_len q1w (pa_1 (pv 1))))) (qq (i:=3) q3s.nd rfl (Or.inl rfl)) (qi (q1e (q33 (q1s (ql (qdj T) hr rfl (pa_3 (qh (qr K) (qh (qr K) (qh (qr K) (pv 0) qc (λ _ _=>rfl)) (pv 3) (λ _ _=>rfl)) qc (λ _ _=>rfl)) (qh (qr K) (pv 1) (pv 3) (λ _ _=>rfl)) (pv 2))))) (qi (qt q4y)) q11)))
   (q1t PassesOwn.never rfl (q4d K (qh (qr K) (pv 0) qc (λ _ _=>rfl))) (qq (i:=4) q3s.nd rfl (Or.inl rfl)) (qi (q1e (q33 (q1s (ql (q7m T) hr rfl (pa_2 (pv 4) (pv 2))))) (qi (qt q4y)) q11)))
   (qt (q1u (q2b K) rfl T.q2t q2h (pa_1 (q25 (N:=["_law_term_here","_law_binding"]) (caps:=[none,some 2]) rfl (by with_unfolding_all rfl) (q4d K (qh (qr K) (qh (qr K) (pv 0) qc (λ _ _=>rfl)) qc (λ _ _=>rfl))) (λ _ _ _ _ _=>(qq (i:=0) (show (["_law_term_here","_law_binding"]:List Str).Nodup by decide+kernel) rfl (Or.inl rfl))) (λ _ _ _ _ _=>q3u) (λ _ _ _ _ _=>(q3t (q2w hr) (pv 1) (pv 0) (pv 0) ⟨rfl,rfl,rfl,rfl⟩))))))),?_⟩
  refine λ d hd=> ?_;have s1:=qd (o:=HO.dK []) hd;have e1:=qa (H:=H) (a:=d) (o:=HO.dK []);generalize upd H d (.dK [])=H1 at*;have la:=hR.la;refine ⟨_,rfl,_,_,rfl,.inr ⟨_,s1.seqT hu,rfl⟩,_,rfl,by omega,by rw [z2c];omega,?_⟩;refine q39 (lo:=0) (n:=((us.map (·.1)).length:Int).toNat) (λ i σ F=>∃ (v3:Option V) (ki:List (Key×V)),σ=[some (.ref r),some (.ref u),some (.ref d),v3,none]/\Same H F/\F d=some (.dK ki)/\mAll [] (q28 ((as.map (·.2)).take i) (us.take i))=some ki/\ki.length<=100*i) ⟨none,[],rfl,s1,e1,by simp [q28,mAll],z3b _⟩ ?_ ?_
  ·rintro i σ F b5 ⟨v3,ki,rfl,O,hk,hm,hl⟩;have hi:i < as.length:=by rw [z2c] at b5;omega
   obtain ⟨e,J⟩:∃ e,as[i]? =some e:=⟨_,z09 hi⟩;obtain ⟨w1,a0⟩:∃ w1,us[i]? =some w1:=⟨_,z09 (by omega)⟩;have ge:=hR.body e (z0u J);obtain ⟨pe,qe,ee,b8,c0⟩:=ge.at_;obtain ⟨pw,ew,b9⟩:=rv w1 (z0u a0);have a6:(as.map (·.2))[i]? =some e.2:=by rw [z1j,J];rfl
   obtain ⟨rest,z1,z2⟩:=qfh a6 a0;have ae:atI (as.map (·.1)) (0+(i:Int))=some (.ref pe):=by
    rw [show (0+(i:Int):Int)=((i:Nat):Int) by omega];exact qk (j:=i) (by rw [z1j,J];exact congrArg some ee)
   have au:atI (us.map (·.1)) (0+(i:Int))=some (.ref pw):=by
    rw [show (0+(i:Int):Int)=((i:Nat):Int) by omega];exact qk (j:=i) (by rw [z1j,a0];exact congrArg some ew)
   obtain ⟨k1,a7⟩:∃ k1,mAll ki (e.2.2.zip w1.2)=some k1:=by
    rw [z1,q3x,hm] at B;have B:mAll ki (e.2.2.zip w1.2++rest)=some bk:=B;rw [q3x] at B;cases q:mAll ki (e.2.2.zip w1.2) with
    | none=>rw [q] at B;cases B
    | some k1=>exact ⟨k1,rfl⟩
   have l1:=q7h a7;rw [List.length_zip] at l1;have gl:=ge.len;refine ⟨_,zr,_,_,_,_,zr,zr,O.seqT a8,qk (j:=1) rfl,_,zr,_,_,_,_,zr,zr,O.seqT hb,ae,_,_,_,_,zr,zr,SqT.of (O _ _ b8),qk (j:=1) rfl,_,zr,_,zr,_,_,_,_,zr,zr,O.seqT hu,au,_,zr,?_⟩;refine ⟨qe,pw,d,e.2.2,w1.2,ki,k1,zr,SqT.of (O _ _ c0),O.seqT b9,hk,ln i e.2 w1 a6 a0,gl,by omega,c1 e (z0u J),OnlyV.nil.all hm,a7,λ F2 kp h2=> ?_⟩;refine ⟨_,zr,q1p rfl ?_⟩;exact ⟨_,k1,rfl,Same.keep O hd kp,h2,by rw [z2,q3x,hm];exact a7,by omega⟩
  ·rintro σ F ⟨v3,ki,rfl,O,hk,hm,hl⟩;have el:((us.map (·.1)).length:Int).toNat=us.length:=by rw [z2c];omega
   rw [el,z0h (by rw [z2c];omega),z0h (by omega),B] at hm;injection hm with hm;subst hm;refine ⟨_,zr,_,_,_,_,zr,zr,O.seqT a8,qk (j:=2) rfl,c,zr,⟨_,O.seqT hc⟩,q8d (xs:=cs.map (·.1)) (λ i σ G=>∃ (v4:Option V),σ=[some (.ref r),some (.ref u),some (.ref d),v3,v4]/\Same F G/\(cs.take i).all (λ e=>q1k bk e.2)=true) ⟨none,zr,Same.refl F,zr⟩ (λ i σ G _ z=> ?_) ?_ ?_⟩
   ·obtain ⟨_,_,z,_⟩:=z;exact (O.trans z).seqT hc
   ·rintro i x0 σ G hx ⟨v4,rfl,sg,al⟩;rw [z1j] at hx;obtain ⟨e,J,rfl⟩:=z0k.mp hx;have he:=z0u J;obtain ⟨pc,ep,b7⟩:=(hR.chs e he).at_;have U:=O.trans sg;refine ⟨_,rfl,_,rfl,pc,d,e.2,bk,by rw [ep];rfl,SqT.of (U _ _ b7),sg _ _ hk,(a9 e he).1,(a9 e he).2,λ G2 s2=> ?_⟩;refine ⟨_,zr,ite2 (λ h1=> ?_) (λ h1=> ?_)⟩
    ·refine kn (List.all_eq_false.mpr ⟨e,he,?_⟩) G2 (U.trans s2);have h1:(!q1k bk e.2)=true:=h1;cases q:q1k bk e.2 with
     | false=>exact z15
     | true=>rw [q] at h1;cases h1
    ·have h1:¬ (!q1k bk e.2)=true:=h1;refine ⟨_,zr,sg.trans s2,?_⟩;rw [z2r,J,List.all_append,al];cases q:q1k bk e.2 with
     | true=>simp [q]
     | false=>exact absurd (by rw [q];rfl) h1
   ·rintro σ G ⟨v4,rfl,sg,al⟩;rw [z2c,z26] at al;have U:=O.trans sg;have b0:=sg _ _ hk;refine ⟨_,zr,_,_,_,_,zr,zr,U.seqT a8,qk (j:=0) rfl,_,_,_,_,zr,zr,SqT.of (U _ _ b4),qk (j:=1) rfl,ht,zr,⟨_,SqT.of (U _ _ Z)⟩,λ D hD=> ?_⟩;refine q20 (ts.map kV).length (λ i σ' H'=>(∃ v,σ'=[v,some (.ref d)])/\Same G H'/\H' D=some (.lst ((ts.take i).map (tv bk)))) ⟨⟨_,zr⟩,qd hD,qa⟩ (λ i σ' H' hi p=> ?_) (λ σ' H' p=>⟨?_,?_⟩) (λ i σ' H' hi p x H2 y=> ?_)
    ·obtain ⟨_,Y,_⟩:=p;exact ⟨_,(ts.map kV)[i],SqT.of (Y _ _ (U _ _ Z)),z09 hi⟩
    ·obtain ⟨_,Y,_⟩:=p;exact ⟨_,SqT.of (Y _ _ (U _ _ Z)),z3b _⟩
    ·obtain ⟨_,Y,e⟩:=p;rw [z2c,z26] at e;exact ⟨_,_,zr,.inl ⟨SqL.of e,λ wA hw=>ky al wA _ (U.trans (Y.trans (qd hw))) qa⟩⟩
    ·obtain ⟨⟨v,rfl⟩,Y,e⟩:=p;obtain ⟨rfl,hx⟩:=y;have b3:=hx _ (SqT.of (Y _ _ (U _ _ Z)));rw [z1j] at b3;obtain ⟨kk,b6,rfl⟩:=z0k.mp b3;refine ⟨_,zr,d,zr,.inl ⟨bk,.inl (Y _ _ b0)⟩,_,zr,_,zr,_,DGet.k (Y _ _ b0),?_⟩;refine ⟨_,e,?_,⟨_,zr⟩,Y.set hD,?_⟩
     ·rw [z2c,z1u];exact q1r (by omega)
     ·rw [qa,z2r,b6,z2h];rfl
structure CaseOk (K:PySem.W.Frag) (H0 H:Hp) (r t hp ht:Addr) (hn:Str) (ts:List Key) (as:List (V×AT)) (cs:List (V×CT)) (tvs:List (Key×V)) (ms ks:List Key):Prop where
 rule:RuleAt K H r (.ref hp) as cs
 hd:H hp=some (.tup [.str hn,.ref ht])
 tm:H ht=some (.tup (ts.map kV))
 lt:ts.length<=4
 la:as.length<=3
 lc:cs.length<=3
 ats:∀ e∈as,AtK ms ks e.2
 hts:∀ t∈ts,PV ms ks as t
 chs:∀ e∈cs,PV ms ks as e.2.2.1/\PV ms ks as e.2.2.2/\SgOk e.2.1
 tab:H t=some (.dK tvs)
 t0:H0 t=none
 lv:tvs.length<=3
 tabs:∃ most:Int,most<=14/\TsAt K H0 H ks most tvs
 keys:KeysOk tvs
 gk:∀ k∈ks,GoodK k
 cap:∀ t∈ms,txtK capS t=true
theorem qij {t:Key} (h:txtK capS t=true):TxOk t:=(qic h).tx
def qoc (K:PySem.W.Frag):Sp:=λ vs H Q _=>∃ (a:Addr) (ns:List Int),vs=[.ref a]/\SqL K H a (ns.map V.int)/\ns.length<=63/\
 ∀ (p r t hp ht:Addr) (hn:Str) (ts:List Key) (as:List (V×AT)) (cs:List (V×CT)) (tvs:List (Key×V)) (ms ks:List Key) (H':Hp),Same H H' ->H' p=some (.tup [.ref r,.ref t]) ->CaseOk K H H' r t hp ht hn ts as cs tvs ms ks ->Q (.ref p) H'
theorem qay (T:Txt K mg):Def P w K mg base 5 "_law_handed" ["_law_script"] (qoc K):=by
 refine T.qby.ok q21 (λ vs H Q E h=> ?_) λ f cdv A outer s H vs Q E hr h=> ?_
 ·obtain ⟨a,ns,rfl,_⟩:=h;rfl
 ·obtain ⟨a,ns,rfl,U,ln,k⟩:=h;refine q6x 5 (λ σ G=>∃ (n m v:Addr) (most:Int) (B D J:Str) (ms ks:List Key),σ=[some (.ref a),some (.ref n),some (.ref m),some (.ref v),some (.int most),none,none]/\Same H G/\G n=some (.lst [.str B,.str D,.str J])/\(∀ z∈ [B,D,J],PyData.strOk z=true)/\G m=some (.lst (ms.map kV))/\G v=some (.lst (ks.map kV))/\3<=ks.length/\ks.length<=4/\(∀ k∈ks,GoodK k)/\(∀ t∈ms,txtK capS t=true)/\0<=most/\most<=14) ⟨_,(q3r
   (qgq (ql (qax T) hr rfl (pa_4 (pv 0) (pv 1) (pv 3) (pv 4))) (q43 rfl (q1g (qq (i:=5) q21.nd rfl (Or.inl rfl)) (q1g (qq (i:=6) q21.nd rfl (Or.inl rfl)) q34))))
   (qt (q2j (pa_2 (ql (qdi T) hr rfl (pa_5 (pv 0) (pv 1) (pv 2) (pv 3) (pv 6))) (pv 5))))),?_⟩ (λ u hu hC=>⟨_,(qow
   (qo (i:=1) q21.nd rfl (Or.inl rfl) (ql (q5c T) hr rfl (pa_4 (ql (q12 T) hr rfl (pa_2 (pv 0) qc)) (ql (q12 T) hr rfl (pa_2 (pv 0) qc)) qc q2i)))
   (qo (i:=2) q21.nd rfl (Or.inl rfl) (ql (q5c T) hr rfl (pa_4 (ql (q12 T) hr rfl (pa_2 (pv 0) qc)) (ql (q12 T) hr rfl (pa_2 (pv 0) qc)) qc q2i)))
   (qo (i:=3) q21.nd rfl (Or.inl rfl) (ql (qav T) hr rfl (pa_1 (pv 0))))
   (qo (i:=4) q21.nd rfl (Or.inl rfl) qc)
   (q1e (q15 q3q (qm q1d (qh (qx K) (ql (q37 T) hr rfl (pa_2 (ql (q12 T) hr rfl (pa_2 (pv 0) qc)) qc)) qc (λ _ _=>rfl)) qc) qc (q14 _)) (qi (qo (i:=4) q21.nd rfl (Or.inl rfl) qc)) q11)
   hu),?_⟩)
  ·rintro σ G ⟨n,m,v,most,B,D,J,ms,ks,rfl,sg,hn,oN,hm,hv,l3,l4,gk,cap,m0,a6⟩;refine ⟨_,zr,_,zr,_,zr,_,zr,a,n,v,most,ns,B,D,J,ks,zr,sg.seq U,ln,SqL.of hn,SqL.of hv,by omega,l4,gk,m0,a6,λ p t size tvs G1 s1 hp t0 ht z0 z4 lv ts kk=> ?_⟩;refine ⟨p,_,zr,SqT.of hp,zr,_,_,zr,_,_,zr,zr,?_⟩;have S1:=sg.trans s1;refine ⟨_,zr,_,zr,_,zr,_,zr,_,zr,a,n,m,v,size,ns,B,D,J,ms,ks,zr,S1.seq U,SqL.of (s1 _ _ hn),oN,SqL.of (s1 _ _ hm),SqL.of (s1 _ _ hv),z0,z4,by omega,λ t ht=>qij (cap t ht),λ t ht=>(gk t ht).tx,λ r hp' ht' hn' ts' as cs G2 s2 hR h1 h2 lt la lc ga gt gc=> ?_⟩;refine ⟨_,rfl,by show 2<=sizeLine;decide,λ q hq=> ?_⟩;have s3:=qd (o:=HO.tup [V.ref r,.ref t]) hq;have O:=s2.trans s3;refine k q r t hp' ht' hn' ts' as cs tvs ms ks _ (S1.trans O) qa ⟨hR.same s3,s3 _ _ h1,s3 _ _ h2,lt,la,lc,ga,gt,gc,O _ _ ht,sg.free t0,lv,⟨most,a6,λ k v e=> ?_⟩,kk,gk,cap⟩;obtain ⟨a1,rs,e1,g0,g1,g2,g3⟩:=ts k v e;exact ⟨a1,rs,e1,sg.free g0,O _ _ g1,λ e he=>(g2 e he).same O,g3⟩
  ·refine ⟨_,zr,a,ns,0,zr,U,by decide,_,zr,a,ns,1,zr,U,by decide,_,_,3,smaS,zr,qfd,by decide,by decide,λ n zs H1 s1 hn lz gz=> ?_⟩;refine ⟨_,zr,a,ns,5,zr,s1.seq U,by decide,_,zr,a,ns,6,zr,s1.seq U,by decide,_,_,3,capS,zr,qml,by decide,by decide,λ m ys H2 s2 hm ly gy=> ?_⟩;have a7:=s1.trans s2;refine ⟨_,zr,a,ns,zr,a7.seq U,λ v ks H3 s3 hv l3 l4 gk=> ?_⟩;have a8:=a7.trans s3;have cap:∀ t∈ys.map (Sum.inr:Str ->Key),txtK capS t=true:=λ t ht=>by
    obtain ⟨z1,b3,rfl⟩:=z38.mp ht;exact gy z1 b3
   have b0:H2 m=some (.lst ((ys.map (Sum.inr:Str ->Key)).map kV)):=by
    rw [z3a];exact hm
   match zs,lz,hn,gz with
   | [B,D,J],_,hn,gz=>
    have oN:∀ z∈ [B,D,J],PyData.strOk z=true:=λ z hz=>q9g qib (gz z hz);refine ⟨_,zr,a,ns,9,zr,a8.seq U,by decide,_,1,zr,by decide,by decide,λ xA xs H4 s4 hx lx=> ?_⟩;have a9:atI (xs.map V.int) 0=some (V.int (xs.getD 0 0)):=q8n (k:=0) (by have:xs.length=1:=lx;omega);have S4:=a8.trans s4;have Z:=(s2.trans (s3.trans s4)) _ _ hn;have Y:=(s3.trans s4) _ _ b0;have a0:=s4 _ _ hv;refine ⟨_,_,_,_,rfl,rfl,SqL.of hx,a9,_,_,rfl,rfl,(by show (0:Int) < 8;decide),rfl,_,rfl,ite2 (λ _=> ?_) (λ _=> ?_)⟩
    ·exact hC _ _ ⟨n,m,v,6,B,D,J,_,ks,zr,S4,Z,oN,Y,a0,l3,l4,gk,cap,by decide,by decide⟩
    ·exact hC _ _ ⟨n,m,v,14,B,D,J,_,ks,zr,S4,Z,oN,Y,a0,l3,l4,gk,cap,by decide,by decide⟩
def Two (H:Hp) (t:Addr) (tvs:List (Key×V)) (tb:Str ->List RW):Prop:=Rd H t (.dK tvs)/\∀ z,(valV tvs (.inr z)=none/\tb z=[])\/ ∃ a,valV tvs (.inr z)=some (.ref a)/\H a=some (.lst ((tb z).map (·.1)))
theorem Two.same {H H':Hp} {t:Addr} {tvs:List (Key×V)} {tb:Str ->List RW} (s:Same H H') (h:Two H t tvs tb):Two H' t tvs tb:=by
 refine ⟨?_,λ z=>(h.2 z).elim .inl λ ⟨a,e,q⟩=> .inr ⟨a,e,s _ _ q⟩⟩;rcases h.1 with h | ⟨o,h⟩
 ·exact .inl (s _ _ h)
 ·exact .inr ⟨o,s _ _ h⟩
theorem RowV.kd {K:PySem.W.Frag} {d:Addr} {H H':Hp} {k:List (Key×V)} {e:RW} (s:Keep d H H') (hd:H d=some (.dK k)) (h:RowV K H e):RowV K H' e:=let ⟨q,e1,h1⟩:=h;⟨q,e1,q4v s hd h1⟩
theorem Keep.kd {d a:Addr} {H H':Hp} {k:List (Key×V)} {o:HO} (s:Keep d H H') (hd:H d=some (.dK k)) (h:H a=some o) (n:∀ k,o≠ .dK k):H' a=some o:=s _ _ (λ z=>by rw [z,hd] at h;injection h with h;exact n _ h.symm) h
theorem RuleAt.kd {K:PySem.W.Frag} {d r:Addr} {H H':Hp} {k:List (Key×V)} {hd:V} {as:List (V×AT)} {cs:List (V×CT)} (s:Keep d H H') (B:H d=some (.dK k)) (h:RuleAt K H r hd as cs):RuleAt K H' r hd as cs:=by
 obtain ⟨b,c,h1,h2,h3⟩:=h.at_;refine ⟨⟨b,c,q4v s B h1,q4v s B h2,q4v s B h3⟩,λ e U=> ?_,λ e U=> ?_,h.la,h.lc⟩
 ·obtain ⟨⟨p,q,e1,D,g2⟩,J,O⟩:=h.body e U;exact ⟨⟨p,q,e1,s.kd B D nofun,s.kd B g2 nofun⟩,J,O⟩
 ·obtain ⟨⟨p,e1,D⟩,J,O⟩:=h.chs e U;exact ⟨⟨p,e1,s.kd B D nofun⟩,J,O⟩
def CpR (K:PySem.W.Frag) (G F:Hp) (ks:List Key) (p q:Key×V):Prop:=p.1=q.1/\∃ a a' rs,p.2= .ref a/\q.2= .ref a'/\F a=some (.lst (rs.map (·.1)))/\F a'=some (.lst (rs.map (·.1)))/\(∀ e∈rs,RowV K F e)/\TbOk ks 14 rs/\G a=none
theorem CpR.kd {K:PySem.W.Frag} {d:Addr} {G F B:Hp} {k:List (Key×V)} {ks:List Key} {p q:Key×V} (s:Keep d F B) (hd:F d=some (.dK k)) (h:CpR K G F ks p q):CpR K G B ks p q:=by
 obtain ⟨e,a,a',rs,e1,e2,h1,h2,h3,h4⟩:=h;exact ⟨e,a,a',rs,e1,e2,s.kd hd h1 nofun,s.kd hd h2 nofun,λ e he=>(h3 e he).kd s hd,h4⟩
theorem CpR.same {K:PySem.W.Frag} {G F B:Hp} {ks:List Key} {p q:Key×V} (s:Same F B) (h:CpR K G F ks p q):CpR K G B ks p q:=by
 obtain ⟨e,a,a',rs,e1,e2,h1,h2,h3,h4⟩:=h;exact ⟨e,a,a',rs,e1,e2,s _ _ h1,s _ _ h2,λ e he=>(h3 e he).same s,h4⟩
theorem qik {K:PySem.W.Frag} {G F:Hp} {ks:List Key}:∀ {B tvs:List (Key×V)},Paired (CpR K G F ks) B tvs ->∀ k,(valV B k=none/\valV tvs k=none)\/ ∃ v w,valV B k=some v/\valV tvs k=some w/\CpR K G F ks (k,v) (k,w)
 | _,_,.nil,k=> .inl ⟨rfl,rfl⟩
 | _,_,.cons (a:=p) (b:=q) h r,k=>by
  have e:=h.1;obtain ⟨p1,p2⟩:=p;obtain ⟨q1,q2⟩:=q;have e:p1=q1:=e;subst e;rw [q52,q52];by_cases z:p1=k
  ·subst z;rw [if_pos rfl,if_pos rfl];exact .inr ⟨_,_,zr,zr,h⟩
  ·rw [if_neg z,if_neg z];exact qik r k
theorem qfi {K:PySem.W.Frag} {G F:Hp} {ks:List Key}:∀ {B tvs:List (Key×V)},Paired (CpR K G F ks) B tvs ->B.map (·.1)=tvs.map (·.1)
 | _,_,.nil=>rfl
 | _,_,.cons h r=>by rw [z2t,z2t,h.1,qfi r]
theorem qmt {K:PySem.W.Frag} {G F:Hp} {ks:List Key} {d t:Addr} {D tvs:List (Key×V)} (pr:Paired (CpR K G F ks) D tvs) (hd:Rd F d (.dK D)) (ht:Rd F t (.dK tvs)):∃ tb,TabsAt K F d D tb/\Two F t tvs tb/\∀ z,TbOk ks 14 (tb z):=by
 have ex:∀ z,∃ J:List RW,((valV D (.inr z)=none/\J=[])\/ ∃ a,valV D (.inr z)=some (.ref a)/\F a=some (.lst (J.map (·.1))))/\((valV tvs (.inr z)=none/\J=[])\/ ∃ a,valV tvs (.inr z)=some (.ref a)/\F a=some (.lst (J.map (·.1))))/\(∀ e∈J,RowV K F e)/\TbOk ks 14 J:=λ z=>by
  rcases qik pr (.inr z) with ⟨e1,e2⟩ | ⟨v,w,e1,e2,_,a,Y,J,O,U,g3,g4,g5,g6,_⟩
  ·exact ⟨[],.inl ⟨e1,rfl⟩,.inl ⟨e2,rfl⟩,(λ _ z=>nomatch z),by decide,(λ _ z=>nomatch z),.nil⟩
  ·have O:v= .ref a:=O;have U:w= .ref Y:=U;subst O U;exact ⟨J,.inr ⟨a,e1,g3⟩,.inr ⟨Y,e2,g4⟩,g5,g6⟩
 obtain ⟨tb,B⟩:=Classical.axiomOfChoice ex;refine ⟨tb,⟨hd,λ z=>(B z).1,λ z=>(B z).2.2.1,λ z=> ?_⟩,⟨ht,λ z=>(B z).2.1⟩,λ z=>(B z).2.2.2⟩;have:=(B z).2.2.2.len;omega
theorem paired_at' {α β:Type} {R:α ->β ->Prop}:∀ {xs:List α} {ys:List β},Paired R xs ys ->∀ {i:Nat} {x:α},xs[i]? =some x ->∃ y,ys[i]? =some y/\R x y
 | _,_,.nil,i,x,h=>by simp at h
 | _,_,.cons a r,0,x,h=>by
  simp only [List.getElem?_cons_zero,Option.some.injEq] at h;subst h;exact ⟨_,zr,a⟩
 | _,_,.cons a r,i+1,x,h=>by
  obtain ⟨y,h1,h2⟩:=paired_at' r (i:=i) (by simpa using h);exact ⟨y,by simpa using h1,h2⟩
theorem qdk {α:Type}:∀ {l:List α} {i:Nat} {x:α},l.Nodup ->l[i]? =some x ->x∉l.take i
 | [],i,x,_,h=>by simp at h
 | a::l,0,x,_,_=>by simp
 | a::l,i+1,x,n,h=>by
  have h:l[i]? =some x:=by simpa using h
  obtain ⟨n1,n2⟩:=z2e.mp n;rw [List.take_succ_cons];intro z;rcases z2v.mp z with rfl | z
  ·exact n1 (z0u h)
  ·exact qdk n2 h z
theorem qil {K:PySem.W.Frag} {G F:Hp} {ks:List Key} (gk:∀ k∈ks,GoodK k):∀ {B tvs:List (Key×V)},Paired (CpR K G F ks) B tvs ->Paired (DatP K F) B tvs
 | _,_,.nil=> .nil
 | _,_,.cons h r=>by
  obtain ⟨e,a,a',D,e1,e2,h1,h2,h3,h4,_⟩:=h;have J:Dats K F (D.map rwD) (D.map (·.1)):=q66 λ e O=>qfb (h3 e O) λ u hu=>(gk u ((h4.row e O).2 u hu)).tx;refine .cons ⟨e,.list (D.map rwD),by rw [e1];exact .lst (SqL.of h1) J,by rw [e2];exact .lst (SqL.of h2) J,?_⟩ (qil gk r);have:=q7l D;show PyData.depthAll (D.map rwD)+1<=60;omega
theorem qkg {ms ks:List Key} {as:List (V×AT)} {cs:List (V×CT)} {tb:Str ->List RW} (gk:∀ k∈ks,GoodK k) (cap:∀ t∈ms,txtK capS t=true) (la:as.length<=3) (ga:∀ e∈as,AtK ms ks e.2) (gc:∀ e∈cs,PV ms ks as e.2.2.1/\PV ms ks as e.2.2.2/\SgOk e.2.1) (tok:∀ z,TbOk ks 14 (tb z)):
  (q29 [] (as.map (·.2))).length < 64/\(∀ e∈cs,chK [] e.2=true ->HOk [] e.2)/\
  (∀ i,(q26 (iniK (cs.map (·.2))) ((q1q [] cs tb (as.map (·.2))).take i)).length<=10000)/\
  (∀ (i:Nat) (d:SD),(q1q [] cs tb (as.map (·.2)))[i]? =some d ->∀ f∈q26 (iniK (cs.map (·.2))) ((q1q [] cs tb (as.map (·.2))).take i),AllK f.2/\f.2.length<=1000/\f.1.length<=1000/\∀ m∈q3k d f.2,∀ e∈d.due,HOk (q17 f.2 m.2) e.2):=by
 have J:∀ b∈as.map (·.2),b.2.length<=4:=λ b O=>by
  obtain ⟨e,D,rfl⟩:=z38.mp O;exact (ga e D).1
 have B:∀ t,PV ms ks as t ->txtK capS t=true\/ OkK t:=λ t h=>h.elim (λ h=> .inr (gk t h).ok) (λ h=> .inl (cap t h.1));have Y:∀ u∈ks,OkK u:=λ u hu=>(gk u hu).ok;have vals:∀ z,∀ e∈tb z,∀ x∈e.2,x∈ks:=λ z e D=>((tok z).row e D).2;have len:∀ z,(tb z).length<=14:=λ z=>by have:=(tok z).len;omega
 have lm:(as.map (·.2)).length=as.length:=z2c ..;obtain ⟨i1,i2⟩:=qo3 tb ks (cs.map (·.2));have fo:=λ i hi=>qbj (cs:=cs) (tb:=tb) (S:=ks) vals len (as.map (·.2)) [] (iniK (cs.map (·.2))) 0 i i1 i2 (λ b O=>z34 (J b O) (by decide)) hi;have ls:(q1q [] cs tb (as.map (·.2))).length=(as.map (·.2)).length:=qfc;refine ⟨?_,λ e D c=>qde (S:=ks) (ks:=[]) (k:=[]) (λ _ z=>nomatch z) Y OnlyV.nil (λ _ z=>nomatch z) c (B _ (gc e D).1) (B _ (gc e D).2.1),λ i=> ?_,λ i d hd f hf=> ?_⟩
 ·have:=qdf J;omega
 ·by_cases hi:i<=(as.map (·.2)).length
  ·have:=(fo i hi).2;have h3:i=0\/ i=1\/ i=2\/ i=3:=by omega
   refine z34 this ?_;rcases h3 with rfl | rfl | rfl | rfl <;> decide
  ·have:=(fo _ (z3b _)).2;rw [<- ls,z26] at this;rw [z0h (by omega)];refine z34 this ?_;exact z34 (Nat.pow_le_pow_right (by decide) (show _<=3 by omega)) (by decide)
 ·obtain ⟨b,O,rfl⟩:=qi8 hd;have il:=(z06.mp O).1;have F:=(fo i (z31 il)).1 f hf;have f1:=F.l1;have f2:=F.l2;refine ⟨F.vals.allK,by omega,by omega,λ m hm e D=> ?_⟩;obtain ⟨a0,_⟩:=z29.mp (show e∈(cs.filter λ e=>chK ([]++q1x ((as.map (·.2)).take i)++qz b.2) e.2).filter _ from D);obtain ⟨U,a6⟩:=z29.mp a0;have Z:=F.more (cs:=cs) (a:=b) vals (z34 (J b (z0u O)) (by decide)) hm;exact qde Z.vals Y Z.ov Z.bnd a6 (B _ (gc e U).1) (B _ (gc e U).2.1)
def qkh (K:PySem.W.Frag):Sp:=λ vs H Q _=>∃ (b:Addr) (us:List Key),vs=[.ref b]/\SqT K H b (us.map kV)/\(∀ u∈us,TxOk u)/\∀ H',Same H H' ->Q (.bl true) H'
theorem q74 (T:Txt K mg):Def P w K mg base 1 "_law_is_row" ["_law_row_here"] (qkh K):=by
 refine T.qbw.ok q71 (λ vs H Q E h=> ?_) λ f cdv A outer s H vs Q E hr h=> ?_
 ·obtain ⟨b,us,rfl,_⟩:=h;rfl
 ·obtain ⟨b,r,rfl,D,ok,q⟩:=h;have d0:Dat K H (.tuple (r.map keyD)) (.ref b):= .tup D (q36 ok);refine ⟨_,(q46
   (q1e (q33 (q1s (qu (q3b K) rfl T.q1j q1c (pa_2 (pv 0) (q3f rfl T.q2t q2h))))) (qi (qt q4f)) q11)
   (q1t PassesOwn.never rfl (q4d K (pv 0)) (qq (i:=1) q71.nd rfl (Or.inl rfl)) (qi (q1e (PW.pt (q68 (q1s (qu (q3b K) rfl T.q1j q1c (pa_2 (pv 1) (q3f rfl T.qip qf0)))) (q5n (q33 (q1s (qu (qg8 K) rfl T.q1j q1c (pa_2 (pv 1) (q2j (pa_2 (q3f rfl T.b_int q9x) (q3f rfl T.b_str q6w)))))))))) (qi (qt q4f)) q11)))
   (qt q4f)),?_⟩
  refine ⟨_,zr,_,_,_,zr,d0,by decide,_,zr,q1p rfl ?_⟩;refine ⟨_,rfl,b,rfl,⟨_,D⟩,q8d (xs:=r.map kV) (λ i σ H'=>∃ v1:Option V,σ=[some (.ref b),v1]/\Same H H') ⟨none,rfl,Same.refl _⟩ (λ i σ H' _ p=>by obtain ⟨_,_,z⟩:=p;exact z.seqT D) ?_ ?_⟩
  ·rintro i x σ H1 U ⟨v1,rfl,O⟩;rw [z1j] at U;obtain ⟨k,hk,rfl⟩:=z0k.mp U;have B:=ok k (z0u hk);refine ⟨_,rfl,_,_,_,rfl,q44 B,by decide,_,rfl,q1p (by cases k <;> rfl) ?_⟩;refine ⟨_,rfl,by show 2<=sizeLine;decide,λ tp J=> ?_⟩;refine ⟨_,_,_,keyD k,tp,rfl,qa,q44 B,by decide,by decide,_,rfl,q1p (by cases k <;> rfl) ?_⟩;exact ⟨_,zr,O.trans (qd J)⟩
  ·rintro σ H1 ⟨v1,rfl,O⟩;exact q _ O
theorem qfj {S:List Key}:∀ {as:List AT} {us:List RW},us.length=as.length ->(∀ (i:Nat) (a:AT) (e:RW),as[i]? =some a ->us[i]? =some e ->∀ x∈e.2,x∈S) ->∀ p∈q28 as us,p.2∈S
 | [],_,_,_,p,h=>nomatch h
 | _::_,[],_,_,p,h=>nomatch h
 | a::as,e::us,l,w,p,h=>by
  rcases z27.mp (show p∈a.2.zip e.2++q28 as us from h) with h | h
  ·exact w 0 a e rfl rfl _ (qi6 h)
  ·exact qfj (as:=as) (us:=us) (by simpa using l) (λ i a' e' h1 h2=>w (i+1) a' e' h1 h2) p h
theorem qfk {ms ks:List Key} {as:List (V×AT)} {e:CT} (nk:∀ k∈ks,txtK capS k=false) (h1:PV ms ks as e.2.1) (h2:PV ms ks as e.2.2):chK (q1x (as.map (·.2))) e=true:=by
 unfold chK qd4;refine z21.mpr λ t ht=> ?_;obtain ⟨t1,t2⟩:=z29.mp ht;have one:PV ms ks as t ->inK (q1x (as.map (·.2))) t=true:=λ h=>by
  rcases h with h | ⟨_,a,ha,B⟩
  ·rw [nk t h] at t2;cases t2
  ·exact q5j.mpr (List.mem_flatMap.mpr ⟨a.2,z38.mpr ⟨a,ha,zr⟩,z29.mpr ⟨B,t2⟩⟩)
 simp only [z2v,z24,or_false] at t1;rcases t1 with rfl | rfl
 ·exact one h1
 ·exact one h2
def qmu (K:PySem.W.Frag):Sp:=λ vs H Q _=>∃ (r t p h u hp ht:Addr) (hn:Str) (ts:List Key) (as:List (V×AT)) (cs:List (V×CT)) (tvs:List (Key×V)) (tb:Str ->List RW) (f:FD) (bk:List (Key×V)) (ms ks:List Key),vs=[.ref r,.ref t,.ref p]/\
 RuleAt K H r (.ref hp) as cs/\H hp=some (.tup [.str hn,.ref ht])/\H ht=some (.tup (ts.map kV))/\ts.length<=100/\Two H t tvs tb/\(∀ z,∀ e∈tb z,RwG K H e/\∀ x∈e.2,x∈ks)/\(∀ k∈ks,GoodK k)/\(∀ t∈ms,txtK capS t=true)/\(∀ e∈as,AtK ms ks e.2)/\(∀ t∈ts,PV ms ks as t)/\(∀ e∈cs,PV ms ks as e.2.2.1/\PV ms ks as e.2.2.2/\SgOk e.2.1)/\
 H p=some (.tup [.ref h,.ref u])/\H h=some (.tup (ts.map (tv f.2)))/\H u=some (.tup (f.1.map (·.1)))/\Snd tb cs (as.map (·.2)) (q1x (as.map (·.2))) f bk/\∀ H',Same H H' ->Q (.bl true) H'
theorem qdl (T:Txt K mg):Def P w K mg base 4 "_law_good" ["_law_rule_here","_law_tables_here","_law_told"] (qmu K):=by
 refine T.qeh.ok q60 (λ vs H Q E h=> ?_) λ f cdv A outer s H vs Q E hr h=> ?_
 ·obtain ⟨r,t,p,h,u,hp,ht,hn,ts,as,cs,tvs,tb,fd,bk,ms,ks,rfl,_⟩:=h;rfl
 ·obtain ⟨r,t,p,h,u,hp,ht,hn,ts,as,cs,tvs,tb,fd,bk,ms,ks,rfl,hR,b8,b9,c6,tw,rows,gk,cap,ga,gt,gc,hpp,hh,hu,D,k⟩:=h;obtain ⟨b,c,a8,hb,hc⟩:=hR.at_;have la:=hR.la;have lm:(as.map (·.2)).length=as.length:=z2c ..;have lf:=D.len;rw [lm] at lf;have nk:∀ k∈ks,txtK capS k=false:=λ k hk=>(gk k hk).no;have ai:AllIn ks bk:=AllIn.all (k:=[]) (λ _ z=>nomatch z) (qfj D.len λ i a e h1 h2=>(rows _ e (D.row i a e h1 h2).1).2) D.all;have ob:=OnlyV.nil.all D.all;have U:∀ t,PV ms ks as t ->txtK capS t=true\/ OkK t:=λ t h=>h.elim (λ h=> .inr (gk t h).ok) (λ h=> .inl (cap t h.1));have holds:(cs.all λ e=>q1k bk e.2)=true:=z21.mpr λ e B=>D.hold e B (qfk nk (gc e B).1 (gc e B).2.1);have hok:∀ e∈cs,HOk bk e.2/\SgOk e.2.1:=λ e B=>⟨qde ai (λ u hu=>(gk u hu).ok) ob D.bnd (qfk nk (gc e B).1 (gc e B).2.1) (U _ (gc e B).1) (U _ (gc e B).2.1),(gc e B).2.2⟩;have eh:ts.map (tv fd.2)=ts.map (tv bk):=z10 λ t _=>D.eq.tv t;rw [eh,q8l D.al] at hh;have oh:∀ x∈mKey ts bk,TxOk x:=λ x hx=>by
   obtain ⟨t,ht,rfl⟩:=z38.mp hx;cases q:valV bk t with
   | none=>
    rw [show tv bk t=kV t by unfold tv;rw [q];rfl,q5g];rcases gt t ht with h | h
    ·exact (gk t h).tx
    ·exact qij (cap t h.1)
   | some v=>
    obtain ⟨u,hu,e⟩:=ai.tv q;rw [e,q5g];exact (gk u hu).tx
  have rv:∀ e∈fd.1,∃ z,e∈tb z:=λ e B=>by
   obtain ⟨j,hj⟩:=List.getElem?_of_mem B;have jl:=(z06.mp hj).1;have l1:=D.len;exact ⟨_,(D.row j _ e (z09 (by omega)) hj).1⟩
  have du:Dat K H (usD fd.1) (.ref u):= .tup (SqT.of hu) (q66 λ e B=>let ⟨z,hz⟩:=rv e B;(rows z e hz).1.dat);have dh:Dat K H (.tuple ((mKey ts bk).map keyD)) (.ref h):= .tup (SqT.of hh) (q36 oh);have dp:Dat K H (.tuple [.tuple ((mKey ts bk).map keyD),usD fd.1]) (.ref p):= .tup (SqT.of hpp) (.cons dh (.cons du .nil));refine ⟨_,(qc4
   (q1e (PW.pt (q68 (q33 (q1s (qu (q3b K) rfl T.q1j q1c (pa_2 (pv 2) (q3f rfl T.q2t q2h))))) (q68 (q15 q4h (qu (q1b K) rfl T.b_len q1w (pa_1 (pv 2))) qc (q14 _)) (q5n (q33 (q1s (qu (q3b K) rfl T.q1j q1c (pa_2 (qh (qr K) (pv 2) qc (λ _ _=>rfl)) (q3f rfl T.q2t q2h))))))))) (qi (qt q4f)) q11)
   (q1e (PW.pt (q68 (q33 (q1s (ql (q74 T) hr rfl (pa_1 (qh (qr K) (pv 2) qc (λ _ _=>rfl)))))) (q5n (q15 q4h (qu (q1b K) rfl T.b_len q1w (pa_1 (qh (qr K) (pv 2) qc (λ _ _=>rfl)))) (qu (q1b K) rfl T.b_len q1w (pa_1 (qh (qr K) (pv 0) qc (λ _ _=>rfl)))) (q14 _))))) (qi (qt q4f)) q11)
   (q1t PassesOwn.never rfl (q2d rfl T.q38 (pa_1 (qu (q1b K) rfl T.b_len q1w (pa_1 (qh (qr K) (pv 2) qc (λ _ _=>rfl)))))) (qq (i:=3) q60.nd rfl (Or.inl rfl)) (qi (q1e (PW.pt (q68 (q33 (q1s (ql (q74 T) hr rfl (pa_1 (qh (qr K) (qh (qr K) (pv 2) qc (λ _ _=>rfl)) (pv 3) (λ _ _=>rfl)))))) (q5n (q15 (qhf hr.units K) (qh (qr K) (qh (qr K) (pv 2) qc (λ _ _=>rfl)) (pv 3) (λ _ _=>rfl)) (q3t (q2w hr) (pv 1) (qh (qr K) (qh (qr K) (qh (qr K) (pv 0) qc (λ _ _=>rfl)) (pv 3) (λ _ _=>rfl)) qc (λ _ _=>rfl)) (q1a q1h) ⟨rfl,rfl,rfl,rfl⟩) (by with_unfolding_all rfl))))) (qi (qt q4f)) q11)))
   (qo (i:=4) q60.nd rfl (Or.inl rfl) (ql (qab T) hr rfl (pa_2 (pv 0) (qh (qr K) (pv 2) qc (λ _ _=>rfl)))))
   (qt (qce (q24 qev (pv 4) q4y (q14 _)) (qcd (q24 (qno hr.units K) (pv 4) (qh (qr K) (pv 2) qc (λ _ _=>rfl)) (q14 _)))))),?_⟩
  refine ⟨_,zr,_,_,_,zr,dp,by decide,_,zr,q1p rfl ?_⟩;refine ⟨_,rfl,_,_,rfl,.inr ⟨_,SqT.of hpp,rfl⟩,rfl,_,rfl,q1p (by show (!decide (V.int 2=V.int 2))=false;rw [z2m rfl];rfl) ?_⟩;refine ⟨_,zr,_,_,_,_,zr,zr,SqT.of hpp,qk (j:=1) rfl,_,_,_,zr,du,by decide,_,zr,q1p rfl ?_⟩;refine ⟨_,zr,_,_,_,_,zr,zr,SqT.of hpp,qk (j:=0) rfl,h,mKey ts bk,zr,SqT.of hh,oh,λ H1 s1=>⟨_,zr,q1p rfl ?_⟩⟩;refine ⟨_,rfl,_,_,_,_,rfl,rfl,SqT.of (s1 _ _ hpp),qk (j:=1) rfl,_,_,rfl,.inr ⟨_,SqT.of (s1 _ _ hu),rfl⟩,_,rfl,_,_,_,_,rfl,rfl,s1.seqT a8,qk (j:=1) rfl,_,_,rfl,.inr ⟨_,s1.seqT hb,rfl⟩,rfl,_,rfl,q1p (by rw [z2c,z2c,lf,z2m rfl];rfl) ?_⟩;refine ⟨_,rfl,_,_,_,_,rfl,rfl,SqT.of (s1 _ _ hpp),qk (j:=1) rfl,_,_,rfl,.inr ⟨_,SqT.of (s1 _ _ hu),rfl⟩,_,rfl,by omega,by rw [z2c];omega,?_⟩;refine q39 (lo:=0) (n:=((fd.1.map (·.1)).length:Int).toNat) (λ i σ F=>∃ (v3:Option V),σ=[some (.ref r),some (.ref t),some (.ref p),v3,none]/\Same H F) ⟨none,zr,s1⟩ ?_ ?_
  ·rintro i σ F c0 ⟨v3,rfl,J⟩;have hi:i < as.length:=by rw [z2c] at c0;omega
   obtain ⟨e,a0⟩:∃ e,as[i]? =some e:=⟨_,z09 hi⟩;obtain ⟨O,a9⟩:∃ O,fd.1[i]? =some O:=⟨_,z09 (by omega)⟩;have a7:(as.map (·.2))[i]? =some e.2:=by rw [z1j,a0];rfl
   have a6:=(D.row i e.2 O a7 a9).1;obtain ⟨pe,qe,ee,c1,hqe⟩:=(hR.body e (z0u a0)).at_;obtain ⟨⟨pw,ew,c4⟩,gw⟩:=(rows _ O a6).1;have ae:atI (as.map (·.1)) (0+(i:Int))=some (.ref pe):=by
    rw [show (0+(i:Int):Int)=((i:Nat):Int) by omega];exact qk (j:=i) (by rw [z1j,a0];exact congrArg some ee)
   have au:atI (fd.1.map (·.1)) (0+(i:Int))=some (.ref pw):=by
    rw [show (0+(i:Int):Int)=((i:Nat):Int) by omega];exact qk (j:=i) (by rw [z1j,a9];exact congrArg some ew)
   refine ⟨_,zr,_,_,_,_,zr,zr,SqT.of (J _ _ hpp),qk (j:=1) rfl,_,zr,_,_,_,_,zr,zr,SqT.of (J _ _ hu),au,pw,O.2,zr,J.seqT c4,λ u hu=>(gw u hu).tx,λ F1 s2=>⟨_,zr,q1p rfl ?_⟩⟩;have Y:=J.trans s2;refine ⟨_,zr,_,_,_,_,zr,zr,SqT.of (Y _ _ hpp),qk (j:=1) rfl,_,zr,_,_,_,_,zr,zr,SqT.of (Y _ _ hu),au,?_⟩;have b0:=tw.same Y;refine ⟨_,zr,t,zr,.inl ⟨tvs,b0.1⟩,_,zr,_,_,_,_,zr,zr,Y.seqT a8,qk (j:=1) rfl,_,zr,_,_,_,_,zr,zr,Y.seqT hb,ae,_,_,_,_,zr,zr,SqT.of (Y _ _ c1),qk (j:=0) rfl,by decide,λ em b7=> ?_⟩;have s3:=qd (o:=HO.lst []) b7;have b4:=qa (H:=F1) (a:=em) (o:=HO.lst []);generalize upd F1 em (.lst [])=F2 at*;have Z:=Y.trans s3;have b3:=b0.same s3;obtain ⟨rq,b5,c5⟩:∃ rq,(valV tvs (.inr e.2.1)).getD (.ref em)=V.ref rq/\F2 rq=some (.lst ((tb e.2.1).map (·.1))):=by
    rcases b3.2 e.2.1 with ⟨e1,e2⟩ | ⟨a,e1,e2⟩
    ·rw [e1,e2];exact ⟨em,zr,b4⟩
    ·rw [e1];exact ⟨a,zr,e2⟩
   have d1:Dat K F2 (rwD O) (.ref pw):=by
    rw [<- ew];exact ((rows _ O a6).1.same Z).dat
   refine ⟨_,.inl ⟨tvs,.inr e.2.1,b3.1,rfl,rfl⟩,rwD O,(tb e.2.1).map rwD,d1,by rw [b5];exact .lst (SqL.of c5) (q66 λ e' b6=>((rows _ e' b6).1.same Z).dat),z34 (q7l _) (by decide),_,rfl,q1p ?_ ⟨_,rfl,Z⟩⟩;rw [qii,show ((tb e.2.1).any λ r=>decide (r.2=O.2))=true from z23.mpr ⟨O,a6,z2m rfl⟩];rfl
  ·rintro σ F ⟨v3,rfl,J⟩;refine ⟨_,rfl,_,rfl,_,_,_,_,rfl,rfl,SqT.of (J _ _ hpp),qk (j:=1) rfl,r,u,hp,ht,hn,ts,as,cs,fd.1,bk,rfl,hR.same J,J _ _ b8,J _ _ b9,c6,SqT.of (J _ _ hu),λ e B=>let ⟨z,hz⟩:=rv e B;(rows z e hz).1.1.same J,lf,λ i a e h1 h2=>(D.row i a e h1 h2).2,λ e B t ht=>((ga e B).2.1 t ht).elim (λ h=>qic (cap t h)) (λ h=>(gk t h).tm),D.all,hok,λ _ q F2 s2 hq=> ?_,λ hf=>absurd holds (by rw [hf];exact z15)⟩;rw [q8l D.al] at hq;have Z:=J.trans s2;have d1:Dat K F2 (.tuple ((mKey ts bk).map keyD)) (.ref q):= .tup (SqT.of hq) (q36 oh);have d2:Dat K F2 (.tuple ((mKey ts bk).map keyD)) (.ref h):= .tup (SqT.of (Z _ _ hh)) (q36 oh);refine ⟨_,rfl,rfl,_,rfl,q4x (by rw [z28 (λ e=>nomatch e)];rfl) ?_⟩;refine ⟨_,zr,_,zr,_,_,_,_,zr,zr,SqT.of (Z _ _ hpp),qk (j:=0) rfl,_,_,d1,d2,?_,?_⟩
   ·have:=q4b (mKey ts bk);show PyData.depthAll ((mKey ts bk).map keyD)+1<=60;omega
   ·rw [SeqAt.eqv_refl _ (Dat.lay _ _ d1)];exact k F2 Z
def sp_law (K:PySem.W.Frag):Sp:=λ vs H Q _=>∃ (a:Addr) (ns:List Int),vs=[.ref a]/\SqL K H a (ns.map V.int)/\ns.length<=63/\∀ H',Q (.bl true) H'
theorem qod {l:PySem.W.OpenLaw} {w:World} {K:PySem.W.Frag} {mg:Str ->Option Value} {fa:Addr} (T:Txt K mg) (c1:mg "law"=some (.ref fa)):
  ∃ fd:FuncData,(∀ (s:Shared) (v:Value),BindsTo s fd ⟨[v],[]⟩ [("_law_script",v)])/\∀ base:Heap,K.In base ->base.Ns mainGlobals mg ->FnOk l.prog w K mg base CX0 12 fa fd ["_law_script"] (sp_law K):=by
 refine T.t_law.fin c1 q72 (λ vs H Q E h=> ?_) λ base f cdv A outer s H vs Q E hr h=> ?_
 ·obtain ⟨a,ns,rfl,_⟩:=h;rfl
 ·obtain ⟨a,ns,rfl,hS,b5,k⟩:=h;refine ⟨_,(qg2
   (qgq (ql (qay T) hr rfl (pa_1 (pv 0))) (q43 rfl (q1g (qq (i:=1) q72.nd rfl (Or.inr rfl)) (q1g (qq (i:=2) q72.nd rfl (Or.inr rfl)) q34))))
   (qo (i:=3) q72.nd rfl (Or.inl rfl) q5r)
   (q1t PassesOwn.never rfl (qjg (pv 2)) (qq (i:=4) q72.nd rfl (Or.inl rfl)) (qi (qal (q2w hr) (pv 3) (pv 4) (q1u (qg1 K) rfl T.qin qf1 (pa_1 (qak (q2w hr) (pv 2) (pv 4) (λ _ _=>rfl)))) rfl)))
   (qo (i:=5) q72.nd rfl (Or.inl rfl) (ql (qda T) hr rfl (pa_2 (pv 1) (pv 3))))
   (q1e (PW.pt (q68 (q33 (q1s (qu (q5s K) rfl T.q1j q1c (pa_2 (pv 5) (q3f rfl T.qin qf1))))) (q5n (q15 (qji hr.units K) (pv 3) (pv 2) (q14 _))))) (qi (qt q4f)) q11)
   (qt (qu (q6c rfl K) rfl T.b_all q9w (pa_1 (q25 (N:=["_law_told","_law_rule_here","_law_tables_here"]) (caps:=[none,some 1,some 2]) rfl (by with_unfolding_all rfl) (q23 K (pv 5)) (λ _ _ _ _ _=>(qq (i:=0) (show (["_law_told","_law_rule_here","_law_tables_here"]:List Str).Nodup by decide+kernel) rfl (Or.inl rfl))) (λ _ _ _ _ _=>q3u) (λ _ _ _ _ _=>(ql (qdl T) hr rfl (pa_3 (pv 1) (pv 2) (pv 0))))))))),?_⟩
  refine ⟨_,zr,a,ns,zr,hS,b5,λ p r t hp ht hn ts as cs tvs ms ks G sg hpp C=> ?_⟩;refine ⟨p,_,zr,SqT.of hpp,zr,_,_,zr,_,_,zr,zr,?_⟩;refine λ O a7=> ?_;have s1:=qd (o:=HO.dK []) a7;have e1:=qa (H:=G) (a:=O) (o:=HO.dK []);have b7:t≠O:=λ z=>by rw [<- z,C.tab] at a7;cases a7
  generalize upd G O (.dK [])=G1 at*;have c5:=s1 _ _ C.tab;obtain ⟨most,m14,c8⟩:=C.tabs;refine ⟨_,rfl,t,tvs,rfl,.inl ⟨c5,λ o=>qjh (a:=t) (o:=o) (kvs:=tvs) (λ i σ F=>∃ (v4:Option V) (B:List (Key×V)),σ=[some (.ref a),some (.ref r),some (.ref t),some (.ref O),v4,none]/\Keep t G F/\F t=some (.frz o (.dK tvs))/\F O=some (.dK B)/\Paired (CpR K G F ks) B (tvs.take i)) ⟨none,[],rfl,(λ a o n h=>by rw [qg n];exact s1 _ _ h),qa,by rw [qg b7.symm];exact e1,.nil⟩ (λ i σ F _ z=> ?_) ?_ ?_⟩⟩
  ·obtain ⟨_,_,_,_,z,_⟩:=z;exact z
  ·rintro i kv σ F Z ⟨v4,B,rfl,kp,a0,Y,pr⟩;obtain ⟨z,ez⟩:=C.keys.1 kv (z0u Z);obtain ⟨kk,vv⟩:=kv;have ez:kk= .inr z:=ez;subst ez;have il:=(z06.mp Z).1;have lv:=C.lv;have b6:(Sum.inr z:Key)∉(tvs.take i).map (·.1):=by
    rw [List.map_take];exact qdk C.keys.2 (by rw [z1j,Z];rfl)
   have b0:valV tvs (.inr z)=some vv:=by
    have:∀ {l:List (Key×V)} {i:Nat},l[i]? =some (.inr z,vv) ->(Sum.inr z:Key)∉(l.take i).map (·.1) ->valV l (.inr z)=some vv:=by
     intro l
     induction l with
     | nil=>intro i h;simp at h
     | cons x l ih=>
      intro i h hn;cases i with
      | zero=>
       simp only [List.getElem?_cons_zero,Option.some.injEq] at h;subst h;rw [q52,if_pos rfl]
      | succ i=>
       rw [List.take_succ_cons,z2t] at hn;obtain ⟨x1,x2⟩:=x;rw [q52,if_neg (λ e=>hn (by rw [<- e];exact z18 ..))];exact ih (by simpa using h) (λ e=>hn (z0s _ e))
    exact this Z b6
   obtain ⟨La,rs,rfl,d0,c0,rows,a9⟩:=c8 _ _ b0;have a8:F La=some (.lst (rs.map (·.1))):=kp.kd C.tab c0 nofun;refine ⟨_,zr,_,zr,t,_,zr,.inl ⟨tvs,.inr z,.inr ⟨o,a0⟩,zr,b0.symm⟩,_,_,zr,.inl (SqL.of a8),λ Lc J=> ?_⟩;have s2:=qd (o:=HO.lst (rs.map (·.1))) J;have e2:=qa (H:=F) (a:=Lc) (o:=HO.lst (rs.map (·.1)));generalize upd F Lc (.lst (rs.map (·.1)))=F2 at*;have a6:=s2 _ _ Y;have lh:B.length=(tvs.take i).length:=Paired.length pr;rw [z1u] at lh;refine ⟨_,zr,_,zr,O,_,zr,DPut.k (k:= .inr z) a6 (q1r (by omega)),?_⟩;have pn:putK B (.inr z) (.ref Lc)=B++ [(.inr z,.ref Lc)]:=qfg (qdb (by rw [qfi pr];exact b6));have kd:Keep O F2 (upd F2 O (.dK (putK B (.inr z) (.ref Lc)))):=λ a o n h=>by rw [qg n];exact h
   have c7:Lc≠O:=λ e=>by rw [e,Y] at J;cases J
   refine ⟨_,B++ [(.inr z,.ref Lc)],zr,λ a o n h=> ?_,?_,by rw [qa,pn],?_⟩
   ·rw [qg (λ e=>by rw [e,a7] at h;cases h)];exact s2 _ _ (kp _ _ n h)
   ·rw [qg b7];exact s2 _ _ a0
   ·rw [z2r,Z];refine q7j (L2.Paired.mapP pr λ _ _ h=>(h.same s2).kd kd a6) (.cons ⟨zr,Lc,La,rs,zr,zr,kd _ _ c7 e2,kd.kd a6 (s2 _ _ a8) nofun,λ e he=>((((rows e he).kd kp C.tab).same s2)).kd kd a6,?_⟩ .nil);refine ⟨⟨by have:=a9.len;omega,a9.row,a9.ord⟩,?_⟩;cases q:G Lc with
    | none=>rfl
    | some o'=>
     have ne:Lc≠t:=λ e=>by rw [e,a0] at J;cases J
     rw [kp _ _ ne q] at J;cases J
  ·rintro σ F ⟨v4,B,rfl,kp,a0,Y,pr⟩;rw [z26] at pr;obtain ⟨tb,hT,tw,tok⟩:=qmt pr (.inl Y) (.inr ⟨o,a0⟩);obtain ⟨L1,b9,L3,L4⟩:=qkg (tb:=tb) C.gk C.cap C.la C.ats C.chs tok;have hR:=C.rule.kd kp C.tab;have b3:=kp.kd C.tab C.hd nofun;have b4:=kp.kd C.tab C.tm nofun;have lts:=C.lt;refine ⟨_,zr,_,zr,r,O,hp,ht,hn,ts,as,cs,B,tb,zr,hR,SqT.of b3,SqT.of b4,by omega,hT,L1,b9,L3,L4,λ R xs F2 s2 fR U b8=> ?_⟩;refine ⟨_,zr,_,_,"list",zr,TyOf.lst U,by decide,by decide,_,zr,q1p rfl ?_⟩;have c9:=tw.same s2;refine ⟨_,zr,_,zr,O,t,B,tvs,zr,zr,qat s2 (.inl Y),c9.1,qil C.gk (L2.Paired.mapP pr λ _ _ h=>h.same s2),_,zr,q1p rfl ?_⟩;have lx:xs.length<=10000:=by
    have h1:=Paired.length b8;have h2:=L3 (q1q [] cs tb (as.map (·.2))).length;rw [z26] at h2;omega
   have snd:=q92 (cs:=cs) (tb:=tb) (as.map (·.2)) [] [] (iniK (cs.map (·.2))) (qi9 tb cs);refine ⟨_,zr,R,zr,⟨_,SqL.of U⟩,λ D hD=> ?_⟩;refine q20 xs.length (λ i σ' E'=>(∃ v,σ'=[v,some (.ref r),some (.ref t)])/\Same F2 E'/\E' D=some (.lst ((List.replicate i true).map V.bl))) ⟨⟨_,zr⟩,qd hD,qa⟩ (λ i σ' E' hi p=> ?_) (λ σ' E' p=>⟨?_,?_⟩) (λ i σ' E' hi p x E3 y=> ?_)
   ·exact ⟨_,_,SqL.of (p.2.1 _ _ U),z09 hi⟩
   ·exact ⟨_,SqL.of (p.2.1 _ _ U),z3b _⟩
   ·obtain ⟨_,sm,e⟩:=p;refine ⟨D,_,zr,SqL.of e,?_⟩;rw [show (List.replicate xs.length true).all id=true from z21.mpr λ b hb=>(List.mem_replicate.mp hb).2];exact k E'
   ·obtain ⟨⟨v,rfl⟩,sm,e⟩:=p;obtain ⟨rfl,hx⟩:=y;have c6:=hx _ (SqL.of (sm _ _ U));obtain ⟨fd,c4,pq,h,u,rfl,g1,g2,g3⟩:=paired_at' b8 c6;obtain ⟨bk,sn⟩:=snd fd (z0u c4);rw [List.nil_append,List.nil_append] at sn;have S:=s2.trans sm;refine ⟨_,zr,_,zr,_,zr,r,t,pq,h,u,hp,ht,hn,ts,as,cs,tvs,tb,fd,bk,ms,ks,zr,hR.same S,S _ _ b3,S _ _ b4,by omega,tw.same S,λ z e he=>⟨⟨(hT.rows z e he).same S,λ u hu=>C.gk u (((tok z).row e he).2 u hu)⟩,((tok z).row e he).2⟩,C.gk,C.cap,C.ats,C.hts,C.chs,sm _ _ g1,sm _ _ g2,sm _ _ g3,sn,λ E4 s4=> ?_⟩;refine ⟨_,s4 _ _ e,?_,⟨_,zr⟩,(sm.trans s4).set hD,?_⟩
    ·rw [z2c,List.length_replicate];exact z1a (show _ < 20000 by omega) (by decide)
    ·rw [qa,List.replicate_succ',z2h];rfl
open PySem.W in
theorem qdm {K:PySem.W.Frag} {h:Heap} {mg:Str ->Option Value} (X:K.In h) (G:h.Ns mainGlobals mg) {aB aC aD:Tok}
  (aE:nsIn K mainGlobals "all"=some none)
  (aF:nsIn K mainGlobals "bool"=some none)
  (aG:nsIn K mainGlobals "dict"=some none)
  (aH:nsIn K mainGlobals "enumerate"=some none)
  (aI:nsIn K mainGlobals "int"=some none)
  (aJ:nsIn K mainGlobals "isinstance"=some none)
  (aK:nsIn K mainGlobals "len"=some none)
  (aL:nsIn K mainGlobals "list"=some none)
  (aM:nsIn K mainGlobals "range"=some none)
  (aN:nsIn K mainGlobals "set"=some none)
  (aO:nsIn K mainGlobals "sorted"=some none)
  (aP:nsIn K mainGlobals "str"=some none)
  (aQ:nsIn K mainGlobals "tuple"=some none)
  (aR:nsIn K mainGlobals "zip"=some none)
  (aS:nsIn K mainGlobals "CAPITAL_LETTERS"=some (some (.str "ABCDEFGHIJKLMNOPQRSTUVWXYZ" aB)))
  (aT:nsIn K mainGlobals "FURTHER_SIGNS"=some (some (.str "abcdefghijklmnopqrstuvwxyz0123456789" aC)))
  (aU:nsIn K mainGlobals "MOST_SIGNS"=some (some (.int 12 aD)))
  (aV:FiK K "is_whole" q7b)
  (aW:FiK K "is_text_begun_by" q3v)
  (aX:FiK K "is_var" q9b)
  (aY:FiK K "value_key" q6j)
  (aZ:FiK K "value_before" q4o)
  (a0:FiK K "matched" q85)
  (a1:FiK K "put_in" q9c)
  (a2:FiK K "holds" qap)
  (a3:FiK K "variables_in" q4p)
  (a4:FiK K "variables_of_body" q3o)
  (a5:FiK K "are_known" q6k)
  (a6:FiK K "rows_by_shared" q48)
  (a7:FiK K "choices_known" q4j)
  (a8:FiK K "choices_due" q54)
  (a9:FiK K "all_hold" q7c)
  (aa:FiK K "asked_later" q55)
  (ab:FiK K "steps_of" q7d)
  (ac:FiK K "instances" q6m)
  (ad:FiK K "_law_cell_at" q4q)
  (ae:FiK K "_law_stream" q56)
  (af:FiK K "_law_names" q5x)
  (ag:FiK K "_law_values" q57)
  (ah:FiK K "_law_row" q7e)
  (ai:FiK K "_law_value_ahead" q3w)
  (aj:FiK K "_law_ahead" q5y)
  (ak:FiK K "_law_put_among" q4a)
  (al:FiK K "_law_tables" q58)
  (am:FiK K "_law_term" q6n)
  (an:FiK K "_law_rule" q6o)
  (ao:FiK K "_law_bind" q6p)
  (ap:FiK K "_law_choice_holds" q3p)
  (aq:FiK K "_law_head_by" q4r)
  (ar:FiK K "_law_handed" q59)
  (as:FiK K "_law_is_row" q5a)
  (au:FiK K "_law_good" q6q)
  (av:FiK K "law" qge)
  (B:CiK K "Step")
  (aw:AiK K "Step" "asks" (some none))
  (ax:AiK K "Step" "by_shared" (some none))
  (ay:AiK K "Step" "due" (some none))
  (az:AiK K "Step" "rows" (some none))
  (bA:AiK K "Step" "shared" (some none))
  (bB:AiK K "Step" "table" (some none))
  (bC:AiK K "Step" "terms" (some none))
  (bD:MiK K "Step" "__init__" "Step.__init__" q6l)
  (bE:MiK K "Step" "joined_on" "Step.joined_on" q49):Txt K mg:=
 ⟨z1f X G aE,
  z1f X G aF,
  z1f X G aG,
  z1f X G aH,
  z1f X G aI,
  z1f X G aJ,
  z1f X G aK,
  z1f X G aL,
  z1f X G aM,
  z1f X G aN,
  z1f X G aO,
  z1f X G aP,
  z1f X G aQ,
  z1f X G aR,
  ⟨_,z2z X G aS⟩,
  ⟨_,z2z X G aT⟩,
  ⟨_,z2z X G aU⟩,
  aV.top X G (λ _ _ _ _ _ _=>us1 λ _=>rfl),
  aW.top X G (λ _ _ _ _ _ _=>us2 λ _ _=>rfl),
  aX.top X G (λ _ _ _ _ _ _=>us1 λ _=>rfl),
  aY.top X G (λ _ _ _ _ _ _=>us1 λ _=>rfl),
  aZ.top X G (λ _ _ _ _ _ _=>us2 λ _ _=>rfl),
  a0.top X G (λ _ _ _ _ _ _=>us3 λ _ _ _=>rfl),
  a1.top X G (λ _ _ _ _ _ _=>us2 λ _ _=>rfl),
  a2.top X G (λ _ _ _ _ _ _=>us2 λ _ _=>rfl),
  a3.top X G (λ _ _ _ _ _ _=>us1 λ _=>rfl),
  a4.top X G (λ _ _ _ _ _ _=>us1 λ _=>rfl),
  a5.top X G (λ _ _ _ _ _ _=>us2 λ _ _=>rfl),
  a6.top X G (λ _ _ _ _ _ _=>us3 λ _ _ _=>rfl),
  a7.top X G (λ _ _ _ _ _ _=>us2 λ _ _=>rfl),
  a8.top X G (λ _ _ _ _ _ _=>us3 λ _ _ _=>rfl),
  a9.top X G (λ _ _ _ _ _ _=>us2 λ _ _=>rfl),
  aa.top X G (λ _ _ _ _ _ _=>us4 λ _ _ _ _=>rfl),
  ab.top X G (λ _ _ _ _ _ _=>us4 λ _ _ _ _=>rfl),
  ac.top X G (λ _ _ _ _ _ _=>us2 λ _ _=>rfl),
  ad.top X G (λ _ _ _ _ _ _=>us2 λ _ _=>rfl),
  ae.top X G (λ _ _ _ _ _ _=>us2 λ _ _=>rfl),
  af.top X G (λ _ _ _ _ _ _=>us4 λ _ _ _ _=>rfl),
  ag.top X G (λ _ _ _ _ _ _=>us1 λ _=>rfl),
  ah.top X G (λ _ _ _ _ _ _=>us3 λ _ _ _=>rfl),
  ai.top X G (λ _ _ _ _ _ _=>us2 λ _ _=>rfl),
  aj.top X G (λ _ _ _ _ _ _=>us2 λ _ _=>rfl),
  ak.top X G (λ _ _ _ _ _ _=>us3 λ _ _ _=>rfl),
  al.top X G (λ _ _ _ _ _ _=>us4 λ _ _ _ _=>rfl),
  am.top X G (λ _ _ _ _ _ _=>us3 λ _ _ _=>rfl),
  an.top X G (λ _ _ _ _ _ _=>us5 λ _ _ _ _ _=>rfl),
  ao.top X G (λ _ _ _ _ _ _=>us3 λ _ _ _=>rfl),
  ap.top X G (λ _ _ _ _ _ _=>us2 λ _ _=>rfl),
  aq.top X G (λ _ _ _ _ _ _=>us2 λ _ _=>rfl),
  ar.top X G (λ _ _ _ _ _ _=>us1 λ _=>rfl),
  as.top X G (λ _ _ _ _ _ _=>us1 λ _=>rfl),
  au.top X G (λ _ _ _ _ _ _=>us3 λ _ _ _=>rfl),
  av.top X G (λ _ _ _ _ _ _=>us1 λ _=>rfl),
  B.g X G,
  B.cl X G,
  B.mk' X G,
  B.kp X G,
  aw.at' X G,
  ax.at' X G,
  ay.at' X G,
  az.at' X G,
  bA.at' X G,
  bB.at' X G,
  bC.at' X G,
  bD.top X G (λ _ _ _ _ _ _=>us6 λ _ _ _ _ _ _=>rfl),
  bE.top X G (λ _ _ _ _ _ _=>us2 λ _ _=>rfl)⟩
end Wy
open PySem PySem.W PyProof.Rows
namespace PySem.W.Fast
end PySem.W.Fast
namespace PySem.W.Fast
def tw7664174309744408194:=0
def tw12404540771708645152:=0
def tw12583996193815488575:=0
def tw2975537554757455528:=0
def tw7905775914962191437:=0
def tw16715453436246039964:=0
def tw4399197252622461275:=0
def tw10853934448788920698:=0
def tw9882864652033400346:=0
def tw13216542660106188240:=0
def tw9337955426528542637:=0
def tw9529378991757325762:=0
def tw5565004781117563638:=0
def tw3301678363236872179:=0
def tw13535779179872118860:=0
def tw7833082403378351801:=0
def tw1415024064935007065:=0
def tw2631630804978015251:=0
def tw17280323830651429707:=0
def tw16815624546611443246:=0
def tw2263447808289995544:=0
def tw11610280899036586521:=0
def tw18259957444066891466:=0
def tw2035755919113289605:=0
def tw18130011308903295986:=0
def tw404680692151257020:=0
def tw12774696848427713916:=0
def tw17644156047745497898:=0
def tw11560773756445318710:=0
def tw2904396827988915274:=0
def tw2015363973733718202:=0
def tw273243715433772491:=0
def tw2621124982626128766:=0
def tw456440678986327079:=0
def tw12107430816702560121:=0
def tw9172570996183094533:=0
def tw6443383733137868031:=0
def tw14002300588068950596:=0
def tw198891857156858067:=0
def tw830887648918161268:=0
def tw304997509507987070:=0
def tw11451294796670854296:=0
def tw18211990519990184643:=0
def tw14480122854551752814:=0
def tw16445464284261015124:=0
def tw6450032914825215267:=0
def tw13132673849505906028:=0
def tw10462487890040188290:=0
def tw12200498979342718834:=0
def tw6685788714718904229:=0
def tw9607571467898954244:=0
def tw1362954698176930519:=0
def tw8246734174422318896:=0
def tw10128047130034080325:=0
def tw2450221810051494303:=0
def tw15240193333983117577:=0
def tw2097908254593498399:=0
def tw15299587288009449977:=0
def tw13805258010529566451:=0
def tw1237824443978658132:=0
def tw11527758199330050284:=0
def tw12248039115266847154:=0
def tw2684555241699387833:=0
def tw14814213876689472778:=0
def tw16856494026368201059:=0
def tw16284733180023047865:=0
def tw10421771078552828229:=0
def tw9743976745142209047:=0
def tw13009835294375081868:=0
def tw9784765888983584659:=0
def tw15702221956510932300:=0
def tw6290194793814694380:=0
def tw1836436070012660846:=0
def tw12567385102762729119:=0
def tw14899648757341995288:=0
def tw13728867284944696918:=0
def tw10735114748835420085:=0
def tw7938449959126534905:=0
def tw1730068103769466298:=0
def tw788463807191068697:=0
def tw17776152997639646489:=0
def tw9929067662038213799:=0
def tw14173390614094597422:=0
def tw15384157144865969533:=0
def tw11850260241721230060:=0
end PySem.W.Fast
set_option maxRecDepth 100000 in
set_option maxHeartbeats 0 in
theorem PySem.Challenge.cw_whyrows_k44_instances_walk_holds : PySem.Challenge.rw_whyrows_k44_instances_walk.Holds := by
 w_on;o_law;k_head;(case hw=>w_witness2)
 k_fill
 refine L2.qj7 (l:=PySem.Challenge.rw_whyrows_k44_instances_walk) (n:=63) (k:=12) (x:="_law_script") (CX:=L2.CX0) (sp:=Wy.sp_law) rfl (by decide) rfl ⟨zr,by decide,by decide⟩ (λ w h Y=>PySem.W.kIn_of Y) ?F ?S ?C
 case F=>
  intro w mg fa h KX G hmg;have T:Wy.Txt (L2.KOf KX) mg:=by
   dsimp only [L2.KOf]
   refine' Wy.qdm KX G ?_ ?_ ?_ ?_ ?_ ?_ ?_ ?_ ?_ ?_ ?_ ?_ ?_ ?_ ?_ ?_ ?_ ?_ ?_ ?_ ?_ ?_ ?_ ?_ ?_ ?_ ?_ ?_ ?_ ?_ ?_ ?_ ?_ ?_ ?_ ?_ ?_ ?_ ?_ ?_ ?_ ?_ ?_ ?_ ?_ ?_ ?_ ?_ ?_ ?_ ?_ ?_ ?_ ?_ ?_ ?_ ?_ ?_ ?_ ?_ ?_ ?_ ?_
   all_goals first | (refine' L2.fiK ?_ ?_ ?_ ?_;all_goals first | k_is | skip) | (refine' L2.miK ?_ ?_ ?_ ?_ ?_ ?_;all_goals first | k_is | skip) | (refine' L2.ciK ?_ ?_ ?_ ?_ ?_ ?_ ?_;all_goals first | k_is | skip) | (refine' L2.aiK ?_ ?_;all_goals first | k_is | skip) | k_is | skip
  exact Wy.qod T hmg
 case S=>exact λ K H a ns hl hO hS=>⟨a,ns,rfl,hS,hl,λ _=>rfl⟩
 case C=>exact λ _ _ _ _ z=>z
