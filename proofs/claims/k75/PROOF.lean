import PyProof.Rows.All
import Wide.All
import OpenK.AllK
import PySem.Challenge.RW_whyrows_k75_ledger
set_option Elab.async false
set_option linter.all false
set_option maxRecDepth 100000
set_option maxHeartbeats 4000000
set_option genSizeOf false
theorem zr {α:Sort u} {a:α}:a=a:=rfl
def z00:=@PySem.F.slot_dict_keyiterator_next
def z01:=@PySem.wpAny_typeNameOfWhole_keyiter
def z02:=@PyProof.Rows.callWith_type1
def z03:=@Array.perm_iff_toList_perm
def z04:=@List.getElem?_append_right
def z05:=@List.getD_eq_getElem?_getD
def z06:=@List.getElem?_eq_some_iff
def z07:=@List.pairwise_iff_getElem
def z08:=@List.drop_eq_getElem_cons
def z09:=@List.extract_eq_take_drop
def z0a:=@List.getElem?_eq_getElem
def z0b:=@PySem.F.slot_list_append
def z0c:=@PySem.F.type_list_append
def z0d:=@List.pairwise_singleton
def z0e:=@PySem.F.plain_list_iadd
def z0f:=@List.length_eq_zero_iff
def z0g:=@PySem.F.plainAttrs_list
def z0h:=@Int.eq_ofNat_of_zero_le
def z0i:=@List.take_of_length_le
def z0j:=@PySem.Heap.get?_push_of_some
def z0k:=@PySem.Heap.get?_update_other
def z0l:=@Option.map_eq_some_iff
def z0m:=@Array.getElem?_eq_none
def z0n:=@List.find?_cons_of_pos
def z0o:=@List.find?_cons_of_neg
def z0p:=@List.perm_append_comm
def z0q:=@List.take_append_drop
def z0r:=@List.mem_append_right
def z0s:=@Array.getElem?_toList
def z0t:=@PySem.Heap.get?_update_self
def z0u:=@List.pairwise_append
def z0v:=@List.mem_iff_getElem
def z0w:=@Array.toList_extract
def z0x:=@List.mem_of_mem_drop
def z0y:=@List.mem_of_mem_take
def z0z:=@List.mem_cons_of_mem
def z10:=@List.mem_append_left
def z11:=@List.mem_of_getElem?
def z12:=@Array.length_toList
def z13:=@Array.toList_append
def z14:=@PySem.Heap.SameBut.update
def z15:=@PySem.Heap.get?_push_size
def z16:=@PySem.mem_of_lookup
def z17:=@List.map_congr_left
def z18:=@List.toList_toArray
def z19:=@List.getElem_of_mem
def z1a:=@Bool.false_eq_true
def z1b:=@Bool.false_ne_true
def z1c:=@List.mem_singleton
def z1d:=@Array.size_extract
def z1e:=@List.length_append
def z1f:=@List.mem_cons_self
def z1g:=@List.pairwise_cons
def z1h:=@Nat.lt_of_lt_of_le
def z1i:=@PySem.wpAny_Call_Name_kw
def z1j:=@List.zip_cons_cons
def z1k:=@List.filter_append
def z1l:=@Int.lt_of_le_of_lt
def z1m:=@Int.emod_lt_of_pos
def z1n:=@PySem.W.mg_none_of
def z1o:=@List.append_assoc
def z1p:=@List.getElem_take
def z1q:=@Array.toList_push
def z1r:=@List.ext_getElem?
def z1s:=@List.getElem?_map
def z1t:=@List.size_toArray
def z1u:=@PySem.wpAny_truthy_bool
def z1v:=@PySem.wpAny_pyIter_list
def z1w:=@Int.toNat_natCast
def z1x:=@PySem.wpAny_newObj_type
def z1y:=@PySem.wpAny_dictEntries
def z1z:=@List.mapM_toArray
def z20:=@Nat.lt_succ_of_lt
def z21:=@List.foldl_append
def z22:=@List.length_take
def z23:=@List.length_drop
def z24:=@List.length_cons
def z25:=@List.filter_cons
def z26:=@List.getElem_mem
def z27:=@Nat.lt_succ_self
def z28:=@Bool.and_eq_true
def z29:=@List.all_eq_true
def z2a:=@PySem.wpAny_call_entry
def z2b:=@List.any_eq_true
def z2c:=@Nat.succ_le_succ
def z2d:=@List.not_mem_nil
def z2e:=@List.take_length
def z2f:=@List.mem_append
def z2g:=@List.cons.injEq
def z2h:=@decide_eq_false
def z2i:=@List.mem_filter
def z2j:=@PySem.wpAny_passesOwn
def z2k:=@Bool.eq_iff_iff
def z2l:=@List.length_map
def z2m:=@List.append_nil
def z2n:=@List.nodup_cons
def z2o:=@List.find?_cons
def z2p:=@List.length_nil
def z2q:=@List.map_append
def z2r:=@PySem.W.kia_one
def z2s:=@PySem.wpAny_dictEpoch
def z2t:=@PySem.codeAny_builtin
def z2u:=@Int.emod_nonneg
def z2v:=@PySem.W.binds_K
def z2w:=@decide_eq_true
def z2x:=@List.mem_range
def z2y:=@Bool.false_and
def z2z:=@PySem.Heap.size_push
def z30:=@List.nodup_nil
def z31:=@List.take_succ
def z32:=@Int.mul_nonneg
def z33:=@List.map_cons
def z34:=@PySem.wpAny_attempt
def z35:=@List.mem_cons
def z36:=@PySem.wpAny_holding
def z37:=@Nat.lt_irrefl
def z38:=@List.any_cons
def z39:=@PySem.W.mg_of
def z3a:=@Bool.true_and
def z3b:=@decide_false
def z3c:=@Int.le_of_lt
def z3d:=@Int.le_trans
def z3e:=@Nat.zero_add
def z3f:=@Nat.le_of_lt
def z3g:=@PySem.Heap.lt_size
def z3h:=@Nat.ne_of_lt
def z3i:=@Nat.le_trans
def z3j:=@Nat.ne_of_gt
def z3k:=@PySem.codeAny_mono
def z3l:=@List.map_nil
def z3m:=@List.mem_map
def z3n:=@List.all_map
def z3o:=@List.map_map
def z3p:=@Nat.le_refl
def z3q:=@decide_true
def z3r:=@Int.le_refl
def z3s:=@Nat.zero_le
def z3t:=@PySem.wpAny_rule
def z3u:=@PySem.wpAny_pure
def z3v:=@PySem.wpAny_bind
def z3w:=@PySem.wpAny_mono
namespace Tim
open PySem PyProof.Rows
def kx (rk:Keyed ->Int) (xs:Array Keyed) (i:Nat):Int:=match xs[i]? with
 | some p=>rk p
 | none=>0
def Up (rk:Keyed ->Int) (xs:Array Keyed) (lo hi:Nat):Prop:=∀ i j,lo<=i ->i<=j ->j < hi ->kx rk xs i<=kx rk xs j
def Dn (rk:Keyed ->Int) (xs:Array Keyed) (lo hi:Nat):Prop:=∀ i j,lo<=i ->i<=j ->j < hi ->kx rk xs j<=kx rk xs i
theorem q2q {rk:Keyed ->Int} {xs:Array Keyed} {i:Nat} {p:Keyed} (h:xs[i]? =some p):kx rk xs i=rk p:=by unfold kx;rw [h]
theorem q3w {rk:Keyed ->Int} {xs ys:Array Keyed} {i j:Nat} (h:xs[i]? =ys[j]?):kx rk xs i=kx rk ys j:=by unfold kx;rw [h]
def LtOk (M:Model) (A:Around) (E:Value ->Shared ->Prop) (s:Shared) (kd:SortKind) (S:Keyed ->Prop) (rk:Keyed ->Int):Prop:=
 ∀ (x y:Keyed) (st:SortSt) (Q:Option Bool ->SortSt ->Prop),S x ->S y ->kindOf st=kd ->Q (some (decide (rk x < rk y))) st ->wpS M A E s (lt' x y) Q st
structure Mv (lo hi:Nat) (st st':SortSt):Prop where
 perm:(arrOf st').Perm (arrOf st)
 out:∀ k,k < lo\/ hi<=k ->(arrOf st')[k]? =(arrOf st)[k]?
 kind:kindOf st'=kindOf st
 pend:pendingOf st'=pendingOf st
 failed:failedOf st'=failedOf st
theorem Mv.refl (lo hi:Nat) (st:SortSt):Mv lo hi st st:=⟨Array.Perm.refl _,λ _ _=>rfl,rfl,rfl,rfl⟩
theorem Mv.trans {lo hi:Nat} {a b c:SortSt} (h:Mv lo hi a b) (k:Mv lo hi b c):Mv lo hi a c:=
 ⟨k.perm.trans h.perm,λ i hi=>(k.out i hi).trans (h.out i hi),k.kind.trans h.kind,k.pend.trans h.pend,k.failed.trans h.failed⟩
theorem Mv.wide {lo hi O J:Nat} {a b:SortSt} (h:Mv lo hi a b) (h1:O<=lo) (h2:hi<=J):Mv O J a b:=
 ⟨h.perm,λ k hk=>h.out k (by lia),h.kind,h.pend,h.failed⟩
theorem Mv.size {lo hi:Nat} {a b:SortSt} (h:Mv lo hi a b):(arrOf b).size=(arrOf a).size:=h.perm.size_eq
structure Sane (kd:SortKind) (S:Keyed ->Prop) (n:Nat) (st:SortSt):Prop where
 size:(arrOf st).size=n
 all:∀ p∈(arrOf st).toList,S p
 kind:kindOf st=kd
 failed:failedOf st=none
theorem Mv.sane {lo hi:Nat} {a b:SortSt} {kd:SortKind} {S:Keyed ->Prop} {n:Nat} (h:Mv lo hi a b) (k:Sane kd S n a):Sane kd S n b:=
 ⟨h.size.trans k.size,λ p hp=>k.all p ((z03.mp h.perm).mem_iff.mp hp),h.kind.trans k.kind,h.failed.trans k.failed⟩
theorem Sane.at {kd:SortKind} {S:Keyed ->Prop} {n:Nat} {st:SortSt} (rk:Keyed ->Int) (k:Sane kd S n st) {i:Nat} (hi:i < n):∃ p,(arrOf st)[i]? =some p/\S p/\kx rk (arrOf st) i=rk p:=by
 have J:i < (arrOf st).size:=by rw [k.size];exact hi
 have e:(arrOf st)[i]? =some (arrOf st)[i]:=getElem?_pos _ i J;exact ⟨_,e,k.all _ (by simp),q2q e⟩
theorem Mv.mirrored {lo hi i j:Nat} {st:SortSt} (h1:lo<=i) (h2:j<=hi) (hj:j<=(arrOf st).size):Mv lo hi st (setArr st (mirror (arrOf st) i j ((j - i) / 2))):=
 ⟨mirror_perm _ _ _ _,λ k hk=>(getElem?_mirror_all (i:=i) hj k).trans (if_neg (by lia)),rfl,rfl,rfl⟩
theorem Mv.sunk {lo hi J d:Nat} {st:SortSt} (h1:lo+d<=J) (h2:J < hi) (hs:J < (arrOf st).size):Mv lo hi st (setArr st (bubble (arrOf st) J d)):=
 ⟨bubble_perm _ _ _,λ k hk=>(getElem?_bubble hs d (by lia) k).trans (by rw [if_neg (by lia),if_neg (by lia)]),rfl,rfl,rfl⟩
theorem q8t (rk:Keyed ->Int) {xs:Array Keyed} {i j:Nat} (hj:j<=xs.size) (k:Nat):
  kx rk (mirror xs i j ((j - i) / 2)) k=if i<=k/\k < j then kx rk xs (i+j - 1 - k) else kx rk xs k:=by
 have e:=getElem?_mirror_all (i:=i) hj k;by_cases c:i<=k/\k < j
 ·rw [if_pos c] at e ⊢;exact q3w e
 ·rw [if_neg c] at e ⊢;exact q3w e
theorem q2i (rk:Keyed ->Int) {xs:Array Keyed} {i j:Nat} (hj:j<=xs.size) (J:∀ k,i<=k ->k < j ->kx rk xs k=kx rk xs (j - 1)) (k:Nat):
  kx rk (mirror xs i j ((j - i) / 2)) k=kx rk xs k:=by
 rw [q8t rk hj];by_cases c:i<=k/\k < j
 ·rw [if_pos c,J _ (by lia) (by lia),J k c.1 c.2]
 ·rw [if_neg c]
theorem qer (rk:Keyed ->Int) {xs:Array Keyed} {J d:Nat} (hs:J < xs.size) (hd:d<=J) (k:Nat):
  kx rk (bubble xs J d) k=if k=J - d then kx rk xs J else if J - d < k/\k<=J then kx rk xs (k - 1) else kx rk xs k:=by
 have e:=getElem?_bubble hs d hd k;by_cases c:k=J - d
 ·rw [if_pos c] at e ⊢;exact q3w e
 ·rw [if_neg c] at e ⊢;by_cases c2:J - d < k/\k<=J
  ·rw [if_pos c2] at e ⊢;exact q3w e
  ·rw [if_neg c2] at e ⊢;exact q3w e
section
variable {M:Model} {A:Around} {E:Value ->Shared ->Prop} {s:Shared} {kd:SortKind} {S:Keyed ->Prop} {rk:Keyed ->Int} {n:Nat}
theorem q8u (L:LtOk M A E s kd S rk) {st:SortSt} (B:Sane kd S n st) {i j:Nat} (hi:i < n) (hj:j < n) {Q:Option Bool ->SortSt ->Prop}
  (h:Q (some (decide (kx rk (arrOf st) i < kx rk (arrOf st) j))) st):wpS M A E s (ltAt' i j) Q st:=by
 obtain ⟨p,e1,s1,k1⟩:=B.at rk hi;obtain ⟨q,e2,s2,k2⟩:=B.at rk hj;rw [k1,k2] at h;rw [ltAt'_eq];refine wpS_bind (wpS_get ?_);show wpS M A E s (elem' (arrOf st) i >>=λ x=>elem' (arrOf st) j >>=λ y=>lt' x y) Q st;rw [elem'_eq,elem'_eq,e1,e2];exact wpS_bind (wpS_pure (wpS_bind (wpS_pure (L p q st Q s1 s2 B.kind h))))
theorem q6x {st:SortSt} {i j:Nat} {Q:Unit ->SortSt ->Prop} (h:Q () (setArr st (mirror (arrOf st) i j ((j - i) / 2)))):wpS M A E s (reverseSlice' i j) Q st:=by
 rw [reverseSlice'_eq];exact wpS_modify h
def q8v (lo a nrem:Nat):StateT SortSt Sem AscSt:=
 forIn [a:nrem] ((none,a):AscSt) λ _ c=>do
  let x <- ltAt' (lo+c.snd) (lo+c.snd - 1)
  match x with
  | some b=>if b=true then pure (ForInStep.done (none,c.snd)) else pure (ForInStep.yield (none,c.snd+1))
  | _=>pure (ForInStep.done (some none,c.snd))
def q8w (lo m nrem:Nat):StateT SortSt Sem (Option Nat):=do
 reverseSlice' lo (lo+m)
 let c <- q8v lo m nrem
 match c.fst with
 | some r=>pure r
 | none=>pure (some c.snd)
def qbv (lo m nrem:Nat):StateT SortSt Sem DescSt:=
 forIn [m:nrem] ((none,m,0):DescSt) λ _ c=>do
  let x <- ltAt' (lo+c.snd.fst) (lo+c.snd.fst - 1)
  match x with
  | some b=>
   if b=true then
    if c.snd.snd > 0 then do
     reverseSlice' (lo+c.snd.fst - (c.snd.snd+1)) (lo+c.snd.fst)
     pure (ForInStep.yield (none,c.snd.fst+1,0))
    else pure (ForInStep.yield (none,c.snd.fst+1,0))
   else do
    let y <- ltAt' (lo+c.snd.fst - 1) (lo+c.snd.fst)
    match y with
    | some g=>if g=true then pure (ForInStep.done (none,c.snd.fst,c.snd.snd)) else pure (ForInStep.yield (none,c.snd.fst+1,c.snd.snd+1))
    | _=>pure (ForInStep.done (some none,c.snd.fst,c.snd.snd))
  | _=>pure (ForInStep.done (some none,c.snd.fst,c.snd.snd))
def q8x (lo m nrem:Nat):StateT SortSt Sem (Option Nat):=do
 liftM (rule "list.sort.descending-run")
 let c <- qbv lo (m+1) nrem
 match c.fst with
 | some r=>pure r
 | none=>
  if c.snd.snd > 0 then do
   reverseSlice' (lo+c.snd.fst - (c.snd.snd+1)) (lo+c.snd.fst)
   q8w lo c.snd.fst nrem
  else q8w lo c.snd.fst nrem
theorem qix (lo J:Nat):countRun' lo J=(do
  let c <- q8v lo 1 J
  match c.fst with
  | some r=>pure r
  | none=>
   if (c.snd==J)=true then pure (some c.snd)
   else if c.snd > 1 then do
    let x <- ltAt' lo (lo+c.snd - 1)
    match x with
    | some O=>if O=true then pure (some c.snd) else do
      reverseSlice' lo (lo+c.snd)
      q8x lo c.snd J
    | _=>pure none
   else q8x lo c.snd J):=by
 rw [countRun'_eq]
 dsimp only
 unfold q8x q8w qbv q8v
 congr 1
 funext c
 obtain ⟨r,m⟩:=c;cases r with
 | some r=>rfl
 | none=>
  dsimp only
  split
  ·rfl
  ·split
   ·congr 1
    funext x
    cases x with
    | none=>rfl
    | some O=>
     dsimp only
     split
     ·rfl
     ·congr 1
      funext _u
      congr 1
      funext _v
      congr 1
      congr 1
      funext c2
      obtain ⟨r2,n2,q2⟩:=c2;cases r2 with
      | some r2=>rfl
      | none=>
       dsimp only
       split
       ·congr 1
        funext _w
        congr 1
        funext _z
        congr 1
        funext c3
        obtain ⟨r3,U⟩:=c3;cases r3 <;> rfl
       ·congr 1
        funext _z
        congr 1
        funext c3
        obtain ⟨r3,U⟩:=c3;cases r3 <;> rfl
   ·congr 1
    funext _v
    congr 1
    congr 1
    funext c2
    obtain ⟨r2,n2,q2⟩:=c2;cases r2 with
    | some r2=>rfl
    | none=>
     dsimp only
     split
     ·congr 1
      funext _w
      congr 1
      funext _z
      congr 1
      funext c3
      obtain ⟨r3,U⟩:=c3;cases r3 <;> rfl
     ·congr 1
      funext _z
      congr 1
      funext c3
      obtain ⟨r3,U⟩:=c3;cases r3 <;> rfl
theorem qgt (L:LtOk M A E s kd S rk) {st:SortSt} {lo a J:Nat} {Q:AscSt ->SortSt ->Prop} (B:Sane kd S n st) (hn:lo+J<=n) (ha:1<=a) (Z:a<=J) (hs:Up rk (arrOf st) lo (lo+a))
  (h:∀ m,a<=m ->m<=J ->Up rk (arrOf st) lo (lo+m) ->(m=J\/ kx rk (arrOf st) (lo+m) < kx rk (arrOf st) (lo+m - 1)) ->Q (none,m) st):wpS M A E s (q8v lo a J) Q st:=by
 unfold q8v;refine wpS_forRange (I:=λ x c Y=>Y=st/\c=(none,x)/\Up rk (arrOf st) lo (lo+x)) ?turn ?last ⟨zr,zr,hs⟩
 case last=>
  rintro c Y ⟨rfl,rfl,U⟩;have e:max a J=J:=by lia
  rw [e] at U ⊢;exact h J Z (z3p _) U (.inl rfl)
 case turn=>
  rintro x c Y a1 hxn ⟨rfl,rfl,U⟩
  dsimp only
  refine wpS_bind (q8u L B (by lia) (by lia) ?_);by_cases O:kx rk (arrOf Y) (lo+x) < kx rk (arrOf Y) (lo+x - 1)
  ·simp only [O,z3q,if_true];exact wpS_pure (h x a1 (by lia) U (.inr O))
  ·simp only [O,z3b,z1a,if_false];refine wpS_pure ⟨zr,zr,λ i j h1 h2 h3=> ?_⟩;by_cases hj:j < lo+x
   ·exact U i j h1 h2 hj
   ·have a2:j=lo+x:=by lia
    subst a2;by_cases hi:i=lo+x
    ·subst hi
     lia
    ·have:=U i (lo+x - 1) h1 (by lia) (by lia)
     lia
theorem qgu (L:LtOk M A E s kd S rk) {st:SortSt} {lo m J:Nat} {Q:Option Nat ->SortSt ->Prop} (B:Sane kd S n st) (hn:lo+J<=n) (h1:1<=m) (hm:m<=J) (hs:Dn rk (arrOf st) lo (lo+m))
  (h:∀ k O,Mv lo (lo+J) st O ->1<=k ->k<=J ->Up rk (arrOf O) lo (lo+k) ->Q (some k) O):wpS M A E s (q8w lo m J) Q st:=by
 unfold q8w;have hz:lo+m<=(arrOf st).size:=by rw [B.size];lia
 have v:Mv lo (lo+J) st (setArr st (mirror (arrOf st) lo (lo+m) ((lo+m - lo) / 2))):=Mv.mirrored (z3p _) (by lia) hz;refine wpS_bind (q6x (wpS_bind (qgt L (v.sane B) hn h1 hm ?_ λ k k1 k2 k3 _=>wpS_pure (h k _ v (by lia) k2 k3))));intro i j a b c;show kx rk (mirror (arrOf st) lo (lo+m) ((lo+m - lo) / 2)) i<=kx rk (mirror (arrOf st) lo (lo+m) ((lo+m - lo) / 2)) j;rw [q8t rk hz,q8t rk hz,if_pos (by lia),if_pos (by lia)];exact hs _ _ (by lia) (by lia) (by lia)
theorem qo3 (L:LtOk M A E s kd S rk) {st:SortSt} {lo m O:Nat} {Q:DescSt ->SortSt ->Prop} (B:Sane kd S n st) (hn:lo+O<=n) (h1:1<=m) (hm:m<=O) (hs:Dn rk (arrOf st) lo (lo+m))
  (h:∀ k q J,Mv lo (lo+O) st J ->m<=k ->k<=O ->Dn rk (arrOf J) lo (lo+k) ->q+1<=k ->(∀ i,lo+k - (q+1)<=i ->i < lo+k ->kx rk (arrOf J) i=kx rk (arrOf J) (lo+k - 1)) ->Q (none,k,q) J):
  wpS M A E s (qbv lo m O) Q st:=by
 unfold qbv;refine wpS_forRange (I:=λ x c J=>∃ q,c=(none,x,q)/\Mv lo (lo+O) st J/\Dn rk (arrOf J) lo (lo+x)/\q+1<=x/\
  (∀ i,lo+x - (q+1)<=i ->i < lo+x ->kx rk (arrOf J) i=kx rk (arrOf J) (lo+x - 1))) ?turn ?last ⟨0,rfl,Mv.refl _ _ _,hs,by lia,λ i a b=>by rw [show i=lo+m - 1 by lia]⟩
 case last=>
  rintro c J ⟨q,rfl,v,U,hq,he⟩;have e:max m O=O:=by lia
  rw [e] at U hq he ⊢;exact h O q J v hm (z3p _) U hq he
 case turn=>
  rintro x c J a3 hxn ⟨q,rfl,v,U,hq,he⟩
  dsimp only
  have B':=v.sane B;have hz:lo+x<=(arrOf J).size:=by rw [B'.size];lia
  refine wpS_bind (q8u L B' (by lia) (by lia) ?_);by_cases Y:kx rk (arrOf J) (lo+x) < kx rk (arrOf J) (lo+x - 1)
  ·simp only [Y,z3q,if_true];have more:∀ xs:Array Keyed,(∀ k,kx rk xs k=kx rk (arrOf J) k) ->Dn rk xs lo (lo+(x+1)):=by
    intro xs hk i j a b c;rw [hk,hk];by_cases hj:j < lo+x
    ·exact U i j a b hj
    ·have a1:j=lo+x:=by lia
     subst a1;by_cases hi:i=lo+x
     ·subst hi
      lia
     ·have:=U i (lo+x - 1) a (by lia) (by lia)
      lia
   by_cases a2:q > 0
   ·rw [if_pos a2];exact wpS_bind (q6x (wpS_pure ⟨0,zr,v.trans (Mv.mirrored (by lia) (by lia) hz),more _ (q2i rk hz he),by lia,λ i a b=>by rw [show i=lo+(x+1) - 1 by lia]⟩))
   ·rw [if_neg a2];exact wpS_pure ⟨0,zr,v,more _ (λ _=>rfl),by lia,λ i a b=>by rw [show i=lo+(x+1) - 1 by lia]⟩
  ·simp only [Y,z3b,z1a,if_false];refine wpS_bind (q8u L B' (by lia) (by lia) ?_);by_cases Z:kx rk (arrOf J) (lo+x - 1) < kx rk (arrOf J) (lo+x)
   ·simp only [Z,z3q,if_true];exact wpS_pure (h x q J v a3 (by lia) U hq he)
   ·simp only [Z,z3b,z1a,if_false];have ex:kx rk (arrOf J) (lo+x)=kx rk (arrOf J) (lo+x - 1):=by lia
    refine wpS_pure ⟨q+1,zr,v,λ i j a b c=> ?_,by lia,λ i a b=> ?_⟩
    ·by_cases hj:j < lo+x
     ·exact U i j a b hj
     ·have a1:j=lo+x:=by lia
      subst a1;by_cases hi:i=lo+x
      ·subst hi
       lia
      ·have:=U i (lo+x - 1) a (by lia) (by lia)
       lia
    ·rw [show lo+(x+1) - 1=lo+x by lia];by_cases hi:i=lo+x
     ·rw [hi]
     ·rw [ex];exact he i (by lia) (by lia)
theorem qgv (L:LtOk M A E s kd S rk) {st:SortSt} {lo m O:Nat} {Q:Option Nat ->SortSt ->Prop} (B:Sane kd S n st) (hn:lo+O<=n) (hm:m+1<=O) (hs:Dn rk (arrOf st) lo (lo+(m+1)))
  (h:∀ k J,Mv lo (lo+O) st J ->1<=k ->k<=O ->Up rk (arrOf J) lo (lo+k) ->Q (some k) J):wpS M A E s (q8x lo m O) Q st:=by
 unfold q8x;refine wpS_bind (wpS_lift (z3t ⟨zr,?_⟩));refine wpS_bind (qo3 L B hn (by lia) hm hs λ k q J v k1 k2 Z hq he=> ?_)
 dsimp only
 have B':=v.sane B;have hz:lo+k<=(arrOf J).size:=by rw [B'.size];lia
 by_cases Y:q > 0
 ·rw [if_pos Y];have v2:Mv lo (lo+O) J (setArr J (mirror (arrOf J) (lo+k - (q+1)) (lo+k) ((lo+k - (lo+k - (q+1))) / 2))):=Mv.mirrored (by lia) (by lia) hz;refine wpS_bind (q6x (qgu L (v2.sane B') hn (by lia) k2 ?_ λ j U v3=>h j U ((v.trans v2).trans v3)));intro i j a b c;show kx rk (mirror (arrOf J) (lo+k - (q+1)) (lo+k) ((lo+k - (lo+k - (q+1))) / 2)) j<=kx rk (mirror (arrOf J) (lo+k - (q+1)) (lo+k) ((lo+k - (lo+k - (q+1))) / 2)) i;rw [q2i rk hz he,q2i rk hz he];exact Z i j a b c
 ·rw [if_neg Y];exact qgu L B' hn (by lia) k2 Z λ j U v3=>h j U (v.trans v3)
theorem qbw (L:LtOk M A E s kd S rk) {st:SortSt} {lo J:Nat} {Q:Option Nat ->SortSt ->Prop} (B:Sane kd S n st) (hn:lo+J<=n) (h1:1<=J)
  (h:∀ k Y,Mv lo (lo+J) st Y ->1<=k ->k<=J ->Up rk (arrOf Y) lo (lo+k) ->Q (some k) Y):wpS M A E s (countRun' lo J) Q st:=by
 rw [qix];refine wpS_bind (qgt L B hn (z3p 1) h1 (λ i j a b c=>by rw [show i=j by lia];exact z3r _) λ m m1 m2 Z a6=> ?_)
 dsimp only
 by_cases hm:m=J
 ·rw [if_pos (by simpa using hm)];exact wpS_pure (h m st (Mv.refl _ _ _) m1 m2 Z)
 ·rw [if_neg (by simpa using hm)];have a4:=a6.resolve_left hm;by_cases hg:m > 1
  ·rw [if_pos hg];refine wpS_bind (q8u L B (by lia) (by lia) ?_);by_cases O:kx rk (arrOf st) lo < kx rk (arrOf st) (lo+m - 1)
   ·simp only [O,z3q,if_true];exact wpS_pure (h m st (Mv.refl _ _ _) m1 m2 Z)
   ·simp only [O,z3b,z1a,if_false];have hz:lo+m<=(arrOf st).size:=by rw [B.size];lia
    have U:∀ k,lo<=k ->k < lo+m ->kx rk (arrOf st) k=kx rk (arrOf st) (lo+m - 1):=by
     intro k a b;have a1:=Z lo k (z3p _) a b;have a2:=Z k (lo+m - 1) a (by lia) (by lia)
     lia
    have v:Mv lo (lo+J) st (setArr st (mirror (arrOf st) lo (lo+m) ((lo+m - lo) / 2))):=Mv.mirrored (z3p _) (by lia) hz;refine wpS_bind (q6x (qgv L (v.sane B) hn (by lia) ?_ λ j a7 v3=>h j a7 (v.trans v3)));intro i j a b c;show kx rk (mirror (arrOf st) lo (lo+m) ((lo+m - lo) / 2)) j<=kx rk (mirror (arrOf st) lo (lo+m) ((lo+m - lo) / 2)) i;rw [q2i rk hz U,q2i rk hz U];by_cases hj:j < lo+m
    ·rw [U i a (by lia),U j (by lia) hj];exact z3r _
    ·have a3:j=lo+m:=by lia
     subst a3;by_cases hi:i=lo+m
     ·subst hi
      lia
     ·rw [U i a (by lia)]
      lia
  ·rw [if_neg hg];have a5:m=1:=by lia
   subst a5;refine qgv L B hn (by lia) ?_ h;intro i j a b c;by_cases hi:i=j
   ·rw [hi];exact z3r _
   ·have e1:i=lo:=by lia
    have e2:j=lo+1:=by lia
    subst e1 e2;have:i+1 - 1=i:=by lia
    rw [this] at a4
    lia
theorem q8y (L:LtOk M A E s kd S rk) {st:SortSt} {lo m ok:Nat} {Q:Bool ->SortSt ->Prop} (B:Sane kd S n st) (hn:lo+m<=n) (hok:ok<=m) (hs:Up rk (arrOf st) lo (lo+ok))
    (h:∀ J,Mv lo (lo+m) st J ->Up rk (arrOf J) lo (lo+m) ->Q true J):wpS M A E s (binarySort' lo m ok) Q st:=by
  rw [binarySort'_eq];refine wpS_bind (wpS_mono (wpS_forRange (I:=λ k c J=>c=(none,())/\Mv lo (lo+m) st J/\Up rk (arrOf J) lo (lo+min k m))
    (Q:=λ c J=>c=(none,())/\Mv lo (lo+m) st J/\Up rk (arrOf J) lo (lo+m)) ?turn ?last ?first) ?after)
  case after=>
    rintro c J ⟨rfl,v,U⟩;exact wpS_pure (h J v U)
  case first=>
    refine ⟨zr,Mv.refl _ _ _,λ i j a b c=> ?_⟩;by_cases h0:ok=0
    · rw [show i=j by lia]
      exact z3r _
    · exact hs i j a b (by lia)
  case last=>
    rintro c J ⟨hc,v,U⟩;refine ⟨hc,v,?_⟩
    rwa [show min (max (max ok 1) m) m=m by lia] at U
  case turn=>
    rintro k c J hak hkm ⟨rfl,v,U⟩;have e0:min k m=k:=by lia
    rw [e0] at U;have B':=v.sane B;refine wpS_bind (wpS_mono (wpS_forRange (I:=λ x c O=>O=J/\∃ l r,c=(none,l,r)/\l<=r/\r<=k/\r - l<=k - x/\
        (∀ i,i < l ->kx rk (arrOf J) (lo+i)<=kx rk (arrOf J) (lo+k))/\(∀ i,r<=i ->i < k ->kx rk (arrOf J) (lo+k) < kx rk (arrOf J) (lo+i)))
      (Q:=λ c O=>O=J/\∃ l r,c=(none,l,r)/\l<=k/\
        (∀ i,i < l ->kx rk (arrOf J) (lo+i)<=kx rk (arrOf J) (lo+k))/\(∀ i,l<=i ->i < k ->kx rk (arrOf J) (lo+k) < kx rk (arrOf J) (lo+i))) ?iturn ?ilast ?ifirst) ?iafter)
    case ifirst=>exact ⟨rfl,0,k,rfl,by lia,by lia,by lia,λ i hi=>by lia,λ i a b=>by lia⟩
    case ilast=>
      rintro c O ⟨rfl,l,r,rfl,a5,a2,hd,Z,Y⟩;have e:l=r:=by lia
      subst e;exact ⟨zr,l,l,zr,a2,Z,Y⟩
    case iturn=>
      rintro x c O _ hxk ⟨rfl,l,r,rfl,a5,a2,hd,Z,Y⟩
      dsimp only
      by_cases a3:l >=r
      · rw [if_pos a3]
        have e:l=r:=by lia
        subst e;exact wpS_pure ⟨zr,l,l,zr,a2,Z,Y⟩
      · rw [if_neg a3]
        refine wpS_bind (q8u L B' (by lia) (by lia) ?_);by_cases a1:kx rk (arrOf O) (lo+k) < kx rk (arrOf O) (lo+(l+r) / 2)
        · simp only [a1,z3q,if_true]
          refine wpS_pure ⟨zr,l,(l+r) / 2,zr,by lia,by lia,by lia,Z,λ i a b=> ?_⟩;have:=U (lo+(l+r) / 2) (lo+i) (by lia) (by lia) (by lia)
          lia
        · simp only [a1,z3b,z1a,if_false]
          refine wpS_pure ⟨zr,(l+r) / 2+1,r,zr,by lia,by lia,by lia,λ i a=> ?_,Y⟩;have:=U (lo+i) (lo+(l+r) / 2) (by lia) (by lia) (by lia)
          lia
    case iafter=>
      rintro c O ⟨rfl,l,r,rfl,hlk,Z,Y⟩;show wpS M A E s (moveDown' (lo+k) (lo+l) >>=λ _=>pure (ForInStep.yield (none,()))) _ O;rw [moveDown'_eq];have hz:lo+k < (arrOf O).size:=by rw [B'.size];lia
      refine wpS_bind (wpS_modify (wpS_pure ⟨zr,v.trans (Mv.sunk (by lia) (by lia) hz),?_⟩));rw [show min (k+1) m=k+1 by lia];intro i j a b c;show kx rk (bubble (arrOf O) (lo+k) (lo+k - (lo+l))) i<=kx rk (bubble (arrOf O) (lo+k) (lo+k - (lo+l))) j;rw [qer rk hz (by lia),qer rk hz (by lia),show lo+k - (lo+k - (lo+l))=lo+l by lia];have a6:∀ q,lo<=q ->q < lo+l ->kx rk (arrOf O) q<=kx rk (arrOf O) (lo+k):=λ q a b=>by
        have:=Z (q - lo) (by lia)
        rwa [show lo+(q - lo)=q by lia] at this
      have a4:∀ q,lo+l<=q ->q < lo+k ->kx rk (arrOf O) (lo+k) < kx rk (arrOf O) q:=λ q a b=>by
        have:=Y (q - lo) (by lia) (by lia)
        rwa [show lo+(q - lo)=q by lia] at this
      repeat' split
      all_goals first
        | (exfalso;lia)
        | exact z3r _
        | exact a6 _ (by lia) (by lia)
        | exact z3c (a4 _ (by lia) (by lia))
        | exact U _ _ (by lia) (by lia) (by lia)
end
end Tim
namespace Tim
section
variable {α:Type} {rk:α ->Int} {as bs out:List α} {ia ib:Nat}
def Asc (rk:α ->Int) (l:List α):Prop:=l.Pairwise λ p q=>rk p<=rk q
structure Jn (rk:α ->Int) (as bs out:List α) (ia ib:Nat):Prop where
 perm:out.Perm (as.take ia++bs.take ib)
 asc:Asc rk out
 la:∀ p∈out,∀ q∈as.drop ia,rk p<=rk q
 lb:∀ p∈out,∀ q∈bs.drop ib,rk p<=rk q
theorem Jn.swap (h:Jn rk as bs out ia ib):Jn rk bs as out ib ia:=⟨h.perm.trans z0p,h.asc,h.lb,h.la⟩
theorem Jn.start:Jn rk as bs [] 0 0:=⟨by simp,List.Pairwise.nil,(λ _ z=>nomatch z),(λ _ z=>nomatch z)⟩
theorem qau (h:Asc rk as) (i:Nat):Asc rk (as.drop i):=List.Pairwise.sublist (List.drop_sublist i as) h
theorem q5u (as:List α) (i k:Nat):as.drop i=(as.drop i).take k++as.drop (i+k):=by
 rw [<- List.drop_drop,z0q]
theorem Jn.moreA (h:Jn rk as bs out ia ib) (ha:Asc rk as) (k:Nat) (hx:∀ p∈(as.drop ia).take k,∀ q∈bs.drop ib,rk p<=rk q):Jn rk as bs (out++(as.drop ia).take k) (ia+k) ib:=by
 have hd:=qau ha ia;rw [q5u as ia k] at hd;obtain ⟨d1,d2,d3⟩:=z0u.mp hd;have J:∀ q,q∈(as.drop ia).take k ->q∈as.drop ia:=λ q hq=>(List.take_sublist _ _).mem hq;have O:∀ q,q∈as.drop (ia+k) ->q∈as.drop ia:=λ q hq=>by
  rw [q5u as ia k];exact z0r _ hq
 refine ⟨?_,?_,λ p hp q hq=> ?_,λ p hp q hq=> ?_⟩
 ·rw [List.take_add,z1o];refine (h.perm.append_right _).trans ?_;rw [z1o];exact List.Perm.append_left _ z0p
 ·exact z0u.mpr ⟨h.asc,d1,λ p hp q hq=>h.la p hp q (J q hq)⟩
 ·rcases z2f.mp hp with hp | hp
  ·exact h.la p hp q (O q hq)
  ·exact d3 p hp q hq
 ·rcases z2f.mp hp with hp | hp
  ·exact h.lb p hp q hq
  ·exact hx p hp q hq
theorem Jn.done (h:Jn rk as bs out ia ib) (ha:Asc rk as) (hb:Asc rk bs) (hx:∀ p∈as.drop ia,∀ q∈bs.drop ib,rk p<=rk q):
  (out++as.drop ia++bs.drop ib).Perm (as++bs)/\Asc rk (out++as.drop ia++bs.drop ib):=by
 constructor
 ·refine ((h.perm.append_right _).append_right _).trans ?_;have e1:as=as.take ia++as.drop ia:=(z0q ..).symm;have e2:bs=bs.take ib++bs.drop ib:=(z0q ..).symm;refine List.Perm.trans ?_ (List.Perm.of_eq (show (as.take ia++as.drop ia)++(bs.take ib++bs.drop ib)=as++bs by rw [<- e1,<- e2]));simp only [z1o];refine List.Perm.append_left _ ?_;rw [<- z1o,<- z1o];exact List.Perm.append_right _ z0p
 ·refine z0u.mpr ⟨z0u.mpr ⟨h.asc,qau ha _,h.la⟩,qau hb _,λ p hp q hq=> ?_⟩;rcases z2f.mp hp with hp | hp
  ·exact h.lb p hp q hq
  ·exact hx p hp q hq
theorem Jn.done2 (h:Jn rk as bs out ia ib) (ha:Asc rk as) (hb:Asc rk bs) (hx:∀ p∈bs.drop ib,∀ q∈as.drop ia,rk p<=rk q):
  (out++bs.drop ib++as.drop ia).Perm (as++bs)/\Asc rk (out++bs.drop ib++as.drop ia):=
 let ⟨a,b⟩:=h.swap.done hb ha hx
 ⟨a.trans z0p,b⟩
theorem qd6 (h:Asc rk as):Asc (λ p=>- rk p) as.reverse:=by
 unfold Asc;rw [List.pairwise_reverse];exact List.Pairwise.imp (λ {p q} (z:rk p<=rk q)=>show - rk q<= - rk p by lia) h
theorem asc_rev' (h:Asc (λ p=>- rk p) as):Asc rk as.reverse:=by
 unfold Asc;rw [List.pairwise_reverse];exact List.Pairwise.imp (λ {p q} (z: - rk p<= - rk q)=>show rk q<=rk p by lia) h
theorem qgw (as:List α) (k:Nat) (h:k<=as.length):as.reverse.drop (as.length - k)=(as.take k).reverse:=by
 rw [List.drop_reverse]
 congr 1
 congr 1
 lia
theorem qqo (as:List α) (i k:Nat) (hi:i<=k) (h:k<=as.length):(as.reverse.drop (as.length - k)).take (k - i)=((as.drop i).take (k - i)).reverse:=by
 rw [qgw as k h,List.take_reverse,z22,Nat.min_eq_left h]
 congr 1
 rw [List.drop_take]
 congr 1
 ·lia
 ·congr 1
  lia
theorem qjj (ha:Asc rk as) {i:Nat} {x:α} (hx:as[i]? =some x):∀ q∈as.drop i,rk x<=rk q:=by
 intro q hq;obtain ⟨j,hj,e⟩:=z0v.mp hq;rw [List.getElem_drop] at e;obtain ⟨hi,ex⟩:=z06.mp hx;subst e ex;rcases Nat.eq_zero_or_pos j with h | h
 ·subst h;exact z3r _
 ·exact z07.mp ha i (i+j) hi (by rw [z23] at hj;lia) (by lia)
theorem qjk (ha:Asc rk as) {i:Nat} {x:α} (hx:as[i]? =some x):∀ q∈as.take (i+1),rk q<=rk x:=by
 intro q hq;obtain ⟨j,hj,e⟩:=z0v.mp hq;rw [z1p] at e;obtain ⟨hi,ex⟩:=z06.mp hx;subst e ex;have hj':j<=i:=by rw [z22] at hj;lia
 rcases Nat.lt_or_ge j i with h | h
 ·exact z07.mp ha j i (by lia) hi h
 ·have:j=i:=by lia
  subst this;exact z3r _
theorem qav {i:Nat} {x:α} (hx:as[i]? =some x):(as.drop i).take 1=[x]:=by
 obtain ⟨hi,ex⟩:=z06.mp hx;rw [z08 hi,ex];rfl
end
end Tim
namespace Tim
open PySem PyProof.Rows
def q2e:Bool ->Keyed ->Array Keyed ->Nat ->Nat ->Nat ->StateT SortSt Sem (Option Nat):=sortPriv%PySem.Builtin.gallop
def beyd (left:Bool) (key:Keyed) (arr:Array Keyed) (i:Nat):StateT SortSt Sem (Option Bool):=do
 let p <- elem' arr i
 if left then lt' p key else return (<- lt' key p).map (!·)
theorem qkh (left:Bool) (key:Keyed) (arr:Array Keyed) (base n hint:Nat):q2e left key arr base n hint=(do
 let mut bk:=0
 let mut fw:=1
 let mut lo:=0
 let mut up:=0
 let some rt <- beyd left key arr (base+hint) | return none
 if rt then
  let most:=n - hint
  for _ in [0:n] do
   if fw >=most then break
   let some mr <- beyd left key arr (base+(hint+fw)) | return none
   if !mr then break
   bk:=fw
   fw:=2*fw+1
  lo:=hint+bk+1
  up:=hint+min fw most
 else
  let most:=hint+1
  for _ in [0:n] do
   if fw >=most then break
   let some fd <- beyd left key arr (base+(hint - fw)) | return none
   if fd then break
   bk:=fw
   fw:=2*fw+1
  lo:=hint+1 - min fw most
  up:=hint - bk
 for _ in [0:n] do
  if lo >=up then break
  let J:=lo+(up - lo) / 2
  let some mr <- beyd left key arr (base+J) | return none
  if mr then lo:=J+1 else up:=J
 return some up):=rfl
def ahd (left:Bool) (k v:Int):Bool:=if left then decide (v < k) else decide (v<=k)
theorem qaw {left:Bool} {k v u:Int} (h:v<=u) (e:ahd left k u=true):ahd left k v=true:=by
 unfold ahd at*;cases left
 ·simp at*
  lia
 ·simp at*
  lia
def gBin (left:Bool) (key:Keyed) (arr:Array Keyed) (base n lo0 up0:Nat):StateT SortSt Sem (Option Nat):=do
 let mut lo:=lo0
 let mut up:=up0
 for _ in [0:n] do
  if lo >=up then break
  let md:=lo+(up - lo) / 2
  let some mr <- beyd left key arr (base+md) | return none
  if mr then lo:=md+1 else up:=md
 return some up
section
variable {M:Model} {A:Around} {E:Value ->Shared ->Prop} {s:Shared} {kd:SortKind} {S:Keyed ->Prop} {rk:Keyed ->Int}
theorem q1m {st:SortSt} {arr:Array Keyed} {i:Nat} {p:Keyed} {Q:Keyed ->SortSt ->Prop} (e:arr[i]? =some p) (h:Q p st):wpS M A E s (elem' arr i) Q st:=by
 rw [elem'_eq,e];exact wpS_pure h
theorem qbx (L:LtOk M A E s kd S rk) {st:SortSt} {left:Bool} {key:Keyed} {arr:Array Keyed} {i:Nat} {Q:Option Bool ->SortSt ->Prop} (O:kindOf st=kd) (J:S key) (hp:∃ p,arr[i]? =some p/\S p)
  (h:Q (some (ahd left (rk key) (kx rk arr i))) st):wpS M A E s (beyd left key arr i) Q st:=by
 obtain ⟨p,e,sp⟩:=hp;rw [q2q e] at h;unfold beyd;refine wpS_bind (q1m e ?_);cases left with
 | true=>exact L p key st Q sp J O h
 | false=>
  refine wpS_bind (L key p st _ J sp O (wpS_pure ?_));have e2:(!decide (rk key < rk p))=ahd false (rk key) (rk p):=by
   unfold ahd;simp
   rw [<- decide_not];simp
  show Q (some (!decide (rk key < rk p))) st;rw [e2];exact h
theorem qlo (L:LtOk M A E s kd S rk) {st:SortSt} {left:Bool} {key:Keyed} {arr:Array Keyed} {base n lo up:Nat} {Q:Option Nat ->SortSt ->Prop} (hk:kindOf st=kd) (hS:S key)
  (hp:∀ i,i < n ->∃ p,arr[base+i]? =some p/\S p) (hu:Up rk arr base (base+n)) (U:lo<=up) (Y:up<=n) (h1:∀ i,i < lo ->ahd left (rk key) (kx rk arr (base+i))=true)
  (h2:∀ i,up<=i ->i < n ->ahd left (rk key) (kx rk arr (base+i))=false)
  (h:∀ k,k<=n ->(∀ i,i < k ->ahd left (rk key) (kx rk arr (base+i))=true) ->(∀ i,k<=i ->i < n ->ahd left (rk key) (kx rk arr (base+i))=false) ->Q (some k) st):
  wpS M A E s (gBin left key arr base n lo up) Q st:=by
 unfold gBin
 dsimp only
 refine wpS_bind (wpS_mono (wpS_forRange (I:=λ x c J=>J=st/\∃ lo up,c=(none,lo,up)/\lo<=up/\up<=n/\up - lo<=n - x/\
   (∀ i,i < lo ->ahd left (rk key) (kx rk arr (base+i))=true)/\(∀ i,up<=i ->i < n ->ahd left (rk key) (kx rk arr (base+i))=false))
  (Q:=λ c J=>J=st/\∃ lo up,c=(none,lo,up)/\up<=n/\
   (∀ i,i < up ->ahd left (rk key) (kx rk arr (base+i))=true)/\(∀ i,up<=i ->i < n ->ahd left (rk key) (kx rk arr (base+i))=false)) ?turn ?last ⟨rfl,lo,up,rfl,U,Y,by lia,h1,h2⟩) ?after)
 case after=>
  rintro c J ⟨rfl,lo,up,rfl,a,b,d⟩;exact wpS_pure (h up a b d)
 case last=>
  rintro c J ⟨rfl,lo,up,rfl,a,b,d,e1,e2⟩;have e:lo=up:=by lia
  subst e;exact ⟨zr,lo,lo,zr,b,e1,e2⟩
 case turn=>
  rintro x c J _ hx ⟨rfl,lo,up,rfl,a,b,d,e1,e2⟩
  dsimp only
  by_cases O:lo >=up
  ·rw [if_pos O];have e:lo=up:=by lia
   subst e;exact wpS_pure ⟨zr,lo,lo,zr,b,e1,e2⟩
  ·rw [if_neg O];refine wpS_bind (qbx L hk hS (hp _ (by lia)) ?_);cases Z:ahd left (rk key) (kx rk arr (base+(lo+(up - lo) / 2))) with
   | true=>
    dsimp only
    rw [if_pos rfl];refine wpS_pure ⟨zr,_,_,zr,by lia,b,by lia,λ i hi=> ?_,e2⟩;exact qaw (hu _ _ (by lia) (by lia) (by lia)) Z
   | false=>
    dsimp only
    rw [if_neg z1b];refine wpS_pure ⟨zr,_,_,zr,by lia,by lia,by lia,e1,λ i hi hn=> ?_⟩;cases ei:ahd left (rk key) (kx rk arr (base+i)) with
    | false=>rfl
    | true=>
     have:=qaw (hu (base+(lo+(up - lo) / 2)) (base+i) (by lia) (by lia) (by lia)) ei;rw [Z] at this;cases this
theorem q4i (L:LtOk M A E s kd S rk) {st:SortSt} {left:Bool} {key:Keyed} {arr:Array Keyed} {base n hint:Nat} {Q:Option Nat ->SortSt ->Prop} (Z:kindOf st=kd) (Y:S key)
  (hp:∀ i,i < n ->∃ p,arr[base+i]? =some p/\S p) (hu:Up rk arr base (base+n)) (hh:hint < n)
  (h:∀ k,k<=n ->(∀ i,i < k ->ahd left (rk key) (kx rk arr (base+i))=true) ->(∀ i,k<=i ->i < n ->ahd left (rk key) (kx rk arr (base+i))=false) ->Q (some k) st):
  wpS M A E s (q2e left key arr base n hint) Q st:=by
 have dn:∀ i j,i<=j ->j < n ->ahd left (rk key) (kx rk arr (base+j))=true ->ahd left (rk key) (kx rk arr (base+i))=true:=λ i j a b e=>qaw (hu _ _ (by lia) (by lia) (by lia)) e;have nu:∀ i j,i<=j ->j < n ->ahd left (rk key) (kx rk arr (base+i))=false ->ahd left (rk key) (kx rk arr (base+j))=false:=λ i j a b e=>by
  cases ej:ahd left (rk key) (kx rk arr (base+j)) with
  | false=>rfl
  | true=>
   rw [dn i j a b ej] at e;cases e
 rw [qkh]
 dsimp only
 refine wpS_bind (qbx L Z Y (hp hint hh) ?_);cases e0:ahd left (rk key) (kx rk arr (base+hint)) with
 | true=>
  dsimp only
  rw [if_pos rfl];refine wpS_bind (wpS_mono (wpS_forRange (I:=λ x c J=>J=st/\∃ bk fw,c=(none,bk,fw)/\bk < fw/\x+1<=fw/\hint+bk < n/\ahd left (rk key) (kx rk arr (base+(hint+bk)))=true)
   (Q:=λ c J=>J=st/\∃ bk fw,c=(none,bk,fw)/\bk < fw/\hint+bk < n/\ahd left (rk key) (kx rk arr (base+(hint+bk)))=true/\(n - hint<=fw\/ hint+fw < n/\ahd left (rk key) (kx rk arr (base+(hint+fw)))=false)) ?turn ?last ⟨rfl,0,1,rfl,by lia,by lia,by lia,e0⟩) ?after)
  case last=>
   rintro c J ⟨rfl,bk,fw,rfl,a,b,d,e⟩;exact ⟨zr,bk,fw,zr,a,d,e,.inl (by lia)⟩
  case turn=>
   rintro x c J _ hx ⟨rfl,bk,fw,rfl,a,b,d,e⟩
   dsimp only
   by_cases O:fw >=n - hint
   ·rw [if_pos O];exact wpS_pure ⟨zr,bk,fw,zr,a,d,e,.inl O⟩
   ·rw [if_neg O];refine wpS_bind (qbx L Z Y (hp _ (by lia)) ?_);cases U:ahd left (rk key) (kx rk arr (base+(hint+fw))) with
    | true=>
     dsimp only
     rw [if_neg (by simp)];exact wpS_pure ⟨zr,fw,_,zr,by lia,by lia,by lia,U⟩
    | false=>
     dsimp only
     rw [if_pos (by simp)];exact wpS_pure ⟨zr,bk,fw,zr,a,d,e,.inr ⟨by lia,U⟩⟩
  case after=>
   rintro c J ⟨rfl,bk,fw,rfl,a,d,e,f⟩
   dsimp only
   refine qlo L Z Y hp hu (lo:=hint+bk+1) (up:=hint+min fw (n - hint)) (by lia) (by lia) (λ i hi=>dn i (hint+bk) (by lia) d e) (λ i hi hn=> ?_) h;rcases f with f | ⟨f1,f2⟩
   ·lia
   ·exact nu (hint+fw) i (by lia) hn f2
 | false=>
  dsimp only
  rw [if_neg z1b];refine wpS_bind (wpS_mono (wpS_forRange (I:=λ x c J=>J=st/\∃ bk fw,c=(none,bk,fw)/\bk < fw/\x+1<=fw/\bk<=hint/\ahd left (rk key) (kx rk arr (base+(hint - bk)))=false)
   (Q:=λ c J=>J=st/\∃ bk fw,c=(none,bk,fw)/\bk < fw/\bk<=hint/\ahd left (rk key) (kx rk arr (base+(hint - bk)))=false/\(hint+1<=fw\/ fw<=hint/\ahd left (rk key) (kx rk arr (base+(hint - fw)))=true)) ?turn ?last ⟨rfl,0,1,rfl,by lia,by lia,by lia,e0⟩) ?after)
  case last=>
   rintro c J ⟨rfl,bk,fw,rfl,a,b,d,e⟩;exact ⟨zr,bk,fw,zr,a,d,e,.inl (by lia)⟩
  case turn=>
   rintro x c J _ hx ⟨rfl,bk,fw,rfl,a,b,d,e⟩
   dsimp only
   by_cases O:fw >=hint+1
   ·rw [if_pos O];exact wpS_pure ⟨zr,bk,fw,zr,a,d,e,.inl O⟩
   ·rw [if_neg O];refine wpS_bind (qbx L Z Y (hp _ (by lia)) ?_);cases U:ahd left (rk key) (kx rk arr (base+(hint - fw))) with
    | true=>
     dsimp only
     rw [if_pos rfl];exact wpS_pure ⟨zr,bk,fw,zr,a,d,e,.inr ⟨by lia,U⟩⟩
    | false=>
     dsimp only
     rw [if_neg z1b];exact wpS_pure ⟨zr,fw,_,zr,by lia,by lia,by lia,U⟩
  case after=>
   rintro c J ⟨rfl,bk,fw,rfl,a,d,e,f⟩
   dsimp only
   refine qlo L Z Y hp hu (lo:=hint+1 - min fw (hint+1)) (up:=hint - bk) (by lia) (by lia) (λ i hi=> ?_) (λ i hi hn=>nu (hint - bk) i hi hn e) h;rcases f with f | ⟨f1,f2⟩
   ·lia
   ·exact dn i (hint - fw) (by lia) (by lia) f2
end
def qax:Array Keyed ->Array Keyed ->StateT SortSt Sem (Array Keyed):=sortPriv%PySem.Builtin.mergeLo
abbrev q6c (st:SortSt) (g:Nat):SortSt:=SortSt.mk' (kindOf st) (arrOf st) (pendingOf st) g (failedOf st)
def q2r (a b out:Array Keyed) (ia ib:Nat):Array Keyed:=out++a.extract ia a.size++b.extract ib b.size
def q6y (a b out:Array Keyed) (ia ib:Nat):Array Keyed:=out++b.extract ib b.size++a.extract ia a.size
theorem qiy (a b:Array Keyed):qax a b=(do
 rule "list.sort.merge-lo"
 let all:=a.size+b.size
 let mut o:Array Keyed:=#[<- elem' b 0]
 let mut x:=0
 let mut y:=1
 if y==b.size then return q2r a b o x y
 if x+1==a.size then return q6y a b o x y
 let mut g:=gallopOf (<- get)
 for _ in [0:all] do
  let mut ca:=0
  let mut cb:=0
  for _ in [0:all] do
   let some won <- lt' (<- elem' b y) (<- elem' a x) | return q2r a b o x y
   if won then
    o:=o.push (<- elem' b y);y:=y+1;cb:=cb+1;ca:=0
    if y==b.size then return q2r a b o x y
    if cb >=g then break
   else
    o:=o.push (<- elem' a x);x:=x+1;ca:=ca+1;cb:=0
    if x+1==a.size then return q6y a b o x y
    if ca >=g then break
  rule "list.sort.gallop"
  g:=g+1
  for _ in [0:all] do
   if g > 1 then g:=g - 1
   modify λ st=>q6c st g
   let some k <- q2e false (<- elem' b y) a x (a.size - x) 0 | return q2r a b o x y
   ca:=k
   if k > 0 then
    o:=o++a.extract x (x+k);x:=x+k
    if x+1==a.size then return q6y a b o x y
    if x==a.size then return q2r a b o x y
   o:=o.push (<- elem' b y);y:=y+1
   if y==b.size then return q2r a b o x y
   let some k <- q2e true (<- elem' a x) b y (b.size - y) 0 | return q2r a b o x y
   cb:=k
   if k > 0 then
    o:=o++b.extract y (y+k);y:=y+k
    if y==b.size then return q2r a b o x y
   o:=o.push (<- elem' a x);x:=x+1
   if x+1==a.size then return q6y a b o x y
   if ca < 7&&cb < 7 then break
  g:=g+1
  modify λ st=>q6c st g
 unsupported "internal:list.sort.merge-bound"):=rfl
structure Gl (st st':SortSt):Prop where
 arr:arrOf st'=arrOf st
 kind:kindOf st'=kindOf st
 pend:pendingOf st'=pendingOf st
 failed:failedOf st'=failedOf st
theorem Gl.refl (st:SortSt):Gl st st:=⟨rfl,rfl,rfl,rfl⟩
theorem Gl.set {st J:SortSt} (h:Gl st J) (g:Nat):Gl st (q6c J g):=⟨h.arr,h.kind,h.pend,h.failed⟩
section
variable {rk:Keyed ->Int} {a b o:Array Keyed} {x y:Nat}
theorem q1z (xs:Array Keyed) (i:Nat) {p:Keyed} (h:xs.toList[i]? =some p):kx rk xs i=rk p:=q2q (by rw [<- h,z0s])
theorem q7j {l:List Keyed} {i k:Nat} {p:Keyed} (h:p∈(l.drop i).take k):∃ j,j < k/\l[i+j]? =some p:=by
 obtain ⟨j,hj,e⟩:=z0v.mp h;rw [z22] at hj;refine ⟨j,by lia,?_⟩;rw [<- e,z1p,List.getElem_drop,z0a]
theorem qay {l:List Keyed} {i:Nat} {p:Keyed} (h:p∈l.drop i):∃ j,i<=j/\j < l.length/\l[j]? =some p:=by
 obtain ⟨j,hj,e⟩:=z0v.mp h;rw [z23] at hj;refine ⟨i+j,by lia,by lia,?_⟩;rw [<- e,List.getElem_drop,z0a]
theorem qby {xs:Array Keyed} (h:Asc rk xs.toList) (lo hi:Nat) (hh:hi<=xs.size):Up rk xs lo hi:=by
 intro i j _ hij hj;have J:i < xs.toList.length:=by rw [z12];lia
 have O:j < xs.toList.length:=by rw [z12];lia
 rw [q1z xs i (z0a J),q1z xs j (z0a O)];rcases Nat.lt_or_ge i j with q | q
 ·exact z07.mp h i j J O q
 ·have:i=j:=by lia
  subst this;exact z3r _
theorem qo4 (xs:Array Keyed) (i k:Nat):(xs.extract i (i+k)).toList=(xs.toList.drop i).take k:=by
 rw [z0w,z09]
 congr 1
 lia
theorem q84 (xs:Array Keyed) (i:Nat):(xs.extract i xs.size).toList=xs.toList.drop i:=by
 rw [z0w,z09,z0i];rw [z23,z12]
 lia
theorem qaz {p:Keyed} (h:Jn rk a.toList b.toList o.toList x y) (ha:Asc rk a.toList) (e:a[x]? =some p) (J:∀ q∈b.toList.drop y,rk p<=rk q):Jn rk a.toList b.toList (o.push p).toList (x+1) y:=by
 have e':a.toList[x]? =some p:=by rw [z0s];exact e
 have:=h.moreA ha 1 (by rw [qav e'];intro z hz;rw [z1c.mp hz];exact J)
 rwa [qav e',<- z1q] at this
theorem qb0 {p:Keyed} (h:Jn rk a.toList b.toList o.toList x y) (hb:Asc rk b.toList) (e:b[y]? =some p) (J:∀ q∈a.toList.drop x,rk p<=rk q):Jn rk a.toList b.toList (o.push p).toList x (y+1):=
 (qaz h.swap hb e J).swap
theorem qjl (h:Jn rk a.toList b.toList o.toList x y) (ha:Asc rk a.toList) (k:Nat) (hx:∀ p∈(a.toList.drop x).take k,∀ q∈b.toList.drop y,rk p<=rk q):Jn rk a.toList b.toList (o++a.extract x (x+k)).toList (x+k) y:=by
 rw [z13,qo4];exact h.moreA ha k hx
theorem qqp (h:Jn rk a.toList b.toList o.toList x y) (hb:Asc rk b.toList) (k:Nat) (hx:∀ p∈(b.toList.drop y).take k,∀ q∈a.toList.drop x,rk p<=rk q):Jn rk a.toList b.toList (o++b.extract y (y+k)).toList x (y+k):=
 (qjl h.swap hb k hx).swap
def Good (rk:Keyed ->Int) (a b r:Array Keyed):Prop:=r.toList.Perm (a.toList++b.toList)/\Asc rk r.toList
theorem q5v (h:Jn rk a.toList b.toList o.toList x y) (ha:Asc rk a.toList) (hb:Asc rk b.toList) (hy:y=b.size):Good rk a b (q2r a b o x y):=by
 have hx:∀ p∈a.toList.drop x,∀ q∈b.toList.drop y,rk p<=rk q:=λ p _ q hq=>by
  rw [List.drop_of_length_le (by rw [z12];lia)] at hq;cases hq
 have:=h.done ha hb hx;unfold Good q2r;rw [z13,z13,q84,q84];exact this
end
structure Mg (S:Keyed ->Prop) (rk:Keyed ->Int) (a b:Array Keyed):Prop where
 sa:∀ p∈a.toList,S p
 sb:∀ p∈b.toList,S p
 aa:Asc rk a.toList
 ab:Asc rk b.toList
 na:0 < a.size
 nb:0 < b.size
 top:∃ z,a[a.size - 1]? =some z/\∀ p∈b.toList,rk p < rk z
 bot:∃ z,b[0]? =some z/\∀ p∈a.toList,rk z < rk p
section
variable {S:Keyed ->Prop} {rk:Keyed ->Int} {a b o:Array Keyed} {x y:Nat}
theorem Mg.atA (m:Mg S rk a b) {i:Nat} (h:i < a.size):∃ p,a[i]? =some p/\S p/\p∈a.toList:=
 ⟨a[i],getElem?_pos a i h,m.sa _ (by simp),by simp⟩
theorem Mg.atB (m:Mg S rk a b) {i:Nat} (h:i < b.size):∃ p,b[i]? =some p/\S p/\p∈b.toList:=
 ⟨b[i],getElem?_pos b i h,m.sb _ (by simp),by simp⟩
theorem q5w (m:Mg S rk a b) (h:Jn rk a.toList b.toList o.toList x y) (hx:x+1=a.size):Good rk a b (q6y a b o x y):=by
 obtain ⟨z,ez,hz⟩:=m.top;have hq:∀ p∈b.toList.drop y,∀ q∈a.toList.drop x,rk p<=rk q:=λ p hp q hq=>by
  obtain ⟨j,h1,h2,e⟩:=qay hq;rw [z12] at h2;have ej:j=a.size - 1:=by lia
  rw [z0s,ej,ez] at e;cases e
  exact z3c (hz p (z0x hp))
 have:=h.done2 m.aa m.ab hq;unfold Good q6y;rw [z13,z13,q84,q84];exact this
theorem qgx (m:Mg S rk a b) {i:Nat} {p:Keyed} (e:a[i]? =some p):∀ q∈a.toList.drop i,rk p<=rk q:=qjj m.aa (by rw [z0s];exact e)
theorem qgy (m:Mg S rk a b) {i:Nat} {p:Keyed} (e:b[i]? =some p):∀ q∈b.toList.drop i,rk p<=rk q:=qjj m.ab (by rw [z0s];exact e)
end
abbrev LoSt:=Option (Array Keyed)×Array Keyed×Nat×Nat×Nat×Nat×Nat
def qbz (a b:Array Keyed) (ca cb g:Nat) (o:Array Keyed) (x y:Nat):StateT SortSt Sem (ForInStep LoSt):=do
 let p <- elem' a x
 if (x+1+1==a.size)=true then pure (ForInStep.done (some (q6y a b (o.push p) (x+1) y),o.push p,x+1,y,g,ca,cb))
 else if (decide (ca < 7)&&decide (cb < 7))=true then pure (ForInStep.done (none,o.push p,x+1,y,g,ca,cb))
 else pure (ForInStep.yield (none,o.push p,x+1,y,g,ca,cb))
def qgl (a b:Array Keyed) (ca cb g:Nat) (o:Array Keyed) (x y:Nat):StateT SortSt Sem (ForInStep LoSt):=do
 let p <- elem' b y
 if (y+1==b.size)=true then pure (ForInStep.done (some (q2r a b (o.push p) x (y+1)),o.push p,x,y+1,g,ca,cb))
 else do
  let some k <- q2e true (<- elem' a x) b (y+1) (b.size - (y+1)) 0 | pure (ForInStep.done (some (q2r a b (o.push p) x (y+1)),o.push p,x,y+1,g,ca,cb))
  if k > 0 then
   if (y+1+k==b.size)=true then pure (ForInStep.done (some (q2r a b (o.push p++b.extract (y+1) (y+1+k)) x (y+1+k)),o.push p++b.extract (y+1) (y+1+k),x,y+1+k,g,ca,k))
   else qbz a b ca k g (o.push p++b.extract (y+1) (y+1+k)) x (y+1+k)
  else qbz a b ca k g (o.push p) x (y+1)
def qki (a b:Array Keyed) (ca cb g:Nat) (o:Array Keyed) (x y:Nat):StateT SortSt Sem (ForInStep LoSt):=do
 modify λ st=>q6c st g
 let some k <- q2e false (<- elem' b y) a x (a.size - x) 0 | pure (ForInStep.done (some (q2r a b o x y),o,x,y,g,ca,cb))
 if k > 0 then
  if (x+k+1==a.size)=true then pure (ForInStep.done (some (q6y a b (o++a.extract x (x+k)) (x+k) y),o++a.extract x (x+k),x+k,y,g,k,cb))
  else if (x+k==a.size)=true then pure (ForInStep.done (some (q2r a b (o++a.extract x (x+k)) (x+k) y),o++a.extract x (x+k),x+k,y,g,k,cb))
  else qgl a b k cb g (o++a.extract x (x+k)) (x+k) y
 else qgl a b k cb g o x y
section
variable {M:Model} {A:Around} {E:Value ->Shared ->Prop} {s:Shared} {kd:SortKind} {S:Keyed ->Prop} {rk:Keyed ->Int} {a b:Array Keyed} {st:SortSt}
structure Go (rk:Keyed ->Int) (a b o:Array Keyed) (x y:Nat):Prop where
 jn:Jn rk a.toList b.toList o.toList x y
 hx:x+1 < a.size
 hy:y < b.size
def LoQ (rk:Keyed ->Int) (a b:Array Keyed) (st:SortSt) (n:Nat) (r:ForInStep LoSt) (st':SortSt):Prop:=Gl st st'/\match r with
 | .done c=>(∃ r,c.1=some r/\Good rk a b r)\/ (c.1=none/\Go rk a b c.2.1 c.2.2.1 c.2.2.2.1/\n<=c.2.2.1+c.2.2.2.1)
 | .yield c=>c.1=none/\Go rk a b c.2.1 c.2.2.1 c.2.2.2.1/\n<=c.2.2.1+c.2.2.2.1
theorem qgz (m:Mg S rk a b) {O:SortSt} {n ca cb g x y:Nat} {o:Array Keyed} (Z:Gl st O) (J:Jn rk a.toList b.toList o.toList x y) (hx:x+1 < a.size) (hy:y < b.size)
  (a1:∀ p,a[x]? =some p ->∀ q∈b.toList.drop y,rk p<=rk q) (hn:n<=x+y):wpS M A E s (qbz a b ca cb g o x y) (LoQ rk a b st (n+1)) O:=by
 obtain ⟨p,e,_,_⟩:=m.atA (i:=x) (by lia);have U:=qaz J m.aa e (a1 p e);unfold qbz;refine wpS_bind (q1m e ?_);by_cases Y:x+1+1=a.size
 ·rw [if_pos (by simpa using Y)];exact wpS_pure ⟨Z,.inl ⟨_,zr,q5w m U Y⟩⟩
 ·rw [if_neg (by simpa using Y)];by_cases c2:(decide (ca < 7)&&decide (cb < 7))=true
  ·rw [if_pos c2];exact wpS_pure ⟨Z,.inr ⟨rfl,⟨U,by show x+1+1 < a.size;lia,hy⟩,by show n+1<=x+1+y;lia⟩⟩
  ·rw [if_neg c2];exact wpS_pure ⟨Z,rfl,⟨U,by show x+1+1 < a.size;lia,hy⟩,by show n+1<=x+1+y;lia⟩
theorem qjm (L:LtOk M A E s kd S rk) (hk:kindOf st=kd) (m:Mg S rk a b) {U:SortSt} {n ca cb g x y:Nat} {o:Array Keyed} (O:Gl st U) (J:Jn rk a.toList b.toList o.toList x y) (hx:x+1 < a.size) (hy:y < b.size)
  (a1:∀ p,b[y]? =some p ->∀ q∈a.toList.drop x,rk p<=rk q) (hn:n<=x+y):wpS M A E s (qgl a b ca cb g o x y) (LoQ rk a b st (n+1)) U:=by
 obtain ⟨p,e,_,_⟩:=m.atB hy;have Y:=qb0 J m.ab e (a1 p e);unfold qgl;refine wpS_bind (q1m e ?_);by_cases Z:y+1=b.size
 ·rw [if_pos (by simpa using Z)];exact wpS_pure ⟨O,.inl ⟨_,zr,q5v Y m.aa m.ab Z⟩⟩
 ·rw [if_neg (by simpa using Z)];obtain ⟨q,eq,sq,_⟩:=m.atA (i:=x) (by lia);refine wpS_bind (q1m eq ?_);refine wpS_bind (q4i L (O.kind.trans hk) sq (λ i hi=> ?_) (qby m.ab _ _ (by lia)) (by lia) λ k k1 k2 k3=> ?_)
  ·obtain ⟨p,e,sp,_⟩:=m.atB (i:=y+1+i) (by lia);exact ⟨p,e,sp⟩
  dsimp only
  have after:∀ p',a[x]? =some p' ->∀ z∈b.toList.drop (y+1+k),rk p'<=rk z:=λ p' ep z hz=>by
   rw [eq] at ep;cases ep
   obtain ⟨j,h1,h2,ez⟩:=qay hz;rw [z12] at h2;have:=k3 (j - (y+1)) (by lia) (by lia);rw [show y+1+(j - (y+1))=j by lia,q1z b j ez] at this;simp [ahd] at this
   lia
  by_cases c2:k > 0
  ·rw [if_pos c2];have J2:=qqp Y m.ab k λ z hz w hw=>by
    obtain ⟨j,h1,ez⟩:=q7j hz;have:=k2 j h1;rw [q1z b _ ez] at this;simp [ahd] at this
    have:=qgx m eq w hw
    lia
   by_cases c3:y+1+k=b.size
   ·rw [if_pos (by simpa using c3)];exact wpS_pure ⟨O,.inl ⟨_,zr,q5v J2 m.aa m.ab c3⟩⟩
   ·rw [if_neg (by simpa using c3)];exact qgz m O J2 hx (by lia) after (by lia)
  ·rw [if_neg c2];have k0:k=0:=by lia
   subst k0;exact qgz m O Y hx (by lia) after (by lia)
theorem qqq (L:LtOk M A E s kd S rk) (Z:kindOf st=kd) (m:Mg S rk a b) {Y:SortSt} {n ca cb g x y:Nat} {o:Array Keyed} (hg:Gl st Y) (G:Go rk a b o x y) (hn:n<=x+y):
  wpS M A E s (qki a b ca cb g o x y) (LoQ rk a b st (n+1)) Y:=by
 obtain ⟨J,hx,hy⟩:=G;unfold qki;refine wpS_bind (wpS_modify ?_);have O:=hg.set g;obtain ⟨q,eq,sq,mq⟩:=m.atB hy;refine wpS_bind (q1m eq ?_);refine wpS_bind (q4i L (O.kind.trans Z) sq (λ i hi=> ?_) (qby m.aa _ _ (by lia)) (by lia) λ k k1 k2 k3=> ?_)
 ·obtain ⟨p,e,sp,_⟩:=m.atA (i:=x+i) (by lia);exact ⟨p,e,sp⟩
 dsimp only
 have after:∀ p',b[y]? =some p' ->∀ z∈a.toList.drop (x+k),rk p'<=rk z:=λ p' ep z hz=>by
  rw [eq] at ep;cases ep
  obtain ⟨j,h1,h2,U⟩:=qay hz;rw [z12] at h2;have:=k3 (j - x) (by lia) (by lia);rw [show x+(j - x)=j by lia,q1z a j U] at this;simp [ahd] at this
  lia
 by_cases c2:k > 0
 ·rw [if_pos c2];have J2:=qjl J m.aa k λ z hz w hw=>by
   obtain ⟨j,h1,U⟩:=q7j hz;have:=k2 j h1;rw [q1z a _ U] at this;simp [ahd] at this
   have:=qgy m eq w hw
   lia
  by_cases c3:x+k+1=a.size
  ·rw [if_pos (by simpa using c3)];exact wpS_pure ⟨O,.inl ⟨_,zr,q5w m J2 c3⟩⟩
  ·rw [if_neg (by simpa using c3)];have c4:¬ x+k=a.size:=λ c4=>by
    obtain ⟨z,U,hz⟩:=m.top;have:=k2 (a.size - 1 - x) (by lia);rw [show x+(a.size - 1 - x)=a.size - 1 by lia,q2q U] at this;simp [ahd] at this
    have:=hz q mq
    lia
   rw [if_neg (by simpa using c4)];exact qjm L Z m O J2 (by lia) hy after (by lia)
 ·rw [if_neg c2];have k0:k=0:=by lia
  subst k0;exact qjm L Z m O J hx hy after hn
theorem qlp (L:LtOk M A E s kd S rk) (hk:kindOf st=kd) (m:Mg S rk a b) {Q:Array Keyed ->SortSt ->Prop} (h:∀ r O,Gl st O ->Good rk a b r ->Q r O):wpS M A E s (qax a b) Q st:=by
 rw [qiy];refine wpS_bind (wpS_lift (z3t ⟨zr,?_⟩));obtain ⟨q,eq,sq,mq⟩:=m.atB m.nb;refine wpS_bind (q1m eq ?_);have J1:Jn rk a.toList b.toList (#[q]:Array Keyed).toList 0 1:=by
  obtain ⟨z,ez,hz⟩:=m.bot;rw [eq] at ez;cases ez
  exact qb0 (o:=#[]) Jn.start m.ab eq λ w hw=>z3c (hz w (z0x hw))
 by_cases c1:1=b.size
 ·rw [if_pos (by simpa using c1)];exact wpS_pure (h _ _ (Gl.refl _) (q5v J1 m.aa m.ab c1))
 ·rw [if_neg (by simpa using c1)];by_cases c2:0+1=a.size
  ·rw [if_pos (by simpa using c2)];exact wpS_pure (h _ _ (Gl.refl _) (q5w m J1 c2))
  ·rw [if_neg (by simpa using c2)];refine wpS_bind (wpS_get ?_);have na:=m.na;have nb:=m.nb;have G1:Go rk a b #[q] 0 1:=⟨J1,by lia,by lia⟩;refine wpS_bind (wpS_mono (wpS_forRange (I:=λ i c O=>Gl st O/\∃ o x y g,c=(none,o,x,y,g)/\Go rk a b o x y/\i+1<=x+y)
    (Q:=λ c O=>Gl st O/\∃ r o x y g,c=(some r,o,x,y,g)/\Good rk a b r) ?turn ?last ⟨Gl.refl _,#[q],0,1,_,rfl,G1,by lia⟩) ?after)
   case after=>
    rintro c O ⟨hg,r,o,x,y,g,rfl,hr⟩;exact wpS_pure (h r O hg hr)
   case last=>
    rintro c O ⟨hg,o,x,y,g,rfl,G,hi⟩;have:=G.hx;have:=G.hy
    exfalso
    lia
   case turn=>
    rintro i c O _ hi ⟨hg,o,x,y,g,rfl,G,hxy⟩
    dsimp only
    refine wpS_bind (wpS_mono (wpS_forRange (I:=λ j c U=>Gl st U/\∃ o x y ca cb,c=(none,o,x,y,ca,cb)/\Go rk a b o x y/\i+1+j<=x+y)
     (Q:=λ c U=>Gl st U/\∃ r o x y ca cb,c=(r,o,x,y,ca,cb)/\match r with
      | some r=>Good rk a b r
      | none=>Go rk a b o x y/\i+2<=x+y) ?iturn ?ilast ⟨hg,o,x,y,0,0,rfl,G,by lia⟩) ?iafter)
    case ilast=>
     rintro c U ⟨J,o,x,y,ca,cb,rfl,G,hj⟩;have:=G.hx;have:=G.hy
     exfalso
     lia
    case iturn=>
     rintro j c U _ hj ⟨J,o,x,y,ca,cb,rfl,G,a4⟩
     dsimp only
     obtain ⟨pb,eb,sb,mb⟩:=m.atB G.hy;obtain ⟨pa,ea,sa,ma⟩:=m.atA (i:=x) (by have:=G.hx;lia);refine wpS_bind (q1m eb (wpS_bind (q1m ea (wpS_bind (L pb pa U _ sb sa (J.kind.trans hk) ?_)))));by_cases hw:rk pb < rk pa
     ·simp only [hw,z3q,if_true];refine wpS_bind (q1m eb ?_);have J2:=qb0 G.jn m.ab eb λ z hz=>z3d (z3c hw) (qgx m ea z hz);by_cases c3:y+1=b.size
      ·rw [if_pos (by simpa using c3)];exact wpS_pure ⟨J,_,_,_,_,_,_,zr,q5v J2 m.aa m.ab c3⟩
      ·rw [if_neg (by simpa using c3)];have G2:Go rk a b (o.push pb) x (y+1):=⟨J2,G.hx,by have:=G.hy;lia⟩;split
       ·exact wpS_pure ⟨J,_,_,_,_,_,_,zr,G2,by lia⟩
       ·exact wpS_pure ⟨J,_,_,_,_,_,zr,G2,by lia⟩
     ·simp only [hw,z3b,z1a,if_false];refine wpS_bind (q1m ea ?_);have J2:=qaz G.jn m.aa ea λ z hz=>z3d (by lia) (qgy m eb z hz);by_cases c3:x+1+1=a.size
      ·rw [if_pos (by simpa using c3)];exact wpS_pure ⟨J,_,_,_,_,_,_,zr,q5w m J2 c3⟩
      ·rw [if_neg (by simpa using c3)];have G2:Go rk a b (o.push pa) (x+1) y:=⟨J2,by have:=G.hx;lia,G.hy⟩;split
       ·exact wpS_pure ⟨J,_,_,_,_,_,_,zr,G2,by lia⟩
       ·exact wpS_pure ⟨J,_,_,_,_,_,zr,G2,by lia⟩
    case iafter=>
     rintro c U ⟨J,r,o2,x2,y2,ca,cb,rfl,hr⟩;cases r with
     | some r=>exact wpS_pure ⟨J,r,_,_,_,_,rfl,hr⟩
     | none=>
      obtain ⟨G2,a4⟩:=hr
      dsimp only
      refine wpS_bind (wpS_lift (z3t ⟨zr,?_⟩));refine wpS_bind (wpS_mono (wpS_forRange (I:=λ j c Y=>Gl st Y/\∃ o x y g ca cb,c=(none,o,x,y,g,ca,cb)/\Go rk a b o x y/\i+2+j<=x+y)
       (Q:=λ c Y=>Gl st Y/\∃ r o x y g ca cb,c=(r,o,x,y,g,ca,cb)/\match r with
        | some r=>Good rk a b r
        | none=>Go rk a b o x y/\i+2<=x+y) ?gturn ?glast ⟨J,o2,x2,y2,_,_,_,rfl,G2,by lia⟩) ?gafter)
      case glast=>
       rintro c Y ⟨Z,o,x,y,g,ca,cb,rfl,G,hj⟩;have:=G.hx;have:=G.hy
       exfalso
       lia
      case gturn=>
       rintro j c Y _ hj ⟨Z,o,x,y,g,ca,cb,rfl,G,a1⟩;have go:∀ g',wpS M A E s (qki a b ca cb g' o x y) (LoQ rk a b st (i+2+j+1)) Y:=λ g'=>qqq L hk m Z G a1
       dsimp only
       by_cases a3:g > 1
       case' pos=>
        rw [if_pos a3];refine wpS_mono (go (g - 1)) ?_
       case' neg=>
        rw [if_neg a3];refine wpS_mono (go g) ?_
       all_goals
        intro r st4 q;obtain ⟨a2,q⟩:=q;cases r with
        | done c'=>
         obtain ⟨r,o,x,y,g,ca,cb⟩:=c';rcases q with ⟨r',e,q⟩ | ⟨e,q,q'⟩
         ·simp only at e;subst e;exact ⟨a2,_,_,_,_,_,_,_,zr,q⟩
         ·simp only at e q q';subst e;exact ⟨a2,_,_,_,_,_,_,_,zr,q,by lia⟩
        | yield c'=>
         obtain ⟨r,o,x,y,g,ca,cb⟩:=c';obtain ⟨e,q,q'⟩:=q;simp only at e q q';subst e;exact ⟨a2,_,_,_,_,_,_,zr,q,by lia⟩
      case gafter=>
       rintro c Y ⟨Z,r,o3,x3,y3,g3,ca3,cb3,rfl,hr⟩;cases r with
       | some r=>exact wpS_pure ⟨Z,r,_,_,_,_,rfl,hr⟩
       | none=>
        obtain ⟨G3,a1⟩:=hr
        dsimp only
        exact wpS_bind (wpS_modify (wpS_pure ⟨Z.set _,_,_,_,_,zr,G3,by lia⟩))
end
def qb1:Array Keyed ->Array Keyed ->StateT SortSt Sem (Array Keyed):=sortPriv%PySem.Builtin.mergeHi
def q2s (a b out:Array Keyed) (na nb:Nat):Array Keyed:=a.extract 0 na++b.extract 0 nb++out.reverse
def q4y (a b out:Array Keyed) (na nb:Nat):Array Keyed:=b.extract 0 nb++a.extract 0 na++out.reverse
theorem qiz (a b:Array Keyed):qb1 a b=(do
 rule "list.sort.merge-hi"
 let all:=a.size+b.size
 let mut x:=a.size - 1
 let mut y:=b.size
 let mut o:Array Keyed:=#[<- elem' a x]
 if x==0 then return q2s a b o x y
 if y==1 then return q4y a b o x y
 let mut g:=gallopOf (<- get)
 for _ in [0:all] do
  let mut ca:=0
  let mut cb:=0
  for _ in [0:all] do
   let some won <- lt' (<- elem' b (y - 1)) (<- elem' a (x - 1)) | return q2s a b o x y
   if won then
    x:=x - 1;o:=o.push (<- elem' a x);ca:=ca+1;cb:=0
    if x==0 then return q2s a b o x y
    if ca >=g then break
   else
    y:=y - 1;o:=o.push (<- elem' b y);cb:=cb+1;ca:=0
    if y==1 then return q4y a b o x y
    if cb >=g then break
  rule "list.sort.gallop"
  g:=g+1
  for _ in [0:all] do
   if g > 1 then g:=g - 1
   modify λ st=>q6c st g
   let some j <- q2e false (<- elem' b (y - 1)) a 0 x (x - 1) | return q2s a b o x y
   let k:=x - j
   ca:=k
   if k > 0 then
    o:=o++(a.extract j x).reverse;x:=j
    if x==0 then return q2s a b o x y
   y:=y - 1;o:=o.push (<- elem' b y)
   if y==1 then return q4y a b o x y
   let some j <- q2e true (<- elem' a (x - 1)) b 0 y (y - 1) | return q2s a b o x y
   let k:=y - j
   cb:=k
   if k > 0 then
    o:=o++(b.extract j y).reverse;y:=j
    if y==1 then return q4y a b o x y
    if y==0 then return q2s a b o x y
   x:=x - 1;o:=o.push (<- elem' a x)
   if x==0 then return q2s a b o x y
   if ca < 7&&cb < 7 then break
  g:=g+1
  modify λ st=>q6c st g
 unsupported "internal:list.sort.merge-bound"):=rfl
section
variable {rk:Keyed ->Int} {a b o:Array Keyed} {x y:Nat}
def JH (rk:Keyed ->Int) (a b o:Array Keyed) (x y:Nat):Prop:=Jn (λ p=>- rk p) a.toList.reverse b.toList.reverse o.toList (a.size - x) (b.size - y)/\x<=a.size/\y<=b.size
theorem JH.swap (h:JH rk a b o x y):JH rk b a o y x:=⟨h.1.swap,h.2.2,h.2.1⟩
theorem qc0 (xs:Array Keyed) {k:Nat} (h:k<=xs.size):xs.toList.reverse.drop (xs.size - k)=(xs.toList.take k).reverse:=by
 have:=qgw xs.toList k (by rw [z12];exact h)
 rwa [z12] at this
theorem rcut (xs:Array Keyed) {i k:Nat} (hi:i<=k) (h:k<=xs.size):(xs.toList.reverse.drop (xs.size - k)).take (k - i)=((xs.toList.drop i).take (k - i)).reverse:=by
 have:=qqo xs.toList i k hi (by rw [z12];exact h)
 rwa [z12] at this
theorem qd7 (h:JH rk a b o x y) (ha:Asc rk a.toList) {j:Nat} (O:j<=x) (hx:∀ p∈(a.toList.drop j).take (x - j),∀ q∈b.toList.take y,rk q<=rk p):JH rk a b (o++(a.extract j x).reverse) j y:=by
 obtain ⟨J,h1,h2⟩:=h;refine ⟨?_,by lia,h2⟩;have:=J.moreA (qd6 ha) (x - j) (λ p hp q hq=>by
  rw [rcut a O h1] at hp;rw [qc0 b h2] at hq;have:=hx p (List.mem_reverse.mp hp) q (List.mem_reverse.mp hq);show - rk p<= - rk q
  lia)
 rw [rcut a O h1,show a.size - x+(x - j)=a.size - j by lia] at this;rw [z13,Array.toList_reverse,z0w,z09];exact this
theorem q85 {p:Keyed} (h:JH rk a b o x y) (ha:Asc rk a.toList) (h1:1<=x) (e:a[x - 1]? =some p) (J:∀ q∈b.toList.take y,rk q<=rk p):JH rk a b (o.push p) (x - 1) y:=by
 have e':a.toList[x - 1]? =some p:=by rw [z0s];exact e
 have t1:(a.toList.drop (x - 1)).take (x - (x - 1))=[p]:=by
  rw [show x - (x - 1)=1 by lia];exact qav e'
 have:=qd7 h ha (j:=x - 1) (by lia) (by rw [t1];intro z hz;rw [z1c.mp hz];exact J);have e2:(o++(a.extract (x - 1) x).reverse)=o.push p:=by
  apply Array.toList_inj.mp
  rw [z13,Array.toList_reverse,z0w,z09,t1,z1q];rfl
 rwa [e2] at this
theorem qqr (h:JH rk a b o x y) (hb:Asc rk b.toList) {j:Nat} (hj:j<=y) (hx:∀ p∈(b.toList.drop j).take (y - j),∀ q∈a.toList.take x,rk q<=rk p):JH rk a b (o++(b.extract j y).reverse) x j:=(qd7 h.swap hb hj hx).swap
theorem qh0 {p:Keyed} (h:JH rk a b o x y) (hb:Asc rk b.toList) (h1:1<=y) (e:b[y - 1]? =some p) (J:∀ q∈a.toList.take x,rk q<=rk p):JH rk a b (o.push p) x (y - 1):=(q85 h.swap hb h1 e J).swap
theorem qh1 (xs:Array Keyed) (k:Nat):(xs.extract 0 k).toList=xs.toList.take k:=by
 rw [z0w,z09,List.drop_zero,Nat.sub_zero]
theorem good_headB' (h:JH rk a b o x y) (ha:Asc rk a.toList) (hb:Asc rk b.toList) (hq:∀ p∈a.toList.take x,∀ q∈b.toList.take y,rk q<=rk p):Good rk a b (q4y a b o x y):=by
 obtain ⟨J,h1,h2⟩:=h;have:=J.done (qd6 ha) (qd6 hb) (λ p hp q O=>by
  rw [qc0 a h1] at hp;rw [qc0 b h2] at O;have:=hq p (List.mem_reverse.mp hp) q (List.mem_reverse.mp O);show - rk p<= - rk q
  lia)
 rw [qc0 a h1,qc0 b h2] at this;have e:(q4y a b o x y).toList=(o.toList++(a.toList.take x).reverse++(b.toList.take y).reverse).reverse:=by
  unfold q4y;rw [z13,z13,qh1,qh1,Array.toList_reverse];simp
 unfold Good;rw [e];exact ⟨(List.reverse_perm _).trans (this.1.trans ((List.reverse_perm _).append (List.reverse_perm _))),asc_rev' this.2⟩
theorem good_headA' (h:JH rk a b o x y) (ha:Asc rk a.toList) (hb:Asc rk b.toList) (hq:∀ p∈b.toList.take y,∀ q∈a.toList.take x,rk q<=rk p):Good rk a b (q2s a b o x y):=by
 obtain ⟨p,q⟩:=good_headB' h.swap hb ha hq;exact ⟨p.trans z0p,q⟩
theorem q5x (h:JH rk a b o x y) (ha:Asc rk a.toList) (hb:Asc rk b.toList) (hx:x=0):Good rk a b (q2s a b o x y):=by
 refine good_headA' h ha hb λ p _ q hq=> ?_;rw [hx,List.take_zero] at hq;cases hq
end
section
variable {S:Keyed ->Prop} {rk:Keyed ->Int} {a b o:Array Keyed} {x y:Nat}
theorem q5y (m:Mg S rk a b) (h:JH rk a b o x y) (hy:y=1):Good rk a b (q4y a b o x y):=by
 obtain ⟨z,ez,hz⟩:=m.bot;refine good_headB' h m.aa m.ab λ p hp q hq=> ?_;subst hy;obtain ⟨j,hj,e⟩:=z0v.mp hq;rw [z22] at hj;have j0:j=0:=by lia
 subst j0;rw [z1p] at e;have:b.toList[0]? =some q:=by rw [<- e,z0a]
 rw [z0s,ez] at this;cases this
 exact z3c (hz p (z0y hp))
theorem qh2 (m:Mg S rk a b) {i:Nat} {p:Keyed} (h1:1<=i) (e:a[i - 1]? =some p):∀ q∈a.toList.take i,rk q<=rk p:=by
 have:=qjk m.aa (i:=i - 1) (x:=p) (by rw [z0s];exact e)
 rwa [show i - 1+1=i by lia] at this
theorem qh3 (m:Mg S rk a b) {i:Nat} {p:Keyed} (h1:1<=i) (e:b[i - 1]? =some p):∀ q∈b.toList.take i,rk q<=rk p:=by
 have:=qjk m.ab (i:=i - 1) (x:=p) (by rw [z0s];exact e)
 rwa [show i - 1+1=i by lia] at this
theorem qh4 {l:List Keyed} {k:Nat} {p:Keyed} (h:p∈l.take k):∃ j,j < k/\l[j]? =some p:=by
 have:=q7j (l:=l) (i:=0) (k:=k) (p:=p) (by simpa using h);obtain ⟨j,a,b⟩:=this;exact ⟨j,a,by rwa [z3e] at b⟩
end
abbrev HiSt:=Option (Array Keyed)×Nat×Nat×Array Keyed×Nat×Nat×Nat
def qc1 (a b:Array Keyed) (ca cb g:Nat) (o:Array Keyed) (x y:Nat):StateT SortSt Sem (ForInStep HiSt):=do
 let p <- elem' a (x - 1)
 if (x - 1==0)=true then pure (ForInStep.done (some (q2s a b (o.push p) (x - 1) y),x - 1,y,o.push p,g,ca,cb))
 else if (decide (ca < 7)&&decide (cb < 7))=true then pure (ForInStep.done (none,x - 1,y,o.push p,g,ca,cb))
 else pure (ForInStep.yield (none,x - 1,y,o.push p,g,ca,cb))
def qgm (a b:Array Keyed) (ca cb g:Nat) (o:Array Keyed) (x y:Nat):StateT SortSt Sem (ForInStep HiSt):=do
 let p <- elem' b (y - 1)
 if (y - 1==1)=true then pure (ForInStep.done (some (q4y a b (o.push p) x (y - 1)),x,y - 1,o.push p,g,ca,cb))
 else do
  let some j <- q2e true (<- elem' a (x - 1)) b 0 (y - 1) (y - 1 - 1) | pure (ForInStep.done (some (q2s a b (o.push p) x (y - 1)),x,y - 1,o.push p,g,ca,cb))
  if y - 1 - j > 0 then
   if (j==1)=true then pure (ForInStep.done (some (q4y a b (o.push p++(b.extract j (y - 1)).reverse) x j),x,j,o.push p++(b.extract j (y - 1)).reverse,g,ca,y - 1 - j))
   else if (j==0)=true then pure (ForInStep.done (some (q2s a b (o.push p++(b.extract j (y - 1)).reverse) x j),x,j,o.push p++(b.extract j (y - 1)).reverse,g,ca,y - 1 - j))
   else qc1 a b ca (y - 1 - j) g (o.push p++(b.extract j (y - 1)).reverse) x j
  else qc1 a b ca (y - 1 - j) g (o.push p) x (y - 1)
def qkj (a b:Array Keyed) (ca cb g:Nat) (o:Array Keyed) (x y:Nat):StateT SortSt Sem (ForInStep HiSt):=do
 modify λ st=>q6c st g
 let some j <- q2e false (<- elem' b (y - 1)) a 0 x (x - 1) | pure (ForInStep.done (some (q2s a b o x y),x,y,o,g,ca,cb))
 if x - j > 0 then
  if (j==0)=true then pure (ForInStep.done (some (q2s a b (o++(a.extract j x).reverse) j y),j,y,o++(a.extract j x).reverse,g,x - j,cb))
  else qgm a b (x - j) cb g (o++(a.extract j x).reverse) j y
 else qgm a b (x - j) cb g o x y
section
variable {M:Model} {A:Around} {E:Value ->Shared ->Prop} {s:Shared} {kd:SortKind} {S:Keyed ->Prop} {rk:Keyed ->Int} {a b:Array Keyed} {st:SortSt}
structure GoH (rk:Keyed ->Int) (a b o:Array Keyed) (x y:Nat):Prop where
 jn:JH rk a b o x y
 hx:1<=x
 hy:2<=y
def HiQ (rk:Keyed ->Int) (a b:Array Keyed) (st:SortSt) (n:Nat) (r:ForInStep HiSt) (st':SortSt):Prop:=Gl st st'/\match r with
 | .done c=>(∃ r,c.1=some r/\Good rk a b r)\/ (c.1=none/\GoH rk a b c.2.2.2.1 c.2.1 c.2.2.1/\c.2.1+c.2.2.1<=n)
 | .yield c=>c.1=none/\GoH rk a b c.2.2.2.1 c.2.1 c.2.2.1/\c.2.1+c.2.2.1<=n
theorem qh5 (m:Mg S rk a b) {O:SortSt} {n ca cb g x y:Nat} {o:Array Keyed} (Z:Gl st O) (J:JH rk a b o x y) (hx:1<=x) (hy:2<=y)
  (a1:∀ p,a[x - 1]? =some p ->∀ q∈b.toList.take y,rk q<=rk p) (hn:x+y<=n+1):wpS M A E s (qc1 a b ca cb g o x y) (HiQ rk a b st n) O:=by
 have hz:=J.2.1;obtain ⟨p,e,_,_⟩:=m.atA (i:=x - 1) (by lia);have U:=q85 J m.aa hx e (a1 p e);unfold qc1;refine wpS_bind (q1m e ?_);by_cases Y:x - 1=0
 ·rw [if_pos (by simpa using Y)];exact wpS_pure ⟨Z,.inl ⟨_,zr,q5x U m.aa m.ab Y⟩⟩
 ·rw [if_neg (by simpa using Y)];by_cases c2:(decide (ca < 7)&&decide (cb < 7))=true
  ·rw [if_pos c2];exact wpS_pure ⟨Z,.inr ⟨rfl,⟨U,by show 1<=x - 1;lia,hy⟩,by show x - 1+y<=n;lia⟩⟩
  ·rw [if_neg c2];exact wpS_pure ⟨Z,rfl,⟨U,by show 1<=x - 1;lia,hy⟩,by show x - 1+y<=n;lia⟩
theorem qjn (L:LtOk M A E s kd S rk) (hk:kindOf st=kd) (m:Mg S rk a b) {Y:SortSt} {n ca cb g x y:Nat} {o:Array Keyed} (U:Gl st Y) (J:JH rk a b o x y) (hx:1<=x) (hy:2<=y)
  (a1:∀ p,b[y - 1]? =some p ->∀ q∈a.toList.take x,rk q<=rk p) (hn:x+y<=n+1):wpS M A E s (qgm a b ca cb g o x y) (HiQ rk a b st n) Y:=by
 have hz1:=J.2.1;have hz2:=J.2.2;obtain ⟨p,e,_,_⟩:=m.atB (i:=y - 1) (by lia);have Z:=qh0 J m.ab (by lia) e (a1 p e);unfold qgm;refine wpS_bind (q1m e ?_);by_cases c1:y - 1=1
 ·rw [if_pos (by simpa using c1)];exact wpS_pure ⟨U,.inl ⟨_,zr,q5y m Z c1⟩⟩
 ·rw [if_neg (by simpa using c1)];obtain ⟨q,eq,sq,mq⟩:=m.atA (i:=x - 1) (by lia);refine wpS_bind (q1m eq ?_);refine wpS_bind (q4i L (U.kind.trans hk) sq (λ i hi=> ?_) (qby m.ab _ _ (by lia)) (by lia) λ j j1 j2 j3=> ?_)
  ·obtain ⟨p,e,sp,_⟩:=m.atB (i:=0+i) (by lia);exact ⟨p,e,sp⟩
  dsimp only
  have after:∀ p',a[x - 1]? =some p' ->∀ z∈b.toList.take j,rk z<=rk p':=λ p' ep z hz=>by
   rw [eq] at ep;cases ep
   obtain ⟨i,h1,O⟩:=qh4 hz;have:=j2 i h1;rw [z3e,q1z b i O] at this;simp [ahd] at this
   lia
  by_cases c2:y - 1 - j > 0
  ·rw [if_pos c2];have J2:=qqr Z m.ab (j:=j) (by lia) λ z hz w hw=>by
    obtain ⟨i,h1,O⟩:=q7j hz;have:=j3 (j+i) (by lia) (by lia);rw [z3e,q1z b _ O] at this;simp [ahd] at this
    have:=qh2 m hx eq w hw
    lia
   by_cases c3:j=1
   ·rw [if_pos (by simpa using c3)];exact wpS_pure ⟨U,.inl ⟨_,zr,q5y m J2 c3⟩⟩
   ·rw [if_neg (by simpa using c3)];have c4:¬ j=0:=λ c4=>by
     obtain ⟨z,O,hz⟩:=m.bot;have:=j3 0 (by lia) (by lia);rw [z3e,q2q O] at this;simp [ahd] at this
     have:=hz q mq
     lia
    rw [if_neg (by simpa using c4)];exact qh5 m U J2 hx (by lia) after (by lia)
  ·rw [if_neg c2];have ej:j=y - 1:=by lia
   subst ej;exact qh5 m U Z hx (by lia) after (by lia)
theorem qqs (L:LtOk M A E s kd S rk) (Z:kindOf st=kd) (m:Mg S rk a b) {U:SortSt} {n ca cb g x y:Nat} {o:Array Keyed} (hg:Gl st U) (G:GoH rk a b o x y) (hn:x+y<=n+1):
  wpS M A E s (qkj a b ca cb g o x y) (HiQ rk a b st n) U:=by
 obtain ⟨J,hx,hy⟩:=G;have hz1:=J.2.1;have hz2:=J.2.2;unfold qkj;refine wpS_bind (wpS_modify ?_);have O:=hg.set g;obtain ⟨q,eq,sq,mq⟩:=m.atB (i:=y - 1) (by lia);refine wpS_bind (q1m eq ?_);refine wpS_bind (q4i L (O.kind.trans Z) sq (λ i hi=> ?_) (qby m.aa _ _ (by lia)) (by lia) λ j j1 j2 j3=> ?_)
 ·obtain ⟨p,e,sp,_⟩:=m.atA (i:=0+i) (by lia);exact ⟨p,e,sp⟩
 dsimp only
 have after:∀ p',b[y - 1]? =some p' ->∀ z∈a.toList.take j,rk z<=rk p':=λ p' ep z hz=>by
  rw [eq] at ep;cases ep
  obtain ⟨i,h1,Y⟩:=qh4 hz;have:=j2 i h1;rw [z3e,q1z a i Y] at this;simp [ahd] at this
  lia
 by_cases c2:x - j > 0
 ·rw [if_pos c2];have J2:=qd7 J m.aa (j:=j) (by lia) λ z hz w hw=>by
   obtain ⟨i,h1,Y⟩:=q7j hz;have:=j3 (j+i) (by lia) (by lia);rw [z3e,q1z a _ Y] at this;simp [ahd] at this
   have:=qh3 m (by lia) eq w hw
   lia
  by_cases c3:j=0
  ·rw [if_pos (by simpa using c3)];exact wpS_pure ⟨O,.inl ⟨_,zr,q5x J2 m.aa m.ab c3⟩⟩
  ·rw [if_neg (by simpa using c3)];exact qjn L Z m O J2 (by lia) hy after (by lia)
 ·rw [if_neg c2];have ej:j=x:=by lia
  subst ej;exact qjn L Z m O J hx hy after hn
theorem qlq (L:LtOk M A E s kd S rk) (hk:kindOf st=kd) (m:Mg S rk a b) {Q:Array Keyed ->SortSt ->Prop} (h:∀ r O,Gl st O ->Good rk a b r ->Q r O):wpS M A E s (qb1 a b) Q st:=by
 rw [qiz];refine wpS_bind (wpS_lift (z3t ⟨zr,?_⟩));have na:=m.na;have nb:=m.nb;obtain ⟨q,eq,sq,mq⟩:=m.atA (i:=a.size - 1) (by lia);refine wpS_bind (q1m eq ?_);have J1:JH rk a b #[q] (a.size - 1) b.size:=by
  obtain ⟨z,ez,hz⟩:=m.top;rw [eq] at ez;cases ez
  have J0:JH rk a b #[] a.size b.size:=⟨by rw [Nat.sub_self,Nat.sub_self];exact Jn.start,z3p _,z3p _⟩;exact q85 (o:=#[]) J0 m.aa na eq λ w hw=>z3c (hz w (z0y hw))
 by_cases c1:a.size - 1=0
 ·rw [if_pos (by simpa using c1)];exact wpS_pure (h _ _ (Gl.refl _) (q5x J1 m.aa m.ab c1))
 ·rw [if_neg (by simpa using c1)];by_cases c2:b.size=1
  ·rw [if_pos (by simpa using c2)];exact wpS_pure (h _ _ (Gl.refl _) (q5y m J1 c2))
  ·rw [if_neg (by simpa using c2)];refine wpS_bind (wpS_get ?_);have G1:GoH rk a b #[q] (a.size - 1) b.size:=⟨J1,by lia,by lia⟩;refine wpS_bind (wpS_mono (wpS_forRange (I:=λ i c O=>Gl st O/\∃ x y o g,c=(none,x,y,o,g)/\GoH rk a b o x y/\x+y+i+1<=a.size+b.size)
    (Q:=λ c O=>Gl st O/\∃ r x y o g,c=(some r,x,y,o,g)/\Good rk a b r) ?turn ?last ⟨Gl.refl _,_,_,#[q],_,rfl,G1,by lia⟩) ?after)
   case after=>
    rintro c O ⟨hg,r,x,y,o,g,rfl,hr⟩;exact wpS_pure (h r O hg hr)
   case last=>
    rintro c O ⟨hg,x,y,o,g,rfl,G,hi⟩;have:=G.hx;have:=G.hy
    exfalso
    lia
   case turn=>
    rintro i c O _ hi ⟨hg,x,y,o,g,rfl,G,hxy⟩
    dsimp only
    refine wpS_bind (wpS_mono (wpS_forRange (I:=λ j c U=>Gl st U/\∃ x y o ca cb,c=(none,x,y,o,ca,cb)/\GoH rk a b o x y/\x+y+i+1+j<=a.size+b.size)
     (Q:=λ c U=>Gl st U/\∃ r x y o ca cb,c=(r,x,y,o,ca,cb)/\match r with
      | some r=>Good rk a b r
      | none=>GoH rk a b o x y/\x+y+i+2<=a.size+b.size) ?iturn ?ilast ⟨hg,x,y,o,0,0,rfl,G,by lia⟩) ?iafter)
    case ilast=>
     rintro c U ⟨J,x,y,o,ca,cb,rfl,G,hj⟩;have:=G.hx;have:=G.hy
     exfalso
     lia
    case iturn=>
     rintro j c U _ hj ⟨J,x,y,o,ca,cb,rfl,G,a3⟩
     dsimp only
     have g1:=G.hx;have g2:=G.hy;have z1:=G.jn.2.1;have z2:=G.jn.2.2;obtain ⟨pb,eb,sb,mb⟩:=m.atB (i:=y - 1) (by lia);obtain ⟨pa,ea,sa,ma⟩:=m.atA (i:=x - 1) (by lia);refine wpS_bind (q1m eb (wpS_bind (q1m ea (wpS_bind (L pb pa U _ sb sa (J.kind.trans hk) ?_)))));by_cases hw:rk pb < rk pa
     ·simp only [hw,z3q,if_true];refine wpS_bind (q1m ea ?_);have J2:=q85 G.jn m.aa g1 ea λ z hz=>z3d (qh3 m (by lia) eb z hz) (z3c hw);by_cases c3:x - 1=0
      ·rw [if_pos (by simpa using c3)];exact wpS_pure ⟨J,_,_,_,_,_,_,zr,q5x J2 m.aa m.ab c3⟩
      ·rw [if_neg (by simpa using c3)];have G2:GoH rk a b (o.push pa) (x - 1) y:=⟨J2,by lia,g2⟩;split
       ·exact wpS_pure ⟨J,_,_,_,_,_,_,zr,G2,by lia⟩
       ·exact wpS_pure ⟨J,_,_,_,_,_,zr,G2,by lia⟩
     ·simp only [hw,z3b,z1a,if_false];refine wpS_bind (q1m eb ?_);have J2:=qh0 G.jn m.ab (by lia) eb λ z hz=>z3d (qh2 m g1 ea z hz) (by lia);by_cases c3:y - 1=1
      ·rw [if_pos (by simpa using c3)];exact wpS_pure ⟨J,_,_,_,_,_,_,zr,q5y m J2 c3⟩
      ·rw [if_neg (by simpa using c3)];have G2:GoH rk a b (o.push pb) x (y - 1):=⟨J2,g1,by lia⟩;split
       ·exact wpS_pure ⟨J,_,_,_,_,_,_,zr,G2,by lia⟩
       ·exact wpS_pure ⟨J,_,_,_,_,_,zr,G2,by lia⟩
    case iafter=>
     rintro c U ⟨J,r,x2,y2,o2,ca,cb,rfl,hr⟩;cases r with
     | some r=>exact wpS_pure ⟨J,r,_,_,_,_,rfl,hr⟩
     | none=>
      obtain ⟨G2,a3⟩:=hr
      dsimp only
      refine wpS_bind (wpS_lift (z3t ⟨zr,?_⟩));refine wpS_bind (wpS_mono (wpS_forRange (I:=λ j c Y=>Gl st Y/\∃ x y o g ca cb,c=(none,x,y,o,g,ca,cb)/\GoH rk a b o x y/\x+y+i+2+j<=a.size+b.size)
       (Q:=λ c Y=>Gl st Y/\∃ r x y o g ca cb,c=(r,x,y,o,g,ca,cb)/\match r with
        | some r=>Good rk a b r
        | none=>GoH rk a b o x y/\x+y+i+2<=a.size+b.size) ?gturn ?glast ⟨J,x2,y2,o2,_,_,_,rfl,G2,by lia⟩) ?gafter)
      case glast=>
       rintro c Y ⟨Z,x,y,o,g,ca,cb,rfl,G,hj⟩;have:=G.hx;have:=G.hy
       exfalso
       lia
      case gturn=>
       rintro j c Y _ hj ⟨Z,x,y,o,g,ca,cb,rfl,G,a4⟩;have go:∀ g',wpS M A E s (qkj a b ca cb g' o x y) (HiQ rk a b st (x+y - 1)) Y:=λ g'=>qqs L hk m Z G (by lia);have g1:=G.hx
       dsimp only
       by_cases a2:g > 1
       case' pos=>
        rw [if_pos a2];refine wpS_mono (go (g - 1)) ?_
       case' neg=>
        rw [if_neg a2];refine wpS_mono (go g) ?_
       all_goals
        intro r st4 q;obtain ⟨a1,q⟩:=q;cases r with
        | done c'=>
         obtain ⟨r,x',y',o',g',a5,a6⟩:=c';rcases q with ⟨r',e,q⟩ | ⟨e,q,q'⟩
         ·simp only at e;subst e;exact ⟨a1,_,_,_,_,_,_,_,zr,q⟩
         ·simp only at e q q';subst e;exact ⟨a1,_,_,_,_,_,_,_,zr,q,by lia⟩
        | yield c'=>
         obtain ⟨r,x',y',o',g',a5,a6⟩:=c';obtain ⟨e,q,q'⟩:=q;simp only at e q q';subst e;exact ⟨a1,_,_,_,_,_,_,zr,q,by lia⟩
      case gafter=>
       rintro c Y ⟨Z,r,x3,y3,o3,g3,ca3,cb3,rfl,hr⟩;cases r with
       | some r=>exact wpS_pure ⟨Z,r,_,_,_,_,rfl,hr⟩
       | none=>
        obtain ⟨G3,a4⟩:=hr
        dsimp only
        exact wpS_bind (wpS_modify (wpS_pure ⟨Z.set _,_,_,_,_,zr,G3,by lia⟩))
end
theorem qqt {M:Model} {A:Around} {E:Value ->Shared ->Prop} {s:Shared} {σ:Type} {v:σ} {Q:PUnit ->σ ->Prop} {st:σ} (h:Q ⟨⟩ v):wpS M A E s (set v:StateT σ Sem PUnit) Q st:=by
 unfold wpS;rw [StateT.run_set];exact z3u ⟨zr,h⟩
def wrt (base:Nat) (l:List (Keyed×Nat)) (xs:Array Keyed):Array Keyed:=l.foldl (λ a q=>a.setIfInBounds (base+q.2) q.1) xs
theorem qkk (i:Nat):mergeAt' i=(do
 let c <- get
 let (some (sa,na,pw),some (sb,nb,_)):=((pendingOf c)[i]?,(pendingOf c)[i+1]?) | unsupported "internal:list.sort.pending"
 set (setPending c (((pendingOf c).setIfInBounds i (sa,na+nb,pw)).eraseIdxIfInBounds (i+1)))
 let some k <- q2e false (<- elem' (arrOf c) sb) (arrOf c) sa na 0 | return false
 let (sa,na):=(sa+k,na - k)
 if na==0 then return true
 let some nb <- q2e true (<- elem' (arrOf c) (sa+na - 1)) (arrOf c) sb nb (nb - 1) | return false
 if nb==0 then return true
 let x:=(arrOf c).extract sa sb
 let y:=(arrOf c).extract sb (sb+nb)
 let r <- if na<=nb then qax x y else qb1 x y
 modify λ c=>setArr c (wrt sa r.toList.zipIdx (arrOf c))
 return (failedOf (<- get)).isNone):=rfl
theorem qh6 (base:Nat):∀ (l:List Keyed) (k:Nat) (xs:Array Keyed),base+k+l.length<=xs.size ->∀ j,(wrt base (l.zipIdx k) xs)[j]? =if base+k<=j/\j < base+k+l.length then l[j - (base+k)]? else xs[j]?
 | [],k,xs,_,j=>by
  rw [if_neg (by simp)];rfl
 | p::r,k,xs,h,j=>by
  have h':base+k+(r.length+1)<=xs.size:=h;have ih:=qh6 base r (k+1) (xs.setIfInBounds (base+k) p) (by rw [Array.size_setIfInBounds];lia) j;rw [List.zipIdx_cons];show (wrt base (r.zipIdx (k+1)) (xs.setIfInBounds (base+k) p))[j]? =_;rw [ih,z24];by_cases J:base+(k+1)<=j/\j < base+(k+1)+r.length
  ·rw [if_pos J,if_pos (by lia),show j - (base+k)=j - (base+(k+1))+1 by lia,List.getElem?_cons_succ]
  ·rw [if_neg J,Array.getElem?_setIfInBounds];by_cases c2:base+k=j
   ·rw [if_pos c2,if_pos (by lia),if_pos (by lia),show j - (base+k)=0 by lia];rfl
   ·rw [if_neg c2,if_neg (by lia)]
theorem qo5 (base:Nat) (l:List Keyed) (xs:Array Keyed) (h:base+l.length<=xs.size):(wrt base l.zipIdx xs).toList=xs.toList.take base++l++xs.toList.drop (base+l.length):=by
 apply z1r
 intro j;have:=qh6 base l 0 xs (by lia) j;rw [z0s];rw [this];have e1:(xs.toList.take base).length=base:=by rw [z22,z12];lia
 by_cases c1:j < base
 ·rw [if_neg (by lia),z1o,List.getElem?_append_left (by lia),List.getElem?_take_of_lt c1,z0s]
 ·rw [z1o,z04 (by lia),e1];by_cases c2:j < base+l.length
  ·rw [if_pos (by lia),List.getElem?_append_left (by lia)];rfl
  ·rw [if_neg (by lia),z04 (by lia),List.getElem?_drop,<- z0s]
   congr 1
   lia
def Runs (rk:Keyed ->Int) (xs:Array Keyed):Nat ->List (Nat×Nat×Nat) ->Nat ->Prop
 | u,[],v=>u=v
 | u,r::l,v=>r.1=u/\1<=r.2.1/\Up rk xs u (u+r.2.1)/\Runs rk xs (u+r.2.1) l v
section
variable {rk:Keyed ->Int} {xs ys:Array Keyed}
theorem Runs.split:∀ {O J:List (Nat×Nat×Nat)} {u v:Nat},Runs rk xs u (O++J) v↔∃ w,Runs rk xs u O w/\Runs rk xs w J v
 | [],J,u,v=>⟨λ h=>⟨u,rfl,h⟩,λ ⟨w,e,h⟩=>by cases e;exact h⟩
 | r::O,J,u,v=>by
  constructor
  ·rintro ⟨a,b,c,d⟩;obtain ⟨w,h1,h2⟩:=Runs.split.mp d;exact ⟨w,⟨a,b,c,h1⟩,h2⟩
  ·rintro ⟨w,⟨a,b,c,d⟩,h2⟩;exact ⟨a,b,c,Runs.split.mpr ⟨w,d,h2⟩⟩
theorem Runs.le:∀ {l:List (Nat×Nat×Nat)} {u v:Nat},Runs rk xs u l v ->u+l.length<=v
 | [],u,v,h=>by cases h;simp
 | r::l,u,v,⟨_,b,_,d⟩=>by
  have:=Runs.le d;rw [z24]
  lia
theorem Up.same {lo hi:Nat} (h:Up rk xs lo hi) (e:∀ k,lo<=k ->k < hi ->ys[k]? =xs[k]?):Up rk ys lo hi:=λ i j a b c=>by
 rw [q3w (e i a (by lia)),q3w (e j (by lia) c)];exact h i j a b c
theorem Runs.same:∀ {l:List (Nat×Nat×Nat)} {u v:Nat},Runs rk xs u l v ->(∀ k,u<=k ->k < v ->ys[k]? =xs[k]?) ->Runs rk ys u l v
 | [],u,v,h,_=>h
 | r::l,u,v,⟨a,b,c,d⟩,e=>by
  have:=Runs.le d;exact ⟨a,b,c.same λ k h1 h2=>e k h1 (by lia),d.same λ k h1 h2=>e k (by lia) h2⟩
theorem Runs.pow:∀ {l J:List (Nat×Nat×Nat)} {u v:Nat},Runs rk xs u l v ->J.map (λ r=>(r.1,r.2.1))=l.map (λ r=>(r.1,r.2.1)) ->Runs rk xs u J v
 | [],J,u,v,h,e=>by
  have:J=[]:=by simpa using e
  subst this;exact h
 | r::l,J,u,v,⟨a,b,c,d⟩,e=>by
  cases J with
  | nil=>simp at e
  | cons r' J=>
   simp only [z33,z2g,Prod.mk.injEq] at e;obtain ⟨⟨e1,e2⟩,e3⟩:=e;exact ⟨e1.trans a,by lia,by rw [e2];exact c,by rw [e2];exact d.pow e3⟩
end
section
variable {M:Model} {A:Around} {E:Value ->Shared ->Prop} {s:Shared} {kd:SortKind} {S:Keyed ->Prop} {rk:Keyed ->Int} {n:Nat}
theorem qjo {xs:Array Keyed} {i j:Nat} (hj:j<=xs.size) (h:Up rk xs i j):Asc rk (xs.extract i j).toList:=by
 unfold Asc;rw [z07];intro p q hp hq hpq;have hl:(xs.extract i j).toList.length=j - i:=by rw [z12,z1d];lia
 have e:∀ p (hp:p < (xs.extract i j).toList.length),rk (xs.extract i j).toList[p]=kx rk xs (i+p):=λ p hp=>by
  refine (q2q ?_).symm;have h1:(xs.extract i j)[p]? =some (xs.extract i j).toList[p]:=by rw [<- z0s,z0a]
  rw [<- h1,Array.getElem?_extract,if_pos (by lia)]
 rw [e p hp,e q hq];exact h _ _ (by lia) (by lia) (by lia)
theorem q66 {xs:Array Keyed} {i j:Nat} (hj:j<=xs.size) {p:Keyed} (h:p∈(xs.extract i j).toList):∃ k,i<=k/\k < j/\xs[k]? =some p:=by
 obtain ⟨q,hq,e⟩:=z0v.mp h;have hl:(xs.extract i j).toList.length=j - i:=by rw [z12,z1d];lia
 refine ⟨i+q,by lia,by lia,?_⟩;have h1:(xs.extract i j)[q]? =some p:=by rw [<- z0s,z0a hq,e]
 rw [<- h1,Array.getElem?_extract,if_pos (by lia)]
theorem qlr {xs:Array Keyed} {i j k:Nat} (h:i+k < j) (hj:j<=xs.size):(xs.extract i j)[k]? =xs[i+k]? :=by
 rw [Array.getElem?_extract,if_pos (by lia)]
theorem Mv.wrote {st:SortSt} {a m b:Nat} {r:Array Keyed} (h1:a<=m) (h2:m<=b) (hb:b<=(arrOf st).size) (hr:r.toList.Perm (((arrOf st).extract a m).toList++((arrOf st).extract m b).toList)):
  Mv a b st (setArr st (wrt a r.toList.zipIdx (arrOf st)))/\(∀ j,a<=j ->j < b ->∃ p,(wrt a r.toList.zipIdx (arrOf st))[j]? =some p/\p∈r.toList/\r.toList[j - a]? =some p):=by
 have hl:r.toList.length=b - a:=by
  rw [hr.length_eq,z1e,z12,z12,z1d,z1d]
  lia
 have hw:=qo5 a r.toList (arrOf st) (by lia);have J:=qh6 a r.toList 0 (arrOf st) (by lia);refine ⟨⟨?_,λ k hk=> ?_,zr,zr,zr⟩,λ j ha hb'=> ?_⟩
 ·rw [z03];show (wrt a r.toList.zipIdx (arrOf st)).toList.Perm (arrOf st).toList;rw [hw,hl,show a+(b - a)=b by lia];have e:(arrOf st).toList=(arrOf st).toList.take a++(((arrOf st).extract a m).toList++((arrOf st).extract m b).toList)++(arrOf st).toList.drop b:=by
   rw [z0w,z0w,z09,z09];have e1:(arrOf st).toList.drop a=((arrOf st).toList.drop a).take (m - a)++(arrOf st).toList.drop m:=by
    have:=q5u (arrOf st).toList a (m - a)
    rwa [show a+(m - a)=m by lia] at this
   have e2:(arrOf st).toList.drop m=((arrOf st).toList.drop m).take (b - m)++(arrOf st).toList.drop b:=by
    have:=q5u (arrOf st).toList m (b - m)
    rwa [show m+(b - m)=b by lia] at this
   rw [z1o,z1o,<- e2,<- e1,z0q]
  refine List.Perm.trans ?_ (List.Perm.of_eq e.symm);exact (hr.append_left _).append_right _
 ·show (wrt a r.toList.zipIdx (arrOf st))[k]? =_;rw [J k,if_neg (by lia)]
 ·have O:j - a < r.toList.length:=by lia
  refine ⟨r.toList[j - a],?_,by simp,z0a O⟩;rw [J j,if_pos (by lia),Nat.add_zero,z0a O]
structure Merged (rk:Keyed ->Int) (lo hi:Nat) (p:Array (Nat×Nat×Nat)) (st st':SortSt):Prop where
 perm:(arrOf st').Perm (arrOf st)
 out:∀ k,k < lo\/ hi<=k ->(arrOf st')[k]? =(arrOf st)[k]?
 kind:kindOf st'=kindOf st
 failed:failedOf st'=failedOf st
 pend:pendingOf st'=p
 up:Up rk (arrOf st') lo hi
theorem qes (L:LtOk M A E s kd S rk) {st:SortSt} (B:Sane kd S n st) {i sa na pw nb p2:Nat} (e1:(pendingOf st)[i]? =some (sa,na,pw)) (e2:(pendingOf st)[i+1]? =some (sa+na,nb,p2)) (ha:1<=na) (hb:1<=nb) (hn:sa+na+nb<=n)
  (u1:Up rk (arrOf st) sa (sa+na)) (u2:Up rk (arrOf st) (sa+na) (sa+na+nb)) {Q:Bool ->SortSt ->Prop}
  (h:∀ J,Merged rk sa (sa+na+nb) (((pendingOf st).setIfInBounds i (sa,na+nb,pw)).eraseIdxIfInBounds (i+1)) st J ->Q true J):wpS M A E s (mergeAt' i) Q st:=by
 rw [qkk];refine wpS_bind (wpS_get ?_);rw [e1,e2]
 dsimp only
 refine wpS_bind (qqt ?_);have O:∀ j,j < n ->∃ p,(arrOf st)[j]? =some p/\S p:=λ j hj=>by
  obtain ⟨p,a,b,_⟩:=B.at rk hj;exact ⟨p,a,b⟩
 have hz:=B.size;obtain ⟨q,eq,sq⟩:=O (sa+na) (by lia);have kq:kx rk (arrOf st) (sa+na)=rk q:=q2q eq;refine wpS_bind (q1m eq ?_);refine wpS_bind (q4i L B.kind sq (λ j hj=>O (sa+j) (by lia)) u1 (by lia) λ k k1 k2 k3=> ?_)
 dsimp only
 have a5:∀ j,sa<=j ->j < sa+k ->kx rk (arrOf st) j<=kx rk (arrOf st) (sa+na):=λ j a b=>by
  have:=k2 (j - sa) (by lia);rw [show sa+(j - sa)=j by lia] at this;simp [ahd] at this
  rw [kq];exact this
 have a1:∀ j,sa+k<=j ->j < sa+na ->kx rk (arrOf st) (sa+na) < kx rk (arrOf st) j:=λ j a b=>by
  have:=k3 (j - sa) (by lia) (by lia);rw [show sa+(j - sa)=j by lia] at this;simp [ahd] at this
  rw [kq]
  lia
 have U:kx rk (arrOf st) (sa+na - 1)<=kx rk (arrOf st) (sa+na) ->Up rk (arrOf st) sa (sa+na+nb):=λ hle i j a b c=>by
  by_cases c1:j < sa+na
  ·exact u1 i j a b c1
  ·by_cases c2:sa+na<=i
   ·exact u2 i j c2 b c
   ·have h1:=u1 i (sa+na - 1) a (by lia) (by lia);have h2:=u2 (sa+na) j (z3p _) (by lia) c
    lia
 by_cases c0:na - k=0
 ·rw [if_pos (by simpa using c0)];exact wpS_pure (h _ ⟨Array.Perm.refl _,λ _ _=>rfl,zr,zr,zr,U (a5 _ (by lia) (by lia))⟩)
 ·rw [if_neg (by simpa using c0)];have el:sa+k+(na - k) - 1=sa+na - 1:=by lia
  rw [el];obtain ⟨z,ez,sz⟩:=O (sa+na - 1) (by lia);have kz:kx rk (arrOf st) (sa+na - 1)=rk z:=q2q ez;refine wpS_bind (q1m ez ?_);refine wpS_bind (q4i L B.kind sz (λ j hj=>O (sa+na+j) (by lia)) u2 (by lia) λ k' k1' b3 b4=> ?_)
  dsimp only
  have a2:∀ j,sa+na<=j ->j < sa+na+k' ->kx rk (arrOf st) j < kx rk (arrOf st) (sa+na - 1):=λ j a b=>by
   have:=b3 (j - (sa+na)) (by lia);rw [show sa+na+(j - (sa+na))=j by lia] at this;simp [ahd] at this
   rw [kz];exact this
  have Y:∀ j,sa+na+k'<=j ->j < sa+na+nb ->kx rk (arrOf st) (sa+na - 1)<=kx rk (arrOf st) j:=λ j a b=>by
   have:=b4 (j - (sa+na)) (by lia) (by lia);rw [show sa+na+(j - (sa+na))=j by lia] at this;simp [ahd] at this
   rw [kz]
   lia
  by_cases c1:k'=0
  ·rw [if_pos (by simpa using c1)];exact wpS_pure (h _ ⟨Array.Perm.refl _,λ _ _=>rfl,zr,zr,zr,U (Y _ (by lia) (by lia))⟩)
  ·rw [if_neg (by simpa using c1)];have m:Mg S rk ((arrOf st).extract (sa+k) (sa+na)) ((arrOf st).extract (sa+na) (sa+na+k')):=by
    refine ⟨λ p hp=> ?_,λ p hp=> ?_,qjo (by lia) λ i j a b c=>u1 i j (by lia) b c,qjo (by lia) λ i j a b c=>u2 i j a b (by lia),by rw [z1d];lia,by rw [z1d];lia,⟨z,?_,λ p hp=> ?_⟩,⟨q,?_,λ p hp=> ?_⟩⟩
    ·obtain ⟨j,h1,h2,e⟩:=q66 (by lia) hp;obtain ⟨p',e',sp⟩:=O j (by lia);rw [e] at e';cases e'
     exact sp
    ·obtain ⟨j,h1,h2,e⟩:=q66 (by lia) hp;obtain ⟨p',e',sp⟩:=O j (by lia);rw [e] at e';cases e'
     exact sp
    ·rw [z1d,qlr (by lia) (by lia),<- ez]
     congr 1
     lia
    ·obtain ⟨j,h1,h2,e⟩:=q66 (by lia) hp;have:=a2 j h1 h2
     rwa [kz,q2q e] at this
    ·rw [qlr (by lia) (by lia),<- eq];rfl
    ·obtain ⟨j,h1,h2,e⟩:=q66 (by lia) hp;have:=a1 j h1 h2
     rwa [kq,q2q e] at this
   have fin:∀ (r:Array Keyed) (J:SortSt),Gl (setPending st (((pendingOf st).setIfInBounds i (sa,na+nb,pw)).eraseIdxIfInBounds (i+1))) J ->Good rk ((arrOf st).extract (sa+k) (sa+na)) ((arrOf st).extract (sa+na) (sa+na+k')) r ->
     wpS M A E s ((modify λ c=>setArr c (wrt (sa+k) r.toList.zipIdx (arrOf c)):StateT SortSt Sem PUnit) >>=λ _=>get >>=λ c=>pure (failedOf c).isNone) Q J:=by
    intro r J Z hr;have a9:arrOf J=arrOf st:=Z.arr;refine wpS_bind (wpS_modify (wpS_bind (wpS_get (wpS_pure ?_))));have hf:failedOf J=none:=Z.failed.trans B.failed;show Q (failedOf J).isNone _;rw [hf];have hw:=Mv.wrote (st:=st) (a:=sa+k) (m:=sa+na) (b:=sa+na+k') (r:=r) (by lia) (by lia) (by lia) hr.1;obtain ⟨v,at'⟩:=hw;have a4:=z07.mp hr.2;have a6:∀ j,sa+k<=j ->j < sa+na+k' ->kx rk (arrOf st) (sa+na)<=kx rk (wrt (sa+k) r.toList.zipIdx (arrOf st)) j/\kx rk (wrt (sa+k) r.toList.zipIdx (arrOf st)) j<=kx rk (arrOf st) (sa+na - 1):=λ j a b=>by
     obtain ⟨p,e,hp,_⟩:=at' j a b;rw [q2q e];rcases z2f.mp (hr.1.mem_iff.mp hp) with hp | hp
     ·obtain ⟨j',h1,h2,e'⟩:=q66 (by lia) hp;rw [<- q2q (rk:=rk) e'];exact ⟨z3c (a1 j' h1 h2),u1 j' (sa+na - 1) (by lia) (by lia) (by lia)⟩
     ·obtain ⟨j',h1,h2,e'⟩:=q66 (by lia) hp;rw [<- q2q (rk:=rk) e'];exact ⟨u2 _ j' (z3p _) h1 (by lia),z3c (a2 j' h1 h2)⟩
    have out:∀ j,j < sa+k\/ sa+na+k'<=j ->kx rk (wrt (sa+k) r.toList.zipIdx (arrOf st)) j=kx rk (arrOf st) j:=λ j hj=>q3w (v.out j hj);rw [show (setArr J (wrt (sa+k) r.toList.zipIdx (arrOf J)))=setArr J (wrt (sa+k) r.toList.zipIdx (arrOf st)) by rw [a9]];refine h _ ⟨v.perm,λ j hj=>v.out j (by lia),Z.kind,Z.failed,Z.pend,λ i j a b c=> ?_⟩;show kx rk (wrt (sa+k) r.toList.zipIdx (arrOf st)) i<=kx rk (wrt (sa+k) r.toList.zipIdx (arrOf st)) j;by_cases i1:i < sa+k
    ·rw [out i (.inl i1)];have li:=a5 i a i1;by_cases j1:j < sa+k
     ·rw [out j (.inl j1)];exact u1 i j a b (by lia)
     ·by_cases j2:j < sa+na+k'
      ·have:=(a6 j (by lia) j2).1
       lia
      ·rw [out j (.inr (by lia))];have:=u2 (sa+na) j (z3p _) (by lia) c
       lia
    ·by_cases i2:i < sa+na+k'
     ·by_cases j2:j < sa+na+k'
      ·obtain ⟨p,ep,_,gp⟩:=at' i (by lia) i2;obtain ⟨p',a8,_,a3⟩:=at' j (by lia) j2;rw [q2q ep,q2q a8];obtain ⟨l1,x1⟩:=z06.mp gp;obtain ⟨l2,x2⟩:=z06.mp a3;rcases Nat.lt_or_ge i j with b2 | b2
       ·have:=a4 (i - (sa+k)) (j - (sa+k)) l1 l2 (by lia)
        rwa [x1,x2] at this
       ·have a7:i=j:=by lia
        subst a7;rw [gp] at a3;cases a3
        exact z3r _
      ·rw [out j (.inr (by lia))];have h1:=(a6 i (by lia) i2).2;have h2:=Y j (by lia) c
       lia
     ·rw [out i (.inr (by lia)),out j (.inr (by lia))];exact u2 i j (by lia) b c
   by_cases c2:na - k<=k'
   ·rw [if_pos c2];exact wpS_bind (qlp (st:=setPending st (((pendingOf st).setIfInBounds i (sa,na+nb,pw)).eraseIdxIfInBounds (i+1))) L B.kind m λ r J Z hr=>fin r J Z hr)
   ·rw [if_neg c2];exact wpS_bind (qlq (st:=setPending st (((pendingOf st).setIfInBounds i (sa,na+nb,pw)).eraseIdxIfInBounds (i+1))) L B.kind m λ r J Z hr=>fin r J Z hr)
end
theorem qet {p:Array (Nat×Nat×Nat)} {J O:List (Nat×Nat×Nat)} {r1 r2 r:Nat×Nat×Nat} {i:Nat} (h:p.toList=J++r1::r2::O) (hi:J.length=i):
  ((p.setIfInBounds i r).eraseIdxIfInBounds (i+1)).toList=J++r::O:=by
 have hs:i+1 < (p.setIfInBounds i r).size:=by
  rw [Array.size_setIfInBounds,<- z12,h];simp
  lia
 rw [Array.eraseIdxIfInBounds,dif_pos hs,Array.toList_eraseIdx,Array.toList_setIfInBounds,h,<- hi,List.set_append_right _ _ (z3p _),Nat.sub_self,List.set_cons_zero,
  List.eraseIdx_append_of_length_le (by lia)]
 congr 1
 rw [show J.length+1 - J.length=1 by lia];rfl
theorem qo6 {α:Type} {l:List α} {i:Nat} (h:i+1 < l.length):∃ J r1 r2 l2,l=J++r1::r2::l2/\J.length=i:=by
 refine ⟨l.take i,l[i],l[i+1],l.drop (i+2),?_,by rw [z22];lia⟩;rw [<- z08 h,<- z08 (by lia),z0q]
section
variable {M:Model} {A:Around} {E:Value ->Shared ->Prop} {s:Shared} {kd:SortKind} {S:Keyed ->Prop} {rk:Keyed ->Int} {n:Nat}
structure Sr (rk:Keyed ->Int) (kd:SortKind) (S:Keyed ->Prop) (n:Nat) (st:SortSt) (lo:Nat) (st':SortSt):Prop where
 perm:(arrOf st').Perm (arrOf st)
 sane:Sane kd S n st'
 runs:Runs rk (arrOf st') 0 (pendingOf st').toList lo
theorem Sr.merge {st J:SortSt} {lo i:Nat} (h:Sr rk kd S n st lo J) (hi:i+1 < (pendingOf J).size):
  ∃ sa na pw nb p2,(pendingOf J)[i]? =some (sa,na,pw)/\(pendingOf J)[i+1]? =some (sa+na,nb,p2)/\1<=na/\1<=nb/\sa+na+nb<=lo/\Up rk (arrOf J) sa (sa+na)/\Up rk (arrOf J) (sa+na) (sa+na+nb)/\
   ∀ O,Merged rk sa (sa+na+nb) (((pendingOf J).setIfInBounds i (sa,na+nb,pw)).eraseIdxIfInBounds (i+1)) J O ->
    Sr rk kd S n st lo O/\(pendingOf O).size+1=(pendingOf J).size/\∀ k,lo<=k ->(arrOf O)[k]? =(arrOf J)[k]? :=by
 obtain ⟨l1,⟨U,Y,q1⟩,⟨a2,Z,q2⟩,l2,e,el⟩:=qo6 (l:=(pendingOf J).toList) (i:=i) (by rw [z12];exact hi);have R:=h.runs;rw [e] at R;obtain ⟨w,R1,R2⟩:=Runs.split.mp R;obtain ⟨x1,x2,x3,x4,x5,x6,x7⟩:=R2;simp only at x1 x2 x3 x4 x5 x6 x7;subst x1 x4;have le:=Runs.le x7;have g1:(pendingOf J)[i]? =some (U,Y,q1):=by
  rw [<- z0s,e,z04 (by lia),<- el,Nat.sub_self];rfl
 have g2:(pendingOf J)[i+1]? =some (U+Y,Z,q2):=by
  rw [<- z0s,e,z04 (by lia),show i+1 - l1.length=1 by lia];rfl
 refine ⟨U,Y,q1,Z,q2,g1,g2,x2,x5,by lia,x3,x6,λ O m=>⟨⟨m.perm.trans h.perm,?_,?_⟩,?_,λ k hk=>m.out k (by lia)⟩⟩
 ·exact ⟨m.perm.size_eq.trans h.sane.size,λ p hp=>h.sane.all p ((z03.mp m.perm).mem_iff.mp hp),m.kind.trans h.sane.kind,m.failed.trans h.sane.failed⟩
 ·rw [m.pend,qet e el];refine Runs.split.mpr ⟨U,R1.same λ k _ hk=>m.out k (.inl hk),rfl,by show 1<=Y+Z;lia,?_,?_⟩
  ·show Up rk (arrOf O) U (U+(Y+Z));rw [<- Nat.add_assoc];exact m.up
  ·show Runs rk (arrOf O) (U+(Y+Z)) l2 lo;rw [<- Nat.add_assoc];exact x7.same λ k hk _=>m.out k (.inr hk)
 ·rw [m.pend,<- z12,qet e el,<- z12,e];simp
  lia
theorem Sr.mv {st J O:SortSt} {lo hi:Nat} (h:Sr rk kd S n st lo J) (v:Mv lo hi J O):Sr rk kd S n st lo O:=
 ⟨v.perm.trans h.perm,v.sane h.sane,by rw [v.pend];exact h.runs.same λ k _ hk=>v.out k (.inl hk)⟩
theorem Sr.setP {st J:SortSt} {lo hi:Nat} {p:Array (Nat×Nat×Nat)} (h:Sr rk kd S n st lo J) (r:Runs rk (arrOf J) 0 p.toList hi):Sr rk kd S n st hi (setPending J p):=
 ⟨h.perm,⟨h.sane.size,h.sane.all,h.sane.kind,h.sane.failed⟩,r⟩
theorem qo7 (p:Array (Nat×Nat×Nat)) (pw:Nat):(p.modify (p.size - 1) λ (x:Nat×Nat×Nat)=>(x.1,x.2.1,pw)).toList.map (λ r=>(r.1,r.2.1))=p.toList.map (λ r=>(r.1,r.2.1)):=by
 apply z1r
 intro j;rw [z1s,z1s,z0s,z0s,Array.getElem?_modify];split
 ·cases p[j]? <;> rfl
 ·rfl
theorem qc2 (L:LtOk M A E s kd S rk) {st:SortSt} (B:Sane kd S n st) (h2:2<=n) (hp:pendingOf st=#[]) {Q:Unit ->SortSt ->Prop}
  (h:∀ U,(arrOf U).Perm (arrOf st) ->failedOf U=none ->Up rk (arrOf U) 0 n ->Q () U):wpS M A E s sortRuns' Q st:=by
 rw [sortRuns'_eq];refine wpS_bind (wpS_get ?_)
 dsimp only
 simp only [B.size];have start:Sr rk kd S n st 0 st:=⟨Array.Perm.refl _,B,by rw [hp];rfl⟩;refine wpS_bind (wpS_mono (wpS_forRange (I:=λ x c U=>∃ lo,c=(none,lo)/\Sr rk kd S n st lo U/\lo<=n/\min x n<=lo)
  (Q:=λ c U=>c=(none,n)/\Sr rk kd S n st n U) ?turn ?last ⟨0,rfl,start,by lia,by lia⟩) ?after)
 case last=>
  rintro c U ⟨lo,rfl,R,h1,h3⟩;have e:lo=n:=by lia
  subst e;exact ⟨zr,R⟩
 case turn=>
  rintro x c U _ hx ⟨lo,rfl,R,hlo,hxl⟩
  dsimp only
  by_cases a8:lo >=n
  ·rw [if_pos a8];have e:lo=n:=by lia
   subst e;exact wpS_pure ⟨zr,R⟩
  rw [if_neg a8];refine wpS_bind (qbw L R.sane (by lia) (by lia) λ k a9 v2 k1 k2 u2=> ?_);have R2:=R.mv v2
  dsimp only
  by_cases Z:k < minRun' n n 0
  case' pos=>
   rw [if_pos Z];refine wpS_bind (wpS_lift (z3t ⟨zr,?_⟩));refine wpS_bind (q8y L R2.sane (by lia) (by lia) u2 λ a7 v3 u3=> ?_);have R3:=R2.mv v3;simp only [Bool.not_true,z1a,if_false];have m1:1<=min (n - lo) (minRun' n n 0):=by lia
   have m2:min (n - lo) (minRun' n n 0)<=n - lo:=by lia
   clear Z v3;generalize min (n - lo) (minRun' n n 0)=m at*
  case' neg=>
   rw [if_neg Z];have R3:=R2;have u3:=u2;have m1:=k1;have m2:=k2;clear Z;generalize a9=a7 at*;generalize k=m at*
  all_goals
   refine wpS_bind (wpS_get ?_);have fin:∀ (O:SortSt) (p:Array (Nat×Nat×Nat)),Sr rk kd S n st lo O ->Up rk (arrOf O) lo (lo+m) ->Runs rk (arrOf O) 0 p.toList lo ->
     Sr rk kd S n st (lo+m) (setPending (setPending O p) ((pendingOf (setPending O p)).push (lo,m,0))):=λ O p R5 u5 rp=>by
    refine (R5.setP rp).setP ?_;show Runs rk (arrOf O) 0 (p.push (lo,m,0)).toList (lo+m);rw [z1q];exact Runs.split.mpr ⟨lo,rp,zr,m1,u5,zr⟩
   cases hb:(pendingOf a7).back? with
   | none=>
    dsimp only
    exact wpS_bind (wpS_modify (wpS_pure ⟨lo+m,zr,fin a7 (pendingOf a7) R3 u3 R3.runs,by lia,by lia⟩))
   | some q=>
    obtain ⟨s1,n1,q1⟩:=q
    dsimp only
    refine wpS_bind (wpS_mono (wpS_forRange (I:=λ _ c J=>c=(none,())/\Sr rk kd S n st lo J/\Up rk (arrOf J) lo (lo+m))
     (Q:=λ c J=>c=(none,())/\Sr rk kd S n st lo J/\Up rk (arrOf J) lo (lo+m)) ?mturn (λ _ _ z=>z) ⟨rfl,R3,u3⟩) ?mafter)
    case mturn=>
     rintro j c J _ hj ⟨rfl,Y,u4⟩;refine wpS_bind (wpS_get ?_);by_cases c1:(pendingOf J).size > 1
     ·obtain ⟨sa,na,pw,nb,p2,g1,g2,a1,a2,a3,a4,a5,a6⟩:=Y.merge (i:=(pendingOf J).size - 2) (by lia);rw [if_pos c1,g1]
      dsimp only
      split
      ·exact wpS_pure ⟨zr,Y,u4⟩
      ·refine wpS_bind (qes L Y.sane g1 g2 a1 a2 (by lia) a4 a5 λ O mm=> ?_);obtain ⟨R5,_,o5⟩:=a6 O mm;simp only [Bool.not_true,z1a,if_false];exact wpS_pure ⟨zr,R5,u4.same λ k hk _=>o5 k hk⟩
     ·rw [if_neg c1];exact wpS_pure ⟨zr,Y,u4⟩
    case mafter=>
     rintro c J ⟨rfl,Y,u4⟩
     dsimp only
     refine wpS_bind (wpS_modify (wpS_bind (wpS_modify (wpS_pure ⟨lo+m,zr,?_,by lia,by lia⟩))));exact fin J _ Y u4 (Y.runs.pow (qo7 _ _))
 case after=>
  rintro c U ⟨rfl,R⟩
  dsimp only
  refine wpS_bind (wpS_mono (wpS_forRange (I:=λ x c J=>c=(none,())/\Sr rk kd S n st n J/\(pendingOf J).size<=max 1 (n - x))
   (Q:=λ c J=>c=(none,())/\Sr rk kd S n st n J/\(pendingOf J).size<=1) ?fturn ?flast ⟨rfl,R,?ffirst⟩) ?fafter)
  case ffirst=>
   have:=Runs.le R.runs;rw [z12] at this
   lia
  case flast=>
   rintro c J ⟨hc,Y,h4⟩;exact ⟨hc,Y,by lia⟩
  case fturn=>
   rintro j c J _ hj ⟨rfl,Y,h4⟩;refine wpS_bind (wpS_get ?_);by_cases c1:(pendingOf J).size<=1
   ·rw [if_pos c1];exact wpS_pure ⟨zr,Y,c1⟩
   ·rw [if_neg c1];have go:∀ i,i+1 < (pendingOf J).size ->wpS M A E s (mergeAt' i) (λ b O=>b=true/\Sr rk kd S n st n O/\(pendingOf O).size<=max 1 (n - (j+1))) J:=λ i hi=>by
     obtain ⟨sa,na,pw,nb,p2,g1,g2,a1,a2,a3,a4,a5,a6⟩:=Y.merge hi;refine qes L Y.sane g1 g2 a1 a2 (by lia) a4 a5 λ O mm=> ?_;obtain ⟨R5,z5,_⟩:=a6 O mm;exact ⟨zr,R5,by lia⟩
    refine wpS_bind (wpS_mono (go _ ?_) ?_)
    ·repeat' split
     all_goals lia
    ·rintro b O ⟨rfl,R5,z5⟩;simp only [Bool.not_true,z1a,if_false];exact wpS_pure ⟨zr,R5,z5⟩
  case fafter=>
   rintro c J ⟨rfl,Y,h4⟩;refine wpS_pure (h J Y.perm Y.sane.failed ?_);have hr:=Y.runs;have hl:(pendingOf J).toList.length<=1:=by rw [z12];exact h4
   cases e:(pendingOf J).toList with
   | nil=>
    rw [e] at hr;have:0=n:=hr
    lia
   | cons r l=>
    rw [e] at hr hl;have:l=[]:=by simpa using hl
    subst this;obtain ⟨_,_,u,z⟩:=hr;have z':0+r.2.1=n:=z
    rwa [z'] at u
end
def KLt (prog:Program) (w:World) (A:Around) (s:Shared) (kd:SortKind) (x y:Value) (r:Bool):Prop:=
 ∀ (E:Value ->Shared ->Prop) (Q:Bool ->Shared ->Prop),Q r s ->wpAny (model prog w) A (keyLt' kd x y) Q E s
theorem qd8 {prog:Program} {w:World} {A:Around} {E:Value ->Shared ->Prop} {s:Shared} {kd:SortKind} {S:Keyed ->Prop} {rk:Keyed ->Int} (h:∀ x y,S x ->S y ->KLt prog w A s kd x.1 y.1 (decide (rk x < rk y))):
  LtOk (model prog w) A E s kd S rk:=by
 intro x y st Q sx sy hk q;rw [lt'_eq];refine wpS_bind (wpS_get ?_);rw [hk];refine wpS_bind (wpS_lift (z34 (h x y sx sy _ _ ⟨zr,?_⟩)));exact wpS_pure q
section
variable {α:Type}
theorem qb2 {p q:α ->Bool}:∀ (l:List α),(∀ z∈l,p z=true ->q z=true) ->(l.filter p).length<=(l.filter q).length
 | [],_=>z3p _
 | z::l,h=>by
  have ih:=qb2 (p:=p) (q:=q) l λ y hy=>h y (z0z _ hy);rw [z25,z25];cases e:p z with
  | true=>
   rw [h z (z1f ..) e];simp only [if_true,z24]
   lia
  | false=>
   cases q z with
   | true=>simp only [z1a,if_false,if_true,z24];lia
   | false=>simpa using ih
theorem qh7 {p q:α ->Bool} {y:α}:∀ (l:List α),(∀ z∈l,p z=true ->q z=true) ->y∈l ->p y=false ->q y=true ->(l.filter p).length < (l.filter q).length
 | [],_,hy,_,_=>nomatch hy
 | z::l,h,hy,h1,h2=>by
  have hl:∀ w∈l,p w=true ->q w=true:=λ w hw=>h w (z0z _ hw);rw [z25,z25];rcases z35.mp hy with rfl | hy
  ·rw [h1,h2];have:=qb2 l hl;simp only [z1a,if_false,if_true,z24]
   lia
  ·have ih:=qh7 l hl hy h1 h2;cases e:p z with
   | true=>
    rw [h z (z1f ..) e];simp only [if_true,z24]
    lia
   | false=>
    cases q z with
    | true=>simp only [z1a,if_false,if_true,z24];lia
    | false=>simpa using ih
def rank (lt:α ->α ->Bool) (l:List α) (x:α):Int:=((l.filter λ y=>lt y x).length:Nat)
theorem qjp {lt:α ->α ->Bool} {l:List α} (irr:∀ x∈l,lt x x=false) (tr:∀ x∈l,∀ y∈l,∀ z∈l,lt x y=true ->lt y z=true ->lt x z=true)
  (nt:∀ x∈l,∀ y∈l,∀ z∈l,lt x z=true ->lt x y=true\/ lt y z=true) {x y:α} (hx:x∈l) (hy:y∈l):lt x y=decide (rank lt l x < rank lt l y):=by
 unfold rank;cases e:lt x y with
 | true=>
  have:=qh7 (p:=λ z=>lt z x) (q:=λ z=>lt z y) l (λ z hz h=>tr z hz x hx y hy h e) hx (irr x hx) e;exact (z2w (by lia)).symm
 | false=>
  have:=qb2 (p:=λ z=>lt z y) (q:=λ z=>lt z x) l (λ z hz h=>(nt z hz x hx y hy h).resolve_right (by rw [e];exact z1b));exact (z2h (by lia)).symm
end
structure Sorted (rk:Value ->Int) (vs out:List Value):Prop where
 perm:out.Perm vs
 asc:out.Pairwise λ x y=>rk x<=rk y
theorem q8z {rk:Value ->Int} {vs:List Value} {xs:Array Keyed} (hp:xs.Perm (pairsOf vs)) (hu:Up (λ p=>rk p.1) xs 0 vs.length):Sorted rk vs (xs.map (·.2)).toList:=by
 have hl:xs.toList.Perm (vs.zip vs):=by
  rw [<- pairsOf_toList];exact z03.mp hp
 have hsz:xs.size=vs.length:=by
  rw [hp.size_eq,pairsOf_size]
 have same:∀ p,p∈xs.toList ->p.1=p.2:=λ p h=>(mem_zip_self (hl.mem_iff.mp h)).1;refine ⟨?_,?_⟩
 ·rw [Array.toList_map];have:=hl.map Prod.snd
  rwa [List.map_snd_zip (z3p _)] at this
 ·rw [Array.toList_map,z07];intro i j hi hj U;rw [List.getElem_map,List.getElem_map];have O:i < xs.toList.length:=by simpa using hi
  have J:j < xs.toList.length:=by simpa using hj
  have:=hu i j (z3s _) (z3f U) (by rw [z12] at J;lia);rw [q1z xs i (z0a O),q1z xs j (z0a J)] at this;rw [<- same _ (z26 O),<- same _ (z26 J)];exact this
section
variable {prog:Program} {w:World} {A:Around} {E:Value ->Shared ->Prop} {s:Shared}
def Keys (prog:Program) (w:World) (A:Around) (s:Shared) (a:Addr) (vs:List Value) (rk:Value ->Int):Prop:=2<=vs.length ->∀ s':Shared,(∀ b o,b≠a ->s.heap.get? b=some o ->s'.heap.get? b=some o) ->
 ∃ kd:SortKind,(∀ (E:Value ->Shared ->Prop) (Q:SortKind ->Shared ->Prop),Q kd s' ->wpAny (model prog w) A (keyKind' vs.toArray) Q E s')/\∀ x∈vs,∀ y∈vs,KLt prog w A s' kd x y (decide (rk x < rk y))
theorem qfn {a:Addr} {vs:List Value} {n:Nat} {rk:Value ->Int} {P:PySem.Fin ->Shared ->Prop} (ho:s.heap.get? a=some (seqObj "list" vs.toArray n)) (hz:vs.length<=sizeLine) (hk:Keys prog w A s a vs rk)
  (h:∀ out:Array Value,Sorted rk vs out.toList ->P (.done (.ret .none)) {s with heap:=sortedHeap s.heap a vs out}):wpAny (model prog w) A (Builtin.«list.sort» ⟨[.ref a],[]⟩) P E s:=by
 rw [list_sort_plain];have ha:a < s.heap.objs.size:=z3g ho;have a4:vs.toArray.size=vs.length:=z1t;refine z3v (listItems_at ho rfl (z3v (listUpdate_at ho rfl ?_ (by rw [a4];exact hz) (z3s _))));obtain ⟨e1,Y⟩:∃ e1,(s.heap.update a (Obj.mapSeq λ _=>#[])).get? a=some (seqObj "list" #[] e1):=⟨_,get?_update_seq ho (λ _=>#[])⟩;refine z3v (seqEpoch_at Y rfl (z3v (wpAny_newTuple (z3v (wpAny_newList (z36 ?_))))));have s1:=z14 s.heap a (Obj.mapSeq λ _=>(#[]:Array Value));have keep:∀ b o,(s.heap.update a (Obj.mapSeq λ _=>#[])).get? b=some o ->(((s.heap.update a (Obj.mapSeq λ _=>#[])).push (seqObj "tuple" vs.toArray 0)).push (seqObj "list" #[] 0)).get? b=some o:=
  λ b o e=>z0j _ (z0j _ e)
 have O:=keep a _ Y;have U:∀ b o,b≠a ->s.heap.get? b=some o ->(((s.heap.update a (Obj.mapSeq λ _=>#[])).push (seqObj "tuple" vs.toArray 0)).push (seqObj "list" #[] 0)).get? b=some o:=
  λ b o hb e=>keep b o ((s1.2 b hb).trans e)
 show wpAny (model prog w) A _ P E {s with heap:=((s.heap.update a (Obj.mapSeq λ _=>#[])).push (seqObj "tuple" vs.toArray 0)).push (seqObj "list" #[] 0)}
 dsimp only
 by_cases h2:vs.toArray.size < 2
 ·rw [if_pos h2,if_pos h2];refine z3v (z3u ?_);rw [StateT.run_pure];refine z3v (z3u ?_)
  dsimp only
  have es:((vs.toArray.zip vs.toArray).map (·.2)).toList=vs:=by
   rw [Array.toList_map];show (pairsOf vs).toList.map _=_;rw [pairsOf_toList,List.map_snd_zip (z3p _)]
  refine z3v (seqEpoch_at O rfl (z3v (listUpdate_at O rfl ?_ (z3s _) (by rw [<- z12,es];lia))));simp only [bne_self_eq_false,z1a,if_false];refine z3u (h _ ?_);rw [es];refine ⟨List.Perm.refl _,?_⟩;rw [a4] at h2
  match vs,h2 with
  | [],_=>exact .nil
  | [_],_=>exact z0d ..
 ·rw [if_neg h2,if_neg h2];obtain ⟨kd,kk,kl⟩:=hk (by lia) {s with heap:=((s.heap.update a (Obj.mapSeq λ _=>#[])).push (seqObj "tuple" vs.toArray 0)).push (seqObj "list" #[] 0)} U;refine z3v (kk _ _ ?_);have hS:∀ p∈(vs.toArray.zip vs.toArray).toList,p.1∈vs:=λ p hp=>by
   have Z:p∈(pairsOf vs).toList:=hp;rw [pairsOf_toList] at Z;exact (mem_zip_self Z).2
  refine z3v (z3w (qc2 (S:=λ p=>p.1∈vs) (rk:=λ p=>rk p.1) (n:=vs.length) (st:=SortSt.mk' kd (vs.toArray.zip vs.toArray) #[] 7 none)
   (Q:=λ _ J=>(arrOf J).Perm (pairsOf vs)/\failedOf J=none/\Up (λ p=>rk p.1) (arrOf J) 0 vs.length)
   (qd8 λ x y hx hy=>kl x.1 hx y.1 hy) ⟨pairsOf_size vs,hS,rfl,rfl⟩ (by lia) rfl λ J a1 a2 a3=>⟨a1,a2,a3⟩) ?_ λ _ _ e=>e)
  rintro ⟨⟨⟩,J⟩ s' ⟨rfl,hp,hf,hu⟩
  dsimp only
  have so:=q8z hp hu;refine z3v (seqEpoch_at O rfl (z3v (listUpdate_at O rfl ?_ (z3s _) (by rw [<- z12,so.perm.length_eq];lia))));rw [hf];simp only [bne_self_eq_false,z1a,if_false];exact z3u (h _ so)
end
end Tim
namespace Tim
structure STO {α:Type} (lt:α ->α ->Bool):Prop where
 irr:∀ a,lt a a=false
 tr:∀ a b c,lt a b=true ->lt b c=true ->lt a c=true
 tri:∀ a b,lt a b=false ->lt b a=false ->a=b
section
variable {α β:Type}
theorem STO.asym {lt:α ->α ->Bool} (h:STO lt) {a b:α} (x:lt a b=true):lt b a=false:=by
 cases e:lt b a with
 | false=>rfl
 | true=>
  have:=h.tr a b a x e;rw [h.irr] at this;cases this
theorem STO.nt {lt:α ->α ->Bool} (h:STO lt) {a c:α} (b:α) (x:lt a c=true):lt a b=true\/ lt b c=true:=by
 cases e:lt a b with
 | true=>exact .inl rfl
 | false=>
  cases f:lt b a with
  | true=>exact .inr (h.tr b a c f x)
  | false=>
   have:=h.tri a b e f;subst this;exact .inr x
theorem STO.map {lt:α ->α ->Bool} (h:STO lt) (f:β ->α) (inj:∀ a b,f a=f b ->a=b):STO λ a b=>lt (f a) (f b):=
 ⟨λ a=>h.irr _,λ a b c=>h.tr _ _ _,λ a b x y=>inj a b (h.tri _ _ x y)⟩
def lexB [DecidableEq α] (lt:α ->α ->Bool):List α ->List α ->Bool
 | [],[]=>false
 | [],_::_=>true
 | _::_,[]=>false
 | a::as,b::bs=>if a=b then lexB lt as bs else lt a b
theorem STO.lex [DecidableEq α] {lt:α ->α ->Bool} (h:STO lt):STO (lexB lt):=by
 refine ⟨λ a=> ?_,λ a=> ?_,λ a=> ?_⟩
 ·induction a with
  | nil=>rfl
  | cons x a U=>rw [lexB,if_pos rfl];exact U
 ·induction a with
  | nil=>
   intro b c h1 h2;cases c with
   | nil=>cases b with
    | nil=>exact h1
    | cons y b=>cases h2
   | cons z c=>rfl
  | cons x a U=>
   intro b c h1 h2;cases b with
   | nil=>cases h1
   | cons y b=>
    cases c with
    | nil=>cases h2
    | cons z c=>
     rw [lexB] at h1 h2 ⊢;by_cases J:x=y
     ·subst J;rw [if_pos rfl] at h1;by_cases Y:x=z
      ·subst Y;rw [if_pos rfl] at h2 ⊢;exact U b c h1 h2
      ·rw [if_neg Y] at h2 ⊢;exact h2
     ·rw [if_neg J] at h1;by_cases Z:y=z
      ·subst Z;rw [if_neg J];exact h1
      ·rw [if_neg Z] at h2;have O:=h.tr x y z h1 h2;have:¬ x=z:=λ e=>by
        subst e;rw [h.irr] at O;cases O
       rw [if_neg this];exact O
 ·induction a with
  | nil=>
   intro b h1 h2;cases b with
   | nil=>rfl
   | cons y b=>cases h1
  | cons x a U=>
   intro b h1 h2;cases b with
   | nil=>cases h2
   | cons y b=>
    rw [lexB] at h1 h2;by_cases J:x=y
    ·subst J;rw [if_pos rfl] at h1 h2;rw [U b h1 h2]
    ·rw [if_neg J] at h1;rw [if_neg (Ne.symm J)] at h2;exact absurd (h.tri x y h1 h2) J
theorem qqu:STO (λ a b:Nat=>decide (a < b)):=
 ⟨λ a=>by simp,λ a b c h1 h2=>by simp at*;lia,λ a b h1 h2=>by simp at*;lia⟩
theorem qjq:STO (λ a b:Int=>decide (a < b)):=
 ⟨λ a=>by simp,λ a b c h1 h2=>by simp at*;lia,λ a b h1 h2=>by simp at*;lia⟩
theorem qjr:∀ (a b:List Nat),decide (a < b)=lexB (λ x y:Nat=>decide (x < y)) a b
 | [],[]=>rfl
 | [],_::_=>by simp [lexB]
 | _::_,[]=>by simp [lexB]
 | x::a,y::b=>by
  rw [lexB,<- qjr a b];by_cases e:x=y
  ·subst e;rw [if_pos rfl];simp
  ·rw [if_neg e];have:(x::a < y::b)↔x < y:=by
    rw [List.cons_lt_cons_iff]
    constructor
    ·rintro (h | h)
     ·exact h
     ·exact absurd h.1 e
    ·exact .inl
   simp [this]
theorem STO.uniq {lt:α ->α ->Bool} (h:STO lt):∀ {a b:List α},a.Perm b ->a.Pairwise (λ x y=>lt y x=false) ->b.Pairwise (λ x y=>lt y x=false) ->a=b
 | [],b,p,_,_=>(List.nil_perm.mp p).symm ▸ rfl
 | x::a,[],p,_,_=>by have:=p.length_eq;simp at this
 | x::a,y::b,p,pa,pb=>by
  obtain ⟨J,O⟩:=z1g.mp pa;obtain ⟨U,Y⟩:=z1g.mp pb;have e:x=y:=by
   have hx:x∈y::b:=p.mem_iff.mp (z1f ..);have hy:y∈x::a:=p.mem_iff.mpr (z1f ..);rcases z35.mp hx with e | hx
   ·exact e
   ·rcases z35.mp hy with e | hy
    ·exact e.symm
    ·exact h.tri x y (U x hx) (J y hy)
  subst e;rw [h.uniq (List.Perm.cons_inv p) O Y]
end
end Tim
namespace L2
open PySem PySem.Spec PyProof.Rows
abbrev Key:=Sum Int Str
def q5z:Key ->Value ->Bool
 | .inl k,v=>Value.isInt k v
 | .inr x,v=>Value.isStrOf x v
def keyH (w:World):Key ->Int
 | .inl k=>hashInt k
 | .inr x=>hashStr w x
theorem q1e:∀ {k:Key} {v:Value},q5z k v=true ->(∃ i t,k=Sum.inl i/\v=Value.int i t)\/ (∃ x t,k=Sum.inr x/\v=Value.str x t)
 | .inl i,v,h=>by
  obtain ⟨t,e⟩:=Value.isInt_shape (k:=i) (v:=v) h;exact .inl ⟨i,t,zr,e⟩
 | .inr x,v,h=>by
  obtain ⟨t,e⟩:=Value.isStrOf_shape (x:=x) (v:=v) h;exact .inr ⟨x,t,zr,e⟩
theorem qls (i:Int) (t:Tok):q5z (.inl i) (.int i t)=true:=by simp [q5z,Value.isInt]
theorem qlt (x:Str) (t:Tok):q5z (.inr x) (.str x t)=true:=by simp [q5z,Value.isStrOf]
theorem qsy (a b:Int):decide ((Sum.inl a:Key)=Sum.inl b)=(a==b):=by
 by_cases e:a=b
 ·subst e;simp
 ·have h:¬ (Sum.inl a:Key)=Sum.inl b:=λ q=>e (Sum.inl.inj q);rw [z2h h];exact (beq_eq_false_iff_ne.mpr e).symm
theorem qsz (a b:Str):decide ((Sum.inr a:Key)=Sum.inr b)=decide (a=b):=by
 by_cases e:a=b
 ·subst e;simp
 ·have h:¬ (Sum.inr a:Key)=Sum.inr b:=λ q=>e (Sum.inr.inj q);rw [z2h h,z2h e]
theorem qt0 (a:Int) (b:Str):decide ((Sum.inl a:Key)=Sum.inr b)=false:=z2h (λ q=>nomatch q)
theorem qt1 (a:Str) (b:Int):decide ((Sum.inr a:Key)=Sum.inl b)=false:=z2h (λ q=>nomatch q)
def qz (prog:Program) (w:World):PySem.KeyKind prog w Key where
 is:=q5z
 hash:=keyH w
 inj:=λ v a b ha hb=>by
  rcases q1e ha with ⟨i,t,rfl,rfl⟩ | ⟨x,t,rfl,rfl⟩
  ·rcases q1e hb with ⟨j,u,rfl,e⟩ | ⟨y,u,rfl,e⟩
   ·injection e with e1 _;rw [e1]
   ·exact nomatch e
  ·rcases q1e hb with ⟨j,u,rfl,e⟩ | ⟨y,u,rfl,e⟩
   ·exact nomatch e
   ·injection e with e1 _;rw [e1]
 byValue:=λ k v h=>by
  rcases q1e h with ⟨i,t,rfl,rfl⟩ | ⟨x,t,rfl,rfl⟩ <;> rfl
 pyHash:=λ hv h=>by
  rcases q1e hv with ⟨i,t,rfl,rfl⟩ | ⟨x,t,rfl,rfl⟩
  ·exact wpAny_pyHash_int h
  ·exact wpAny_pyHash_str h
 eqBool:=λ hu hv h=>by
  rcases q1e hu with ⟨i,t,rfl,rfl⟩ | ⟨x,t,rfl,rfl⟩
  ·rcases q1e hv with ⟨j,u,rfl,rfl⟩ | ⟨y,u,rfl,rfl⟩
   ·rw [qsy] at h;exact wpAny_eqBool_int h
   ·rw [qt0] at h;exact SeqAt.EqAt.int_str i t y u _ _ _ _ h
  ·rcases q1e hv with ⟨j,u,rfl,rfl⟩ | ⟨y,u,rfl,rfl⟩
   ·rw [qt1] at h;exact SeqAt.EqAt.str_int x t j u _ _ _ _ h
   ·rw [qsz] at h;exact wpAny_eqBool_str h
 «strs»:=λ k x t v h=>by
  rcases q1e h with ⟨i,u,rfl,e⟩ | ⟨y,u,rfl,e⟩
  ·exact nomatch e
  ·injection e with e1 _;subst e1;cases v <;> rfl
theorem qj0 (prog:Program) (w:World) (i:Int) (t:Tok):(qz prog w).is (.inl i) (.int i t)=true:=qls i t
theorem qj1 (prog:Program) (w:World) (x:Str) (t:Tok):(qz prog w).is (.inr x) (.str x t)=true:=qlt x t
inductive V where
 | non | bl (b:Bool) | int (i:Int) | str (x:Str) | byt (b:Array UInt8) | flt (b:UInt64) | ref (a:Addr) | ty (n:String)
 deriving DecidableEq
def RelV:V ->Value ->Prop
 | .non,u=>u=Value.none
 | .bl b,u=>u=Value.bool b
 | .int i,u=>∃ t,u=Value.int i t
 | .str x,u=>∃ t,u=Value.str x t
 | .byt b,u=>∃ t,u=Value.bytes b t
 | .flt b,u=>∃ t,u=Value.float b t
 | .ref a,u=>u=Value.ref a
 | .ty n,u=>u=Value.type n
abbrev Vals:List V ->List Value ->Prop:=Paired RelV
theorem Vals.length {xs:List V} {us:List Value} (r:Vals xs us):xs.length=us.length:=Paired.length r
theorem Vals.get:∀ {xs:List V} {us:List Value} {i:Nat} {x:V},Vals xs us ->xs[i]? =some x ->∃ u,us[i]? =some u/\RelV x u
 | _,_,_,_,.nil,e=>by simp at e
 | _,_,0,_,.cons r _,e=>by simp at e;subst e;exact ⟨_,rfl,r⟩
 | _,_,i+1,x,.cons _ t,e=>by
  obtain ⟨u,h1,h2⟩:=Vals.get (i:=i) (x:=x) t (by simpa using e);exact ⟨u,by simpa using h1,h2⟩
theorem Vals.append:∀ {xs ys:List V} {us J:List Value},Vals xs us ->Vals ys J ->Vals (xs++ys) (us++J)
 | _,_,_,_,.nil,s=>s
 | _,_,_,_,.cons r t,s=> .cons r (Vals.append t s)
theorem Vals.take:∀ {xs:List V} {us:List Value} (n:Nat),Vals xs us ->Vals (xs.take n) (us.take n)
 | _,_,0,_=> .nil
 | _,_,_+1,.nil=> .nil
 | _,_,n+1,.cons r t=> .cons r (Vals.take n t)
theorem Vals.drop:∀ {xs:List V} {us:List Value} (n:Nat),Vals xs us ->Vals (xs.drop n) (us.drop n)
 | _,_,0,r=>r
 | _,_,_+1,.nil=> .nil
 | _,_,n+1,.cons _ t=>Vals.drop n t
def RelO:Option V ->Option Value ->Prop
 | some v,some u=>RelV v u
 | none,none=>True
 | _,_=>False
def KV {κ:Type}:List (κ×V) ->List (κ×Value) ->Prop:=Paired λ (p:κ×V) (q:κ×Value)=>p.1=q.1/\RelV p.2 q.2
def kV:Key ->V
 | .inl i=> .int i
 | .inr x=> .str x
inductive HO where
 /-- a list -/
 | lst (xs:List V)
 /-- a tuple (never changes) -/
 | tup (xs:List V)
 /-- a dict whose keys are ints and texts;one whose keys are tuples of ints and texts (the empty one is both) -/
 | dK (kvs:List (Key×V)) | dT (kvs:List (List Key×V))
 /-- a set of ints:its members,its size -/
 | set (S:Int ->Bool) (n:Nat)
 /-- an instance of the class at C,its dict at dx,its attributes -/
 | ins (C dx:Addr) (fs:List (Str×V))
 /-- the dict of the instance at x -/
 | own (x:Addr)
 /-- the dict of an exception -/
 | xd (fs:List (Str×V))
 /-- a bound method,f of x -/
 | met (f x:Addr)
 /-- a range object lo,lo+1,.. below hi -/
 | rng (lo hi:Int)
 /-- a thing that is known to the object (the script;a dict while a loop walks it):read,never written while it is so -/
 | frz (o:Obj) (u:HO)
 /-- a code object's table -/
 | tbl (ps:Array Value)
 /-- any other thing,by what is true of its one object (a def of one's own:SetO a S n:=HO.ext λ h=> ..) -/
 | ext (φ:Heap ->Prop)
abbrev Hp:=Addr ->Option HO
def upd (H:Hp) (a:Addr) (o:HO):Hp:=λ b=>if b=a then some o else H b
theorem q5 {H:Hp} {a:Addr} {o:HO}:upd H a o a=some o:=by unfold upd;rw [if_pos rfl]
theorem qh {H:Hp} {a b:Addr} {o:HO} (h:b≠a):upd H a o b=H b:=by unfold upd;rw [if_neg h]
theorem qqv {H:Hp} {a:Addr} {o u:HO}:upd (upd H a o) a u=upd H a u:=by
 funext b;unfold upd;split <;> rfl
theorem qux {H:Hp} {a b:Addr} {o u:HO} (h:H a=some o) (h':H b=some u) (d:o≠u):a≠b:=by
 intro e;subst e;rw [h] at h';exact d (Option.some.inj h')
theorem q19 {H:Hp} {a b:Addr} {o:HO} (h:H a=some o) (h':H b=none):a≠b:=by
 intro e;subst e;rw [h] at h';cases h'
section
variable (P:Program) (w:World)
def ObjOk (H:Hp) (h:Heap) (a:Addr):HO ->Prop
 | .lst xs=>xs.length<=sizeLine/\∃ (its:List Value) (n:Nat),Vals xs its/\h.get? a=some {cls:= .type "list",data:= .seq its.toArray n}
 | .tup xs=>xs.length<=sizeLine/\∃ its:List Value,Vals xs its/\IsTup h a its.toArray
 | .dK kvs=>kvs.length<=sizeLine/\(a==sysModules)=false/\∃ vs,KV kvs vs/\h.DictOf (qz P w) a vs
 | .dT kvs=>kvs.length<=sizeLine/\(a==sysModules)=false/\∃ xs:List (List Key×Addr×Value),
   Paired (λ (p:List Key×V) (q:List Key×Addr×Value)=>p.1=q.1/\H q.2.1=some (.tup (p.1.map kV))/\RelV p.2 q.2.2) kvs xs/\
   ∃ o es ep,h.get? a=some o/\o.ExactDict/\o.data= .dict es ep/\es.toList=xs.map (entryOfKey (tupleKind (qz P w)))/\(xs.map (·.1)).Nodup
 | .set S n=>h.SetOf (intKind P w) a S n
 | .ins C dx fs=>H dx=some (.own a)/\fs.length<=1000/\dx≠a/\h.get? a=some (PySem.W.instObj C dx)/\
   ∃ mA,h.Ns1 dx mA/\(∀ f,RelO (fs.lookup f) (mA f))/\PySem.Within mA (fs.map (·.1))
 | .own _=>∃ o,h.get? a=some o
 | .xd fs=>∃ mA,h.Ns1 a mA/\∀ f,RelO (fs.lookup f) (mA f)
 | .rng lo hi=>∃ t u v,h.get? a=some {cls:= .type "range",data:= .fields #[.int lo t,.int hi u,.int 1 v]}
 | .frz o u=>h.get? a=some o/\ObjOk H h a u
 | .tbl ps=>h.get? a=some {cls:= .none,data:= .fields ps}
 | .met f x=>h.get? a=some (PySem.W.methodObj (.ref f) (.ref x))
 | .ext φ=>φ h/\(∃ o,h.get? a=some o)/\∀ h1 h2:Heap,φ h1 ->(∀ o,h1.get? a=some o ->h2.get? a=some o) ->φ h2
def HOk (H:Hp) (h:Heap):Prop:=∀ a o,H a=some o ->ObjOk P w H h a o
end
section
variable {P:Program} {w:World} {H H':Hp} {h h':Heap} {a:Addr} {o:HO}
theorem ObjOk.lt (x:ObjOk P w H h a o):a < h.objs.size:=by
 cases o with
 | lst xs=>obtain ⟨_,_,_,_,e⟩:=x;exact z3g e
 | tup xs=>obtain ⟨_,_,_,p⟩:=x;exact p.lt
 | dK kvs=>obtain ⟨_,_,_,_,o,_,_,e,_⟩:=x;exact z3g e
 | dT kvs=>obtain ⟨_,_,_,_,o,_,_,e,_⟩:=x;exact z3g e
 | set S n=>obtain ⟨o,_,_,_,e,_⟩:=x;exact z3g e
 | ins C dx fs=>obtain ⟨_,_,_,e,_⟩:=x;exact z3g e
 | own y=>obtain ⟨_,e⟩:=x;exact z3g e
 | xd fs=>obtain ⟨_,⟨_,_,_,e,_⟩,_⟩:=x;exact z3g e
 | rng lo hi=>obtain ⟨_,_,_,e⟩:=x;exact z3g e
 | frz ob u=>obtain ⟨e,_⟩:=x;exact z3g e
 | tbl ps=>exact z3g (show h.get? a=some _ from x)
 | met f y=>exact z3g (show h.get? a=some _ from x)
 | ext φ=>obtain ⟨_,⟨_,e⟩,_⟩:=x;exact z3g e
theorem Paired.mapP {α β:Type} {F G:α ->β ->Prop}:∀ {J:List α} {O:List β},Paired F J O ->(∀ a b,F a b ->G a b) ->Paired G J O
 | _,_,.nil,_=> .nil
 | _,_,.cons r t,f=> .cons (f _ _ r) (Paired.mapP t f)
theorem ObjOk.stay (x:ObjOk P w H h a o) (k:∀ b u,(b=a\/ H b=some (.own a)) ->h.get? b=some u ->h'.get? b=some u)
  (ho:∀ b,H b=some (.own a) ->H' b=some (.own a)) (ht:∀ b xs,H b=some (.tup xs) ->H' b=some (.tup xs)):ObjOk P w H' h' a o:=by
 induction o with
 | lst xs=>obtain ⟨z,its,n,r,e⟩:=x;exact ⟨z,its,n,r,k _ _ (.inl rfl) e⟩
 | tup xs=>obtain ⟨z,its,r,J,e,c⟩:=x;exact ⟨z,its,r,J,k _ _ (.inl rfl) e,c⟩
 | dK kvs=>obtain ⟨z,y,vs,r,J,es,ep,e,c⟩:=x;exact ⟨z,y,vs,r,J,es,ep,k _ _ (.inl rfl) e,c⟩
 | dT kvs=>
  obtain ⟨z,y,xs,r,J,es,ep,e,c⟩:=x;exact ⟨z,y,xs,Paired.mapP r λ p q z=>⟨z.1,ht _ _ z.2.1,z.2.2⟩,J,es,ep,k _ _ (.inl rfl) e,c⟩
 | set S n=>obtain ⟨J,es,ep,t,e,c⟩:=x;exact ⟨J,es,ep,t,k _ _ (.inl rfl) e,c⟩
 | ins C dx fs=>
  obtain ⟨d,z,ne,e,mA,⟨O,es,ep,e2,c⟩,r⟩:=x;exact ⟨ho _ d,z,ne,k _ _ (.inl rfl) e,mA,⟨O,es,ep,k _ _ (.inr d) e2,c⟩,r⟩
 | own y=>obtain ⟨J,e⟩:=x;exact ⟨J,k _ _ (.inl rfl) e⟩
 | xd fs=>obtain ⟨mA,⟨O,es,ep,e,c⟩,r⟩:=x;exact ⟨mA,⟨O,es,ep,k _ _ (.inl rfl) e,c⟩,r⟩
 | rng lo hi=>obtain ⟨t,u,v,e⟩:=x;exact ⟨t,u,v,k _ _ (.inl rfl) e⟩
 | frz J u ih=>obtain ⟨e,q⟩:=x;exact ⟨k _ _ (.inl rfl) e,ih q⟩
 | tbl ps=>
  have e:h.get? a=some {cls:= .none,data:= .fields ps}:=x;show h'.get? a=some {cls:= .none,data:= .fields ps};exact k a _ (.inl rfl) e
 | met f y=>
  have e:h.get? a=some (PySem.W.methodObj (.ref f) (.ref y)):=x;show h'.get? a=some (PySem.W.methodObj (.ref f) (.ref y));exact k a _ (.inl rfl) e
 | ext φ=>obtain ⟨p,⟨o,e⟩,st⟩:=x;exact ⟨st _ _ p λ o q=>k _ _ (.inl rfl) q,⟨o,k _ _ (.inl rfl) e⟩,st⟩
theorem HOk.lt (x:HOk P w H h) (e:H a=some o):a < h.objs.size:=(x a o e).lt
theorem HOk.fresh (x:HOk P w H h) (e:h.objs.size<=a):H a=none:=by
 cases q:H a with
 | none=>rfl
 | some u=>exact absurd (z1h (x.lt q) e) (z37 _)
theorem HOk.kept (x:HOk P w H h) (k:∀ b u,h.get? b=some u ->h'.get? b=some u):HOk P w H h':=λ a o e=>
 (x a o e).stay (λ b u _ q=>k b u q) (λ _ q=>q) λ _ _ q=>q
theorem HOk.laid (x:HOk P w H h) (k:∀ b u,h.get? b=some u ->h'.get? b=some u) (hp:h.objs.size<=a) (new:ObjOk P w (upd H a o) h' a o):HOk P w (upd H a o) h':=λ b u e=>by
 have hn:=x.fresh hp;by_cases hb:b=a
 ·subst hb;rw [q5] at e;cases e;exact new
 ·rw [qh hb] at e;exact (x b u e).stay (λ c v _ q=>k c v q) (λ c q=>by rw [qh (q19 q hn)];exact q) λ c xs q=>by rw [qh (q19 q hn)];exact q
end
def Rd (H:Hp) (a:Addr) (u:HO):Prop:=H a=some u\/ ∃ o,H a=some (.frz o u)
theorem Rd.ok {P:Program} {w:World} {H:Hp} {h:Heap} {a:Addr} {u:HO} (r:Rd H a u) (x:HOk P w H h):ObjOk P w H h a u:=by
 rcases r with r | ⟨o,r⟩
 ·exact x a u r
 ·obtain ⟨_,q⟩:=x a _ r;exact q
def Mut:Option HO ->Prop
 | some (.lst _)=>True
 | some (.dK _)=>True
 | some (.dT _)=>True
 | some (.set _ _)=>True
 | some (.ins _ _ _)=>True
 | some (.ext _)=>True
 | _=>False
section
variable {P:Program} {w:World} {H:Hp} {h h':Heap} {x e:Addr} {o':HO}
theorem HOk.write (ok:HOk P w H h) (Z:Mut (H x)) (he:e=x\/ H e=some (.own x)) (k:∀ b u,b≠e ->h.get? b=some u ->h'.get? b=some u) (a1:∃ u,h'.get? e=some u)
    (new:ObjOk P w (upd H x o') h' x o'):HOk P w (upd H x o') h':=λ b u q=>by
  have O:∀ c y,H c=some (.own y) ->c≠x:=λ c y r z=>by subst z;rw [r] at Z;exact Z
  have U:∀ c xs,H c=some (.tup xs) ->c≠x:=λ c xs r z=>by subst z;rw [r] at Z;exact Z
  by_cases hb:b=x
  · subst hb;rw [q5] at q;cases q;exact new
  · rw [qh hb] at q
    by_cases J:b=e
    · have q':H b=some (.own x):=by
        rcases he with z | z
        · exact absurd (J.trans z) hb
        · rw [J];exact z
      rw [q] at q';cases q';obtain ⟨v,hv⟩:=a1;exact ⟨v,by rw [J];exact hv⟩
    · refine (ok b u q).stay (λ c v Y r=>k c v ?_ r) (λ c r=>by rw [qh (O c b r)];exact r) λ c xs r=>by rw [qh (U c xs r)];exact r
      rcases Y with rfl | Y
      · exact J
      · rintro rfl
        rcases he with z | z
        · exact O c b Y z
        · rw [Y] at z;cases z;exact hb rfl
end
structure Un (fs ex:List Addr) (H H':Hp) (h h':Heap):Prop where
 keep:∀ b o,h.get? b=some o ->H b=none ->b∉fs ->b∉ex ->h'.get? b=some o
 slot:∀ b o,h.get? b=some o ->H b=none ->b∈fs ->b∉ex ->∃ sl,h'.get? b=some {o with slots:=sl}
 free:∀ b o,h.get? b=some o ->H b=none ->b∉ex ->H' b=none
 there:∀ b o,h.get? b=some o ->b∉ex ->∃ o',h'.get? b=some o'
 tups:∀ b xs,H b=some (.tup xs) ->H' b=some (.tup xs)
 frzs:∀ b o u,H b=some (.frz o u) ->H' b=some (.frz o u)
 tbls:∀ b ps,H b=some (.tbl ps) ->∃ more,H' b=some (.tbl (ps++more))
section
variable {fs fs' ex ex':List Addr} {H H1 H2:Hp} {h h1 h2 h':Heap} {a x e:Addr} {o:HO}
theorem Un.any (u:Un fs ex H H1 h h1) {b:Addr} {J:Obj} (q:h.get? b=some J) (n:H b=none) (hx:b∉ex):∃ sl,h1.get? b=some {J with slots:=sl}:=by
 by_cases hb:b∈fs
 ·exact u.slot b J q n hb hx
 ·exact ⟨J.slots,u.keep b J q n hb hx⟩
theorem Un.kept (k:∀ b u,h.get? b=some u ->h'.get? b=some u):Un fs ex H H h h':=
 ⟨λ b J q _ _ _=>k b J q,λ b J q _ _ _=>⟨J.slots,k b J q⟩,λ _ _ _ n _=>n,λ b J q _=>⟨J,k b J q⟩,λ _ _ q=>q,λ _ _ _ q=>q,λ _ ps q=>⟨#[],by rw [q];simp⟩⟩
theorem Un.refl:Un fs ex H H h h:=Un.kept λ _ _ q=>q
theorem Un.laid (k:∀ b u,h.get? b=some u ->h'.get? b=some u) (hp:h.objs.size<=a) (hn:H a=none):Un fs ex H (upd H a o) h h' where
 keep:=λ b u q _ _ _=>k b u q
 slot:=λ b u q _ _ _=>⟨u.slots,k b u q⟩
 free:=λ b u q n _=>by rw [qh (z3h (z1h (z3g q) hp))];exact n
 there:=λ b u q _=>⟨u,k b u q⟩
 tups:=λ b xs q=>by rw [qh (q19 q hn)];exact q
 frzs:=λ b u xs q=>by rw [qh (q19 q hn)];exact q
 tbls:=λ b ps q=>⟨#[],by rw [qh (q19 q hn),q];simp⟩
theorem Un.write (O:Mut (H x)) (he:e=x\/ H e=some (.own x)) (k:∀ b u,b≠e ->h.get? b=some u ->h'.get? b=some u) (U:∃ u,h'.get? e=some u):Un fs ex H (upd H x o) h h':=by
 have hx:∀ b,H b=none ->b≠x:=λ b n z=>by subst z;rw [n] at O;exact O
 have hb:∀ b,H b=none ->b≠e:=λ b n z=>by
  subst z;rcases he with r | r
  ·exact hx b n r
  ·rw [n] at r;cases r
 have hm:∀ b u,H b=some u ->¬ Mut (some u) ->b≠x:=λ b u q nm z=>by subst z;rw [q] at O;exact nm O
 refine ⟨λ b u q n _ _=>k b u (hb b n) q,λ b u q n _ _=>⟨u.slots,k b u (hb b n) q⟩,λ b u q n _=>by rw [qh (hx b n)];exact n,λ b u q _=> ?_,
  λ b xs q=>by rw [qh (hm b _ q λ z=>z)];exact q,λ b u xs q=>by rw [qh (hm b _ q λ z=>z)];exact q,λ b ps q=>⟨#[],by rw [qh (hm b _ q λ z=>z),q];simp⟩⟩
 by_cases J:b=e
 ·subst J;exact U
 ·exact ⟨u,k b u J q⟩
end
def trk (h:Heap) (H:Hp):List Addr:=(List.range h.objs.size).filter λ a=>(H a).isSome
def hidT (h:Heap) (H:Hp):Heap:=PySem.W.hideAll h (trk h H)
theorem qlu (h:Heap) (H:Hp):(hidT h H).objs.size=h.objs.size:=PySem.W.hideAll_size _ _
theorem qo8 {h:Heap} {H:Hp} {b:Addr} {o:Obj} (e:h.get? b=some o) (n:H b=none):(hidT h H).get? b=some o:=
 PySem.W.hideAll_get _ e λ hm=>by
  have q:(H b).isSome=true:=(z2i.mp hm).2;rw [n] at q;simp at q
theorem qqw {h:Heap} {H:Hp} {b:Addr} {o:Obj} (e:(hidT h H).get? b=some o):h.get? b=some o/\H b=none:=by
 have e':h.get? b=some o:=PySem.W.of_hideAll (trk h H) e;refine ⟨e',?_⟩;cases q:H b with
 | none=>rfl
 | some x=>
  have hm:b∈trk h H:=z2i.mpr ⟨z2x.mpr (z3g e'),by simp [q]⟩;have z:(hidT h H).get? b=none:=PySem.W.hideAll_none (trk h H) hm;rw [z] at e;cases e
structure Mod (K:PySem.W.Frag) (mg:Str ->Option Value) (base:Heap):Prop where
 kin:K.In base
 glob:base.Ns mainGlobals mg
 blt:∃ mb,base.Ns builtinsNs mb/\∀ x:Str,x≠"__name__" ->mb x=bootBuiltins x
 nolimit:base.NoLimit
structure Cx where
 prog:Program
 w:World
 K:PySem.W.Frag
 mg:Str ->Option Value
 base:Heap
 A:Around
 N:List Str
 s₀:Shared
 H₀:Hp
 env:Env
 outer:List Env
 stack:List Env
 ex:List Addr
 fn:Str ->Bool
 calm:Bool
 pn:List (Addr×Obj)
 xe:Value ->Shared ->Prop
def frs (l:List Env):List Addr:=l.filterMap (·.frame)
abbrev Cx.fs (X:Cx):List Addr:=frs X.outer
def Vis (sc:Scope) (x:Str):Prop:=sc.names.lookup x=some .local\/ sc.names.lookup x=some .cell\/ sc.names.lookup x=some .free
def Loc (sc:Scope) (x:Str):Prop:=sc.names.lookup x=some .local\/ sc.names.lookup x=some .cell
def Look (env:Env) (h:Heap) (m:Str ->Option Value) (x:Str) (u:Value):Prop:=
 (env.kindOf x=some .local/\m x=some u)\/ ((env.kindOf x=some .cell\/ env.kindOf x=some .free)/\∃ c,env.cells.lookup x=some c/\h.IsCell c (some u))
structure Cx.Ok (X:Cx):Prop where
 mod:Mod X.K X.mg X.base
 kind:X.env.scope.kind= .function
 glob:X.env.globals=mainGlobals
 blt:X.env.builtins=builtinsNs
 above:X.s₀.heap.objs.size<=X.env.locals
 inj:∀ x y c,X.env.cells.lookup x=some c ->X.env.cells.lookup y=some c ->x=y
 has:∀ x,(X.env.kindOf x=some .cell\/ X.env.kindOf x=some .free) ->∃ c,X.env.cells.lookup x=some c
 cab:∀ x c,X.fn x=true ->X.env.cells.lookup x=some c ->X.s₀.heap.objs.size<=c
 hd:X.calm=true ->X.A.handled=none
 frames:X.A.frames=some X.stack
 stk:X.stack=X.outer\/ (X.stack=X.env::X.outer/\X.env.frame=some X.env.locals)
 exf:∀ b∈X.ex,b≠X.env.locals/\∀ x c,X.env.cells.lookup x=some c ->c≠b
 bs:∀ b o,X.base.get? b=some o ->X.s₀.heap.get? b=some o/\X.H₀ b=none
 bsz:X.base.objs.size<=X.s₀.heap.objs.size
 noex:∀ b o,X.base.get? b=some o ->b∉X.ex
 exfs:∀ b∈X.ex,b∉X.fs
 funs:X.s₀.heap.FunFrames X.base X.outer
 frf:∀ b∈X.fs,X.H₀ b=none
structure Inv (X:Cx) (pins:List (Addr×Obj)) (σ:List (Option V)) (H:Hp) (s:Shared):Prop where
 ok:X.Ok
 os:s.os=X.s₀.os
 bare:AllBare s.gens
 base:Un X.fs X.ex X.H₀ H X.s₀.heap s.heap
 loc:∃ m,s.heap.Ns X.env.locals m/\∀ (i:Nat) (x:Str) (v:V),X.N[i]? =some x ->σ[i]? =some (some v) ->Vis X.env.scope x ->∃ u,RelV v u/\Look X.env s.heap m x u
 cell:∀ x c,X.env.cells.lookup x=some c ->∃ v,s.heap.IsCell c v
 free:H X.env.locals=none
 freeC:∀ x c,X.env.cells.lookup x=some c ->H c=none
 pin:∀ p∈X.pn++pins,s.heap.get? p.1=some p.2/\H p.1=none/\p.1≠X.env.locals/\p.1∉X.fs/\∀ v,p.2.data≠ .cell v
 hok:HOk X.prog X.w H s.heap
 len:σ.length=X.N.length
section
variable {X:Cx} {pins:List (Addr×Obj)} {σ:List (Option V)} {H H':Hp} {s:Shared} {h':Heap}
theorem Cx.Ok.nofr (ok:X.Ok) {b:Addr} {o:Obj} (e:X.base.get? b=some o):b∉X.fs:=λ hb=>by
 have:=(ok.funs.mem hb).1;rw [e] at this;cases this
theorem Inv.bs (I:Inv X pins σ H s):∀ b o,X.base.get? b=some o ->s.heap.get? b=some o/\H b=none:=λ b o e=>
 ⟨I.base.keep b o (I.ok.bs b o e).1 (I.ok.bs b o e).2 (I.ok.nofr e) (I.ok.noex b o e),I.base.free b o (I.ok.bs b o e).1 (I.ok.bs b o e).2 (I.ok.noex b o e)⟩
theorem Inv.bk (I:Inv X pins σ H s):∀ b o,X.base.get? b=some o ->s.heap.get? b=some o:=λ b o e=>(I.bs b o e).1
theorem Inv.mod (I:Inv X pins σ H s):Mod X.K X.mg X.base:=I.ok.mod
theorem Inv.kIn (I:Inv X pins σ H s):X.K.In s.heap:=I.ok.mod.kin.keeps I.bk
theorem Inv.lt (I:Inv X pins σ H s):X.env.locals < s.heap.objs.size:=let ⟨_,hn,_⟩:=I.loc;hn.lt
theorem Inv.sz (I:Inv X pins σ H s):X.s₀.heap.objs.size<=s.heap.objs.size:=z3i I.ok.above (z3f I.lt)
theorem Inv.nofs (I:Inv X pins σ H s) {a:Addr} (h:s.heap.objs.size<=a):a∉X.fs:=λ hb=>by
 obtain ⟨_,o,ho,_⟩:=I.ok.funs.mem hb;exact absurd (z1h (z3g ho) (z3i I.sz h)) (z37 _)
theorem Inv.cne (I:Inv X pins σ H s):∀ x c,X.env.cells.lookup x=some c ->c≠X.env.locals:=λ x c e z=>by
 obtain ⟨v,o,ho,hd⟩:=I.cell x c e;obtain ⟨m,⟨o',es,ep,O,J,_⟩,_⟩:=I.loc;rw [z,O] at ho;cases ho;rw [J] at hd;cases hd
theorem Inv.funs (I:Inv X pins σ H s):s.heap.FunFrames X.base X.outer:=by
 have all:∀ (l:List Env),(∀ b∈frs l,b∈X.fs) ->X.s₀.heap.FunFrames X.base l ->s.heap.FunFrames X.base l:=by
  intro l
  induction l with
  | nil=>intro _ _;trivial
  | cons env r ih=>
   intro U hl;obtain ⟨hk,⟨L,o,O,hn,ho,hd⟩,hr⟩:=hl;have J:L∈X.fs:=U L (by unfold frs;rw [List.filterMap_cons,O];exact z1f);obtain ⟨sl,e⟩:=I.base.slot L o ho (I.ok.frf L J) J λ z=>I.ok.exfs L z J;exact ⟨hk,⟨L,_,O,hn,e,hd⟩,ih (λ b hb=>U b (by unfold frs;rw [List.filterMap_cons,O];exact z0z _ hb)) hr⟩
 exact all X.outer (λ _ hb=>hb) I.ok.funs
theorem Inv.stack (I:Inv X pins σ H s):s.heap.FunFrames X.base X.stack:=by
 rcases I.ok.stk with e | ⟨e,hf⟩
 ·rw [e];exact I.funs
 ·rw [e];obtain ⟨m,hn,_⟩:=I.loc;refine .cons (by rw [I.ok.kind];decide) hf hn ?_ I.funs;exact Heap.get?_none_of_le (z3i I.ok.bsz I.ok.above)
theorem Inv.stkSub (I:Inv X pins σ H s):∀ b∈frs X.stack,b∈X.env.locals::X.fs:=λ b hb=>by
 rcases I.ok.stk with e | ⟨e,hf⟩
 ·rw [e] at hb;exact z0z _ hb
 ·rw [e] at hb;unfold frs at hb;rw [List.filterMap_cons,hf] at hb;exact hb
theorem Inv.stkFree (I:Inv X pins σ H s):∀ b∈frs X.stack,H b=none:=λ b hb=>by
 rcases z35.mp (I.stkSub b hb) with e | hb
 ·rw [e];exact I.free
 ·obtain ⟨_,o,ho,_⟩:=I.ok.funs.mem hb;exact I.base.free b o ho (I.ok.frf b hb) λ z=>I.ok.exfs b z hb
theorem Inv.step {g':Array GenState} {t':Nat} {d':Drawn} {ch:List Addr} (I:Inv X pins σ H s)
  (O:∀ b∈ch,(b∈X.ex\/ X.s₀.heap.objs.size<=b)/\b≠X.env.locals/\(∀ x c,X.env.cells.lookup x=some c ->c≠b)/\∀ p∈X.pn++pins,p.1≠b)
  (keep:∀ b o,b≠X.env.locals ->b∉X.fs ->b∉ch ->s.heap.get? b=some o ->H b=none ->h'.get? b=some o)
  (slot:∀ b o,b≠X.env.locals ->b∈X.fs ->b∉ch ->s.heap.get? b=some o ->H b=none ->∃ sl,h'.get? b=some {o with slots:=sl}) (free:∀ b o,b∉ch ->s.heap.get? b=some o ->H b=none ->H' b=none)
  (there:∀ b o,b∉ch ->s.heap.get? b=some o ->∃ o',h'.get? b=some o')
  (tups:∀ b xs,H b=some (.tup xs) ->H' b=some (.tup xs)) (frzs:∀ b o u,H b=some (.frz o u) ->H' b=some (.frz o u)) (tbls:∀ b ps,H b=some (.tbl ps) ->∃ more,H' b=some (.tbl (ps++more)))
  (ns:∀ m,s.heap.Ns X.env.locals m ->h'.Ns X.env.locals m) (hok:HOk X.prog X.w H' h') (hg:AllBare g'):
  Inv X pins σ H' {s with heap:=h',gens:=g',drawn:=d',toks:=t'}:=by
 have Z:∀ b o,X.s₀.heap.get? b=some o ->b≠X.env.locals:=λ b o e=>z3h (z1h (z3g e) I.ok.above);have Y:∀ b o,X.s₀.heap.get? b=some o ->b∉X.ex ->b∉ch:=λ b o e hx hb=>by
  rcases (O b hb).1 with z | z
  ·exact hx z
  ·exact absurd (z1h (z3g e) z) (z37 _)
 have J:∀ x c,X.env.cells.lookup x=some c ->∀ v,s.heap.IsCell c v ->h'.IsCell c v:=λ x c e v ⟨o,ho,hd⟩=>by
  have U:c∉ch:=λ z=>(O c z).2.2.1 x c e rfl;by_cases hc:c∈X.fs
  ·obtain ⟨sl,q⟩:=slot c o (I.cne x c e) hc U ho (I.freeC x c e);exact ⟨_,q,hd⟩
  ·exact ⟨o,keep c o (I.cne x c e) hc U ho (I.freeC x c e),hd⟩
 refine ⟨I.ok,I.os,hg,⟨λ b o e n hb hx=> ?_,λ b o e n hb hx=> ?_,λ b o e n hx=> ?_,λ b o e hx=> ?_,λ b xs e=>tups b xs (I.base.tups b xs e),λ b o xs e=>frzs b o xs (I.base.frzs b o xs e),λ b ps e=> ?_⟩,?_,λ x c e=> ?_,?_,λ x c e=> ?_,λ p hp=> ?_,hok,I.len⟩
 ·exact keep b o (Z b o e) hb (Y b o e hx) (I.base.keep b o e n hb hx) (I.base.free b o e n hx)
 ·obtain ⟨sl,e1⟩:=I.base.slot b o e n hb hx;obtain ⟨a1,e2⟩:=slot b _ (Z b o e) hb (Y b o e hx) e1 (I.base.free b o e n hx);exact ⟨a1,e2⟩
 ·obtain ⟨o',e1⟩:=I.base.there b o e hx;exact free b o' (Y b o e hx) e1 (I.base.free b o e n hx)
 ·obtain ⟨o',e1⟩:=I.base.there b o e hx;exact there b o' (Y b o e hx) e1
 ·obtain ⟨m1,e1⟩:=I.base.tbls b ps e;obtain ⟨m2,e2⟩:=tbls b _ e1;exact ⟨m1++m2,by rw [e2,Array.append_assoc]⟩
 ·obtain ⟨m,hn,hl⟩:=I.loc;refine ⟨m,ns m hn,λ i x v e1 e2 e3=> ?_⟩;obtain ⟨u,r,l⟩:=hl i x v e1 e2 e3;refine ⟨u,r,?_⟩;rcases l with l | ⟨k,c,e,z⟩
  ·exact .inl l
  ·exact .inr ⟨k,c,e,J x c e _ z⟩
 ·obtain ⟨v,z⟩:=I.cell x c e;exact ⟨v,J x c e v z⟩
 ·obtain ⟨m,⟨o,_,_,ho,_⟩,_⟩:=I.loc;exact free _ o (λ z=>(O _ z).2.1 rfl) ho I.free
 ·obtain ⟨v,o,ho,hd⟩:=I.cell x c e;exact free c o (λ z=>(O c z).2.2.1 x c e rfl) ho (I.freeC x c e)
 ·obtain ⟨e,n,ne,nf,d⟩:=I.pin p hp;have U:p.1∉ch:=λ z=>(O p.1 z).2.2.2 p hp rfl;exact ⟨keep p.1 p.2 ne nf U e n,free p.1 p.2 U e n,ne,nf,d⟩
theorem Inv.un {t':Nat} (I:Inv X pins σ H s) (u:Un X.fs [] H H' s.heap h') (hok:HOk X.prog X.w H' h'):Inv X pins σ H' {s with heap:=h',toks:=t'}:=by
 obtain ⟨m,⟨o,es,ep,ho,r⟩,_⟩:=id I.loc;obtain ⟨sl,hL⟩:=u.any ho I.free (by simp);exact I.step (g':=s.gens) (d':=s.drawn) (ch:=[]) (λ _ z=>nomatch z) (λ b o _ hb _ e n=>u.keep b o e n hb (by simp)) (λ b o _ hb _ e n=>u.slot b o e n hb (by simp)) (λ b o _ e n=>u.free b o e n (by simp)) (λ b o _ e=>u.there b o e (by simp)) u.tups u.frzs u.tbls (λ m' hm=>by
  obtain ⟨o',U,O,J,r'⟩:=hm;rw [ho] at J;cases J;exact ⟨_,U,O,hL,r'⟩) hok I.bare
theorem Inv.call {g':Array GenState} {t':Nat} {d':Drawn} {ch:List Addr} (I:Inv X pins σ H s) (u:Un (frs X.stack) ch H H' s.heap h') (hok:HOk X.prog X.w H' h') (hg:AllBare g')
  (O:∀ b∈ch,(b∈X.ex\/ X.s₀.heap.objs.size<=b)/\b≠X.env.locals/\(∀ x c,X.env.cells.lookup x=some c ->c≠b)/\∀ p∈X.pn++pins,p.1≠b):
  Inv X pins σ H' {s with heap:=h',gens:=g',drawn:=d',toks:=t'}:=by
 obtain ⟨m,⟨o,es,ep,ho,r⟩,_⟩:=id I.loc;obtain ⟨sl,hL⟩:=u.any ho I.free λ z=>(O _ z).2.1 rfl;exact I.step (ch:=ch) O (λ b o hL hb J e n=>u.keep b o e n (λ z=>(z35.mp (I.stkSub b z)).elim hL hb) J) (λ b o _ _ J e n=>u.any e n J) (λ b o J e n=>u.free b o e n J) (λ b o J e=>u.there b o e J) u.tups u.frzs u.tbls (λ m' hm=>by
  obtain ⟨o',Z,Y,U,r'⟩:=hm;rw [ho] at U;cases U;exact ⟨_,Z,Y,hL,r'⟩) hok hg
theorem Inv.turned {t':Nat} {it:Addr} (I:Inv X pins σ H s) (k:∀ b o,b≠it ->s.heap.get? b=some o ->h'.get? b=some o) (hn:H it=none) (U:it≠X.env.locals)
  (h1:it∈X.ex\/ X.s₀.heap.objs.size<=it) (h2:∀ x c,X.env.cells.lookup x=some c ->c≠it) (h3:∀ p∈X.pn++pins,p.1≠it):Inv X pins σ H {s with heap:=h',toks:=t'}:=by
 have O:∀ b u,H b=some u ->b≠it:=λ b u e z=>by rw [z,hn] at e;cases e
 refine I.step (g':=s.gens) (d':=s.drawn) (ch:=[it]) (λ b hb=> ?_) (λ b o _ _ J e _=>k b o (λ z=>J (by simp [z])) e) (λ b o _ _ J e _=>⟨o.slots,k b o (λ z=>J (by simp [z])) e⟩) (λ _ _ _ _ n=>n)
  (λ b o J e=>⟨o,k b o (λ z=>J (by simp [z])) e⟩) (λ _ _ e=>e) (λ _ _ _ e=>e) (λ b ps e=>⟨#[],by rw [e];simp⟩) (λ m hm=> ?_) (λ b u e=> ?_) I.bare
 ·have e:b=it:=by simpa using hb
  subst e;exact ⟨h1,U,h2,h3⟩
 ·obtain ⟨o,es,ep,ho,r⟩:=hm;exact ⟨o,es,ep,k _ o (Ne.symm U) ho,r⟩
 ·refine (I.hok b u e).stay (λ c v J q=>k c v ?_ q) (λ _ q=>q) λ _ _ q=>q;rcases J with z | z
  ·rw [z];exact O b u e
  ·exact O c _ z
theorem Inv.tok (I:Inv X pins σ H s) (t:Nat):Inv X pins σ H {s with toks:=t}:=I.un (h':=s.heap) (t':=t) Un.refl I.hok
theorem Inv.kept {t':Nat} (I:Inv X pins σ H s) (k:∀ b u,s.heap.get? b=some u ->h'.get? b=some u):Inv X pins σ H {s with heap:=h',toks:=t'}:=I.un (Un.kept k) (I.hok.kept k)
theorem Inv.laid {a:Addr} {o:HO} {t':Nat} (I:Inv X pins σ H s) (k:∀ b u,s.heap.get? b=some u ->h'.get? b=some u) (hp:s.heap.objs.size<=a) (new:ObjOk X.prog X.w (upd H a o) h' a o):
  Inv X pins σ (upd H a o) {s with heap:=h',toks:=t'}:=I.un (Un.laid k hp (I.hok.fresh hp)) (I.hok.laid k hp new)
theorem Inv.write {x e:Addr} {o:HO} {t':Nat} (I:Inv X pins σ H s) (U:Mut (H x)) (O:e=x\/ H e=some (.own x)) (k:∀ b u,b≠e ->s.heap.get? b=some u ->h'.get? b=some u) (J:∃ u,h'.get? e=some u)
  (new:ObjOk X.prog X.w (upd H x o) h' x o):Inv X pins σ (upd H x o) {s with heap:=h',toks:=t'}:=I.un (Un.write U O k J) (I.hok.write U O k J new)
theorem Inv.q9v {pins':List (Addr×Obj)} (I:Inv X pins σ H s) (h:∀ p∈pins',s.heap.get? p.1=some p.2/\H p.1=none/\p.1≠X.env.locals/\p.1∉X.fs/\∀ v,p.2.data≠ .cell v):Inv X pins' σ H s:=
 ⟨I.ok,I.os,I.bare,I.base,I.loc,I.cell,I.free,I.freeC,λ p hp=>(z2f.mp hp).elim (λ z=>I.pin p (z10 _ z)) (h p),I.hok,I.len⟩
theorem qb3 {N:List Str} (hN:N.Nodup) {i j:Nat} {x:Str} (a:N[i]? =some x) (b:N[j]? =some x):i=j:=by
 obtain ⟨h1,e1⟩:=z06.mp a;obtain ⟨h2,e2⟩:=z06.mp b;exact (List.getElem_inj hN).mp (e1.trans e2.symm)
theorem qlv {M:Model} {A:Around} {E:Value ->Shared ->Prop} {i:Nat} {x:Str} {v:V} {u:Value} {Q:Unit ->Shared ->Prop} (I:Inv X pins σ H s) (hN:X.N.Nodup) (hi:X.N[i]? =some x) (hx:Loc X.env.scope x) (r:RelV v u)
    (h:∀ s',Inv X pins (σ.set i (some v)) H s' ->(∃ a,Heap.SameBut a s.heap s'.heap/\(a=X.env.locals\/ X.env.cells.lookup x=some a)) ->Q () s') (hf:X.fn x=true\/ X.env.scope.names.lookup x=some .local:=by first | exact .inl rfl | exact .inr rfl | assumption):wpAny M A (storeName X.env x u) Q E s:=by
  obtain ⟨m,hn,hl⟩:=id I.loc;have a4:(X.env.scope.kind== .class || (X.env.scope.kind== .module&&X.env.locals !=X.env.globals))=false:=by rw [I.ok.kind];rfl
  have a5:i < σ.length:=by rw [I.len];exact (z06.mp hi).1
  have cne:=I.cne;have O:∀ {a:Addr} {h':Heap},(∃ o,s.heap.get? a=some o/\H a=none) ->Heap.SameBut a s.heap h' ->HOk X.prog X.w H h':=λ {a h'} ha J b ob e=>by
    obtain ⟨_,_,Y⟩:=ha;refine (I.hok b ob e).stay (λ c w' U q=>(J.2 c ?_).trans q) (λ _ q=>q) λ _ _ q=>q;rintro rfl;rcases U with rfl | U
    · rw [Y] at e;cases e
    · rw [Y] at U;cases U
  rcases hx with Z | Z
  · refine wpAny_storeName_local Z hn (λ h' a8 J=> ?_) a4
    obtain ⟨oL,_,_,a9,_⟩:=id hn;refine h _ ⟨I.ok,I.os,I.bare,⟨λ b o e n hb hx=> ?_,λ b o e n hb hx=> ?_,I.base.free,λ b o e hx=> ?_,I.base.tups,I.base.frzs,I.base.tbls⟩,⟨_,a8,λ j y v' e1 e2 e3=> ?_⟩,λ y c e=> ?_,I.free,I.freeC,λ p hp=> ?_,O ⟨oL,a9,I.free⟩ J,by simpa using I.len⟩ ⟨_,J,.inl rfl⟩
    · exact (J.2 b (z3h (z1h (z3g e) I.ok.above))).trans (I.base.keep b o e n hb hx)
    · obtain ⟨sl,e1⟩:=I.base.slot b o e n hb hx
      exact ⟨sl,(J.2 b (z3h (z1h (z3g e) I.ok.above))).trans e1⟩
    · obtain ⟨o',e1⟩:=I.base.there b o e hx
      exact ⟨o',(J.2 b (z3h (z1h (z3g e) I.ok.above))).trans e1⟩
    · by_cases hj:j=i
      · subst hj
        rw [hi] at e1;cases e1;rw [List.getElem?_set_self a5] at e2;cases e2
        exact ⟨u,r,.inl ⟨Z,by simp⟩⟩
      · rw [List.getElem?_set_ne (Ne.symm hj)] at e2
        obtain ⟨u',r',q⟩:=hl j y v' e1 e2 e3;refine ⟨u',r',?_⟩;rcases q with ⟨k,e⟩ | ⟨k,c,e,z⟩
        · refine .inl ⟨k,?_⟩
          have:y≠x:=λ e=>hj (qb3 hN e1 (e ▸ hi));simp [this,e]
        · exact .inr ⟨k,c,e,z.sameBut J (cne y c e)⟩
    · obtain ⟨w',z⟩:=I.cell y c e
      exact ⟨w',z.sameBut J (cne y c e)⟩
    · obtain ⟨e,n,ne,nf,d⟩:=I.pin p hp
      exact ⟨(J.2 p.1 ne).trans e,n,ne,nf,d⟩
  · have a1:X.fn x=true:=by
      rcases hf with z | z
      · exact z
      · rw [z] at Z;cases Z
    obtain ⟨c,U⟩:=I.ok.has x (.inl Z);obtain ⟨w',z⟩:=I.cell x c U;refine wpAny_storeName_cell I.ok.kind Z U z (λ h' a2 J=> ?_);obtain ⟨oc,a6,a7⟩:=id z;refine h {s with heap:=h'} ⟨I.ok,I.os,I.bare,⟨λ b o e n hb hx=> ?_,λ b o e n hb hx=> ?_,I.base.free,λ b o e hx=> ?_,I.base.tups,I.base.frzs,I.base.tbls⟩,⟨m,hn.sameBut J (Ne.symm (cne x c U)),λ j y v' e1 e2 e3=> ?_⟩,λ y c' e=> ?_,I.free,I.freeC,λ p hp=> ?_,O ⟨oc,a6,I.freeC x c U⟩ J,by simpa using I.len⟩ ⟨c,J,.inr U⟩
    · exact (J.2 b (z3h (z1h (z3g e) (I.ok.cab x c a1 U)))).trans (I.base.keep b o e n hb hx)
    · obtain ⟨sl,e1⟩:=I.base.slot b o e n hb hx
      exact ⟨sl,(J.2 b (z3h (z1h (z3g e) (I.ok.cab x c a1 U)))).trans e1⟩
    · obtain ⟨o',e1⟩:=I.base.there b o e hx
      exact ⟨o',(J.2 b (z3h (z1h (z3g e) (I.ok.cab x c a1 U)))).trans e1⟩
    · by_cases hj:j=i
      · subst hj
        rw [hi] at e1;cases e1;rw [List.getElem?_set_self a5] at e2;cases e2
        exact ⟨u,r,.inr ⟨.inl Z,c,U,a2⟩⟩
      · rw [List.getElem?_set_ne (Ne.symm hj)] at e2
        obtain ⟨u',r',q⟩:=hl j y v' e1 e2 e3;refine ⟨u',r',?_⟩;rcases q with q | ⟨k,c',e,z'⟩
        · exact .inl q
        · refine .inr ⟨k,c',e,z'.sameBut J ?_⟩
          rintro rfl;exact hj (qb3 hN e1 (I.ok.inj _ _ _ e U ▸ hi))
    · by_cases a3:c'=c
      · subst a3;exact ⟨_,a2⟩
      · obtain ⟨w2,z2⟩:=I.cell y c' e
        exact ⟨w2,z2.sameBut J a3⟩
    · obtain ⟨e,n,ne,nf,d⟩:=I.pin p hp
      refine ⟨(J.2 p.1 ?_).trans e,n,ne,nf,d⟩;intro q;rw [q,a6] at e;have q':oc=p.2:=Option.some.inj e;exact d w' (by rw [<- q'];exact a7)
theorem qb4 {M:Model} {A:Around} {E:Value ->Shared ->Prop} {i:Nat} {x:Str} {v:V} {u:Value} {Q:Unit ->Shared ->Prop} (I:Inv X pins σ H s) (hN:X.N.Nodup) (hi:X.N[i]? =some x) (hx:Loc X.env.scope x) (r:RelV v u)
  (h:∀ s',Inv X pins (σ.set i (some v)) H s' ->Q () s') (hf:X.fn x=true\/ X.env.scope.names.lookup x=some .local:=by first | exact .inl rfl | exact .inr rfl | assumption):wpAny M A (storeName X.env x u) Q E s:=
 qlv I hN hi hx r (λ s' I' _=>h s' I') hf
theorem Inv.call' {s':Shared} {ch:List Addr} (I:Inv X pins σ H s) (ho:s'.os=s.os) (u:Un (frs X.stack) ch H H' s.heap s'.heap) (hok:HOk X.prog X.w H' s'.heap) (hg:AllBare s'.gens)
  (J:∀ b∈ch,(b∈X.ex\/ X.s₀.heap.objs.size<=b)/\b≠X.env.locals/\(∀ x c,X.env.cells.lookup x=some c ->c≠b)/\∀ p∈X.pn++pins,p.1≠b):Inv X pins σ H' s':=by
 obtain ⟨h',g',d',t',o'⟩:=s';have e:o'=s.os:=ho;subst e;exact I.call (g':=g') (t':=t') (d':=d') u hok hg J
end
abbrev XK:=Value ->Option Addr ->Hp ->Prop
abbrev St:=List (Option V)
abbrev VK:=V ->Hp ->Prop
abbrev TE:=St ->Hp ->VK ->Prop
abbrev TT:=St ->Hp ->(Bool ->Hp ->Prop) ->Prop
abbrev TA:=St ->Hp ->(List V ->Hp ->Prop) ->Prop
structure Ends where
 nx:St ->Hp ->Prop
 rt:VK
 bk:St ->Hp ->Prop:=λ _ _=>False
 ct:St ->Hp ->Prop:=λ _ _=>False
abbrev TS:=Ends ->St ->Hp ->Prop
def EP (X:Cx) (pins:List (Addr×Obj)) (σ:St) (Q:VK) (u:Value) (s':Shared):Prop:=∃ v H',Inv X pins σ H' s'/\RelV v u/\Q v H'
def TP (X:Cx) (pins:List (Addr×Obj)) (σ:St) (Q:Bool ->Hp ->Prop) (b:Bool) (s':Shared):Prop:=∃ H',Inv X pins σ H' s'/\Q b H'
def AP (X:Cx) (pins:List (Addr×Obj)) (σ:St) (Q:List V ->Hp ->Prop) (us:List Value) (s':Shared):Prop:=∃ vs H',Inv X pins σ H' s'/\Vals vs us/\Q vs H'
def SP (X:Cx) (pins:List (Addr×Obj)) (D:Ends) (f:Flow) (s':Shared):Prop:=
 match f with
 | .next=>∃ σ' H',Inv X pins σ' H' s'/\D.nx σ' H'
 | .brk=>∃ σ' H',Inv X pins σ' H' s'/\D.bk σ' H'
 | .cont=>∃ σ' H',Inv X pins σ' H' s'/\D.ct σ' H'
 | .ret u=>∃ v σ' H',Inv X pins σ' H' s'/\RelV v u/\D.rt v H'
def PE (X:Cx) (e:Expr) (t:TE):Prop:=
 ∀ (pins:List (Addr×Obj)) (s:Shared) (σ:St) (H:Hp) (Q:VK),Inv X pins σ H s ->t σ H Q ->wpAny (model X.prog X.w) X.A (eval e X.env) (EP X pins σ Q) X.xe s
def PT (X:Cx) (e:Expr) (t:TT):Prop:=
 ∀ (pins:List (Addr×Obj)) (s:Shared) (σ:St) (H:Hp) (Q:Bool ->Hp ->Prop),Inv X pins σ H s ->t σ H Q ->wpAny (model X.prog X.w) X.A (isTrue e X.env (eval e X.env)) (TP X pins σ Q) X.xe s
def PW (X:Cx) (e:Expr) (t:TT):Prop:=
 ∀ (whole:Sem Value) (pins:List (Addr×Obj)) (s:Shared) (σ:St) (H:Hp) (Q:Bool ->Hp ->Prop),Inv X pins σ H s ->t σ H Q ->wpAny (model X.prog X.w) X.A (isTrue e X.env whole) (TP X pins σ Q) X.xe s
theorem PW.pt {X:Cx} {e:Expr} {t:TT} (h:PW X e t):PT X e t:=h _
def PA (X:Cx) (es:List Expr) (t:TA):Prop:=
 ∀ (pos:Pos) (pins:List (Addr×Obj)) (s:Shared) (σ:St) (H:Hp) (Q:List V ->Hp ->Prop),Inv X pins σ H s ->t σ H Q ->wpAny (model X.prog X.w) X.A (spliced (backTo pos (starEach es X.env))) (AP X pins σ Q) X.xe s
def PS (X:Cx) (st:Stmt) (t:TS):Prop:=
 ∀ (pins:List (Addr×Obj)) (s:Shared) (σ:St) (H:Hp) (D:Ends),Inv X pins σ H s ->t D σ H ->wpAny (model X.prog X.w) X.A (exec st X.env) (SP X pins D) X.xe s
def PSs (X:Cx) (st:List Stmt) (t:TS):Prop:=
 ∀ (pins:List (Addr×Obj)) (s:Shared) (σ:St) (H:Hp) (D:Ends),Inv X pins σ H s ->t D σ H ->wpAny (model X.prog X.w) X.A (execs st X.env) (SP X pins D) X.xe s
theorem thn {α:Type} {t:Sem α} {Q J:α ->Shared ->Prop} {M:Model} {A:Around} {E:Value ->Shared ->Prop} {s:Shared} (h:wpAny M A t Q E s) (hQ:∀ a s,Q a s ->J a s):wpAny M A t J E s:=z3w h hQ λ _ _ x=>x
section
variable {X:Cx}
def tVar (i:Nat):TE:=λ σ H Q=>∃ v,σ[i]? =some (some v)/\Q v H
def tC (v:V):TE:=λ _ H Q=>Q v H
theorem qt2 {i:Nat} {x:Str} {pos:Pos} (hN:X.N[i]? =some x) (hv:Vis X.env.scope x) (hd:(x==("__debug__":Str))=false:=by decide) (U:(x==("__classdict__":Str))=false:=by decide):PE X (.Name x pos) (tVar i):=by
 intro pins s σ H Q I h;obtain ⟨v,e,h⟩:=h;obtain ⟨m,hn,hl⟩:=I.loc;obtain ⟨u,r,l⟩:=hl i x v hN e hv;have fin:EP X pins σ Q u s:=⟨v,H,I,r,h⟩;rcases l with ⟨O,hm⟩ | ⟨O,c,Y,J⟩
 ·exact wpAny_Name (wpAny_loadName_local I.ok.kind O hn hm fin) hd
 ·rcases O with O | O
  ·exact wpAny_Name (wpAny_loadName_cell I.ok.kind O Y J fin) hd
  ·exact wpAny_Name (wpAny_loadName_free I.ok.kind O Y J fin U) hd
theorem qb {i j pos}:PE X (.Constant (.int i) j pos) (tC (.int i)):=λ _ _ _ H _ I h=>wpAny_Constant_int ⟨.int i,H,I.tok _,⟨_,rfl⟩,h⟩
theorem q3a {b j pos}:PE X (.Constant (.bool b) j pos) (tC (.bl b)):=λ _ _ _ H _ I h=>Constant_bool ⟨.bl b,H,I,rfl,h⟩
theorem q1u {j pos}:PE X (.Constant .none j pos) (tC .non):=λ _ _ _ H _ I h=>Constant_none ⟨.non,H,I,rfl,h⟩
theorem q2o {x j pos}:PE X (.Constant (.str x) j pos) (tC (.str x)):=λ _ _ _ H _ I h=>Calls.Constant_str ⟨.str x,H,I.tok _,⟨_,rfl⟩,h⟩
def Gl (X:Cx) (x:Str):Prop:=X.env.kindOf x=some .globalImplicit
theorem q67 {E:Value ->Shared ->Prop} {pins:List (Addr×Obj)} {s:Shared} {σ:St} {H:Hp} {x:Str} {u:Value} {pos:Pos} {Q:Value ->Shared ->Prop} (I:Inv X pins σ H s) (hg:Gl X x) (hm:X.mg x=some u) (h:Q u s)
  (hd:(x==("__debug__":Str))=false:=by decide):wpAny (model X.prog X.w) X.A (eval (.Name x pos) X.env) Q E s:=
 Calls.Name_function_global I.ok.kind hg (Calls.loadGlobal_global (by rw [I.ok.glob];exact I.mod.glob.keeps I.bk) hm h) hd
theorem q53 {E:Value ->Shared ->Prop} {pins:List (Addr×Obj)} {s:Shared} {σ:St} {H:Hp} {x:Str} {u:Value} {pos:Pos} {Q:Value ->Shared ->Prop} (I:Inv X pins σ H s) (hg:Gl X x) (hm:X.mg x=none) (hv:bootBuiltins x=some u) (h:Q u s)
  (hn:x≠"__name__":=by decide) (hd:(x==("__debug__":Str))=false:=by decide):wpAny (model X.prog X.w) X.A (eval (.Name x pos) X.env) Q E s:=by
 obtain ⟨mb,h1,h2⟩:=I.mod.blt;exact Calls.Name_function_global I.ok.kind hg (Calls.loadGlobal_builtin (by rw [I.ok.glob];exact I.mod.glob.keeps I.bk) hm (by rw [I.ok.blt];exact h1.keeps I.bk) ((h2 x hn).trans hv) h) hd
theorem qqx {x:Str} {v:V} {u:Value} {pos:Pos} (hg:Gl X x) (hm:X.mg x=some u) (r:RelV v u) (hd:(x==("__debug__":Str))=false:=by decide):PE X (.Name x pos) (tC v):=
 λ _ _ _ H _ I h=>q67 I hg hm ⟨v,H,I,r,h⟩ hd
theorem qqy {x:Str} {v:V} {u:Value} {pos:Pos} (hg:Gl X x) (hm:X.mg x=none) (hv:bootBuiltins x=some u) (r:RelV v u) (hn:x≠"__name__":=by decide) (hd:(x==("__debug__":Str))=false:=by decide):PE X (.Name x pos) (tC v):=
 λ _ _ _ H _ I h=>q53 I hg hm hv ⟨v,H,I,r,h⟩ hn hd
variable {a b:Expr} {ta tb:TE} {pos:Pos}
def PC (X:Cx) (op:CmpOp) (a b:Expr) (t:TE):Prop:=
 ∀ (pins:List (Addr×Obj)) (s:Shared) (σ:St) (H:Hp) (Q:VK),Inv X pins σ H s ->t σ H Q ->
  wpAny (model X.prog X.w) X.A (eval a X.env) (λ v s₁=>wpAny (model X.prog X.w) X.A (eval b X.env) (λ u s₂=>wpAny (model X.prog X.w) X.A (compareOp op v u) (EP X pins σ Q) X.xe s₂) X.xe s₁) X.xe s
def tB (t:TE):TT:=λ σ H Q=>t σ H λ x H1=>∃ c,x= .bl c/\Q c H1
theorem qt3 {op:CmpOp} {t:TE} (h:PC X op a b t) (h1:behindInMarks op b=false:=by first | exact nobehind _ (by decide) (by decide) | rfl):PE X (.Compare a [op] [b] pos) t:=λ pins s σ H Q I hw=>wpAny_Compare1 (h pins s σ H Q I hw) h1
theorem qlw {op:CmpOp} {t:TE} (h:PC X op a b t) (h1:behindInMarks op b=false:=by first | exact nobehind _ (by decide) (by decide) | rfl):PT X (.Compare a [op] [b] pos) (tB t):=by
 intro pins s σ H Q I hw;refine wpAny_isTrue_Compare1 (thn (h pins s σ H _ I hw) λ v s1 h1=>thn h1 λ u s2 h2=>thn h2 λ c s3 J=> ?_) h1;obtain ⟨x,H1,I1,r1,q1⟩:=J;obtain ⟨d,rfl,q⟩:=q1;cases r1
 exact z1u ⟨H1,I1,q⟩
theorem q34 {e:Expr} {t:TE} (h:PE X e t) (he:∀ J,isTrue e X.env J=(do let v <- J;standAt e.pos;holding [v] (truthy v)):=by intro _;rfl):PT X e (tB t):=by
 intro pins s σ H Q I hw;refine isTrue_plain (thn (h pins s σ H _ I hw) λ v s1 O=> ?_) (he _);obtain ⟨x,H1,I1,r1,q1⟩:=O;obtain ⟨d,rfl,q⟩:=q1;cases r1
 exact z1u ⟨H1,I1,q⟩
variable {tA tB':TT} {rest:List Expr}
def tOr (t u:TT):TT:=λ σ H Q=>t σ H λ c H1=>if c=true then Q true H1 else u σ H1 Q
def tNot (t:TT):TT:=λ σ H Q=>t σ H λ c H1=>Q (!c) H1
theorem qh8 (ha:PT X a tA):PW X (.BoolOp .Or [a] pos) tA:=by
 intro wh pins s σ H Q I h;refine isTrue_or (thn (ha pins s σ H Q I h) λ c s1 e=> ?_);cases c with
 | false=>exact isTrue_or_nil e
 | true=>exact e
theorem qkl (ha:PT X a tA) (hb:PW X (.BoolOp .Or (b::rest) pos) tB'):PW X (.BoolOp .Or (a::b::rest) pos) (tOr tA tB'):=by
 intro wh pins s σ H Q I h;refine isTrue_or (thn (ha pins s σ H _ I h) λ c s1 J=> ?_);obtain ⟨H1,I1,q1⟩:=J;cases c with
 | true=>exact ⟨H1,I1,q1⟩
 | false=>exact hb wh pins s1 σ H1 Q I1 q1
theorem q6d (ha:PT X a tA):PT X (.UnaryOp .Not a pos) (tNot tA):=by
 intro pins s σ H Q I h;exact isTrue_not (ha pins s σ H (λ c H1=>Q (!c) H1) I h)
def quy (ta tb:TE):TE:=λ σ H Q=>ta σ H λ x H1=>∃ c,x= .bl c/\if c=true then tb σ H1 Q else Q (.bl false) H1
def tOrV (ta tb:TE):TE:=λ σ H Q=>ta σ H λ x H1=>∃ c,x= .bl c/\if c=true then Q (.bl true) H1 else tb σ H1 Q
def quz (ta:TE):TE:=λ σ H Q=>ta σ H λ x H1=>∃ c,x= .bl c/\Q (.bl (!c)) H1
theorem q3z {op} {t:TE} (h:PE X a t):PE X (.BoolOp op [a] pos) t:=λ pins s σ H Q I hw=>BoolOp_one (h pins s σ H Q I hw)
theorem q6e (ha:PE X a ta) (hb:PE X (.BoolOp .And (b::rest) pos) tb):PE X (.BoolOp .And (a::b::rest) pos) (quy ta tb):=by
 intro pins s σ H Q I h;refine BoolOp_and (thn (ha pins s σ H _ I h) λ v s1 J=> ?_);obtain ⟨x,H1,I1,r1,q1⟩:=J;obtain ⟨c,rfl,q1⟩:=q1;cases r1
 refine z1u ?_;cases c with
 | true=>exact hb pins s1 σ H1 Q I1 q1
 | false=>exact ⟨.bl false,H1,I1,rfl,q1⟩
theorem qq3 (ha:PE X a ta) (hb:PE X (.BoolOp .Or (b::rest) pos) tb):PE X (.BoolOp .Or (a::b::rest) pos) (tOrV ta tb):=by
 intro pins s σ H Q I h;refine BoolOp_or (thn (ha pins s σ H _ I h) λ v s1 J=> ?_);obtain ⟨x,H1,I1,r1,q1⟩:=J;obtain ⟨c,rfl,q1⟩:=q1;cases r1
 refine z1u ?_;cases c with
 | false=>exact hb pins s1 σ H1 Q I1 q1
 | true=>exact ⟨.bl true,H1,I1,rfl,q1⟩
theorem qlx (ha:PE X a ta):PE X (.UnaryOp .Not a pos) (quz ta):=by
 intro pins s σ H Q I h;refine UnaryOp_ (thn (ha pins s σ H _ I h) λ v s1 J=> ?_);obtain ⟨x,H1,I1,r1,q1⟩:=J;obtain ⟨c,rfl,q1⟩:=q1;cases r1
 exact not_of (z1u ⟨.bl (!c),H1,I1,zr,q1⟩)
def tIf (t:TT) (ta tb:TE):TE:=λ σ H Q=>t σ H λ c H1=>if c=true then ta σ H1 Q else tb σ H1 Q
theorem qh9 {c:Expr} (hc:PT X c tA) (ha:PE X a ta) (hb:PE X b tb):PE X (.IfExp c a b pos) (tIf tA ta tb):=by
 intro pins s σ H Q I h;refine wpAny_IfExp (thn (hc pins s σ H _ I h) λ d s1 J=> ?_);obtain ⟨H1,I1,q1⟩:=J;cases d with
 | true=>exact ha pins s1 σ H1 Q I1 q1
 | false=>exact hb pins s1 σ H1 Q I1 q1
end
def SqL (K:PySem.W.Frag) (H:Hp) (a:Addr) (xs:List V):Prop:=
 Rd H a (.lst xs)\/
  ∃ (o:Obj) (its:Array Value) (n:Nat),K.lookup a=some o/\o.cls= .type "list"/\o.dict=none/\o.data= .seq its n/\its.size<=sizeLine/\Vals xs its.toList
def SqT (K:PySem.W.Frag) (H:Hp) (a:Addr) (xs:List V):Prop:=
 Rd H a (.tup xs)\/
  ∃ (o:Obj) (its:Array Value) (n:Nat),K.lookup a=some o/\o.cls= .type "tuple"/\o.data= .seq its n/\its.size<=sizeLine/\Vals xs its.toList
def absV:Value ->Option V
 | .none=>some .non
 | .bool b=>some (.bl b)
 | .int i _=>some (.int i)
 | .str x _=>some (.str x)
 | .bytes b _=>some (.byt b)
 | .float b _=>some (.flt b)
 | .ref a=>some (.ref a)
 | .type n=>some (.ty n)
 | _=>none
theorem RelV.abs {x:V} {u:Value} (r:RelV x u):absV u=some x:=by
 cases x with
 | non=>cases r;rfl
 | bl _=>cases r;rfl
 | int _=>obtain ⟨t,rfl⟩:=r;rfl
 | str _=>obtain ⟨t,rfl⟩:=r;rfl
 | byt _=>obtain ⟨t,rfl⟩:=r;rfl
 | flt _=>obtain ⟨t,rfl⟩:=r;rfl
 | ref _=>cases r;rfl
 | ty _=>cases r;rfl
theorem RelV.inj {x y:V} {u:Value} (r:RelV x u) (q:RelV y u):x=y:=Option.some.inj (r.abs.symm.trans q.abs)
theorem Vals.inj:∀ {xs ys:List V} {us:List Value},Vals xs us ->Vals ys us ->xs=ys
 | _,_,_,.nil,.nil=>rfl
 | _,_,_,.cons r t,.cons r' t'=>by rw [r.inj r',Vals.inj t t']
section
variable {X:Cx} {pins:List (Addr×Obj)} {σ:St} {H:Hp} {s:Shared} {a:Addr} {xs ys:List V}
theorem SqL.of {K:PySem.W.Frag} (h:H a=some (.lst xs)):SqL K H a xs:= .inl (.inl h)
theorem SqT.of {K:PySem.W.Frag} (h:H a=some (.tup xs)):SqT K H a xs:= .inl (.inl h)
theorem Inv.list (I:Inv X pins σ H s) (h:SqL X.K H a xs):∃ its:List Value,Vals xs its/\PlainL s.heap a its.toArray/\xs.length<=sizeLine:=by
 rcases h with h | ⟨o,its,n,hk,hc,hd,hs,hz,r⟩
 ·obtain ⟨z,its,n,r,e⟩:=h.ok I.hok;exact ⟨its,r,⟨_,n,e,zr,zr,zr⟩,z⟩
 ·refine ⟨its.toList,r,⟨o,n,I.kIn a o hk,hc,hd,by simpa using hs⟩,?_⟩;have e:=r.length;simp only [z12] at e
  lia
theorem Inv.tuple (I:Inv X pins σ H s) (h:SqT X.K H a xs):∃ its:List Value,Vals xs its/\IsTup s.heap a its.toArray/\xs.length<=sizeLine:=by
 rcases h with h | ⟨o,its,n,hk,hc,hs,hz,r⟩
 ·obtain ⟨z,its,r,p⟩:=h.ok I.hok;exact ⟨its,r,p,z⟩
 ·refine ⟨its.toList,r,⟨o,I.kIn a o hk,hc,n,by simpa using hs⟩,?_⟩;have e:=r.length;simp only [z12] at e
  lia
theorem Inv.qha (I:Inv X pins σ H s) (h:SqL X.K H a xs) (h':SqL X.K H a ys):xs=ys:=by
 obtain ⟨its,r,⟨o,n,e,_,_,d⟩,_⟩:=I.list h;obtain ⟨its',r',⟨o',n',e',_,_,d'⟩,_⟩:=I.list h';rw [e] at e';cases e';rw [d] at d';injection d' with d1 _;have:its=its':=by simpa using congrArg Array.toList d1
 subst this;exact r.inj r'
theorem Inv.qly (I:Inv X pins σ H s) (h:SqT X.K H a xs) (h':SqT X.K H a ys):xs=ys:=by
 obtain ⟨its,r,⟨o,e,_,n,d⟩,_⟩:=I.tuple h;obtain ⟨its',r',⟨o',e',_,n',d'⟩,_⟩:=I.tuple h';rw [e] at e';cases e';rw [d] at d';injection d' with d1 _;have:its=its':=by simpa using congrArg Array.toList d1
 subst this;exact r.inj r'
end
abbrev Cx.wish (X:Cx) (E:Value ->Shared ->Prop):Cx:={X with xe:=E}
abbrev Cx.nox (X:Cx):Cx:=X.wish λ _ _=>False
theorem Cx.Ok.wish {X:Cx} (ok:X.Ok) (E:Value ->Shared ->Prop):(X.wish E).Ok:=
 ⟨ok.mod,ok.kind,ok.glob,ok.blt,ok.above,ok.inj,ok.has,ok.cab,ok.hd,ok.frames,ok.stk,ok.exf,ok.bs,ok.bsz,ok.noex,ok.exfs,ok.funs,ok.frf⟩
theorem Cx.Ok.unwish {X:Cx} {E:Value ->Shared ->Prop} (ok:(X.wish E).Ok):X.Ok:=
 ⟨ok.mod,ok.kind,ok.glob,ok.blt,ok.above,ok.inj,ok.has,ok.cab,ok.hd,ok.frames,ok.stk,ok.exf,ok.bs,ok.bsz,ok.noex,ok.exfs,ok.funs,ok.frf⟩
section
variable {X:Cx} {pins:List (Addr×Obj)} {σ:St} {H:Hp} {s:Shared} {E:Value ->Shared ->Prop}
theorem Inv.wish (I:Inv X pins σ H s) (E:Value ->Shared ->Prop):Inv (X.wish E) pins σ H s:=⟨I.ok.wish E,I.os,I.bare,I.base,I.loc,I.cell,I.free,I.freeC,I.pin,I.hok,I.len⟩
theorem Inv.unwish (I:Inv (X.wish E) pins σ H s):Inv X pins σ H s:=⟨I.ok.unwish,I.os,I.bare,I.base,I.loc,I.cell,I.free,I.freeC,I.pin,I.hok,I.len⟩
theorem SP.unwish {D:Ends} {f:Flow} {s':Shared} (h:SP (X.wish E) pins D f s'):SP X pins D f s':=by
 cases f with
 | next=>obtain ⟨σ',H',I,q⟩:=h;exact ⟨σ',H',I.unwish,q⟩
 | brk=>obtain ⟨σ',H',I,q⟩:=h;exact ⟨σ',H',I.unwish,q⟩
 | cont=>obtain ⟨σ',H',I,q⟩:=h;exact ⟨σ',H',I.unwish,q⟩
 | ret u=>obtain ⟨v,σ',H',I,r,q⟩:=h;exact ⟨v,σ',H',I.unwish,r,q⟩
theorem PSs.nox {st:List Stmt} {t:TS} (h:PSs X.nox st t):PSs X st t:=λ pins s σ H D I hw=>
 z3w (h pins s σ H D (I.wish _) hw) (λ _ _ q=>q.unwish) λ _ _ z=>False.elim z
end
section
variable {X:Cx} {st:Stmt} {rest:List Stmt} {t u:TS} {e:Expr} {te:TE} {pos:Pos}
def qv0:TS:=λ D σ H=>D.nx σ H
def tSeq (t u:TS):TS:=λ D σ H=>t {D with nx:=u D} σ H
theorem ql:PSs X [] qv0:=λ _ _ σ H _ I h=>wpAny_execs_nil ⟨σ,H,I,h⟩
theorem qu (h1:PS X st t) (h2:PSs X rest u):PSs X (st::rest) (tSeq t u):=by
 intro pins s σ H D I h;refine wpAny_execs_cons (thn (h1 pins s σ H {D with nx:=u D} I h) λ f s1 q=> ?_);cases f with
 | next=>
  obtain ⟨σ',H',I',q⟩:=q;exact h2 pins s1 σ' H' D I' q
 | ret v=>exact q
 | brk=>exact q
 | cont=>exact q
theorem qe (h1:PS X st t):PSs X [st] t:=by
 intro pins s σ H D I h;refine wpAny_execs_cons (thn (h1 pins s σ H D I h) λ f s1 q=> ?_);cases f with
 | next=>exact wpAny_execs_nil q
 | ret v=>exact q
 | brk=>exact q
 | cont=>exact q
theorem Inv.quiet {pins:List (Addr×Obj)} {σ:St} {H:Hp} {s:Shared} (I:Inv X pins σ H s):interactive X.env=false:=by simp [interactive,I.ok.kind]
def qv1 (te:TE):TS:=λ D σ H=>te σ H λ _ H1=>D.nx σ H1
theorem q28 (he:PE X e te) (hs:swapsWith e none pos.line X.env=pure false:=by rfl):PS X (.Expr e pos) (qv1 te):=by
 intro pins s σ H D I h;exact wpAny_Expr_any (thn (he pins s σ H _ I h) λ v s1 ⟨x,H1,I1,r1,q1⟩=>⟨σ,H1,I1,q1⟩) I.quiet hs
def tRet (te:TE):TS:=λ D σ H=>te σ H D.rt
theorem qg (he:PE X e te):PS X (.Return (some e) pos) (tRet te):=by
 intro pins s σ H D I h;exact wpAny_Return_some (thn (he pins s σ H _ I h) λ v s1 ⟨x,H1,I1,r1,q1⟩=>⟨x,σ,H1,I1,r1,q1⟩)
def tIfS (c:TT) (t u:TS):TS:=λ D σ H=>c σ H λ b H1=>if b=true then t D σ H1 else u D σ H1
theorem qx {c:Expr} {a b:List Stmt} {tc:TT} (hc:PT X c tc) (ha:PSs X a t) (hb:PSs X b u):PS X (.If c a b pos) (tIfS tc t u):=by
 intro pins s σ H D I h;refine wpAny_If (thn (hc pins s σ H _ I h) λ d s1 J=> ?_);obtain ⟨H1,I1,q1⟩:=J;cases d with
 | true=>exact ha pins s1 σ H1 D I1 q1
 | false=>exact hb pins s1 σ H1 D I1 q1
end
abbrev TG:=V ->St ->Hp ->(St ->Hp ->Prop) ->Prop
abbrev TGs:=List V ->St ->Hp ->(St ->Hp ->Prop) ->Prop
def PG (X:Cx) (target:Expr) (t:TG):Prop:=
 ∀ (pins:List (Addr×Obj)) (s:Shared) (σ:St) (H:Hp) (v:V) (u:Value) (Q:St ->Hp ->Prop),Inv X pins σ H s ->RelV v u ->t v σ H Q ->
  wpAny (model X.prog X.w) X.A (assign target X.env u) (λ _ s'=>∃ σ' H',Inv X pins σ' H' s'/\Q σ' H') X.xe s
def PGs (X:Cx) (ts:List Expr) (t:TGs):Prop:=
 ∀ (pins:List (Addr×Obj)) (s:Shared) (σ:St) (H:Hp) (vs:List V) (us:List Value) (Q:St ->Hp ->Prop),Inv X pins σ H s ->Vals vs us ->t vs σ H Q ->
  wpAny (model X.prog X.w) X.A (assignInOrder ((assignEach ts X.env).map (·.2)) us) (λ _ s'=>∃ σ' H',Inv X pins σ' H' s'/\Q σ' H') X.xe s
section
variable {X:Cx} {pos:Pos}
def qq4 (i:Nat):TG:=λ v σ H Q=>Q (σ.set i (some v)) H
theorem qm {i:Nat} {x:Str} (hN:X.N.Nodup) (hi:X.N[i]? =some x) (hx:Loc X.env.scope x) (hf:X.fn x=true\/ X.env.scope.names.lookup x=some .local:=by first | exact .inl rfl | exact .inr rfl | assumption):PG X (.Name x pos) (qq4 i):=by
 intro pins s σ H v u Q I r h;exact wpAny_assign_Name (qb4 I hN hi hx r (λ s' I'=>⟨_,H,I',h⟩) hf)
def gNil:TGs:=λ vs σ H Q=>vs=[]/\Q σ H
def qv2 (t:TG) (u:TGs):TGs:=λ vs σ H Q=>∃ v r,vs=v::r/\t v σ H λ σ' H'=>u r σ' H' Q
theorem q4j:PGs X [] gNil:=by
 intro pins s σ H vs us Q I r h;obtain ⟨e,h⟩:=h;subst e;cases r
 exact assignInOrder_nil ⟨σ,H,I,h⟩
theorem q1r {e:Expr} {es:List Expr} {t:TG} {u:TGs} (h1:PG X e t) (h2:PGs X es u)
  (hs:(assignEach (e::es) X.env).map (·.2)=assign e X.env::(assignEach es X.env).map (·.2):=by rfl):PGs X (e::es) (qv2 t u):=by
 intro pins s σ H vs us Q I r h;obtain ⟨v,vr,e1,h⟩:=h;subst e1;cases r with
 | cons r rr=>
  rw [hs];refine assignInOrder_cons (thn (h1 pins s σ H _ _ _ I r h) λ _ s1 J=> ?_);obtain ⟨σ1,H1,I1,q1⟩:=J;exact h2 pins s1 σ1 H1 _ _ Q I1 rr q1
def gTup (K:PySem.W.Frag) (n:Nat) (t:TGs):TG:=λ v σ H Q=>∃ a xs,v= .ref a/\SqT K H a xs/\xs.length=n/\t xs σ H Q
theorem q90 {es:List Expr} {k:Nat} {t:TGs} {n:Nat} (hc:X.calm=true) (h:PGs X es t)
  (hn:(assignEach es X.env).length=n:=by rfl) (J:(assignEach es X.env).findIdx? (·.1)=none:=by rfl):PG X (.Tuple es k pos) (gTup X.K n t):=by
 intro pins s σ H v u Q I r hw;obtain ⟨a,xs,e1,hq,hl,hw⟩:=hw;subst e1;cases r
 obtain ⟨its,rv,ht,hz⟩:=I.tuple hq;refine assign_Tuple_tuple (I.ok.hd hc) ht (by simp [hn,<- hl,rv.length]) J λ h' hx=> ?_;have I1:Inv X pins σ H {s with heap:=h'}:=I.kept (t':=s.toks) λ b o e=>hx b o (z3h (z3g e)) e;exact h pins _ σ H xs _ Q I1 (by simpa using rv) hw
def tAsg (te:TE) (g:TG):TS:=λ D σ H=>te σ H λ x H1=>g x σ H1 D.nx
theorem qk {i:Nat} {x:Str} {e:Expr} {te:TE} {pos':Pos} (hN:X.N.Nodup) (hi:X.N[i]? =some x) (hx:Loc X.env.scope x) (he:PE X e te) (hs:swapsWith e (some (.Name x pos')) pos.line X.env=pure false:=by rfl) (hf:X.fn x=true\/ X.env.scope.names.lookup x=some .local:=by first | exact .inl rfl | exact .inr rfl | assumption):
  PS X (.Assign [.Name x pos'] e pos) (tAsg te (qq4 i)):=by
 intro pins s σ H D I h;refine wpAny_Assign_Name (thn (he pins s σ H _ I h) λ v s1 J=> ?_) hs;obtain ⟨y,H1,I1,r1,q1⟩:=J;exact qb4 I1 hN hi hx r1 (λ s2 I2=>⟨_,H1,I2,q1⟩) hf
end
section
variable {X:Cx} {pos:Pos}
end
structure It where
 go:Nat ->Hp ->Prop
 yld:Nat ->Hp ->V ->Hp ->Prop
 stop:Nat ->Hp ->Prop
def FpOk (X:Cx) (pins:List (Addr×Obj)) (H:Hp) (b:Addr):Prop:=
 H b=none/\b≠X.env.locals/\b∉X.fs/\(b∈X.ex\/ X.s₀.heap.objs.size<=b)/\(∀ x c,X.env.cells.lookup x=some c ->c≠b)/\∀ p∈X.pn++pins,p.1≠b
theorem Inv.fpOk {X:Cx} {pins:List (Addr×Obj)} {σ:St} {H H':Hp} {s:Shared} {b:Addr} (I:Inv X pins σ H s) (hb:s.heap.objs.size<=b) (hn:H' b=none):FpOk X pins H' b:=by
 refine ⟨hn,z3j (z1h I.lt hb),I.nofs hb,.inr (z3i I.sz hb),λ x c e z=> ?_,λ p hp z=> ?_⟩
 ·obtain ⟨v,q⟩:=I.cell x c e;exact absurd (z1h q.lt (by rw [z];exact hb)) (z37 _)
 ·exact absurd (z1h (z3g (I.pin p hp).1) (by rw [z];exact hb)) (z37 _)
structure Turn (P:Program) (w:World) (K:PySem.W.Frag) (tg:Expr) (J:It) (fp:List Addr) (it:Addr) (tn:Nat ->Heap ->Prop):Prop where
 mem:it∈fp
 obj:∀ i h,tn i h ->∀ b∈fp,∃ o,h.get? b=some o/\∀ v,o.data≠ .cell v
 keep:∀ i h h',tn i h ->(∀ b∈fp,∀ o,h.get? b=some o ->h'.get? b=some o) ->tn i h'
 item:∀ (X:Cx),X.prog=P ->X.w=w ->X.K=K ->X.calm=true ->∀ (i:Nat) (pins:List (Addr×Obj)) (s:Shared) (σ:St) (H:Hp) (E:Value ->Shared ->Prop),Inv X pins σ H s ->(∀ b∈fp,FpOk X pins H b) ->tn i s.heap ->J.go i H ->
  wpAny (model P w) X.A (pyNext (.ref it)) (λ r s1=>∃ u,r=some u/\
   wpAny (model P w) X.A (letOwnedTupleGo tg (.ref it) u) (λ _ s2=>∃ x H',Inv X pins σ H' s2/\RelV x u/\J.yld i H x H'/\tn (i+1) s2.heap/\∀ b∈fp,H' b=none) E s1) E s
 done:∀ (X:Cx),X.prog=P ->X.w=w ->X.K=K ->X.calm=true ->∀ (i:Nat) (pins:List (Addr×Obj)) (s:Shared) (σ:St) (H:Hp) (E:Value ->Shared ->Prop),Inv X pins σ H s ->(∀ b∈fp,FpOk X pins H b) ->tn i s.heap ->J.stop i H ->
  wpAny (model P w) X.A (pyNext (.ref it)) (λ r s1=>r=none/\Inv X pins σ H s1) E s
 self:∀ (A:Around) (i:Nat) (s:Shared) (Q:Value ->Shared ->Prop) (E:Value ->Shared ->Prop),tn i s.heap ->Q (.ref it) s ->wpAny (model P w) A (pyIter (.ref it)) Q E s
abbrev TI:=St ->Hp ->(It ->Hp ->Prop) ->Prop
def PIE (X:Cx) (pins:List (Addr×Obj)) (σ:St) (tg:Expr) (R:It ->Hp ->Prop) (itv:Value) (s2:Shared):Prop:=
 ∃ (it:Addr) (fp:List Addr) (tn:Nat ->Heap ->Prop) (J:It) (H':Hp),itv= .ref it/\Inv X pins σ H' s2/\Turn X.prog X.w X.K tg J fp it tn/\tn 0 s2.heap/\(∀ b∈fp,FpOk X pins H' b)/\R J H'
def PI (X:Cx) (tg iter:Expr) (wi:TI):Prop:=
 ∀ (pins:List (Addr×Obj)) (s:Shared) (σ:St) (H:Hp) (R:It ->Hp ->Prop),Inv X pins σ H s ->wi σ H R ->
  wpAny (model X.prog X.w) X.A (eval iter X.env) (λ v s1=>wpAny (model X.prog X.w) X.A (pyIter v) (PIE X pins σ tg R) X.xe s1) X.xe s
theorem qkm {M:Model} {A:Around} {E:Value ->Shared ->Prop} {s:Shared} {tg:Expr} {it:Addr} {u:Value} {o:Obj} {n:String} {vs:Array Value} {Q:Unit ->Shared ->Prop} (ho:s.heap.get? it=some o) (hc:o.cls= .type n) (hd:o.data= .fields vs)
    (hn: ["enumerate","zip","dict_itemiterator","dict_reverseitemiterator","odict_iterator","itertools.zip_longest","itertools.pairwise"].contains n=false) (J:Q () s):wpAny M A (letOwnedTupleGo tg (.ref it) u) Q E s:=by
  unfold letOwnedTupleGo;cases tg <;> first
    | exact z3u J
    | (cases u <;> first
        | exact z3u J
        | (refine z3v (wpAny_load ho ?_)
           rw [hc,hd];show wpAny M A (if (["enumerate","zip","dict_itemiterator","dict_reverseitemiterator","odict_iterator","itertools.zip_longest","itertools.pairwise"].contains n&&vs[0]? ==some (rawInt _))=true then _ else _) Q E s;rw [if_neg (by intro h;rw [hn,z2y] at h;cases h)];exact z3u J))
def Itl (K:PySem.W.Frag) (a:Addr):It:=
 ⟨λ i H=>∃ xs x,SqL K H a xs/\xs[i]? =some x,λ i H x H'=>H'=H/\∀ xs,SqL K H a xs ->xs[i]? =some x,λ i H=>∃ xs,SqL K H a xs/\xs.length<=i⟩
def Itt (K:PySem.W.Frag) (a:Addr):It:=
 ⟨λ i H=>∃ xs x,SqT K H a xs/\xs[i]? =some x,λ i H x H'=>H'=H/\∀ xs,SqT K H a xs ->xs[i]? =some x,λ i H=>∃ xs,SqT K H a xs/\xs.length<=i⟩
def Itr (lo:Int) (n:Nat):It:=⟨λ i _=>i < n,λ i H x H'=>H'=H/\x= .int (lo+i),λ i _=>n<=i⟩
theorem qlz {P:Program} {w:World} {K:PySem.W.Frag} {tg:Expr} (a it:Addr):Turn P w K tg (Itl K a) [it] it (λ i h=>h.IsListIter it a i) where
 mem:=by simp
 obj:=λ i h st b hb=>by
  have e:b=it:=by simpa using hb
  subst e;obtain ⟨o,e,c,d⟩:=st;exact ⟨o,e,λ v z=>by rw [d] at z;cases z⟩
 keep:=λ i h h' st k=>st.at λ o e=>k it (by simp) o e
 item:=by
  intro X Z hw Y hc i pins s σ H E I O st hg;subst Z hw Y;obtain ⟨xs,x,hq,hx⟩:=hg;obtain ⟨its,rv,p,hz⟩:=I.list hq;obtain ⟨u,hu,ru⟩:=rv.get hx;obtain ⟨U,f1,f2,f3,f4,f5⟩:=O it (by simp);refine wpAny_pyNext_list_item st p.isList (x:=u) (by simpa using hu) λ h' J sb=> ?_;have I1:Inv X pins σ H {s with heap:=h'}:=I.turned (t':=s.toks) (λ b o hb e=>(sb.2 b hb).trans e) U f1 f3 f4 f5;obtain ⟨o,e,c,d⟩:=id J;exact ⟨u,rfl,qkm (s:={s with heap:=h'}) e c d (by decide) ⟨x,H,I1,ru,⟨rfl,λ ys hy=>by rw [I.qha hy hq];exact hx⟩,J,λ b hb=>(O b hb).1⟩⟩
 done:=by
  intro X Z hw Y hc i pins s σ H E I O st hg;subst Z hw Y;obtain ⟨xs,hq,hx⟩:=hg;obtain ⟨its,rv,p,hz⟩:=I.list hq;obtain ⟨U,f1,f2,f3,f4,f5⟩:=O it (by simp);have hl:=rv.length;exact wpAny_pyNext_list_end (I.ok.hd hc) st p.isList (by simp;lia) λ h' eb=>⟨rfl,I.turned (t':=s.toks) (λ b o hb e=>eb b o hb e) U f1 f3 f4 f5⟩
 self:=λ _ _ _ _ _ st h=>wpAny_pyIter_listiter st h
theorem qkn {P:Program} {w:World} {K:PySem.W.Frag} {tg:Expr} (a it:Addr):Turn P w K tg (Itt K a) [it] it (λ i h=>h.IsTupleIter it a i) where
 mem:=by simp
 obj:=λ i h st b hb=>by
  have e:b=it:=by simpa using hb
  subst e;obtain ⟨o,e,c,d⟩:=st;exact ⟨o,e,λ v z=>by rw [d] at z;cases z⟩
 keep:=λ i h h' st k=>st.at λ o e=>k it (by simp) o e
 item:=by
  intro X Z hw Y hc i pins s σ H E I O st hg;subst Z hw Y;obtain ⟨xs,x,hq,hx⟩:=hg;obtain ⟨its,rv,p,hz⟩:=I.tuple hq;obtain ⟨u,hu,ru⟩:=rv.get hx;obtain ⟨U,f1,f2,f3,f4,f5⟩:=O it (by simp);refine wpAny_pyNext_tuple_item st (show s.heap.IsTuple a its.toArray from p) (x:=u) (by simpa using hu) λ h' J sb=> ?_;have I1:Inv X pins σ H {s with heap:=h'}:=I.turned (t':=s.toks) (λ b o hb e=>(sb.2 b hb).trans e) U f1 f3 f4 f5;obtain ⟨o,e,c,d⟩:=id J;exact ⟨u,rfl,qkm (s:={s with heap:=h'}) e c d (by decide) ⟨x,H,I1,ru,⟨rfl,λ ys hy=>by rw [I.qly hy hq];exact hx⟩,J,λ b hb=>(O b hb).1⟩⟩
 done:=by
  intro X Z hw Y hc i pins s σ H E I O st hg;subst Z hw Y;obtain ⟨xs,hq,hx⟩:=hg;obtain ⟨its,rv,p,hz⟩:=I.tuple hq;obtain ⟨U,f1,f2,f3,f4,f5⟩:=O it (by simp);have hl:=rv.length;exact wpAny_pyNext_tuple_end (I.ok.hd hc) st (show s.heap.IsTuple a its.toArray from p) (by simp;lia) λ h' eb=>⟨rfl,I.turned (t':=s.toks) (λ b o hb e=>eb b o hb e) U f1 f3 f4 f5⟩
 self:=λ _ _ _ _ _ st h=>wpAny_pyIter_tupleiter st h
theorem qko {P:Program} {w:World} {K:PySem.W.Frag} {tg:Expr} (it:Addr) (lo:Int) (n:Nat):Turn P w K tg (Itr lo n) [it] it (λ i h=>IsRangeIter h it (lo+(i:Nat)*1) ((n:Int) - (i:Nat)) 1) where
 mem:=by simp
 obj:=λ i h st b hb=>by
  have e:b=it:=by simpa using hb
  subst e;exact ⟨_,st,λ v z=>by
   have z':Data.fields _=Data.cell v:=z;cases z'⟩
 keep:=λ i h h' st k=>k it (by simp) _ st
 item:=by
  intro X Z hw Y hc i pins s σ H E I O st hg;subst Z hw Y;obtain ⟨U,f1,f2,f3,f4,f5⟩:=O it (by simp);have W:=Walks.range (prog:=X.prog) (w:=X.w) (I.ok.hd hc) it lo 1 n;refine W.item i s _ _ hg st λ v h' tk hv J kk=> ?_;obtain ⟨t,rfl⟩:=hv;have I1:Inv X pins σ H {s with heap:=h',toks:=tk}:=I.turned (λ b o hb e=>kk b o (by simpa using hb) e) U f1 f3 f4 f5;refine ⟨_,rfl,qkm (s:={s with heap:=h',toks:=tk}) (n:="range_iterator") J rfl rfl (by decide) ⟨.int (lo+i),H,I1,⟨t,?_⟩,⟨rfl,rfl⟩,J,λ b hb=>(O b hb).1⟩⟩;rw [Int.mul_one]
 done:=by
  intro X Z hw Y hc i pins s σ H E I O st hg;subst Z hw Y;obtain ⟨U,f1,f2,f3,f4,f5⟩:=O it (by simp);exact wpAny_pyNext_range_end (I.ok.hd hc) st (by have:n<=i:=hg;lia) λ h' eb=>⟨rfl,I.turned (t':=s.toks) (λ b o hb e=>eb b o hb e) U f1 f3 f4 f5⟩
 self:=λ _ _ _ _ _ st h=>wpAny_pyIter_rangeiter st h
section
variable {X:Cx} {tg:Expr}
def qq5 (K:PySem.W.Frag) (tl:TE):TI:=λ σ H R=>tl σ H λ x H1=>∃ a,x= .ref a/\(∃ xs,SqL K H1 a xs)/\R (Itl K a) H1
def iTup (K:PySem.W.Frag) (tl:TE):TI:=λ σ H R=>tl σ H λ x H1=>∃ a,x= .ref a/\(∃ xs,SqT K H1 a xs)/\R (Itt K a) H1
theorem qqz {l:Expr} {tl:TE} (hl:PE X l tl):PI X tg l (qq5 X.K tl):=by
 intro pins s σ H R I h;refine thn (hl pins s σ H _ I h) λ v s1 J=> ?_;obtain ⟨x,H1,I1,r1,q1⟩:=J;obtain ⟨a,e,⟨xs,hq⟩,q⟩:=q1;subst e;cases r1
 obtain ⟨its,rv,p,hz⟩:=I1.list hq;refine z1v p.isList ?_;refine ⟨s1.heap.objs.size,[s1.heap.objs.size],_,_,H1,zr,I1.kept (t':=s1.toks) λ b o e=>z0j _ e,qlz a _,⟨_,z15 _ rfl,zr,zr⟩,λ b hb=> ?_,q⟩;have e:b=s1.heap.objs.size:=by simpa using hb
 subst e;exact I1.fpOk (z3p _) (I1.hok.fresh (z3p _))
theorem qt4 {l:Expr} {tl:TE} (hl:PE X l tl):PI X tg l (iTup X.K tl):=by
 intro pins s σ H R I h;refine thn (hl pins s σ H _ I h) λ v s1 J=> ?_;obtain ⟨x,H1,I1,r1,q1⟩:=J;obtain ⟨a,e,⟨xs,hq⟩,q⟩:=q1;subst e;cases r1
 obtain ⟨its,rv,p,hz⟩:=I1.tuple hq;refine wpAny_pyIter_tuple (show s1.heap.IsTuple a its.toArray from p) ?_;refine ⟨s1.heap.objs.size,[s1.heap.objs.size],_,_,H1,zr,I1.kept (t':=s1.toks) λ b o e=>z0j _ e,qkn a _,⟨_,z15 _ rfl,zr,zr⟩,λ b hb=> ?_,q⟩;have e:b=s1.heap.objs.size:=by simpa using hb
 subst e;exact I1.fpOk (z3p _) (I1.hok.fresh (z3p _))
theorem qo9 {pins:List (Addr×Obj)} {σ:St} {H:Hp} {s:Shared} {R:It ->Hp ->Prop} {E:Value ->Shared ->Prop} {lo hi:Int} {t u v:Tok} {tk:Nat} (I:Inv X pins σ H s) (h1: -(2^62)<=lo) (h2:lo < 2^62) (h3: -(2^62)<=hi) (h4:hi < 2^62)
  (q:R (Itr lo (hi - lo).toNat) H):wpAny (model X.prog X.w) X.A (pyIter (.ref s.heap.objs.size)) (PIE X pins σ tg R) E {s with heap:=s.heap.push {cls:= .type "range",data:= .fields #[.int lo t,.int hi u,.int 1 v]},toks:=tk}:=by
 refine wpAny_pyIter_range (IsRange.new ..) (small_one h1 h2 h3 h4) ?_;have I1:Inv X pins σ H {s with heap:=s.heap.push {cls:= .type "range",data:= .fields #[.int lo t,.int hi u,.int 1 v]},toks:=tk}:=I.kept λ b o e=>z0j _ e;refine ⟨(s.heap.push {cls:= .type "range",data:= .fields #[.int lo t,.int hi u,.int 1 v]}).objs.size,[(s.heap.push {cls:= .type "range",data:= .fields #[.int lo t,.int hi u,.int 1 v]}).objs.size],_,_,H,zr,
  I1.kept (t':=tk) λ b o e=>z0j _ e,qko _ lo (hi - lo).toNat,?_,λ b hb=> ?_,q⟩
 ·have e1:lo+((0:Nat):Int)*1=lo:=by simp
  have e2:(((hi - lo).toNat:Nat):Int) - ((0:Nat):Int)=Builtin.Range.rangeSize lo hi 1:=by rw [rangeSize_one];split <;> lia
  show IsRangeIter _ _ (lo+((0:Nat):Int)*1) ((((hi - lo).toNat:Nat):Int) - ((0:Nat):Int)) 1;rw [e1,e2];exact z15 _ rfl
 ·have e:b=(s.heap.push {cls:= .type "range",data:= .fields #[.int lo t,.int hi u,.int 1 v]}).objs.size:=by simpa using hb
  subst e;exact I1.fpOk (z3p _) (I1.hok.fresh (z3p _))
def qv3 (ta:TA):TI:=λ σ H R=>ta σ H λ vs H1=>∃ j:Int,vs=[.int j]/\ -(2^62)<=j/\j < 2^62/\R (Itr 0 j.toNat) H1
theorem q54 {a:Expr} {ta:TA} {p pos:Pos} (hg:Gl X "range") (hm:X.mg "range"=none) (ha:PA X [a] ta) (hs:starEach [a] X.env=[(false,eval a X.env)]:=by rfl):PI X tg (.Call (.Name "range" p) [a] [] pos) (qv3 ta):=by
 intro pins s σ H R I h;refine Call_ (q53 I hg hm boot_range (z02 (thn (ha pos pins s σ H _ I h) λ us s1 J=> ?_) hs rfl));obtain ⟨vs,H1,I1,r1,q1⟩:=J;obtain ⟨j,e,q1,q2,q⟩:=q1;subst e;cases r1 with
 | cons r rr=>
  cases rr
  obtain ⟨t,rfl⟩:=r;exact call_range_1 (qo9 I1 (by lia) (by lia) q1 q2 (by simpa using q))
def tFor (wi:TI) (g:TG) (tb:TS):TS:=λ D σ H=>wi σ H λ J H1=>∃ W:Nat ->Nat ->St ->Hp ->Prop,(∃ m,W 0 m σ H1)/\∀ i m σ H,W i m σ H ->
 (J.stop i H/\D.nx σ H)\/ (J.go i H/\∃ N:St ->Hp ->Prop,(∀ σ' H',N σ' H' ->∃ m',m' < m/\W (i+1) m' σ' H')/\∀ x H',J.yld i H x H' ->g x σ H' λ σ2 H2=>tb {D with nx:=N,ct:=N,bk:=D.nx} σ2 H2)
def q91 (fp:List Addr) (h:Heap):List (Addr×Obj):=fp.filterMap λ b=>(h.get? b).map λ o=>(b,o)
theorem q60 {fp:List Addr} {h:Heap} {b:Addr} {o:Obj} (hb:b∈fp) (e:h.get? b=some o):(b,o)∈q91 fp h:=List.mem_filterMap.mpr ⟨b,hb,by rw [e];rfl⟩
theorem qm0 {fp:List Addr} {h:Heap} {p:Addr×Obj} (hp:p∈q91 fp h):p.1∈fp/\h.get? p.1=some p.2:=by
 obtain ⟨b,hb,e⟩:=List.mem_filterMap.mp hp;cases q:h.get? b with
 | none=>rw [q] at e;cases e
 | some o=>
  rw [q] at e;have e':(b,o)=p:=Option.some.inj e;subst e';exact ⟨hb,q⟩
theorem Inv.pinned {pins:List (Addr×Obj)} {σ:St} {H:Hp} {s:Shared} {fp:List Addr} (I:Inv X pins σ H s) (hf:∀ b∈fp,FpOk X pins H b) (ho:∀ b∈fp,∃ o,s.heap.get? b=some o/\∀ v,o.data≠ .cell v):Inv X (pins++q91 fp s.heap) σ H s:=
 I.q9v λ p hp=>(z2f.mp hp).elim (λ z=>I.pin p (z0r _ z)) λ z=>by
  obtain ⟨hb,e⟩:=qm0 z;obtain ⟨f0,f1,f2,_⟩:=hf p.1 hb;obtain ⟨o,e',d⟩:=ho p.1 hb;rw [e] at e';cases e';exact ⟨e,f0,f1,f2,d⟩
theorem Inv.unpinned {pins pl:List (Addr×Obj)} {σ:St} {H:Hp} {s:Shared} (I:Inv X (pins++pl) σ H s):Inv X pins σ H s:=I.q9v λ p hp=>I.pin p (z0r _ (z10 _ hp))
theorem q23 {iter:Expr} {body:List Stmt} {wi:TI} {g:TG} {tb:TS} {pos:Pos} (hp:PassesOwn (model X.prog X.w) X.A X.env X.xe) (hc:X.calm=true) (hi:PI X tg iter wi) (hg:PG X tg g) (hb:PSs X body tb)
  (hs:∀ x,foldedSetIterable iter X.env x=pure x:=by intro _;rfl):PS X (.For tg iter body [] pos) (tFor wi g tb):=by
 intro pins s σ H D I h;refine wpAny_For (thn (hi pins s σ H _ I h) λ v s1 h1=>thn h1 λ itv s2 h2=> ?_) hs;obtain ⟨it,fp,tn,J,H2,e,I2,T,a6,f2,W,⟨m0,w0⟩,turn⟩:=h2;subst e;have Z:∀ {H':Hp},(∀ b∈fp,H' b=none) ->∀ b∈fp,FpOk X pins H' b:=λ hn b hb=>⟨hn b hb,(f2 b hb).2⟩;refine codeAny_forLoop_any (λ n s'=>∃ i σ' H',Inv X pins σ' H' s'/\tn i s'.heap/\(∀ b∈fp,H' b=none)/\W i n σ' H') ?_ m0 ⟨0,σ,H2,I2,a6,λ b hb=>(f2 b hb).1,w0⟩;rintro n s3 ⟨i,σ3,H3,I3,a3,a2,w3⟩;rcases turn i n σ3 H3 w3 with ⟨stop,qn⟩ | ⟨go,N,hN,step⟩
 ·refine z2j hp (thn (T.done X rfl rfl rfl hc i pins s3 σ3 H3 X.xe I3 (Z a2) a3 stop) λ r s4 O=> ?_);obtain ⟨hr,I4⟩:=O;subst hr;exact wpAny_execs_nil ⟨σ3,H3,I4,qn⟩
 ·refine z2j hp (thn (T.item X rfl rfl rfl hc i pins s3 σ3 H3 X.xe I3 (Z a2) a3 go) λ r s4 O=> ?_);obtain ⟨u,hr,h4⟩:=O;subst hr;refine z2j hp (thn h4 λ _ s5 O=> ?_);obtain ⟨x,H5,I5,r5,y5,a1,a5⟩:=O;have a4:=I5.pinned (Z a5) (T.obj _ _ a1);refine z2j hp (thn (hg _ s5 σ3 H5 x u _ a4 r5 (step x H5 y5)) λ _ s6 O=> ?_);obtain ⟨σ6,H6,I6,q6⟩:=O;refine z2j hp (thn (hb _ s6 σ6 H6 _ I6 q6) λ f s7 q7=> ?_);have again:∀ {σ7:St} {U:Hp},Inv X (pins++q91 fp s5.heap) σ7 U s7 ->N σ7 U ->∃ m,m < n/\∃ i σ' H',Inv X pins σ' H' s7/\tn i s7.heap/\(∀ b∈fp,H' b=none)/\W i m σ' H':=λ {σ7 U} Y n7=>by
   obtain ⟨m',hm,w7⟩:=hN σ7 U n7;refine ⟨m',hm,i+1,σ7,U,Y.unpinned,T.keep _ _ _ a1 λ b hb o e=>(Y.pin (b,o) (z0r _ (z0r _ (q60 hb e)))).1,λ b hb=> ?_,w7⟩;obtain ⟨o,e,d⟩:=T.obj _ _ a1 b hb;exact (Y.pin (b,o) (z0r _ (z0r _ (q60 hb e)))).2.1
  cases f with
  | next=>obtain ⟨σ7,U,Y,n7⟩:=q7;exact again Y n7
  | cont=>obtain ⟨σ7,U,Y,n7⟩:=q7;exact again Y n7
  | brk=>obtain ⟨σ7,U,Y,q7⟩:=q7;exact ⟨σ7,U,Y.unpinned,q7⟩
  | ret v=>obtain ⟨x7,σ7,U,Y,r7,q7⟩:=q7;exact ⟨x7,σ7,U,Y.unpinned,r7,q7⟩
end
theorem q2t {K:PySem.W.Frag} {a:Addr} {xs:List V} {g:TG} {tb:TS} {D:Ends} {σ:St} {H:Hp} (J:Nat ->St ->Hp ->Prop) (h0:J 0 σ H) (hl:∀ i σ H,i<=xs.length ->J i σ H ->SqL K H a xs)
  (hs:∀ i x σ H,xs[i]? =some x ->J i σ H ->g x σ H λ σ2 H2=>tb {D with nx:=J (i+1),ct:=J (i+1),bk:=D.nx} σ2 H2) (hd:∀ σ H,J xs.length σ H ->D.nx σ H):
  ∃ W:Nat ->Nat ->St ->Hp ->Prop,(∃ m,W 0 m σ H)/\∀ i m σ H,W i m σ H ->
   ((Itl K a).stop i H/\D.nx σ H)\/ ((Itl K a).go i H/\∃ N:St ->Hp ->Prop,(∀ σ' H',N σ' H' ->∃ U,U < m/\W (i+1) U σ' H')/\∀ x H',(Itl K a).yld i H x H' ->g x σ H' λ σ2 H2=>tb {D with nx:=N,ct:=N,bk:=D.nx} σ2 H2):=by
 refine ⟨λ i m σ H=>m=xs.length - i/\i<=xs.length/\J i σ H,⟨xs.length,by simp,z3s _,h0⟩,?_⟩;rintro i m σ H ⟨rfl,hi,p⟩;have q:=hl i σ H hi p;by_cases O:i < xs.length
 ·refine .inr ⟨⟨xs,xs[i],q,by simp [O]⟩,J (i+1),λ σ' H' p'=>⟨xs.length - (i+1),by lia,zr,O,p'⟩,λ x H' y=> ?_⟩;obtain ⟨e,y⟩:=y;subst e;exact hs i x σ _ (y xs q) p
 ·have e:i=xs.length:=by lia
  subst e;exact .inl ⟨⟨xs,q,z3p _⟩,hd σ H p⟩
theorem qjs {K:PySem.W.Frag} {a:Addr} {xs:List V} {g:TG} {tb:TS} {D:Ends} {σ:St} {H:Hp} (J:Nat ->St ->Hp ->Prop) (h0:J 0 σ H) (hl:∀ i σ H,i<=xs.length ->J i σ H ->SqT K H a xs)
  (hs:∀ i x σ H,xs[i]? =some x ->J i σ H ->g x σ H λ σ2 H2=>tb {D with nx:=J (i+1),ct:=J (i+1),bk:=D.nx} σ2 H2) (hd:∀ σ H,J xs.length σ H ->D.nx σ H):
  ∃ W:Nat ->Nat ->St ->Hp ->Prop,(∃ m,W 0 m σ H)/\∀ i m σ H,W i m σ H ->
   ((Itt K a).stop i H/\D.nx σ H)\/ ((Itt K a).go i H/\∃ N:St ->Hp ->Prop,(∀ σ' H',N σ' H' ->∃ U,U < m/\W (i+1) U σ' H')/\∀ x H',(Itt K a).yld i H x H' ->g x σ H' λ σ2 H2=>tb {D with nx:=N,ct:=N,bk:=D.nx} σ2 H2):=by
 refine ⟨λ i m σ H=>m=xs.length - i/\i<=xs.length/\J i σ H,⟨xs.length,by simp,z3s _,h0⟩,?_⟩;rintro i m σ H ⟨rfl,hi,p⟩;have q:=hl i σ H hi p;by_cases O:i < xs.length
 ·refine .inr ⟨⟨xs,xs[i],q,by simp [O]⟩,J (i+1),λ σ' H' p'=>⟨xs.length - (i+1),by lia,zr,O,p'⟩,λ x H' y=> ?_⟩;obtain ⟨e,y⟩:=y;subst e;exact hs i x σ _ (y xs q) p
 ·have e:i=xs.length:=by lia
  subst e;exact .inl ⟨⟨xs,q,z3p _⟩,hd σ H p⟩
theorem q6z {lo:Int} {n:Nat} {g:TG} {tb:TS} {D:Ends} {σ:St} {H:Hp} (J:Nat ->St ->Hp ->Prop) (h0:J 0 σ H)
  (hs:∀ i σ H,i < n ->J i σ H ->g (.int (lo+i)) σ H λ σ2 H2=>tb {D with nx:=J (i+1),ct:=J (i+1),bk:=D.nx} σ2 H2) (hd:∀ σ H,J n σ H ->D.nx σ H):
  ∃ W:Nat ->Nat ->St ->Hp ->Prop,(∃ m,W 0 m σ H)/\∀ i m σ H,W i m σ H ->
   ((Itr lo n).stop i H/\D.nx σ H)\/ ((Itr lo n).go i H/\∃ N:St ->Hp ->Prop,(∀ σ' H',N σ' H' ->∃ U,U < m/\W (i+1) U σ' H')/\∀ x H',(Itr lo n).yld i H x H' ->g x σ H' λ σ2 H2=>tb {D with nx:=N,ct:=N,bk:=D.nx} σ2 H2):=by
 refine ⟨λ i m σ H=>m=n - i/\i<=n/\J i σ H,⟨n,by simp,z3s _,h0⟩,?_⟩;rintro i m σ H ⟨rfl,hi,p⟩;by_cases O:i < n
 ·refine .inr ⟨O,J (i+1),λ σ' H' p'=>⟨n - (i+1),by lia,zr,O,p'⟩,λ x H' y=> ?_⟩;obtain ⟨e,y⟩:=y;subst e y;exact hs i σ _ O p
 ·have e:i=n:=by lia
  subst e;exact .inl ⟨z3p _,hd σ H p⟩
abbrev R2:=V ->V ->Hp ->VK ->Prop
def OpR (X:Cx) (f:Value ->Value ->Sem Value) (r:R2):Prop:=
 ∀ (pins:List (Addr×Obj)) (s:Shared) (σ:St) (H:Hp) (x y:V) (v u:Value) (Q:VK),Inv X pins σ H s ->RelV x v ->RelV y u ->r x y H Q ->
  wpAny (model X.prog X.w) X.A (f v u) (EP X pins σ Q) X.xe s
def UnR (X:Cx) (f:Value ->Sem Value) (r:V ->Hp ->VK ->Prop):Prop:=
 ∀ (pins:List (Addr×Obj)) (s:Shared) (σ:St) (H:Hp) (x:V) (v:Value) (Q:VK),Inv X pins σ H s ->RelV x v ->r x H Q ->
  wpAny (model X.prog X.w) X.A (f v) (EP X pins σ Q) X.xe s
def q20 (X:Cx) (f:Value) (r:List V ->Hp ->VK ->Prop):Prop:=
 ∀ (pins:List (Addr×Obj)) (s:Shared) (σ:St) (H:Hp) (xs:List V) (us:List Value) (Q:VK),Inv X pins σ H s ->Vals xs us ->r xs H Q ->
  wpAny (model X.prog X.w) X.A (call f us) (EP X pins σ Q) X.xe s
def tOp (r:R2) (ta tb:TE):TE:=λ σ H Q=>ta σ H λ x H1=>tb σ H1 λ y H2=>r x y H2 Q
def tUn (r:V ->Hp ->VK ->Prop) (ta:TE):TE:=λ σ H Q=>ta σ H λ x H1=>r x H1 Q
def rI (C:Int ->Int ->Prop) (g:Int ->Int ->V):R2:=λ x y H Q=>∃ i j,x= .int i/\y= .int j/\C i j/\Q (g i j) H
def rI0 (g:Int ->Int ->V):R2:=λ x y H Q=>∃ i j,x= .int i/\y= .int j/\Q (g i j) H
def rU (g:Int ->V):V ->Hp ->VK ->Prop:=λ x H Q=>∃ i,x= .int i/\Q (g i) H
section
variable {X:Cx} {a b c:Expr} {ta tb tc:TE} {pos:Pos}
theorem binT (ha:PE X a ta) (hb:PE X b tb) {pins:List (Addr×Obj)} {s:Shared} {σ:St} {H:Hp} {R:V ->V ->Hp ->Prop} (I:Inv X pins σ H s)
  (h:ta σ H λ x H1=>tb σ H1 λ y H2=>R x y H2) {Q:Value ->Shared ->Prop} {f:Value ->Value ->Sem Value}
  (hf:∀ v u O x y H2,Inv X pins σ H2 O ->RelV x v ->RelV y u ->R x y H2 ->wpAny (model X.prog X.w) X.A (f v u) Q X.xe O):
  wpAny (model X.prog X.w) X.A (eval a X.env) (λ v s₁=>wpAny (model X.prog X.w) X.A (eval b X.env) (λ u s₂=>wpAny (model X.prog X.w) X.A (f v u) Q X.xe s₂) X.xe s₁) X.xe s:=by
 refine thn (ha pins s σ H _ I h) λ v s1 J=> ?_;obtain ⟨x,H1,I1,r1,q1⟩:=J;refine thn (hb pins s1 σ H1 _ I1 q1) λ u O J=> ?_;obtain ⟨y,H2,I2,r2,q2⟩:=J;exact hf v u O x y H2 I2 r1 r2 q2
theorem qf {op:Operator} {r:R2} (ho:OpR X (binaryOp op) r) (ha:PE X a ta) (hb:PE X b tb):PE X (.BinOp a op b pos) (tOp r ta tb):=by
 intro pins s σ H Q I h;exact wpAny_BinOp (binT ha hb I h λ v u s2 x y H2 I2 rx ry q=>ho pins s2 σ H2 x y v u Q I2 rx ry q)
theorem qq6 {op:UnaryOp} {r:V ->Hp ->VK ->Prop} (ho:UnR X (unaryOp op) r) (ha:PE X a ta):PE X (.UnaryOp op a pos) (tUn r ta):=by
 intro pins s σ H Q I h;exact UnaryOp_ (thn (ha pins s σ H _ I h) λ v s1 ⟨x,H1,I1,r1,q1⟩=>ho pins s1 σ H1 x v Q I1 r1 q1)
theorem opI {f:Value ->Value ->Sem Value} {C:Int ->Int ->Prop} {g:Int ->Int ->Int}
  (rule:∀ (i j:Int) (t u:Tok) (s:Shared) (Q:Value ->Shared ->Prop) (E:Value ->Shared ->Prop),C i j ->Q (.int (g i j) s.toks) {s with toks:=s.toks+1} ->wpAny (model X.prog X.w) X.A (f (.int i t) (.int j u)) Q E s):
  OpR X f (rI C λ i j=> .int (g i j)):=by
 intro pins s σ H x y v u Q I rx ry h;obtain ⟨i,j,rfl,rfl,hc,q⟩:=h;obtain ⟨t,rfl⟩:=rx;obtain ⟨t',rfl⟩:=ry;exact rule i j t t' s _ _ hc ⟨.int (g i j),H,I.tok _,⟨_,zr⟩,q⟩
theorem opI0 {f:Value ->Value ->Sem Value} {g:Int ->Int ->Int}
  (rule:∀ (i j:Int) (t u:Tok) (s:Shared) (Q:Value ->Shared ->Prop) (E:Value ->Shared ->Prop),Q (.int (g i j) s.toks) {s with toks:=s.toks+1} ->wpAny (model X.prog X.w) X.A (f (.int i t) (.int j u)) Q E s):
  OpR X f (rI0 λ i j=> .int (g i j)):=by
 intro pins s σ H x y v u Q I rx ry h;obtain ⟨i,j,rfl,rfl,q⟩:=h;obtain ⟨t,rfl⟩:=rx;obtain ⟨t',rfl⟩:=ry;exact rule i j t t' s _ _ ⟨.int (g i j),H,I.tok _,⟨_,zr⟩,q⟩
theorem opB0 {f:Value ->Value ->Sem Value} {g:Int ->Int ->Bool}
  (rule:∀ (i j:Int) (t u:Tok) (s:Shared) (Q:Value ->Shared ->Prop) (E:Value ->Shared ->Prop),Q (.bool (g i j)) s ->wpAny (model X.prog X.w) X.A (f (.int i t) (.int j u)) Q E s):
  OpR X f (rI0 λ i j=> .bl (g i j)):=by
 intro pins s σ H x y v u Q I rx ry h;obtain ⟨i,j,rfl,rfl,q⟩:=h;obtain ⟨t,rfl⟩:=rx;obtain ⟨t',rfl⟩:=ry;exact rule i j t t' s _ _ ⟨.bl (g i j),H,I,zr,q⟩
def CDiv (i j:Int):Prop:=0 < j/\j < 1073741824
def CPow (i j:Int):Prop:=0<=j/\j<=1000000/\i.natAbs < 2^64
def CMul (i j:Int):Prop:=(-(2^64) < i/\i < 2^64)\/ (-(2^64) < j/\j < 2^64)
theorem CMul.ok {i j:Int} (h:CMul i j):IntMulOk i j:=by
 rcases h with ⟨h1,h2⟩ | ⟨h1,h2⟩
 ·exact .of_left (intBits_le_64 h1 h2)
 ·exact .of_right (intBits_le_64 h1 h2)
theorem q1a:OpR X (binaryOp .Add) (rI0 λ i j=> .int (i+j)):=opI0 λ _ _ _ _ _ _ _ q=>add_int q
theorem qc3:OpR X (binaryOp .Sub) (rI0 λ i j=> .int (i - j)):=opI0 λ _ _ _ _ _ _ _ q=>sub_int q
theorem q2j:OpR X (binaryOp .Mult) (rI CMul λ i j=> .int (i*j)):=opI λ _ _ _ _ _ _ _ hc q=>mul_int q hc.ok
theorem q1t:OpR X (binaryOp .FloorDiv) (rI CDiv λ i j=> .int (i / j)):=opI λ i j _ _ _ _ _ J q=>by
 have h1:(0:Int) < j:=J.1;have h2:j < 1073741824:=J.2;exact floordiv_int (by lia) (by rw [Int.fdiv_eq_ediv_of_nonneg i (by lia)];exact q) (.inl (PyProof.noPylong_small (by lia)))
theorem q12:OpR X (binaryOp .Mod) (rI (λ _ j=>0 < j) λ i j=> .int (i%j)):=opI λ i j _ _ _ _ _ hc q=>by
 have h1:(0:Int) < j:=hc;exact mod_int' (by lia) (by rw [Int.fmod_eq_emod_of_nonneg i (by lia)];exact q)
theorem q92:OpR X (binaryOp .Pow) (rI CPow λ i j=> .int (i^j.toNat)):=opI λ _ _ _ _ _ _ _ J q=>pow_int_small J.1 J.2.1 J.2.2 q
theorem unI {f:Value ->Sem Value} {g:Int ->Int}
  (rule:∀ (i:Int) (t:Tok) (s:Shared) (Q:Value ->Shared ->Prop) (E:Value ->Shared ->Prop),Q (.int (g i) s.toks) {s with toks:=s.toks+1} ->wpAny (model X.prog X.w) X.A (f (.int i t)) Q E s):
  UnR X f (rU λ i=> .int (g i)):=by
 intro pins s σ H x v Q I rx h;obtain ⟨i,rfl,q⟩:=h;obtain ⟨t,rfl⟩:=rx;exact rule i t s _ _ ⟨.int (g i),H,I.tok _,⟨_,zr⟩,q⟩
theorem qm1:UnR X (unaryOp .USub) (rU λ i=> .int (-i)):=unI λ _ _ _ _ _ q=>neg_int q
end
def scal:V ->V ->Bool
 | .non,.non=>true | .non,.int _=>true | .int _,.non=>true | .non,.bl _=>true | .bl _,.non=>true | .non,.str _=>true | .str _,.non=>true
 | .int _,.int _=>true | .bl _,.bl _=>true | .str _,.str _=>true | .byt _,.byt _=>true
 | .int _,.str _=>true | .str _,.int _=>true | .bl _,.str _=>true | .str _,.bl _=>true
 | _,_=>false
def rEq:R2:=λ x y H Q=>scal x y=true/\Q (.bl (decide (x=y))) H
theorem qr0 {i j:Int}:decide (V.int i=V.int j)=(i==j):=by
 rw [z2k];simp
theorem qt5 {i j:Bool}:decide (V.bl i=V.bl j)=(i==j):=by
 rw [z2k];simp
theorem qr1 {i j:Str}:decide (V.str i=V.str j)=(i==j):=by
 rw [z2k];simp
theorem qr2 {i j:Array UInt8}:decide (V.byt i=V.byt j)=(i.toList==j.toList):=by
 rw [z2k];cases i
 cases j
 simp
section
variable {X:Cx} {a b c:Expr} {ta tb tc:TE} {pos:Pos}
theorem q1p {pins:List (Addr×Obj)} {σ:St} {H:Hp} {s:Shared} {Q:VK} {k k':Bool} (I:Inv X pins σ H s) (q:Q (.bl k) H) (e:k=k'):EP X pins σ Q (.bool k') s:=by
 subst e;exact ⟨.bl k,H,I,zr,q⟩
theorem q1s:OpR X (compareOp .Eq) rEq:=by
 intro pins s σ H x y v u Q I rx ry h;obtain ⟨J,q⟩:=h;cases x with
 | non=>
  cases rx
  cases y with
  | non=>cases ry;exact PySem.EqNone.eq_none_none (q1p I q (by simp))
  | bl j=>cases ry;exact PySem.EqNone.eq_none_bool (q1p I q (by simp))
  | int j=>obtain ⟨t',rfl⟩:=ry;exact PySem.EqNone.eq_none_int (q1p I q (by simp))
  | str j=>obtain ⟨t',rfl⟩:=ry;exact PySem.EqNone.eq_none_str (q1p I q (by simp))
  | _=>exact absurd (show false=true from J) z1b
 | bl i=>
  cases rx
  cases y with
  | non=>cases ry;exact PySem.EqNone.eq_bool_none (q1p I q (by simp))
  | bl j=>cases ry;exact eq_bool (q1p I q qt5)
  | str j=>obtain ⟨t',rfl⟩:=ry;exact PySem.EqMixed.eq_bool_str (q1p I q (by simp))
  | _=>exact absurd (show false=true from J) z1b
 | int i=>
  obtain ⟨t,rfl⟩:=rx;cases y with
  | non=>cases ry;exact PySem.EqNone.eq_int_none (q1p I q (by simp))
  | int j=>obtain ⟨t',rfl⟩:=ry;exact eq_int (q1p I q qr0)
  | str j=>obtain ⟨t',rfl⟩:=ry;exact PySem.EqMixed.eq_int_str (q1p I q (by simp))
  | _=>exact absurd (show false=true from J) z1b
 | str i=>
  obtain ⟨t,rfl⟩:=rx;cases y with
  | non=>cases ry;exact PySem.EqNone.eq_str_none (q1p I q (by simp))
  | bl j=>cases ry;exact PySem.EqMixed.eq_str_bool (q1p I q (by simp))
  | int j=>obtain ⟨t',rfl⟩:=ry;exact PySem.EqMixed.eq_str_int (q1p I q (by simp))
  | str j=>obtain ⟨t',rfl⟩:=ry;exact eq_str (q1p I q qr1)
  | _=>exact absurd (show false=true from J) z1b
 | byt i=>
  obtain ⟨t,rfl⟩:=rx;cases y with
  | byt j=>obtain ⟨t',rfl⟩:=ry;exact PySem.W.eq_bytes (q1p I q qr2)
  | _=>exact absurd (show false=true from J) z1b
 | _=>cases y <;> exact absurd (show false=true from J) z1b
theorem qv4:OpR X (compareOp .Lt) (rI0 λ i j=> .bl (decide (i < j))):=opB0 λ _ _ _ _ _ _ _ q=>lt_int q
theorem qq7:OpR X (compareOp .LtE) (rI0 λ i j=> .bl (decide (i<=j))):=opB0 λ _ _ _ _ _ _ _ q=>le_int q
theorem qv5:OpR X (compareOp .Gt) (rI0 λ i j=> .bl (decide (j < i))):=opB0 λ _ _ _ _ _ _ _ q=>gt_int q
theorem qv6:OpR X (compareOp .GtE) (rI0 λ i j=> .bl (decide (j<=i))):=opB0 λ _ _ _ _ _ _ _ q=>ge_int q
theorem q55:OpR X (compareOp .Is) (λ x y H Q=>y= .non/\Q (.bl (decide (x= .non))) H):=by
  intro pins s σ H x y v u Q I rx ry h;obtain ⟨rfl,q⟩:=h;cases ry
  refine is_none_gen (q1p I q ?_);cases x <;> first
    | (cases rx;rfl)
    | (obtain ⟨t,rfl⟩:=rx;rfl)
theorem qr3:OpR X (compareOp .IsNot) (λ x y H Q=>y= .non/\Q (.bl (!decide (x= .non))) H):=by
  intro pins s σ H x y v u Q I rx ry h;obtain ⟨rfl,q⟩:=h;cases ry
  refine isnot_none_gen (q1p I q ?_);cases x <;> first
    | (cases rx;rfl)
    | (obtain ⟨t,rfl⟩:=rx;rfl)
theorem qo (b:Expr) {op:CmpOp} (h:op≠ .In:=by decide) (h2:op≠ .NotIn:=by decide):behindInMarks op b=false:=by
 have e1:(op==CmpOp.In)=false:=by cases op <;> first | rfl | exact absurd rfl h
 have e2:(op==CmpOp.NotIn)=false:=by cases op <;> first | rfl | exact absurd rfl h2
 cases b <;> simp [behindInMarks,e1,e2]
theorem q30 {op:CmpOp} {r:R2} (ho:OpR X (compareOp op) r) (ha:PE X a ta) (hb:PE X b tb) (hm:behindInMarks op b=false):PE X (.Compare a [op] [b] pos) (tOp r ta tb):=by
 intro pins s σ H Q I h;exact wpAny_Compare1 (binT ha hb I h λ v u s2 x y H2 I2 rx ry q=>ho pins s2 σ H2 x y v u Q I2 rx ry q) hm
def qv7 (t:TE):TT:=λ σ H Q=>t σ H λ x H'=>∃ k,x= .bl k/\Q k H'
theorem qr {op:CmpOp} {r:R2} (ho:OpR X (compareOp op) r) (ha:PE X a ta) (hb:PE X b tb) (hm:behindInMarks op b=false):PT X (.Compare a [op] [b] pos) (qv7 (tOp r ta tb)):=by
 intro pins s σ H Q I h;refine wpAny_isTrue_Compare1 (thn (ha pins s σ H _ I h) λ v s1 ⟨x,H1,I1,r1,q1⟩=>thn (hb pins s1 σ H1 _ I1 q1) λ u s2 ⟨y,H2,I2,r2,q2⟩=>
  thn (ho pins s2 σ H2 x y v u _ I2 r1 r2 q2) λ c s3 ⟨z,H3,I3,r3,k,e,q3⟩=> ?_) hm
 subst e;cases r3
 exact z1u ⟨H3,I3,q3⟩
def qt6 (r r':R2) (ta tb tc:TE):TE:=λ σ H Q=>ta σ H λ x H1=>tb σ H1 λ y H2=>r x y H2 λ z H3=>∃ k,z= .bl k/\
 (if k=true then tc σ H3 λ w' H4=>r' y w' H4 Q else Q (.bl false) H3)
theorem qoa {op J:CmpOp} {r U:R2} (ho:OpR X (compareOp op) r) (O:OpR X (compareOp J) U) (ha:PE X a ta) (hb:PE X b tb) (hc:PE X c tc)
  (hm:lastMarks [op,J] [b,c]=false:=by with_unfolding_all rfl):PE X (.Compare a [op,J] [b,c] pos) (qt6 r U ta tb tc):=by
 intro pins s σ H Q I h;refine Compare_chain (thn (ha pins s σ H _ I h) λ v s1 ⟨x,H1,I1,r1,q1⟩=>chain_link (thn (hb pins s1 σ H1 _ I1 q1) λ u s2 ⟨y,H2,I2,r2,q2⟩=>
  thn (ho pins s2 σ H2 x y v u _ I2 r1 r2 q2) λ d s3 ⟨z,H3,I3,r3,k,e,q3⟩=> ?_)) hm
 subst e;cases r3
 refine z1u ?_;cases k with
 | false=>exact ite_ff ⟨.bl false,H3,I3,rfl,q3⟩
 | true=>exact ite_tt (chain_last (thn (hc pins s3 σ H3 _ I3 q3) λ w' s4 ⟨z',H4,I4,r4,q4⟩=>O pins s4 σ H4 y z' u w' Q I4 r2 r4 q4))
theorem qc4:(sizeLine:Nat) < 2^63:=by rw [sizeLine_eq];decide
theorem qc5:OpR X (binaryOp .Add) (λ x y H Q=>∃ i j,x= .str i/\y= .str j/\i.length+j.length<=sizeLine/\Q (.str (i++j)) H):=by
 intro pins s σ H x y v u Q I rx ry h;obtain ⟨i,j,rfl,rfl,hz,q⟩:=h;obtain ⟨t,rfl⟩:=rx;obtain ⟨t',rfl⟩:=ry;exact add_str (λ t' tk=>⟨.str (i++j),H,I.tok _,⟨_,zr⟩,q⟩) hz
theorem q2b {x:V} {us:List Value} (r:Vals [x] us):∃ u,us=[u]/\RelV x u:=by
 cases r with
 | cons r1 r2=>cases r2;exact ⟨_,rfl,r1⟩
theorem qgn {x y:V} {us:List Value} (r:Vals [x,y] us):∃ u J,us=[u,J]/\RelV x u/\RelV y J:=by
 cases r with
 | cons r1 r2=>
  cases r2 with
  | cons r3 r4=>cases r4;exact ⟨_,_,rfl,r1,r3⟩
theorem qm2 (hc:X.calm=true):q20 X (.builtin "max") (λ xs H Q=>∃ i j,xs=[.int i,.int j]/\Q (.int (if j > i then j else i)) H):=by
 intro pins s σ H xs us Q I r h;obtain ⟨i,j,rfl,q⟩:=h;obtain ⟨u,w',rfl,⟨t,rfl⟩,⟨t',rfl⟩⟩:=qgn r;refine max_two_ints (I.ok.hd hc) λ h' tk k=>⟨_,H,I.kept k,?_,q⟩;by_cases J:j > i
 ·rw [if_pos J,if_pos J];exact ⟨_,rfl⟩
 ·rw [if_neg J,if_neg J];exact ⟨_,rfl⟩
theorem qeu (hc:X.calm=true):q20 X (.builtin "min") (λ xs H Q=>∃ i j,xs=[.int i,.int j]/\Q (.int (if j < i then j else i)) H):=by
 intro pins s σ H xs us Q I r h;obtain ⟨i,j,rfl,q⟩:=h;obtain ⟨u,w',rfl,⟨t,rfl⟩,⟨t',rfl⟩⟩:=qgn r;refine min_two_ints (I.ok.hd hc) λ h' tk k=>⟨_,H,I.kept k,?_,q⟩;by_cases J:j < i
 ·rw [if_pos J,if_pos J];exact ⟨_,rfl⟩
 ·rw [if_neg J,if_neg J];exact ⟨_,rfl⟩
theorem qev:q20 X (.type "int") (λ xs H Q=>(∃ i,xs=[.int i]/\Q (.int i) H)\/ ∃ k,xs=[.bl k]/\Q (.int (if k then 1 else 0)) H):=by
 intro pins s σ H xs us Q I r h;rcases h with ⟨i,rfl,q⟩ | ⟨k,rfl,q⟩
 ·obtain ⟨u,rfl,t,rfl⟩:=q2b r;exact call_int_int ⟨.int i,H,I,⟨_,zr⟩,q⟩
 ·obtain ⟨u,rfl,r1⟩:=q2b r;cases r1
  exact call_int_bool ⟨.int (if k then 1 else 0),H,I.tok _,⟨_,zr⟩,q⟩
def LenV (K:PySem.W.Frag) (x:V) (H:Hp) (n:Nat):Prop:=
 match x with
 | .str y=>y.length<=sizeLine/\n=y.length
 | .byt y=>y.size<=sizeLine/\n=y.size
 | .ref p=>(∃ xs,SqL K H p xs/\n=xs.length)\/ ∃ xs,SqT K H p xs/\n=xs.length
 | _=>False
theorem qob:q20 X (.builtin "len") (λ xs H Q=>∃ x n,xs=[x]/\LenV X.K x H n/\Q (.int n) H):=by
 intro pins s σ H xs us Q I r h;obtain ⟨x,n,rfl,e,q⟩:=h;obtain ⟨u,rfl,rx⟩:=q2b r;have hl:=qc4;have hs:sizeLine=16777216:=sizeLine_eq;cases x with
 | str y=>
  obtain ⟨t,rfl⟩:=rx;obtain ⟨hy,e'⟩:y.length<=sizeLine/\n=y.length:=e;subst e';exact len_str (by lia) ⟨.int _,H,I.tok _,⟨_,zr⟩,q⟩
 | byt y=>
  obtain ⟨t,rfl⟩:=rx;obtain ⟨hy,e'⟩:y.size<=sizeLine/\n=y.size:=e;subst e';exact PySem.W.len_bytes (by lia) ⟨.int _,H,I.tok _,⟨_,zr⟩,q⟩
 | ref p=>
  cases rx
  have e':(∃ xs,SqL X.K H p xs/\n=xs.length)\/ ∃ xs,SqT X.K H p xs/\n=xs.length:=e;rcases e' with ⟨xs,hx,e'⟩ | ⟨xs,hx,e'⟩
  ·subst e';obtain ⟨its,O,pl,hz⟩:=I.list hx;have J:=O.length;exact Calls.call_len_list pl.isList (by simp only [z1t];lia) ⟨.int xs.length,H,I.tok _,⟨_,by simp only [z1t];rw [J]⟩,q⟩
  ·subst e';obtain ⟨its,O,pl,hz⟩:=I.tuple hx;have J:=O.length;exact len_tuple pl (by simp only [z1t];lia) ⟨.int xs.length,H,I.tok _,⟨_,by simp only [z1t];rw [J]⟩,q⟩
 | _=>exact (show False from e).elim
end
structure ObjM (h:Heap) (x dx C:Addr) (mA:Str ->Option Value):Prop where
 obj:h.get? x=some (PySem.W.instObj C dx)
 ns:h.Ns1 dx mA
 ne:dx≠x
theorem qm3 {h:Heap} {dx:Addr} {mA:Str ->Option Value} (n:h.Ns1 dx mA):∃ J,h.get? dx=some J/\∀ name,PySem.W.lookIn name J=some (mA name):=by
 obtain ⟨o,es,ep,ho,hd,hk,_,hm⟩:=n;refine ⟨o,ho,λ name=> ?_⟩;have e:=hm name;unfold nsFind findBy at e;rw [<- Array.find?_toList] at e;unfold PySem.W.lookIn;rw [hd]
 dsimp only
 split
 ·rename_i y q;rw [q] at e;exact congrArg some e
 ·rename_i q;rw [q] at e;have a:es.toList.any (·.refKey)=false:=by
   rw [List.any_eq_false];intro y hy;obtain ⟨z,t,hkey⟩:=hk y (Array.mem_toList_iff.mp hy);simp [DictEntry.refKey,hkey]
  have a':¬ es.toList.any (·.refKey)=true:=by rw [a];exact z1b
  rw [if_neg a'];exact congrArg some e
theorem ObjM.look {h:Heap} {x dx C:Addr} {mA:Str ->Option Value} (I:ObjM h x dx C mA):∃ J,PySem.W.InstAt h x (PySem.W.instObj C dx) C (some J)/\∀ name,PySem.W.lookIn name J=some (mA name):=
 let ⟨J,ho,hl⟩:=qm3 I.ns
 ⟨J,⟨I.obj,rfl,rfl,ho⟩,hl⟩
section
variable {prog:Program} {w:World} {A:Around} {E:Value ->Shared ->Prop} {s:Shared} {K:PySem.W.Frag} {x dx C f:Addr} {mA:Str ->Option Value} {name:Str} {v:Value}
theorem qr4 {O:Bool} {Q:Value ->Shared ->Prop} (X:K.In s.heap) (I:ObjM s.heap x dx C mA) (hg:PySem.W.plainGet K C name=true) (hh:PySem.W.hasDictIn K C=true)
  (ha:PySem.W.findIn K (.ref C) name=some none) (hv:mA name=some v) (U:PySem.W.handedIn v=true) (h:Q v {s with toks:=s.toks+1}):
  wpAny (model prog w) A (getAttr (.ref x) name O) Q E s:=by
 obtain ⟨od,J,hl⟩:=I.look;exact PySem.W.get_value X J (PySem.W.plainGet_of hg).1 (PySem.W.findObj_own hh ha rfl (by rw [hl,hv])) U h
theorem qoc {pl:Sem Bool} {Q:Value×List Value ->Shared ->Prop} (X:K.In s.heap) (I:ObjM s.heap x dx C mA) (O:PySem.W.plainGet K C name=true)
  (hf:PySem.W.findIn K (.ref C) name=some (some (.ref f))) (ht:PySem.W.isFn K (.ref f)=true) (hv:mA name=none) (h:Q (.ref f,[.ref x]) s):
  wpAny (model prog w) A (getMethod (.ref x) name pl) Q E s:=by
 obtain ⟨od,J,hl⟩:=I.look;exact PySem.W.method_fn X J (PySem.W.plainGet_of O).1 (PySem.W.plainGet_of O).2 hf (beq_iff_eq.mp ht) (by show (PySem.W.lookIn name od).map (·.isSome)=some false;rw [hl,hv];rfl) h
theorem qr5 {ns:List Str} {Q:Unit ->Shared ->Prop} (X:K.In s.heap) (I:ObjM s.heap x dx C mA)
  (hs:PySem.W.findIn K (.ref C) "__setattr__"=some (some (.builtin "object.__setattr__"))) (hp:PySem.W.plainOver K C=true) (ht:PySem.W.takerIn K C name=some none) (hh:PySem.W.hasDictIn K C=true)
  (hw:PySem.Within mA ns) (hsz:ns.length<=sizeLine)
  (h:∀ h',ObjM h' x dx C (λ y=>if y=name then some v else mA y) ->Heap.SameBut dx s.heap h' ->Q () {s with heap:=h',toks:=s.toks+2}):
  wpAny (model prog w) A (setAttr (.ref x) name v) Q E s:=by
 obtain ⟨od,J,hl⟩:=I.look;refine PySem.W.set_plain X J hs (PySem.W.osa_open (s:={s with toks:=s.toks+1}) (r:=none) X J hp ht λ b=> ?_);obtain ⟨cd,hc,Z⟩:=PySem.W.any_some hh;have hx:s.heap.get? x=some ⟨.ref C,some dx,.plain,#[]⟩:=I.obj;refine z3v (z3u (z3v (z3v (wpAny_loadPart hx (z3v (PySem.W.Looks.here (s:={s with toks:=s.toks+1}) (PySem.W.looks_clsIn X hc) ?_))))));rw [Z];refine z3u (a:=some dx) (z3v (z3u (z3v ?_)));refine wpAny_nsSet1 (s:={s with toks:=s.toks+1}) I.ns λ h' O U=> ?_;obtain ⟨oD,esD,epD,a2,a1,Y⟩:=O.count (PySem.Within.cons name v hw);refine z3v (wpAny_lookBehind a2 (by rw [a1];exact pastItsLine_dict (z3i Y (by rw [z24];lia))) ?_);exact z3u (h _ ⟨(U.2 _ (Ne.symm I.ne)).trans I.obj,O,I.ne⟩ U)
theorem qod {R:Result ->Shared ->Prop} {vs:List Value} {J:List (Str×Value)} (X:K.In s.heap) (hm:PySem.W.makesIn K C=true)
  (hi:PySem.W.findIn K (.ref C) "__init__"=some (some (.ref f))) (hf:PySem.W.typeIn K (.ref f)=some (.type "function"))
  (h:codeAny (model prog w) (A.under (.builtin "type.__call__" ⟨.ref C::vs,J⟩)) (.call (.ref f) ⟨.ref (s.heap.objs.size+1)::vs,J⟩) (PySem.W.InitBack (s.heap.objs.size+1) R)
   {s with heap:=(s.heap.push PySem.W.emptyDict).push (PySem.W.instObj C s.heap.objs.size)}):
  codeAny (model prog w) A (.call (.ref C) ⟨vs,J⟩) R s:=by
 obtain ⟨hh,g,d,t,os⟩:=s;exact PySem.W.make_core (PySem.W.makes_of X hm) (PySem.W.looks_findIn X hi) (λ self=>PySem.W.bind_fn X self hf) (.inl rfl) h
theorem qm4 {R:Result ->Shared ->Prop} (X:K.In s.heap) (hm:PySem.W.makesIn K C=true)
  (hi:PySem.W.findIn K (.ref C) "__init__"=some (some (.builtin "object.__init__")))
  (hb:∀ self,PySem.W.Looks (model prog w) s.heap (bindSpecial (.builtin "object.__init__") self) (.builtin "object.__init__",[self]))
  (h:codeAny (model prog w) (A.under (.builtin "type.__call__" ⟨[.ref C],[]⟩)) (.call (.builtin "object.__init__") ⟨[.ref (s.heap.objs.size+1)],[]⟩) (PySem.W.InitBack (s.heap.objs.size+1) R)
   {s with heap:=(s.heap.push PySem.W.emptyDict).push (PySem.W.instObj C s.heap.objs.size)}):
  codeAny (model prog w) A (.call (.ref C) ⟨[],[]⟩) R s:=by
 obtain ⟨hh,g,d,t,os⟩:=s;exact PySem.W.make_core (PySem.W.makes_of X hm) (PySem.W.looks_findIn X hi) hb (.inr ⟨zr,zr⟩) h
end
def putF (f:Str) (v:V):List (Str×V) ->List (Str×V)
 | []=>[(f,v)]
 | (g,x)::r=>if g=f then (g,v)::r else (g,x)::putF f v r
theorem qag (f g:Str) (v:V):∀ fs:List (Str×V),(putF f v fs).lookup g=if g=f then some v else fs.lookup g
  | []=>by
    show List.lookup g [(f,v)]=_;by_cases h:g=f
    · have hb:(g==f)=true:=beq_iff_eq.mpr h
      simp only [List.lookup,hb,if_pos h]
    · have hb:(g==f)=false:=beq_eq_false_iff_ne.mpr h
      simp only [List.lookup,hb,if_neg h]
  | (k,x)::r=>by
    have ih:=qag f g v r;rw [show putF f v ((k,x)::r)=(if k=f then (k,v)::r else (k,x)::putF f v r) from rfl];by_cases J:k=f
    · rw [if_pos J]
      by_cases h:g=k
      · have hb:(g==k)=true:=beq_iff_eq.mpr h
        simp only [List.lookup,hb,if_pos (h.trans J)]
      · have hb:(g==k)=false:=beq_eq_false_iff_ne.mpr h
        simp only [List.lookup,hb,if_neg (λ e:g=f=>h (e.trans J.symm))]
    · rw [if_neg J]
      by_cases h:g=k
      · have hb:(g==k)=true:=beq_iff_eq.mpr h
        simp only [List.lookup,hb,if_neg (λ e:g=f=>J (h.symm.trans e))]
      · have hb:(g==k)=false:=beq_eq_false_iff_ne.mpr h
        simp only [List.lookup,hb];exact ih
theorem q93 (f:Str) (v:V):∀ fs:List (Str×V),f∈(putF f v fs).map (·.1)/\∀ g,g∈fs.map (·.1) ->g∈(putF f v fs).map (·.1)
  | []=>⟨by simp [putF],λ g h=>by simp at h⟩
  | (k,x)::r=>by
    obtain ⟨i1,i2⟩:=q93 f v r;rw [show putF f v ((k,x)::r)=(if k=f then (k,v)::r else (k,x)::putF f v r) from rfl];by_cases J:k=f
    · rw [if_pos J]
      subst J;exact ⟨by simp,λ g h=>by simpa using h⟩
    · rw [if_neg J]
      refine ⟨?_,λ g h=> ?_⟩
      · rw [z33]
        exact z0z _ i1
      · rw [z33] at h ⊢
        rcases z35.mp h with e | e
        · exact z35.mpr (.inl e)
        · exact z0z _ (i2 g e)
theorem qah (f:Str) (v:V):∀ fs:List (Str×V),(putF f v fs).length<=fs.length+1
  | []=>by simp [putF]
  | (k,x)::r=>by
    have ih:=qah f v r;rw [show putF f v ((k,x)::r)=(if k=f then (k,v)::r else (k,x)::putF f v r) from rfl];by_cases J:k=f
    · rw [if_pos J,z24,z24];lia
    · rw [if_neg J,z24,z24];lia
theorem RelO.q7k {v:V} {o:Option Value} (r:RelO (some v) o):∃ u,o=some u/\RelV v u:=by
 cases o with
 | none=>exact (show False from r).elim
 | some u=>exact ⟨u,rfl,r⟩
theorem RelO.qr6 {o:Option Value} (r:RelO none o):o=none:=by
 cases o with
 | none=>rfl
 | some u=>exact (show False from r).elim
theorem qm5 {v:V} {u:Value} (r:RelV v u):PySem.W.handedIn u=true:=by
 cases v with
 | non=>cases (show u=Value.none from r);rfl
 | bl b=>cases (show u=Value.bool b from r);rfl
 | int i=>obtain ⟨t,e⟩:=(show ∃ t,u=Value.int i t from r);cases e;rfl
 | str x=>obtain ⟨t,e⟩:=(show ∃ t,u=Value.str x t from r);cases e;rfl
 | byt b=>obtain ⟨t,e⟩:=(show ∃ t,u=Value.bytes b t from r);cases e;rfl
 | flt b=>obtain ⟨t,e⟩:=(show ∃ t,u=Value.float b t from r);cases e;rfl
 | ref a=>cases (show u=Value.ref a from r);rfl
 | ty n=>cases (show u=Value.type n from r);rfl
section
variable {P:Program} {w:World} {H H':Hp} {h h':Heap} {a C dx:Addr} {fs fs':List (Str×V)}
theorem qd9 (hok:HOk P w H h) (e:H a=some (.ins C dx fs)):∃ mA,ObjM h a dx C mA/\(∀ f,RelO (fs.lookup f) (mA f))/\PySem.Within mA (fs.map (·.1))/\fs.length<=1000/\H dx=some (.own a):=by
 obtain ⟨d,z,ne,ob,mA,n,r,q⟩:=(show ObjOk P w H h a (.ins C dx fs) from hok a _ e);exact ⟨mA,⟨ob,n,ne⟩,r,q,z,d⟩
end
structure Cls (K:PySem.W.Frag) (C:Addr):Prop where
 pg:PySem.W.plainGet K C Str.empty=true
 hd:PySem.W.hasDictIn K C=true
 po:PySem.W.plainOver K C=true
 sa:PySem.W.findIn K (.ref C) "__setattr__"=some (some (.builtin "object.__setattr__"))
theorem Cls.get {K:PySem.W.Frag} {C:Addr} (c:Cls K C) (f:Str):PySem.W.plainGet K C f=true:=c.pg
def NoAttr (K:PySem.W.Frag) (C:Addr) (f:Str):Prop:=PySem.W.findIn K (.ref C) f=some none
theorem NoAttr.taker {K:PySem.W.Frag} {C:Addr} {f:Str} (n:NoAttr K C f):PySem.W.takerIn K C f=some none:=by
 unfold PySem.W.takerIn;rw [show PySem.W.findIn K (.ref C) f=some none from n];rfl
structure Meth (K:PySem.W.Frag) (C:Addr) (m:Str) (f:Addr):Prop where
 at_:PySem.W.findIn K (.ref C) m=some (some (.ref f))
 fn:PySem.W.isFn K (.ref f)=true
 kp:PySem.W.keepIn K (.ref f)=true
section
variable {X:Cx} {pins:List (Addr×Obj)} {σ:St} {H:Hp} {s:Shared} {a C dx:Addr} {fs:List (Str×V)} {f:Str} {v:V} {A:Around} {E:Value ->Shared ->Prop}
theorem qkp {b:Bool} {Q:Value ->Shared ->Prop} (I:Inv X pins σ H s) (e:H a=some (.ins C dx fs)) (c:Cls X.K C) (n:NoAttr X.K C f) (l:fs.lookup f=some v)
  (h:∀ u s',Inv X pins σ H s' ->RelV v u ->Q u s'):wpAny (model X.prog X.w) A (getAttr (.ref a) f b) Q E s:=by
 obtain ⟨mA,O,r,_,_,_⟩:=qd9 I.hok e;obtain ⟨u,hu,J⟩:=RelO.q7k (v:=v) (o:=mA f) (by rw [<- l];exact r f);exact qr4 I.kIn O (c.get f) c.hd n hu (qm5 J) (h u _ (I.tok _) J)
theorem q61 {m:Str} {g:Addr} {pl:Sem Bool} {Q:Value×List Value ->Shared ->Prop} (I:Inv X pins σ H s) (e:H a=some (.ins C dx fs)) (c:Cls X.K C) (k:Meth X.K C m g) (l:fs.lookup m=none)
  (h:Q (.ref g,[.ref a]) s):wpAny (model X.prog X.w) A (getMethod (.ref a) m pl) Q E s:=by
 obtain ⟨mA,O,r,_,_,_⟩:=qd9 I.hok e;have hn:mA m=none:=RelO.qr6 (by rw [<- l];exact r m);exact qoc I.kIn O (c.get m) k.at_ k.fn hn h
theorem qkq {y:V} {u:Value} {Q:Unit ->Shared ->Prop} (I:Inv X pins σ H s) (e:H a=some (.ins C dx fs)) (c:Cls X.K C) (n:NoAttr X.K C f) (hl:fs.length < 1000) (ry:RelV y u)
  (h:∀ s',Inv X pins σ (upd H a (.ins C dx (putF f y fs))) s' ->Q () s'):wpAny (model X.prog X.w) A (setAttr (.ref a) f u) Q E s:=by
 obtain ⟨mA,O,r,wi,_,ho⟩:=qd9 I.hok e;have hz:(fs.map (·.1)).length<=sizeLine:=by rw [z2l,sizeLine_eq];lia
 refine qr5 I.kIn O c.sa c.po n.taker c.hd wi hz λ h' J sb=>h _ ?_;have hd:∃ o,h'.get? dx=some o:=let ⟨o,_,_,e',_⟩:=J.ns;⟨o,e'⟩
 refine I.write (x:=a) (e:=dx) (by rw [e];exact True.intro) (.inr ho) (λ b q hb z=>(sb.2 b hb).trans z) hd ?_;refine ⟨by rw [qh O.ne];exact ho,?_,O.ne,J.obj,_,J.ns,λ g=> ?_,λ g hg=> ?_⟩
 ·have:=qah f y fs;lia
 ·show RelO ((putF f y fs).lookup g) (if g=f then some u else mA g);rw [qag];by_cases q:g=f
  ·rw [if_pos q,if_pos q];exact ry
  ·rw [if_neg q,if_neg q];exact r g
 ·by_cases q:g=f
  ·rw [q];exact (q93 f y fs).1
  ·refine (q93 f y fs).2 g (wi g λ z=>hg ?_);show (if g=f then some u else mA g)=none;rw [if_neg q];exact z
theorem Inv.made (I:Inv X pins σ H s):Inv X pins σ (upd (upd H s.heap.objs.size (.own (s.heap.objs.size+1))) (s.heap.objs.size+1) (.ins C s.heap.objs.size []))
  {s with heap:=(s.heap.push PySem.W.emptyDict).push (PySem.W.instObj C s.heap.objs.size)}:=by
 have e1:(s.heap.push PySem.W.emptyDict).get? s.heap.objs.size=some PySem.W.emptyDict:=z15 s.heap rfl;have e2:((s.heap.push PySem.W.emptyDict).push (PySem.W.instObj C s.heap.objs.size)).get? (s.heap.objs.size+1)=some (PySem.W.instObj C s.heap.objs.size):=by
  have:=z15 (s.heap.push PySem.W.emptyDict) (o:=PySem.W.instObj C s.heap.objs.size) rfl
  rwa [z2z] at this
 have e3:(s.heap.push PySem.W.emptyDict).Ns s.heap.objs.size (λ _=>none):=⟨PySem.W.emptyDict,#[],_,e1,rfl,(λ e he=>absurd he (by simp)),λ _=>rfl⟩;have I1:=I.laid (a:=s.heap.objs.size) (o:= .own (s.heap.objs.size+1)) (h':=s.heap.push PySem.W.emptyDict) (t':=s.toks) (λ b u q=>z0j _ q) (z3p _) ⟨_,e1⟩;refine I1.laid (a:=s.heap.objs.size+1) (o:= .ins C s.heap.objs.size []) (t':=s.toks) (λ b u q=>z0j _ q) (Nat.le_of_eq (z2z _ _)) ?_;have ne:s.heap.objs.size≠s.heap.objs.size+1:=z3h (z27 _);refine ⟨by rw [qh ne,q5],z3s _,ne,e2,λ _=>none,(Heap.Ns1.of_empty e3).at λ o q=>z0j _ q,λ _=>True.intro,λ y hy=>absurd rfl hy⟩
theorem qr7 {prog:Program} {w:World} {env:Env} {e:Expr} {f:Str} {pos:Pos} {s:Shared} {Q:Value ->Shared ->Prop} (hb:attributeBase e f env (eval e env)=eval e env)
  (h:wpAny (model prog w) A (eval e env) (λ o s₁=>wpAny (model prog w) A (getAttr o f true) Q E s₁) E s):wpAny (model prog w) A (eval (.Attribute e f pos) env) Q E s:=
 Attribute_any_ h (by rw [arm_eval_Attribute,hb])
end
def tFld (K:PySem.W.Frag) (ta:TE) (f:Str):TE:=λ σ H Q=>ta σ H λ x H1=>∃ a C dx fs v,x= .ref a/\H1 a=some (.ins C dx fs)/\Cls K C/\NoAttr K C f/\fs.lookup f=some v/\Q v H1
def sFld (K:PySem.W.Frag) (ta tv:TE) (f:Str):TS:=λ D σ H=>tv σ H λ y H1=>ta σ H1 λ x H2=>∃ a C dx fs,x= .ref a/\H2 a=some (.ins C dx fs)/\Cls K C/\NoAttr K C f/\fs.length < 1000/\
 D.nx σ (upd H2 a (.ins C dx (putF f y fs)))
section
variable {X:Cx} {o e value:Expr} {f:Str} {pos pos' tpos:Pos} {ta tv:TE}
theorem q1i (he:PE X e ta) (hb:attributeBase e f X.env (eval e X.env)=eval e X.env):PE X (.Attribute e f pos) (tFld X.K ta f):=by
 intro pins s σ H Q I h;refine qr7 hb (thn (he pins s σ H _ I h) λ u s1 J=> ?_);obtain ⟨x,H1,I1,rx,a,C,dx,fs,v,ex,ea,c,n,l,q⟩:=J;subst ex;obtain rfl:u=Value.ref a:=rx;exact qkp I1 ea c n l λ u' s2 I2 ru=>⟨v,H1,I2,ru,q⟩
theorem q7l (ha:PE X o ta) (hv:PE X value tv) (hs:swapsWith value (some (.Attribute o f pos')) pos.line X.env=pure false):PS X (.Assign [.Attribute o f pos'] value pos) (sFld X.K ta tv f):=by
 intro pins s σ H D I h;refine plainObj_wpAny_Assign_Attribute (thn (hv pins s σ H _ I h) λ u s1 ⟨y,H1,I1,ry,q⟩=>thn (ha pins s1 σ H1 _ I1 q) λ ov s2 J=> ?_) hs;obtain ⟨x,H2,I2,rx,a,C,dx,fs,ex,ea,c,n,l,q2⟩:=J;subst ex;obtain rfl:ov=Value.ref a:=rx;exact qkq I2 ea c n l ry λ s3 I3=>⟨σ,_,I3,q2⟩
end
section
variable {X:Cx} {pins:List (Addr×Obj)} {σ:St} {H:Hp} {s:Shared} {A:Around} {E:Value ->Shared ->Prop} {Q:Value ->Shared ->Prop} {c:Value} {b:Bool}
end
structure Room (k:Nat) (A:Around):Prop where
 hd:A.handled=none
 dp:A.depth+3*k+5 < recursionLimit
 un:A.units+16*k+200 < cLine
theorem Room.mono {j k:Nat} {A:Around} (r:Room k A) (h:j<=k):Room j A:=⟨r.hd,by have:=r.dp;lia,by have:=r.un;lia⟩
theorem Room.deeper {k:Nat} {A:Around} (r:Room (k+1) A) (env:Env):Room k (A.deeper env):=
 ⟨r.hd,by have:=r.dp;show A.depth+1+3*k+5 < _;lia,by have:=r.un;show A.units+3+16*k+200 < _;lia⟩
theorem Room.in1 {k:Nat} {A:Around} (r:Room (k+1) A):Room k A.in1:=
 ⟨r.hd,by have:=r.dp;show A.depth+3*k+5 < _;lia,by have:=r.un;show A.units+1+16*k+200 < _;lia⟩
theorem qkr {A:Around} {C:Addr} {us:List Value} {kw:List (Str×Value)}:(A.under (.builtin "type.__call__" ⟨.ref C::us,kw⟩)).depth=A.depth+1:=by
 first | rfl | simp [Around.under,Code.weight,Code.isCreation,Code.isGuard,Code.isCaller,Code.frames,Code.isFrame,guardIds]
theorem qks {A:Around} {C:Addr} {us:List Value} {kw:List (Str×Value)}:(A.under (.builtin "type.__call__" ⟨.ref C::us,kw⟩)).units=A.units+1:=by
 first | rfl | simp [Around.under,Code.cUnits,Code.frames,Code.isFrame]
theorem Room.make {k:Nat} {A:Around} (r:Room (k+1) A) (C:Addr) (us:List Value) (kw:List (Str×Value)):Room k (A.under (.builtin "type.__call__" ⟨.ref C::us,kw⟩)):=
 ⟨r.hd,by have:=r.dp;rw [qkr];lia,by have:=r.un;rw [qks];lia⟩
theorem Room.depth {k:Nat} {A:Around} (r:Room k A):A.depth < recursionLimit:=by have:=r.dp;lia
theorem Room.units {k:Nat} {A:Around} (r:Room k A):A.units+64 < cLine:=by have:=r.un;lia
def tNil:TA:=λ _ H Q=>Q [] H
def q1q (ta:TE) (tr:TA):TA:=λ σ H Q=>ta σ H λ x H1=>tr σ H1 λ xs H2=>Q (x::xs) H2
section
variable {X:Cx} {e:Expr} {es:List Expr} {te:TE} {t:TA} {pos:Pos}
theorem q2k:PA X [] tNil:=λ _ _ _ _ H Q I h=>Calls.spliced_nil ⟨[],H,I,.nil,h⟩
theorem qr8 (ha:PE X e te) (hr:PA X es t) (hs:starEach (e::es) X.env=(false,eval e X.env)::starEach es X.env:=by rfl):PA X (e::es) (q1q te t):=by
 intro pos pins s σ H Q I h;rw [hs];show wpAny _ _ (spliced ((false,eval e X.env)::backTo pos (starEach es X.env))) _ _ s;refine Calls.spliced_cons (thn (ha pins s σ H _ I h) λ u s1 J=> ?_);obtain ⟨x,H1,I1,r1,q1⟩:=J;exact thn (hr pos pins s1 σ H1 _ I1 q1) λ us s2 ⟨xs,H2,I2,r2,q2⟩=>⟨x::xs,H2,I2,.cons r1 r2,q2⟩
def tTup (t:TA):TE:=λ σ H Q=>t σ H λ xs H1=>xs.length<=sizeLine/\∀ p,H1 p=none ->Q (.ref p) (upd H1 p (.tup xs))
def tLst (t:TA):TE:=λ σ H Q=>t σ H λ xs H1=>xs.length<=sizeLine/\∀ p,H1 p=none ->Q (.ref p) (upd H1 p (.lst xs))
theorem q1x {x1} (h:PA X es t):PE X (.Tuple es x1 pos) (tTup t):=by
 intro pins s σ H Q I hq;refine wpAny_Tuple_spliced (thn (h pos pins s σ H _ I hq) λ us s1 ⟨xs,H1,I1,r,z,q⟩=>⟨by rw [<- r.length];exact z,?_⟩);have hf:H1 s1.heap.objs.size=none:=I1.hok.fresh (z3p _);refine ⟨.ref s1.heap.objs.size,upd H1 s1.heap.objs.size (.tup xs),I1.laid (t':=s1.toks) (λ b u e=>z0j _ e) (z3p _) ?_,zr,q _ hf⟩;exact ⟨z,us,r,⟨_,z15 _ rfl,zr,_,zr⟩⟩
theorem q1n (h:PA X es t):PE X (.List es pos) (tLst t):=by
 intro pins s σ H Q I hq;refine wpAny_List_spliced (thn (h pos pins s σ H _ I hq) λ us s1 ⟨xs,H1,I1,r,z,q⟩=>⟨by rw [<- r.length];exact z,?_⟩);have hf:H1 s1.heap.objs.size=none:=I1.hok.fresh (z3p _);refine ⟨.ref s1.heap.objs.size,upd H1 s1.heap.objs.size (.lst xs),I1.laid (t':=s1.toks) (λ b u e=>z0j _ e) (z3p _) ?_,zr,q _ hf⟩;exact ⟨z,us,0,r,z15 _ rfl⟩
end
abbrev Sp:=List V ->Hp ->VK ->XK ->Prop
abbrev CXT:=List Env ->Hp ->Shared ->XK ->Value ->Shared ->Prop
structure Env0 (P:Program) (w:World) (K:PySem.W.Frag) (mg:Str ->Option Value) (base:Heap) (A:Around) (outer:List Env) (s:Shared) (H:Hp):Prop where
 frames:A.frames=some outer
 mod:Mod K mg base
 bs:∀ b o,base.get? b=some o ->s.heap.get? b=some o/\H b=none
 bsz:base.objs.size<=s.heap.objs.size
 funs:s.heap.FunFrames base outer
 frf:∀ b∈frs outer,H b=none
 hok:HOk P w H s.heap
 bare:AllBare s.gens
def CE (outer:List Env) (P:Program) (w:World) (H:Hp) (s:Shared) (Q:VK) (u:Value) (s':Shared):Prop:=
 ∃ v H',s'.os=s.os/\AllBare s'.gens/\Un (frs outer) [] H H' s.heap s'.heap/\HOk P w H' s'.heap/\RelV v u/\Q v H'
def CR (CX:CXT) (outer:List Env) (P:Program) (w:World) (H:Hp) (s:Shared) (Q:VK) (E:XK) (r:Result) (s':Shared):Prop:=
 match r with
 | .ok (.ret u)=>CE outer P w H s Q u s'
 | .ok _=>False
 | .error e=>CX outer H s E e s'
structure FnOk (P:Program) (w:World) (K:PySem.W.Frag) (mg:Str ->Option Value) (base:Heap) (CX:CXT) (k:Nat) (f:Addr) (fd:FuncData) (ps:List Str) (sp:Sp):Prop where
 len:∀ vs H Q E,sp vs H Q E ->vs.length=ps.length
 run:∀ (A:Around) (outer:List Env) (s:Shared) (H:Hp) (args:Args) (us:List Value) (vs:List V) (Q:VK) (E:XK),Room k A ->Env0 P w K mg base A outer s H ->BindsTo s fd args (ps.zip us) ->Vals vs us ->sp vs H Q E ->
  codeAny (model P w) A (.call (.ref f) args) (CR CX outer P w H s Q E) s
theorem FnOk.mono {P:Program} {w:World} {K:PySem.W.Frag} {mg:Str ->Option Value} {base:Heap} {CX:CXT} {j k:Nat} {f:Addr} {fd:FuncData} {ps:List Str} {sp:Sp} (F:FnOk P w K mg base CX j f fd ps sp) (h:j<=k):
  FnOk P w K mg base CX k f fd ps sp:=⟨F.len,λ A outer s H args us vs Q E hr=>F.run A outer s H args us vs Q E (hr.mono h)⟩
theorem FnOk.imp {P:Program} {w:World} {K:PySem.W.Frag} {mg:Str ->Option Value} {base:Heap} {CX:CXT} {k:Nat} {f:Addr} {fd:FuncData} {ps:List Str} {sp J:Sp} (F:FnOk P w K mg base CX k f fd ps sp)
  (h:∀ vs H Q E,J vs H Q E ->sp vs H Q E):FnOk P w K mg base CX k f fd ps J:=
 ⟨λ vs H Q E q=>F.len vs H Q E (h _ _ _ _ q),λ A outer s H args us vs Q E hr he hb hv hs=>F.run A outer s H args us vs Q E hr he hb hv (h _ _ _ _ hs)⟩
theorem Env0.make {P:Program} {w:World} {K:PySem.W.Frag} {mg:Str ->Option Value} {base:Heap} {A:Around} {outer:List Env} {s:Shared} {H:Hp} (e:Env0 P w K mg base A outer s H) (C:Addr) (us:List Value) (kw:List (Str×Value)):
  Env0 P w K mg base (A.under (.builtin "type.__call__" ⟨.ref C::us,kw⟩)) outer s H:=⟨by first | exact e.frames | (simpa [Around.under,Code.envs,Code.isFrame,pushEnvs] using e.frames),e.mod,e.bs,e.bsz,e.funs,e.frf,e.hok,e.bare⟩
theorem Env0.in1 {P:Program} {w:World} {K:PySem.W.Frag} {mg:Str ->Option Value} {base:Heap} {A:Around} {outer:List Env} {s:Shared} {H:Hp} (e:Env0 P w K mg base A outer s H):
  Env0 P w K mg base A.in1 outer s H:=⟨e.frames,e.mod,e.bs,e.bsz,e.funs,e.frf,e.hok,e.bare⟩
section
variable {X:Cx} {pins:List (Addr×Obj)} {σ:St} {H:Hp} {s s':Shared}
theorem Inv.env0 (I:Inv X pins σ H s):Env0 X.prog X.w X.K X.mg X.base X.A X.stack s H:=
 ⟨I.ok.frames,I.ok.mod,I.bs,z3i I.ok.bsz I.sz,I.stack,I.stkFree,I.hok,I.bare⟩
theorem Inv.after {Q:VK} {u:Value} (I:Inv X pins σ H s) (h:CE X.stack X.prog X.w H s Q u s'):EP X pins σ Q u s':=by
 obtain ⟨v,H',os,bare,un,hok,r,q⟩:=h;obtain ⟨hh,g,d,t,J⟩:=s';obtain rfl:J=s.os:=os;exact ⟨v,H',I.call (h':=hh) (g':=g) (d':=d) (t':=t) (ch:=[]) un hok bare (λ b z=>absurd z (by simp)),r,q⟩
end
def qkt (sp:Sp) (dvs:List V) (E:XK) (t:TA):TE:=λ σ H Q=>t σ H λ vs H1=>sp (vs++dvs) H1 Q E
def qc6 (C:Addr) (m:Str) (sp:Sp) (dvs:List V) (E:XK) (ta:TE) (t:TA):TE:=λ σ H Q=>ta σ H λ x H1=>∃ a dx fs,x= .ref a/\H1 a=some (.ins C dx fs)/\fs.lookup m=none/\
 t σ H1 λ vs H2=>sp (x::(vs++dvs)) H2 Q E
def qku (C:Addr) (sp:Sp) (dvs:List V) (E:XK) (t:TA):TE:=λ σ H Q=>t σ H λ vs H1=>∀ x dx,H1 x=none ->H1 dx=none ->dx≠x ->
 sp (.ref x::(vs++dvs)) (upd (upd H1 dx (.own x)) x (.ins C dx [])) (λ v H2=>v= .non/\Q (.ref x) H2) E
def Binds (K:PySem.W.Frag) (fd:FuncData) (ps:List Str) (ds:List Value):Prop:=
 ∀ (s:Shared) (us:List Value),K.In s.heap ->(us++ds).length=ps.length ->BindsTo s fd ⟨us,[]⟩ (ps.zip (us++ds))
theorem Binds.all {K:PySem.W.Frag} {fd:FuncData} {ps:List Str} (h:∀ us:List Value,us.length=ps.length ->bindArgs fd ⟨us,[]⟩=pure (ps.zip us)):Binds K fd ps []:=λ s us _ hl=>by
 rw [z2m] at hl ⊢;exact .of_eq (h us hl)
def q2x (CX:CXT) (X:Cx) (E:XK):Prop:=∀ (pins:List (Addr×Obj)) (σ:St) (H:Hp) (s:Shared) (e:Value) (s':Shared),Inv X pins σ H s ->CX X.stack H s E e s' ->X.xe e s'
section
variable {X:Cx} {CX:CXT} {k:Nat} {f C:Addr} {fd:FuncData} {ps:List Str} {sp:Sp} {dvs:List V} {ds:List Value} {E:XK} {x m:Str} {p pos apos:Pos} {e o:Expr} {es:List Expr} {ta:TE} {t:TA}
theorem q94 {pins:List (Addr×Obj)} {σ:St} {H:Hp} {s:Shared} {Q:VK} {us:List Value} {vs:List V} (F:FnOk X.prog X.w X.K X.mg X.base CX k f fd ps sp) (hr:Room k X.A) (hb:Binds X.K fd ps ds) (hd:Vals dvs ds) (hx:q2x CX X E)
  (I:Inv X pins σ H s) (r:Vals vs us) (h:sp (vs++dvs) H Q E):wpAny (model X.prog X.w) X.A (call (.ref f) us) (EP X pins σ Q) X.xe s:=by
 have r2:Vals (vs++dvs) (us++ds):=r.append hd;have hl:(us++ds).length=ps.length:=by rw [<- r2.length];exact F.len _ _ _ _ h
 refine wpAny_call (z3k (F.run X.A X.stack s H ⟨us,[]⟩ (us++ds) (vs++dvs) Q E hr I.env0 (hb s us I.kIn hl) r2 h) λ r s' hq=> ?_);cases r with
 | error e=>exact hx pins σ H s e s' I hq
 | ok fl=>
  cases fl with
  | ret u=>exact I.after hq
  | next=>exact False.elim hq
  | brk=>exact False.elim hq
  | cont=>exact False.elim hq
theorem qjt (F:FnOk X.prog X.w X.K X.mg X.base CX k f fd ps sp) (hr:Room k X.A) (hg:Gl X x) (hm:X.mg x=some (.ref f)) (hk:PySem.W.keepIn X.K (.ref f)=true) (hb:Binds X.K fd ps ds) (hd:Vals dvs ds) (hx:q2x CX X E)
  (ha:PA X (e::es) t) (J:(x==("__debug__":Str))=false:=by decide) (he:starEach (e::es) X.env=(false,eval e X.env)::starEach es X.env:=by rfl) (O:(backTo pos (starEach es X.env)).any (·.1)=false:=by rfl):
  PE X (.Call (.Name x p) (e::es) [] pos) (qkt sp dvs E t):=by
 intro pins s σ H Q I h;refine z1i (q67 I hg hm ?_ J);refine PySem.W.callWith_K (h₀:=X.base) I.ok.mod.kin hk (thn (ha pos pins s σ H _ I h) λ us s1 ⟨vs,H1,I1,r,q⟩=>⟨I1.kIn,?_⟩) he O;exact q94 F hr hb hd hx I1 r q
theorem qju {pl:Sem Bool} (he:PE X o ta) (c:Cls X.K C) (hm:Meth X.K C m f) (F:FnOk X.prog X.w X.K X.mg X.base CX k f fd ps sp) (hr:Room k X.A) (hb:Binds X.K fd ps ds) (hd:Vals dvs ds) (hx:q2x CX X E) (ha:PA X (e::es) t)
  (O:starEach (e::es) X.env=(false,eval e X.env)::starEach es X.env:=by rfl) (J:(backTo pos (starEach es X.env)).any (·.1)=false:=by rfl)
  (ht:eval (.Call (.Attribute o m apos) (e::es) [] pos) X.env=(do
   let ov <- eval o X.env
   standAt apos.atName
   let (f,first) <- holding [ov] (getMethod ov m pl)
   callWith pos f first (backTo pos (starEach (e::es) X.env)) (backToKw pos (keywordEach [] X.env))):=by rfl):
  PE X (.Call (.Attribute o m apos) (e::es) [] pos) (qc6 C m sp dvs E ta t):=by
 intro pins s σ H Q I h;refine PySem.W.methodCall_KW (pl:=pl) (thn (he pins s σ H _ I h) λ u s1 U=> ?_) ht;obtain ⟨x,H1,I1,rx,a,dx,fs,ex,ea,l,q⟩:=U;subst ex;obtain rfl:u=Value.ref a:=rx;refine q61 I1 ea c hm l ?_;refine PySem.W.callWith_K (first:=[.ref a]) (h₀:=X.base) I.ok.mod.kin hm.kp (thn (ha pos pins s1 σ H1 _ I1 q) λ us s2 ⟨vs,H2,I2,r,q2⟩=>⟨I2.kIn,?_⟩) O J;exact q94 (us:= .ref a::us) (vs:= .ref a::vs) F hr hb hd hx I2 (.cons rfl r) q2
theorem qoe {pl:Sem Bool} (he:PE X o ta) (c:Cls X.K C) (hm:Meth X.K C m f) (F:FnOk X.prog X.w X.K X.mg X.base CX k f fd ps sp) (hr:Room k X.A) (hb:Binds X.K fd ps ds) (hd:Vals dvs ds) (hx:q2x CX X E)
  (ht:eval (.Call (.Attribute o m apos) [] [] pos) X.env=(do
   let ov <- eval o X.env
   standAt apos.atName
   let (f,first) <- holding [ov] (getMethod ov m pl)
   callWith pos f first (backTo pos (starEach [] X.env)) (backToKw pos (keywordEach [] X.env))):=by rfl):
  PE X (.Call (.Attribute o m apos) [] [] pos) (qc6 C m sp dvs E ta tNil):=by
 intro pins s σ H Q I h;refine PySem.W.methodCall_KW (pl:=pl) (thn (he pins s σ H _ I h) λ u s1 J=> ?_) ht;obtain ⟨x,H1,I1,rx,a,dx,fs,ex,ea,l,q⟩:=J;subst ex;obtain rfl:u=Value.ref a:=rx;refine q61 I1 ea c hm l ?_;exact PySem.W.callWith_K0 (first:=[.ref a]) I1.kIn hm.kp (q94 (us:=[.ref a]) (vs:=[.ref a]) F hr hb hd hx I1 (.cons rfl .nil) q)
structure Mk (K:PySem.W.Frag) (C f:Addr):Prop where
 makes:PySem.W.makesIn K C=true
 init:PySem.W.findIn K (.ref C) "__init__"=some (some (.ref f))
 fn:PySem.W.isFn K (.ref f)=true
 kp:PySem.W.keepIn K (.ref C)=true
theorem qof {pins:List (Addr×Obj)} {σ:St} {H:Hp} {s:Shared} {Q:VK} {us:List Value} {vs:List V} (M:Mk X.K C f) (F:FnOk X.prog X.w X.K X.mg X.base CX k f fd ps sp) (hr:Room (k+1) X.A) (hb:Binds X.K fd ps ds) (hd:Vals dvs ds)
  (hx:q2x CX X E) (I:Inv X pins σ H s) (r:Vals vs us)
  (h:∀ x dx,H x=none ->H dx=none ->dx≠x ->sp (.ref x::(vs++dvs)) (upd (upd H dx (.own x)) x (.ins C dx [])) (λ v H2=>v= .non/\Q (.ref x) H2) E):
  wpAny (model X.prog X.w) X.A (call (.ref C) us) (EP X pins σ Q) X.xe s:=by
 have hq:=h (s.heap.objs.size+1) s.heap.objs.size (I.hok.fresh (Nat.le_succ _)) (I.hok.fresh (z3p _)) (z3h (z27 _));have I2:=Inv.made (C:=C) I;have r2:Vals (V.ref (s.heap.objs.size+1)::(vs++dvs)) (Value.ref (s.heap.objs.size+1)::(us++ds)):= .cons rfl (r.append hd);have hl:(Value.ref (s.heap.objs.size+1)::us++ds).length=ps.length:=by
  have e:=r2.length;rw [F.len _ _ _ _ hq] at e;exact e.symm
 refine wpAny_call (qod (f:=f) I.kIn M.makes M.init (beq_iff_eq.mp M.fn) (z3k (F.run _ X.stack _ _ ⟨Value.ref (s.heap.objs.size+1)::us,[]⟩ (Value.ref (s.heap.objs.size+1)::(us++ds)) _ _ E (hr.make C us [])
  (I2.env0.make C us []) (hb _ (Value.ref (s.heap.objs.size+1)::us) I2.kIn hl) r2 hq) λ r s' J=> ?_))
 cases r with
 | error e=>exact hx pins σ _ _ e s' I2 J
 | ok fl=>
  cases fl with
  | ret u=>
   obtain ⟨v,H',I3,rv,ev,q3⟩:=I2.after J;subst ev;exact ⟨rv,⟨V.ref (s.heap.objs.size+1),H',I3,zr,q3⟩⟩
  | next=>exact False.elim J
  | brk=>exact False.elim J
  | cont=>exact False.elim J
theorem qjv (M:Mk X.K C f) (F:FnOk X.prog X.w X.K X.mg X.base CX k f fd ps sp) (hr:Room (k+1) X.A) (hg:Gl X x) (hm:X.mg x=some (.ref C)) (hb:Binds X.K fd ps ds) (hd:Vals dvs ds) (hx:q2x CX X E)
  (ha:PA X (e::es) t) (J:(x==("__debug__":Str))=false:=by decide) (he:starEach (e::es) X.env=(false,eval e X.env)::starEach es X.env:=by rfl) (O:(backTo pos (starEach es X.env)).any (·.1)=false:=by rfl):
  PE X (.Call (.Name x p) (e::es) [] pos) (qku C sp dvs E t):=by
 intro pins s σ H Q I h;refine z1i (q67 I hg hm ?_ J);refine PySem.W.callWith_K (h₀:=X.base) I.ok.mod.kin M.kp (thn (ha pos pins s σ H _ I h) λ us s1 ⟨vs,H1,I1,r,q⟩=>⟨I1.kIn,?_⟩) he O;exact qof M F hr hb hd hx I1 r q
end
def PK (X:Cx) (kws:List Keyword) (t:TA):Prop:=
 ∀ (pos:Pos) (pins:List (Addr×Obj)) (s:Shared) (σ:St) (H:Hp) (Q:List V ->Hp ->Prop),Inv X pins σ H s ->t σ H Q ->wpAny (model X.prog X.w) X.A (evalAll ((backToKw pos (keywordEach kws X.env)).map (·.2))) (AP X pins σ Q) X.xe s
section
variable {X:Cx} {CX:CXT} {k:Nat} {f C:Addr} {fd:FuncData} {ps ks:List Str} {sp:Sp} {E:XK} {x m:Str} {p pos apos kpos:Pos} {e o:Expr} {es:List Expr} {kws:List Keyword} {te ta:TE} {t tk:TA} {nm:Option Str}
theorem qhb:PK X [] tNil:=λ _ _ _ _ H Q I h=>wpAny_evalAll_nil ⟨[],H,I,.nil,h⟩
theorem qda (ha:PE X e te) (hr:PK X kws t):PK X (⟨nm,e,kpos⟩::kws) (q1q te t):=by
 intro pos pins s σ H Q I h;show wpAny _ _ (evalAll ((do let v <- eval e X.env;standAt pos;pure v)::(backToKw pos (keywordEach kws X.env)).map (·.2))) _ _ s;refine wpAny_evalAll_cons (z3v (thn (ha pins s σ H _ I h) λ u s1 ⟨x,H1,I1,r1,q1⟩=>z3v (wpAny_standAt (z3u ?_))));exact thn (hr pos pins s1 σ H1 _ I1 q1) λ us s2 ⟨xs,H2,I2,r2,q2⟩=>⟨x::xs,H2,I2,.cons r1 r2,q2⟩
variable {g:List Value ->List Value ->List Value} {gV:List V ->List V ->List V}
end
structure FnScope (N P:List Str) (sc:Scope):Prop where
 kind:sc.kind= .function
 co:sc.isCoroutine=false
 gen:sc.isGenerator=false
 nd:N.Nodup
 pre:N.take P.length=P
 par:∀ x∈P,sc.names.lookup x=some .local\/ sc.names.lookup x=some .cell
 nofree:∀ y∈sc.names,y.2≠ .free
theorem qew {kindOf:Str ->Option NameKind} {x:Str}:∀ {J:List (Str×Value)} {m:Str ->Option Value},(∀ v,(x,v)∉J) ->bindL kindOf J m x=m x
  | [],_,_=>rfl
  | (n,v)::r,m,h=>by
    unfold bindL;rw [qew λ w hw=>h w (z0z _ hw)];split
    · have:x≠n:=by rintro rfl;exact h v z1f
      simp [this]
    · rfl
theorem qex {kindOf:Str ->Option NameKind} {x:Str}:∀ {J:List (Str×Value)} {m:Str ->Option Value},(∀ v,(x,v)∉J) ->bindC kindOf J m x=m x
  | [],_,_=>rfl
  | (n,v)::r,m,h=>by
    unfold bindC;rw [qex λ w hw=>h w (z0z _ hw)];split
    · rfl
    · have:x≠n:=by rintro rfl;exact h v z1f
      simp [this]
theorem qey {kindOf:Str ->Option NameKind} {x:Str} {v:Value}:∀ {P:List Str} {vs:List Value} {i:Nat} {m:Str ->Option Value},P.Nodup ->P[i]? =some x ->vs[i]? =some v ->kindOf x=some .local ->
  bindL kindOf (P.zip vs) m x=some v
 | [],_,_,_,_,h,_,_=>by simp at h
 | _::_,[],_,_,_,_,h,_=>by simp at h
 | p::P,w::vs,0,m,nd,h1,h2,J=>by
  simp at h1 h2;subst h1;subst h2
  show bindL kindOf ((p,w)::P.zip vs) m p=_;unfold bindL;rw [qew λ v hv=>(z2n.mp nd).1 (List.of_mem_zip hv).1,if_pos J];simp
 | p::P,w::vs,i+1,m,nd,h1,h2,J=>by
  show bindL kindOf ((p,w)::P.zip vs) m x=_;unfold bindL;exact qey (i:=i) (z2n.mp nd).2 (by simpa using h1) (by simpa using h2) J
theorem qez {kindOf:Str ->Option NameKind} {x:Str} {v:Value}:∀ {P:List Str} {vs:List Value} {i:Nat} {m:Str ->Option Value},P.Nodup ->P[i]? =some x ->vs[i]? =some v ->kindOf x≠some .local ->
  bindC kindOf (P.zip vs) m x=some v
 | [],_,_,_,_,h,_,_=>by simp at h
 | _::_,[],_,_,_,_,h,_=>by simp at h
 | p::P,w::vs,0,m,nd,h1,h2,J=>by
  simp at h1 h2;subst h1;subst h2
  show bindC kindOf ((p,w)::P.zip vs) m p=_;unfold bindC;rw [qex λ v hv=>(z2n.mp nd).1 (List.of_mem_zip hv).1,if_neg J];simp
 | p::P,w::vs,i+1,m,nd,h1,h2,J=>by
  show bindC kindOf ((p,w)::P.zip vs) m x=_;unfold bindC;exact qez (i:=i) (z2n.mp nd).2 (by simpa using h1) (by simpa using h2) J
def start (N:List Str) (vs:List V):St:=vs.map some++List.replicate (N.length - vs.length) none
def cxOf (CX:CXT) (P:Program) (w:World) (K:PySem.W.Frag) (mg:Str ->Option Value) (base:Heap) (N:List Str) (qual:Str) (scope:Scope) (f:Addr) (cd:Value) (A:Around) (outer:List Env) (s:Shared) (H:Hp) (E:XK):Cx where
 prog:=P
 w:=w
 K:=K
 mg:=mg
 base:=base
 A:=A.deeper (envOfC qual scope s.heap.objs.size f cd)
 N:=N
 s₀:=s
 H₀:=H
 env:=envOfC qual scope s.heap.objs.size f cd
 outer:=outer
 stack:=envOfC qual scope s.heap.objs.size f cd::outer
 ex:=[]
 calm:=true
 fn:=λ _=>true
 pn:=[]
 xe:=λ e s'=>wpAny (model P w) (A.deeper (envOfC qual scope s.heap.objs.size f cd)) (leaving (envOfC qual scope s.heap.objs.size f cd) e) (λ _ s''=>CX outer H s E e s'') (λ e' s''=>CX outer H s E e' s'') s'
theorem qhc {J:Scope} {n:Nat} {x:Str} (h:J.names.lookup x=some .cell):∃ c,(cellsFrom n J.names []).lookup x=some c:=by
 have q:=PySem.W.cellsFrom_some J.names n [] (.inl h);exact Option.isSome_iff_exists.mp q
theorem qm6 {CX:CXT} {P:Program} {w:World} {K:PySem.W.Frag} {mg:Str ->Option Value} {base:Heap} {N ps:List Str} {qual:Str} {scope:Scope} {f:Addr} {Y:Value} {A:Around} {outer:List Env} {s s1:Shared} {H:Hp} {E:XK} {us:List Value} {vs:List V}
    (S:FnScope N ps scope) (hd:A.handled=none) (J:Env0 P w K mg base A outer s H) (hl:vs.length=ps.length) (r:Vals vs us)
    (x:InCallC s s.heap.objs.size (bindL (envOfC qual scope s.heap.objs.size f Y).kindOf (ps.zip us) λ _=>none) (cellsFrom (s.heap.objs.size+1) scope.names []) (bindC (envOfC qual scope s.heap.objs.size f Y).kindOf (ps.zip us) λ _=>none) s1):
    Inv (cxOf CX P w K mg base N qual scope f Y A outer s H E) [] (start N vs) H s1:=by
  have hpl:ps.length<=N.length:=by have:=congrArg List.length S.pre;rw [z22] at this;lia
  obtain ⟨h1,tk,rfl,Z⟩:=x.done;have O:∀ b:Addr,b∉(cxOf CX P w K mg base N qual scope f Y A outer s H E).ex:=λ b z=>absurd (show b∈([]:List Addr) from z) (by simp);refine ⟨⟨J.mod,S.kind,zr,zr,z3p _,λ y z c h1 h2=> ?_,λ y hy=> ?_,λ y c _ h=> ?_,λ _=>hd,Around.frames_deeper J.frames,.inr ⟨zr,zr⟩,λ b z=>absurd z (O b),J.bs,J.bsz,λ b _ _=>O b,λ b z=>absurd z (O b),J.funs,J.frf⟩,
    rfl,J.bare,Un.kept Z,⟨_,x.toInCall.ns,λ i y v h1 h2 h3=> ?_⟩,λ y c h=>⟨_,x.cell y c h⟩,J.hok.fresh (z3p _),λ y c h=> ?_,λ p hp=>absurd (show p∈([]:List (Addr×Obj)) from hp) (by simp),J.hok.kept Z,?_⟩
  · exact name_of_addr x.apart (z16 h1) (z16 h2)
  · have hy:scope.names.lookup y=some .cell\/ scope.names.lookup y=some .free:=hy
    rcases hy with hy | hy
    · exact qhc hy
    · exact absurd rfl (S.nofree _ (z16 hy))
  · exact z3f (x.above y c (z16 h))
  · have hi:i < vs.length:=by
      unfold start at h2;by_cases hi:i < vs.length
      · exact hi
      · rw [z04 (by simpa using hi)] at h2
        rw [List.getElem?_replicate] at h2;split at h2 <;> cases h2
    have ha:vs[i]? =some v:=by
      unfold start at h2;rw [List.getElem?_append_left (by simpa using hi),z1s] at h2;cases e:vs[i]? with
      | none=>rw [e] at h2;cases h2
      | some a=>rw [e] at h2;cases h2;rfl
    obtain ⟨u,hu,rv⟩:=r.get ha;have hp:ps[i]? =some y:=by
      rw [<- S.pre,List.getElem?_take_of_lt (by lia)];exact h1
    have U:ps.Nodup:=by rw [<- S.pre];exact S.nd.sublist (List.take_sublist _ _)
    refine ⟨u,rv,?_⟩;rcases S.par y (z11 hp) with k | k
    · exact .inl ⟨k,qey U hp hu k⟩
    · obtain ⟨c,e⟩:=qhc (n:=s.heap.objs.size+1) k
      refine .inr ⟨.inl k,c,e,?_⟩;have q:=x.cell y c e;rw [qez U hp hu (by show scope.names.lookup y≠_;rw [k];decide)] at q;exact q
  · exact J.hok.fresh (z3f (x.above y c (z16 h)))
  · unfold start
    show _=N.length;rw [z1e,z2l,List.length_replicate]
    lia
theorem qgo {CX:CXT} {P:Program} {w:World} {K:PySem.W.Frag} {mg:Str ->Option Value} {base:Heap} {k:Nat} {f:Addr} {name qual:Str} {params:Arguments} {body:List Stmt} {scope:Scope} {dV kV Z pm cdv ct oc:Value} {an od:Option Addr}
  {a4:Array (Option Value)} {N ps:List Str} {sp:Sp} (lk:K.lookup f=some ⟨oc,od,.func (PySem.W.fnOf name qual params body scope dV kV Z pm an cdv ct),a4⟩) (a2:PySem.W.codeIn K cdv qual=true) (S:FnScope N ps scope)
  (len:∀ vs H Q E,sp vs H Q E ->vs.length=ps.length)
  (O:∀ (A:Around) (outer:List Env) (s:Shared) (H:Hp) (vs:List V) (Q:VK) (E:XK),Room k (A.deeper (envOfC qual scope s.heap.objs.size f cdv)) ->sp vs H Q E ->
   ∃ t,PSs (cxOf CX P w K mg base N qual scope f cdv A outer s H E) body t/\t {nx:=λ _ H'=>Q .non H',rt:=Q} (start N vs) H):
  FnOk P w K mg base CX (k+1) f (PySem.W.fnOf name qual params body scope dV kV Z pm an cdv ct) ps sp:=by
 refine ⟨len,λ A outer s H args us vs Q E hr e0 hb r a1=> ?_⟩;have hl:=len _ _ _ _ a1;have KX:K.In s.heap:=e0.mod.kin.keeps λ b o e=>(e0.bs b o e).1;have a3:s.heap.NoLimit:=e0.mod.nolimit.keeps λ b o e=>(e0.bs b o e).1;have U:∀ y∈ps.zip us,scope.names.lookup y.1=some .local\/ (scope.names.lookup y.1=some .cell/\((cellsFrom (s.heap.objs.size+1) scope.names []).lookup y.1).isSome=true):=λ ⟨n,v⟩ hy=>by
  rcases S.par n (List.of_mem_zip hy).1 with q | q
  ·exact .inl q
  ·exact .inr ⟨q,PySem.W.cellsFrom_some _ _ _ (.inl q)⟩
 refine codeAny_call_function hr.depth (KX _ _ lk) rfl S.co S.gen rfl (PySem.W.codeRec_of KX a2) (hb _ _ _ _ ?_);refine wpAny_newFunctionEnv_cells S.kind U λ env he s1 x=> ?_;subst he;refine ⟨a3.keeps x.toInCall.keep,codeAny_func ?_⟩;obtain ⟨t,ht,hq⟩:=O A outer s H vs Q E (hr.deeper _) a1;have I:Inv (cxOf CX P w K mg base N qual scope f cdv A outer s H E) [] (start N vs) H s1:=qm6 S hr.hd e0 hl r x;refine z3w (ht [] s1 (start N vs) H _ I hq) (λ fl s' Y=> ?_) λ e s' Y=>Y;have fin:∀ {σ':St} {H':Hp} {v:V} {u:Value},Inv (cxOf CX P w K mg base N qual scope f cdv A outer s H E) [] σ' H' s' ->RelV v u ->Q v H' ->CE outer P w H s Q u s':=
  λ {σ' H' v u} J rv q=>⟨v,H',J.os,J.bare,J.base,J.hok,rv,q⟩
 cases fl with
 | ret u=>
  obtain ⟨v,σ',H',J,rv,q⟩:=Y;exact fin J rv q
 | next=>
  obtain ⟨σ',H',J,q⟩:=Y;exact fin (v:=V.non) (u:=Value.none) J rfl q
 | brk=>
  obtain ⟨_,_,_,q⟩:=Y;exact False.elim q
 | cont=>
  obtain ⟨_,_,_,q⟩:=Y;exact False.elim q
section
variable {X:Cx} {x:Str} {p pos:Pos} {e:Expr} {es:List Expr} {t:TA} {id T:String} {r:List V ->Hp ->VK ->Prop}
def tCB (r:List V ->Hp ->VK ->Prop) (t:TA):TE:=λ σ H Q=>t σ H λ vs H1=>r vs H1 Q
theorem qt (hc:q20 X (.builtin id) r) (hg:Gl X x) (hm:X.mg x=none) (hv:bootBuiltins x=some (.builtin id)) (ha:PA X (e::es) t) (hn:x≠"__name__":=by decide) (J:(x==("__debug__":Str))=false:=by decide)
  (he:starEach (e::es) X.env=(false,eval e X.env)::starEach es X.env:=by rfl) (O:(backTo pos (starEach es X.env)).any (·.1)=false:=by rfl):PE X (.Call (.Name x p) (e::es) [] pos) (tCB r t):=by
 intro pins s σ H Q I h;refine z1i (q53 I hg hm hv ?_ hn J);exact PyProof.Rows.callWith_builtin1 (thn (ha pos pins s σ H _ I h) λ us s1 ⟨vs,H1,I1,r1,q1⟩=>hc pins s1 σ H1 vs us Q I1 r1 q1) he O
theorem q25 (hc:q20 X (.type T) r) (hg:Gl X x) (hm:X.mg x=none) (hv:bootBuiltins x=some (.type T)) (ha:PA X (e::es) t) (hn:x≠"__name__":=by decide) (J:(x==("__debug__":Str))=false:=by decide)
  (he:starEach (e::es) X.env=(false,eval e X.env)::starEach es X.env:=by rfl) (O:(backTo pos (starEach es X.env)).any (·.1)=false:=by rfl):PE X (.Call (.Name x p) (e::es) [] pos) (tCB r t):=by
 intro pins s σ H Q I h;refine z1i (q53 I hg hm hv ?_ hn J);exact z02 (thn (ha pos pins s σ H _ I h) λ us s1 ⟨vs,H1,I1,r1,q1⟩=>hc pins s1 σ H1 vs us Q I1 r1 q1) he O
end
end L2
namespace HT
open PySem PyProof.Rows
section
open PySem.SeqAt
open PySem.AutoSeq1 (wpAny_loadPart')
open PySem.MeetsSeq PySem.MeetsSeq2 PySem.MeetsSeq3
end
section
variable {prog:Program} {w:World} {A:Around} {E:Value ->Shared ->Prop} {s:Shared}
theorem cat_tup {t b:Addr} {vs J:List Value} {Q:Value ->Shared ->Prop} (ht:IsTup s.heap t vs.toArray) (hb:IsTup s.heap b J.toArray) (hv:vs≠ [])
  (h1:J=[] ->Q (.ref t) s) (h2:J≠ [] ->Q (.ref s.heap.objs.size) {s with heap:=s.heap.push {cls:= .type "tuple",data:= .seq (vs++J).toArray}})
  (hsz:vs.length+J.length<=sizeLine):wpAny (model prog w) A (binaryOp .Add (.ref t) (.ref b)) Q E s:=by
 obtain ⟨⟨cls,dd,data,sl⟩,ho,hc,n,hd⟩:=id ht;obtain ⟨⟨a3,U,a2,a1⟩,O,Y,n2,Z⟩:=id hb;simp only at hc hd Y Z;subst hc hd Y Z;have e:vs.toArray++J.toArray=(vs++J).toArray:=by simp
 by_cases hw:J=[]
 ·exact concat_meets ⟨_,ho,zr⟩ ⟨_,O,zr⟩ noFill_tuple_add seq_tuple_add PySem.F.slot_tuple_add PySem.F.entry_tuple_add (PySem.F.args_tuple_add_2 _ _)
   (tuple_addW1 t b vs.toArray J.toArray n n2 dd U sl a1 (by simpa using hv) (by simp [hw])) ⟨ho,O,h1 hw⟩
 ·refine concat_meets ⟨_,ho,zr⟩ ⟨_,O,zr⟩ noFill_tuple_add seq_tuple_add PySem.F.slot_tuple_add PySem.F.entry_tuple_add (PySem.F.args_tuple_add_2 _ _)
   (tuple_addW2 t b vs.toArray J.toArray n n2 dd U sl a1 (by simpa using hv) (by simpa using hw) (by rw [z1t,z1t];exact hsz)) ⟨ho,O,?_⟩
  rw [e];exact h2 hw
def sIx (n d:Nat):Option Int ->Nat
 | none=>d
 | some v=>if v < 0 then (v+(n:Int)).toNat else min v.toNat n
theorem sIx_none (n d:Nat):sIx n d none=d:=rfl
theorem sIx_nat (n d k:Nat):sIx n d (some (k:Int))=min k n:=by
 show (if (k:Int) < 0 then ((k:Int)+(n:Int)).toNat else min (k:Int).toNat n)=min k n;rw [if_neg (by lia),z1w]
theorem sIx_le (n d:Nat) (hd:d<=n) (o:Option Int):sIx n d o<=n:=by
 cases o with
 | none=>exact hd
 | some v=>
  show (if v < 0 then (v+(n:Int)).toNat else min v.toNat n)<=n;by_cases J:v < 0
  ·rw [if_pos J];lia
  ·rw [if_neg J];exact Nat.min_le_right _ _
theorem clip_eq (v:Int) (n d:Nat):(if v < 0 then max (v+(n:Int)) 0 else min v (n:Int))=((sIx n d (some v):Nat):Int):=by
 show (if v < 0 then max (v+(n:Int)) 0 else min v (n:Int))=(((if v < 0 then (v+(n:Int)).toNat else min v.toNat n):Nat):Int);by_cases J:v < 0
 ·simp only [if_pos J];lia
 ·simp only [if_neg J];lia
theorem qkv (lo hi:Option Int) (n:Nat):Builtin.Slice.sliceAdjust lo hi 1 (n:Int)=(((sIx n 0 lo:Nat):Int),((sIx n n hi:Nat):Int)):=by
 have h1:¬ ((1:Int) < 0):=by lia
 unfold Builtin.Slice.sliceAdjust;simp only [h1,if_false];refine Prod.ext ?_ ?_
 ·cases lo with
  | none=>rfl
  | some v=>exact clip_eq v n 0
 ·cases hi with
  | none=>rfl
  | some v=>exact clip_eq v n n
theorem qkw (i j:Nat):Builtin.Slice.slicePlaces (i:Int) (j:Int) 1=j - i:=by
 unfold Builtin.Slice.slicePlaces;have h1:(1:Int) > 0:=by lia
 simp only [h1,if_true,Int.ediv_one];split <;> lia
theorem qc7 {v:Value} {o:Option Int} {Q:Option Int ->Shared ->Prop} (p:IsPart v o) (h:Q o s):wpAny (model prog w) A (Builtin.Slice.slicePartIndex v) Q E s:=by
 cases p with
 | none=>exact slicePart_none h
 | int i t=>exact slicePart_int h
theorem qb5 {Z:Addr} {U Y:Value} {lo hi:Option Int} {n:Nat} {Q:Int×Int×Nat ->Shared ->Prop} (hs:s.heap.IsSliceOf Z U Y .none) (pl:IsPart U lo) (pu:IsPart Y hi)
  (h:Q (((sIx n 0 lo:Nat):Int),1,sIx n n hi - sIx n 0 lo) s):wpAny (model prog w) A (Builtin.Slice.sliceApplied (.ref Z) (pure (n:Int))) Q E s:=by
 obtain ⟨os,O,hcs,J⟩:=id hs;unfold Builtin.Slice.sliceApplied Builtin.Slice.sliceFields;refine z3v (z3v (wpAny_field O J (x:=U) rfl (z3v (wpAny_field O J (x:=Y) rfl (z3v (wpAny_field O J (x:= .none) rfl (z3u ?_)))))));refine z3v (slicePart_none ?_);show wpAny _ _ (if ((1:Int)==0)=true then _ else _) _ _ s;rw [if_neg (by decide)];refine z3v (qc7 pl (z3v (qc7 pu (z3v (z3u ?_)))));show wpAny _ _ (match Builtin.Slice.sliceAdjust lo hi 1 (n:Int) with | (lo,hi)=>pure (lo,(1:Int),Builtin.Slice.slicePlaces lo hi 1)) _ _ s;rw [qkv lo hi n];show wpAny _ _ (pure (((sIx n 0 lo:Nat):Int),(1:Int),Builtin.Slice.slicePlaces ((sIx n 0 lo:Nat):Int) ((sIx n n hi:Nat):Int) 1)) _ _ s;rw [qkw];exact z3u h
theorem qog (xs:Array Value) (i k:Nat):((List.range k).filterMap λ (m:Nat)=>xs[((i:Int)+(m:Int)*1).toNat]?).toArray=((xs.toList.drop i).take k).toArray:=by
 have e:(λ (m:Nat)=>xs[((i:Int)+(m:Int)*1).toNat]?)=λ m=>xs[i+m]? :=by
  funext m
  have:((i:Int)+(m:Int)*1).toNat=i+m:=by lia
  rw [this]
 rw [e];have:=pick_run xs i k;rw [List.filterMap_map] at this;have e2:((λ x=>xs[x]?)∘λ x=>i+x)=λ m=>xs[i+m]? :=rfl;rw [e2] at this;rw [this]
theorem getItem_tuple_cut {t sl:Addr} {J:Array Value} {vl vu:Value} {lo hi:Option Int} {Q:Value ->Shared ->Prop} (U:IsTup s.heap t J) (hs:s.heap.IsSliceOf sl vl vu .none) (pl:IsPart vl lo) (pu:IsPart vu hi)
    (hw:¬ (sIx J.size 0 lo=0/\sIx J.size J.size hi=J.size))
    (h:Q (.ref s.heap.objs.size) {s with heap:=s.heap.push {cls:= .type "tuple",data:= .seq ((J.toList.drop (sIx J.size 0 lo)).take (sIx J.size J.size hi - sIx J.size 0 lo)).toArray}})
    (hsz:J.size<=sizeLine):wpAny (model prog w) A (getItem (.ref t) (.ref sl)) Q E s:=by
  have O:sizeOk (.seq ((J.toList.drop (sIx J.size 0 lo)).take (sIx J.size J.size hi - sIx J.size 0 lo)).toArray):=by
    show ((J.toList.drop (sIx J.size 0 lo)).take (sIx J.size J.size hi - sIx J.size 0 lo)).toArray.size<=sizeLine;rw [z1t,z22,z23,z12]
    lia
  have hj:sIx J.size J.size hi<=J.size:=sIx_le _ _ (z3p _) hi;obtain ⟨os,a2,Z,hds⟩:=id hs;have Y:s.TypeIs (.ref sl) "slice":=⟨os,a2,Z⟩;unfold getItem
  try with_reducible refine z36 ?_
  first | refine z3v (z3u ?_) | skip
  refine z3v (wpAny_sequenceKey U.typeIs (by decide) ?_);refine z3v (wpAny_callSpecial?_slot (name:=Str.ofString "__getitem__") U.typeIs PyProof.Rows.slot_tuple_getitem
    (z2a PyProof.Rows.slot_tuple_getitem U.typeIs entry_tuple_getitem ?_ (args_tuple_getitem _ _)))
  show wpAny _ _ (Builtin.Tuple.tupleItemsOf (.ref t) >>=_) _ _ s;refine z3v (tupleItemsOf_ U ?_);refine z3v (wpAny_typeOf Y ?_);rw [if_pos (by decide)];refine z3v (qb5 hs pl pu ?_);have a1:¬ ((((sIx J.size 0 lo:Nat):Int)==0&&(1:Int)==1&&(sIx J.size J.size hi - sIx J.size 0 lo)==J.size)=true):=by
    intro q;rw [z28,z28] at q;have q1:((sIx J.size 0 lo:Nat):Int)=0:=eq_of_beq q.1.1;have q2:sIx J.size J.size hi - sIx J.size 0 lo=J.size:=eq_of_beq q.2;exact hw ⟨by lia,by lia⟩
  show wpAny _ _ (if (((sIx J.size 0 lo:Nat):Int)==0&&(1:Int)==1&&(sIx J.size J.size hi - sIx J.size 0 lo)==J.size)=true then _ else _) _ _ s;rw [if_neg a1,qog]
  first
    | exact z3v (m:=Builtin.Tuple.tupleExact _) (z1x (z3u ⟨_,rfl,z3u h⟩) O)
    | exact z3v (m:=Builtin.Tuple.tupleExact _) (z1x (z3v (z3u (z3u ⟨_,rfl,z3u h⟩))) O)
    | exact z3v (z3v (m:=Builtin.Tuple.tupleExact _) (z1x (z3u (z3u ⟨_,rfl,z3u h⟩)) O))
    | exact z3v (z3v (m:=Builtin.Tuple.tupleExact _) (z1x (z3u ⟨_,rfl,z3u h⟩) O))
end
end HT
namespace L2
open PySem PySem.Spec PyProof.Rows
abbrev TO:=St ->Hp ->(Option Int ->Hp ->Prop) ->Prop
def PO (X:Cx) (e:Option Expr) (t:TO):Prop:=
 ∀ (pins:List (Addr×Obj)) (s:Shared) (σ:St) (H:Hp) (Q:Option Int ->Hp ->Prop),Inv X pins σ H s ->t σ H Q ->
  wpAny (model X.prog X.w) X.A (evalPart e X.env) (λ u s'=>∃ o H',Inv X pins σ H' s'/\IsPart u o/\Q o H') X.xe s
def qr9:TO:=λ _ H Q=>Q none H
def qv8 (t:TE):TO:=λ σ H Q=>t σ H λ x H1=>∃ i,x= .int i/\Q (some i) H1
section
variable {X:Cx} {e:Expr} {te:TE} {lo hi:Option Expr} {tl th:TO} {pos p2:Pos}
theorem q4k:PO X none qr9:=by
 intro pins s σ H Q I h;rw [evalPart_none];exact z3u ⟨none,H,I,.none,h⟩
theorem q3b (h:PE X e te):PO X (some e) (qv8 te):=by
 intro pins s σ H Q I hw;rw [evalPart_some];refine thn (h pins s σ H _ I hw) λ u s1 J=> ?_;obtain ⟨x,H1,I1,r1,q1⟩:=J;obtain ⟨i,rfl,q⟩:=q1;obtain ⟨t,rfl⟩:=r1;exact ⟨some i,H1,I1,.int i t,q⟩
def SlR (X:Cx) (r:V ->Option Int ->Option Int ->Hp ->VK ->Prop):Prop:=
 ∀ (pins:List (Addr×Obj)) (s:Shared) (σ:St) (H:Hp) (x:V) (v vl vu:Value) (lo hi:Option Int) (sl:Addr) (Q:VK),Inv X pins σ H s ->RelV x v ->s.heap.IsSliceOf sl vl vu .none ->IsPart vl lo ->IsPart vu hi ->r x lo hi H Q ->
  ∃ T id,typeLookup (.type T) "__getitem__"=pure (some (.builtin id))/\s.TypeIs v T/\wpAny (model X.prog X.w) X.A (getItem v (.ref sl)) (EP X pins σ Q) X.xe s
def tSl (r:V ->Option Int ->Option Int ->Hp ->VK ->Prop) (te:TE) (tl th:TO):TE:=λ σ H Q=>te σ H λ x H1=>tl σ H1 λ l H2=>th σ H2 λ u H3=>r x l u H3 Q
theorem q35 {r:V ->Option Int ->Option Int ->Hp ->VK ->Prop} (hr:SlR X r) (he:PE X e te) (hl:PO X lo tl) (hu:PO X hi th):PE X (.Subscript e (.Slice lo hi none p2) pos) (tSl r te tl th):=by
 intro pins s σ H Q I h;refine Subscript_ (thn (he pins s σ H _ I h) λ v s1 J=> ?_);obtain ⟨x,H1,I1,r1,q1⟩:=J;refine wpAny_Slice (thn (hl pins s1 σ H1 _ I1 q1) λ O s2 ⟨l,H2,I2,pl,q2⟩=>thn (hu pins s2 σ H2 _ I2 q2) λ U s3 J=> ?_);obtain ⟨u,H3,I3,pu,q3⟩:=J;rw [evalPart_none];refine z3u ?_;have I4:Inv X pins σ H3 {s3 with heap:=s3.heap.push {cls:= .type "slice",data:= .fields #[O,U,.none]}}:=I3.kept (t':=s3.toks) λ b ob q=>z0j _ q;obtain ⟨T,id,hT,ht,hg⟩:=hr pins {s3 with heap:=s3.heap.push {cls:= .type "slice",data:= .fields #[O,U,.none]}} σ H3 x v O U l u s3.heap.objs.size Q I4 r1 (Heap.IsSliceOf.new ..) pl pu q3;show wpAny (model X.prog X.w) X.A (subscriptTail e (.Slice lo hi none p2) v (.ref s3.heap.objs.size)) (EP X pins σ Q) X.xe {s3 with heap:=s3.heap.push {cls:= .type "slice",data:= .fields #[O,U,.none]}};exact tail_any (ops:=[.ref s3.heap.objs.size,v]) ht hT hg (by with_unfolding_all rfl)
def cutV (xs:List V) (lo hi:Option Int):List V:=(xs.drop (HT.sIx xs.length 0 lo)).take (HT.sIx xs.length xs.length hi - HT.sIx xs.length 0 lo)
theorem qai (xs:List V) (lo hi:Option Int):(cutV xs lo hi).length<=xs.length:=by
 unfold cutV;rw [z22,z23]
 lia
def rSlT (K:PySem.W.Frag):V ->Option Int ->Option Int ->Hp ->VK ->Prop:=λ x lo hi H Q=>∃ a xs,x= .ref a/\SqT K H a xs/\
 ¬ (HT.sIx xs.length 0 lo=0/\HT.sIx xs.length xs.length hi=xs.length)/\∀ p,H p=none ->Q (.ref p) (upd H p (.tup (cutV xs lo hi)))
theorem qt7:SlR X (rSlT X.K):=by
 intro pins s σ H x v vl vu lo hi sl Q I rx hs pl pu h;obtain ⟨a,xs,rfl,hx,hw,q⟩:=h;cases rx
 obtain ⟨its,r,O,hz⟩:=I.tuple hx;have J:its.toArray.size=xs.length:=by rw [z1t];exact r.length.symm
 refine ⟨"tuple",_,PyProof.Rows.slot_tuple_getitem.lookup,O.typeIs,?_⟩;refine HT.getItem_tuple_cut O hs pl pu (by rw [J];exact hw) ?_ (by rw [J];exact hz);rw [J];refine ⟨.ref s.heap.objs.size,_,I.laid (t':=s.toks) (o:= .tup (cutV xs lo hi)) (λ b ob q=>z0j _ q) (z3p _) ?_,zr,q _ (I.hok.fresh (z3p _))⟩;exact ⟨z3i (qai xs lo hi) hz,_,(r.drop (HT.sIx xs.length 0 lo)).take (HT.sIx xs.length xs.length hi - HT.sIx xs.length 0 lo),IsTup.new _ _⟩
def qv9 (K:PySem.W.Frag):R2:=λ x y H Q=>∃ a b xs ys,x= .ref a/\y= .ref b/\SqT K H a xs/\SqT K H b ys/\xs≠ []/\xs.length+ys.length<=sizeLine/\
 (ys=[] ->Q (.ref a) H)/\(ys≠ [] ->∀ p,H p=none ->Q (.ref p) (upd H p (.tup (xs++ys))))
theorem Vals.q9w {xs:List V} {us:List Value} (r:Vals xs us):us=[]↔xs=[]:=by
 cases r with
 | nil=>simp
 | cons _ _=>simp
theorem qra:OpR X (binaryOp .Add) (qv9 X.K):=by
 intro pins s σ H x y v u Q I rx ry h;obtain ⟨a,b,xs,ys,rfl,rfl,ha,hb,hx,hz,q1,q2⟩:=h;cases rx
 cases ry
 obtain ⟨its,r1,p1,_⟩:=I.tuple ha;obtain ⟨J,r2,p2,_⟩:=I.tuple hb;refine HT.cat_tup p1 p2 (λ z=>hx (r1.q9w.mp z)) (λ z=>⟨.ref a,H,I,rfl,q1 (r2.q9w.mp z)⟩) (λ z=> ?_) (by rw [<- r1.length,<- r2.length];exact hz);refine ⟨.ref s.heap.objs.size,_,I.laid (t':=s.toks) (o:= .tup (xs++ys)) (λ b ob q=>z0j _ q) (z3p _) ?_,zr,q2 (λ w=>z (r2.q9w.mpr w)) _ (I.hok.fresh (z3p _))⟩;exact ⟨by rw [z1e];exact hz,_,r1.append r2,IsTup.new _ _⟩
end
def ixN (n:Nat) (i:Int):Option Nat:=if 0<=i then (if i < n then some i.toNat else none) else if -(n:Int)<=i then some (i+n).toNat else none
def atI {α:Type} (xs:List α) (i:Int):Option α:=(ixN xs.length i).bind λ j=>xs[j]?
theorem qrb {n:Nat} {i:Int} {j:Nat} (h:ixN n i=some j):seqIndex? i n=some j/\j < n/\ -(n:Int)<=i/\i < n:=by
 unfold ixN at h;by_cases J:0<=i
 ·rw [if_pos J] at h;by_cases h1:i < n
  ·rw [if_pos h1] at h;have e:i.toNat=j:=Option.some.inj h;exact ⟨by rw [seqIndex_of J h1,e],by lia,by lia,h1⟩
  ·rw [if_neg h1] at h;cases h
 ·rw [if_neg J] at h;by_cases h1: -(n:Int)<=i
  ·rw [if_pos h1] at h;have e:(i+n).toNat=j:=Option.some.inj h;exact ⟨by rw [seqIndex_neg (by lia) h1,e],by lia,h1,by lia⟩
  ·rw [if_neg h1] at h;cases h
theorem qdb {α:Type} {xs:List α} {i:Int} {v:α} (h:atI xs i=some v):∃ j,seqIndex? i xs.length=some j/\xs[j]? =some v/\j < xs.length/\ -(xs.length:Int)<=i/\i < xs.length:=by
 unfold atI at h;cases e:ixN xs.length i with
 | none=>rw [e] at h;cases h
 | some j=>
  rw [e] at h;obtain ⟨h1,h2,h3,h4⟩:=qrb e;exact ⟨j,h1,h,h2,h3,h4⟩
theorem q1b {α:Type} {xs:List α} {j:Nat} {v:α} (h:xs[j]? =some v):atI xs (j:Int)=some v:=by
 have hj:j < xs.length:=(z06.mp h).1;have e:ixN xs.length (j:Int)=some j:=by
  unfold ixN;rw [if_pos (by lia),if_pos (by lia)];simp
 unfold atI;rw [e];exact h
def qrc (b:Expr):Prop:=∀ o i,subscripted b false o i=operate [o,i] (getItem o i)
def IxR (X:Cx) (r:R2):Prop:=
 ∀ (value slice:Expr) (pins:List (Addr×Obj)) (s:Shared) (σ:St) (H:Hp) (x y:V) (v u:Value) (Q:VK),Inv X pins σ H s ->RelV x v ->RelV y u ->r x y H Q ->
  subscripted slice false v u=operate [v,u] (getItem v u) ->wpAny (model X.prog X.w) X.A (subscriptTail value slice v u) (EP X pins σ Q) X.xe s
def MtR (X:Cx) (id:String) (r:V ->List V ->Hp ->VK ->Prop):Prop:=
 ∀ (pins:List (Addr×Obj)) (s:Shared) (σ:St) (H:Hp) (x:V) (xs:List V) (v:Value) (us:List Value) (Q:VK),Inv X pins σ H s ->RelV x v ->Vals xs us ->r x xs H Q ->
  wpAny (model X.prog X.w) X.A (call (.builtin id) (v::us)) (EP X pins σ Q) X.xe s
section
variable {X:Cx} {a b:Expr} {ta tb:TE} {pos:Pos}
theorem qy {r:R2} (hr:IxR X r) (ha:PE X a ta) (hb:PE X b tb) (hs:qrc b):PE X (.Subscript a b pos) (tOp r ta tb):=by
 intro pins s σ H Q I h;exact Subscript_ (binT ha hb I h λ v u s2 x y H2 I2 rx ry q=>hr a b pins s2 σ H2 x y v u Q I2 rx ry q (hs _ _))
def rIxL (K:PySem.W.Frag):R2:=λ x y H Q=>∃ p xs i v,x= .ref p/\y= .int i/\SqL K H p xs/\atI xs i=some v/\Q v H
def rIxT (K:PySem.W.Frag):R2:=λ x y H Q=>∃ p xs i v,x= .ref p/\y= .int i/\SqT K H p xs/\atI xs i=some v/\Q v H
def rIxS:R2:=λ x y H Q=>∃ z i c,x= .str z/\y= .int i/\z.length<=sizeLine/\atI z.cps.toList i=some c/\Q (.str ⟨#[c]⟩) H
theorem qrd:IxR X (rIxL X.K):=by
  intro value U pins s σ H x y v u Q I rx ry h hs;obtain ⟨p,xs,i,z,rfl,rfl,hq,he,q⟩:=h;cases rx
  obtain ⟨t,rfl⟩:=ry;obtain ⟨its,r,pl,hz⟩:=I.list hq;obtain ⟨j,h1,h2,h3,h4,h5⟩:=qdb he;obtain ⟨w,Y,O⟩:=r.get h2;have hl:=r.length;have hn:=qc4;have fin:EP X pins σ Q w s:=⟨z,H,I,O,q⟩;by_cases Z:0<=i
  · have J:i.toNat=j:=by
      rw [seqIndex_of Z h5] at h1;exact Option.some.inj h1
    exact item_listR pl.isList Z (by lia) (by rw [J];simpa using Y) fin hs
  · have J:(i+(its.toArray.size:Int)).toNat=j:=by
      rw [seqIndex_neg (by lia) h4] at h1;rw [z1t,<- hl];exact Option.some.inj h1
    exact subscriptTail_builtinR (x:=w) pl.isList.typeIs slot_list_getitem.lookup
      (wpAny_getItem_list_neg (Q:=λ r s'=>r=w/\EP X pins σ Q r s') pl.isList (by lia) (by rw [z1t] <;> lia) (by lia) (by rw [J];simpa using Y) ⟨rfl,fin⟩) hs
theorem qt8:IxR X (rIxT X.K):=by
 intro value O pins s σ H x y v u Q I rx ry h hs;obtain ⟨p,xs,i,z,rfl,rfl,hq,he,q⟩:=h;cases rx
 obtain ⟨t,rfl⟩:=ry;obtain ⟨its,r,pl,hz⟩:=I.tuple hq;obtain ⟨j,h1,h2,h3,h4,h5⟩:=qdb he;obtain ⟨w,ew,J⟩:=r.get h2;have hl:=r.length;have hn:=qc4;have fin:EP X pins σ Q w s:=⟨z,H,I,J,q⟩;exact subscriptTail_builtinR (x:=w) pl.typeIs slot_tuple_getitem.lookup
  (getItem_tuple (j:=j) (Q:=λ r s'=>r=w/\EP X pins σ Q r s') pl (by lia) (by lia) (by rw [z1t,<- hl];exact h1) (by simpa using ew) ⟨rfl,fin⟩) hs
theorem qt9:IxR X rIxS:=by
 intro value J pins s σ H x y v u Q I rx ry h hs;obtain ⟨z,i,c,rfl,rfl,hz,he,q⟩:=h;obtain ⟨t,rfl⟩:=rx;obtain ⟨t',rfl⟩:=ry;obtain ⟨j,h1,h2,h3,h4,h5⟩:=qdb he;have hl:z.cps.toList.length=z.length:=by simp [Str.length]
 rw [hl] at h1 h4 h5;have hn:=qc4;exact tail_any (typeIs_str s z t) slot_str_getitem.lookup (getItem_str (c:=c) (by
  have e1:decide (i < -(2^63:Int))=false:=z2h (by lia);have e2:decide (i >=2^63)=false:=z2h (by lia);rw [e1,e2,Bool.or_false]) (by rw [h1];simpa using h2) ⟨.str ⟨#[c]⟩,H,I.tok _,⟨_,rfl⟩,q⟩) hs
theorem qhd (lo hi:Option Int) (n:Nat):(sliceBounds lo hi none n).1=((HT.sIx n 0 lo:Nat):Int)/\(sliceBounds lo hi none n).2.1=((HT.sIx n n hi:Nat):Int)/\(sliceBounds lo hi none n).2.2=1:=by
 refine ⟨?_,?_,zr⟩
 ·cases lo with
  | none=>simp [sliceBounds,HT.sIx]
  | some i=>
   simp only [sliceBounds,HT.sIx,Option.getD_none,show (1:Int) > 0 by decide,if_true];by_cases h:i < 0
   ·simp only [h,if_true] <;> lia
   ·simp only [h,if_false] <;> lia
 ·cases hi with
  | none=>simp [sliceBounds,HT.sIx]
  | some i=>
   simp only [sliceBounds,HT.sIx,Option.getD_none,show (1:Int) > 0 by decide,if_true];by_cases h:i < 0
   ·simp only [h,if_true] <;> lia
   ·simp only [h,if_false] <;> lia
theorem qfo (its:List Value) (lo hi:Option Int):slicePick its.toArray lo hi none=((its.drop (HT.sIx its.length 0 lo)).take (HT.sIx its.length its.length hi - HT.sIx its.length 0 lo)).toArray:=by
 obtain ⟨h1,h2,h3⟩:=qhd lo hi its.toArray.size;unfold slicePick;rw [h1,h2,h3];simp only [sliceRange_one,pick_run,z1t] <;> rfl
def rSlL (K:PySem.W.Frag):V ->Option Int ->Option Int ->Hp ->VK ->Prop:=λ x lo hi H Q=>∃ a xs,x= .ref a/\SqL K H a xs/\∀ p,H p=none ->Q (.ref p) (upd H p (.lst (cutV xs lo hi)))
theorem qre:SlR X (rSlL X.K):=by
 intro pins s σ H x v vl vu lo hi sl Q I rx hs pl pu h;obtain ⟨a,xs,rfl,hx,q⟩:=h;cases rx
 obtain ⟨its,r,O,hz⟩:=I.list hx;have J:=r.length;refine ⟨"list",_,slot_list_getitem.lookup,O.isList.typeIs,?_⟩;refine wpAny_getItem_list_slice O.isList hs pl pu .none (by simp) ?_ (by rw [z1t] <;> lia);rw [qfo,<- J];refine ⟨.ref s.heap.objs.size,_,I.laid (t':=s.toks) (o:= .lst (cutV xs lo hi)) (λ b ob q=>z0j _ q) (z3p _) ?_,zr,q _ (I.hok.fresh (z3p _))⟩;exact ⟨z3i (qai xs lo hi) hz,_,0,(r.drop (HT.sIx xs.length 0 lo)).take (HT.sIx xs.length xs.length hi - HT.sIx xs.length 0 lo),z15 _ rfl⟩
def q62:V ->Bool
 | .non=>true
 | .bl _=>true
 | .int _=>true
 | .str _=>true
 | _=>false
def eqV:V ->V ->Bool
 | .non,.non=>true
 | .bl a,.bl b=>a==b
 | .bl a,.int b=>(if a then 1 else 0)==b
 | .int a,.bl b=>a==(if b then 1 else 0)
 | .int a,.int b=>a==b
 | .str a,.str b=>a==b
 | _,_=>false
theorem qta {A:Around} {s:Shared} {y x:V} {u v:Value} (ry:RelV y u) (rx:RelV x v) (fy:q62 y=true) (J:q62 x=true):SeqAt.EqAt A s u v (eqV y x):=by
 cases y with
 | non=>
  cases ry
  cases x with
  | non=>cases rx;exact SeqAt.EqAt.same _
  | bl b=>cases rx;exact SeqAt.EqAt.none_bool b
  | int b=>obtain ⟨t,rfl⟩:=rx;exact SeqAt.EqAt.none_int b t
  | str b=>obtain ⟨t,rfl⟩:=rx;exact SeqAt.EqAt.none_str b t
  | _=>exact absurd (show false=true from J) z1b
 | bl a=>
  cases ry
  cases x with
  | non=>cases rx;exact SeqAt.EqAt.bool_none a
  | bl b=>cases rx;exact SeqAt.EqAt.bool_bool a b
  | int b=>obtain ⟨t,rfl⟩:=rx;exact SeqAt.EqAt.bool_int a b t
  | str b=>obtain ⟨t,rfl⟩:=rx;exact SeqAt.EqAt.bool_str a b t
  | _=>exact absurd (show false=true from J) z1b
 | int a=>
  obtain ⟨t',rfl⟩:=ry;cases x with
  | non=>cases rx;exact SeqAt.EqAt.int_none a t'
  | bl b=>cases rx;exact SeqAt.EqAt.int_bool a t' b
  | int b=>obtain ⟨t,rfl⟩:=rx;exact SeqAt.EqAt.int_int a t' b t
  | str b=>obtain ⟨t,rfl⟩:=rx;exact SeqAt.EqAt.int_str a t' b t
  | _=>exact absurd (show false=true from J) z1b
 | str a=>
  obtain ⟨t',rfl⟩:=ry;cases x with
  | non=>cases rx;exact SeqAt.EqAt.str_none a t'
  | bl b=>cases rx;exact SeqAt.EqAt.str_bool a t' b
  | int b=>obtain ⟨t,rfl⟩:=rx;exact SeqAt.EqAt.str_int a t' b t
  | str b=>obtain ⟨t,rfl⟩:=rx;exact SeqAt.EqAt.str_str a t' b t
  | _=>exact absurd (show false=true from J) z1b
 | _=>exact absurd (show false=true from fy) z1b
def eqU (x:V) (u:Value):Bool:=match u with
 | .none=>eqV .non x
 | .bool b=>eqV (.bl b) x
 | .int i _=>eqV (.int i) x
 | .str z _=>eqV (.str z) x
 | _=>false
theorem qm7 {x y:V} {u:Value} (r:RelV y u) (f:q62 y=true):eqU x u=eqV y x:=by
 cases y with
 | non=>cases r;rfl
 | bl b=>cases r;rfl
 | int i=>obtain ⟨t,rfl⟩:=r;rfl
 | str z=>obtain ⟨t,rfl⟩:=r;rfl
 | _=>exact absurd (show false=true from f) z1b
theorem qdc {x:V}:∀ {xs:List V} {us:List Value},Vals xs us ->xs.all q62=true ->us.any (eqU x)=xs.any λ y=>eqV y x
 | _,_,.nil,_=>rfl
 | y::xs,u::us,.cons r t,f=>by
  rw [List.all_cons,z28] at f;rw [z38,z38,qm7 r f.1,qdc t f.2]
theorem qb6 {A:Around} {s:Shared} {x:V} {v:Value} (rx:RelV x v) (O:q62 x=true):∀ {xs:List V} {us:List Value},Vals xs us ->xs.all q62=true ->∀ u∈us,SeqAt.EqAt A s u v (eqU x u)
 | _,_,.nil,_=>λ u J=>by cases J
 | y::xs,u::us,.cons r t,f=>λ u' J=>by
  rw [List.all_cons,z28] at f;rcases z35.mp J with rfl | J
  ·rw [qm7 r f.1];exact qta r rx f.1 O
  ·exact qb6 rx O t f.2 u' J
def inV (x:V) (xs:List V):Bool:=xs.any λ y=>eqV y x
def rIn (K:PySem.W.Frag) (neg:Bool):R2:=λ x y H Q=>∃ p xs,y= .ref p/\(SqL K H p xs\/ SqT K H p xs)/\q62 x=true/\xs.all q62=true/\Q (.bl (if neg then !inV x xs else inV x xs)) H
theorem qm8:OpR X (compareOp .In) (rIn X.K false):=by
 intro pins s σ H x y v u Q I rx ry h;obtain ⟨p,xs,rfl,hq,J,fs,q⟩:=h;cases ry
 rcases hq with hq | hq
 ·obtain ⟨its,r,pl,hz⟩:=I.list hq;refine SeqAt.in_listAt (eqU x) pl.isList (λ w hw=>qb6 rx J r fs w (by simpa using hw)) ⟨.bl _,H,I,zr,?_⟩;rw [show its.toArray.any (eqU x)=its.any (eqU x) by simp,qdc r fs];exact q
 ·obtain ⟨its,r,pl,hz⟩:=I.tuple hq;refine SeqAt.in_tupleAt (eqU x) pl (λ w hw=>qb6 rx J r fs w (by simpa using hw)) ⟨.bl _,H,I,zr,?_⟩;rw [show its.toArray.any (eqU x)=its.any (eqU x) by simp,qdc r fs];exact q
theorem qhe:q20 X (.type "list") (λ xs H Q=>∃ p ys,xs=[.ref p]/\(SqL X.K H p ys\/ SqT X.K H p ys)/\∀ l,H l=none ->Q (.ref l) (upd H l (.lst ys))):=by
 intro pins s σ H xs us Q I r h;obtain ⟨p,ys,rfl,hq,q⟩:=h;obtain ⟨u,rfl,rx⟩:=q2b r;cases rx
 have fin:∀ (its:List Value),Vals ys its ->ys.length<=sizeLine ->∀ (h':Heap) (J:Nat),(∀ b o',s.heap.get? b=some o' ->h'.get? b=some o') ->
   h'.get? s.heap.objs.size=some {cls:= .type "list",dict:=none,data:= .seq its.toArray J,slots:=#[]} ->EP X pins σ Q (.ref s.heap.objs.size) {s with heap:=h'}:=λ its O hz h' J kp e=>
  ⟨.ref s.heap.objs.size,_,I.laid (t':=s.toks) kp (z3p _) (show ObjOk X.prog X.w _ h' _ (.lst ys) from ⟨hz,its,J,O,e⟩),rfl,q _ (I.hok.fresh (z3p _))⟩
 rcases hq with hq | hq
 ·obtain ⟨its,O,pl,hz⟩:=I.list hq;have U:=O.length;obtain ⟨o,ho,Y,n,hd⟩:=pl.isList;exact call_list_seq p (.inl rfl) ho Y hd (λ h' J kp e=>fin its O hz h' J kp e) (by simp only [z1t] <;> lia)
 ·obtain ⟨its,O,pl,hz⟩:=I.tuple hq;have U:=O.length;obtain ⟨o,ho,Y,n,hd⟩:=pl;exact call_list_seq p (.inr rfl) ho Y hd (λ h' J kp e=>fin its O hz h' J kp e) (by simp only [z1t] <;> lia)
theorem qfp:q20 X (.type "tuple") (λ xs H Q=>∃ p ys,xs=[.ref p]/\((SqL X.K H p ys/\∀ l,H l=none ->Q (.ref l) (upd H l (.tup ys)))\/ (SqT X.K H p ys/\Q (.ref p) H))):=by
 intro pins s σ H xs us Q I r h;obtain ⟨p,ys,rfl,h⟩:=h;obtain ⟨u,rfl,rx⟩:=q2b r;cases rx
 rcases h with ⟨hq,q⟩ | ⟨hq,q⟩
 ·obtain ⟨its,J,pl,hz⟩:=I.list hq;have O:=J.length;refine call_tuple_list pl.isList (λ h' kp=> ?_) (by simp only [z1t] <;> lia);have I1:Inv X pins σ H {s with heap:=h'}:=I.kept (t':=s.toks) kp;have I2:Inv X pins σ (upd H h'.objs.size (.tup ys)) {s with heap:=h'.push {cls:= .type "tuple",data:= .seq its.toArray}}:=
   I1.laid (t':=s.toks) (λ b o e=>z0j _ e) (z3p _) (show ObjOk X.prog X.w _ _ _ (.tup ys) from ⟨hz,its,J,IsTup.new _ _⟩)
  exact ⟨.ref h'.objs.size,_,I2,zr,q _ (I1.hok.fresh (z3p _))⟩
 ·obtain ⟨its,J,pl,hz⟩:=I.tuple hq;exact call_tuple_same pl ⟨.ref p,H,I,zr,q⟩
def tyV (K:PySem.W.Frag) (T:String) (x:V) (H:Hp):Prop:=match x with
 | .str _=>T="str"
 | .int _=>T="int"
 | .ref p=>(T="list"/\∃ xs,SqL K H p xs)\/ (T="tuple"/\∃ o,K.lookup p=some o/\o.cls= .type "tuple"/\o.dict=none)\/
   (T="dict"/\((∃ kvs,H p=some (.dK kvs))\/ ∃ kvs,H p=some (.dT kvs)))\/ (T="set"/\∃ S n,H p=some (.set S n))
 | _=>False
theorem qtb {pins:List (Addr×Obj)} {σ:St} {H:Hp} {s:Shared} {T:String} {x:V} {v:Value} (I:Inv X pins σ H s) (r:RelV x v) (ty:tyV X.K T x H):
    s.TypeIs v T/\∀ a,v= .ref a ->∃ O,s.heap.get? a=some O/\O.dict=none:=by
  cases x with
  | str z=>
    obtain ⟨t,rfl⟩:=r;cases (show T="str" from ty)
    exact ⟨typeIs_str s z t,λ _ e=>nomatch e⟩
  | int i=>
    obtain ⟨t,rfl⟩:=r;cases (show T="int" from ty)
    exact ⟨typeIs_int s i t,λ _ e=>nomatch e⟩
  | ref p=>
    cases r
    rcases ty with ⟨rfl,xs,hq⟩ | ⟨rfl,o,J,hc,hd⟩ | ⟨rfl,J⟩ | ⟨rfl,S,n,J⟩
    · obtain ⟨its,_,pl,_⟩:=I.list hq
      refine ⟨pl.isList.typeIs,λ a e=> ?_⟩;cases e
      obtain ⟨o,n,e,c,hd,_⟩:=pl;exact ⟨o,e,hd⟩
    · refine ⟨⟨o,I.kIn p o J,hc⟩,λ a e=> ?_⟩
      cases e
      exact ⟨o,I.kIn _ o J,hd⟩
    · have z:∃ o,s.heap.get? p=some o/\o.ExactDict:=by
        rcases J with ⟨kvs,J⟩ | ⟨kvs,J⟩
        · obtain ⟨_,_,_,_,o,_,_,e,ex,_⟩:=I.hok p _ J
          exact ⟨o,e,ex⟩
        · obtain ⟨_,_,_,_,o,_,_,e,ex,_⟩:=I.hok p _ J
          exact ⟨o,e,ex⟩
      obtain ⟨o,e,ex⟩:=z;refine ⟨⟨o,e,ex.1⟩,λ a e2=> ?_⟩;cases e2
      exact ⟨o,e,ex.2.1⟩
    · obtain ⟨o,_,_,_,e,ex,_⟩:=I.hok p _ J
      refine ⟨⟨o,e,ex.1⟩,λ a e2=> ?_⟩;cases e2
      exact ⟨o,e,ex.2.1⟩
  | _=>exact False.elim ty
def tBM (K:PySem.W.Frag) (T:String) (r:V ->List V ->Hp ->VK ->Prop) (to:TE) (t:TA):TE:=λ σ H Q=>to σ H λ x H1=>tyV K T x H1/\t σ H1 λ xs H2=>r x xs H2 Q
variable {o e:Expr} {es:List Expr} {to:TE} {t:TA} {name:Str} {apos cpos:Pos} {T id:String} {r:V ->List V ->Hp ->VK ->Prop}
theorem qgp (pa:PlainAttrs T) (slot:Slot T name id) (Z:typeOf (.builtin id)=pure (.type "method_descriptor")) (hm:MtR X id r) (ho:PE X o to) (ha:PA X (e::es) t)
  (O:attributeBase o name X.env (eval o X.env)=eval o X.env:=by rfl)
  (Y:((backTo cpos (starEach (e::es) X.env)).all (λ x=> !x.1)&&(backToKw cpos (keywordEach [] X.env)).all (λ x=>x.1.isSome)
   &&decide ((e::es).length+([]:List Keyword).length+(if ([]:List Keyword).isEmpty then 0 else 1) < 30))=true:=by rfl)
  (U:(apos.endLine==cpos.line)=true:=by rfl) (hs:starEach (e::es) X.env=(false,eval e X.env)::starEach es X.env:=by rfl) (J:(backTo cpos (starEach es X.env)).any (·.1)=false:=by rfl):
  PE X (.Call (.Attribute o name apos) (e::es) [] cpos) (tBM X.K T r to t):=by
 intro pins s σ H Q I h;refine wpAny_Call_method_late O Y U rfl (thn (ho pins s σ H _ I h) λ v s1 a1=> ?_);obtain ⟨x,H1,I1,r1,ty,q1⟩:=a1;obtain ⟨h1,h2⟩:=qtb I1 r1 ty;refine ⟨T,id,pa,slot,Z,h1,h2,?_⟩;have hA:=ha cpos pins s1 σ H1 _ I1 q1;rw [hs] at hA ⊢;refine Calls.callWith_builtin (by show (false || (backTo cpos (starEach es X.env)).any (·.1))=false;rw [J] <;> rfl) (Calls.evalArgs_plain ?_);exact thn hA λ us s2 ⟨vs,H2,I2,r2,q2⟩=>hm pins s2 σ H2 x vs v us Q I2 r1 r2 q2
/- xs.append(e),list.index on a module's tuple .. are MtR facts of 06m -/
end
def MtM (X:Cx) (id:String) (r:V ->List V ->Hp ->VK ->Prop):Prop:=
 ∀ (pins:List (Addr×Obj)) (s:Shared) (σ:St) (H:Hp) (x:V) (xs:List V) (v:Value) (us:List Value) (Q:VK),Inv X pins σ H s ->RelV x v ->Vals xs us ->r x xs H Q ->
  wpAny (model X.prog X.w) X.A (call (.builtin id) (v::us)) (EP X pins σ Q) X.xe s
theorem Vals.one:∀ {x:V} {us:List Value},Vals [x] us ->∃ u,us=[u]/\RelV x u
 | _,_,.cons r .nil=>⟨_,rfl,r⟩
section
variable {X:Cx} {pins:List (Addr×Obj)} {σ:St} {H:Hp} {s:Shared} {l b:Addr} {xs ys zs:List V}
theorem Inv.lset {its its':List Value} {n:Nat} {f:Array Value ->Array Value} {t':Nat} (I:Inv X pins σ H s) (hH:H l=some (.lst xs))
  (e:s.heap.get? l=some {cls:= .type "list",data:= .seq its.toArray n}) (hf:f its.toArray=its'.toArray) (hv:Vals ys its') (hz:ys.length<=sizeLine):
  Inv X pins σ (upd H l (.lst ys)) {s with heap:=s.heap.update l (Obj.mapSeq f),toks:=t'}:=by
 have q:=PySem.IsL.update e f;rw [hf] at q;refine I.write (x:=l) (e:=l) (by rw [hH];exact trivial) (.inl rfl) (λ b' u hb hu=>(z0k s.heap (Obj.mapSeq f) (Ne.symm hb)).trans hu) ⟨_,q⟩ ?_;exact ⟨hz,its',_,hv,q⟩
theorem Inv.lnew {its:List Value} {t':Nat} (I:Inv X pins σ H s) (hv:Vals ys its) (hz:ys.length<=sizeLine):
  Inv X pins σ (upd H s.heap.objs.size (.lst ys)) {s with heap:=s.heap.push {cls:= .type "list",data:= .seq its.toArray},toks:=t'}:=
 I.laid (λ _ _ q=>z0j _ q) (z3p _) ⟨hz,its,0,hv,z15 _ rfl⟩
theorem Inv.fresh (I:Inv X pins σ H s):H s.heap.objs.size=none:=I.hok.fresh (z3p _)
theorem Inv.lstM (I:Inv X pins σ H s) (hH:H l=some (.lst xs)):xs.length<=sizeLine/\∃ (its:List Value) (n:Nat),Vals xs its/\xs.length=its.length/\s.heap.get? l=some {cls:= .type "list",data:= .seq its.toArray n}:=by
 obtain ⟨z,its,n,r,e⟩:=I.hok l _ hH;exact ⟨z,its,n,r,r.length,e⟩
end
section
variable {X:Cx}
def qrf:V ->List V ->Hp ->VK ->Prop:=λ x vs H Q=>∃ l xs y,x= .ref l/\vs=[y]/\H l=some (.lst xs)/\xs.length < sizeLine/\Q .non (upd H l (.lst (xs++ [y])))
theorem q56:MtM X "list.append" qrf:=by
 intro pins s σ H x vs v us Q I rx rv h;obtain ⟨l,xs,y,rfl,rfl,J,hz,q⟩:=h;cases rx
 obtain ⟨u,rfl,ru⟩:=rv.one;obtain ⟨z,its,n,r,hl,e⟩:=I.lstM J;refine call_meets F.slot_list_append ⟨_,e,rfl⟩ F.entry_list_append (F.args_list_append_2 _ _) (PySem.list_append l its.toArray n u (by rw [z1t];lia)) ⟨e,?_⟩;refine ⟨.non,_,I.lset (its':=its++ [u]) J e (by simp) (r.append (.cons ru .nil)) ?_,zr,q⟩;rw [z1e,List.length_singleton]
 lia
def rCat:R2:=λ x y H Q=>∃ l b xs zs,x= .ref l/\y= .ref b/\H l=some (.lst xs)/\H b=some (.lst zs)/\xs.length+zs.length<=sizeLine/\∀ p,H p=none ->Q (.ref p) (upd H p (.lst (xs++zs)))
theorem qtc:OpR X (binaryOp .Add) rCat:=by
 intro pins s σ H x y v u Q I rx ry h;obtain ⟨l,b,xs,zs,rfl,rfl,hH,hB,hz,q⟩:=h;cases rx
 cases ry
 obtain ⟨z,its,n,r,hl,e⟩:=I.lstM hH;obtain ⟨z2,J,n2,r2,hl2,e2⟩:=I.lstM hB;refine PySem.P.add_list e e2 ?_ (by rw [z1t,z1t];lia);have ea:its.toArray++J.toArray=(its++J).toArray:=by simp
 rw [ea];exact ⟨.ref _,_,I.lnew (t':=s.toks) (r.append r2) (by rw [z1e];lia),rfl,q _ I.fresh⟩
end
section
variable {prog:Program} {w:World} {A:Around} {E:Value ->Shared ->Prop} {s:Shared}
end
section
variable {X:Cx}
end
section
variable {κ:Type} [DecidableEq κ]
def valV (kvs:List (κ×V)) (k:κ):Option V:=(kvs.find? λ kv=>decide (kv.1=k)).map (·.2)
def putK (kvs:List (κ×V)) (k:κ) (v:V):List (κ×V):=
 if (kvs.any λ kv=>decide (kv.1=k))=true then kvs.map (λ kv=>if kv.1=k then (kv.1,v) else kv) else kvs++ [(k,v)]
def q2l (kvs:List (κ×V)) (k:κ):List (κ×V):=kvs.filter λ kv=>decide (kv.1≠k)
theorem q1k {p:κ×V} {r:List (κ×V)} {k:κ} (e:p.1=k):valV (p::r) k=some p.2:=by simp [valV,z2o,e]
theorem q1c {p:κ×V} {r:List (κ×V)} {k:κ} (e:¬ p.1=k):valV (p::r) k=valV r k:=by simp [valV,z2o,e]
theorem q2n (k:κ):∀ kvs:List (κ×V),(kvs.any λ kv=>decide (kv.1=k))=(valV kvs k).isSome
 | []=>rfl
 | p::r=>by
  rw [z38];by_cases e:p.1=k
  ·simp only [q1k e,z2w e,Bool.true_or,Option.isSome_some]
  ·rw [q1c e,z2h e,Bool.false_or];exact q2n k r
theorem qhf (k j:κ) (y:V):∀ kvs:List (κ×V),valV (kvs.map λ kv=>if kv.1=k then (kv.1,y) else kv) j=(valV kvs j).map λ x=>if j=k then y else x
 | []=>rfl
 | p::r=>by
  have J:=qhf k j y r;rw [z33];by_cases h:p.1=k
  ·rw [if_pos h];by_cases e:p.1=j
   ·rw [q1k (p:=(p.1,y)) e,q1k e,Option.map_some,if_pos (e.symm.trans h)]
   ·rw [q1c (p:=(p.1,y)) e,q1c e,J]
  ·rw [if_neg h];by_cases e:p.1=j
   ·rw [q1k (p:=p) e,q1k e,Option.map_some,if_neg (λ z=>h (e.trans z))]
   ·rw [q1c (p:=p) e,q1c e,J]
theorem qf0 (k j:κ) (y:V):∀ kvs:List (κ×V),valV kvs k=none ->valV (kvs++ [(k,y)]) j=if j=k then some y else valV kvs j
 | [],_=>by
  by_cases e:k=j
  ·rw [if_pos e.symm];exact q1k (p:=(k,y)) e
  ·rw [if_neg (λ z=>e z.symm)];exact q1c (p:=(k,y)) e
 | p::r,hn=>by
  rw [List.cons_append];have J:¬ p.1=k:=λ z=>by rw [q1k z] at hn;cases hn
  rw [q1c J] at hn;have ih:=qf0 k j y r hn;by_cases e:p.1=j
  ·rw [q1k e,q1k e,if_neg (λ z=>J (e.trans z))]
  ·rw [q1c e,q1c e,ih]
theorem q1w (kvs:List (κ×V)) (k j:κ) (y:V):valV (putK kvs k y) j=if j=k then some y else valV kvs j:=by
 unfold putK;by_cases a:(kvs.any λ kv=>decide (kv.1=k))=true
 ·rw [if_pos a,qhf];rw [q2n] at a;by_cases e:j=k
  ·obtain ⟨x,hx⟩:=Option.isSome_iff_exists.mp a;rw [if_pos e,e,hx,Option.map_some,if_pos rfl]
  ·rw [if_neg e];cases valV kvs j with
   | none=>rfl
   | some x=>rw [Option.map_some,if_neg e]
 ·rw [if_neg a];refine qf0 k j y kvs ?_;rw [q2n] at a;cases q:valV kvs k with
  | none=>rfl
  | some x=>rw [q] at a;exact (a rfl).elim
theorem q4z (kvs:List (κ×V)) (k:κ) (v:V):(putK kvs k v).length<=kvs.length+1:=by
 unfold putK;split
 ·rw [z2l];lia
 ·rw [z1e,z24,z2p];lia
theorem RelO.q36 {o:Option V} {u:Option Value} (r:RelO o u):o.isSome=u.isSome:=by
 cases o with
 | none=>cases u with
  | none=>rfl
  | some _=>exact (show False from r).elim
 | some _=>cases u with
  | none=>exact (show False from r).elim
  | some _=>rfl
theorem RelO.getD {o:Option V} {u:Option Value} {d:V} {d':Value} (r:RelO o u) (rd:RelV d d'):RelV (o.getD d) (u.getD d'):=by
 cases o with
 | none=>cases u with
  | none=>exact rd
  | some _=>exact (show False from r).elim
 | some _=>cases u with
  | none=>exact (show False from r).elim
  | some _=>exact r
theorem KV.val {kvs:List (κ×V)} {vs:List (κ×Value)} (r:KV kvs vs) (k:κ):RelO (valV kvs k) (valueAt vs k):=by
 unfold KV at r
 induction r with
 | nil=>exact True.intro
 | @cons p q ps J h t ih=>
  obtain ⟨h1,h2⟩:=h;by_cases e:p.1=k
  ·have e':q.1=k:=h1.symm.trans e;have b:valueAt (q::J) k=some q.2:=by simp [valueAt,z2o,e']
   rw [q1k e,b];exact h2
  ·have e':¬ q.1=k:=λ z=>e (h1.trans z);have b:valueAt (q::J) k=valueAt J k:=by simp [valueAt,z2o,e']
   rw [q1c e,b];exact ih
theorem KV.any {kvs:List (κ×V)} {vs:List (κ×Value)} (r:KV kvs vs) (k:κ):(kvs.any λ kv=>decide (kv.1=k))=vs.any λ kv=>decide (kv.1=k):=by
 unfold KV at r
 induction r with
 | nil=>rfl
 | cons h t ih=>rw [z38,z38,ih,h.1]
theorem KV.repl {kvs:List (κ×V)} {vs:List (κ×Value)} (r:KV kvs vs) (k:κ) {y:V} {u:Value} (ry:RelV y u):
  KV (kvs.map λ kv=>if kv.1=k then (kv.1,y) else kv) (vs.map λ kv=>if kv.1=k then (kv.1,u) else kv):=by
 unfold KV at r ⊢
 induction r with
 | nil=>exact .nil
 | @cons p q ps qs h t ih=>
  rw [z33,z33];refine .cons ?_ ih;obtain ⟨h1,h2⟩:=h;by_cases e:p.1=k
  ·rw [if_pos e,if_pos (h1.symm.trans e)];exact ⟨h1,ry⟩
  ·rw [if_neg e,if_neg (λ z=>e (h1.trans z))];exact ⟨h1,h2⟩
theorem KV.put {kvs:List (κ×V)} {vs:List (κ×Value)} (r:KV kvs vs) (k:κ) {y:V} {u:Value} (ry:RelV y u):KV (putK kvs k y) (stored vs k u):=by
 unfold putK stored;rw [r.any k];by_cases e:(vs.any λ kv=>decide (kv.1=k))=true
 ·rw [if_pos e,if_pos e];exact r.repl k ry
 ·rw [if_neg e,if_neg e];exact Paired.snoc r ⟨rfl,ry⟩
theorem KV.length {kvs:List (κ×V)} {vs:List (κ×Value)} (r:KV kvs vs):kvs.length=vs.length:=Paired.length r
end
theorem q70 {P:Program} {w:World} {k:Key} {u:Value} (r:RelV (kV k) u):(qz P w).is k u=true:=by
 cases k with
 | inl i=>obtain ⟨t,e⟩:=(show ∃ t,u=Value.int i t from r);subst e;exact qj0 P w i t
 | inr x=>obtain ⟨t,e⟩:=(show ∃ t,u=Value.str x t from r);subst e;exact qj1 P w x t
theorem qtd {a b:Key} (e:kV a=kV b):a=b:=by
 cases a with
 | inl i=>cases b with
  | inl j=>have e':V.int i=V.int j:=e;injection e' with e';rw [e']
  | inr y=>exact nomatch (show V.int i=V.str y from e)
 | inr x=>cases b with
  | inl j=>exact nomatch (show V.str x=V.int j from e)
  | inr y=>have e':V.str x=V.str y:=e;injection e' with e';rw [e']
theorem qf1 {P:Program} {w:World}:∀ {ks:List Key} {us:List Value},Vals (ks.map kV) us ->ItemsAre (qz P w) ks us
 | [],_,r=>by rw [z3l] at r;cases r;exact .nil
 | k::ks,_,r=>by
  rw [z33] at r;cases r with
  | cons h t=>exact .cons (q70 h) (qf1 t)
abbrev KT (H:Hp):List (List Key×V) ->List (List Key×Addr×Value) ->Prop:=Paired λ p q=>p.1=q.1/\H q.2.1=some (.tup (p.1.map kV))/\RelV p.2 q.2.2
theorem KT.val {H:Hp} {kvs:List (List Key×V)} {xs:List (List Key×Addr×Value)} (r:KT H kvs xs) (k:List Key):RelO (valV kvs k) ((atKey xs k).map (·.2)):=by
 induction r with
 | nil=>exact True.intro
 | @cons p q ps J h t ih=>
  obtain ⟨h1,_,h2⟩:=h;by_cases e:p.1=k
  ·have e':q.1=k:=h1.symm.trans e;have b:atKey (q::J) k=some q.2:=by simp [atKey,z2o,e']
   rw [q1k e,b];exact h2
  ·have e':¬ q.1=k:=λ z=>e (h1.trans z);have b:atKey (q::J) k=atKey J k:=by simp [atKey,z2o,e']
   rw [q1c e,b];exact ih
theorem KT.repl {H:Hp} {kvs:List (List Key×V)} {xs:List (List Key×Addr×Value)} (r:KT H kvs xs) (k:List Key) {y:V} {u:Value} (ry:RelV y u):
  KT H (kvs.map λ kv=>if kv.1=k then (kv.1,y) else kv) (xs.map (putAt k u)):=by
 induction r with
 | nil=>exact .nil
 | @cons p q ps qs h t ih=>
  rw [z33,z33];refine .cons ?_ ih;obtain ⟨h1,h2,h3⟩:=h;unfold putAt;by_cases e:p.1=k
  ·rw [if_pos e,if_pos (h1.symm.trans e)];exact ⟨h1,h2,ry⟩
  ·rw [if_neg e,if_neg (λ z=>e (h1.trans z))];exact ⟨h1,h2,h3⟩
theorem KT.put {H:Hp} {kvs:List (List Key×V)} {xs:List (List Key×Addr×Value)} (r:KT H kvs xs) (k:List Key) {b:Addr} {y:V} {u:Value} (hb:H b=some (.tup (k.map kV))) (ry:RelV y u):
  KT H (putK kvs k y) (storedH xs k b u):=by
 have e:(kvs.any λ kv=>decide (kv.1=k))=(atKey xs k).isSome:=by
  rw [q2n,(r.val k).q36,Option.isSome_map]
 unfold putK storedH;rw [e];by_cases q:(atKey xs k).isSome=true
 ·rw [if_pos q,if_pos q];exact r.repl k ry
 ·rw [if_neg q,if_neg q];exact Paired.snoc r ⟨rfl,hb,ry⟩
theorem KT.keeps {H H':Hp} {kvs:List (List Key×V)} {xs:List (List Key×Addr×Value)} (r:KT H kvs xs) (ht:∀ b ys,H b=some (.tup ys) ->H' b=some (.tup ys)):KT H' kvs xs:=
 Paired.mapP r λ _ _ z=>⟨z.1,ht _ _ z.2.1,z.2.2⟩
section
variable {P:Program} {w:World} {H:Hp} {h:Heap} {a:Addr}
theorem qq8 {u:HO} (ok:HOk P w H h) (e:Rd H a u):ObjOk P w H h a u:=e.ok ok
theorem q86 {kvs:List (Key×V)} (ok:HOk P w H h) (e:Rd H a (.dK kvs)):kvs.length<=sizeLine/\(a==sysModules)=false/\∃ vs,KV kvs vs/\h.DictOf (qz P w) a vs:=
 show ObjOk P w H h a (.dK kvs) from qq8 ok e
theorem qq9 {kvs:List (Key×V)} (ok:HOk P w H h) (e:H a=some (.dK kvs)):kvs.length<=sizeLine/\(a==sysModules)=false/\∃ vs,KV kvs vs/\h.DictOf (qz P w) a vs:=q86 ok (.inl e)
theorem q7m {ks:List Key} (ok:HOk P w H h) (e:H a=some (.tup (ks.map kV))):(tupleKind (qz P w)).is h ks a:=by
 obtain ⟨_,its,r,o,h1,h2,n,h3⟩:=(show ObjOk P w H h a (.tup (ks.map kV)) from ok a _ e);exact ⟨o,its.toArray,n,h1,h2,h3,by simpa using qf1 r⟩
theorem q87 {kvs:List (List Key×V)} (ok:HOk P w H h) (e:Rd H a (.dT kvs)):kvs.length<=sizeLine/\(a==sysModules)=false/\
  ∃ xs,KT H kvs xs/\h.DictOfH (tupleKind (qz P w)) a xs:=by
 obtain ⟨z,y,xs,r,o,es,ep,h1,h2,h3,h4,h5⟩:=(show ObjOk P w H h a (.dT kvs) from qq8 ok e);refine ⟨z,y,xs,r,o,es,ep,h1,h2,h3,h4,λ x hx=> ?_,h5⟩;have all:∀ {l:List (List Key×V)} {m:List (List Key×Addr×Value)},KT H l m ->∀ x∈m,(tupleKind (qz P w)).is h x.1 x.2.1:=by
  intro l m q
  induction q with
  | nil=>intro x hx;exact nomatch hx
  | @cons p q ps qs hq t ih=>
   intro x hx;rcases z35.mp hx with e | hx
   ·subst e;exact q7m ok (by rw [<- hq.1];exact hq.2.1)
   ·exact ih x hx
 exact all r x hx
theorem qva {kvs:List (List Key×V)} (ok:HOk P w H h) (e:H a=some (.dT kvs)):kvs.length<=sizeLine/\(a==sysModules)=false/\
  ∃ xs,KT H kvs xs/\h.DictOfH (tupleKind (qz P w)) a xs:=q87 ok (.inl e)
end
def DGet (H:Hp) (a:Addr) (y:V) (r:Option V):Prop:=
 (∃ kvs k,Rd H a (.dK kvs)/\y=kV k/\r=valV kvs k)\/ ∃ kvs k b,Rd H a (.dT kvs)/\y= .ref b/\H b=some (.tup (k.map kV))/\r=valV kvs k
def DPut (H:Hp) (a:Addr) (y v:V) (H':Hp):Prop:=
 (∃ kvs k,H a=some (.dK kvs)/\y=kV k/\kvs.length < sizeLine/\H'=upd H a (.dK (putK kvs k v)))\/
 ∃ kvs k b,H a=some (.dT kvs)/\y= .ref b/\H b=some (.tup (k.map kV))/\kvs.length < sizeLine/\H'=upd H a (.dT (putK kvs k v))
theorem DGet.k {H:Hp} {a:Addr} {kvs:List (Key×V)} {k:Key} (e:H a=some (.dK kvs)):DGet H a (kV k) (valV kvs k):= .inl ⟨kvs,k,.inl e,rfl,rfl⟩
theorem DGet.t {H:Hp} {a b:Addr} {kvs:List (List Key×V)} {k:List Key} (e:H a=some (.dT kvs)) (eb:H b=some (.tup (k.map kV))):DGet H a (.ref b) (valV kvs k):= .inr ⟨kvs,k,b,.inl e,rfl,eb,rfl⟩
theorem DPut.k {H:Hp} {a:Addr} {kvs:List (Key×V)} {k:Key} {v:V} (e:H a=some (.dK kvs)) (hl:kvs.length < sizeLine):DPut H a (kV k) v (upd H a (.dK (putK kvs k v))):= .inl ⟨kvs,k,e,rfl,hl,rfl⟩
theorem DPut.t {H:Hp} {a b:Addr} {kvs:List (List Key×V)} {k:List Key} {v:V} (e:H a=some (.dT kvs)) (eb:H b=some (.tup (k.map kV))) (hl:kvs.length < sizeLine):
  DPut H a (.ref b) v (upd H a (.dT (putK kvs k v))):= .inr ⟨kvs,k,b,e,rfl,eb,hl,rfl⟩
section
variable {X:Cx} {pins:List (Addr×Obj)} {σ:St} {H:Hp} {s:Shared} {a:Addr} {y v:V} {u r:Value} {o:Option V} {A:Around} {E:Value ->Shared ->Prop}
theorem Inv.big (I:Inv X pins σ H s):sysModules < s.heap.objs.size:=by
 have h:mainGlobals < s.heap.objs.size:=(I.mod.glob.keeps I.bk).lt;exact Nat.lt_trans (by decide) h
theorem qm9 {Q:Value ->Shared ->Prop} (hu:A.units+1 < cLine) (I:Inv X pins σ H s) (g:DGet H a y (some v)) (ry:RelV y u) (h:∀ U s',Inv X pins σ H s' ->RelV v U ->Q U s'):
  wpAny (model X.prog X.w) A (getItem (.ref a) u) Q E s:=by
 rcases g with ⟨kvs,k,e,ey,l⟩ | ⟨kvs,k,b,e,ey,eb,l⟩
 ·subst ey;obtain ⟨z,hd,vs,J,dd⟩:=q86 I.hok e;obtain ⟨U,hw,O⟩:=RelO.q7k (v:=v) (o:=valueAt vs k) (by rw [l];exact J.val k);exact wpAny_getItem_of (q70 ry) dd.mapOf hw (h U _ (I.tok _) O)
 ·subst ey;cases (show u=Value.ref b from ry)
  obtain ⟨z,hd,xs,J,dd⟩:=q87 I.hok e;obtain ⟨U,hw,O⟩:=RelO.q7k (v:=v) (o:=(atKey xs k).map (·.2)) (by rw [l];exact J.val k);obtain ⟨p,hp,Y⟩:=z0l.mp hw;refine wpAny_getItem_heap (tupleKind_room_in1 hu) (q7m I.hok eb) dd hp ?_;rw [Y];exact h U _ (I.tok _) O
theorem d_in {Q:Value ->Shared ->Prop} (hu:A.units+1 < cLine) (I:Inv X pins σ H s) (g:DGet H a y o) (ry:RelV y u) (h:∀ s',Inv X pins σ H s' ->Q (.bool o.isSome) s'):
  wpAny (model X.prog X.w) A (compareOp .In u (.ref a)) Q E s:=by
 rcases g with ⟨kvs,k,e,ey,l⟩ | ⟨kvs,k,b,e,ey,eb,l⟩
 ·subst ey;obtain ⟨z,hd,vs,J,dd⟩:=q86 I.hok e;refine wpAny_in_of (q70 ry) hd dd.mapOf ?_;rw [<- (J.val k).q36,<- l];exact h _ (I.tok _)
 ·subst ey;cases (show u=Value.ref b from ry)
  obtain ⟨z,hd,xs,J,dd⟩:=q87 I.hok e;refine wpAny_in_heap (tupleKind_room_in1 hu) (q7m I.hok eb) hd dd ?_;have q:=(J.val k).q36;rw [Option.isSome_map] at q;rw [<- q,<- l];exact h _ (I.tok _)
theorem qrg {Q:Value ->Shared ->Prop} (hu:A.units+1 < cLine) (I:Inv X pins σ H s) (g:DGet H a y o) (ry:RelV y u) (h:∀ s',Inv X pins σ H s' ->Q (.bool (!o.isSome)) s'):
  wpAny (model X.prog X.w) A (compareOp .NotIn u (.ref a)) Q E s:=by
 rcases g with ⟨kvs,k,e,ey,l⟩ | ⟨kvs,k,b,e,ey,eb,l⟩
 ·subst ey;obtain ⟨z,hd,vs,J,dd⟩:=q86 I.hok e;refine wpAny_notIn_of (q70 ry) hd dd.mapOf ?_;rw [<- (J.val k).q36,<- l];exact h _ (I.tok _)
 ·subst ey;cases (show u=Value.ref b from ry)
  obtain ⟨z,hd,xs,J,dd⟩:=q87 I.hok e;refine wpAny_notIn_heap (tupleKind_room_in1 hu) (q7m I.hok eb) hd dd ?_;have q:=(J.val k).q36;rw [Option.isSome_map] at q;rw [<- q,<- l];exact h _ (I.tok _)
theorem q7n {h':Heap} {t':Nat} {J:HO} (I:Inv X pins σ H s) (mu:Mut (H a)) (hs:Heap.SameBut a s.heap h') (he:∃ q,h'.get? a=some q) (new:ObjOk X.prog X.w (upd H a J) h' a J):
  Inv X pins σ (upd H a J) {s with heap:=h',toks:=t'}:=
 I.write (x:=a) (e:=a) mu (.inl rfl) (λ b q hb z=>(hs.2 b hb).trans z) he new
theorem qma {P:Program} {w:World} {H':Hp} {h':Heap} {kvs:List (Key×V)} {vs:List (Key×Value)} (z:kvs.length<=sizeLine) (hd:(a==sysModules)=false) (J:KV kvs vs) (dd:h'.DictOf (qz P w) a vs):
  ObjOk P w H' h' a (.dK kvs):=⟨z,hd,vs,J,dd⟩
theorem qmb {H':Hp} {Q:Unit ->Shared ->Prop} (hu:A.units+1 < cLine) (I:Inv X pins σ H s) (g:DPut H a y v H') (ry:RelV y u) (rv:RelV v r) (h:∀ s',Inv X pins σ H' s' ->Q () s'):
  wpAny (model X.prog X.w) A (setItem (.ref a) u r) Q E s:=by
 rcases g with ⟨kvs,k,e,ey,l,eH⟩ | ⟨kvs,k,b,e,ey,eb,l,eH⟩
 ·subst ey eH;obtain ⟨z,hd,vs,J,dd⟩:=qq9 I.hok e;have hz:vs.length<=sizeLine:=by rw [<- J.length];exact z
  have hl:(putK kvs k v).length<=sizeLine:=by have:=q4z kvs k v;lia
  refine wpAny_setItem_pairs (hsz:=hz) (q70 ry) dd λ h' O U=>h _ ?_;have he:∃ q,h'.get? a=some q:=let ⟨q,_,_,hq,_⟩:=O;⟨q,hq⟩
  exact q7n I (by rw [e];exact True.intro) U he (qma hl hd (J.put k rv) O)
 ·subst ey eH;cases (show u=Value.ref b from ry)
  obtain ⟨z,hd,xs,J,dd⟩:=qva I.hok e;have hz:xs.length<=sizeLine:=by rw [<- Paired.length J];exact z
  have hl:(putK kvs k v).length<=sizeLine:=by have:=q4z kvs k v;lia
  refine wpAny_setItem_heap (hsz:=hz) (tupleKind_room_in1 hu) (q7m I.hok eb) dd λ h' O U=>h _ ?_;obtain ⟨q,es,ep,hq,h2,h3,h4,_,h5⟩:=O;refine q7n I (by rw [e];exact True.intro) U ⟨q,hq⟩ ⟨hl,hd,_,(J.put k eb rv).keeps λ c ys ec=> ?_,q,es,ep,hq,h2,h3,h4,h5⟩;rw [qh (qux ec e (λ z=>nomatch z))];exact ec
end
section
variable {X:Cx} {pins:List (Addr×Obj)} {σ:St} {H:Hp} {s:Shared} {a:Addr} {kvs:List (Key×V)} {k:Key} {u:Value} {A:Around} {E:Value ->Shared ->Prop}
end
def NoSl (i:Expr):Prop:=∀ ov iv,subscripted i false ov iv=operate [ov,iv] (getItem ov iv)
theorem qjw {prog:Program} {w:World} {A:Around} {E:Value ->Shared ->Prop} {s:Shared} {env:Env} {value J:Expr} {pos:Pos} {T id:String} {Q:Value ->Shared ->Prop}
    (hl:typeLookup (.type T) "__getitem__"=pure (some (.builtin id))) (hs:NoSl J)
    (h:wpAny (model prog w) A (eval value env) (λ o Z=>wpAny (model prog w) A (eval J env) (λ i O=>O.TypeIs o T/\wpAny (model prog w) A (getItem o i) Q E O) E Z) E s):
    wpAny (model prog w) A (eval (.Subscript value J pos) env) Q E s:=by
  refine Subscript_ (z3w h (λ o Z h₁=>z3w h₁ (λ i O U=> ?_) λ _ _ x=>x) λ _ _ x=>x);obtain ⟨Y,U⟩:=U;unfold subscriptTail;refine z3v ?_;rw [getitemInPython_of_ne Y.not_modules];refine z3v (wpAny_specialOf Y hl ?_);have fin:wpAny (model prog w) A (subscripted J false o i) (λ r s₃=>wpAny (model prog w) A (letTemporaryGo value o r >>=λ _=>pure r) Q E s₃) E O:=by
    rw [hs o i];exact wpAny_operating (z3w U (λ r s₃ h₃=>z3v (wpAny_letTemporaryGo (z3u h₃))) λ _ _ x=>x)
  first
    | exact z3u (z3v fin)
    | exact z3v (z3u (z3v fin))
    | exact z3v fin
theorem qj2 {X:Cx} {pins:List (Addr×Obj)} {σ:St} {H:Hp} {s:Shared} {a:Addr} {y:V} {o:Option V} (I:Inv X pins σ H s) (g:DGet H a y o):s.TypeIs (.ref a) "dict":=by
 rcases g with ⟨kvs,k,e,_,_⟩ | ⟨kvs,k,b,e,_,_,_⟩
 ·obtain ⟨_,_,vs,_,dd⟩:=q86 I.hok e;exact dd.typeIs
 ·obtain ⟨_,_,xs,_,dd⟩:=q87 I.hok e;exact dd.typeIs
def qvb (td ty:TE):TE:=λ σ H Q=>td σ H λ x H1=>ty σ H1 λ y H2=>∃ a v,x= .ref a/\DGet H2 a y (some v)/\Q v H2
def tDIn (ty td:TE):TE:=λ σ H Q=>ty σ H λ y H1=>td σ H1 λ x H2=>∃ a o,x= .ref a/\DGet H2 a y o/\Q (.bl o.isSome) H2
def qrh (ty td:TE):TE:=λ σ H Q=>ty σ H λ y H1=>td σ H1 λ x H2=>∃ a o,x= .ref a/\DGet H2 a y o/\Q (.bl (!o.isSome)) H2
def qvc (td ty tv:TE):TS:=λ D σ H=>tv σ H λ v H1=>td σ H1 λ x H2=>ty σ H2 λ y H3=>∃ a H4,x= .ref a/\DPut H3 a y v H4/\D.nx σ H4
section
variable {X:Cx} {o i e value:Expr} {pos pos' tpos:Pos} {td ty tv:TE}
theorem q68 (hu:X.A.units+1 < cLine) (ho:PE X o td) (hi:PE X i ty) (hs:NoSl i):PE X (.Subscript o i pos) (qvb td ty):=by
 intro pins s σ H Q I h;refine qjw PySem.F.slot_dict_getitem.lookup hs (thn (ho pins s σ H _ I h) λ u s1 ⟨x,H1,I1,rx,q1⟩=>thn (hi pins s1 σ H1 _ I1 q1) λ iv s2 O=> ?_);obtain ⟨y,H2,I2,ry,a,v,ex,g,q2⟩:=O;subst ex;obtain rfl:u=Value.ref a:=rx;exact ⟨qj2 I2 g,qm9 hu I2 g ry λ w' s3 I3 J=>⟨v,H2,I3,J,q2⟩⟩
theorem qte (hu:X.A.units+1 < cLine) (hi:PE X i ty) (ho:PE X o td):PC X .In i o (tDIn ty td):=by
 intro pins s σ H Q I h;refine thn (hi pins s σ H _ I h) λ iv s1 ⟨y,H1,I1,ry,q1⟩=>thn (ho pins s1 σ H1 _ I1 q1) λ u s2 J=> ?_;obtain ⟨x,H2,I2,rx,a,ov,ex,g,q2⟩:=J;subst ex;obtain rfl:u=Value.ref a:=rx;exact d_in hu I2 g ry λ s3 I3=>⟨.bl ov.isSome,H2,I3,zr,q2⟩
theorem qmc (hu:X.A.units+1 < cLine) (hi:PE X i ty) (ho:PE X o td):PC X .NotIn i o (qrh ty td):=by
 intro pins s σ H Q I h;refine thn (hi pins s σ H _ I h) λ iv s1 ⟨y,H1,I1,ry,q1⟩=>thn (ho pins s1 σ H1 _ I1 q1) λ u s2 J=> ?_;obtain ⟨x,H2,I2,rx,a,ov,ex,g,q2⟩:=J;subst ex;obtain rfl:u=Value.ref a:=rx;exact qrg hu I2 g ry λ s3 I3=>⟨.bl (!ov.isSome),H2,I3,zr,q2⟩
theorem q9x (hu:X.A.units+1 < cLine) (ho:PE X o td) (hi:PE X i ty) (hv:PE X value tv) (hs:swapsWith value (some (.Subscript o i pos')) pos.line X.env=pure false):
  PS X (.Assign [.Subscript o i pos'] value pos) (qvc td ty tv):=by
 intro pins s σ H D I h;refine wpAny_Assign_Subscript (thn (hv pins s σ H _ I h) λ r s1 ⟨v,H1,I1,rv,q1⟩=>thn (ho pins s1 σ H1 _ I1 q1) λ u s2 ⟨x,H2,I2,rx,q2⟩=>thn (hi pins s2 σ H2 _ I2 q2) λ iv s3 J=> ?_) hs;obtain ⟨y,H3,I3,ry,a,H4,ex,g,q3⟩:=J;subst ex;obtain rfl:u=Value.ref a:=rx;exact qmb hu I3 g ry rv λ s4 I4=>⟨σ,H4,I4,q3⟩
end
theorem qoh {P:Program} {w:World} {H:Hp} (h:Heap) (hb:sysModules < h.objs.size):ObjOk P w H (h.push {cls:= .type "dict",data:= .dict #[]}) h.objs.size (.dK []):=
 ⟨z3s _,beq_eq_false_iff_ne.mpr (Ne.symm (z3h hb)),[],.nil,Heap.DictOf.new h⟩
theorem qoi {P:Program} {w:World} {H:Hp} (h:Heap) (hb:sysModules < h.objs.size):ObjOk P w H (h.push {cls:= .type "dict",data:= .dict #[]}) h.objs.size (.dT []):=
 ⟨z3s _,beq_eq_false_iff_ne.mpr (Ne.symm (z3h hb)),[],.nil,_,#[],0,z15 _ rfl,⟨rfl,rfl,rfl⟩,rfl,rfl,z30⟩
def qtf:TE:=λ _ H Q=>∀ p,H p=none ->Q (.ref p) (upd H p (.dK []))
def qtg:TE:=λ _ H Q=>∀ p,H p=none ->Q (.ref p) (upd H p (.dT []))
section
variable {X:Cx} {pos:Pos}
theorem q88:PE X (.Dict [] [] pos) qtf:=λ pins s σ H Q I h=>
 wpAny_Dict_empty ⟨.ref s.heap.objs.size,_,I.laid (a:=s.heap.objs.size) (o:= .dK []) (t':=s.toks) (λ _ _ q=>z0j _ q) (z3p _) (qoh s.heap I.big),rfl,h _ (I.hok.fresh (z3p _))⟩
theorem qoj:PE X (.Dict [] [] pos) qtg:=λ pins s σ H Q I h=>
 wpAny_Dict_empty ⟨.ref s.heap.objs.size,_,I.laid (a:=s.heap.objs.size) (o:= .dT []) (t':=s.toks) (λ _ _ q=>z0j _ q) (z3p _) (qoi s.heap I.big),rfl,h _ (I.hok.fresh (z3p _))⟩
end
structure M1 (X:Cx) (o:Expr) (m:Str) (apos:Pos) (e:Expr) (cpos:Pos):Prop where
 base:attributeBase o m X.env (eval o X.env)=eval o X.env
 few:((backTo cpos (starEach [e] X.env)).all (λ x=> !x.1)&&(backToKw cpos (keywordEach [] X.env)).all (λ x=>x.1.isSome)
  &&decide (([e]:List Expr).length+([]:List Keyword).length+(if ([]:List Keyword).isEmpty then 0 else 1) < 30))=true
 line:(apos.endLine==cpos.line)=true
 trees:backTo cpos (starEach [e] X.env)=[(false,eval e X.env)]
structure M2 (X:Cx) (o:Expr) (m:Str) (apos:Pos) (e f:Expr) (cpos:Pos):Prop where
 base:attributeBase o m X.env (eval o X.env)=eval o X.env
 few:((backTo cpos (starEach [e,f] X.env)).all (λ x=> !x.1)&&(backToKw cpos (keywordEach [] X.env)).all (λ x=>x.1.isSome)
  &&decide (([e,f]:List Expr).length+([]:List Keyword).length+(if ([]:List Keyword).isEmpty then 0 else 1) < 30))=true
 line:(apos.endLine==cpos.line)=true
 trees:backTo cpos (starEach [e,f] X.env)=[(false,eval e X.env),(false,eval f X.env)]
def IsD (H:Hp) (a:Addr):Prop:=(∃ kvs,Rd H a (.dK kvs))\/ ∃ kvs,Rd H a (.dT kvs)
theorem qmd {X:Cx} {pins:List (Addr×Obj)} {σ:St} {H:Hp} {s:Shared} {a:Addr} (I:Inv X pins σ H s) (d:IsD H a):
  s.TypeIs (.ref a) "dict"/\(∀ b,Value.ref a= .ref b ->∃ J,s.heap.get? b=some J/\J.dict=none)/\(a==sysModules)=false:=by
 rcases d with ⟨kvs,e⟩ | ⟨kvs,e⟩
 ·obtain ⟨_,hd,vs,_,dd⟩:=q86 I.hok e;refine ⟨dd.typeIs,λ b q=> ?_,hd⟩;cases q
  obtain ⟨J,_,_,h1,h2,_⟩:=dd;exact ⟨J,h1,h2.2.1⟩
 ·obtain ⟨_,hd,xs,_,dd⟩:=q87 I.hok e;refine ⟨dd.typeIs,λ b q=> ?_,hd⟩;cases q
  obtain ⟨J,_,_,h1,h2,_⟩:=dd;exact ⟨J,h1,h2.2.1⟩
section
variable {X:Cx} {pins:List (Addr×Obj)} {σ:St} {H:Hp} {s:Shared} {a:Addr} {y d:V} {u r:Value} {o:Option V} {A:Around} {E:Value ->Shared ->Prop}
theorem qth {Q:Value ->Shared ->Prop} (hu:A.units+1 < cLine) (I:Inv X pins σ H s) (g:DGet H a y o) (ry:RelV y u) (O:RelV d r) (h:∀ U s',Inv X pins σ H s' ->RelV (o.getD d) U ->Q U s'):
  wpAny (model X.prog X.w) A (call (.builtin "dict.get") [.ref a,u,r]) Q E s:=by
 rcases g with ⟨kvs,k,e,ey,l⟩ | ⟨kvs,k,b,e,ey,eb,l⟩
 ·subst ey;obtain ⟨z,hd,vs,J,dd⟩:=q86 I.hok e;refine call_meetsIn PySem.F.slot_dict_get dd.typeIs PySem.F.entry_dict_get (PySem.F.args_dict_get_3 _ _ _) (meets_dict_get_default (qz X.prog X.w) a (q70 ry) hd r) ⟨_,dd.mapOf,h _ _ (I.tok _) ?_⟩;rw [l];exact (J.val k).getD O
 ·subst ey;cases (show u=Value.ref b from ry)
  obtain ⟨z,hd,xs,J,dd⟩:=q87 I.hok e;refine call_meetsIn PySem.F.slot_dict_get dd.typeIs PySem.F.entry_dict_get (PySem.F.args_dict_get_3 _ _ _) (meetsH_dict_get_default (tupleKind (qz X.prog X.w)) a b hd r) ⟨tupleKind_room_in1 hu,k,xs,q7m I.hok eb,dd,h _ _ (I.tok _) ?_⟩;rw [l];exact (J.val k).getD O
end
def qti (td ty tx:TE):TE:=λ σ H Q=>td σ H λ x H1=>∃ a,x= .ref a/\IsD H1 a/\ty σ H1 λ y H2=>tx σ H2 λ z H3=>∃ o,DGet H3 a y o/\Q (o.getD z) H3
section
variable {X:Cx} {o e f:Expr} {apos cpos:Pos} {td ty tx:TE}
theorem qok (hu:X.A.units+1 < cLine) (ho:PE X o td) (he:PE X e ty) (hf:PE X f tx) (m:M2 X o "get" apos e f cpos):PE X (.Call (.Attribute o "get" apos) [e,f] [] cpos) (qti td ty tx):=by
 intro pins s σ H Q I h;refine wpAny_Call_method m.base m.few m.line PySem.F.plainAttrs_dict PySem.F.slot_dict_get PySem.F.type_dict_get (thn (ho pins s σ H _ I h) λ u s1 O=> ?_);obtain ⟨x,H1,I1,rx,a,ex,d,q1⟩:=O;subst ex;obtain rfl:u=Value.ref a:=rx;obtain ⟨t1,t2,_⟩:=qmd I1 d;refine ⟨t1,t2,?_⟩;rw [m.trees];refine Calls.callWith_builtin rfl (Calls.evalArgs_plain (Calls.spliced_cons (thn (he pins s1 σ H1 _ I1 q1) λ iv s2 ⟨y,H2,I2,ry,q2⟩=>
  Calls.spliced_cons (thn (hf pins s2 σ H2 _ I2 q2) λ fv s3 ⟨z,H3,I3,rz,ov,g,q3⟩=>Calls.spliced_nil ?_))))
 exact qth hu I3 g ry rz λ w' s4 I4 J=>⟨_,H3,I4,J,q3⟩
end
section
variable {X:Cx} {pins:List (Addr×Obj)} {σ:St} {H:Hp} {s:Shared} {a:Addr} {kvs:List (Key×V)} {A:Around} {E:Value ->Shared ->Prop}
end
section
variable {X:Cx} {pins:List (Addr×Obj)} {σ:St} {H:Hp} {s:Shared} {a:Addr} {y:V} {u:Value} {A:Around} {E:Value ->Shared ->Prop}
end
end L2
namespace Att
open PySem PySem.W PySem.Calls PyProof.Rows
theorem qc8 {P:Params} {h:Heap}:∀ (ns:List Int) (vs:List Value),WellAll P h vs (ns.map WData.int) ->IntsAre vs ns:=by
 intro ns
 induction ns with
 | nil=>
  intro vs w;rw [z3l] at w;cases w
  exact .nil
 | cons n ns ih=>
  intro vs w;rw [z33] at w;cases w with
  | cons a b=>
   cases a
   exact .cons _ _ (ih _ b)
theorem qme {l:OpenLaw} {n:Nat} (hn:l.most=some n) {P:Params} {h:Heap} {args:List WData} {O:List Value}
    (J:l.row.toRowW.claim.pre args=true) (a2:WellAll P h O args):
    ∃ a vs ns,O=[Value.ref a]/\args=[WData.list (ns.map WData.int)]/\h.get? a=some {cls:= .type "list",data:= .seq vs.toArray}/\IntsAre vs ns/\ns.length<=n:=by
  have a1:WShape.hasAll [] args [.list .int]=true:=(pre_splitW J).1;have hc:l.pre.holds [] {args:=args}=true:=(pre_splitW J).2;obtain ⟨d,r,rfl,h1,h2⟩:=hasAllW_cons a1;obtain rfl:=hasAllW_nil h2;obtain ⟨xs,rfl,h3⟩:=hasW_list h1;obtain ⟨ns,rfl⟩:=items_int h3;have Y:ns.length<=n:=by
    unfold OpenLaw.pre at hc;have h4:(WTm.not (.lt (.lit (.int (n:Int))) (.len (.arg 0)))).holds [] {args:=[.list (ns.map .int)]}=true:=by
      have h4:=(holds_andW hc).1;rw [hn] at h4;exact h4
    have Z:=condW_of h4 (w_not (w_lt w_lit (w_len_list (w_arg rfl))));rw [z2l] at Z;refine Nat.le_of_not_lt λ q=> ?_;have q':(n:Int) < ((ns.length:Nat):Int):=by lia
    first
      | (rw [z2w q'] at Z;exact absurd Z (by decide))
      | (simp at Z;lia)
  cases a2 with
  | cons w1 w2=>
    cases w2
    cases w1 with
    | list ho U=>exact ⟨_,_,ns,rfl,rfl,ho,qc8 ns _ U,Y⟩
theorem qmf (l:OpenLaw) (args:List WData):l.row.toRowW.claim.post args (.bool true) args=true:=
 postW_of (r:=l.row.toRowW) (X:=(true==true))
  (show WShape.has [] (.bool true) .bool=true by first | rfl | decide | simp [WShape.has,WShape.arms,WShape.armsAll])
  (show (WTm.eq .res (.lit (.bool true))).value [] {args:=args,res:=some (.bool true),after:=args}=some (.bool (true==true)) from w_eq_bool (w_res rfl) w_lit) rfl
theorem qj3 {l:OpenLaw} {n:Nat} {q:Program} {J:List Str} {XP:(Str ->Option Value) ->Heap ->Prop} {YP:World ->Heap ->Prop} {d:DefRec}
  (hn:l.most=some n) (a5:d.params.defaults=[])
  (call:∀ (w:World) (s₀ O:Shared) (mg mb:Str ->Option Value) (fa:Addr) (o:Obj) (pm cd U:Value) (a:Addr) (vs:List Value) (ns:List Int),
   Ground q J [] XP w s₀ mg mb O.heap ->YP w O.heap ->
   O.heap.get? fa=some o ->o.data= .func (docDef d.name d.params d.body d.scope pm cd U) ->O.heap.CodeRec cd d.name ->mg d.name=some (.ref fa) ->
   O.heap.get? a=some {cls:= .type "list",data:= .seq vs.toArray} ->IntsAre vs ns ->ns.length<=n ->O.gens=#[] ->
   codeAny (model l.prog w) callerA (.call (.ref fa) ⟨[.ref a],[]⟩) (λ r s'=>r= .ok (.ret (.bool true))/\OldK O.heap s'.heap/\s'.os=O.os/\AllBare s'.gens) O):
  WalkO q J XP YP l.row.toRowW d [] (λ f vs=>PySem.call f vs):=by
 intro w s₀ O mg mb G Y fa o pm cd U dV kV ho hd a4 hD a6 hg args a9 as a3 a8 hrd a7 hlo;obtain rfl:dV= .none:=Dflts.none hD a5;obtain rfl:kV= .none:=Dflts.noKw hD;obtain ⟨a,vs,ns,rfl,rfl,a2,Z,a1⟩:=qme hn a3 a7;refine enter_call (z3k (call w s₀ O mg mb fa o pm cd U a vs ns G Y ho (fd_plain hd) a4 a6 a2 Z a1 hg) λ r s' hq=> ?_);obtain ⟨rfl,h2,h3,h4⟩:=hq;exact ⟨.inl ⟨.bool true,.bool true,[],rfl,λ _=>rfl,.bool true,qmf l _,λ _=>⟨List.Pairwise.nil,λ _ hm=>(nomatch hm)⟩⟩,h2,h3,h4⟩
section
variable {prog:Program} {w:World} {A:Around} {E:Value ->Shared ->Prop} {s:Shared} {K:Frag}
end
end Att
namespace L2
open PySem PySem.Spec PyProof.Rows
theorem qf2:∀ {vs:List Value} {ns:List Int},IntsAre vs ns ->Vals (ns.map V.int) vs
 | _,_,.nil=> .nil
 | _,_,.cons n t h=> .cons ⟨t,rfl⟩ (qf2 h)
def Only (H:Hp):Prop:=∀ b,H b=none\/ ∃ o xs,H b=some (.frz o (.lst xs))
theorem qol {P:Program} {w:World} {K:PySem.W.Frag} {mg mb:Str ->Option Value} {CX:CXT} {k:Nat} {fa a:Addr} {fd:FuncData} {x:Str} {sp:Sp} {J:Shared} {vs:List Value} {ns:List Int}
  (KX:K.In J.heap) (a3:J.heap.Ns mainGlobals mg) (hb:J.heap.Ns builtinsNs mb) (a7:∀ x:Str,x≠"__name__" ->mb x=bootBuiltins x) (a2:J.heap.NoLimit) (hg:J.gens=#[])
  (ha:J.heap.get? a=some {cls:= .type "list",data:= .seq vs.toArray}) (hi:IntsAre vs ns) (hl:ns.length<=sizeLine) (hr:Room k callerA)
  (F:∀ base:Heap,K.In base ->base.Ns mainGlobals mg ->FnOk P w K mg base CX k fa fd [x] sp) (Z:∀ (s:Shared) (u:Value),BindsTo s fd ⟨[u],[]⟩ [(x,u)])
  (a8:∀ H:Hp,Only H ->SqL K H a (ns.map V.int) ->sp [.ref a] H (λ v _=>v= .bl true) λ _ _ _=>False)
  (a6:∀ H e s',CX [] H J (λ _ _ _=>False) e s' ->False):
  codeAny (model P w) callerA (.call (.ref fa) ⟨[.ref a],[]⟩) (λ r s'=>r= .ok (.ret (.bool true))/\OldK J.heap s'.heap/\s'.os=J.os/\AllBare s'.gens) J:=by
 have rv:=qf2 hi;have a5:=hi.length;have Y:∀ H:Hp,Only H ->SqL K H a (ns.map V.int) ->HOk P w H J.heap ->(∀ b,H b≠none ->b=a) ->(H a≠none ->K.lookup a=none) ->
   codeAny (model P w) callerA (.call (.ref fa) ⟨[.ref a],[]⟩) (λ r s'=>r= .ok (.ret (.bool true))/\OldK J.heap s'.heap/\s'.os=J.os/\AllBare s'.gens) J:=by
  intro H hO hS hok hA hK;have O:∀ {b:Addr} {o:Obj},J.heap.get? b=some o ->H b=none ->(hidT J.heap H).get? b=some o:=λ e n=>qo8 e n;have a9:∀ {b:Addr} {o:Obj} {es:Array DictEntry} {ep:Nat},J.heap.get? b=some o ->o.data= .dict es ep ->H b=none:=λ {b o es ep} e d=>by
   cases q:H b with
   | none=>rfl
   | some u=>
    have e':b=a:=hA b (by rw [q];simp);subst e';rw [ha] at e;cases e;have d':Data.seq vs.toArray _=Data.dict es ep:=d;cases d'
  have U:∀ {b:Addr} {m:Str ->Option Value},J.heap.Ns b m ->(hidT J.heap H).Ns b m:=λ {b m} ⟨o,es,ep,e,d,r⟩=>⟨o,es,ep,O e (a9 e d),d,r⟩;have a1:K.In (hidT J.heap H):=λ b o e=>O (KX b o e) (by
   cases q:H b with
   | none=>rfl
   | some u=>
    have e':b=a:=hA b (by rw [q];simp);subst e';rw [hK (by rw [q];simp)] at e;cases e)
  have hM:Mod K mg (hidT J.heap H):=⟨a1,U a3,⟨mb,U hb,a7⟩,let ⟨mc,h1,h2⟩:=a2;⟨mc,U h1,h2⟩⟩;have e0:Env0 P w K mg (hidT J.heap H) callerA [] J H:=⟨rfl,hM,λ b o e=>qqw e,Nat.le_of_eq (qlu _ _),trivial,λ b hb=>absurd (show b∈([]:List Addr) from hb) (by simp),hok,.of_eq hg⟩;refine z3k ((F _ a1 (U a3)).run callerA [] J H ⟨[.ref a],[]⟩ [.ref a] [.ref a] _ _ hr e0 (Z J (.ref a)) (.cons rfl .nil) (a8 H hO hS)) λ r s' h=> ?_;cases r with
  | error e=>exact (a6 H e s' h).elim
  | ok fl=>
   cases fl with
   | next=>exact False.elim h
   | brk=>exact False.elim h
   | cont=>exact False.elim h
   | ret u=>
    obtain ⟨v,H',os,bare,un,a4,r',q⟩:=h;have q':v= .bl true:=q;subst q';obtain rfl:u=Value.bool true:=r';refine ⟨zr,OldK.of_keep λ b o e=> ?_,os,bare⟩;cases q:H b with
    | none=>exact un.keep b o e q (by intro z;exact absurd (show b∈([]:List Addr) from z) (by simp)) (by simp)
    | some u=>
     rcases hO b with z | ⟨ob,xs,z⟩
     ·rw [q] at z;cases z
     ·have z2:=un.frzs b ob _ z;obtain ⟨e1,_⟩:=hok b _ z;obtain ⟨e2,_⟩:=a4 b _ z2;rw [e] at e1;cases e1;exact e2
 cases hk:K.lookup a with
 | some o=>
  have e:=KX a o hk;rw [ha] at e;cases e
  refine Y (λ _=>none) (λ _=> .inl rfl) (.inr ⟨_,vs.toArray,_,hk,rfl,rfl,rfl,by rw [z1t,a5];exact hl,by simpa using rv⟩) (λ b u z=>by have z':(none:Option HO)=some u:=z;cases z') (λ b z=>absurd rfl z) λ z=>absurd rfl z
 | none=>
  refine Y (λ b=>if b=a then some (.frz {cls:= .type "list",data:= .seq vs.toArray} (.lst (ns.map V.int))) else none) (λ b=> ?_) (.inl (.inr ⟨{cls:= .type "list",data:= .seq vs.toArray},if_pos rfl⟩)) (λ b u z=> ?_) (λ b z=> ?_) λ _=>hk
  ·by_cases hb:b=a
   ·exact .inr ⟨_,_,if_pos hb⟩
   ·exact .inl (if_neg hb)
  ·by_cases hb:b=a
   ·have z':=(if_pos hb).symm.trans z;cases z'
    subst hb;exact ⟨ha,by rw [z2l];exact hl,vs,_,rv,ha⟩
   ·have z':=(if_neg hb).symm.trans z;cases z'
  ·by_cases hb:b=a
   ·exact hb
   ·exact absurd (if_neg hb) z
abbrev KOf {K:PySem.W.Frag} {h:Heap} (_:K.In h):PySem.W.Frag:=K
theorem qjx {l:PySem.W.OpenLaw} {n k:Nat} {q:Program} {U:List Str} {XP:(Str ->Option Value) ->Heap ->Prop} {YP:World ->Heap ->Prop} {d:DefRec} {K:Params ->PySem.W.Frag} {CX:World ->CXT} {sp:World ->Sp} {x:Str}
  (hn:l.most=some n) (a4:n<=sizeLine) (a2:d.params.defaults=[]) (hr:Room k callerA)
  (hY:∀ (w:World) (h:Heap),YP w h ->(K w.params).In h)
  (F:∀ (w:World) (mg:Str ->Option Value) (fa:Addr) (h:Heap),(K w.params).In h ->h.Ns mainGlobals mg ->mg d.name=some (.ref fa) ->
   ∃ fd:FuncData,(∀ (s:Shared) (u:Value),BindsTo s fd ⟨[u],[]⟩ [(x,u)])/\
    ∀ base:Heap,(K w.params).In base ->base.Ns mainGlobals mg ->FnOk l.prog w (K w.params) mg base (CX w) k fa fd [x] (sp w))
  (a5:∀ (w:World) (H:Hp) (a:Addr) (ns:List Int),ns.length<=n ->Only H ->SqL (K w.params) H a (ns.map V.int) ->sp w [.ref a] H (λ v _=>v= .bl true) λ _ _ _=>False)
  (a1:∀ (w:World) (H:Hp) (s:Shared) (e:Value) (s':Shared),CX w [] H s (λ _ _ _=>False) e s' ->False):
  PySem.W.WalkO q U XP YP l.row.toRowW d [] (λ f vs=>PySem.call f vs):=by
 refine Att.qj3 hn a2 λ w s₀ s₁ mg mb fa o pm cd doc a vs ns G Y ho hd hcd a3 Z O J hg=> ?_;have KX:=hY w _ Y;obtain ⟨fd,hb,hF⟩:=F w mg fa _ KX G.T.g a3;exact qol KX G.T.g G.T.b G.T.builtins G.T.nolimit hg Z O (z3i J a4) hr hF hb (λ H hO hS=>a5 w H a ns J hO hS) λ H e s'=>a1 w H s₁ e s'
theorem qom {l:PySem.W.OpenLaw} {n k:Nat} {q:Program} {J:List Str} {XP:(Str ->Option Value) ->Heap ->Prop} {YP:World ->Heap ->Prop} {d:DefRec} {K:Params ->PySem.W.Frag} {CX:CXT} {sp:PySem.W.Frag ->Sp} {x:Str}
  (hn:l.most=some n) (Y:n<=sizeLine) (U:d.params.defaults=[]) (hr:Room k callerA)
  (hY:∀ (w:World) (h:Heap),YP w h ->(K w.params).In h)
  (F:∀ (w:World) (mg:Str ->Option Value) (fa:Addr) (h:Heap),(K w.params).In h ->h.Ns mainGlobals mg ->mg d.name=some (.ref fa) ->
   ∃ fd:FuncData,(∀ (s:Shared) (u:Value),BindsTo s fd ⟨[u],[]⟩ [(x,u)])/\
    ∀ base:Heap,(K w.params).In base ->base.Ns mainGlobals mg ->FnOk l.prog w (K w.params) mg base CX k fa fd [x] (sp (K w.params)))
  (Z:∀ (K:PySem.W.Frag) (H:Hp) (a:Addr) (ns:List Int),ns.length<=n ->Only H ->SqL K H a (ns.map V.int) ->sp K [.ref a] H (λ v _=>v= .bl true) λ _ _ _=>False)
  (O:∀ (H:Hp) (s:Shared) (e:Value) (s':Shared),CX [] H s (λ _ _ _=>False) e s' ->False):
  PySem.W.WalkO q J XP YP l.row.toRowW d [] (λ f vs=>PySem.call f vs):=
 qjx (K:=K) (CX:=λ _=>CX) (sp:=λ w=>sp (K w.params)) hn Y U hr hY F (λ w H a ns h1 h2 h3=>Z (K w.params) H a ns h1 h2 h3) λ _ H s e s'=>O H s e s'
end L2
/- THE LAST THEOREM (shape;LID,My.*are yours):
   My.Adr:a structure of the addresses that your layer names (classes,functions);My.Txt K t:a structure (Prop) of the equations over K;
   My.qim:{K} {implicit addresses ..} (e1:nsIn K mainGlobals "law"=some (some (.ref f))) (e2:K.lookup f=some ⟨oc,od,.func (fnOf "law" "law" params body scope dV kV doc pm an cdv ct),sl⟩) (e3:codeIn K cdv "law"=true) .. :∃ t,My.Txt K t
set_option maxRecDepth 100000 in
set_option maxHeartbeats 0 in
theorem PySem.Challenge.cw_LID_holds : PySem.Challenge.rw_LID.Holds := by
 w_on;o_law;k_head;(case hw=>w_witness2)
 k_fill
 refine L2.qjx (l:=PySem.Challenge.rw_LID) (n:=63) (k:=40) (x:="script") (CX:=λ w=> ..) (sp:=λ _=>My.sp_law) rfl (by decide) rfl ⟨zr,by decide,by decide⟩ (λ w h Y=>PySem.W.kIn_of Y) ?F ?S ?C
 case F=>
  intro w mg fa h KX G hmg;have T:∃ t,My.Txt (L2.KOf KX) t:=by
   dsimp only [L2.KOf] -- K must stand as «<heap const> w.params» for k_is
   refine' My.qim ?e1 ?e2 ?e3 ..
   (case e1=>PySem.W.k_is) -- in the order:a name ->its address ->its object ->its parts
   (case e2=>PySem.W.k_is)
   ..
  obtain ⟨t,T⟩:=T;have e0:=hmg.symm.trans (z39 KX G T.law);cases e0 -- fa is the law's own address
  exact ⟨_,λ s u=> .of_eq rfl,λ base kb nb=>My.law_fn T kb nb⟩ -- if «.of_eq rfl» comes too early:refine' ⟨_,?b,λ base kb nb=>My.law_fn T kb nb⟩;exact λ s u=> .of_eq rfl
 case S=>exact λ w H a ns hl hO hS=> ..
 case C=>exact ..
(the tactic k_is has no namespace:write k_is) -/
namespace L2
open PySem PySem.Spec PyProof.Rows
def qp (s:Stmt) (j:Nat):Stmt:=match s with
 | .ClassDef _ _ _ body _ _ _ _ _ _ _=>body.getD j (.Pass ⟨0,0,0,0⟩)
 | _=> .Pass ⟨0,0,0,0⟩
def q1g (s:Stmt):Arguments:=match s with
 | .FunctionDef _ a _ _ _ _ _ _ _ _=>a
 | _=>{posonlyargs:=[],args:=[],vararg:=none,kwonlyargs:=[],kw_defaults:=[],kwarg:=none,defaults:=[]}
def qw (s:Stmt):List Stmt:=match s with
 | .FunctionDef _ _ b _ _ _ _ _ _ _=>b
 | _=>[]
def qc (s:Stmt):Scope:=match s with
 | .FunctionDef _ _ _ _ _ _ sc _ _ _=>sc
 | _=>{kind:= .function,names:=[],isGenerator:=false,isCoroutine:=false}
abbrev CX0:CXT:=λ _ _ _ _ _ _=>False
abbrev E0:XK:=λ _ _ _=>False
theorem q89 {X:Cx}:q2x CX0 X E0:=λ _ _ _ _ _ _ _ h=>h.elim
structure Fun (K:PySem.W.Frag) (x qual:Str) (st:Stmt) (f:Addr) (fd:FuncData):Prop where
 ex:∃ (oc:Value) (od:Option Addr) (kV doc pm:Value) (an:Option Addr) (cdv ct:Value) (osl:Array (Option Value)),
  fd=PySem.W.fnOf x qual (q1g st) (qw st) (qc st) .none kV doc pm an cdv ct/\K.lookup f=some ⟨oc,od,.func fd,osl⟩/\PySem.W.codeIn K cdv qual=true
 kp:PySem.W.keepIn K (.ref f)=true
section
variable {P:Program} {w:World} {K:PySem.W.Frag} {mg:Str ->Option Value} {base:Heap}
theorem Fun.ok {x qual:Str} {st:Stmt} {f:Addr} {fd:FuncData} {N ps:List Str} {k:Nat} {sp:Sp} (F:Fun K x qual st f fd) (S:FnScope N ps (qc st)) (len:∀ vs H Q E,sp vs H Q E ->vs.length=ps.length)
  (J:∀ (cdv:Value) (A:Around) (outer:List Env) (s:Shared) (H:Hp) (vs:List V) (Q:VK) (E:XK),Room k (A.deeper (envOfC qual (qc st) s.heap.objs.size f cdv)) ->sp vs H Q E ->
   ∃ t,PSs (cxOf CX0 P w K mg base N qual (qc st) f cdv A outer s H E).nox (qw st) t/\t {nx:=λ _ H'=>Q .non H',rt:=Q} (start N vs) H):FnOk P w K mg base CX0 (k+1) f fd ps sp:=by
 obtain ⟨oc,od,kV,doc,pm,an,cdv,ct,osl,rfl,lk,O⟩:=F.ex;refine qgo lk O S len λ A outer s H vs Q E hr U=> ?_;obtain ⟨t,h,q⟩:=J cdv A outer s H vs Q E hr U;exact ⟨t,h.nox,q⟩
theorem qmg {x qual:Str} {st:Stmt} {f:Addr} {Z:Value} {od U:Option Addr} {O:Array (Option Value)} {kV J Y cdv ct:Value} (l:K.lookup f=some ⟨Z,od,.func (PySem.W.fnOf x qual (q1g st) (qw st) (qc st) .none kV J Y U cdv ct),O⟩)
  (c:PySem.W.codeIn K cdv qual=true) (k:PySem.W.keepIn K (.ref f)=true):Fun K x qual st f (PySem.W.fnOf x qual (q1g st) (qw st) (qc st) .none kV J Y U cdv ct):=⟨⟨Z,od,kV,J,Y,U,cdv,ct,O,rfl,l,c⟩,k⟩
end
theorem q3c {A:Around} {k:Nat} (hr:Room k A):A.units+1 < cLine:=Nat.lt_of_le_of_lt (Nat.add_le_add_left (by decide:1<=64) _) hr.units
theorem q15 {n:Nat} (h:n<=1000):n < sizeLine:=Nat.lt_of_le_of_lt h (by decide)
section
variable {X:Cx}
theorem pv (i:Nat) {x:Str} {pos:Pos} (hN:X.N[i]? =some x:=by rfl) (hv:Vis X.env.scope x:=by first | exact Or.inl rfl | exact Or.inr (Or.inl rfl) | exact Or.inr (Or.inr rfl)) (hd:(x==("__debug__":Str))=false:=by decide)
  (J:(x==("__classdict__":Str))=false:=by decide):PE X (.Name x pos) (tVar i):=qt2 hN hv hd J
end
theorem iteF {A B:Prop} (h:B):if false=true then A else B:=by
 rw [if_neg z1b];exact h
theorem iteT {A B:Prop} (h:A):if true=true then A else B:=by
 rw [if_pos rfl];exact h
theorem ite2 {c A B:Prop} [Decidable c] (h1:c ->A) (h2:¬ c ->B):if c then A else B:=by
 by_cases h:c
 ·rw [if_pos h];exact h1 h
 ·rw [if_neg h];exact h2 h
def Same (H H':Hp):Prop:=∀ b o,H b=some o ->H' b=some o
theorem Same.refl (H:Hp):Same H H:=λ _ _ h=>h
theorem Same.trans {H H1 H2:Hp} (a:Same H H1) (b:Same H1 H2):Same H H2:=λ c o h=>b c o (a c o h)
theorem Same.free {H H':Hp} (e:Same H H') {l:Addr} (h:H' l=Option.none):H l=Option.none:=by
 cases q:H l with
 | none=>rfl
 | some o=>
  rw [e l o q] at h;cases h
theorem Same.seq {K:PySem.W.Frag} {H H':Hp} {a:Addr} {xs:List V} (e:Same H H') (h:SqL K H a xs):SqL K H' a xs:=by
 rcases h with (h | ⟨o,h⟩) | h
 ·exact .inl (.inl (e _ _ h))
 ·exact .inl (.inr ⟨o,e _ _ h⟩)
 ·exact .inr h
section
variable {X:Cx}
end
section
variable {κ:Type} [DecidableEq κ]
theorem qhg {kvs:List (κ×V)} {k:κ} (h:valV kvs k=none):¬ k∈kvs.map (·.1):=by
 intro m;obtain ⟨p,hp,e⟩:=z3m.mp m;have q:(kvs.any λ kv=>decide (kv.1=k))=true:=z2b.mpr ⟨p,hp,z2w e⟩;rw [q2n,h] at q;exact absurd q (by simp)
theorem q7o {kvs:List (κ×V)} {k:κ} {v:V} (h:valV kvs k=some v):k∈kvs.map (·.1):=by
 have q:(kvs.any λ kv=>decide (kv.1=k))=true:=by
  rw [q2n,h]
  all_goals rfl
 obtain ⟨p,hp,e⟩:=z2b.mp q;exact z3m.mpr ⟨p,hp,of_decide_eq_true e⟩
theorem q9y:∀ {l:List κ} {k:κ},l.Nodup ->¬ k∈l ->(l++ [k]).Nodup
 | [],k,_,_=>by simp
 | a::r,k,h,J=>by
  obtain ⟨h1,h2⟩:=z2n.mp h;show (a::(r++ [k])).Nodup;refine z2n.mpr ⟨λ m=> ?_,q9y h2 λ m=>J (z35.mpr (Or.inr m))⟩;rcases z2f.mp m with q | q
  ·exact h1 q
  ·exact J (z35.mpr (Or.inl (z1c.mp q).symm))
theorem q57 {p:κ×V} {r:List (κ×V)} {k:κ} (e:p.1=k):q2l (p::r) k=q2l r k:=by
 unfold q2l;rw [z25,if_neg (by simp [e])]
theorem q58 {p:κ×V} {r:List (κ×V)} {k:κ} (e:¬ p.1=k):q2l (p::r) k=p::q2l r k:=by
 unfold q2l;rw [z25,if_pos (by simp [e])]
theorem qmh {kvs:List (κ×V)} {k:κ} {p:κ×V} (h:p∈q2l kvs k):p∈kvs:=(z2i.mp h).1
theorem q4l:∀ {kvs:List (κ×V)} {k:κ},(kvs.map (·.1)).Nodup ->((q2l kvs k).map (·.1)).Nodup
 | [],_,_=>z30
 | p::r,k,h=>by
  have h:(p.1::r.map (·.1)).Nodup:=h;obtain ⟨h1,h2⟩:=z2n.mp h;by_cases e:p.1=k
  ·rw [q57 e];exact q4l h2
  ·rw [q58 e];show (p.1::(q2l r k).map (·.1)).Nodup;refine z2n.mpr ⟨λ m=>h1 ?_,q4l h2⟩;obtain ⟨q,hq,eq⟩:=z3m.mp m;exact z3m.mpr ⟨q,qmh hq,eq⟩
end
theorem qdd {β:Type} {x n:Str} {b c:β} {l:List (Str×β)} (h:((n,b)::l).lookup x=some c):(x=n/\b=c)\/ l.lookup x=some c:=by
 rw [List.lookup_cons] at h;cases e:x==n with
 | true=>
  rw [e] at h;exact .inl ⟨eq_of_beq e,Option.some.inj h⟩
 | false=>
  rw [e] at h;exact .inr h
theorem qb7 {β:Type} {x n:Str} {b:β} {l:List (Str×β)} (h:x=n\/ ∃ c,l.lookup x=some c):∃ c,((n,b)::l).lookup x=some c:=by
 rw [List.lookup_cons];cases e:x==n with
 | true=>exact ⟨b,rfl⟩
 | false=>
  rcases h with h | h
  ·subst h;simp at e
  ·exact h
theorem q8a {env:Env}:∀ (names:List (Str×NameKind)) (J:List (Str×Addr)),(∀ y∈names,y.2= .free ->∃ c,env.cells.lookup y.1=some c) ->
    (∀ x c,J.lookup x=some c ->env.cells.lookup x=some c) ->
    ∃ cl,(forIn names J (λ x r=>if (x.2==NameKind.free)=true then (cellOf env x.1 >>=λ c=>pure (ForInStep.yield ((x.1,c)::r))) else pure (ForInStep.yield r)):Sem (List (Str×Addr)))=pure cl/\
      (∀ x c,cl.lookup x=some c ->env.cells.lookup x=some c)/\(∀ y∈names,y.2= .free ->∃ c,cl.lookup y.1=some c)/\(∀ x c,J.lookup x=some c ->∃ O,cl.lookup x=some O)
  | [],J,_,h=>⟨J,rfl,h,(λ _ z=>nomatch z),λ x c e=>⟨c,e⟩⟩
  | (n,k)::r,J,hn,h=>by
    rw [List.forIn_cons];by_cases hk:k= .free
    · subst hk
      obtain ⟨c,hc⟩:=hn (n,.free) z1f rfl;have e1:(cellOf env n:Sem Addr)=pure c:=by
        have Z:env.cells.lookup n=some c:=hc;unfold cellOf;rw [Z]
      obtain ⟨cl,e,h1,h2,U⟩:=q8a r ((n,c)::J) (λ y hy=>hn y (z0z _ hy)) (λ x O e=>by
        rcases qdd e with ⟨e1,e2⟩ | e
        · subst e1;subst e2;exact hc
        · exact h x O e)
      refine ⟨cl,?_,h1,?_,λ x O e=> ?_⟩
      · show ((if ((n,NameKind.free).2==NameKind.free)=true then (cellOf env n >>=λ c=>pure (ForInStep.yield ((n,c)::J))) else pure (ForInStep.yield J)) >>=_)=_
        rw [if_pos (show ((n,NameKind.free).2==NameKind.free)=true from rfl),e1];exact e
      · intro y hy Y
        rcases z35.mp hy with rfl | hy
        · exact U n c (by simp)
        · exact h2 y hy Y
      · obtain ⟨c2,e2⟩:=qb7 (n:=n) (b:=c) (.inr ⟨O,e⟩)
        exact U x c2 e2
    · obtain ⟨cl,e,h1,h2,U⟩:=q8a r J (λ y hy=>hn y (z0z _ hy)) h
      refine ⟨cl,?_,h1,?_,U⟩
      · show ((if ((n,k).2==NameKind.free)=true then (cellOf env n >>=λ c=>pure (ForInStep.yield ((n,c)::J))) else pure (ForInStep.yield J)) >>=_)=_
        rw [if_neg (by simpa using hk)];exact e
      · intro y hy Y
        rcases z35.mp hy with rfl | hy
        · exact absurd Y hk
        · exact h2 y hy Y
theorem qri {scope:Scope} {env:Env} (h:∀ y∈scope.names,y.2= .free ->∃ c,env.cells.lookup y.1=some c):
  ∃ cl,closureFor scope env=pure cl/\(∀ x c,cl.lookup x=some c ->env.cells.lookup x=some c)/\(∀ y∈scope.names,y.2= .free ->∃ c,cl.lookup y.1=some c):=by
 obtain ⟨cl,e,h1,h2,_⟩:=q8a scope.names [] h (λ x c e=>by simp at e);refine ⟨cl,?_,h1,h2⟩;unfold closureFor;show ((forIn scope.names [] (λ x r=>if (x.2==NameKind.free)=true then (cellOf env x.1 >>=λ c=>pure (ForInStep.yield ((x.1,c)::r))) else pure (ForInStep.yield r)):Sem (List (Str×Addr))) >>=λ r=>pure r)=_;rw [e];rfl
def relK (env:Env) (x:Str) (k:NameKind):NameKind:=if (k== .free&&env.scope.kind== .function&&env.kindOf x==some .cell)=true then .cell else k
theorem q7p {env:Env} {x:Str}:∀ (names:List (Str×NameKind)),
    (names.map λ (n,k)=>if (k==NameKind.free&&env.scope.kind== .function&&env.kindOf n==some .cell)=true then (n,NameKind.cell) else (n,k)).lookup x=(names.lookup x).map (relK env x)
  | []=>rfl
  | (n,k)::r=>by
    have ih:=q7p (env:=env) (x:=x) r;have e:(if (k==NameKind.free&&env.scope.kind== .function&&env.kindOf n==some .cell)=true then (n,NameKind.cell) else (n,k))=(n,relK env n k):=by
      unfold relK;split <;> rfl
    show List.lookup x ((if (k==NameKind.free&&env.scope.kind== .function&&env.kindOf n==some .cell)=true then (n,NameKind.cell) else (n,k))::_)=_;rw [e,List.lookup_cons,List.lookup_cons];cases hx:x==n with
    | true=>
      have:=eq_of_beq hx;subst this;rfl
    | false=>exact ih
theorem qaj {scope:Scope} {cl:List (Str×Addr)} {C:Addr} {env:Env} {x:Str}:(compEnvC scope cl C env).kindOf x=(scope.names.lookup x).map (relK env x):=q7p (env:=env) (x:=x) scope.names
theorem qmi {env:Env} {x:Str}:relK env x .free= .cell\/ relK env x .free= .free:=by
 unfold relK;split
 ·exact .inl rfl
 ·exact .inr rfl
theorem qrj {env:Env} {x:Str} {k:NameKind} (h:relK env x k= .cell\/ relK env x k= .free):k= .cell\/ k= .free:=by
 unfold relK at h;split at h
 ·rename_i z;simp only [z28,beq_iff_eq] at z;exact .inr z.1.1
 ·exact h
def capt (caps:List (Option Nat)) (σ:St):St:=caps.map λ o=>match o with
 | none=>none
 | some j=>(σ[j]?).join
def qhh (oN:List Str) (osc:Scope) (N:List Str) (caps:List (Option Nat)) (sc:Scope):Bool:=
 (sc.kind== .function)&&decide N.Nodup&&(N.length==caps.length)&&sc.names.all (λ y=> !(y.2== .cell))&&
 sc.names.all (λ y=> !(y.2== .local) || sc.names.lookup y.1==some .local)&&
 sc.names.all (λ y=> !(y.2== .free) || (osc.names.lookup y.1==some .cell || osc.names.lookup y.1==some .free))&&
 (N.zip caps).all (λ p=>match p.2 with
  | none=>true
  | some j=>oN[j]? ==some p.1&&sc.names.lookup p.1==some .free)
structure CompOk (oN:List Str) (osc:Scope) (N:List Str) (caps:List (Option Nat)) (sc:Scope):Prop where
 kind:sc.kind= .function
 nd:N.Nodup
 len:N.length=caps.length
 nocell:∀ y∈sc.names,y.2≠ .cell
 loc:∀ y∈sc.names,y.2= .local ->sc.names.lookup y.1=some .local
 fr:∀ y∈sc.names,y.2= .free ->osc.names.lookup y.1=some .cell\/ osc.names.lookup y.1=some .free
 cap:∀ (i j:Nat) (x:Str),N[i]? =some x ->caps[i]? =some (some j) ->oN[j]? =some x/\sc.names.lookup x=some .free
theorem qmj {O:List Str} {J:Scope} {N:List Str} {caps:List (Option Nat)} {U:Scope} (h:qhh O J N caps U=true):CompOk O J N caps U:=by
  unfold qhh at h;simp only [z28,z29,decide_eq_true_eq,beq_iff_eq,Bool.or_eq_true,Bool.not_eq_true',beq_eq_false_iff_ne,ne_eq] at h;obtain ⟨⟨⟨⟨⟨⟨h1,h2⟩,h3⟩,h4⟩,h5⟩,h6⟩,h7⟩:=h;refine ⟨h1,h2,h3,h4,λ y hy e=> ?_,λ y hy e=> ?_,λ i j x hi hj=> ?_⟩
  · rcases h5 y hy with z | z
    · exact absurd e z
    · exact z
  · rcases h6 y hy with z | z
    · exact absurd e z
    · exact z
  · have hm:(x,some j)∈N.zip caps:=by
      refine z11 (i:=i) ?_;rw [List.getElem?_zip_eq_some];exact ⟨hi,hj⟩
    have:=h7 _ hm
    simpa using this
def q40 (X:Cx) (N:List Str) (scope:Scope) (cl:List (Str×Addr)) (C:Addr) (fp:List Addr) (s:Shared) (H:Hp):Cx:=
 {X with N:=N,s₀:=s,H₀:=H,env:=compEnvC scope cl C X.env,outer:=X.stack,ex:=fp,fn:=λ _=>false,pn:=[],xe:=λ _ _=>False}
section
variable {X:Cx} {pins:List (Addr×Obj)} {σ:St} {H:Hp} {s:Shared} {N:List Str} {caps:List (Option Nat)} {scope:Scope} {cl:List (Str×Addr)} {fp:List Addr}
theorem qon (I:Inv X pins σ H s) (hf:∀ b∈fp,FpOk X pins H b) (ho:∀ b∈fp,∃ o,s.heap.get? b=some o) (S:CompOk X.N X.env.scope N caps scope)
    (c1:∀ x c,cl.lookup x=some c ->X.env.cells.lookup x=some c) (c2:∀ y∈scope.names,y.2= .free ->∃ c,cl.lookup y.1=some c)
    {h':Heap} {m:Str ->Option Value} {tk:Nat} (hn:h'.Ns s.heap.objs.size m) (hk:∀ b u,s.heap.get? b=some u ->h'.get? b=some u):
    Inv (q40 X N scope cl s.heap.objs.size fp s H) [] (capt caps σ) H {s with heap:=h',toks:=tk}:=by
  have a1:∀ b∈fp,b∉frs X.stack:=λ b hb z=>by
    obtain ⟨_,f1,f2,_⟩:=hf b hb;rcases z35.mp (I.stkSub b z) with e | e
    · exact f1 e
    · exact f2 e
  have O:∀ x,scope.names.lookup x=some .free ->∃ c,cl.lookup x=some c:=λ x e=>c2 (x,.free) (z16 e) rfl;refine ⟨⟨I.ok.mod,S.kind,I.ok.glob,I.ok.blt,z3p _,λ x y c e1 e2=>I.ok.inj x y c (c1 x c e1) (c1 y c e2),λ x hx=> ?_,λ x c z _=>absurd (show false=true from z) (by decide),I.ok.hd,I.ok.frames,.inl rfl,
    λ b hb=>⟨?_,λ x c e=>(hf b hb).2.2.2.2.1 x c (c1 x c e)⟩,I.bs,z3i I.ok.bsz I.sz,λ b o e hb=> ?_,a1,I.stack,I.stkFree⟩,
    rfl,I.bare,Un.kept hk,⟨m,hn,λ i x v e1 e2 e3=> ?_⟩,λ x c e=> ?_,I.hok.fresh (z3p _),λ x c e=>I.freeC x c (c1 x c e),λ p hp=>absurd (show p∈([]:List (Addr×Obj)) from hp) (by simp),I.hok.kept hk,?_⟩
  · have J:(scope.names.lookup x).map (relK X.env x)=some .cell\/ (scope.names.lookup x).map (relK X.env x)=some .free:=by
      rw [<- qaj (cl:=cl) (C:=s.heap.objs.size)];exact hx
    cases e:scope.names.lookup x with
    | none=>
      rw [e] at J;rcases J with z | z <;> cases z
    | some k=>
      rw [e] at J;have z:relK X.env x k= .cell\/ relK X.env x k= .free:=by
        rcases J with z | z
        · exact .inl (Option.some.inj z)
        · exact .inr (Option.some.inj z)
      rcases qrj z with z | z
      · subst z
        exact absurd rfl (S.nocell _ (z16 e))
      · subst z
        exact O x e
  · obtain ⟨o,e⟩:=ho b hb
    exact z3h (z3g e)
  · obtain ⟨_,_,_,f3,_⟩:=hf b hb
    rcases f3 with z | z
    · exact I.ok.noex b o e z
    · exact absurd (z1h (z3g e) (z3i I.ok.bsz z)) (z37 _)
  · have hi:i < caps.length:=by
      unfold capt at e2;obtain ⟨h1,_⟩:=z06.mp e2
      simpa using h1
    have ec:(capt caps σ)[i]? =(caps[i]?).map λ o=>match o with
        | none=>none
        | some j=>(σ[j]?).join:=by
      unfold capt;rw [z1s]
    rw [e2] at ec;cases q:caps[i]? with
    | none=>
      rw [q] at ec;cases ec
    | some o=>
      rw [q] at ec;cases o with
      | none=>
        cases (Option.some.inj ec)
      | some j=>
        have ej:σ[j]? =some (some v):=by
          have z:some v=(σ[j]?).join:=Option.some.inj ec;cases q2:σ[j]? with
          | none=>rw [q2] at z;cases z
          | some w=>rw [q2] at z;exact congrArg some z.symm
        obtain ⟨n1,n2⟩:=S.cap i j x e1 q;have Z:X.env.kindOf x=some .cell\/ X.env.kindOf x=some .free:=S.fr (x,.free) (z16 n2) rfl;obtain ⟨m0,_,hl⟩:=I.loc;obtain ⟨u,r,l⟩:=hl j x v n1 ej (.inr Z);refine ⟨u,r,?_⟩;rcases l with ⟨k,_⟩ | ⟨_,c,ec,z⟩
        · rw [k] at Z
          rcases Z with z | z <;> cases z
        · obtain ⟨c',e'⟩:=O x n2
          have:c'=c:=Option.some.inj ((c1 x c' e').symm.trans ec);subst this;refine .inr ⟨?_,c',e',?_⟩
          · have kk:(compEnvC scope cl s.heap.objs.size X.env).kindOf x=some (relK X.env x .free):=by rw [qaj,n2];rfl
            rcases qmi (env:=X.env) (x:=x) with z | z
            · rw [z] at kk;exact .inl kk
            · rw [z] at kk;exact .inr kk
          · obtain ⟨o,U,Y⟩:=z
            exact ⟨o,hk _ _ U,Y⟩
  · obtain ⟨v,o,U,Y⟩:=I.cell x c (c1 x c e)
    exact ⟨v,o,hk _ _ U,Y⟩
  · show (capt caps σ).length=N.length
    unfold capt;rw [z2l];exact S.len.symm
end
def PF (X:Cx) (ifs:List Expr) (t:TT):Prop:=
 ∀ (pins:List (Addr×Obj)) (s:Shared) (σ:St) (H:Hp) (Q:Bool ->Hp ->Prop),Inv X pins σ H s ->t σ H Q ->
  wpAny (model X.prog X.w) X.A (forIn ifs true λ c r=>if r=true then do let ok <- isTrue c X.env (eval c X.env);pure (ForInStep.yield ok) else pure (ForInStep.yield r)) (TP X pins σ Q) X.xe s
def tYes:TT:=λ _ H Q=>Q true H
section
variable {X:Cx}
theorem q37:PF X [] tYes:=λ _ _ _ H _ I h=>z3u ⟨H,I,h⟩
theorem qtj {c:Expr} {t:TT} (hc:PT X c t):PF X [c] t:=by
 intro pins s σ H Q I h;rw [List.forIn_cons];refine z3v ?_;rw [if_pos rfl];refine z3v (thn (hc pins s σ H Q I h) λ ok s1 q=>z3u ?_);exact z3u q
end
theorem qhi {prog:Program} {w:World} {A:Around} {R:Result ->Shared ->Prop} {s:Shared} {elt J iter:Expr} {ifs:List Expr} {scope:Scope} {pos:Pos} {it O:Value} {env:Env} (I:Nat ->Shared ->Prop)
  (turn:∀ n s,I n s ->wpAny (model prog w) A (pyNext it) (λ r Z=>match r with
   | none=>R (.ok .next) Z
   | some v=>wpAny (model prog w) A (letOwnedTupleGo J it v) (λ _ U=>wpAny (model prog w) A (assign J env v) (λ _ s₂=>
     wpAny (model prog w) A (forIn ifs true λ c r=>if r=true then do let ok <- isTrue c env (eval c env);pure (ForInStep.yield ok) else pure (ForInStep.yield r)) (λ ok s₃=>
      if ok=true then wpAny (model prog w) A (eval elt env) (λ x s₄=>
       wpAny (model prog w) A (call (.builtin "list.append") [O,x]) (λ _ s₅=>∃ m,m < n/\I m s₅) (λ _ _=>False) s₄) (λ _ _=>False) s₃
      else ∃ m,m < n/\I m s₃) (λ _ _=>False) s₂) (λ _ _=>False) U) (λ _ _=>False) Z) (λ _ _=>False) s)
  (n:Nat) (h:I n s):
  codeAny (model prog w) A (.compLoop (.ListComp elt [⟨J,iter,ifs,0⟩] scope pos) 0 it O env) R s:=by
 refine codeAny_loop rfl I (λ n s hI=> ?_) n h;show wpAny _ A ((compTurn (.ListComp elt [⟨J,iter,ifs,0⟩] scope pos) 0 it O env).onRaise (λ x=>do noteFrame x env;theTreesLotGoes x)) _ _ s;refine wpAny_noted ?_;rw [compTurn_list];refine z3v (wpAny_standAt (z3v (z3w (turn n s hI) (λ r Z h₁=> ?_) λ _ _ z=>False.elim z)));cases r with
 | none=>exact z3u h₁
 | some v=>
  refine z3v (z3w h₁ (λ _ U Y=> ?_) λ _ _ z=>False.elim z);refine z3v (z3w Y (λ _ s₂ h₂=>z3v (z3w h₂ (λ ok s₃ h₃=> ?_) λ _ _ z=>False.elim z)) λ _ _ z=>False.elim z);cases ok with
  | false=>exact z3u ⟨rfl,h₃⟩
  | true=>
   exact z3v (z3v (z3w h₃ (λ x s₄ h₄=>z3v (z3w h₄ (λ _ s₅ h₅=>z3u (z3u ⟨zr,h₅⟩)) λ _ _ z=>False.elim z)) λ _ _ z=>False.elim z))
def qqa (J:It) (g:TG) (tf:TT) (te:TE) (D:Addr) (QE:Hp ->Prop) (W:Nat ->Nat ->St ->Hp ->Prop):Prop:=∀ i m σ H,W i m σ H ->
 (J.stop i H/\QE H)\/ (J.go i H/\∃ N:St ->Hp ->Prop,(∀ σ' H',N σ' H' ->∃ m',m' < m/\W (i+1) m' σ' H')/\∀ x H',J.yld i H x H' ->g x σ H' λ σ2 H2=>tf σ2 H2 λ b H3=>
  if b=true then te σ2 H3 λ v H4=>∃ xs,H4 D=some (.lst xs)/\xs.length < sizeLine/\N σ2 (upd H4 D (.lst (xs++ [v]))) else N σ2 H3)
def qqb (caps:List (Option Nat)) (wi:TI) (g:TG) (tf:TT) (te:TE):TE:=λ σ H Q=>wi σ H λ J H1=>∀ D,H1 D=none ->
 ∃ W:Nat ->Nat ->St ->Hp ->Prop,(∃ m,W 0 m (capt caps σ) (upd H1 D (.lst [])))/\qqa J g tf te D (λ H'=>Q (.ref D) H') W
section
variable {X:Cx} {pins:List (Addr×Obj)} {σ:St} {H:Hp} {s:Shared} {N:List Str} {caps:List (Option Nat)} {scope:Scope} {elt tg iter:Expr} {ifs:List Expr} {wi:TI} {g:TG} {tf:TT} {te:TE} {pos:Pos}
theorem qmk {RR:Value ->Addr ->Result ->Shared ->Prop} {cl:List (Str×Addr)} {Q:VK} (hc:X.calm=true) (S:CompOk X.N X.env.scope N caps scope) (hi:PI X tg iter wi)
  (hg:∀ cl C fp s H,PG (q40 X N scope cl C fp s H) tg g) (hf:∀ cl C fp s H,PF (q40 X N scope cl C fp s H) ifs tf) (he:∀ cl C fp s H,PE (q40 X N scope cl C fp s H) elt te)
  (c1:∀ x c,cl.lookup x=some c ->X.env.cells.lookup x=some c) (c2:∀ y∈scope.names,y.2= .free ->∃ c,cl.lookup y.1=some c)
  (I:Inv X pins σ H s) (h:qqb caps wi g tf te σ H Q)
  (fin:∀ (D C:Addr) (m:Str ->Option Value) (H5:Hp) (s5:Shared),Inv X pins σ H5 s5 ->s5.heap.Ns C m ->FpOk X pins H5 C ->Q (.ref D) H5 ->RR (.ref D) C (.ok .next) s5):
  wpAny (model X.prog X.w) X.A (eval iter X.env) (λ x s₁=>wpAny (model X.prog X.w) X.A (pyIter x) (λ it s₂=>wpAny (model X.prog X.w) X.A (newList []) (λ a4 s₃=>
   wpAny (model X.prog X.w) X.A (newFunctionEnv scope X.env.globals cl [] X.env.qual none .none (some X.env)) (λ a1 s₄=>
    codeAny (model X.prog X.w) X.A (.compStart (.ListComp elt [⟨tg,iter,ifs,0⟩] scope pos) 0 it a4 {a1 with scope:=relabel scope X.env}) (RR a4 a1.locals) s₄) X.xe s₃) X.xe s₂) X.xe s₁) X.xe s:=by
 refine thn (hi pins s σ H _ I h) λ v s1 h1=>thn h1 λ itv U h2=> ?_;obtain ⟨it,fp,tn,J,H2,e,I2,T,a9,f2,q⟩:=h2;subst e;have nD:H2 U.heap.objs.size=none:=I2.hok.fresh (z3p _);obtain ⟨W,⟨m0,w0⟩,turn⟩:=q U.heap.objs.size nD;refine z1x ?_;have I3:Inv X pins σ (upd H2 U.heap.objs.size (.lst [])) {U with heap:=U.heap.push {cls:= .type "list",data:= .seq ([]:List Value).toArray}}:=
  I2.laid (t':=U.toks) (o:= .lst []) (λ b ob e=>z0j _ e) (z3p _) ⟨z3s _,[],0,.nil,z15 _ rfl⟩
 have a8:∀ b∈fp,∃ o,U.heap.get? b=some o:=λ b hb=>let ⟨o,e,_⟩:=T.obj 0 U.heap a9 b hb;⟨o,e⟩
 have b9:∀ b∈fp,b≠U.heap.objs.size:=λ b hb=>let ⟨o,e⟩:=a8 b hb;z3h (z3g e)
 generalize b8:({U with heap:=U.heap.push {cls:= .type "list",data:= .seq ([]:List Value).toArray}}:Shared)=s3 at I3;have eh:s3.heap=U.heap.push {cls:= .type "list",data:= .seq ([]:List Value).toArray}:=by rw [<- b8]
 generalize hD:U.heap.objs.size=D at*;generalize b6:upd H2 D (.lst [])=H3 at I3 w0;have f3:∀ b∈fp,FpOk X pins H3 b:=λ b hb=>⟨by rw [<- b6,qh (b9 b hb)];exact (f2 b hb).1,(f2 b hb).2⟩;have c0:∀ b∈fp,∃ o,s3.heap.get? b=some o:=λ b hb=>let ⟨o,e⟩:=a8 b hb;⟨o,by rw [eh];exact z0j _ e⟩
 have c4:tn 0 s3.heap:=T.keep 0 _ _ a9 λ b hb o e=>by rw [eh];exact z0j _ e
 show wpAny (model X.prog X.w) X.A (newFunctionEnv scope X.env.globals cl [] X.env.qual none .none (some X.env)) _ X.xe s3;refine wpAny_newFunctionEnv S.nocell (by intro y hy;simp at hy) (λ h₁ a6 a7=> ?_) S.kind;have k1:∀ b u,s3.heap.get? b=some u ->h₁.get? b=some u:=λ b u e=>a7.extBut b u (z3h (z3g e)) (z0j _ e);have J0:=qon (tk:=s3.toks+([]:List (Str×Value)).length) I3 f3 c0 S c1 c2 a6 k1;generalize hC:s3.heap.objs.size=C at*;generalize O:q40 X N scope cl C fp s3 H3=X' at J0;have Y:tn 0 h₁:=T.keep 0 _ _ c4 λ b hb o e=>k1 b o e;have Z:∀ {H':Hp},(∀ b∈fp,H' b=none) ->∀ b∈fp,FpOk X' [] H' b:=λ {H'} hn b hb=>by
  subst O;exact ⟨hn b hb,(J0.ok.exf b hb).1,J0.ok.exfs b hb,.inl hb,(J0.ok.exf b hb).2,λ p hp=>absurd (show p∈([]:List (Addr×Obj)) from hp) (by simp)⟩
 have loop:∀ s4:Shared,s4={s3 with heap:=h₁,toks:=s3.toks+([]:List (Str×Value)).length} ->
   codeAny (model X.prog X.w) X.A (.compLoop (.ListComp elt [⟨tg,iter,ifs,0⟩] scope pos) 0 (.ref it) (.ref D) (compEnvC scope cl C X.env)) (RR (.ref D) C) s4:=by
  rintro s4 rfl;refine qhi (λ n s'=>∃ i σ' H',Inv X' [] σ' H' s'/\tn i s'.heap/\(∀ b∈fp,H' b=none)/\W i n σ' H') ?_ m0 ⟨0,_,H3,J0,Y,λ b hb=>(f3 b hb).1,w0⟩;rintro n s4 ⟨i,σ4,H4,J4,Y,a5,w4⟩;rcases turn i n σ4 H4 w4 with ⟨stop,qn⟩ | ⟨go,Nn,b7,step⟩
  ·have d:=T.done X' (by subst O;rfl) (by subst O;rfl) (by subst O;rfl) (by subst O;exact hc) i [] s4 σ4 H4 (λ _ _=>False) J4 (Z a5) Y stop;have eA:X'.A=X.A:=by subst O;rfl
   rw [eA] at d;refine z3w d (λ r s5 hr=> ?_) λ _ _ z=>z;obtain ⟨hr,J5⟩:=hr;subst hr;have I5:Inv X pins σ H4 s5:=by
    subst O;exact I3.call' J5.os J5.base J5.hok J5.bare λ b hb=>⟨(f3 b hb).2.2.2.1,(f3 b hb).2.1,(f3 b hb).2.2.2.2.1,(f3 b hb).2.2.2.2.2⟩
   obtain ⟨m,hn,_⟩:=J5.loc;have fr:=J5.free;subst O;exact fin D C m H4 s5 I5 hn (I3.fpOk (b:=C) (Nat.le_of_eq hC) fr) qn
  ·have d:=T.item X' (by subst O;rfl) (by subst O;rfl) (by subst O;rfl) (by subst O;exact hc) i [] s4 σ4 H4 (λ _ _=>False) J4 (Z a5) Y go;have eA:X'.A=X.A:=by subst O;rfl
   rw [eA] at d;refine z3w d (λ r s5 hr=> ?_) λ _ _ z=>z;obtain ⟨u,hr,h5⟩:=hr;subst hr;refine z3w h5 (λ _ s6 q6=> ?_) λ _ _ z=>z;obtain ⟨x,H6,J6,r6,y6,a3,b4⟩:=q6;have b3:=J6.pinned (Z b4) (T.obj _ _ a3);have again:∀ {H9:Hp} {s9:Shared} {σ9:St},Inv X' ([]++q91 fp s6.heap) σ9 H9 s9 ->Nn σ9 H9 ->∃ m,m < n/\∃ i σ' H',Inv X' [] σ' H' s9/\tn i s9.heap/\(∀ b∈fp,H' b=none)/\W i m σ' H':=λ {H9 s9 σ9} J9 q9=>by
    obtain ⟨m',hm,w9⟩:=b7 σ9 H9 q9;refine ⟨m',hm,i+1,σ9,H9,J9.unpinned,T.keep _ _ _ a3 λ b hb o e=>(J9.pin (b,o) (z0r _ (z0r _ (q60 hb e)))).1,λ b hb=> ?_,w9⟩;obtain ⟨o,e,d⟩:=T.obj _ _ a3 b hb;exact (J9.pin (b,o) (z0r _ (z0r _ (q60 hb e)))).2.1
   subst O;refine z3w (hg cl C fp s3 H3 _ s6 σ4 H6 x u _ b3 r6 (step x H6 y6)) (λ _ s7 q7=> ?_) λ _ _ z=>z;obtain ⟨σ7,H7,J7,q7⟩:=q7;refine z3w (hf cl C fp s3 H3 _ s7 σ7 H7 _ J7 q7) (λ ok s8 q8=> ?_) λ _ _ z=>z;obtain ⟨H8,J8,q8⟩:=q8;cases ok with
   | false=>
    rw [if_neg (by decide)] at q8;rw [if_neg (by decide)];exact again J8 q8
   | true=>
    rw [if_pos rfl] at q8;rw [if_pos rfl];refine z3w (he cl C fp s3 H3 _ s8 σ7 H8 _ J8 q8) (λ v9 s9 q9=> ?_) λ _ _ z=>z;obtain ⟨y,H9,J9,r9,xs,b5,hz,q9⟩:=q9;refine z3w (q56 (X:=q40 X N scope cl C fp s3 H3) _ s9 σ7 H9 (.ref D) [y] (.ref D) [v9] (λ _ H'=>Nn σ7 H') J9 rfl (.cons r9 .nil) ⟨D,xs,y,zr,zr,b5,hz,q9⟩) (λ _ s10 a2=> ?_) λ _ _ z=>z;obtain ⟨_,H10,b2,_,a2⟩:=a2;exact again b2 a2
 exact codeAny_compStart_list (loop _ rfl) (T.self _ 0 _ _ _ Y (loop _ rfl))
theorem q2f (hc:X.calm=true) (ho:qhh X.N X.env.scope N caps scope=true) (hi:PI X tg iter wi)
  (hg:∀ cl C fp s H,PG (q40 X N scope cl C fp s H) tg g) (hf:∀ cl C fp s H,PF (q40 X N scope cl C fp s H) ifs tf) (he:∀ cl C fp s H,PE (q40 X N scope cl C fp s H) elt te)
  (hs:∀ x,foldedSetIterable iter X.env x=pure x:=by intro _;rfl):PE X (.ListComp elt [⟨tg,iter,ifs,0⟩] scope pos) (qqb caps wi g tf te):=by
 intro pins s σ H Q I h;have S:=qmj ho;obtain ⟨cl,U,c1,c2⟩:=qri (scope:=scope) (env:=X.env) (λ y hy e=>I.ok.has y.1 (S.fr y hy e));rw [eval_ListComp];refine wpAny_comprehension_free (use:=none) rfl hs U S.kind S.loc (qmk (RR:=λ O C=>compPost (model X.prog X.w) X.A X.xe none (EP X pins σ Q) O C) hc S hi hg hf he c1 c2 I h ?_);intro D C m H5 s5 I5 hn J q;exact ⟨m,hn,λ h' sb=>⟨.ref D,H5,I5.turned (t':=s5.toks) (λ b o hb e=>(sb.2 b hb).trans e) J.1 J.2.1 J.2.2.2.1 J.2.2.2.2.1 J.2.2.2.2.2,zr,q⟩⟩
end
theorem q2g {J:It} {g:TG} {tf:TT} {te:TE} {D:Addr} {QE:Hp ->Prop} {σ:St} {H:Hp} (n:Nat) (O:Nat ->St ->Hp ->Prop) (h0:O 0 σ H) (Y:∀ i σ H,i < n ->O i σ H ->J.go i H) (Z:∀ σ H,O n σ H ->J.stop n H/\QE H)
  (hs:∀ i σ H,i < n ->O i σ H ->∀ x H',J.yld i H x H' ->g x σ H' λ σ2 H2=>tf σ2 H2 λ b H3=>if b=true then te σ2 H3 λ v H4=>∃ xs,H4 D=some (.lst xs)/\xs.length < sizeLine/\O (i+1) σ2 (upd H4 D (.lst (xs++ [v]))) else O (i+1) σ2 H3):
  ∃ W:Nat ->Nat ->St ->Hp ->Prop,(∃ m,W 0 m σ H)/\qqa J g tf te D QE W:=by
 refine ⟨λ i m σ H=>m=n - i/\i<=n/\O i σ H,⟨n,by simp,z3s _,h0⟩,?_⟩;rintro i m σ H ⟨rfl,hi,p⟩;by_cases U:i < n
 ·exact .inr ⟨Y i σ H U p,O (i+1),λ σ' H' p'=>⟨n - (i+1),by lia,zr,U,p'⟩,hs i σ H U p⟩
 ·have e:i=n:=by lia
  subst e;exact .inl (Z σ H p)
theorem qtk {J:It} {g:TG} {tb:TS} {D:Ends} {σ:St} {H:Hp} (n:Nat) (O:Nat ->St ->Hp ->Prop) (h0:O 0 σ H) (Y:∀ i σ H,i < n ->O i σ H ->J.go i H) (Z:∀ σ H,O n σ H ->J.stop n H/\D.nx σ H)
  (hs:∀ i σ H,i < n ->O i σ H ->∀ x H',J.yld i H x H' ->g x σ H' λ σ2 H2=>tb {D with nx:=O (i+1),ct:=O (i+1),bk:=D.nx} σ2 H2):
  ∃ W:Nat ->Nat ->St ->Hp ->Prop,(∃ m,W 0 m σ H)/\∀ i m σ H,W i m σ H ->
   (J.stop i H/\D.nx σ H)\/ (J.go i H/\∃ N:St ->Hp ->Prop,(∀ σ' H',N σ' H' ->∃ m',m' < m/\W (i+1) m' σ' H')/\∀ x H',J.yld i H x H' ->g x σ H' λ σ2 H2=>tb {D with nx:=N,ct:=N,bk:=D.nx} σ2 H2):=by
 refine ⟨λ i m σ H=>m=n - i/\i<=n/\O i σ H,⟨n,by simp,z3s _,h0⟩,?_⟩;rintro i m σ H ⟨rfl,hi,p⟩;by_cases U:i < n
 ·exact .inr ⟨Y i σ H U p,O (i+1),λ σ' H' p'=>⟨n - (i+1),by lia,zr,U,p'⟩,hs i σ H U p⟩
 ·have e:i=n:=by lia
  subst e;exact .inl (Z σ H p)
section
variable {X:Cx} {tg:Expr}
end
def cutS (z:Str) (lo hi:Option Int):Str:=⟨((z.cps.toList.drop (HT.sIx z.length 0 lo)).take (HT.sIx z.length z.length hi - HT.sIx z.length 0 lo)).toArray⟩
theorem qfq (lo hi:Option Int) (n:Nat):Builtin.Str.strSliceIndices lo hi 1 n=(List.range (HT.sIx n n hi - HT.sIx n 0 lo)).map (HT.sIx n 0 lo+ ·):=by
 have h:Builtin.Str.strSliceIndices lo hi 1 n=sliceRange ((HT.sIx n 0 lo:Nat):Int) ((HT.sIx n n hi:Nat):Int) 1:=by
  unfold Builtin.Str.strSliceIndices;simp only [show (1:Int) > 0 by decide,if_true]
  congr 1
  ·cases lo with
   | none=>rfl
   | some i=>
    rw [<- HT.clip_eq i n 0];show max 0 (min (if i < 0 then i+(n:Int) else i) (n:Int))=_;split <;> lia
  ·cases hi with
   | none=>rfl
   | some i=>
    rw [<- HT.clip_eq i n n];show max 0 (min (if i < 0 then i+(n:Int) else i) (n:Int))=_;split <;> lia
 rw [h];unfold sliceRange;simp only [show (1:Int) > 0 by decide,if_true];have e2:(if ((HT.sIx n 0 lo:Nat):Int) < ((HT.sIx n n hi:Nat):Int) then (((HT.sIx n n hi:Nat):Int) - ((HT.sIx n 0 lo:Nat):Int)+1 - 1) / 1 else 0).toNat=HT.sIx n n hi - HT.sIx n 0 lo:=by
  split
  ·rw [Int.ediv_one];lia
  ·lia
 rw [e2]
 apply z17
 intro k _
 lia
theorem qkx (xs:Array Nat) (i k:Nat):(((List.range k).map (i+ ·)).filterMap (xs[·]?))=(xs.toList.drop i).take k:=by
 induction k with
 | zero=>simp
 | succ k ih=>
  rw [List.range_succ,z2q,List.filterMap_append,ih,z31]
  congr 1
  simp only [z33,z3l,List.getElem?_drop,z0s];cases h:xs[i+k]? <;> simp [h]
theorem qj4 (z:Str) (lo hi:Option Int):(cutS z lo hi).length<=z.length:=by
 show ((z.cps.toList.drop _).take _).toArray.size<=z.length;rw [z1t,z22,z23];have:z.cps.toList.length=z.length:=by simp [Str.length]
 lia
section
variable {X:Cx}
def rSlS:V ->Option Int ->Option Int ->Hp ->VK ->Prop:=λ x lo hi H Q=>∃ z,x= .str z/\z.length<=sizeLine/\Q (.str (cutS z lo hi)) H
theorem qtl:SlR X rSlS:=by
  intro pins s σ H x v vl vu lo hi sl Q I rx hs pl pu h;obtain ⟨z,rfl,O,q⟩:=h;obtain ⟨t,rfl⟩:=rx;refine ⟨"str",_,F.slot_str_getitem.lookup,typeIs_str s z t,?_⟩;obtain ⟨l,rfl,el⟩:∃ l:Option (Int×Tok),vl=partValue l/\l.map (·.1)=lo:=by
    cases pl with
    | none=>exact ⟨none,rfl,rfl⟩
    | int i t=>exact ⟨some (i,t),rfl,rfl⟩
  obtain ⟨u,rfl,eu⟩:∃ u:Option (Int×Tok),vu=partValue u/\u.map (·.1)=hi:=by
    cases pu with
    | none=>exact ⟨none,rfl,rfl⟩
    | int i t=>exact ⟨some (i,t),rfl,rfl⟩
  refine wpAny_getItem_str_slice (l:=l) (u:=u) (st:=none) hs rfl ?_;have ep:slicePicked z l u none=(List.range (HT.sIx z.length z.length hi - HT.sIx z.length 0 lo)).map (HT.sIx z.length 0 lo+ ·):=by
    unfold slicePicked;rw [el,eu];exact qfq lo hi z.length
  have ec:(slicePicked z l u none).filterMap (z.cps[·]?)=(z.cps.toList.drop (HT.sIx z.length 0 lo)).take (HT.sIx z.length z.length hi - HT.sIx z.length 0 lo):=by
    rw [ep,qkx]
  unfold sliceMade;split
  · rename_i hw
    have J:(slicePicked z l u none).length=z.length:=by simpa using hw
    have e:cutS z lo hi=z:=by
      have hl:z.cps.toList.length=z.length:=by simp [Str.length]
      rw [ep,z2l,List.length_range] at J;have h1:=HT.sIx_le z.length z.length (z3p _) hi;have a0:HT.sIx z.length 0 lo=0\/ z.length=0:=by lia
      unfold cutS;rcases a0 with a0 | a0
      · rw [J,a0,List.drop_zero,z0i (by lia)]
      · have U:z.cps.toList=[]:=List.eq_nil_of_length_eq_zero (by lia)
        rw [U,List.drop_nil,List.take_nil];cases z with
        | mk cps=>
          congr 1
          exact (Array.toList_inj.mp U).symm
    rw [e] at q;exact ⟨.str z,H,I,⟨t,zr⟩,q⟩
  · have e:(⟨((slicePicked z l u none).filterMap (z.cps[·]?)).toArray⟩:Str)=cutS z lo hi:=by
      unfold cutS;rw [ec]
    rw [e];exact ⟨z3i (qj4 z lo hi) O,.str (cutS z lo hi),H,I.tok _,⟨_,zr⟩,q⟩
end
theorem qml (bs:List Bool):(List.range bs.length).all (λ i=>(bs[i]?).getD true)=bs.all id:=by
 rw [z2k,z29,z29]
 constructor
 ·intro h b hb;obtain ⟨i,hi,e⟩:=z0v.mp hb;have:=h i (z2x.mpr hi);rw [z0a hi,e] at this;exact this
 ·intro h i hi;have J:=z2x.mp hi;rw [z0a J];exact h _ (z26 J)
theorem qjy {bs:List Bool} {us:List Value} (r:Vals (bs.map V.bl) us) {i:Nat} {v:Value} (h:us[i]? =some v):∃ b,bs[i]? =some b/\v= .bool b:=by
 have hl:=r.length;obtain ⟨hi,_⟩:=z06.mp h;rw [<- hl,z2l] at hi;have e:(bs.map V.bl)[i]? =some (V.bl bs[i]):=by rw [z1s,z0a hi];rfl
 obtain ⟨u,J,ru⟩:=r.get e;rw [h] at J;cases J
 exact ⟨bs[i],z0a hi,ru⟩
section
variable {X:Cx}
theorem q71 (hc:X.calm=true) (K:PySem.W.Frag) (hK:X.K=K:=by rfl):q20 X (.builtin "all") (λ xs H Q=>∃ (p:Addr) (bs:List Bool),xs=[.ref p]/\SqL K H p (bs.map V.bl)/\Q (.bl (bs.all id)) H):=by
 subst hK;intro pins s σ H xs us Q I r h;obtain ⟨p,bs,rfl,hp,q⟩:=h;obtain ⟨u,rfl,ru⟩:=q2b r;cases ru
 obtain ⟨its,rv,pl,hz⟩:=I.list hp;have hl:its.toArray.size=bs.length:=by
  have:=rv.length;rw [z2l] at this;rw [z1t];exact this.symm
 have hh:X.A.in1.handled=none:=I.ok.hd hc;have O:p≠s.heap.objs.size:=λ e=>by
  obtain ⟨o,n,e1,_⟩:=pl;exact absurd (z3g e1) (by rw [e];exact z37 _)
 refine call_all_walk (z1v pl.isList ?_);refine ⟨s.heap.objs.size,_,_,_,_,_,λ i=>(bs[i]?).getD true,zr,Walks.list hh _ p O its.toArray,⟨⟨_,z15 _ rfl,zr,zr⟩,pl.isList.at λ o e=>z0j _ e⟩,?_,λ h' tk kk=> ?_⟩
 ·intro i v s' Q' E' hv hq;have U:its[i]? =some v:=by simpa using hv
  obtain ⟨b,e,rfl⟩:=qjy rv U;have J:Q' ((bs[i]?).getD true) s':=hq;rw [e] at J;exact z1u J
 ·rw [hl,qml];exact ⟨.bl _,H,I.kept λ b o e=>kk b o (by simp;exact z3h (z3g e)) (z0j _ e),rfl,q⟩
def tyTs:List String:=["NoneType","bool","int","str","list","tuple","dict"]
def tyNs:List String:=["bool","int","str","list","tuple","dict"]
def tyIs (T n:String):Bool:=T==n || (T=="bool"&&n=="int")
theorem qrk:∀ T∈tyTs,∀ n∈tyNs,PySem.W.kitMeta n=true/\(PySem.fastBuiltinMro T).map (·.contains (Value.type n))=some (tyIs T n):=by decide+kernel
theorem qrl {K:PySem.W.Frag} {T n:String} (hT:T∈tyTs) (hn:n∈tyNs):PySem.W.kitOne K (.type T) (.type n)=some (tyIs T n):=by
 obtain ⟨h1,h2⟩:=qrk T hT n hn;unfold PySem.W.kitOne;split
 ·rename_i e;have e':=eq_of_beq e;injection e' with J;subst J;simp [tyIs]
 ·unfold PySem.W.kitCls;show (if PySem.W.kitMeta n=true then PySem.W.subIn K (.type T) (.type n) else none)=_;rw [if_pos h1];exact h2
theorem q41 {x:Str} {n:String} {pos:Pos} (hg:Gl X x) (hm:X.mg x=none) (hv:bootBuiltins x=some (.type n)) (hn:x≠"__name__":=by decide) (hd:(x==("__debug__":Str))=false:=by decide):PE X (.Name x pos) (tC (.ty n)):=
 qqy hg hm hv rfl hn hd
end
structure Top (K:PySem.W.Frag) (mg:Str ->Option Value) (x:Str) (st:Stmt) (ps:List Str):Prop where
 ex:∃ f fd,Fun K x x st f fd/\mg x=some (.ref f)/\∀ us:List Value,us.length=ps.length ->bindArgs fd ⟨us,[]⟩=pure (ps.zip us)
theorem qtm {K:PySem.W.Frag} {h:Heap} {mg:Str ->Option Value} {x:Str} {st:Stmt} {ps:List Str} {f:Addr} {oc:Value} {od O:Option Addr} {Y:Array (Option Value)} {kV J U cdv ct:Value} (X:K.In h) (G:h.Ns mainGlobals mg)
  (b:∀ (kV J U:Value) (O:Option Addr) (cdv ct:Value) (us:List Value),us.length=ps.length ->bindArgs (PySem.W.fnOf x x (q1g st) (qw st) (qc st) .none kV J U O cdv ct) ⟨us,[]⟩=pure (ps.zip us))
  (a:PySem.W.nsIn K mainGlobals x=some (some (.ref f)))
  (l:K.lookup f=some ⟨oc,od,.func (PySem.W.fnOf x x (q1g st) (qw st) (qc st) .none kV J U O cdv ct),Y⟩) (c:PySem.W.codeIn K cdv x=true) (k:PySem.W.keepIn K (.ref f)=true):Top K mg x st ps:=by
 have F:=qmg (st:=st) l c k;exact ⟨f,_,F,z39 X G a,b kV J U O cdv ct⟩
structure Def (P:Program) (w:World) (K:PySem.W.Frag) (mg:Str ->Option Value) (base:Heap) (k:Nat) (x:Str) (ps:List Str) (sp:Sp):Prop where
 ex:∃ f fd,FnOk P w K mg base CX0 k f fd ps sp/\mg x=some (.ref f)/\PySem.W.keepIn K (.ref f)=true/\Binds K fd ps []
theorem Top.ok {P:Program} {w:World} {K:PySem.W.Frag} {mg:Str ->Option Value} {base:Heap} {x:Str} {st:Stmt} {N ps:List Str} {k:Nat} {sp:Sp} (T:Top K mg x st ps) (S:FnScope N ps (qc st)) (len:∀ vs H Q E,sp vs H Q E ->vs.length=ps.length)
  (J:∀ (f:Addr) (cdv:Value) (A:Around) (outer:List Env) (s:Shared) (H:Hp) (vs:List V) (Q:VK) (E:XK),Room k (A.deeper (envOfC x (qc st) s.heap.objs.size f cdv)) ->sp vs H Q E ->
   ∃ t,PSs (cxOf CX0 P w K mg base N x (qc st) f cdv A outer s H E).nox (qw st) t/\t {nx:=λ _ H'=>Q .non H',rt:=Q} (start N vs) H):Def P w K mg base (k+1) x ps sp:=by
 obtain ⟨f,fd,F,hm,hb⟩:=T.ex;exact ⟨f,fd,F.ok S len (J f),hm,F.kp,Binds.all hb⟩
theorem Top.fin {l:PySem.W.OpenLaw} {w:World} {K:PySem.W.Frag} {mg:Str ->Option Value} {O:Addr} {x:Str} {st:Stmt} {N:List Str} {k:Nat} {sp:Sp} (T:Top K mg "law" st [x]) (U:mg "law"=some (.ref O)) (S:FnScope N [x] (qc st))
  (len:∀ vs H Q E,sp vs H Q E ->vs.length=[x].length)
  (J:∀ (base:Heap) (f:Addr) (cdv:Value) (A:Around) (outer:List Env) (s:Shared) (H:Hp) (vs:List V) (Q:VK) (E:XK),Room k (A.deeper (envOfC "law" (qc st) s.heap.objs.size f cdv)) ->sp vs H Q E ->
   ∃ t,PSs (cxOf CX0 l.prog w K mg base N "law" (qc st) f cdv A outer s H E).nox (qw st) t/\t {nx:=λ _ H'=>Q .non H',rt:=Q} (start N vs) H):
  ∃ fd:FuncData,(∀ (s:Shared) (v:Value),BindsTo s fd ⟨[v],[]⟩ [(x,v)])/\∀ base:Heap,K.In base ->base.Ns mainGlobals mg ->FnOk l.prog w K mg base CX0 (k+1) O fd [x] sp:=by
 obtain ⟨f,fd,F,hm,hb⟩:=T.ex;have e:=U.symm.trans hm;injection e with e;injection e with e;subst e;exact ⟨fd,λ s v=> .of_eq (hb [v] rfl),λ base _ _=>F.ok S len (J base O)⟩
section
variable {X:Cx} {k k':Nat} {x:Str} {ps:List Str} {sp:Sp} {p pos:Pos} {e:Expr} {es:List Expr} {t:TA}
theorem qv (D:Def X.prog X.w X.K X.mg X.base k x ps sp) (hr:Room k' X.A) (hg:Gl X x) (ha:PA X (e::es) t) (O:k<=k':=by decide)
  (J:(x==("__debug__":Str))=false:=by decide) (he:starEach (e::es) X.env=(false,eval e X.env)::starEach es X.env:=by rfl) (U:(backTo pos (starEach es X.env)).any (·.1)=false:=by rfl):
  PE X (.Call (.Name x p) (e::es) [] pos) (qkt sp [] E0 t):=by
 obtain ⟨f,fd,F,hm,hk,hb⟩:=D.ex;exact qjt F (hr.mono O) hg hm hk hb .nil q89 ha J he U
end
section
variable {X:Cx} {tg:Expr}
theorem qmm (K:PySem.W.Frag) (hK:X.K=K:=by rfl):q20 X (.builtin "len") (λ xs H Q=>∃ x n,xs=[x]/\LenV K x H n/\Q (.int n) H):=by subst hK;exact qob
theorem q11 (K:PySem.W.Frag) (hK:X.K=K:=by rfl):IxR X (rIxL K):=by subst hK;exact qrd
theorem q21 (K:PySem.W.Frag) (hK:X.K=K:=by rfl):IxR X (rIxT K):=by subst hK;exact qt8
theorem q6f (K:PySem.W.Frag) (hK:X.K=K:=by rfl):SlR X (rSlL K):=by subst hK;exact qre
theorem qjz (K:PySem.W.Frag) (hK:X.K=K:=by rfl):SlR X (rSlT K):=by subst hK;exact qt7
theorem q1l (K:PySem.W.Frag) {l:Expr} {tl:TE} (hl:PE X l tl) (hK:X.K=K:=by rfl):PI X tg l (qq5 K tl):=by subst hK;exact qqz hl
theorem q69 (K:PySem.W.Frag) {l:Expr} {tl:TE} (hl:PE X l tl) (hK:X.K=K:=by rfl):PI X tg l (iTup K tl):=by subst hK;exact qt4 hl
theorem qtn (K:PySem.W.Frag) (hK:X.K=K:=by rfl):OpR X (compareOp .In) (rIn K false):=by subst hK;exact qm8
theorem q8b (K:PySem.W.Frag) (hK:X.K=K:=by rfl):q20 X (.type "list") (λ xs H Q=>∃ p ys,xs=[.ref p]/\(SqL K H p ys\/ SqT K H p ys)/\∀ l,H l=none ->Q (.ref l) (upd H l (.lst ys))):=by subst hK;exact qhe
theorem q3k (K:PySem.W.Frag) (hK:X.K=K:=by rfl):q20 X (.type "tuple") (λ xs H Q=>∃ p ys,xs=[.ref p]/\((SqL K H p ys/\∀ l,H l=none ->Q (.ref l) (upd H l (.tup ys)))\/ (SqT K H p ys/\Q (.ref p) H))):=by subst hK;exact qfp
end
theorem q3l {α:Type} {xs:List α} {i:Int} (h0:0<=i) (h1:i < xs.length):∃ v,atI xs i=some v/\v∈xs:=by
 have J:i.toNat < xs.length:=by lia
 refine ⟨xs[i.toNat],?_,z26 J⟩;unfold atI ixN;rw [if_pos h0,if_pos h1];show xs[i.toNat]? =_;exact z0a J
theorem qto {α:Type} {xs:List α} {i:Int} (h0:0<=i) (h1:i < xs.length):atI xs i=xs[i.toNat]? :=by
 unfold atI ixN;rw [if_pos h0,if_pos h1];rfl
theorem qd {H:Hp} {a:Addr} {o:HO} (h:H a=none):Same H (upd H a o):=λ b u e=>by
 rw [qh (q19 e h)];exact e
theorem Same.set {H H':Hp} {a:Addr} {o:HO} (h:Same H H') (n:H a=none):Same H (upd H' a o):=λ b u e=>by
 rw [qh (q19 e n)];exact h b u e
theorem Same.seqT {K:PySem.W.Frag} {H H':Hp} {a:Addr} {xs:List V} (e:Same H H') (h:SqT K H a xs):SqT K H' a xs:=by
 rcases h with (h | ⟨o,h⟩) | h
 ·exact .inl (.inl (e _ _ h))
 ·exact .inl (.inr ⟨o,e _ _ h⟩)
 ·exact .inr h
def q13:Expr ->Bool
 | .Starred _ _=>false
 | _=>true
theorem qfr {e:Expr} {es:List Expr} {env:Env} (h:q13 e=true):starEach (e::es) env=(false,eval e env)::starEach es env:=by
 cases e <;> first
  | rfl
  | cases h
theorem q1o {X:Cx} {e:Expr} {es:List Expr} {te:TE} {t:TA} (ha:PE X e te) (hr:PA X es t) (hs:q13 e=true:=by rfl):PA X (e::es) (q1q te t):=qr8 ha hr (qfr hs)
theorem qtp:bootBuiltins "len"=some (.builtin "len"):=by decide+kernel
theorem q17:bootBuiltins "isinstance"=some (.builtin "isinstance"):=by decide+kernel
theorem qc9:bootBuiltins "all"=some (.builtin "all"):=by decide+kernel
theorem qmn:bootBuiltins "any"=some (.builtin "any"):=by decide+kernel
theorem q3x:bootBuiltins "sorted"=some (.builtin "sorted"):=by decide+kernel
theorem qmo:bootBuiltins "sum"=some (.builtin "sum"):=by decide+kernel
theorem qca:bootBuiltins "min"=some (.builtin "min"):=by decide+kernel
theorem qmp:bootBuiltins "max"=some (.builtin "max"):=by decide+kernel
theorem qtq:bootBuiltins "str"=some (.type "str"):=by decide+kernel
theorem qcb:bootBuiltins "int"=some (.type "int"):=by decide+kernel
theorem q7q:bootBuiltins "bool"=some (.type "bool"):=by decide+kernel
theorem q7r:bootBuiltins "list"=some (.type "list"):=by decide+kernel
theorem q6g:bootBuiltins "tuple"=some (.type "tuple"):=by decide+kernel
theorem q6a {α:Type} {l:List α} {i:Nat} {d:α} (h:i < l.length):l.getD i d=l[i]:=by
 rw [z05,z0a h];rfl
theorem qrm {α:Type} {l:List α} {i:Nat} {d:α} (h:l.length<=i):l.getD i d=d:=by
 rw [z05,List.getElem?_eq_none_iff.mpr h];rfl
theorem pa_1 {X:Cx} {J:Expr} {U:TE} (h0:PE X J U) (O:q13 J=true:=by rfl):PA X [J] (q1q U tNil):=(q1o h0 q2k O)
theorem pa_2 {X:Cx} {J e1:Expr} {Y t1:TE} (h0:PE X J Y) (h1:PE X e1 t1) (O:q13 J=true:=by rfl) (U:q13 e1=true:=by rfl):PA X [J,e1] (q1q Y (q1q t1 tNil)):=(q1o h0 (q1o h1 q2k U) O)
theorem pa_3 {X:Cx} {J e1 e2:Expr} {Z t1 t2:TE} (h0:PE X J Z) (h1:PE X e1 t1) (h2:PE X e2 t2) (O:q13 J=true:=by rfl) (U:q13 e1=true:=by rfl) (Y:q13 e2=true:=by rfl):PA X [J,e1,e2] (q1q Z (q1q t1 (q1q t2 tNil))):=(q1o h0 (q1o h1 (q1o h2 q2k Y) U) O)
theorem pa_4 {X:Cx} {J e1 e2 e3:Expr} {t0 t1 t2 t3:TE} (h0:PE X J t0) (h1:PE X e1 t1) (h2:PE X e2 t2) (h3:PE X e3 t3) (O:q13 J=true:=by rfl) (U:q13 e1=true:=by rfl) (Y:q13 e2=true:=by rfl) (Z:q13 e3=true:=by rfl):PA X [J,e1,e2,e3] (q1q t0 (q1q t1 (q1q t2 (q1q t3 tNil)))):=(q1o h0 (q1o h1 (q1o h2 (q1o h3 q2k Z) Y) U) O)
theorem pa_5 {X:Cx} {J e1 e2 e3 O:Expr} {t0 t1 t2 t3 t4:TE} (h0:PE X J t0) (h1:PE X e1 t1) (h2:PE X e2 t2) (h3:PE X e3 t3) (h4:PE X O t4) (U:q13 J=true:=by rfl) (Y:q13 e1=true:=by rfl) (Z:q13 e2=true:=by rfl) (a1:q13 e3=true:=by rfl) (a2:q13 O=true:=by rfl):PA X [J,e1,e2,e3,O] (q1q t0 (q1q t1 (q1q t2 (q1q t3 (q1q t4 tNil))))):=(q1o h0 (q1o h1 (q1o h2 (q1o h3 (q1o h4 q2k a2) a1) Z) Y) U)
theorem pa_6 {X:Cx} {J e1 e2 e3 O U:Expr} {t0 t1 t2 t3 t4 t5:TE} (h0:PE X J t0) (h1:PE X e1 t1) (h2:PE X e2 t2) (h3:PE X e3 t3) (h4:PE X O t4) (h5:PE X U t5) (Y:q13 J=true:=by rfl) (Z:q13 e1=true:=by rfl) (a1:q13 e2=true:=by rfl) (a2:q13 e3=true:=by rfl) (a3:q13 O=true:=by rfl) (a4:q13 U=true:=by rfl):PA X [J,e1,e2,e3,O,U] (q1q t0 (q1q t1 (q1q t2 (q1q t3 (q1q t4 (q1q t5 tNil)))))):=(q1o h0 (q1o h1 (q1o h2 (q1o h3 (q1o h4 (q1o h5 q2k a4) a3) a2) a1) Z) Y)
theorem q31 {X:Cx} {J s1:Stmt} {O t1:TS} (h0:PS X J O) (h1:PS X s1 t1):PSs X [J,s1] (tSeq O t1):=(qu h0 (qe h1))
theorem q63 {X:Cx} {J s1 O:Stmt} {U t1 t2:TS} (h0:PS X J U) (h1:PS X s1 t1) (h2:PS X O t2):PSs X [J,s1,O] (tSeq U (tSeq t1 t2)):=(qu h0 (qu h1 (qe h2)))
theorem q9z {X:Cx} {J s1 O s3:Stmt} {U t1 t2 t3:TS} (h0:PS X J U) (h1:PS X s1 t1) (h2:PS X O t2) (h3:PS X s3 t3):PSs X [J,s1,O,s3] (tSeq U (tSeq t1 (tSeq t2 t3))):=(qu h0 (qu h1 (qu h2 (qe h3))))
theorem qgq {X:Cx} {J s1 O s3 U:Stmt} {Y t1 t2 t3 Z:TS} (h0:PS X J Y) (h1:PS X s1 t1) (h2:PS X O t2) (h3:PS X s3 t3) (h4:PS X U Z):PSs X [J,s1,O,s3,U] (tSeq Y (tSeq t1 (tSeq t2 (tSeq t3 Z)))):=(qu h0 (qu h1 (qu h2 (qu h3 (qe h4)))))
theorem qqc {X:Cx} {J s1 O s3 U Y:Stmt} {Z t1 t2 t3 t4 t5:TS} (h0:PS X J Z) (h1:PS X s1 t1) (h2:PS X O t2) (h3:PS X s3 t3) (h4:PS X U t4) (h5:PS X Y t5):PSs X [J,s1,O,s3,U,Y] (tSeq Z (tSeq t1 (tSeq t2 (tSeq t3 (tSeq t4 t5))))):=(qu h0 (qu h1 (qu h2 (qu h3 (qu h4 (qe h5))))))
theorem qqd {X:Cx} {J s1 O:Stmt} {U:List Stmt} {Y t1 t2 u:TS} (h0:PS X J Y) (h1:PS X s1 t1) (h2:PS X O t2) (hu:PSs X U u):PSs X (J::s1::O::U) (tSeq Y (tSeq t1 (tSeq t2 u))):=(qu h0 (qu h1 (qu h2 hu)))
theorem qvd {X:Cx} {J s1 O s3 U Y Z s7:Stmt} {ss:List Stmt} {t0 t1 t2 t3 t4 t5 t6 t7 u:TS} (h0:PS X J t0) (h1:PS X s1 t1) (h2:PS X O t2) (h3:PS X s3 t3) (h4:PS X U t4) (h5:PS X Y t5) (h6:PS X Z t6) (h7:PS X s7 t7) (hu:PSs X ss u):PSs X (J::s1::O::s3::U::Y::Z::s7::ss) (tSeq t0 (tSeq t1 (tSeq t2 (tSeq t3 (tSeq t4 (tSeq t5 (tSeq t6 (tSeq t7 u)))))))):=(qu h0 (qu h1 (qu h2 (qu h3 (qu h4 (qu h5 (qu h6 (qu h7 hu))))))))
theorem qde {X:Cx} {body:List Stmt} {D:Ends} {σ:St} {H:Hp} (n:Nat) (C:St ->Hp ->Prop) (rest:∃ u,PSs X (body.drop n) u/\∀ σ H,C σ H ->u D σ H)
  (first:∀ u,PSs X (body.drop n) u ->(∀ σ H,C σ H ->u D σ H) ->∃ t,PSs X body t/\t D σ H):∃ t,PSs X body t/\t D σ H:=
 let ⟨u,h1,h2⟩:=rest
 first u h1 h2
mutual
inductive Dat (K:PySem.W.Frag) (H:Hp):PyData ->V ->Prop
 | non:Dat K H .none .non
 | bl (b:Bool):Dat K H (.bool b) (.bl b)
 | int (i:Int):Dat K H (.int i) (.int i)
 | str (x:Str) (h:PyData.strOk x=true):Dat K H (.str x) (.str x)
 | lst {a:Addr} {xs:List V} {ds:List PyData}:SqL K H a xs ->Dats K H ds xs ->Dat K H (.list ds) (.ref a)
 | tup {a:Addr} {xs:List V} {ds:List PyData}:SqT K H a xs ->Dats K H ds xs ->Dat K H (.tuple ds) (.ref a)
inductive Dats (K:PySem.W.Frag) (H:Hp):List PyData ->List V ->Prop
 | nil:Dats K H [] []
 | cons {d:PyData} {x:V} {ds:List PyData} {xs:List V}:Dat K H d x ->Dats K H ds xs ->Dats K H (d::ds) (x::xs)
end
section
variable {K:PySem.W.Frag} {H H':Hp}
mutual
theorem Dat.same (s:Same H H'):∀ (d:PyData) (x:V),Dat K H d x ->Dat K H' d x
 | _,_,.non=> .non
 | _,_,.bl b=> .bl b
 | _,_,.int i=> .int i
 | _,_,.str x h=> .str x h
 | _,_,.lst h r=> .lst (s.seq h) (Dats.same s _ _ r)
 | _,_,.tup h r=> .tup (s.seqT h) (Dats.same s _ _ r)
theorem Dats.same (s:Same H H'):∀ (ds:List PyData) (xs:List V),Dats K H ds xs ->Dats K H' ds xs
 | _,_,.nil=> .nil
 | _,_,.cons a b=> .cons (Dat.same s _ _ a) (Dats.same s _ _ b)
end
mutual
theorem Dat.lay:∀ (d:PyData) (x:V),Dat K H d x ->d.canLay0=true
 | _,_,.non=>rfl
 | _,_,.bl _=>rfl
 | _,_,.int _=>rfl
 | _,_,.str _ h=>h
 | _,_,.lst _ r=>Dats.lay _ _ r
 | _,_,.tup _ r=>Dats.lay _ _ r
theorem Dats.lay:∀ (ds:List PyData) (xs:List V),Dats K H ds xs ->PyData.canLayAll0 ds=true
 | _,_,.nil=>rfl
 | _,_,.cons a b=>by rw [PyData.canLayAll0,Dat.lay _ _ a,Dats.lay _ _ b];rfl
end
end
section
variable {X:Cx} {pins:List (Addr×Obj)} {σ:St} {H:Hp} {s:Shared}
mutual
theorem Dat.reads (I:Inv X pins σ H s):∀ (d:PyData) (x:V) (u:Value),Dat X.K H d x ->RelV x u ->∃ as,Reads s.heap u d as
 | _,_,_,.non,r=>by cases r;exact ⟨_,.none⟩
 | _,_,_,.bl b,r=>by cases r;exact ⟨_,.bool b⟩
 | _,_,_,.int i,r=>by obtain ⟨t,rfl⟩:=r;exact ⟨_,.int i t⟩
 | _,_,_,.str x _,r=>by obtain ⟨t,rfl⟩:=r;exact ⟨_,.str x t⟩
 | _,_,_,.lst h q,r=>by
  cases r
  obtain ⟨its,rv,⟨o,n,e,c,_,d⟩,_⟩:=I.list h;obtain ⟨as,J⟩:=Dats.reads I _ _ _ q rv;exact ⟨_,.list e c d (by simpa using J)⟩
 | _,_,_,.tup h q,r=>by
  cases r
  obtain ⟨its,rv,⟨o,e,c,n,d⟩,_⟩:=I.tuple h;obtain ⟨as,J⟩:=Dats.reads I _ _ _ q rv;exact ⟨_,.tuple e c d (by simpa using J)⟩
theorem Dats.reads (I:Inv X pins σ H s):∀ (ds:List PyData) (xs:List V) (us:List Value),Dats X.K H ds xs ->Vals xs us ->∃ as,ReadsAll s.heap us ds as
 | _,_,_,.nil,r=>by cases r;exact ⟨_,.nil⟩
 | _,_,_,.cons a b,r=>by
  cases r with
  | cons r1 r2=>
   obtain ⟨as,h1⟩:=Dat.reads I _ _ _ a r1;obtain ⟨bs,h2⟩:=Dats.reads I _ _ _ b r2;exact ⟨_,.cons h1 h2⟩
end
end
section
variable {X:Cx}
theorem qhj {u d e:Nat} (hu:u+64 < cLine) (hd:d<=60):u+min d e < cLine:=by
 have:min d e<=d:=Nat.min_le_left _ _
 lia
def rEqD (K:PySem.W.Frag):R2:=λ x y H Q=>∃ d e,Dat K H d x/\Dat K H e y/\d.depth<=60/\Q (.bl (PyData.eqv d e)) H
theorem qtr (hu:X.A.units+64 < cLine) (K:PySem.W.Frag) (hK:X.K=K:=by rfl):OpR X (compareOp .Eq) (rEqD K):=by
 subst hK;intro pins s σ H x y v u Q I rx ry h;obtain ⟨d,e,hd,J,hz,q⟩:=h;obtain ⟨as,ra⟩:=Dat.reads I _ _ _ hd rx;obtain ⟨bs,rb⟩:=Dat.reads I _ _ _ J ry;exact SeqAt.rcAt_reads ra rb (Dat.lay _ _ hd) (Dat.lay _ _ J) (qhj hu hz) X.prog X.w X.xe _ (q1p I q rfl)
end
def LtAt (A:Around) (s:Shared) (u v:Value) (r:Bool):Prop:=
 ∀ (prog:Program) (w:World) (E:Value ->Shared ->Prop) (Q:Value ->Shared ->Prop),Q (.bool r) s ->wpAny (model prog w) A (richCompare .Lt u v) Q E s
inductive LexAt (A:Around) (s:Shared):List Value ->List Value ->Bool ->Prop
 | nn:LexAt A s [] [] false
 | nc {v:Value} {vs:List Value}:LexAt A s [] (v::vs) true
 | cn {u:Value} {us:List Value}:LexAt A s (u::us) [] false
 | eq {u v:Value} {us vs:List Value} {r:Bool}:SeqAt.EqAt A s u v true ->LexAt A s us vs r ->LexAt A s (u::us) (v::vs) r
 | lt {u v:Value} {us vs:List Value} {r:Bool}:SeqAt.EqAt A s u v false ->LtAt A s u v r ->LexAt A s (u::us) (v::vs) r
section
open PySem.SeqAt
open PySem.AutoSeq1 (wpAny_loadPart')
open PySem.MeetsSeq PySem.MeetsSeq2 PySem.MeetsSeq3
theorem q95 (l b:Addr) (O J:Array Value) (n n2:Nat) (dd a3:Option Addr) (sl a5:Array (Option Value)) (r:Bool):
  Meets (Builtin.«tuple.__lt__» ⟨[.ref l,.ref b],[]⟩)
   (λ A R s=>s.heap.get? l=some {cls:= .type "tuple",dict:=dd,data:= .seq O n,slots:=sl}/\s.heap.get? b=some {cls:= .type "tuple",dict:=a3,data:= .seq J n2,slots:=a5}/\
    LexAt A.in1 s O.toList J.toList r/\R (.ok (.ret (.bool r))) s):=
 .of_wp λ prog w A R s h=>by
  obtain ⟨hp,g,d,tk,os⟩:=s;obtain ⟨hl,hb,hx,h⟩:=h;have f2:=AutoSeq1.sub_tuple_tuple
  wp_walk using wpAny_loadPart' hl,wpAny_loadPart' hb,wpAny_forIn_list _ (λ rest b s'=>b.1=none/\s'=⟨hp,g,d,tk,os⟩/\∃ (vs ws:List Value),rest=vs.zip ws/\
   LexAt A.in1 ⟨hp,g,d,tk,os⟩ vs ws r/\vs.length+J.size=ws.length+O.size) _
  case turn=>
   rintro ⟨y,x⟩ rest b s' ⟨Z,rfl,vs,ws,hz,a1,U⟩;cases a1 with
   | nn=>rw [List.zip_nil_left] at hz;cases hz
   | nc=>rw [List.zip_nil_left] at hz;cases hz
   | cn=>rw [List.zip_nil_right] at hz;cases hz
   | eq he hr=>
    rw [z1j] at hz;injection hz with a2 Y;injection a2 with hy hx;subst hy hx;simp only [z24] at U;refine z3v (he prog w _ _ ?_)
    wp_walk
    exact ⟨zr,zr,_,_,Y,hr,by lia⟩
   | lt he hr=>
    rw [z1j] at hz;injection hz with a2 Y;injection a2 with hy hx;subst hy hx;refine z3v (he prog w _ _ ?_);have a4:=hr prog w
    wp_walk using a4
    exact ⟨_,zr,by simpa using h⟩
  case fin=>
   rintro ⟨b1,b2⟩ s' ⟨Z,rfl,vs,ws,hz,a1,U⟩;simp only at Z;subst Z;have hv:r=decide (O.size < J.size):=by
    cases a1 with
    | nn=>
     simp only [z2p] at U;exact (z2h (by lia)).symm
    | nc=>
     simp only [z2p,z24] at U;exact (z2w (by lia)).symm
    | cn=>
     simp only [z2p,z24] at U;exact (z2h (by lia)).symm
    | eq _ _=>rw [z1j] at hz;cases hz
    | lt _ _=>rw [z1j] at hz;cases hz
   rw [hv] at h
   wp_walk
   exact ⟨_,zr,by simpa [Builtin.Tuple.tupleCompareSizes] using h⟩
  case h=>
   exact ⟨rfl,rfl,O.toList,J.toList,rfl,hx,by simp;lia⟩
theorem qrn (l b:Addr) (O J:Array Value) (n n2:Nat) (dd a4:Option Addr) (sl a6:Array (Option Value)) (r:Bool) (k:Nat):
  ∀ i:Nat,O.size - i=k ->i<=O.size ->i<=J.size ->Meets (Builtin.«list.__eq__.loop» ⟨[.ref l,.ref b,rawInt i,rawInt 0],[]⟩)
   (λ A R s=>s.heap.get? l=some {cls:= .type "list",dict:=dd,data:= .seq O n,slots:=sl}/\s.heap.get? b=some {cls:= .type "list",dict:=a4,data:= .seq J n2,slots:=a6}/\
    LexAt A.in1 s (O.toList.drop i) (J.toList.drop i) r/\R (.ok (.ret (.bool r))) s):=by
 induction k with
 | zero=>
  intro i hk h1 h2 prog w A R s h;obtain ⟨hp,g,d,tk,os⟩:=s;obtain ⟨hl,hb,hx,h⟩:=h
  wp_walk using wpAny_loadPart' hl,wpAny_loadPart' hb
  have U:O[((i:Nat):Int).toNat]? =none:=by simp;lia
  have hd:O.toList.drop i=[]:=by simp;lia
  rw [hd] at hx;have hv:r=decide (O.size < J.size):=by
   generalize e2:J.toList.drop i=ws at hx;have a3:J.size - i=ws.length:=by rw [<- e2];simp
   cases hx with
   | nn=>exact (z2h (by simp at a3;lia)).symm
   | nc=>exact (z2w (by simp at a3;lia)).symm
  rw [U]
  wp_walk using wpAny_loadPart' hl,wpAny_loadPart' hb
  show R (.ok (.ret (.bool (decide (O.size < J.size))))) _;rw [<- hv];exact h
 | succ k ih=>
  intro i hk h1 h2 prog w A R s h;obtain ⟨hp,g,d,tk,os⟩:=s;obtain ⟨hl,hb,hx,h⟩:=h
  wp_walk using wpAny_loadPart' hl,wpAny_loadPart' hb
  have a2:i < O.size:=by lia
  have U:O[((i:Nat):Int).toNat]? =some O[i]:=by simp [a2]
  have hc:((i:Int)+1)=((i+1:Nat):Int):=by push_cast;rfl
  have hd:O.toList.drop i=O[i]::O.toList.drop (i+1):=by simp [z08,a2]
  rw [hd] at hx;by_cases Y:i < J.size
  ·have Z:J[((i:Nat):Int).toNat]? =some J[i]:=by simp [Y]
   have a1:J.toList.drop i=J[i]::J.toList.drop (i+1):=by simp [z08,Y]
   rw [a1] at hx;rw [U,Z];cases hx with
   | eq he hr=>
    refine z3v (he prog w _ _ ?_)
    wp_walk
    rw [hc];exact ⟨plainId_quiet plain_eq_loop _,z2t entry_eq_loop (by
     rw [Around.under_plainId plain_eq_loop _];exact ih (i+1) (by lia) a2 Y prog w A R _ ⟨hl,hb,hr,h⟩)⟩
   | lt he hr=>
    refine z3v (he prog w _ _ ?_)
    wp_walk using wpAny_loadPart' hl,wpAny_loadPart' hb
    rw [U,Z];have a5:=hr prog w
    wp_walk using a5
    exact h
  ·have Z:J[((i:Nat):Int).toNat]? =none:=by simp;lia
   have a1:J.toList.drop i=[]:=by simp;lia
   rw [a1] at hx;have hv:r=decide (O.size < J.size):=by
    cases hx
    exact (z2h (by lia)).symm
   rw [U,Z]
   wp_walk using wpAny_loadPart' hl,wpAny_loadPart' hb
   show R (.ok (.ret (.bool (decide (O.size < J.size))))) _;rw [<- hv];exact h
theorem qj5 (l b:Addr) (O J:Array Value) (n Z:Nat) (dd U:Option Addr) (sl Y:Array (Option Value)) (r:Bool):
  Meets (Builtin.«list.__lt__» ⟨[.ref l,.ref b],[]⟩)
   (λ A R s=>s.heap.get? l=some {cls:= .type "list",dict:=dd,data:= .seq O n,slots:=sl}/\s.heap.get? b=some {cls:= .type "list",dict:=U,data:= .seq J Z,slots:=Y}/\
    LexAt A.in1 s O.toList J.toList r/\R (.ok (.ret (.bool r))) s):=by
 intro prog w A R s h;obtain ⟨hp,g,d,tk,os⟩:=s;obtain ⟨hl,hb,hx,h⟩:=h;have f3:=AutoSeq1.sub_list_list
 wp_walk using wpAny_loadPart' hl,wpAny_loadPart' hb
 exact ⟨plainId_quiet plain_eq_loop _,z2t entry_eq_loop (by
  rw [Around.under_plainId plain_eq_loop _];exact qrn l b O J n Z dd U sl Y r _ 0 rfl (z3s _) (z3s _) prog w A R _ ⟨hl,hb,hx,h⟩)⟩
end
theorem qhk {A:Around} {s:Shared} {l b:Addr} {O J:Array Value} {r:Bool} (hl:IsTup s.heap l O) (hb:IsTup s.heap b J) (hx:LexAt A.in1 s O.toList J.toList r) (hu:A.units < cLine):LtAt A s (.ref l) (.ref b) r:=by
 intro prog w E Q h;obtain ⟨⟨cls,dd,data,sl⟩,ho,hc,n,hd⟩:=id hl;obtain ⟨⟨a4,a2,a1,a3⟩,Z,U,n2,Y⟩:=id hb;simp only at hc hd U Y;subst hc hd U Y;exact richCompare_meets_room (op:= .Lt) ⟨_,ho,zr⟩ ⟨_,Z,zr⟩ PySem.F.slot_tuple_lt PySem.F.entry_tuple_lt (PySem.F.args_tuple_lt_2 _ _) (q95 l b O J n n2 dd a2 sl a3 r)
  ⟨ho,Z,hx,show Value.bool r≠Value.notImplemented/\Q (.bool r) s from ⟨(λ x=>nomatch x),h⟩⟩ hu
theorem qoo {A:Around} {s:Shared} {l b:Addr} {o o2:Obj} {O J:Array Value} {n n2:Nat} {r:Bool} (ho:s.heap.get? l=some o) (hc:o.cls= .type "list") (hd:o.data= .seq O n) (Z:s.heap.get? b=some o2) (U:o2.cls= .type "list") (Y:o2.data= .seq J n2)
  (hx:LexAt A.in1 s O.toList J.toList r) (hu:A.units < cLine):LtAt A s (.ref l) (.ref b) r:=by
 intro prog w E Q h;obtain ⟨cls,dd,data,sl⟩:=o;obtain ⟨a4,a2,a1,a3⟩:=o2;simp only at hc hd U Y;subst hc hd U Y;exact richCompare_meets_room (op:= .Lt) ⟨_,ho,zr⟩ ⟨_,Z,zr⟩ PySem.F.slot_list_lt PySem.F.entry_list_lt (PySem.F.args_list_lt_2 _ _) (qj5 l b O J n n2 dd a2 sl a3 r)
  ⟨ho,Z,hx,show Value.bool r≠Value.notImplemented/\Q (.bool r) s from ⟨(λ x=>nomatch x),h⟩⟩ hu
theorem qmq {A:Around} {s:Shared} (x y:Bool):LtAt A s (.bool x) (.bool y) (!x&&y):=by
 intro prog w E Q h;have e:decide (b2i x < b2i y)=(!x&&y):=by cases x <;> cases y <;> rfl
 rw [<- e] at h;exact show wpAny (model prog w) A (compareOp .Lt _ _) Q E s from lt_bool h
mutual
def ltD? :PyData ->PyData ->Option Bool
 | .int a,.int b=>some (decide (a < b))
 | .str a,.str b=>some (decide (a.cps.toList < b.cps.toList))
 | .tuple as,.tuple bs=>lexD? as bs
 | .list as,.list bs=>lexD? as bs
 | .bool a,.bool b=>some (!a&&b)
 | _,_=>none
def lexD? :List PyData ->List PyData ->Option Bool
 | [],[]=>some false
 | [],_::_=>some true
 | _::_,[]=>some false
 | a::as,b::bs=>if PyData.eqv a b=true then lexD? as bs else ltD? a b
end
mutual
theorem qcc:∀ (Z J:PyData) (A:Around) (s:Shared) (a b:Value) (as bs:List Addr) (r:Bool),Reads s.heap a Z as ->Reads s.heap b J bs ->Z.canLay0=true ->J.canLay0=true ->
    A.units+min Z.depth J.depth < cLine ->ltD? Z J=some r ->LtAt A s a b r
  | .int x,J,A,s,_,_,_,_,r,O,U,ha,hb,Y,e=>by
    cases O
    cases U <;> first
      | (cases e;intro prog w E Q h;exact show wpAny (model prog w) A (compareOp .Lt _ _) Q E s from lt_int h)
      | (exact nomatch e)
  | .str x,J,A,s,_,_,_,_,r,O,U,ha,hb,Y,e=>by
    cases O
    cases U <;> first
      | (cases e;intro prog w E Q h;exact show wpAny (model prog w) A (compareOp .Lt _ _) Q E s from lt_str h)
      | (exact nomatch e)
  | .tuple xs,J,A,s,_,_,_,_,r,O,U,ha,hb,Y,e=>by
    cases O with
    | tuple h1 h2 h3 h4=>
      cases U with
      | tuple k1 k2 k3 k4=>
        exact qhk ⟨_,h1,h2,_,h3⟩ ⟨_,k1,k2,_,k3⟩ (q7c xs _ A.in1 s _ _ _ _ r h4 k4 ha hb (SeqAt.room_in Y) e) (SeqAt.room_here Y)
      | none=>exact nomatch e
      | bool=>exact nomatch e
      | int=>exact nomatch e
      | str=>exact nomatch e
      | list=>exact nomatch e
      | dict=>exact nomatch hb
  | .none,_,_,_,_,_,_,_,_,_,_,_,_,_,e=>by simp [ltD?] at e
  | .bool x,J,A,s,_,_,_,_,r,O,U,ha,hb,Y,e=>by
    cases O
    cases U <;> first
      | (cases e;exact qmq _ _)
      | (exact nomatch e)
  | .list xs,J,A,s,_,_,_,_,r,O,U,ha,hb,Y,e=>by
    cases O with
    | list h1 h2 h3 h4=>
      cases U with
      | list k1 k2 k3 k4=>
        exact qoo h1 h2 h3 k1 k2 k3 (q7c xs _ A.in1 s _ _ _ _ r h4 k4 ha hb (SeqAt.room_in Y) e) (SeqAt.room_here Y)
      | none=>exact nomatch e
      | bool=>exact nomatch e
      | int=>exact nomatch e
      | str=>exact nomatch e
      | tuple=>exact nomatch e
      | dict=>exact nomatch hb
  | .dict _,_,_,_,_,_,_,_,_,_,_,ha,_,_,_=>nomatch ha
theorem q7c:∀ (xs ys:List PyData) (A:Around) (s:Shared) (vs ws:List Value) (as bs:List Addr) (r:Bool),ReadsAll s.heap vs xs as ->ReadsAll s.heap ws ys bs ->PyData.canLayAll0 xs=true ->PyData.canLayAll0 ys=true ->
  A.units+min (PyData.depthAll xs) (PyData.depthAll ys) < cLine ->lexD? xs ys=some r ->LexAt A s vs ws r
 | [],[],_,_,_,_,_,_,r,U,Y,_,_,_,e=>by cases U;cases Y;cases e;exact .nn
 | [],_::_,_,_,_,_,_,_,r,U,Y,_,_,_,e=>by cases U;cases Y;cases e;exact .nc
 | _::_,[],_,_,_,_,_,_,r,U,Y,_,_,_,e=>by cases U;cases Y;cases e;exact .cn
 | x::xs,y::ys,A,s,_,_,_,_,r,U,Y,ha,hb,hu,e=>by
  have J:x.canLay0=true/\PyData.canLayAll0 xs=true:=by simpa [PyData.canLayAll0] using ha
  have O:y.canLay0=true/\PyData.canLayAll0 ys=true:=by simpa [PyData.canLayAll0] using hb
  cases U with
  | cons r1 rs=>
   cases Y with
   | cons Z a1=>
    have eq:=SeqAt.eqAt_reads x y A s _ _ _ _ r1 Z J.1 O.1 (SeqAt.room_head hu);rw [lexD?] at e;cases q:PyData.eqv x y with
    | true=>
     rw [q] at eq;rw [if_pos q] at e;exact .eq eq (q7c xs ys A s _ _ _ _ r rs a1 J.2 O.2 (SeqAt.room_tail hu) e)
    | false=>
     rw [q] at eq;rw [if_neg (by rw [q];exact z1b)] at e;exact .lt eq (qcc x y A s _ _ _ _ r r1 Z J.1 O.1 (SeqAt.room_head hu) e)
end
section
variable {X:Cx}
end
def tyD:PyData ->String
 | .none=>"NoneType"
 | .bool _=>"bool"
 | .int _=>"int"
 | .str _=>"str"
 | .list _=>"list"
 | .tuple _=>"tuple"
 | .dict _=>"dict"
theorem qts (d:PyData):tyD d∈tyTs:=by
 cases d <;> simp [tyD,tyTs]
section
variable {X:Cx}
theorem q26 (K:PySem.W.Frag) (hK:X.K=K:=by rfl):q20 X (.builtin "isinstance") (λ xs H Q=>∃ x n d,xs=[x,.ty n]/\Dat K H d x/\n∈tyNs/\Q (.bl (tyIs (tyD d) n)) H):=by
 subst hK;intro pins s σ H xs us Q I r h;obtain ⟨x,n,d,rfl,hd,hn,q⟩:=h;obtain ⟨u,c,rfl,J,rc⟩:=qgn r;cases rc
 have e:=qrl (K:=X.K) (qts d) hn;have fin:∀ tk,EP X pins σ Q (.bool (tyIs (tyD d) n)) {s with toks:=tk}:=λ tk=>⟨.bl _,H,I.tok tk,rfl,q⟩;cases hd with
 | non=>cases J;exact z2r PySem.W.kitx_none I.kIn True.intro e (λ z=>nomatch z) fin
 | bl b=>cases J;exact z2r PySem.W.kitx_bool I.kIn True.intro e (λ z=>nomatch z) fin
 | int i=>obtain ⟨t,rfl⟩:=J;exact z2r PySem.W.kitx_int I.kIn True.intro e (λ z=>nomatch z) fin
 | str z h=>obtain ⟨t,rfl⟩:=J;exact z2r PySem.W.kitx_str I.kIn True.intro e (λ z=>nomatch z) fin
 | lst hq _=>
  cases J
  obtain ⟨its,_,⟨o,m,e1,c,_,_⟩,_⟩:=I.list hq;exact z2r PySem.W.kitx_list I.kIn ⟨o,e1,c⟩ e (λ z=>nomatch z) fin
 | tup hq _=>
  cases J
  obtain ⟨its,_,⟨o,e1,c,_⟩,_⟩:=I.tuple hq;exact z2r PySem.W.kitx_tuple I.kIn ⟨o,e1,c⟩ e (λ z=>nomatch z) fin
def rNeD (K:PySem.W.Frag):R2:=λ x y H Q=>∃ d e,Dat K H d x/\Dat K H e y/\d.depth<=60/\Q (.bl (!PyData.eqv d e)) H
theorem qhl (hu:X.A.units+64 < cLine) (K:PySem.W.Frag) (hK:X.K=K:=by rfl):OpR X (compareOp .NotEq) (rNeD K):=by
 subst hK;intro pins s σ H x y v u Q I rx ry h;obtain ⟨d,e,hd,J,hz,q⟩:=h;obtain ⟨as,ra⟩:=Dat.reads I _ _ _ hd rx;obtain ⟨bs,rb⟩:=Dat.reads I _ _ _ J ry;exact SeqAt.compareNe_reads ra rb (Dat.lay _ _ hd) (Dat.lay _ _ J) (qhj hu hz) (q1p I q rfl)
end
end L2
namespace L2
open PySem PySem.Spec PyProof.Rows PySem.W
def RawD (h:Heap) (d:Addr) (es:Array DictEntry) (ep:Nat):Prop:=∃ o,h.get? d=some o/\o.ExactDict/\o.data= .dict es ep
theorem RawD.lt {h:Heap} {d:Addr} {es:Array DictEntry} {ep:Nat} (x:RawD h d es ep):d < h.objs.size:=let ⟨_,e,_⟩:=x;z3g e
theorem RawD.ty {s:Shared} {d:Addr} {es:Array DictEntry} {ep:Nat} (x:RawD s.heap d es ep):s.TypeIs (.ref d) "dict":=let ⟨o,e,c,_⟩:=x;⟨o,e,c.1⟩
theorem RawD.at {h h':Heap} {d:Addr} {es:Array DictEntry} {ep:Nat} (x:RawD h d es ep) (k:∀ o,h.get? d=some o ->h'.get? d=some o):RawD h' d es ep:=let ⟨o,e,r⟩:=x;⟨o,k o e,r⟩
section
variable {prog:Program} {w:World} {A:Around} {E:Value ->Shared ->Prop} {s:Shared} {d it:Addr} {es:Array DictEntry} {ep i:Nat}
theorem qop {Q:Value ->Shared ->Prop} (hd:(d==sysModules)=false) (x:RawD s.heap d es ep)
  (q:Q (.ref s.heap.objs.size) {s with heap:=s.heap.push {cls:= .type "dict_keyiterator",data:= .fields #[.ref d,.int 0 0,.int es.size 0,.int ep 0]}}):wpAny (model prog w) A (pyIter (.ref d)) Q E s:=by
 obtain ⟨o,ho,hc,J⟩:=id x;refine wpAny_pyIter_slot x.ty PySem.F.slot_dict_iter (z2a PySem.F.slot_dict_iter x.ty PySem.F.entry_dict_iter ?_ (PySem.F.args_dict_iter_1 _));unfold Builtin.«dict.__iter__» Builtin.Dict.dictSlotNone;refine z3v (z3v (wpAny_notOrdered_dict x.ty ?_));show wpAny _ _ (pure (Value.ref d)) _ _ s;refine z3u ?_;show wpAny _ _ (Builtin.Dict.showsAll d >>=_) _ _ s;unfold Builtin.Dict.showsAll;rw [if_neg (by rw [hd];exact z1b)];refine z3v (z3u (z3v (z1y ho J (z3v (z2s ho J ?_)))));refine z3v (z1x (z3u ⟨_,zr,"dict_keyiterator",_,⟨_,z15 _ rfl,zr⟩,z00.lookup,?_⟩))
 simpa [rawInt] using q
theorem qoq {e:DictEntry} {Q:Option Value ->Shared ->Prop} (J:s.heap.IsKeyIter it d i es.size ep) (x:RawD s.heap d es ep) (hx:es[i]? =some e)
  (q:∀ h',h'.IsKeyIter it d (i+1) es.size ep ->Heap.SameBut it s.heap h' ->Q (some e.key) {s with heap:=h'}):wpAny (model prog w) A (pyNext (.ref it)) Q E s:=by
 obtain ⟨o,ho,hc,hd⟩:=id J;obtain ⟨od,Y,hcd,U⟩:=id x;unfold pyNext;refine z3v (z34 (wpAny_callSpecial?_slot (name:=Str.ofString "__next__") J.typeIs z00
  (z2a z00 J.typeIs PySem.F.entry_dict_keyiterator_next ?_ (PySem.F.args_dict_keyiterator_next_1 _))))
 refine z3v (z3u (z3v (z3v ?_)));refine z3v (z01 J.typeIs (z3u ?_));refine z3v (wpAny_fieldsOf ho hd ?_);simp only [show Builtin.Dict_items.ownsTuple "dict_keyiterator"=false by decide,z1a,if_false];show wpAny _ _ (if (Value.ref d==Value.none)=true then _ else _) _ _ s;rw [if_neg (show ¬ ((Value.ref d==Value.none)=true) from z1b)];refine z3v (z3u (z3v (z1y Y U ?_)));rw [if_neg (by simp)];refine z3v (z3u (z3v (z2s Y U ?_)));rw [if_neg (by simp)];refine z3u ?_;simp only [show ¬ ((i:Int) < 0) from by lia,if_false,z1w,hx];refine z3v ?_;refine z3v (z01 J.typeIs (z3u ?_));refine z3v (wpAny_isOneOf_keyiter J.typeIs ?_);show wpAny _ _ (setField (.ref it) 1 (rawInt ((i:Int)+1)) >>=_) _ _ s;refine z3v (wpAny_setField ho hd (by simp) ?_);have O:(s.heap.update it (Obj.mapFields (·.setIfInBounds 1 (rawInt ((i:Int)+1))))).IsKeyIter it d (i+1) es.size ep:=
  ⟨_,z0t _ ho (Obj.isFreed_of_fields (Obj.data_mapFields hd _)),(Obj.cls_mapFields ..).trans hc,by rw [Obj.data_mapFields hd];simp [rawInt]⟩
 refine z3v (z36 ?_);refine z3v (wpAny_isOneOf_keyiter (s:={s with heap:=s.heap.update it (Obj.mapFields (·.setIfInBounds 1 (rawInt ((i:Int)+1))))}) O.typeIs ?_);show wpAny _ _ (pure e.key) _ _ _;exact z3u (z3u ⟨_,zr,z3u (q _ O (z14 ..))⟩)
theorem qro {Q:Option Value ->Shared ->Prop} (hh:A.handled=none) (J:s.heap.IsKeyIter it d i es.size ep) (x:RawD s.heap d es ep) (hx:es.size<=i)
  (q:∀ h',Heap.ExtBut it s.heap h' ->Q none {s with heap:=h'}):wpAny (model prog w) A (pyNext (.ref it)) Q E s:=by
 obtain ⟨o,ho,hc,hd⟩:=id J;obtain ⟨od,U,hcd,O⟩:=id x;unfold pyNext;refine z3v (z34 (wpAny_callSpecial?_slot (name:=Str.ofString "__next__") J.typeIs z00
  (z2a z00 J.typeIs PySem.F.entry_dict_keyiterator_next ?_ (PySem.F.args_dict_keyiterator_next_1 _))))
 refine z3v (z3u (z3v (z3v ?_)));refine z3v (z01 J.typeIs (z3u ?_));refine z3v (wpAny_fieldsOf ho hd ?_);simp only [show Builtin.Dict_items.ownsTuple "dict_keyiterator"=false by decide,z1a,if_false];show wpAny _ _ (if (Value.ref d==Value.none)=true then _ else _) _ _ s;rw [if_neg (show ¬ ((Value.ref d==Value.none)=true) from z1b)];refine z3v (z3u (z3v (z1y U O ?_)));rw [if_neg (by simp)];refine z3v (z3u (z3v (z2s U O ?_)));rw [if_neg (by simp)];refine z3u ?_;simp only [show ¬ ((i:Int) < 0) from by lia,if_false,z1w,z0m hx];refine z3v ?_;refine z3v (z01 J.typeIs (z3u ?_));show wpAny _ _ (setField (.ref it) 0 .none >>=_) _ _ s;refine z3v (wpAny_setField ho hd (by simp) ?_);show wpAny _ _ (newExc (.type "StopIteration") [] >>=_) _ _ _;refine z3v ?_;simp only [newExc,newTuple];refine z3v (z1x ?_ (by size_fits));refine z3v (m:=firstArgMember _ _) (wpAny_of_eq (a:=Value.none) (by first | rfl | (simp only [firstArgMember];rfl)) ?_);refine z1x ?_ (by size_fits);simp only [raiseNew];refine z3v (wpAny_handled ?_);rw [show A.in1.handled=none from hh];refine z3v (z3u (wpAny_throw ?_));refine z3v (wpAny_isInstance (T:="StopIteration") (b:=true) ⟨_,z15 _ rfl,zr⟩ isSubtype_stop ?_);exact z3u (q _ (((z14 ..).extBut.push _).push _))
theorem qmr (hh:A.handled=none) (I d:Addr) (Z:d≠I) (es:Array DictEntry) (ep:Nat):
  Walks prog w A I [I,d] [I] es.size (λ i v=>∃ e,es[i]? =some e/\v=e.key) (λ i h=>h.IsKeyIter I d i es.size ep/\RawD h d es ep) where
 sub:=λ b hb=>by simp at hb;simp [hb]
 frame:=λ _ _ _ st hk=>⟨st.1.at λ o e=>hk I (by simp) o e,st.2.at λ o e=>hk d (by simp) o e⟩
 item:=λ i s Q E hi st J=>by
  have hx:es[i]? =some es[i]:=Array.getElem?_eq_getElem hi;refine qoq st.1 st.2 hx λ h' O U=> ?_;exact J es[i].key h' s.toks ⟨es[i],hx,zr⟩ ⟨O,st.2.at λ o e=>U.extBut d o Z e⟩ λ b o hb e=>U.extBut b o (λ h=>hb (by simp [h])) e
 done:=λ s Q E st J=>qro hh st.1 st.2 (z3p _) λ h' Y=>J h' s.toks λ b o hb e=>Y b o (λ h=>hb (by simp [h])) e
 self:=λ _ _ _ _ st J=>wpAny_pyIter_keyiter st.1 J
theorem qrp (lo:(d==sysModules)=false):KdlSrc prog w "dict" d d es.size (λ i v=>∃ e,es[i]? =some e/\v=e.key) (λ h=>RawD h d es ep) where
 type:=λ _ hm=>hm.ty
 there:=λ _ hm=>⟨hm.lt,hm.lt⟩
 keep:=λ _ _ hm hk=>hm.at λ o e=>hk d (.inl rfl) o e
 notList:=by decide
 notTuple:=by decide
 hint:=λ _ _ _ _ hm hq=>kdl_hint_dict hm.ty hq
 iter:=λ _ _ hh hm=>⟨_,_,(λ _ _ hq=>qop lo hm hq),qmr hh _ d (z3h hm.lt) es ep,⟨⟨_,z15 _ rfl,rfl,rfl⟩,hm.at λ o e=>z0j _ e⟩⟩
theorem q7d {R:List Value ->Shared ->Prop} (hh:A.handled=none) (lo:(d==sysModules)=false) (x:RawD s.heap d es ep) (hn:es.size<=sizeLine)
  (h:∀ (h':Heap) (tk:Nat),(∀ b o,s.heap.get? b=some o ->h'.get? b=some o) ->s.heap.objs.size<=h'.objs.size ->R (es.toList.map (·.key)) {s with heap:=h',toks:=tk}):wpAny (model prog w) A (collect (.ref d)) R E s:=by
 have fin:∀ (U:Array Value),ItemsOf (λ i v=>∃ e,es[i]? =some e/\v=e.key) U es.size ->U.toList=es.toList.map (·.key):=λ U ha=>by
  apply z1r
  intro j;rw [z1s,z0s,z0s];cases e:U[j]? with
  | some v=>
   obtain ⟨e',he,rfl⟩:=ha.2 j v e;rw [he];rfl
  | none=>
   have:U.size<=j:=by simpa using e
   rw [ha.1] at this;rw [z0m this];rfl
 unfold collect;refine z3v (wpAny_runValue (z2t entry_proto_collect' ?_));rw [Around.under_plainId PySem.F.plain_proto_collect _];show wpAny _ A.in1 (newList [] >>=λ l=>again (.builtin "list.__iadd__" ⟨[l,.ref d],[]⟩)) _ _ s;refine z3v (z1x ?_);refine z3u ⟨plainId_quiet z0e _,z2t entry_list_iadd' ?_⟩;rw [Around.under_plainId z0e _];have hS:(s.heap.push {cls:= .type "list",data:= .seq ([]:List Value).toArray}).get? s.heap.objs.size=some {cls:= .type "list",data:= .seq #[]}:=z15 _ rfl;show wpAny _ A.in1 (Builtin.List.listExtendWith (.ref s.heap.objs.size) (.ref d) (.ref s.heap.objs.size)) _ _ _;have key:=kdl_extend (A:=A) (s:={s with heap:=s.heap.push {cls:= .type "list",data:= .seq ([]:List Value).toArray}}) (qrp (prog:=prog) (w:=w) (es:=es) (ep:=ep) lo) hh (x.at λ o e=>z0j _ e) s.heap.objs.size
  (z3j x.lt) (z3j x.lt) (.ref s.heap.objs.size) 0 hS
  (R:=λ (q:Result) (s':Shared)=>∃ (h':Heap) (tk:Nat) (J:Array Value) (Y:Nat),q= .ok (.ret (.ref s.heap.objs.size))/\s'={s with heap:=h',toks:=tk}/\(∀ b o,s.heap.get? b=some o ->h'.get? b=some o)/\
   h'.get? s.heap.objs.size=some {cls:= .type "list",dict:=none,data:= .seq J Y,slots:=#[]}/\J.toList=es.toList.map (·.key))
  (λ h' tk J Y hk O Z=>⟨h',tk,J,Y,rfl,rfl,λ b o e=>hk b o (z3h (z3g e)) (z0j _ e),O,fin J Z⟩) hn
 refine z3w key (λ f s' y=> ?_) λ e s' y=> ?_
 ·cases f with
  | done f=>
   obtain ⟨h',tk,J,Y,e,rfl,hk,O,ha⟩:=y;cases e
   show wpAny _ A (load s.heap.objs.size >>=_) _ _ _;refine z3v (wpAny_load O (z3u ?_));show R J.toList _;rw [ha];exact h h' tk hk (z3f (z3g O))
  | again c=>
   refine ⟨y.1,z3k y.2 λ q s2 z=> ?_⟩;obtain ⟨h',tk,J,Y,rfl,rfl,hk,O,ha⟩:=z;show wpAny _ A (load s.heap.objs.size >>=_) _ _ _;refine z3v (wpAny_load O (z3u ?_));show R J.toList _;rw [ha];exact h h' tk hk (z3f (z3g O))
 ·obtain ⟨_,_,_,_,e',_⟩:=y;cases e'
theorem qky {T:String} {o:Obj} {J:Array Value} {n:Nat} {l:Addr} {R:List Value ->Shared ->Prop} (hT:T="list"\/ T="tuple") (ho:s.heap.get? l=some o) (hc:o.cls= .type T) (hd:o.data= .seq J n) (hz:J.size<=sizeLine)
  (h:∀ (h':Heap) (tk:Nat),(∀ b o,s.heap.get? b=some o ->h'.get? b=some o) ->s.heap.objs.size<=h'.objs.size ->R J.toList {s with heap:=h',toks:=tk}):wpAny (model prog w) A (collect (.ref l)) R E s:=by
 unfold collect;refine z3v (wpAny_runValue (z2t entry_proto_collect' ?_));show wpAny _ _ (do again (.builtin "list.__iadd__" ⟨[<- newList [],.ref l],[]⟩)) _ _ s;refine z3v (wpAny_newList (z3u ⟨Code.quiet_builtin _ (by decide+kernel),z2t entry_list_iadd' ?_⟩));show wpAny _ _ (Builtin.List.listExtendWith (.ref s.heap.objs.size) (.ref l) (.ref s.heap.objs.size)) _ _ {s with heap:=s.heap.push (seqObj "list" #[] 0)};unfold Builtin.List.listExtendWith;have O:(s.heap.push (seqObj "list" #[] 0)).get? l=some o:=z0j _ ho;refine z3v (wpAny_typeOf (T:=T) ⟨o,O,hc⟩ ?_);have ht:((Value.type T==Value.type "list") || (Value.type T==Value.type "tuple"))=true:=by rcases hT with rfl | rfl <;> rfl
 rw [if_pos (by rw [Bool.or_assoc,ht];simp)];refine z3v (listItems_at O hd ?_);refine z3v (listItems_at (xs:=#[]) (n:=0) (z15 _ rfl) rfl ?_);rw [if_neg (by simp)];refine z3v (listUpdate_at (xs:=#[]) (n:=0) (z15 _ rfl) rfl ?_ (z3s _) (by rw [Array.size_append];simp;lia));refine z3u ?_;show wpAny (model prog w) A (load s.heap.objs.size >>=λ o=>match o.data with
   | .seq xs _=>pure xs.toList
   | _=>unsupported "internal:collect") R E {s with heap:=(s.heap.push (seqObj "list" #[] 0)).update s.heap.objs.size (Obj.mapSeq (· ++J))}
 refine z3v (wpAny_load (get?_update_seq (z15 _ rfl) _) ?_);show wpAny _ _ (pure ((#[]:Array Value)++J).toList) R E _;rw [show ((#[]:Array Value)++J).toList=J.toList by simp];refine z3u (h _ s.toks (λ b o e=> ?_) (by rw [Heap.size_update,size_push'];lia));exact (z0k _ _ (z3j (z3g e))).trans (z0j _ e)
theorem qkz {x:Value} {vs:List Value} {rk:Value ->Int} {Q:Value ->Shared ->Prop} (hz:vs.length<=sizeLine)
  (hc:∀ (U:Around) (E':Value ->Shared ->Prop) (R:List Value ->Shared ->Prop),U.handled=A.handled ->(∀ h' tk,(∀ b o,s.heap.get? b=some o ->h'.get? b=some o) ->s.heap.objs.size<=h'.objs.size ->R vs {s with heap:=h',toks:=tk}) ->wpAny (model prog w) U (collect x) R E' s)
  (hk:∀ (U:Around) (s':Shared) (a:Addr),U.units<=A.units+4 ->s.heap.objs.size<=a ->(∀ b o,s.heap.get? b=some o ->s'.heap.get? b=some o) ->Tim.Keys prog w U s' a vs rk)
  (h:∀ (out:Array Value) (l:Addr) (n:Nat) (h':Heap) (tk:Nat),Tim.Sorted rk vs out.toList ->(∀ b o,s.heap.get? b=some o ->h'.get? b=some o) ->s.heap.objs.size<=l ->h'.get? l=some (seqObj "list" out n) ->Q (.ref l) {s with heap:=h',toks:=tk}):
  wpAny (model prog w) A (call (.builtin "sorted") [x]) Q E s:=by
 refine Calls.call_function_entry kind_sorted plain_sorted entry_sorted (args_sorted1 _) ?_;unfold Builtin.«sorted»;refine z3v (m:=checkCount "sorted" 1 1 _) (z3u ?_);refine z3v (hc _ _ _ rfl λ h1 tk keep hsz=> ?_);refine z3v (wpAny_newList ?_ hz);have O:(h1.push (seqObj "list" vs.toArray 0)).get? h1.objs.size=some (seqObj "list" vs.toArray 0):=z15 _ rfl;show wpAny _ _ _ _ _ {s with heap:=h1.push (seqObj "list" vs.toArray 0),toks:=tk};have J:∀ b o,s.heap.get? b=some o ->(h1.push (seqObj "list" vs.toArray 0)).get? b=some o:=λ b o e=>z0j _ (keep b o e);refine z3v (z36 (z2a slot_list_sort ⟨_,O,zr⟩ entry_list_sort (Tim.qfn O hz (hk _ _ _ ?_ hsz J) λ out so=>⟨_,zr,?_⟩) (args_list_sort _)))
 ·show A.units+2<=A.units+4
  lia
 ·have Y:∀ b o,s.heap.get? b=some o ->b≠h1.objs.size:=λ b o e=>z3h (z1h (z3g e) hsz);have u1:=z14 (h1.push (seqObj "list" vs.toArray 0)) h1.objs.size (Obj.mapSeq λ _=>(#[]:Array Value));obtain ⟨e1,g1⟩:∃ e1,((h1.push (seqObj "list" vs.toArray 0)).update h1.objs.size (Obj.mapSeq λ _=>(#[]:Array Value))).get? h1.objs.size=some (seqObj "list" #[] e1):=⟨_,get?_update_seq O λ _=>#[]⟩;have g2:=z0j (seqObj "list" #[] 0) (z0j (seqObj "tuple" vs.toArray 0) g1);have g3:=get?_update_seq g2 λ _=>out;have u4:=z14 (((((h1.push (seqObj "list" vs.toArray 0)).update h1.objs.size (Obj.mapSeq λ _=>(#[]:Array Value))).push (seqObj "tuple" vs.toArray 0)).push (seqObj "list" #[] 0))) h1.objs.size (Obj.mapSeq λ _=>out);refine z3u ⟨_,zr,h out h1.objs.size _ _ tk so (λ b o e=> ?_) hsz g3⟩;refine (u4.2 b (Y b o e)).trans (z0j _ (z0j _ ((u1.2 b (Y b o e)).trans (J b o e))))
end
end L2
namespace Tim
section
variable {α:Type}
def srt (lt:α ->α ->Bool) (l:List α):List α:=l.mergeSort λ a b=> !lt b a
theorem q14 (lt:α ->α ->Bool) (l:List α):(srt lt l).Perm l:=List.mergeSort_perm _ _
theorem q7s {lt:α ->α ->Bool} (h:STO lt) (l:List α):(srt lt l).Pairwise λ a b=>lt b a=false:=by
 have:=List.pairwise_mergeSort (le:=λ a b=> !lt b a) (λ a b c h1 h2=>by
  cases e:lt c a with
  | false=>rfl
  | true=>
   rcases h.nt b e with q | q
   ·rw [q] at h2;cases h2
   ·rw [q] at h1;cases h1) (λ a b=>by
  cases e:lt b a with
  | false=>rfl
  | true=>
   rw [h.asym e];rfl) l
 exact List.Pairwise.imp (λ {a b} (z:(!lt b a)=true)=>by simpa using z) this
theorem qhm {lt:α ->α ->Bool} (h:STO lt) {l k:List α} (p:k.Perm l) (a:k.Pairwise λ a b=>lt b a=false):k=srt lt l:=h.uniq (p.trans (q14 lt l).symm) a (q7s h l)
end
section
open PySem
theorem q50 {α:Type} {lt:α ->α ->Bool} (h:STO lt) (J:Value ->α) {vs out:List Value} (O:Sorted (λ v=>rank lt (vs.map J) (J v)) vs out):out.map J=srt lt (vs.map J):=by
 refine qhm h (O.perm.map J) ?_;rw [List.pairwise_map];refine List.Pairwise.imp_of_mem (λ {x y} hx hy hr=> ?_) O.asc;have mx:J x∈vs.map J:=z3m.mpr ⟨x,O.perm.mem_iff.mp hx,rfl⟩;have my:J y∈vs.map J:=z3m.mpr ⟨y,O.perm.mem_iff.mp hy,rfl⟩;rw [qjp (λ a _=>h.irr a) (λ a _ b _ c _=>h.tr a b c) (λ a _ b _ c _ z=>h.nt b z) my mx];exact z2h (by lia)
theorem qb8 {α:Type} {lt:α ->α ->Bool} (h:STO lt) (J:Value ->α) {vs:List Value} {x y:Value} (hx:x∈vs) (hy:y∈vs):lt (J x) (J y)=decide (rank lt (vs.map J) (J x) < rank lt (vs.map J) (J y)):=
 qjp (λ a _=>h.irr a) (λ a _ b _ c _=>h.tr a b c) (λ a _ b _ c _ z=>h.nt b z) (z3m.mpr ⟨x,hx,rfl⟩) (z3m.mpr ⟨y,hy,rfl⟩)
end
end Tim
namespace L2
open PySem PySem.Spec PyProof.Rows PySem.W
def strLt (x y:Str):Bool:=decide (x.cps.toList < y.cps.toList)
theorem q3d:Tim.STO strLt:=by
 have h:=(Tim.qqu.lex).map (λ z:Str=>z.cps.toList) (λ a b e=>by
  cases a
  cases b
  congr
  exact Array.toList_inj.mp e)
 have e:strLt=λ a b:Str=>Tim.lexB (λ x y:Nat=>decide (x < y)) a.cps.toList b.cps.toList:=by
  funext a b
  exact Tim.qjr _ _
 rw [e];exact h
def q1j (a b:List Str):Bool:=Tim.lexB strLt a b
theorem q8c:Tim.STO q1j:=q3d.lex
def sOf:Value ->Str
 | .str x _=>x
 | _=>""
theorem q8d {J:List Str}:∀ {us:List Value},Vals (J.map V.str) us ->us.map sOf=J/\(∀ u∈us,∃ x t,u= .str x t)/\StrsAre us J:=by
 induction J with
 | nil=>
  intro us r;cases r
  exact ⟨rfl,(λ _ z=>nomatch z),.nil⟩
 | cons x J ih=>
  intro us r;cases r with
  | cons r1 rr=>
   obtain ⟨t,rfl⟩:=r1;obtain ⟨a,b,c⟩:=ih rr;refine ⟨by rw [z33,a];rfl,λ u O=> ?_,.cons x t c⟩;rcases z35.mp O with rfl | O
   ·exact ⟨x,t,zr⟩
   ·exact b u O
theorem q6h:∀ {us:List Value},(∀ u∈us,∃ x t,u= .str x t) ->Vals ((us.map sOf).map V.str) us
 | [],_=> .nil
 | u::us,h=>by
  obtain ⟨x,t,rfl⟩:=h u (z1f ..);exact .cons ⟨t,zr⟩ (q6h λ v hv=>h v (z0z _ hv))
section
variable {prog:Program} {w:World} {A:Around} {s:Shared} {a:Addr}
theorem qf3 {ws:List Str} {vs:List Value} (r:Vals (ws.map V.str) vs):Tim.Keys prog w A s a vs (λ v=>Tim.rank strLt (vs.map sOf) (sOf v)):=by
 intro h2 s' _;obtain ⟨e1,e2,e3⟩:=q8d r;refine ⟨oneType',λ E Q q=> ?_,λ x hx y hy E Q q=> ?_⟩
 ·match vs,h2,e3 with
  | v1::v2::vr,_,e3=>
   rw [keyKind_strs e3];exact z3u q
 ·rw [<- Tim.qb8 q3d sOf hx hy] at q;obtain ⟨x',t,rfl⟩:=e2 x hx;obtain ⟨y',u,rfl⟩:=e2 y hy;rw [keyLt'_oneType];exact oneLt_str q
end
section
variable {X:Cx}
theorem Inv.q7e {pins:List (Addr×Obj)} {σ:St} {H:Hp} {s:Shared} {xs:List V} {out:Array Value} {l:Addr} {n tk:Nat} {h':Heap} {Q:VK} (I:Inv X pins σ H s) (rv:Vals xs out.toList) (hz:xs.length<=sizeLine)
  (keep:∀ b o,s.heap.get? b=some o ->h'.get? b=some o) (hl:s.heap.objs.size<=l) (hg:h'.get? l=some (seqObj "list" out n)) (q:Q (.ref l) (upd H l (.lst xs))):EP X pins σ Q (.ref l) {s with heap:=h',toks:=tk}:=by
 refine ⟨.ref l,_,I.laid (a:=l) (o:= .lst xs) (t':=tk) keep hl ⟨hz,out.toList,n,rv,?_⟩,zr,q⟩;rw [Array.toArray_toList];exact hg
end
def TupAt (h:Heap) (v:Value) (p:List Str):Prop:=∃ (b:Addr) (o:Obj) (its:Array Value) (n:Nat),v= .ref b/\h.get? b=some o/\o.cls= .type "tuple"/\o.data= .seq its n/\Vals (p.map V.str) its.toList
section
variable {prog:Program} {w:World} {A:Around} {E:Value ->Shared ->Prop} {s:Shared} {a:Addr}
theorem qhn (x y:Str) (t u:Tok):SeqAt.EqAt A s (.str x t) (.str y u) (decide (x=y)):=λ prog w E Q h=>wpAny_eqBool_str h
theorem qak (x y:Str) (p q:List Str):q1j (x::p) (y::q)=if x=y then q1j p q else strLt x y:=rfl
theorem q8e:∀ (p q:List Str) (us vs:List Value),Vals (p.map V.str) us ->Vals (q.map V.str) vs ->LexAt A s us vs (q1j p q)
 | [],[],_,_,r1,r2=>by cases r1;cases r2;exact .nn
 | [],_::_,_,_,r1,r2=>by cases r1;cases r2;exact .nc
 | _::_,[],_,_,r1,r2=>by cases r1;cases r2;exact .cn
 | x::p,y::q,_,_,r1,r2=>by
  cases r1 with
  | cons a1 r1=>
   cases r2 with
   | cons a2 r2=>
    obtain ⟨t,rfl⟩:=a1;obtain ⟨u,rfl⟩:=a2;have J:=qhn (A:=A) (s:=s) x y t u;rw [qak];by_cases h:x=y
    ·rw [if_pos h];rw [z2w h] at J;exact .eq J (q8e p q _ _ r1 r2)
    ·rw [if_neg h];rw [z2h h] at J;exact .lt J λ prog w E Q k=>(lt_str k:wpAny (model prog w) A (compareOp .Lt _ _) Q E s)
theorem qcd (c:Bool) (x y:Str) (t u:Tok) {Q:Bool ->Shared ->Prop} (h:Q (strLt x y) s):wpAny (model prog w) A (oneLt' c (.str x t) (.str y u)) Q E s:=by
 cases c with
 | true=>exact oneLt_str h
 | false=>exact kat_one _ _ (lt_str h)
theorem qal {c fin:Bool} {Q:Bool ->Shared ->Prop}:∀ (p q:List Str) (us vs:List Value) (i:Nat),Vals (p.map V.str) us ->Vals (q.map V.str) vs ->fin=decide (us.length < vs.length) ->Q (q1j p q) s ->KatLex prog w A c fin Q (us.zip vs) i s
 | [],[],_,_,i,r1,r2,J,h=>by
  cases r1
  cases r2
  rw [List.zip_nil_left,J];exact h
 | [],_::_,_,_,i,r1,r2,J,h=>by
  cases r1
  cases r2
  rw [List.zip_nil_left,J];refine kat_nil ?_;rw [z2w (by simp)];exact h
 | _::_,[],_,_,i,r1,r2,J,h=>by
  cases r1
  cases r2
  rw [List.zip_nil_right,J];refine kat_nil ?_;rw [z2h (by simp)];exact h
 | x::p,y::q,_,_,i,r1,r2,J,h=>by
  cases r1 with
  | cons a1 r1=>
   cases r2 with
   | cons a2 r2=>
    obtain ⟨t,rfl⟩:=a1;obtain ⟨u,rfl⟩:=a2;rw [z1j];rw [qak] at h;refine kat_cons (qhn x y t u prog w _ _ ?_);by_cases e:x=y
    ·rw [if_pos e] at h;rw [z2w e];exact kat_yes (qal p q _ _ (i+1) r1 r2 (by rw [J];simp) h)
    ·rw [if_neg e] at h;rw [z2h e];exact kat_no (qcd _ x y t u h)
theorem ql0 {x y:Value} {p q:List Str} (hx:TupAt s.heap x p) (hy:TupAt s.heap y q) (c:Bool):Tim.KLt prog w A s (tuples' c) x y (q1j p q):=by
 obtain ⟨b,o,its,n,rfl,e1,_,d1,r1⟩:=hx;obtain ⟨b',o',its',n',rfl,e2,_,d2,r2⟩:=hy;intro E Q k;exact kat_lt e1 d1 e2 d2 (qal p q _ _ 0 r1 r2 (by rw [z12,z12]) k)
theorem qrq {x y:Value} {p q:List Str} (hx:TupAt s.heap x p) (hy:TupAt s.heap y q) (hu:A.units < cLine):LtAt A s x y (q1j p q):=by
 obtain ⟨b,o,its,n,rfl,e1,c1,d1,r1⟩:=hx;obtain ⟨b',o',its',n',rfl,e2,c2,d2,r2⟩:=hy;exact qhk ⟨o,e1,c1,n,d1⟩ ⟨o',e2,c2,n',d2⟩ (q8e p q _ _ r1 r2) hu
theorem qj6 {x y:Value} {p q:List Str} (hx:TupAt s.heap x p) (hy:TupAt s.heap y q) (hu:A.units < cLine):Tim.KLt prog w A s general' x y (q1j p q):=by
 intro E Q k;exact kat_one x y (qrq hx hy hu prog w E _ k)
theorem qrr {x y:Value} {p q:List Str} (hx:TupAt s.heap x p) (hy:TupAt s.heap y q) (hu:A.units < cLine):Tim.KLt prog w A s oneType' x y (q1j p q):=by
 obtain ⟨b,⟨cls,dd,data,sl⟩,its,n,rfl,e1,Y,d1,r1⟩:=hx;obtain ⟨b',⟨Z,O,J,U⟩,its',n',rfl,e2,c2,d2,r2⟩:=hy;simp only at Y d1 c2 d2;subst Y d1 c2 d2;intro E Q k;rw [keyLt'_oneType,oneLt'_eq];simp only [if_true];refine z3v (wpAny_cRoomFor hu ?_);refine z3v (wpAny_callSpecialIfBound?_slot ⟨_,e1,zr⟩ PySem.F.slot_tuple_lt (call_meets PySem.F.slot_tuple_lt ⟨_,e1,zr⟩ PySem.F.entry_tuple_lt (PySem.F.args_tuple_lt_2 _ _) (q95 b b' its its' n n' dd O sl U (q1j p q)) ⟨e1,e2,q8e p q _ _ r1 r2,?_⟩));exact z1u k
theorem TupAt.keep {h h':Heap} {v:Value} {p:List Str} (x:TupAt h v p) (k:∀ b o,v= .ref b ->h.get? b=some o ->h'.get? b=some o):TupAt h' v p:=
 let ⟨b,o,its,n,e,g,r⟩:=x
 ⟨b,o,its,n,e,k b o e g,r⟩
theorem qam:∀ (vs:List Value) (ps:List (List Str)),Paired (TupAt s.heap) vs ps ->∃ fs:List (Option Value),(∀ (M:Model) (A:Around) (E:Value ->Shared ->Prop) (Q:List (Option Value) ->Shared ->Prop),Q fs s ->wpAny M A (vs.mapM firstOfTuple') Q E s)/\fs.length=vs.length/\
  ∀ f∈fs,∀ v,f=some v ->∃ x t,v= .str x t
 | [],[],_=>⟨[],λ M A E Q q=>by rw [List.mapM_nil];exact z3u q,rfl,λ _ z=>nomatch z⟩
 | v::vs,p::ps,.cons h hr=>by
  obtain ⟨fs,g1,g2,g3⟩:=qam vs ps hr;obtain ⟨b,o,its,n,rfl,ho,hc,hd,r⟩:=h;refine ⟨its[0]? ::fs,λ M A E Q q=> ?_,by rw [z24,g2,z24],λ f J v e=> ?_⟩
  ·rw [List.mapM_cons];refine z3v ?_;rw [kas_first_eq];refine z3v (Looks.here (show Looks M s.heap (typeOf (.ref b)) o.cls from (Looks.ld ho).andThen .now) ?_);rw [hc,if_neg (by decide)];refine z3v (listItems_at ho hd (z3u ?_));exact z3v (g1 M A E (λ bs s'=>wpAny M A (pure (its[0]? ::bs)) Q E s') (z3u q))
  ·rcases z35.mp J with rfl | J
   ·obtain ⟨_,h2,_⟩:=q8d r;exact h2 v (by rw [<- z0s] at e;exact z11 e)
   ·exact g3 f J v e
theorem q7f:∀ (vs:List Value),(∀ v∈vs,∃ x t,v= .str x t) ->vs.mapM typeOf=pure (vs.map λ _=>Value.type "str")
 | [],_=>by simp
 | v::vs,h=>by
  obtain ⟨x,t,rfl⟩:=h v (z1f ..);rw [List.mapM_cons,q7f vs λ u hu=>h u (z0z _ hu)];show (pure (Value.type "str") >>=λ b=>pure _ >>=λ bs=>pure (b::bs))=_;simp
theorem qms {vs:List Value} {ps:List (List Str)} (h:Paired (TupAt s.heap) vs ps) (h2:2<=vs.length):∃ kd:SortKind,(kd=tuples' true\/ kd=general'\/ kd=oneType')/\∀ (M:Model) (A:Around) (E:Value ->Shared ->Prop) (Q:SortKind ->Shared ->Prop),Q kd s ->wpAny M A (keyKind' vs.toArray) Q E s:=by
 obtain ⟨fs,Z,g2,g3⟩:=qam vs ps h;by_cases J:(fs.toArray.all λ x=>x.isSome)=true
 ·refine ⟨tuples' true,.inl rfl,λ M A E Q q=> ?_⟩;rw [kat_kind_eq,z1z,map_eq_pure_bind];refine z3v (z3v (Z M A E _ (z3u ?_)));rw [if_pos J];refine z3v (z3t ?_);obtain ⟨f1,fr,e⟩:∃ f1 fr,fs=f1::fr:=by
   cases e:fs with
   | nil=>rw [e] at g2;simp at g2;lia
   | cons f1 fr=>exact ⟨f1,fr,rfl⟩
  have hs:∀ v∈fs.filterMap id,∃ x t,v= .str x t:=λ v U=>by
   obtain ⟨f,Y,e⟩:=List.mem_filterMap.mp U;exact g3 f Y v e
  have a1:fs.toArray.filterMap id=(fs.filterMap id).toArray:=by simp
  rw [a1,oneTypeOnly'_eq,z1z,q7f _ hs];simp only [map_pure,pure_bind];have h0:∃ v O,fs.filterMap id=v::O:=by
   rw [e] at J ⊢;cases f1 with
   | none=>simp at J
   | some v=>exact ⟨v,fr.filterMap id,rfl⟩
  obtain ⟨v,O,ev⟩:=h0;rw [ev];have ha:((List.map (λ _=>Value.type "str") (v::O)).toArray.all λ x=>x==Value.type "str")=true:=by
   simp only [List.all_toArray,z3n,z29];intro _ _;rfl
  have hz:(List.map (λ _=>Value.type "str") (v::O)).toArray[0]? =some (Value.type "str"):=by simp
  rw [hz];simp only [ha,if_true,pure_bind];exact z3u q
 ·by_cases Y:(fs.toArray[0]?.bind id).isSome=true
  ·refine ⟨general',.inr (.inl rfl),λ M A E Q q=> ?_⟩;rw [kat_kind_eq,z1z,map_eq_pure_bind];refine z3v (z3v (Z M A E _ (z3u ?_)));rw [if_neg J,if_pos Y];exact z3u q
  ·refine ⟨oneType',.inr (.inr rfl),λ M A E Q q=> ?_⟩;rw [kat_kind_eq,z1z,map_eq_pure_bind];refine z3v (z3v (Z M A E _ (z3u ?_)));rw [if_neg J,if_neg Y,oneTypeOnly'_eq,z1z,map_eq_pure_bind];have a2:∀ v∈vs,Looks M s.heap (typeOf v) (.type "tuple"):=λ v U=>by
    obtain ⟨p,b,o,its,n,rfl,ho,hc,_⟩:∃ p,TupAt s.heap v p:=by
     clear Z g2 g3 J Y h2 q
     induction h with
     | nil=>cases U
     | cons a r ih=>
      rcases z35.mp U with e | U
      ·rw [e];exact ⟨_,a⟩
      ·exact ih U
    rw [<- hc];exact (Looks.ld ho).andThen .now
   refine z3v (z3v (z3v (kas_mapM (r:=Value.type "tuple") _ (λ v U Q' hq=>(a2 v U).here hq) (z3u ?_))));obtain ⟨v,O,ev⟩:∃ v O,vs=v::O:=by
    cases e:vs with
    | nil=>rw [e] at h2;simp at h2
    | cons v O=>exact ⟨v,O,rfl⟩
   rw [ev];have ha:((List.map (λ _=>Value.type "tuple") (v::O)).toArray.all λ x=>x==Value.type "tuple")=true:=by
    simp only [List.all_toArray,z3n,z29];intro _ _;rfl
   have hz:(List.map (λ _=>Value.type "tuple") (v::O)).toArray[0]? =some (Value.type "tuple"):=by simp
   rw [hz];simp only [ha,if_true];exact z3u (z3u q)
theorem q42 {α β:Type} {F:α ->β ->Prop} {f:α ->β}:∀ {l:List α} {k:List β},Paired F l k ->(∀ x y,F x y ->f x=y) ->l.map f=k/\∀ x∈l,F x (f x)
 | _,_,.nil,_=>⟨rfl,λ _ z=>nomatch z⟩
 | _,_,.cons a r,h=>by
  obtain ⟨e,m⟩:=q42 r h;have e1:=h _ _ a;refine ⟨by rw [z33,e,e1],λ x hx=> ?_⟩;rcases z35.mp hx with rfl | hx
  ·rw [e1];exact a
  ·exact m x hx
theorem qmt {vs:List Value} {ps:List (List Str)} (J:Value ->List Str) (h:Paired (λ v p=>TupAt s.heap v p/\J v=p) vs ps) (ha:s.heap.objs.size<=a) {s1:Shared} (hk:∀ b o,s.heap.get? b=some o ->s1.heap.get? b=some o) (Y:A.units < cLine):
  Tim.Keys prog w A s1 a vs (λ v=>Tim.rank q1j (vs.map J) (J v)):=by
 intro h2 s' keep;have up:∀ v p,TupAt s.heap v p ->TupAt s'.heap v p:=λ v p x=>x.keep λ b o _ e=>keep b o (z3h (z1h (z3g e) ha)) (hk b o e);obtain ⟨_,hm⟩:=q42 h λ _ _ z=>z.2;obtain ⟨kd,U,O⟩:=qms (s:=s') (Paired.mapP h λ v p z=>up v p z.1) h2;refine ⟨kd,λ E Q q=>O _ A E Q q,λ x hx y hy=> ?_⟩;rw [<- Tim.qb8 q8c J hx hy];have tx:=up x _ (hm x hx).1;have ty:=up y _ (hm y hy).1;rcases U with rfl | rfl | rfl
 ·exact ql0 tx ty true
 ·exact qj6 tx ty Y
 ·exact qrr tx ty Y
end
theorem qdf (p:List Str):(p.map (Sum.inr:Str ->Key)).map kV=p.map V.str:=by
 rw [z3o];rfl
def decT (H:Hp):Value ->List Str
 | .ref a=>match H a with
  | some (.tup xs)=>xs.map λ x=>match x with | .str z=>z | _=>""
  | _=>[]
 | _=>[]
theorem qk0 {H:Hp} {a:Addr} {p:List Str} (h:H a=some (.tup (p.map V.str))):decT H (.ref a)=p:=by
 simp only [decT,h];rw [z3o];exact (z17 λ _ _=>rfl).trans (List.map_id p)
section
variable {X:Cx}
def qqe (H:Hp) (vs:List Value) (ps:List (List Str)):Prop:=Paired (λ v p=>∃ b,v=Value.ref b/\H b=some (.tup (p.map V.str))) vs ps
end
end L2
namespace L2
open PySem PySem.Spec PyProof.Rows
theorem qan (ns:List Int):∀ n:Nat,preSum (λ i=>ns.getD i 0) n=(ns.take n).sum
 | 0=>rfl
 | n+1=>by
  rw [preSum,qan ns n,z31,List.sum_append]
  congr 1
  show ns.getD n 0=_;rw [z05];cases h:ns[n]? <;> simp
section
variable {X:Cx}
theorem qf4 (hc:X.calm=true) (K:PySem.W.Frag) (hK:X.K=K:=by rfl):q20 X (.builtin "sum") (λ xs H Q=>∃ (p:Addr) (ns:List Int),xs=[.ref p]/\SqL K H p (ns.map V.int)/\Q (.int ns.sum) H):=by
 subst hK;intro pins s σ H xs us Q I r h;obtain ⟨p,ns,rfl,hp,q⟩:=h;obtain ⟨u,rfl,U⟩:=q2b r;cases U
 obtain ⟨its,rv,pl,hz⟩:=I.list hp;have hl:its.toArray.size=ns.length:=by
  have:=rv.length;rw [z2l] at this;rw [z1t];exact this.symm
 have hh:X.A.in1.handled=none:=I.ok.hd hc;have J:p < s.heap.objs.size:=by
  obtain ⟨o,n,e1,_⟩:=pl;exact z3g e1
 refine call_sum_walkG (z1v pl.isList ?_);refine ⟨s.heap.objs.size,_,_,_,_,_,λ i=>ns.getD i 0,zr,Walks.list hh _ p (z3h J) its.toArray,⟨⟨_,z15 _ rfl,zr,zr⟩,pl.isList.at λ o e=>z0j _ e⟩,?_,?_,λ h' tk t' kk=> ?_⟩
 ·intro b hb;have hs:∀ o:Obj,(s.heap.push o).objs.size=s.heap.objs.size+1:=λ o=>Array.size_push _;simp only [z35,z2d,or_false] at hb;show b < (s.heap.push _).objs.size;rw [hs];rcases hb with rfl | rfl
  ·exact z27 _
  ·exact z20 J
 ·intro i v hv;have O:its[i]? =some v:=by simpa using hv
  have hi:i < ns.length:=by
   rw [<- hl,z1t];exact (z06.mp O).1
  have e:(ns.map V.int)[i]? =some (V.int ns[i]):=by rw [z1s,z0a hi];rfl
  obtain ⟨u,Y,U⟩:=rv.get e;rw [O] at Y;cases Y
  obtain ⟨t,rfl⟩:=U;exact ⟨t,by show _=Value.int (ns.getD i 0) t;rw [q6a hi]⟩
 ·rw [hl,qan,z2e];exact ⟨.int _,H,I.kept λ b o e=>kk b o (by simp;exact z3h (z3g e)) (z0j _ e),⟨_,rfl⟩,q⟩
theorem qdg (K:PySem.W.Frag) {es:List Expr} {k:Nat} {t:TGs} {n:Nat} {pos:Pos} (hc:X.calm=true) (h:PGs X es t) (hK:X.K=K:=by rfl)
  (hn:(assignEach es X.env).length=n:=by rfl) (J:(assignEach es X.env).findIdx? (·.1)=none:=by rfl):PG X (.Tuple es k pos) (gTup K n t):=by
 subst hK;exact q90 hc h hn J
end
section
variable {X:Cx} {e:Expr} {lo hi:Option Expr} {se:Expr} {te:TE} {tl th ts:TO} {p2 pos:Pos}
end
theorem qk1 {k:Int} {n:Nat} (h1:0<=k) (h2:k < 2^n):Builtin.Int.intBits k<=n+1:=by
  unfold Builtin.Int.intBits;split
  · exact z3s _
  · have hn:k.natAbs < 2^n:=by
      have:((k.natAbs:Nat):Int) < ((2^n:Nat):Int):=by
        rw [Int.natAbs_of_nonneg h1]
        push_cast
        exact h2
      exact Int.ofNat_lt.mp this
    have:k.natAbs.log2<=n:=by
      rcases Nat.eq_zero_or_pos k.natAbs with h0 | hp
      · rw [h0]
        show 0<=n;exact z3s _
      · exact z3f ((Nat.log2_lt (z3j hp)).mpr hn)
    lia
def qqf (i j:Int):Prop:=(0<=i/\i < 2^600)/\(0<=j/\j < 2^600)
section
variable {X:Cx}
theorem qdh:OpR X (binaryOp .Mult) (rI qqf λ i j=> .int (i*j)):=opI λ _ _ _ _ _ _ _ J q=>mul_int q (IntMulOk.of_bits (z3i (qk1 J.1.1 J.1.2) (by decide)) (z3i (qk1 J.2.1 J.2.2) (by decide)))
end
theorem qmu (bs:List Bool):(List.range bs.length).any (λ i=>(bs[i]?).getD true)=bs.any id:=by
 rw [z2k,z2b,z2b]
 constructor
 ·rintro ⟨i,hi,h⟩;have J:=z2x.mp hi;rw [z0a J] at h;exact ⟨_,z26 J,h⟩
 ·rintro ⟨b,hb,h⟩;obtain ⟨i,hi,e⟩:=z0v.mp hb;refine ⟨i,z2x.mpr hi,?_⟩;rw [z0a hi,e];exact h
section
variable {X:Cx}
theorem qf5 (hc:X.calm=true) (K:PySem.W.Frag) (hK:X.K=K:=by rfl):q20 X (.builtin "any") (λ xs H Q=>∃ (p:Addr) (bs:List Bool),xs=[.ref p]/\SqL K H p (bs.map V.bl)/\Q (.bl (bs.any id)) H):=by
 subst hK;intro pins s σ H xs us Q I r h;obtain ⟨p,bs,rfl,hp,q⟩:=h;obtain ⟨u,rfl,ru⟩:=q2b r;cases ru
 obtain ⟨its,rv,pl,hz⟩:=I.list hp;have hl:its.toArray.size=bs.length:=by
  have:=rv.length;rw [z2l] at this;rw [z1t];exact this.symm
 have hh:X.A.in1.handled=none:=I.ok.hd hc;have O:p≠s.heap.objs.size:=λ e=>by
  obtain ⟨o,n,e1,_⟩:=pl;exact absurd (z3g e1) (by rw [e];exact z37 _)
 refine call_any_walk (z1v pl.isList ?_);refine ⟨s.heap.objs.size,_,_,_,_,_,λ i=>(bs[i]?).getD true,zr,Walks.list hh _ p O its.toArray,⟨⟨_,z15 _ rfl,zr,zr⟩,pl.isList.at λ o e=>z0j _ e⟩,?_,λ h' tk kk=> ?_⟩
 ·intro i v s' Q' E' hv hq;have U:its[i]? =some v:=by simpa using hv
  obtain ⟨b,e,rfl⟩:=qjy rv U;have J:Q' ((bs[i]?).getD true) s':=hq;rw [e] at J;exact z1u J
 ·rw [hl,qmu];exact ⟨.bl _,H,I.kept λ b o e=>kk b o (by simp;exact z3h (z3g e)) (z0j _ e),rfl,q⟩
theorem ql1 {P:Program} {w:World} {es:List DictEntry} {vs:List (Key×Value)} (p:Pairs (qz P w) es vs):∀ {kvs:List (Key×V)} {J:List Str},KV kvs vs ->kvs.map (·.1)=J.map Sum.inr ->Vals (J.map V.str) (es.map (·.key)):=by
 induction p with
 | nil=>
  intro kvs J r h;cases r
  have:J=[]:=by simpa using h.symm
  subst this;exact .nil
 | cons a b c ih=>
  intro kvs J r h;cases r with
  | cons d f=>
   cases J with
   | nil=>simp at h
   | cons x J=>
    rw [z33,z33,z2g] at h;rw [<- d.1,h.1] at a;refine .cons ?_ (ih f h.2);rcases q1e (show q5z (Sum.inr x) _=true from a) with ⟨i,t,e1,_⟩ | ⟨x',t,e1,e2⟩
    ·cases e1
    ·cases e1
     exact ⟨t,e2⟩
theorem qfs (hc:X.calm=true) (K:PySem.W.Frag) (hK:X.K=K:=by rfl):q20 X (.builtin "sorted") (λ xs H Q=>∃ (d:Addr) (kvs:List (Key×V)) (J:List Str),xs=[.ref d]/\H d=some (.dK kvs)/\kvs.map (·.1)=J.map Sum.inr/\
  ∀ l,H l=none ->Q (.ref l) (upd H l (.lst ((Tim.srt strLt J).map V.str)))):=by
 subst hK;intro pins s σ H xs us Q I r h;obtain ⟨d,kvs,J,rfl,hd,hk,q⟩:=h;obtain ⟨u,rfl,ru⟩:=q2b r;cases ru
 obtain ⟨hz,a1,vs,a3,o,es,ep,ho,hx,O,_,Z,hnd⟩:=I.hok d _ hd;have rv:Vals (J.map V.str) (es.toList.map (·.key)):=ql1 Z a3 hk;have wl:J.length=kvs.length:=by
  have:=congrArg List.length hk;rw [z2l,z2l] at this;exact this.symm
 have hl:(es.toList.map (·.key)).length<=sizeLine:=by
  rw [<- rv.length,z2l,wl];exact hz
 obtain ⟨e1,e2,_⟩:=q8d rv;refine qkz (vs:=es.toList.map (·.key)) (rk:=λ v=>Tim.rank strLt ((es.toList.map (·.key)).map sOf) (sOf v)) hl (λ A' E' R hh k=>q7d (hh.trans (I.ok.hd hc)) a1 ⟨o,ho,hx,O⟩ (by rw [z2l,z12] at hl;exact hl) k)
  (λ A' s' a _ _ _=>qf3 rv) λ out l n h' tk so keep U hg=> ?_
 have a2:∀ u∈out.toList,∃ x t,u= .str x t:=λ u hu=>e2 u (so.perm.mem_iff.mp hu);have ed:=Tim.q50 q3d sOf so;rw [e1] at ed;have Y:=q6h a2;rw [ed] at Y;exact I.q7e Y (by rw [z2l,(Tim.q14 strLt J).length_eq,wl];exact hz) keep U hg (q l (I.hok.fresh U))
end
def q24 (v:Nat ->Int):Nat ->Option Int
 | 0=>none
 | n+1=>match q24 v n with
  | none=>some (v n)
  | some m=>some (if v n > m then v n else m)
theorem qce:(toString "max"++toString ".loop":String)="max.loop":=by decide
theorem qdi (a v:Value):argsOk "max" ⟨[a],[(Str.ofString "default",v)]⟩:=by unfold argsOk;kernel_rfl
section
variable {prog:Program} {w:World} {A:Around} {R:Result ->Shared ->Prop} {I:Addr} {fp wr:List Addr} {n:Nat} {P:Nat ->Value ->Prop} {St:Nat ->Heap ->Prop}
def Best (v:Nat ->Int) (j:Nat) (xs:Array Value):Prop:=(q24 v j=none/\xs=#[])\/ ∃ m t,q24 v j=some m/\xs=#[.int m t,.int m t]
theorem q72 (W:Walks prog w A.in1 I fp wr n P St) (v:Nat ->Int) (hv:∀ i x,P i x ->∃ t,x= .int (v i) t) (S:Addr) (Z:S∉fp) (d:Int) (td:Tok):∀ (k j:Nat) (s:Shared) (xs:Array Value) (c:Nat),j+k=n ->St j s.heap ->Best v j xs ->
  s.heap.get? S=some {cls:= .type "list",data:= .seq xs c} ->
  (∀ t h' tk,(∀ b o,b∉wr ->b≠S ->s.heap.get? b=some o ->h'.get? b=some o) ->R (.ok (.ret (.int ((q24 v n).getD d) t))) {s with heap:=h',toks:=tk}) ->
  codeAny (model prog w) A (.builtin "max.loop" ⟨[.ref I,.none,.ref S],[(Str.ofString "default",.int d td)]⟩) R s
 | 0,j,s,xs,c,hk,a5,hb,hS,hR=>by
  have a4:S∉wr:=λ h=>Z (W.sub _ h);have hj:j=n:=by lia
  subst hj;refine z2t PySem.F.entry_max_loop ?_;rw [Around.under_plainId PySem.F.plain_max_loop _];refine z3v (m:=seqItems? (.ref S)) (wpAny_seqItems hS rfl ?_);refine z3v (m:=tryCatch (pyNext (.ref I)) _) (wpAny_tryCatch (W.done s _ _ a5 λ h' tk U=> ?_));have Y:=U S _ a4 hS;rcases hb with ⟨e,rfl⟩ | ⟨m,t,e,rfl⟩
  ·have:=hR td h' tk λ b o J _ eb=>U b o J eb;rw [e] at this;exact z3v (z3t (z3u this))
  ·refine z3v (m:=updateSeq S λ _=>#[]) ?_;refine wpAny_updateSeq Y rfl (z3v (wpAny_letGo (z3u ?_)));have em:(q24 v j).getD d=m:=by rw [e];rfl
   rw [em] at hR;exact hR t _ tk λ b o J O eb=>(z0k _ _ (Ne.symm O)).trans (U b o J eb)
 | k+1,j,s,xs,c,hk,a5,hb,hS,hR=>by
  have a4:S∉wr:=λ h=>Z (W.sub _ h);have a7:j < n:=by lia
  refine z2t PySem.F.entry_max_loop ?_;rw [Around.under_plainId PySem.F.plain_max_loop _];refine z3v (m:=seqItems? (.ref S)) (wpAny_seqItems hS rfl ?_);refine z3v (m:=tryCatch (pyNext (.ref I)) _) (wpAny_tryCatch (W.item j s _ _ a7 a5 λ x h' tk hP a3 U=> ?_));have Y:=U S _ a4 hS;obtain ⟨tx,rfl⟩:=hv j x hP;have stay:∀ (f:Obj ->Obj),St (j+1) (h'.update S f):=λ f=>W.frame _ _ _ a3 λ b a6 o e=>(z0k _ _ (λ h:S=b=>Z (by rw [h];exact a6))).trans e;rcases hb with ⟨e,rfl⟩ | ⟨m,t,e,rfl⟩
  ·refine z3v (m:=updateSeq S λ _=>#[.int (v j) tx,.int (v j) tx]) ?_;refine wpAny_updateSeq Y rfl ?_;rw [qce];refine z3u ⟨plainId_quiet PySem.F.plain_max_loop _,q72 W v hv S Z d td k (j+1) _ _ _ (by lia) (stay _) (.inr ⟨v j,tx,?_,zr⟩) (z0t _ Y rfl) λ t' h2 a2 a1=> ?_⟩
   ·rw [q24,e]
   ·exact hR t' h2 a2 λ b o J O eb=>a1 b o J O ((z0k _ _ (Ne.symm O)).trans (U b o J eb))
  ·refine z3v (m:=tryCatch (holding [.int (v j) tx,.int (v j) tx] (richCompare .Gt (.int (v j) tx) (.int m t) >>=_)) _) (wpAny_tryCatch (z36 (z3v (richCompare_gives (op:= .Gt) (typeIs_int _ _ tx) (typeIs_int _ _ t) PySem.F.slot_int_gt PySem.F.entry_int_gt (PySem.F.args_int_gt_2 _ _) (gives_int_gt _ _ tx t) (λ x=>nomatch x) ?_))));refine z3v (z36 (z1u ?_));refine z3v (wpAny_letGo (z3u ?_));by_cases hb:v j > m
   ·rw [z2w hb,if_pos rfl];refine z3v ?_;refine wpAny_updateSeq Y rfl (z3v (wpAny_letGo ?_));rw [qce];refine z3u ⟨plainId_quiet PySem.F.plain_max_loop _,q72 W v hv S Z d td k (j+1) _ _ _ (by lia) (stay _) (.inr ⟨v j,tx,?_,zr⟩) (z0t _ Y rfl) λ t' h2 a2 a1=> ?_⟩
    ·rw [q24,e];show some (if v j > m then v j else m)=_;rw [if_pos hb]
    ·exact hR t' h2 a2 λ b o J O eb=>a1 b o J O ((z0k _ _ (Ne.symm O)).trans (U b o J eb))
   ·rw [z2h hb,if_neg (by decide)];refine z3v (wpAny_letGo ?_);rw [qce];refine z3u ⟨plainId_quiet PySem.F.plain_max_loop _,q72 W v hv S Z d td k (j+1) _ _ _ (by lia) a3 (.inr ⟨m,t,?_,zr⟩) Y λ t' h2 a2 a1=> ?_⟩
    ·rw [q24,e];show some (if v j > m then v j else m)=_;rw [if_neg hb]
    ·exact hR t' h2 a2 λ b o J O eb=>a1 b o J O (U b o J eb)
end
section
variable {X:Cx} {e d:Expr} {t tk:TA} {p pos kpos:Pos}
theorem qrs (K:PySem.W.Frag) (hc:X.calm=true) (hg:Gl X "max") (hm:X.mg "max"=none) (hv:bootBuiltins "max"=some (.builtin "max")) (ha:PA X [e] t) (a1:PK X [⟨some "default",d,kpos⟩] tk) (hK:X.K=K:=by rfl)
  (a2:(backTo pos (starEach [e] X.env)).any (·.1)=false:=by rfl) (he:backTo pos (starEach [e] X.env)=(false,eval e X.env)::backTo pos (starEach [] X.env):=by rfl):
  PE X (.Call (.Name "max" p) [e] [⟨some "default",d,kpos⟩] pos) (λ σ H Q=>t σ H λ vs H1=>tk σ H1 λ ws H2=>∃ (l:Addr) (ns:List Int) (n:Int),vs=[.ref l]/\ws=[.int n]/\SqL K H2 l (ns.map V.int)/\Q (.int ((q24 (λ i=>ns.getD i 0) ns.length).getD n)) H2):=by
 subst hK;intro pins s σ H Q I h;refine z1i (q53 I hg hm hv ?_);refine callWith_kw (thn (ha pos pins s σ H _ I h) λ us s1 ⟨vs,H1,I1,r1,q1⟩=>thn (a1 pos pins s1 σ H1 _ I1 q1) λ ws J a3=> ?_) he a2;obtain ⟨zs,H2,I2,rz,q2⟩:=a3;obtain ⟨l,ns,n,rfl,rfl,hl,q⟩:=q2;obtain ⟨u,rfl,ru⟩:=q2b r1;cases ru
 obtain ⟨u,rfl,⟨Z,rfl⟩⟩:=q2b rz;obtain ⟨its,rv,pl,hz⟩:=I2.list hl;have hsz:its.toArray.size=ns.length:=by
  have:=rv.length;rw [z2l] at this;rw [z1t];exact this.symm
 have hh:X.A.in1.handled=none:=I2.ok.hd hc;have O:l < J.heap.objs.size:=by
  obtain ⟨o,k,e1,_⟩:=pl;exact z3g e1
 show wpAny _ _ (call (.builtin "max") [.ref l] [(Str.ofString "default",.int n Z)]) _ _ J;refine kmk_tree PySem.F.kind_max PySem.F.plain_max PySem.F.entry_max (qdi _ _) ?_;refine z3v (m:=Builtin.Builtins.bindParams "max" ["key","default"] 0 ⟨[],[(Str.ofString "default",.int n Z)]⟩) (wpAny_of_eq (show _=pure [none,some (Value.int n Z)] from rfl) ?_);refine z3v (z3u ?_);refine z3v (z1v pl.isList ?_);refine z3v (wpAny_newList ?_ (z3s _));rw [qce];have keep:∀ b o,J.heap.get? b=some o ->((J.heap.push {cls:= .type "list_iterator",data:= .fields #[.ref l,.int 0 0]}).push {cls:= .type "list",data:= .seq #[]}).get? b=some o:=λ b o e=>z0j _ (z0j _ e);have U:(J.heap.push {cls:= .type "list_iterator",data:= .fields #[.ref l,.int 0 0]}).objs.size=J.heap.objs.size+1:=Array.size_push _;refine z3u ⟨plainId_quiet PySem.F.plain_max_loop _,q72 (n:=ns.length) (A:=X.A) (hsz ▸ Walks.list hh J.heap.objs.size l (z3h O) its.toArray) (λ i=>ns.getD i 0) ?_ (J.heap.push {cls:= .type "list_iterator",data:= .fields #[.ref l,.int 0 0]}).objs.size ?_ n Z ns.length 0 _ #[] 0 (z3e _) ⟨⟨_,z0j _ (z15 _ rfl),zr,zr⟩,pl.isList.at (keep l)⟩ (.inl ⟨zr,zr⟩) (z15 _ rfl) λ t' h' tk' hk=> ?_⟩
 ·intro i v hv;have Y:its[i]? =some v:=by simpa using hv
  have hi:i < ns.length:=by
   rw [<- hsz,z1t];exact (z06.mp Y).1
  have e:(ns.map V.int)[i]? =some (V.int ns[i]):=by rw [z1s,z0a hi];rfl
  obtain ⟨u,hu,ru⟩:=rv.get e;rw [Y] at hu;cases hu
  obtain ⟨t,rfl⟩:=ru;exact ⟨t,by show _=Value.int (ns.getD i 0) t;rw [q6a hi]⟩
 ·rw [U];intro hb;simp only [z35,z2d,or_false] at hb;rcases hb with h | h
  ·exact absurd h (Nat.succ_ne_self _)
  ·exact absurd O (by rw [<- h];exact Nat.not_lt_of_le (Nat.le_succ _))
 ·refine ⟨.int _,H2,I2.kept λ b o e=>hk b o ?_ ?_ (keep b o e),⟨_,zr⟩,q⟩
  ·simp
   exact z3h (z3g e)
  ·rw [U];exact z3h (z20 (z3g e))
end
section
variable {prog:Program} {w:World} {A:Around} {E:Value ->Shared ->Prop} {s:Shared}
end
section
variable {prog:Program} {w:World} {A:Around} {R:Result ->Shared ->Prop} {I:Addr} {fp wr:List Addr} {n:Nat} {P:Nat ->Value ->Prop} {St:Nat ->Heap ->Prop}
end
section
variable {X:Cx}
end
section
variable {X:Cx} {tg:Expr}
end
section
variable {X:Cx} {e:Expr} {lo hi:Option Expr} {se:Expr} {te:TE} {tl th ts:TO} {p2 pos:Pos}
end
section
variable {prog:Program} {w:World} {A:Around} {E:Value ->Shared ->Prop} {s:Shared}
end
section
variable {X:Cx}
end
def cA (mg:Str ->Option Value) (x:Str):Addr:=match mg x with
 | some (.ref a)=>a
 | _=>0
theorem q43 {mg:Str ->Option Value} {x:Str} {C:Addr} (h:mg x=some (.ref C)):cA mg x=C:=by
 unfold cA;rw [h]
structure MTop (K:PySem.W.Frag) (C:Addr) (m qual:Str) (st:Stmt) (ps:List Str):Prop where
 ex:∃ f fd,Fun K m qual st f fd/\Meth K C m f/\∀ us:List Value,us.length=ps.length ->bindArgs fd ⟨us,[]⟩=pure (ps.zip us)
theorem qrt {K:PySem.W.Frag} {C:Addr} {m qual:Str} {st:Stmt} {ps:List Str} {f:Addr} {oc:Value} {od O:Option Addr} {Y:Array (Option Value)} {kV J U cdv ct:Value}
  (b:∀ (kV J U:Value) (O:Option Addr) (cdv ct:Value) (us:List Value),us.length=ps.length ->bindArgs (PySem.W.fnOf m qual (q1g st) (qw st) (qc st) .none kV J U O cdv ct) ⟨us,[]⟩=pure (ps.zip us))
  (a:PySem.W.findIn K (.ref C) m=some (some (.ref f))) (i:PySem.W.isFn K (.ref f)=true)
  (l:K.lookup f=some ⟨oc,od,.func (PySem.W.fnOf m qual (q1g st) (qw st) (qc st) .none kV J U O cdv ct),Y⟩) (c:PySem.W.codeIn K cdv qual=true) (k:PySem.W.keepIn K (.ref f)=true):MTop K C m qual st ps:=
 ⟨f,_,qmg (st:=st) l c k,⟨a,i,k⟩,b kV J U O cdv ct⟩
structure MDef (P:Program) (w:World) (K:PySem.W.Frag) (mg:Str ->Option Value) (base:Heap) (k:Nat) (C:Addr) (m:Str) (ps:List Str) (sp:Sp):Prop where
 ex:∃ f fd,FnOk P w K mg base CX0 k f fd ps sp/\Meth K C m f/\Binds K fd ps []
theorem MTop.ok {P:Program} {w:World} {K:PySem.W.Frag} {mg:Str ->Option Value} {base:Heap} {C:Addr} {m qual:Str} {st:Stmt} {N ps:List Str} {k:Nat} {sp:Sp} (T:MTop K C m qual st ps) (S:FnScope N ps (qc st)) (len:∀ vs H Q E,sp vs H Q E ->vs.length=ps.length)
  (J:∀ (f:Addr) (cdv:Value) (A:Around) (outer:List Env) (s:Shared) (H:Hp) (vs:List V) (Q:VK) (E:XK),Room k (A.deeper (envOfC qual (qc st) s.heap.objs.size f cdv)) ->sp vs H Q E ->
   ∃ t,PSs (cxOf CX0 P w K mg base N qual (qc st) f cdv A outer s H E).nox (qw st) t/\t {nx:=λ _ H'=>Q .non H',rt:=Q} (start N vs) H):MDef P w K mg base (k+1) C m ps sp:=by
 obtain ⟨f,fd,F,hm,hb⟩:=T.ex;exact ⟨f,fd,F.ok S len (J f),hm,Binds.all hb⟩
section
variable {X:Cx} {k k':Nat} {C:Addr} {ps ks:List Str} {sp:Sp} {x m:Str} {p pos apos:Pos} {e o:Expr} {es:List Expr} {ta:TE} {t tk:TA} {kws:List Keyword}
theorem q6b {pl:Sem Bool} (D:MDef X.prog X.w X.K X.mg X.base k C m ps sp) (c:Cls X.K C) (hr:Room k' X.A) (he:PE X o ta) (ha:PA X (e::es) t) (J:k<=k':=by decide)
  (U:starEach (e::es) X.env=(false,eval e X.env)::starEach es X.env:=by rfl) (O:(backTo pos (starEach es X.env)).any (·.1)=false:=by rfl)
  (ht:eval (.Call (.Attribute o m apos) (e::es) [] pos) X.env=(do
   let ov <- eval o X.env
   standAt apos.atName
   let (f,first) <- holding [ov] (getMethod ov m pl)
   callWith pos f first (backTo pos (starEach (e::es) X.env)) (backToKw pos (keywordEach [] X.env))):=by rfl):
  PE X (.Call (.Attribute o m apos) (e::es) [] pos) (qc6 C m sp [] E0 ta t):=by
 obtain ⟨f,fd,F,hm,hb⟩:=D.ex;exact qju he c hm F (hr.mono J) hb .nil q89 ha U O ht
theorem qor {pl:Sem Bool} (D:MDef X.prog X.w X.K X.mg X.base k C m ps sp) (c:Cls X.K C) (hr:Room k' X.A) (he:PE X o ta) (J:k<=k':=by decide)
  (ht:eval (.Call (.Attribute o m apos) [] [] pos) X.env=(do
   let ov <- eval o X.env
   standAt apos.atName
   let (f,first) <- holding [ov] (getMethod ov m pl)
   callWith pos f first (backTo pos (starEach [] X.env)) (backToKw pos (keywordEach [] X.env))):=by rfl):
  PE X (.Call (.Attribute o m apos) [] [] pos) (qc6 C m sp [] E0 ta tNil):=by
 obtain ⟨f,fd,F,hm,hb⟩:=D.ex;exact qoe he c hm F (hr.mono J) hb .nil q89 ht
def qtt (C:Addr):TE:=λ _ H Q=>∀ x dx,H x=none ->H dx=none ->dx≠x ->Q (.ref x) (upd (upd H dx (.own x)) x (.ins C dx []))
theorem qmv {pins:List (Addr×Obj)} {σ:St} {H:Hp} {s:Shared} {Q:VK} (hm:PySem.W.makesIn X.K C=true) (hi:PySem.W.findIn X.K (.ref C) "__init__"=some (some (.builtin "object.__init__"))) (I:Inv X pins σ H s)
  (h:∀ x dx,H x=none ->H dx=none ->dx≠x ->Q (.ref x) (upd (upd H dx (.own x)) x (.ins C dx []))):wpAny (model X.prog X.w) X.A (call (.ref C) []) (EP X pins σ Q) X.xe s:=by
 have hq:=h (s.heap.objs.size+1) s.heap.objs.size (I.hok.fresh (Nat.le_succ _)) (I.hok.fresh (z3p _)) (z3h (z27 _));have I2:=Inv.made (C:=C) I;have Y:=PySem.W.makes_of (M:=model X.prog X.w) I.kIn hm;refine wpAny_call (qm4 I.kIn hm hi (λ self=>PySem.W.Looks.of_pure (PySem.W.oi_bind self)) ?_);have g2:((s.heap.push PySem.W.emptyDict).push (PySem.W.instObj C s.heap.objs.size)).get? (s.heap.objs.size+1)=some (PySem.W.instObj C s.heap.objs.size):=by
  have:=z15 (s.heap.push PySem.W.emptyDict) (o:=PySem.W.instObj C s.heap.objs.size) rfl
  rwa [z2z] at this
 have t1:PySem.W.Looks (model X.prog X.w) ((s.heap.push PySem.W.emptyDict).push (PySem.W.instObj C s.heap.objs.size)) (typeOf (.ref (s.heap.objs.size+1))) (.ref C):=(PySem.W.Looks.ld g2).andThen .now;have t2:PySem.W.Looks (model X.prog X.w) ((s.heap.push PySem.W.emptyDict).push (PySem.W.instObj C s.heap.objs.size)) (isInstance (.ref (s.heap.objs.size+1)) (.type "object")) true:=t1.andThen (Y.top.keeps λ b o e=>z0j _ (z0j _ e));refine codeAny_call_builtin PySem.W.oi_plain PySem.W.entry_oi (@PySem.W.check_slot (model X.prog X.w) _ _ _ "object.__init__" "object" "__init__" (.ref (s.heap.objs.size+1)) [] [] _ PySem.W.oi_kind PySem.W.oi_split t2 (PySem.W.oi_args _) ?_);rw [PySem.W.oi_run];exact z3u ⟨zr,V.ref (s.heap.objs.size+1),_,I2,zr,hq⟩
theorem qb9 (hk:PySem.W.makesIn X.K C=true) (hi:PySem.W.findIn X.K (.ref C) "__init__"=some (some (.builtin "object.__init__"))) (kp:PySem.W.keepIn X.K (.ref C)=true) (hg:Gl X x) (hm:X.mg x=some (.ref C))
  (J:(x==("__debug__":Str))=false:=by decide):PE X (.Call (.Name x p) [] [] pos) (qtt C):=by
 intro pins s σ H Q I h;refine z1i (q67 I hg hm ?_ J);exact PySem.W.callWith_K0 I.kIn kp (qmv hk hi I h)
structure FunD (K:PySem.W.Frag) (x qual:Str) (st:Stmt) (f:Addr) (fd:FuncData):Prop where
 ex:∃ (oc:Value) (od:Option Addr) (dV kV doc pm:Value) (an:Option Addr) (cdv ct:Value) (osl:Array (Option Value)),
  fd=PySem.W.fnOf x qual (q1g st) (qw st) (qc st) dV kV doc pm an cdv ct/\K.lookup f=some ⟨oc,od,.func fd,osl⟩/\PySem.W.codeIn K cdv qual=true
theorem FunD.ok {P:Program} {w:World} {K:PySem.W.Frag} {mg:Str ->Option Value} {base:Heap} {x qual:Str} {st:Stmt} {f:Addr} {fd:FuncData} {N ps:List Str} {k:Nat} {sp:Sp} (F:FunD K x qual st f fd) (S:FnScope N ps (qc st)) (len:∀ vs H Q E,sp vs H Q E ->vs.length=ps.length)
  (J:∀ (cdv:Value) (A:Around) (outer:List Env) (s:Shared) (H:Hp) (vs:List V) (Q:VK) (E:XK),Room k (A.deeper (envOfC qual (qc st) s.heap.objs.size f cdv)) ->sp vs H Q E ->
   ∃ t,PSs (cxOf CX0 P w K mg base N qual (qc st) f cdv A outer s H E).nox (qw st) t/\t {nx:=λ _ H'=>Q .non H',rt:=Q} (start N vs) H):FnOk P w K mg base CX0 (k+1) f fd ps sp:=by
 obtain ⟨oc,od,dV,kV,doc,pm,an,cdv,ct,osl,rfl,lk,O⟩:=F.ex;refine qgo lk O S len λ A outer s H vs Q E hr U=> ?_;obtain ⟨t,h,q⟩:=J cdv A outer s H vs Q E hr U;exact ⟨t,h.nox,q⟩
structure InitB (K:PySem.W.Frag) (fd:FuncData) (y:Str) (dv:V):Prop where
 b0:∃ u,RelV dv u/\Binds K fd ["self",y] [u]
 b1:Binds K fd ["self",y] []
 bk:∀ (s:Shared) (v z:Value),K.In s.heap ->BindsTo s fd ⟨[v],[(y,z)]⟩ [("self",v),(y,z)]
structure ITop (K:PySem.W.Frag) (C:Addr) (qual y:Str) (st:Stmt) (dv:V):Prop where
 ex:∃ f fd,FunD K "__init__" qual st f fd/\PySem.W.findIn K (.ref C) "__init__"=some (some (.ref f))/\PySem.W.isFn K (.ref f)=true/\InitB K fd y dv
theorem qru {K:PySem.W.Frag} {C:Addr} {qual y:Str} {st:Stmt} {dv:V} {u:Value} {f:Addr} {oc:Value} {od U:Option Addr} {Z:Array (Option Value)} {Y kV J pm cdv ct:Value}
    (a:PySem.W.findIn K (.ref C) "__init__"=some (some (.ref f))) (i:PySem.W.isFn K (.ref f)=true)
    (l:K.lookup f=some ⟨oc,od,.func (PySem.W.fnOf "__init__" qual (q1g st) (qw st) (qc st) Y kV J pm U cdv ct),Z⟩) (c:PySem.W.codeIn K cdv qual=true) (ru:RelV dv u)
    (h0:∀ (s:Shared) (v:Value),K.In s.heap ->BindsTo s (PySem.W.fnOf "__init__" qual (q1g st) (qw st) (qc st) Y kV J pm U cdv ct) ⟨[v],[]⟩ [("self",v),(y,u)])
    (h1:∀ (s:Shared) (v z:Value),K.In s.heap ->BindsTo s (PySem.W.fnOf "__init__" qual (q1g st) (qw st) (qc st) Y kV J pm U cdv ct) ⟨[v,z],[]⟩ [("self",v),(y,z)])
    (hk:∀ (s:Shared) (v z:Value),K.In s.heap ->BindsTo s (PySem.W.fnOf "__init__" qual (q1g st) (qw st) (qc st) Y kV J pm U cdv ct) ⟨[v],[(y,z)]⟩ [("self",v),(y,z)]):ITop K C qual y st dv:=by
  refine ⟨f,_,⟨oc,od,Y,kV,J,pm,U,cdv,ct,Z,zr,l,c⟩,a,i,⟨u,ru,λ s us X hl=> ?_⟩,λ s us X hl=> ?_,hk⟩
  · have O:us.length=1:=by
      rw [z1e] at hl;exact Nat.succ.inj hl
    match us,O with
    | [v],_=>exact h0 s v X
  · have O:us.length=2:=by
      rw [z2m] at hl;exact hl
    match us,O with
    | [v,z],_=>exact h1 s v z X
structure IDef (P:Program) (w:World) (K:PySem.W.Frag) (mg:Str ->Option Value) (base:Heap) (k:Nat) (C:Addr) (y:Str) (dv:V) (sp:Sp):Prop where
 ex:∃ f fd,FnOk P w K mg base CX0 k f fd ["self",y] sp/\PySem.W.findIn K (.ref C) "__init__"=some (some (.ref f))/\PySem.W.isFn K (.ref f)=true/\InitB K fd y dv
theorem ITop.ok {P:Program} {w:World} {K:PySem.W.Frag} {mg:Str ->Option Value} {base:Heap} {C:Addr} {qual y:Str} {st:Stmt} {dv:V} {N:List Str} {k:Nat} {sp:Sp} (T:ITop K C qual y st dv) (S:FnScope N ["self",y] (qc st)) (len:∀ vs H Q E,sp vs H Q E ->vs.length=(["self",y]:List Str).length)
  (J:∀ (f:Addr) (cdv:Value) (A:Around) (outer:List Env) (s:Shared) (H:Hp) (vs:List V) (Q:VK) (E:XK),Room k (A.deeper (envOfC qual (qc st) s.heap.objs.size f cdv)) ->sp vs H Q E ->
   ∃ t,PSs (cxOf CX0 P w K mg base N qual (qc st) f cdv A outer s H E).nox (qw st) t/\t {nx:=λ _ H'=>Q .non H',rt:=Q} (start N vs) H):IDef P w K mg base (k+1) C y dv sp:=by
 obtain ⟨f,fd,F,h1,h2,h3⟩:=T.ex;exact ⟨f,fd,F.ok S len (J f),h1,h2,h3⟩
variable {y:Str} {dv:V}
theorem qtu (D:IDef X.prog X.w X.K X.mg X.base k C y dv sp) (hk:PySem.W.makesIn X.K C=true) (kp:PySem.W.keepIn X.K (.ref C)=true) (hr:Room k' X.A) (hg:Gl X x) (hm:X.mg x=some (.ref C)) (ha:PA X (e::es) t) (O:k+1<=k':=by decide)
  (J:(x==("__debug__":Str))=false:=by decide) (he:starEach (e::es) X.env=(false,eval e X.env)::starEach es X.env:=by rfl) (U:(backTo pos (starEach es X.env)).any (·.1)=false:=by rfl):PE X (.Call (.Name x p) (e::es) [] pos) (qku C sp [] E0 t):=by
 obtain ⟨f,fd,F,h1,h2,h3⟩:=D.ex;exact qjv ⟨hk,h1,h2,kp⟩ F (hr.mono O) hg hm h3.b1 .nil q89 ha J he U
end
end L2
namespace L2
open PySem PySem.Spec PyProof.Rows PySem.W
section
variable {prog:Program} {w:World} {A:Around} {s:Shared} {a:Addr}
end
section
variable {X:Cx}
end
end L2
namespace L2
open PySem PySem.Spec PyProof.Rows
section
variable {X:Cx} {pins:List (Addr×Obj)} {σ:St} {H:Hp} {s:Shared} {a:Addr} {kvs:List (Key×V)} {k:Key} {z:V} {u r:Value} {A:Around} {E:Value ->Shared ->Prop}
theorem qtv {Q:Value ->Shared ->Prop} (I:Inv X pins σ H s) (e:H a=some (.dK kvs)) (hl:kvs.length < sizeLine) (ry:RelV (kV k) u) (rz:RelV z r)
  (h1:∀ v Y s',valV kvs k=some v ->Inv X pins σ H s' ->RelV v Y ->Q Y s') (h2:valV kvs k=none ->∀ s',Inv X pins σ (upd H a (.dK (putK kvs k z))) s' ->Q r s'):
  wpAny (model X.prog X.w) A (call (.builtin "dict.setdefault") [.ref a,u,r]) Q E s:=by
 obtain ⟨zl,hd,vs,J,dd⟩:=qq9 I.hok e;have rv:=J.val k;refine call_meetsIn PySem.F.slot_dict_setdefault dd.typeIs PySem.F.entry_dict_setdefault (PySem.F.args_dict_setdefault_3 _ _ _) (kt_meets_setdefault (qz X.prog X.w) a (q70 ry) hd r) ⟨vs,dd,by rw [<- J.length];exact zl,λ Y hw=> ?_,λ hn h' O hs=> ?_⟩
 ·cases U:valV kvs k with
  | none=>
   rw [U,hw] at rv;exact rv.elim
  | some v=>
   rw [U,hw] at rv;exact h1 v Y _ U (I.tok _) rv
 ·have hp:(putK kvs k z).length<=sizeLine:=by have:=q4z kvs k z;lia
  have he:∃ q,h'.get? a=some q:=let ⟨q,_,_,hq,_⟩:=O;⟨q,hq⟩
  refine h2 ?_ _ (q7n I (by rw [e];exact True.intro) hs he (qma hp hd (J.put k rz) O));cases U:valV kvs k with
  | none=>rfl
  | some v=>
   rw [U,hn] at rv;exact rv.elim
end
def qtw (td ty tx:TE):TE:=λ σ H Q=>td σ H λ x H1=>∃ a,x= .ref a/\IsD H1 a/\ty σ H1 λ y H2=>tx σ H2 λ z H3=>∃ kvs k,H3 a=some (.dK kvs)/\y=kV k/\kvs.length < sizeLine/\
 (∀ v,valV kvs k=some v ->Q v H3)/\(valV kvs k=none ->Q z (upd H3 a (.dK (putK kvs k z))))
section
variable {X:Cx} {o e f:Expr} {apos cpos:Pos} {td ty tx:TE}
theorem qos (ho:PE X o td) (he:PE X e ty) (hf:PE X f tx) (m:M2 X o "setdefault" apos e f cpos):PE X (.Call (.Attribute o "setdefault" apos) [e,f] [] cpos) (qtw td ty tx):=by
 intro pins s σ H Q I h;refine wpAny_Call_method m.base m.few m.line PySem.F.plainAttrs_dict PySem.F.slot_dict_setdefault PySem.F.type_dict_setdefault (thn (ho pins s σ H _ I h) λ u s1 O=> ?_);obtain ⟨x,H1,I1,rx,a,ex,d,q1⟩:=O;subst ex;obtain rfl:u=Value.ref a:=rx;obtain ⟨t1,t2,_⟩:=qmd I1 d;refine ⟨t1,t2,?_⟩;rw [m.trees];refine Calls.callWith_builtin rfl (Calls.evalArgs_plain (Calls.spliced_cons (thn (he pins s1 σ H1 _ I1 q1) λ iv s2 ⟨y,H2,I2,ry,q2⟩=>
  Calls.spliced_cons (thn (hf pins s2 σ H2 _ I2 q2) λ fv s3 ⟨z,H3,I3,rz,kvs,k,eH,ey,hl,q3,q4⟩=>Calls.spliced_nil ?_))))
 subst ey;exact qtv I3 eH hl ry rz (λ v w' s4 ev I4 J=>⟨_,H3,I4,J,q3 v ev⟩) λ en s4 I4=>⟨z,_,I4,rz,q4 en⟩
end
end L2
namespace L2
open PySem PySem.Spec PyProof.Rows PySem.W
section
variable {P:Program} {w:World} {A:Around} {E:Value ->Shared ->Prop} {s:Shared} {a:Addr} {xs:List Str}
end
section
variable {prog:Program} {w:World} {A:Around} {R:Result ->Shared ->Prop} {I:Addr} {fp wr:List Addr} {G:Array GenState ->Array GenState ->Prop} {n:Nat} {P:Nat ->Value ->Prop} {St:Nat ->Shared ->Prop}
end
section
variable {prog:Program} {w:World} {A:Around} {E:Value ->Shared ->Prop} {s:Shared}
end
section
variable {prog:Program} {w:World} {A:Around} {E:Value ->Shared ->Prop} {s:Shared}
end
section
variable {M:Model} {A:Around} {E:Value ->Shared ->Prop}
end
section
variable {prog:Program} {w:World} {A:Around} {E:Value ->Shared ->Prop} {s:Shared} {a:Addr}
end
section
variable {prog:Program} {w:World} {A:Around} {E:Value ->Shared ->Prop} {s:Shared} {a I:Addr} {es:Array (Int×Value)} {ep:Nat} {t:SetTable}
end
section
variable {prog:Program} {w:World} {A:Around} {E:Value ->Shared ->Prop} {s:Shared} {a I T:Addr} {es:Array (Int×Value)} {ep i:Nat} {t:SetTable} {o:Obj}
end
section
variable {prog:Program} {w:World} {A:Around} {E:Value ->Shared ->Prop} {s:Shared} {a I T:Addr} {es:Array (Int×Value)} {ep:Nat} {t:SetTable} {o:Obj}
end
section
variable {prog:Program} {w:World} {A:Around} {E:Value ->Shared ->Prop} {s:Shared} {a:Addr} {xs:List Str}
end
section
variable {prog:Program} {w:World} {A:Around} {E:Value ->Shared ->Prop} {s:Shared} {a:Addr} {xs:List Str}
end
section
variable {X:Cx} {pins:List (Addr×Obj)} {σ:St} {H:Hp} {s:Shared}
end
section
variable {X:Cx}
end
section
variable {X:Cx}
end
section
variable {X:Cx}
end
section
variable {X:Cx} {tg:Expr}
end
end L2
namespace L2
open PySem PySem.Spec PyProof.Rows
section
variable {X:Cx}
end
section
variable {prog:Program} {w:World} {A:Around} {E:Value ->Shared ->Prop} {s:Shared}
end
section
variable {X:Cx}
end
section
variable {X:Cx}
def qve:R2:=λ x y H Q=>∃ a b xs ys,x= .ref a/\y= .ref b/\H a=some (.tup xs)/\H b=some (.tup ys)/\xs.length+ys.length<=sizeLine/\∀ p H',Same H H' ->H' p=some (.tup (xs++ys)) ->Q (.ref p) H'
theorem qrv:OpR X (binaryOp .Add) qve:=by
 intro pins s σ H x y v u Q I rx ry h;obtain ⟨a,b,xs,ys,rfl,rfl,ha,hb,hz,q⟩:=h;by_cases hx:xs=[]
 ·subst hx;cases rx
  cases ry
  obtain ⟨its,r1,p1,_⟩:=I.tuple (SqT.of (K:=X.K) ha);obtain ⟨Y,r2,p2,_⟩:=I.tuple (SqT.of (K:=X.K) hb);have e0:its=[]:=r1.q9w.mpr rfl;subst e0;obtain ⟨⟨cls,dd,data,sl⟩,ho,hc,n,hd⟩:=id p1;obtain ⟨⟨a3,a1,Z,a2⟩,U,J,n2,O⟩:=id p2;simp only at hc hd J O;subst hc hd J O;exact concat_meets ⟨_,ho,zr⟩ ⟨_,U,zr⟩ noFill_tuple_add seq_tuple_add PySem.F.slot_tuple_add PySem.F.entry_tuple_add (PySem.F.args_tuple_add_2 _ _)
   (tuple_addW0 a b #[] Y.toArray n n2 dd a1 sl a2 rfl) ⟨ho,U,⟨.ref b,H,I,rfl,q b H (Same.refl _) hb⟩⟩
 ·refine qra pins s σ H _ _ v u Q I rx ry ⟨a,b,xs,ys,zr,zr,SqT.of ha,SqT.of hb,hx,hz,λ e=> ?_,λ _ p hp=>q p _ (qd hp) q5⟩;subst e;exact q a H (Same.refl _) (by rw [z2m];exact ha)
end
section
variable {prog:Program} {w:World} {A:Around} {E:Value ->Shared ->Prop} {s:Shared}
end
section
variable {X:Cx} {pins:List (Addr×Obj)} {σ:St} {H:Hp} {s:Shared} {h':Heap}
theorem FpOk.ch {fp:List Addr} (hf:∀ b∈fp,FpOk X pins H b):∀ b∈fp,(b∈X.ex\/ X.s₀.heap.objs.size<=b)/\b≠X.env.locals/\(∀ x c,X.env.cells.lookup x=some c ->c≠b)/\∀ p∈X.pn++pins,p.1≠b:=λ b hb=>
 let ⟨_,f1,_,f3,f4,f5⟩:=hf b hb;⟨f3,f1,f4,f5⟩
theorem q51 {fp:List Addr} {t':Nat} (I:Inv X pins σ H s) (U:∀ b∈fp,FpOk X pins H b) (k:∀ b o,b∉fp ->s.heap.get? b=some o ->h'.get? b=some o):Inv X pins σ H {s with heap:=h',toks:=t'}:=by
 have O:∀ b u,H b=some u ->b∉fp:=λ b u e z=>by rw [(U b z).1] at e;cases e
 refine I.step (g':=s.gens) (d':=s.drawn) (ch:=fp) (FpOk.ch U) (λ b o _ _ J e _=>k b o J e) (λ b o _ _ J e _=>⟨o.slots,k b o J e⟩) (λ _ _ _ _ n=>n)
  (λ b o J e=>⟨o,k b o J e⟩) (λ _ _ e=>e) (λ _ _ _ e=>e) (λ b ps e=>⟨#[],by rw [e];simp⟩) (λ m hm=> ?_) (λ b u e=> ?_) I.bare
 ·obtain ⟨o,es,ep,ho,r⟩:=hm;exact ⟨o,es,ep,k _ o (λ z=>(U _ z).2.1 rfl) ho,r⟩
 ·refine (I.hok b u e).stay (λ c v J q=>k c v ?_ q) (λ _ q=>q) λ _ _ q=>q;rcases J with z | z
  ·rw [z];exact O b u e
  ·exact O c _ z
theorem qj7 {fp:List Addr} {t':Nat} {a:Addr} {o:HO} (I:Inv X pins σ H s) (U:∀ b∈fp,FpOk X pins H b) (k:∀ b o,b∉fp ->s.heap.get? b=some o ->h'.get? b=some o) (hp:s.heap.objs.size<=a)
  (new:ObjOk X.prog X.w (upd H a o) h' a o):Inv X pins σ (upd H a o) {s with heap:=h',toks:=t'}:=by
 have hn:H a=none:=I.hok.fresh hp;have O:∀ b u,H b=some u ->b∉fp:=λ b u e z=>by rw [(U b z).1] at e;cases e
 have old:∀ {b u},H b=some u ->upd H a o b=some u:=λ {b u} q=>by rw [qh (q19 q hn)];exact q
 refine I.step (g':=s.gens) (d':=s.drawn) (ch:=fp) (FpOk.ch U) (λ b o _ _ J e _=>k b o J e) (λ b o _ _ J e _=>⟨o.slots,k b o J e⟩)
  (λ b u J e n=>by rw [qh (z3h (z1h (z3g e) hp))];exact n)
  (λ b o J e=>⟨o,k b o J e⟩) (λ b xs e=>old e) (λ b o u e=>old e) (λ b ps e=>⟨#[],by rw [old e];simp⟩) (λ m hm=> ?_) (λ b u e=> ?_) I.bare
 ·obtain ⟨o,es,ep,ho,r⟩:=hm;exact ⟨o,es,ep,k _ o (λ z=>(U _ z).2.1 rfl) ho,r⟩
 ·by_cases hb:b=a
  ·subst hb;rw [q5] at e;cases e
   exact new
  ·rw [qh hb] at e;refine (I.hok b u e).stay (λ c v J q=>k c v ?_ q) (λ c q=>old q) λ c xs q=>old q;rcases J with z | z
   ·rw [z];exact O b u e
   ·exact O c _ z
end
section
variable {prog:Program} {w:World} {A:Around} {E:Value ->Shared ->Prop} {s:Shared}
end
section
variable {X:Cx} {elts:List Expr} {pt:Pos}
end
section
variable {X:Cx}
end
theorem MDef.imp {P:Program} {w:World} {K:PySem.W.Frag} {mg:Str ->Option Value} {base:Heap} {k:Nat} {C:Addr} {m:Str} {ps:List Str} {sp J:Sp} (D:MDef P w K mg base k C m ps sp) (h:∀ vs H Q E,J vs H Q E ->sp vs H Q E):MDef P w K mg base k C m ps J:=by
 obtain ⟨f,fd,F,hm,hb⟩:=D.ex;exact ⟨f,fd,F.imp h,hm,hb⟩
theorem MDef.mono {P:Program} {w:World} {K:PySem.W.Frag} {mg:Str ->Option Value} {base:Heap} {j k:Nat} {C:Addr} {m:Str} {ps:List Str} {sp:Sp} (D:MDef P w K mg base j C m ps sp) (h:j<=k):MDef P w K mg base k C m ps sp:=by
 obtain ⟨f,fd,F,hm,hb⟩:=D.ex;exact ⟨f,fd,F.mono h,hm,hb⟩
def qmw {ι:Type} (cls:ι ->Addr) (m:Str) (sp:ι ->Sp) (ta:TE) (t:TA):TE:=λ σ H Q=>ta σ H λ x H1=>∃ i a dx fs,x= .ref a/\H1 a=some (.ins (cls i) dx fs)/\fs.lookup m=none/\
 t σ H1 λ vs H2=>sp i (x::vs) H2 Q E0
section
variable {X:Cx} {k k':Nat} {ι:Type} {cls:ι ->Addr} {ps:List Str} {sp:ι ->Sp} {x m:Str} {p pos apos:Pos} {e o:Expr} {es:List Expr} {ta:TE} {t:TA}
theorem q38 {pl:Sem Bool} (D:∀ i,MDef X.prog X.w X.K X.mg X.base k (cls i) m ps (sp i)) (c:∀ i,Cls X.K (cls i)) (hr:Room k' X.A) (he:PE X o ta) (ha:PA X (e::es) t) (J:k<=k':=by decide)
  (U:starEach (e::es) X.env=(false,eval e X.env)::starEach es X.env:=by rfl) (O:(backTo pos (starEach es X.env)).any (·.1)=false:=by rfl)
  (ht:eval (.Call (.Attribute o m apos) (e::es) [] pos) X.env=(do
   let ov <- eval o X.env
   standAt apos.atName
   let (f,first) <- holding [ov] (getMethod ov m pl)
   callWith pos f first (backTo pos (starEach (e::es) X.env)) (backToKw pos (keywordEach [] X.env))):=by rfl):
  PE X (.Call (.Attribute o m apos) (e::es) [] pos) (qmw cls m sp ta t):=by
 intro pins s σ H Q I h;refine PySem.W.methodCall_KW (pl:=pl) (thn (he pins s σ H _ I h) λ u s1 Y=> ?_) ht;obtain ⟨x,H1,I1,rx,i,a,dx,fs,ex,ea,l,q⟩:=Y;obtain ⟨f,fd,F,hm,hb⟩:=(D i).ex;subst ex;obtain rfl:u=Value.ref a:=rx;refine q61 I1 ea (c i) hm l ?_;refine PySem.W.callWith_K (first:=[.ref a]) (h₀:=X.base) I.ok.mod.kin hm.kp (thn (ha pos pins s1 σ H1 _ I1 q) λ us s2 ⟨vs,H2,I2,r,q2⟩=>⟨I2.kIn,?_⟩) U O;exact q94 (us:= .ref a::us) (vs:= .ref a::vs) F (hr.mono J) hb .nil q89 I2 (.cons rfl r) (by rw [z2m];exact q2)
theorem q3y {pl:Sem Bool} (D:∀ i,MDef X.prog X.w X.K X.mg X.base k (cls i) m ps (sp i)) (c:∀ i,Cls X.K (cls i)) (hr:Room k' X.A) (he:PE X o ta) (J:k<=k':=by decide)
  (ht:eval (.Call (.Attribute o m apos) [] [] pos) X.env=(do
   let ov <- eval o X.env
   standAt apos.atName
   let (f,first) <- holding [ov] (getMethod ov m pl)
   callWith pos f first (backTo pos (starEach [] X.env)) (backToKw pos (keywordEach [] X.env))):=by rfl):
  PE X (.Call (.Attribute o m apos) [] [] pos) (qmw cls m sp ta tNil):=by
 intro pins s σ H Q I h;refine PySem.W.methodCall_KW (pl:=pl) (thn (he pins s σ H _ I h) λ u s1 O=> ?_) ht;obtain ⟨x,H1,I1,rx,i,a,dx,fs,ex,ea,l,q⟩:=O;obtain ⟨f,fd,F,hm,hb⟩:=(D i).ex;subst ex;obtain rfl:u=Value.ref a:=rx;refine q61 I1 ea (c i) hm l ?_;exact PySem.W.callWith_K0 (first:=[.ref a]) I1.kIn hm.kp (q94 (us:=[.ref a]) (vs:=[.ref a]) F (hr.mono J) hb .nil q89 I1 (.cons rfl .nil) q)
theorem qot {C:Addr} (hg:Gl X x) (hm:X.mg x=some (.ref C)) (hd:(x==("__debug__":Str))=false:=by decide):PE X (.Name x pos) (tC (.ref C)):=qqx hg hm rfl hd
end
section
open PySem.AutoSeq1
end
section
variable {X:Cx}
def repS (x:Str) (n:Int):Str:=if n < 1 then Str.empty else if (n==1 || x.length==0)=true then x else {cps:=List.foldl (λ a b=>a++b) #[] (List.replicate n.toNat x.cps)}
theorem qf6 (a:Array Nat):∀ (k:Nat) (J:Array Nat),(List.foldl (λ a b=>a++b) J (List.replicate k a)).size=J.size+k*a.size
 | 0,J=>by simp
 | k+1,J=>by
  rw [List.replicate_succ,List.foldl_cons,qf6 a k,Array.size_append,Nat.succ_mul]
  lia
theorem qrw:OpR X (binaryOp .Mult) (λ x y H Q=>∃ i n,x= .str i/\y= .int n/\0<=n/\n<=1000/\i.length<=1000/\Q (.str (repS i n)) H):=by
  intro pins s σ H x y v u Q I rx ry h;obtain ⟨i,n,rfl,rfl,h0,h1,hl,q⟩:=h;obtain ⟨t,rfl⟩:=rx;obtain ⟨t',rfl⟩:=ry;have hb:i.length*n.toNat<=1000*1000:=Nat.mul_le_mul hl (by lia);refine P.mul_str (by simp;lia) (λ _ _=> ?_) (λ _ _=> ?_) ?_
  · have:(1000:Int)<=(2^63 - 1) / n:=by
      refine Int.le_ediv_of_mul_le (by lia) ?_
      lia
    lia
  · unfold Builtin.Str.tooLong
    exact z2h (Nat.not_lt.mpr (z3i hb (show 1000*1000<=sizeLine by decide)))
  · unfold repS at q
    split
    · rename_i h
      rw [if_pos h] at q;exact ⟨z3s _,.str _,H,I.tok _,⟨_,zr⟩,q⟩
    · rename_i h
      rw [if_neg h] at q;split
      · rename_i h2
        rw [if_pos h2] at q;exact ⟨.str _,H,I,⟨_,zr⟩,q⟩
      · rename_i h2
        rw [if_neg h2] at q;refine ⟨?_,.str _,H,I.tok _,⟨_,zr⟩,q⟩;show (List.foldl (λ a b=>a++b) #[] (List.replicate n.toNat i.cps)).size<=sizeLine;rw [qf6];have e:i.length=i.cps.size:=rfl;have:1000*1000<=sizeLine:=by decide
        rw [e,Nat.mul_comm] at hb;simp only [z1t,z2p]
        lia
end
section
variable {prog:Program} {w:World} {A:Around} {E:Value ->Shared ->Prop} {s:Shared}
end
section
variable {X:Cx} {elts:List Expr} {pt:Pos}
end
section
variable {X:Cx}
end
end L2
namespace L2
open PySem PySem.Spec PyProof.Rows PySem.W
section
variable {prog:Program} {w:World} {A:Around} {E:Value ->Shared ->Prop} {s:Shared}
theorem q96 {fin:Bool} {r:Bool} {Q:Bool ->Shared ->Prop}:∀ (xs ys:List PyData) (vs ws:List Value) (as bs:List Addr) (i:Nat),ReadsAll s.heap vs xs as ->ReadsAll s.heap ws ys bs ->PyData.canLayAll0 xs=true ->PyData.canLayAll0 ys=true ->
  A.units+min (PyData.depthAll xs) (PyData.depthAll ys) < cLine ->fin=decide (vs.length < ws.length) ->lexD? xs ys=some r ->Q r s ->KatLex prog w A false fin Q (vs.zip ws) i s
 | [],[],_,_,_,_,i,Y,Z,_,_,_,U,e,q=>by
  cases Y
  cases Z
  cases e
  rw [List.zip_nil_left,U];exact q
 | [],_::_,_,_,_,_,i,Y,Z,_,_,_,U,e,q=>by
  cases Y
  cases Z
  cases e
  rw [List.zip_nil_left,U];refine kat_nil ?_;rw [z2w (by simp)];exact q
 | _::_,[],_,_,_,_,i,Y,Z,_,_,_,U,e,q=>by
  cases Y
  cases Z
  cases e
  rw [List.zip_nil_right,U];refine kat_nil ?_;rw [z2h (by simp)];exact q
 | x::xs,y::ys,_,_,_,_,i,Y,Z,ha,hb,hu,U,e,q=>by
  have J:x.canLay0=true/\PyData.canLayAll0 xs=true:=by simpa [PyData.canLayAll0] using ha
  have O:y.canLay0=true/\PyData.canLayAll0 ys=true:=by simpa [PyData.canLayAll0] using hb
  cases Y with
  | cons r1 rs=>
   cases Z with
   | cons a1 a2=>
    have eq:=SeqAt.eqAt_reads x y A s _ _ _ _ r1 a1 J.1 O.1 (SeqAt.room_head hu);rw [z1j];refine kat_cons (eq prog w _ _ ?_);rw [lexD?] at e;cases z:PyData.eqv x y with
    | true=>
     rw [if_pos z] at e;exact kat_yes (q96 xs ys _ _ _ _ (i+1) rs a2 J.2 O.2 (SeqAt.room_tail hu) (by rw [U];simp) e q)
    | false=>
     rw [if_neg (by rw [z];exact z1b)] at e;refine kat_no ?_;rw [z2y];exact kat_one _ _ (qcc x y A s _ _ _ _ r r1 a1 J.1 O.1 (SeqAt.room_head hu) e prog w _ _ q)
end
theorem qho {rk:Value ->Int} {ks vs:List Value} {xs:Array Keyed} (hl:ks.length=vs.length) (hp:xs.Perm (ks.toArray.zip vs.toArray)) (hu:Tim.Up (λ p=>rk p.2) xs 0 vs.length):Tim.Sorted rk vs (xs.map (·.2)).toList:=by
 have Y:xs.toList.Perm (ks.zip vs):=by
  have:=z03.mp hp;rw [ksk_zip] at this
  simpa using this
 have hsz:xs.size=vs.length:=by
  rw [hp.size_eq,Array.size_zip,z1t,z1t]
  lia
 refine ⟨?_,?_⟩
 ·rw [Array.toList_map];have:=Y.map Prod.snd
  rwa [List.map_snd_zip (by lia)] at this
 ·rw [Array.toList_map,z07];intro i j hi hj U;rw [List.getElem_map,List.getElem_map];have O:i < xs.toList.length:=by simpa using hi
  have J:j < xs.toList.length:=by simpa using hj
  have:=hu i j (z3s _) (z3f U) (by rw [z12] at J;lia);rw [Tim.q1z xs i (z0a O),Tim.q1z xs j (z0a J)] at this;exact this
section
variable {X:Cx}
theorem qrx {k:Nat} {f:Addr} {fd:FuncData} {ps:List Str} {sp:Sp} {pins:List (Addr×Obj)} {σ:St} {H:Hp} {s:Shared} {Q:VK} {us:List Value} {vs:List V} (F:FnOk X.prog X.w X.K X.mg X.base CX0 k f fd ps sp) (hr:Room (k+2) X.A) (hb:Binds X.K fd ps [])
  (I:Inv X pins σ H s) (r:Vals vs us) (h:sp vs H Q E0):wpAny (model X.prog X.w) X.A.in1.in1 (call (.ref f) us) (EP X pins σ Q) (λ _ _=>False) s:=by
 have hl:(us++ []).length=ps.length:=by
  rw [z2m,<- r.length];exact F.len _ _ _ _ h
 have J:=hb s us I.kIn hl;rw [z2m] at J;refine wpAny_call (z3k (F.run X.A.in1.in1 X.stack s H ⟨us,[]⟩ us vs Q E0 hr.in1.in1 I.env0.in1.in1 J r h) λ r s' hq=> ?_);cases r with
 | error e=>exact hq.elim
 | ok fl=>
  cases fl with
  | ret u=>exact I.after hq
  | next=>exact False.elim hq
  | brk=>exact False.elim hq
  | cont=>exact False.elim hq
theorem Inv.track {pins:List (Addr×Obj)} {σ:St} {H:Hp} {s:Shared} {a:Addr} {o:HO} (I:Inv X pins σ H s) (O:FpOk X pins H a) (new:ObjOk X.prog X.w (upd H a o) s.heap a o):Inv X pins σ (upd H a o) s:=by
 have hn:H a=none:=O.1;have old:∀ {b u},H b=some u ->upd H a o b=some u:=λ {b u} q=>by rw [qh (q19 q hn)];exact q
 have:=I.step (h':=s.heap) (H':=upd H a o) (t':=s.toks) (g':=s.gens) (d':=s.drawn) (ch:=[a]) (FpOk.ch (λ b hb=>by rw [z1c.mp hb];exact O)) (λ b o _ _ J e _=>e) (λ b o _ _ J e _=>⟨o.slots,e⟩)
  (λ b u J e n=>by rw [qh (λ z=>J (by rw [z];exact z1c.mpr rfl))];exact n)
  (λ b o J e=>⟨o,e⟩) (λ b xs e=>old e) (λ b o u e=>old e) (λ b ps e=>⟨#[],by rw [old e];simp⟩) (λ m hm=>hm) (λ b u e=> ?_) I.bare
 ·exact this
 ·by_cases hb:b=a
  ·subst hb;rw [q5] at e;cases e
   exact new
  ·rw [qh hb] at e;exact (I.hok b u e).stay (λ c v J q=>q) (λ _ q=>old q) λ _ _ q=>old q
section
variable {pins:List (Addr×Obj)} {σ:St} {H:Hp} {s:Shared} {a kS:Addr} {vs ks:List Value} {rk:Value ->Int} {e e1:Nat} {P:PySem.Fin ->Shared ->Prop} {E:Value ->Shared ->Prop} {A:Around}
theorem qhp {st:SortSt} (I:Inv X (pins++ [(a,seqObj "list" #[] e1),(kS,seqObj "list" ks.toArray e)]) σ H s) (fa:FpOk X pins H a) (fk:FpOk X pins H kS) (Y:kS≠a) (hl:ks.length=vs.length) (hz:vs.length<=sizeLine)
  (Z:Tim.Sorted rk vs ((arrOf st).map (·.2)).toList) (U:failedOf st=none)
  (h:∀ s' out c,Tim.Sorted rk vs out.toList ->Inv X pins σ H s' ->s'.heap.get? a=some (seqObj "list" out c) ->P (.done (.ret .none)) s'):wpAny (model X.prog X.w) A (ksk_tail a false e1 (.ref kS) st) P E s:=by
 have na:=(I.pin (a,seqObj "list" #[] e1) (z0r _ (z0r _ (.head _)))).1;have nk:=(I.pin (kS,seqObj "list" ks.toArray e) (z0r _ (z0r _ (.tail _ (.head _))))).1;have hsz:((arrOf st).map (·.2)).size=vs.length:=by rw [<- z12,Z.perm.length_eq]
 have s1:=z14 s.heap kS (Obj.mapSeq λ _=>(#[]:Array Value));have J:(s.heap.update kS (Obj.mapSeq λ _=>(#[]:Array Value))).get? a=some (seqObj "list" #[] e1):=(s1.2 a Y.symm).trans na;have s2:=z14 (s.heap.update kS (Obj.mapSeq λ _=>(#[]:Array Value))) a (Obj.mapSeq λ _=>(arrOf st).map (·.2));obtain ⟨c2,O⟩:∃ c2,((s.heap.update kS (Obj.mapSeq λ _=>(#[]:Array Value))).update a (Obj.mapSeq λ _=>(arrOf st).map (·.2))).get? a=some (seqObj "list" ((arrOf st).map (·.2)) c2):=⟨_,get?_update_seq J λ _=>(arrOf st).map (·.2)⟩;unfold ksk_tail
 try dsimp only
 refine z3v (listUpdate_at nk rfl ?_ (by rw [z1t,hl];exact hz) (z3s _));refine z3v (wpAny_letGo ?_);refine z3v (seqEpoch_at J rfl ?_);refine z3v (listUpdate_at J rfl ?_ (z3s _) (by simp only [z1a,if_false];rw [hsz];exact Nat.le_succ_of_le hz));rw [U];simp only [bne_self_eq_false,z1a,if_false];refine z3u (h _ _ c2 Z (q51 (fp:=[a,kS]) I.unpinned (λ b hb=> ?_) λ b o hb g=> ?_) O)
 ·simp only [z35,z2d,or_false] at hb;rcases hb with rfl | rfl
  ·exact fa
  ·exact fk
 ·simp only [z35,z2d,or_false,not_or] at hb;exact (s2.2 b hb.1).trans ((s1.2 b hb.2).trans g)
theorem qou {f:Addr} {n:Nat} (I:Inv X pins σ H s) (ha:s.heap.get? a=some (seqObj "list" vs.toArray n)) (fa:FpOk X pins H a) (hz:vs.length<=sizeLine)
    (J:Nat ->List Value ->Hp ->Prop) (j0:J 0 [] H)
    (turn:∀ i v ks pins' H' s',vs[i]? =some v ->ks.length=i ->J i ks H' ->Inv X pins' σ H' s' ->wpAny (model X.prog X.w) A (call (.ref f) [v]) (λ u O=>∃ a5,Inv X pins' σ a5 O/\J (i+1) (ks++ [u]) a5) (λ _ _=>False) s')
    (a9:∀ ks pins' H' s',ks.length=vs.length ->J vs.length ks H' ->Inv X pins' σ H' s' ->2<=vs.length ->
      ∃ kd:SortKind,(∀ (E:Value ->Shared ->Prop) (Q:SortKind ->Shared ->Prop),Q kd s' ->wpAny (model X.prog X.w) A (keyKind' ks.toArray) Q E s')/\∀ x∈ks.zip vs,∀ y∈ks.zip vs,Tim.KLt X.prog X.w A s' kd x.1 y.1 (decide (rk x.2 < rk y.2)))
    (h:∀ ks H' s' out c,J vs.length ks H' ->Tim.Sorted rk vs out.toList ->Inv X pins σ H' s' ->FpOk X pins H' a ->s'.heap.get? a=some (seqObj "list" out c) ->P (.done (.ret .none)) s'):
    wpAny (model X.prog X.w) A (ksk_tree a (.ref f) false) P E s:=by
  have b4:a < s.heap.objs.size:=z3g ha;have s1:=z14 s.heap a (Obj.mapSeq λ _=>(#[]:Array Value));obtain ⟨e1,a8⟩:∃ e1,(s.heap.update a (Obj.mapSeq λ _=>(#[]:Array Value))).get? a=some (seqObj "list" #[] e1):=⟨_,get?_update_seq ha λ _=>#[]⟩;have a7:((s.heap.update a (Obj.mapSeq λ _=>(#[]:Array Value))).push (seqObj "tuple" vs.toArray 0)).objs.size=s.heap.objs.size+1:=by rw [size_push',Heap.size_update]
  unfold ksk_tree;refine z3v (listItems_at ha rfl ?_);refine z3v (listUpdate_at ha rfl ?_ (by rw [z1t];exact hz) (z3s _));refine z3v (seqEpoch_at a8 rfl ?_);refine z3v (wpAny_newTuple ?_ (by rw [z18];exact hz));refine z3v (wpAny_newList ?_ (z3s _));refine z36 ?_;have keep:∀ b o,(s.heap.update a (Obj.mapSeq λ _=>(#[]:Array Value))).get? b=some o ->(((s.heap.update a (Obj.mapSeq λ _=>(#[]:Array Value))).push (seqObj "tuple" vs.toArray 0)).push (seqObj "list" #[] 0)).get? b=some o:=λ b o z=>z0j _ (z0j _ z);have I6:Inv X pins σ H {s with heap:=((s.heap.update a (Obj.mapSeq λ _=>(#[]:Array Value))).push (seqObj "tuple" vs.toArray 0)).push (seqObj "list" #[] 0)}:=
    q51 (t':=s.toks) (fp:=[a]) I (λ b hb=>by rw [z1c.mp hb];exact fa) λ b o hb z=>keep b o ((s1.2 b λ w=>hb (by rw [w];exact z1c.mpr rfl)).trans z)
  have b2:(((s.heap.update a (Obj.mapSeq λ _=>(#[]:Array Value))).push (seqObj "tuple" vs.toArray 0)).push (seqObj "list" #[] 0)).get? ((s.heap.update a (Obj.mapSeq λ _=>(#[]:Array Value))).push (seqObj "tuple" vs.toArray 0)).objs.size=some (seqObj "list" #[] 0):=z15 _ rfl;have b5:=keep a _ a8;generalize hk0:((s.heap.update a (Obj.mapSeq λ _=>(#[]:Array Value))).push (seqObj "tuple" vs.toArray 0)).objs.size=kS at b2 a7;have fk:FpOk X pins H kS:=I.fpOk (by lia) (I.hok.fresh (by lia));have a4:kS≠a:=by rw [a7];exact z3j (z20 b4)
  have nc:∀ (xs:Array Value) (m:Nat) (v:Option Value),(seqObj "list" xs m).data≠ .cell v:=λ _ _ _ z=>nomatch z;have I7:Inv X (pins++ [(a,seqObj "list" #[] e1),(kS,seqObj "list" ([]:List Value).toArray 0)]) σ H {s with heap:=((s.heap.update a (Obj.mapSeq λ _=>(#[]:Array Value))).push (seqObj "tuple" vs.toArray 0)).push (seqObj "list" #[] 0)}:=I6.q9v λ p hp=>by
    rcases z2f.mp hp with hp | hp
    · exact I6.pin p (z0r _ hp)
    · simp only [z35,z2d,or_false] at hp
      rcases hp with rfl | rfl
      · exact ⟨b5,fa.1,fa.2.1,fa.2.2.1,nc _ _⟩
      · exact ⟨b2,fk.1,fk.2.1,fk.2.2.1,nc _ _⟩
  unfold ksk_rest;refine z3v (z3t ?_)
  first
    | rw [List.forIn_toArray]
    | (rw [<- Array.forIn_toList];simp only [z18])
    | rw [<- Array.forIn_toList]
  refine z3v (ksk_fold (λ i s'=>∃ H' ks e,Inv X (pins++ [(a,seqObj "list" #[] e1),(kS,seqObj "list" (ks:List Value).toArray e)]) σ H' s'/\J i ks H'/\ks.length=i) vs 0 _ ⟨H,[],0,I7,j0,zr⟩ ?step ?done)
  case step=>
    rintro j x s' hx ⟨H',ks,e,I',hj,lk⟩;simp only [z3e] at hj lk ⊢;have hjl:j < vs.length:=(z06.mp hx).1;refine z3v (z34 (z3w (turn j x ks _ H' s' hx lk hj I') (λ u O he=> ?_) λ _ _ hF=>hF.elim));obtain ⟨H2,I2,j2⟩:=he
    try dsimp only
    have pa:=I2.pin (a,seqObj "list" #[] e1) (z0r _ (z0r _ (.head _)));have Z:=I2.pin (kS,seqObj "list" ks.toArray e) (z0r _ (z0r _ (.tail _ (.head _))));have u1:=z14 O.heap kS (Obj.mapSeq (·.push u));obtain ⟨c2,b3⟩:∃ c2,(O.heap.update kS (Obj.mapSeq (·.push u))).get? kS=some (seqObj "list" (ks.toArray.push u) c2):=⟨_,get?_update_seq Z.1 (·.push u)⟩;refine z3v (listUpdate_at Z.1 rfl ?_ (by rw [z1t];lia) (by rw [Array.size_push,z1t];lia));have I4:Inv X pins σ H2 {O with heap:=O.heap.update kS (Obj.mapSeq (·.push u))}:=q51 (t':=O.toks) (fp:=[kS]) I2.unpinned (λ b hb=>by rw [z1c.mp hb];exact ⟨Z.2.1,fk.2⟩) λ b o hb z=>(u1.2 b λ w=>hb (by rw [w];exact z1c.mpr rfl)).trans z;refine z3u ⟨rfl,H2,ks++ [u],c2,I4.q9v λ p hp=> ?_,j2,by rw [z1e,lk];rfl⟩;rcases z2f.mp hp with hp | hp
    · exact I4.pin p (z0r _ hp)
    · simp only [z35,z2d,or_false] at hp
      rcases hp with rfl | rfl
      · exact ⟨(u1.2 a a4.symm).trans pa.1,pa.2⟩
      · exact ⟨by rw [b3];simp,Z.2.1,Z.2.2.1,Z.2.2.2.1,nc _ _⟩
  case done=>
    rintro s' ⟨H',ks,e,I',hj,lk⟩;simp only [z3e] at hj lk;have pa:=I'.pin (a,seqObj "list" #[] e1) (z0r _ (z0r _ (.head _)));have Z:=I'.pin (kS,seqObj "list" ks.toArray e) (z0r _ (z0r _ (.tail _ (.head _))));have Y:FpOk X pins H' a:=⟨pa.2.1,fa.2⟩;have a6:FpOk X pins H' kS:=⟨Z.2.1,fk.2⟩
    try dsimp only
    refine z3v (listItems_at Z.1 rfl ?_);unfold ksk_end
    try dsimp only
    simp only [z1a,if_false];by_cases h2:vs.toArray.size < 2
    · rw [if_pos h2,if_pos h2]
      refine z3v (z3u ?_);rw [StateT.run_pure];refine z3v (z3u ?_)
      try dsimp only
      refine qhp (st:=SortSt.mk' general' (ks.toArray.zip vs.toArray) #[] 7 none) I' Y a6 a4 lk hz ?_ rfl λ s2 out c so I2 g2=>h ks H' s2 out c hj so I2 Y g2;have es:(((ks.toArray.zip vs.toArray)).map (·.2)).toList=vs:=by
        rw [Array.toList_map,ksk_zip,z18,List.map_snd_zip (by lia)]
      show Tim.Sorted rk vs ((ks.toArray.zip vs.toArray).map (·.2)).toList;rw [es];refine ⟨List.Perm.refl _,?_⟩;rw [z1t] at h2
      match vs,h2 with
      | [],_=>exact .nil
      | [_],_=>exact z0d ..
    · rw [if_neg h2,if_neg h2]
      rw [z1t] at h2;obtain ⟨kd,kk,kl⟩:=a9 ks _ H' s' lk hj I' (by lia);refine z3v (kk _ _ ?_);have b6:(ks.toArray.zip vs.toArray).size=vs.length:=by
        rw [Array.size_zip,z1t,z1t]
        lia
      have hS:∀ p∈(ks.toArray.zip vs.toArray).toList,p∈ks.zip vs:=λ p hp=>by
        rw [ksk_zip,z18] at hp;exact hp
      refine z3v (z3w (Tim.qc2 (S:=λ p=>p∈ks.zip vs) (rk:=λ p=>rk p.2) (n:=vs.length) (st:=SortSt.mk' kd (ks.toArray.zip vs.toArray) #[] 7 none)
        (Q:=λ _ U=>(arrOf U).Perm (ks.toArray.zip vs.toArray)/\failedOf U=none/\Tim.Up (λ p=>rk p.2) (arrOf U) 0 vs.length)
        (Tim.qd8 λ x y hx hy=>kl x hx y hy) ⟨b6,hS,rfl,rfl⟩ (by lia) rfl λ U a1 a2 a3=>⟨a1,a2,a3⟩) ?_ λ _ _ e=>e)
      rintro ⟨⟨⟩,U⟩ s2 ⟨rfl,hp,hf,hu⟩
      try dsimp only
      exact qhp I' Y a6 a4 lk hz (qho lk hp hu) hf λ s3 out c so I3 g3=>h ks H' s3 out c hj so I3 Y g3
end
end
theorem q8f {α β γ:Type} {F:α ->γ ->Prop} {G:β ->γ ->Prop}:∀ {ks:List α} {vs:List β} {l:List γ},Paired F ks l ->Paired G vs l ->∀ x∈ks.zip vs,∃ a∈l,F x.1 a/\G x.2 a
 | _,_,_,.nil,.nil,_,h=>nomatch h
 | _,_,_,.cons a r,.cons b q,x,h=>by
  rw [z1j] at h;rcases z35.mp h with rfl | h
  ·exact ⟨_,z1f ..,a,b⟩
  ·obtain ⟨z,hz,r1⟩:=q8f r q x h;exact ⟨z,z0z _ hz,r1⟩
theorem qf7 {α β:Type} {F:α ->β ->Prop}:∀ {l:List α} {k:List β} {i:Nat} {x:α},Paired F l k ->l[i]? =some x ->∃ y,k[i]? =some y/\F x y
 | _,_,0,x,.cons a b,h=>by
  cases h
  exact ⟨_,zr,a⟩
 | _,_,i+1,x,.cons a b,h=>by
  obtain ⟨d,e,r⟩:=qf7 (i:=i) (x:=x) b (by simpa using h);exact ⟨d,by simpa using e,r⟩
theorem qcf {α β:Type} {F:α ->β ->Prop} {x:α} {y:β}:∀ {xs:List α} {ys:List β},Paired F xs ys ->F x y ->Paired F (xs++ [x]) (ys++ [y])
 | _,_,.nil,h=> .cons h .nil
 | _,_,.cons a b,h=> .cons a (qcf b h)
theorem q97 {α β:Type} {F:α ->β ->Prop}:∀ {l:List α} {k:List β} {x:α},Paired F l k ->x∈l ->∃ y∈k,F x y
 | _,_,x,.cons a b,h=>by
  rcases z35.mp h with rfl | h
  ·exact ⟨_,z1f ..,a⟩
  ·obtain ⟨y,hy,r⟩:=q97 b h;exact ⟨y,z0z _ hy,r⟩
section
variable {X:Cx} {k k':Nat} {x p1:Str} {sp:Sp} {e:Expr} {t:TA} {p pos kpos xp:Pos}
end
end L2
namespace L2
open PySem PySem.Spec PyProof.Rows
section
variable {X:Cx}
def qvf (K:PySem.W.Frag):R2:=λ x y H Q=>∃ d ds,Dat K H d x/\Dat K H (.list ds) y/\PyData.depthAll ds<=60/\Q (.bl (ds.any λ y=>PyData.eqv y d)) H
theorem qry (hu:X.A.units+64 < cLine) (K:PySem.W.Frag) (hK:X.K=K:=by rfl):OpR X (compareOp .In) (qvf K):=by
 subst hK;intro pins s σ H x y v u Q I rx ry h;obtain ⟨d,ds,hd,J,hz,q⟩:=h;obtain ⟨as,ra⟩:=Dat.reads I _ _ _ hd rx;obtain ⟨bs,rb⟩:=Dat.reads I _ _ _ J ry;exact SeqAt.in_list_reads rb ra (Dat.lay _ _ J) (Dat.lay _ _ hd) (by have:min (PyData.depthAll ds) d.depth<=PyData.depthAll ds:=Nat.min_le_left _ _;lia) (q1p I q rfl)
end
section
variable {prog:Program} {w:World} {A:Around} {E:Value ->Shared ->Prop} {s:Shared}
end
theorem qhq:bootBuiltins "enumerate"=some (.type "enumerate"):=by decide+kernel
section
variable {X:Cx} {elts:List Expr} {pt:Pos}
end
def Itnl (K:PySem.W.Frag) (a:Addr):It:=
  ⟨λ i H=>∃ xs x,SqL K H a xs/\xs[i]? =some x,
   λ i H v H'=>∃ p x,v= .ref p/\H p=none/\H'=upd H p (.tup [.int (i:Nat),x])/\∀ xs,SqL K H a xs ->xs[i]? =some x,
   λ i H=>∃ xs,SqL K H a xs/\i=xs.length⟩
theorem ql2 {P:Program} {w:World} {K:PySem.W.Frag} {elts:List Expr} {kk} {pos:Pos} (e it a:Addr) (Y:e≠it) (a5:e≠a) (ha:a≠it):
  Turn P w K (.Tuple elts kk pos) (Itnl K a) [e,it] e (λ i h=>(∃ old,IsEnum h e it (i:Nat) old)/\h.IsListIter it a i) where
 mem:=by simp
 obj:=λ i h st c J=>by
  obtain ⟨⟨old,O⟩,⟨o1,e1,_,d1⟩⟩:=st;simp only [z35,z2d,or_false] at J;rcases J with rfl | rfl
  ·exact ⟨_,O,λ _ q=>by cases q⟩
  ·exact ⟨_,e1,λ _ q=>by rw [d1] at q;cases q⟩
 keep:=λ i h h' st k=>by
  obtain ⟨⟨old,O⟩,h1⟩:=st;exact ⟨⟨old,k e (by simp) _ O⟩,h1.at λ o z=>k it (by simp) o z⟩
 item:=by
  intro X hP hw hK J i pins s σ H E I hf st hg;subst hP hw hK;obtain ⟨xs,x,U,hx⟩:=hg;obtain ⟨its,ra,⟨ol,nl,gl,cl,_,dl⟩,_⟩:=I.list U;have pa:s.heap.IsList a its.toArray:=⟨ol,gl,cl,nl,dl⟩;obtain ⟨u,hu,ru⟩:=ra.get hx;obtain ⟨⟨old,O⟩,h1⟩:=st;have a6:i < its.toArray.size:=by
   have:=(z06.mp hu).1
   simpa using this
  refine wpAny_pyNext_enum_itemD (Draws.list (show X.A.in1.handled=none from I.ok.hd J) it a ha its.toArray) O ⟨h1,pa⟩ a6 Y (by simp only [z35,z2d,or_false,not_or];exact ⟨Y,a5⟩) λ u' h' tk e1 a3 a7 hT hsz hk=> ?_;have a1:u'=u:=by simpa [hu] using e1.symm
  subst a1;refine ⟨_,zr,wpAny_letOwnedTupleGo_enum a3 λ h2 a4 Z=> ?_⟩;have elt:e < s.heap.objs.size:=z3g O;have a2:h2.get? s.heap.objs.size=some {cls:= .type "tuple",data:= .seq #[.int (i:Nat) tk,u']}:=Z.extBut _ _ (z3j elt) hT;have I2:Inv X pins σ (upd H s.heap.objs.size (.tup [.int (i:Nat),x])) {s with heap:=h2,toks:=tk+1}:=by
   refine qj7 (s:=s) (fp:=[e,it]) I hf (λ c o J z=> ?_) (z3p _) ?_
   ·simp only [z35,z2d,or_false,not_or] at J;exact Z.extBut _ _ J.1 (hk c o J.1 J.2 z)
   ·exact ⟨by show 2<=sizeLine;decide,[.int (i:Nat) tk,u'],.cons ⟨tk,rfl⟩ (.cons ru .nil),_,a2,rfl,_,rfl⟩
  refine ⟨.ref s.heap.objs.size,_,I2,zr,⟨_,x,zr,I.fresh,zr,λ xs' q1=> ?_⟩,⟨⟨u',?_⟩,a7.1.extBut Z.extBut (Ne.symm Y)⟩,λ c J=> ?_⟩
  ·rw [I.qha q1 U];exact hx
  ·have:(((i:Nat):Int)+1)=((i+1:Nat):Int):=by lia
   rw [<- this];exact a4
  ·rw [qh]
   ·exact (hf c J).1
   ·simp only [z35,z2d,or_false] at J;obtain ⟨o1,g1,_⟩:=h1;rcases J with rfl | rfl
    ·exact z3h elt
    ·exact z3h (z3g g1)
 done:=by
  intro X hP hw hK J i pins s σ H E I hf st hg;subst hP hw hK;obtain ⟨xs,U,hi⟩:=hg;obtain ⟨its,ra,⟨ol,nl,gl,cl,_,dl⟩,_⟩:=I.list U;have pa:s.heap.IsList a its.toArray:=⟨ol,gl,cl,nl,dl⟩;obtain ⟨⟨old,O⟩,h1⟩:=st;have l1:its.toArray.size=xs.length:=by rw [z1t];exact ra.length.symm
  refine wpAny_pyNext_enum_endD (Draws.list (show X.A.in1.handled=none from I.ok.hd J) it a ha its.toArray) O ⟨by rw [l1,<- hi];exact h1,pa⟩ λ h' hk=>⟨rfl,q51 I hf λ c o J z=> ?_⟩;simp only [z35,z2d,or_false,not_or] at J;exact hk c o J.2 z
 self:=λ _ _ _ _ _ st h=>let ⟨⟨_,O⟩,_⟩:=st;wpAny_pyIter_enum O h
theorem qj8 (l:Addr) (J:Array Value):
  Meets (Builtin.«enumerate.__new__» ⟨[.type "enumerate",.ref l],[]⟩) (λ _ R s=>s.heap.IsList l J/\
   R (.ok (.ret (.ref (s.heap.push {cls:= .type "list_iterator",data:= .fields #[.ref l,.int 0 0]}).objs.size)))
    {s with heap:=(s.heap.push {cls:= .type "list_iterator",data:= .fields #[.ref l,.int 0 0]}).push {cls:= .type "enumerate",data:= .fields #[.none,.bool false,.ref s.heap.objs.size,rawInt 0,.none,.none]}}):=
 .of_wp λ prog w A R s h=>by
  obtain ⟨hp,g,d,tk,os⟩:=s;obtain ⟨hl,h⟩:=h;have U:=sub_enumerate;have O:Heap.IsList (Shared.heap ⟨hp,g,d,tk,os⟩) l J:=hl
  wp_walk using z1v O
  refine wpAny_stack_any λ st=>z3u ?_;split
  ·rename_i c _ _ _ _ _;cases (c==Value.type "enumerate")
   ·wp_walk using z1v O
    exact ⟨_,zr,h⟩
   ·wp_walk using z1v O
    exact ⟨_,zr,h⟩
  ·wp_walk using z1v O
   exact ⟨_,zr,h⟩
section
variable {prog:Program} {w:World} {A:Around} {E:Value ->Shared ->Prop} {s:Shared}
theorem ql3 {l:Addr} {J:Array Value} {Q:Value ->Shared ->Prop} (hl:s.heap.IsList l J)
  (h:∀ h',IsEnum h' (s.heap.objs.size+1) s.heap.objs.size 0 .none ->h'.IsListIter s.heap.objs.size l 0 ->h'.objs.size=s.heap.objs.size+2 ->
   (∀ b o,s.heap.get? b=some o ->h'.get? b=some o) ->Q (.ref (s.heap.objs.size+1)) {s with heap:=h'}):
  wpAny (model prog w) A (call (.type "enumerate") [.ref l]) Q E s:=by
 refine callType_new F.called_enumerate (by decide) (F.typeCall_enumerate_1 _) (F.newCall_enumerate_1 _) (λ obj=>F.args_object_init_2 obj _) F.entry_enumerate_new
  (qj8 l J) ⟨hl,?_⟩
 have hz:(s.heap.push {cls:= .type "list_iterator",data:= .fields #[.ref l,.int 0 0]}).objs.size=s.heap.objs.size+1:=z2z ..;show _/\_;rw [hz];have O:IsEnum ((s.heap.push {cls:= .type "list_iterator",data:= .fields #[.ref l,.int 0 0]}).push
   {cls:= .type "enumerate",data:= .fields #[.none,.bool false,.ref s.heap.objs.size,rawInt 0,.none,.none]}) (s.heap.objs.size+1) s.heap.objs.size 0 .none:=by
  have:=z15 (s.heap.push {cls:= .type "list_iterator",data:= .fields #[.ref l,.int 0 0]})
   (o:={cls:= .type "enumerate",data:= .fields #[.none,.bool false,.ref s.heap.objs.size,rawInt 0,.none,.none]}) rfl
  rw [hz] at this;exact this
 refine ⟨⟨_,O,zr⟩,h _ O ⟨_,z0j _ (z15 _ rfl),zr,zr⟩ (by rw [z2z,hz]) λ b o x=>z0j _ (z0j _ x)⟩
end
section
variable {X:Cx} {elts:List Expr} {pt:Pos}
def qtx (K:PySem.W.Frag) (ta:TA):TI:=λ σ H R=>ta σ H λ vs H1=>∃ a,vs=[.ref a]/\(∃ xs,SqL K H1 a xs)/\R (Itnl K a) H1
theorem qov (K:PySem.W.Frag) {kk} {a:Expr} {ta:TA} {p pos:Pos} (hg:Gl X "enumerate") (hm:X.mg "enumerate"=none) (ha:PA X [a] ta) (hs:starEach [a] X.env=[(false,eval a X.env)]:=by rfl) (hK:X.K=K:=by rfl):
  PI X (.Tuple elts kk pt) (.Call (.Name "enumerate" p) [a] [] pos) (qtx K ta):=by
 subst hK;intro pins s σ H R I h;refine Call_ (q53 I hg hm qhq (z02 (thn (ha pos pins s σ H _ I h) λ us s1 J=> ?_) hs rfl));obtain ⟨vs,H1,I1,r1,q1⟩:=J;obtain ⟨x,e,⟨xs,hx⟩,q⟩:=q1;subst e;cases r1 with
 | cons r rr=>
  cases rr
  cases r
  obtain ⟨its,ra,⟨ol,nl,gl,cl,_,dl⟩,_⟩:=I1.list hx;have Y:s1.heap.IsList x its.toArray:=⟨ol,gl,cl,nl,dl⟩;have la:x < s1.heap.objs.size:=by obtain ⟨_,e,_⟩:=id Y;exact z3g e
  refine ql3 Y λ h' U g1 hsz hk=>wpAny_pyIter_enum U ?_;refine ⟨_,_,_,_,H1,zr,I1.kept (t':=s1.toks) hk,ql2 (s1.heap.objs.size+1) s1.heap.objs.size x (z3j (z27 _)) (z3j (z20 la)) (z3h la),⟨⟨_,U⟩,g1⟩,λ c O=> ?_,q⟩;have le:s1.heap.objs.size<=c:=by
   simp only [z35,z2d,or_false] at O;rcases O with rfl | rfl
   ·exact Nat.le_add_right _ 1
   ·exact z3p _
  exact I1.fpOk le (I1.hok.fresh le)
end
theorem qmx {K:PySem.W.Frag} {a:Addr} {xs:List V} {g:TG} {tb:TS} {D:Ends} {σ:St} {H:Hp} (J:Nat ->St ->Hp ->Prop) (h0:J 0 σ H) (hl:∀ i σ H,i<=xs.length ->J i σ H ->SqL K H a xs)
  (hs:∀ i x p σ H,xs[i]? =some x ->H p=none ->J i σ H ->g (.ref p) σ (upd H p (.tup [.int (i:Nat),x])) λ σ2 H2=>tb {D with nx:=J (i+1),ct:=J (i+1),bk:=D.nx} σ2 H2) (he:∀ σ H,J xs.length σ H ->D.nx σ H):
  ∃ W:Nat ->Nat ->St ->Hp ->Prop,(∃ m,W 0 m σ H)/\∀ i m σ H,W i m σ H ->((Itnl K a).stop i H/\D.nx σ H)\/ ((Itnl K a).go i H/\∃ N:St ->Hp ->Prop,(∀ σ' H',N σ' H' ->∃ O,O < m/\W (i+1) O σ' H')/\∀ x H',(Itnl K a).yld i H x H' ->g x σ H' λ σ2 H2=>tb {D with nx:=N,ct:=N,bk:=D.nx} σ2 H2):=by
 refine qtk xs.length J h0 (λ i σ H hi p=> ?_) (λ σ H p=>⟨⟨xs,hl _ σ H (z3p _) p,zr⟩,he σ H p⟩) λ i σ H hi p x H' y=> ?_
 ·exact ⟨xs,xs[i],hl i σ H (z3f hi) p,z0a hi⟩
 ·obtain ⟨c,x',rfl,hc,rfl,hq⟩:=y;exact hs i x' c σ H (hq xs (hl i σ H (z3f hi) p)) hc p
section
variable {X:Cx} {k k':Nat} {C:Addr} {ps:List Str} {sp:Sp} {x:Str} {p pos:Pos} {e:Expr} {es:List Expr} {t:TA}
theorem qty (D:MDef X.prog X.w X.K X.mg X.base k C "__init__" ps sp) (hk:PySem.W.makesIn X.K C=true) (kp:PySem.W.keepIn X.K (.ref C)=true) (hr:Room k' X.A) (hg:Gl X x) (hm:X.mg x=some (.ref C)) (ha:PA X (e::es) t) (O:k+1<=k':=by decide)
  (J:(x==("__debug__":Str))=false:=by decide) (he:starEach (e::es) X.env=(false,eval e X.env)::starEach es X.env:=by rfl) (U:(backTo pos (starEach es X.env)).any (·.1)=false:=by rfl):PE X (.Call (.Name x p) (e::es) [] pos) (qku C sp [] E0 t):=by
 obtain ⟨f,fd,F,h1,h3⟩:=D.ex;exact qjv ⟨hk,h1.at_,h1.fn,kp⟩ F (hr.mono O) hg hm h3 .nil q89 ha J he U
end
end L2
namespace PySem
section
variable {prog:Program} {w:World} {K:Type} [DecidableEq K] {knd:HeapKind prog w K} {A:Around} {E:Value ->Shared ->Prop} {s:Shared} {d a:Addr} {k:K} {xs:List (K×Addr×Value)}
end
end PySem
namespace L2
open PySem PySem.Spec PyProof.Rows
section
variable {X:Cx} {pins:List (Addr×Obj)} {σ:St} {H:Hp} {s:Shared} {a b:Addr} {kvs:List (List Key×V)} {k:List Key} {z:V} {r:Value} {A:Around} {E:Value ->Shared ->Prop}
end
section
variable {X:Cx} {o e f:Expr} {apos cpos:Pos} {td ty tx:TE}
end
end L2
namespace L2
open PySem PySem.Spec PyProof.Rows PySem.W
section
variable {X:Cx} {tg:Expr}
end
end L2
open PySem PySem.W PyProof.Rows
namespace L2
theorem us0 {p:List Value ->Prop} (h:p []):∀ us:List Value,us.length=0 ->p us:=λ _ e=>(z0f.mp e).symm ▸ h
theorem us1 {p:List Value ->Prop} (h:∀ a:Value,p [a]):∀ us:List Value,us.length=1 ->p us
 | [],e=>absurd e (by decide)
 | a::t,e=>us0 (p:=λ us=>p (a::us)) (h a) t (Nat.succ.inj e)
theorem us2 {p:List Value ->Prop} (h:∀ a b:Value,p [a,b]):∀ us:List Value,us.length=2 ->p us
 | [],e=>absurd e (by decide)
 | a::t,e=>us1 (p:=λ us=>p (a::us)) (h a) t (Nat.succ.inj e)
theorem us3 {p:List Value ->Prop} (h:∀ a b c:Value,p [a,b,c]):∀ us:List Value,us.length=3 ->p us
 | [],e=>absurd e (by decide)
 | a::t,e=>us2 (p:=λ us=>p (a::us)) (h a) t (Nat.succ.inj e)
theorem us4 {p:List Value ->Prop} (h:∀ a b c d:Value,p [a,b,c,d]):∀ us:List Value,us.length=4 ->p us
 | [],e=>absurd e (by decide)
 | a::t,e=>us3 (p:=λ us=>p (a::us)) (h a) t (Nat.succ.inj e)
theorem us5 {p:List Value ->Prop} (h:∀ a b c d e:Value,p [a,b,c,d,e]):∀ us:List Value,us.length=5 ->p us
 | [],e=>absurd e (by decide)
 | a::t,e=>us4 (p:=λ us=>p (a::us)) (h a) t (Nat.succ.inj e)
structure FiK (K:PySem.W.Frag) (x:Str) (st:Stmt):Prop where
 ex:∃ (f:Addr) (oc:Value) (od an:Option Addr) (osl:Array (Option Value)) (kV doc pm cdv ct:Value),PySem.W.nsIn K mainGlobals x=some (some (.ref f))/\
  K.lookup f=some ⟨oc,od,.func (PySem.W.fnOf x x (q1g st) (qw st) (qc st) .none kV doc pm an cdv ct),osl⟩/\PySem.W.codeIn K cdv x=true/\PySem.W.keepIn K (.ref f)=true
theorem fiK {K:PySem.W.Frag} {x:Str} {st:Stmt} {f:Addr} {Y:Value} {Z U:Option Addr} {O:Array (Option Value)} {kV J pm cdv ct:Value} (a:PySem.W.nsIn K mainGlobals x=some (some (.ref f)))
  (l:K.lookup f=some ⟨Y,Z,.func (PySem.W.fnOf x x (q1g st) (qw st) (qc st) .none kV J pm U cdv ct),O⟩) (c:PySem.W.codeIn K cdv x=true) (k:PySem.W.keepIn K (.ref f)=true):FiK K x st:=
 ⟨f,Y,Z,U,O,kV,J,pm,cdv,ct,a,l,c,k⟩
theorem FiK.top {K:PySem.W.Frag} {h:Heap} {mg:Str ->Option Value} {x:Str} {st:Stmt} {ps:List Str} (F:FiK K x st) (X:K.In h) (G:h.Ns mainGlobals mg)
  (b:∀ (kV J U:Value) (O:Option Addr) (cdv ct:Value) (us:List Value),us.length=ps.length ->bindArgs (PySem.W.fnOf x x (q1g st) (qw st) (qc st) .none kV J U O cdv ct) ⟨us,[]⟩=pure (ps.zip us)):Top K mg x st ps:=by
 obtain ⟨f,oc,od,O,osl,kV,J,U,cdv,ct,a,l,c,k⟩:=F.ex;exact qtm X G b a l c k
structure MiK (K:PySem.W.Frag) (x m qual:Str) (st:Stmt):Prop where
 ex:∃ (C f:Addr) (oc:Value) (od an:Option Addr) (osl:Array (Option Value)) (kV doc pm cdv ct:Value),PySem.W.nsIn K mainGlobals x=some (some (.ref C))/\PySem.W.findIn K (.ref C) m=some (some (.ref f))/\PySem.W.isFn K (.ref f)=true/\
  K.lookup f=some ⟨oc,od,.func (PySem.W.fnOf m qual (q1g st) (qw st) (qc st) .none kV doc pm an cdv ct),osl⟩/\PySem.W.codeIn K cdv qual=true/\PySem.W.keepIn K (.ref f)=true
theorem miK {K:PySem.W.Frag} {x m qual:Str} {st:Stmt} {C f:Addr} {Y:Value} {Z U:Option Addr} {O:Array (Option Value)} {kV J pm cdv ct:Value} (n:PySem.W.nsIn K mainGlobals x=some (some (.ref C)))
  (a:PySem.W.findIn K (.ref C) m=some (some (.ref f))) (i:PySem.W.isFn K (.ref f)=true)
  (l:K.lookup f=some ⟨Y,Z,.func (PySem.W.fnOf m qual (q1g st) (qw st) (qc st) .none kV J pm U cdv ct),O⟩) (c:PySem.W.codeIn K cdv qual=true) (k:PySem.W.keepIn K (.ref f)=true):MiK K x m qual st:=
 ⟨C,f,Y,Z,U,O,kV,J,pm,cdv,ct,n,a,i,l,c,k⟩
theorem MiK.top {K:PySem.W.Frag} {h:Heap} {mg:Str ->Option Value} {x m qual:Str} {st:Stmt} {ps:List Str} (F:MiK K x m qual st) (X:K.In h) (G:h.Ns mainGlobals mg)
  (b:∀ (kV J U:Value) (O:Option Addr) (cdv ct:Value) (us:List Value),us.length=ps.length ->bindArgs (PySem.W.fnOf m qual (q1g st) (qw st) (qc st) .none kV J U O cdv ct) ⟨us,[]⟩=pure (ps.zip us)):MTop K (cA mg x) m qual st ps:=by
 obtain ⟨C,f,oc,od,O,osl,kV,J,U,cdv,ct,n,a,i,l,c,k⟩:=F.ex;rw [q43 (z39 X G n)];exact qrt b a i l c k
structure CiK (K:PySem.W.Frag) (x:Str):Prop where
 ex:∃ C:Addr,PySem.W.nsIn K mainGlobals x=some (some (.ref C))/\PySem.W.plainGet K C Str.empty=true/\PySem.W.hasDictIn K C=true/\PySem.W.plainOver K C=true/\
  PySem.W.findIn K (.ref C) "__setattr__"=some (some (.builtin "object.__setattr__"))/\PySem.W.makesIn K C=true/\PySem.W.keepIn K (.ref C)=true
theorem ciK {K:PySem.W.Frag} {x:Str} {C:Addr} (n:PySem.W.nsIn K mainGlobals x=some (some (.ref C))) (pg:PySem.W.plainGet K C Str.empty=true) (hd:PySem.W.hasDictIn K C=true) (po:PySem.W.plainOver K C=true)
  (sa:PySem.W.findIn K (.ref C) "__setattr__"=some (some (.builtin "object.__setattr__"))) (mk:PySem.W.makesIn K C=true) (kc:PySem.W.keepIn K (.ref C)=true):CiK K x:=⟨C,n,pg,hd,po,sa,mk,kc⟩
section
variable {K:PySem.W.Frag} {h:Heap} {mg:Str ->Option Value} {x a:Str} {v:Option (Option Value)}
theorem CiK.g (F:CiK K x) (X:K.In h) (G:h.Ns mainGlobals mg):mg x=some (.ref (cA mg x)):=by
 obtain ⟨C,n,_⟩:=F.ex;rw [q43 (z39 X G n)];exact z39 X G n
theorem CiK.cl (F:CiK K x) (X:K.In h) (G:h.Ns mainGlobals mg):Cls K (cA mg x):=by
 obtain ⟨C,n,pg,hd,po,sa,_⟩:=F.ex;rw [q43 (z39 X G n)];exact ⟨pg,hd,po,sa⟩
theorem CiK.mk' (F:CiK K x) (X:K.In h) (G:h.Ns mainGlobals mg):PySem.W.makesIn K (cA mg x)=true:=by
 obtain ⟨C,n,_,_,_,_,mk,_⟩:=F.ex;rw [q43 (z39 X G n)];exact mk
theorem CiK.kp (F:CiK K x) (X:K.In h) (G:h.Ns mainGlobals mg):PySem.W.keepIn K (.ref (cA mg x))=true:=by
 obtain ⟨C,n,_,_,_,_,_,kc⟩:=F.ex;rw [q43 (z39 X G n)];exact kc
structure AiK (K:PySem.W.Frag) (x a:Str) (v:Option (Option Value)):Prop where
 ex:∃ C:Addr,PySem.W.nsIn K mainGlobals x=some (some (.ref C))/\PySem.W.findIn K (.ref C) a=v
theorem aiK {C:Addr} (n:PySem.W.nsIn K mainGlobals x=some (some (.ref C))) (f:PySem.W.findIn K (.ref C) a=v):AiK K x a v:=⟨C,n,f⟩
theorem AiK.at' (F:AiK K x a v) (X:K.In h) (G:h.Ns mainGlobals mg):PySem.W.findIn K (.ref (cA mg x)) a=v:=by
 obtain ⟨C,n,f⟩:=F.ex;rw [q43 (z39 X G n)];exact f
end
end L2
namespace L2
open PySem PySem.Spec PyProof.Rows PySem.Builtin.Str
section
variable {X:Cx}
variable {v1 v2 v3 e:Expr} {t1 t2 t3 te:TE} {pos:Pos}
theorem qqg (he:PE X e te):PE X (.FormattedValue e (-1) none pos) (λ σ H Q=>te σ H λ x H1=>∃ z,x= .str z/\z.length<=sizeLine/\Q (.str z) H1):=by
 intro pins s σ H Q I h;refine FormattedValue_plain (thn (he pins s σ H _ I h) λ v s1 J=> ?_);obtain ⟨x,H1,I1,r1,z,ez,hz,q⟩:=J;subst ez;obtain ⟨t,rfl⟩:=r1;exact formatField_str (λ t' tk=>⟨.str z,H1,I1.tok _,⟨_,zr⟩,q⟩) hz
theorem qow (h1:PE X v1 t1) (h2:PE X v2 t2) (h3:PE X v3 t3):PE X (.JoinedStr [v1,v2,v3] pos) (λ σ H Q=>t1 σ H λ x H1=>∃ a,x= .str a/\a.length<=100000/\t2 σ H1 λ y H2=>∃ b,y= .str b/\b.length<=100000/\t3 σ H2 λ z H3=>∃ c,z= .str c/\c.length<=100000/\Q (.str (a++b++c)) H3):=by
 intro pins s σ H Q I h;have J:Str.empty.length=0:=rfl;refine JoinedStr_many (joinParts_cons (thn (h1 pins s σ H _ I h) λ v s1 U=> ?_));obtain ⟨x,H1,I1,r1,a,ea,la,q1⟩:=U;subst ea;obtain ⟨t,rfl⟩:=r1;refine ⟨?_,joinParts_cons (thn (h2 pins s1 σ H1 _ I1 q1) λ v s2 ⟨y,H2,I2,r2,b,eb,lb,q2⟩=> ?_)⟩
 ·rw [Str.length_append,J,z3e];exact z3i la (by decide)
 subst eb;obtain ⟨t,rfl⟩:=r2;refine ⟨?_,joinParts_cons (thn (h3 pins s2 σ H2 _ I2 q2) λ v s3 ⟨z,H3,I3,r3,c,ec,lc,q3⟩=> ?_)⟩
 ·rw [Str.length_append,Str.length_append,J,z3e];exact z3i (Nat.add_le_add la lb) (by decide)
 subst ec;obtain ⟨t,rfl⟩:=r3;have O:(Str.empty++a++b++c).length<=sizeLine:=by
  rw [Str.length_append,Str.length_append,Str.length_append,J,z3e];exact z3i (Nat.add_le_add (Nat.add_le_add la lb) lc) (by decide)
 rw [Str.empty_append] at O ⊢;exact ⟨O,joinParts_nil ⟨.str (a++b++c),H3,I3.tok _,⟨_,zr⟩,q3⟩ O⟩
end
end L2
namespace L2
open PySem PySem.Spec PyProof.Rows PySem.Builtin.Str PySem.StrLaws PySem.NumText
end L2
namespace L2
open PySem PySem.Spec PyProof.Rows
def CXE (P:Program) (w:World):CXT:=λ outer H s E e s'=>
 ∃ (ea:Addr) (cls:Value) (t:Addr) (H':Hp) (B:Heap),e= .ref ea/\s'.os=s.os/\AllBare s'.gens/\Un (frs outer) [] H H' s.heap s'.heap/\HOk P w H' s'.heap/\
  Heap.FlyingW B outer ea cls (.ref t) s'.heap/\(∀ b u,H' b=some u ->∃ o,B.get? b=some o)/\(∀ b o,s.heap.get? b=some o ->b∉frs outer ->∃ o',B.get? b=some o')/\E cls none H'
theorem ObjOk.there {P:Program} {w:World} {H:Hp} {h:Heap} {a:Addr} {o:HO} (x:ObjOk P w H h a o):∃ u,h.get? a=some u:=by
 cases o with
 | lst xs=>obtain ⟨_,_,_,_,e⟩:=x;exact ⟨_,e⟩
 | tup xs=>obtain ⟨_,_,_,u,e,_⟩:=x;exact ⟨u,e⟩
 | dK kvs=>obtain ⟨_,_,_,_,o,_,_,e,_⟩:=x;exact ⟨o,e⟩
 | dT kvs=>obtain ⟨_,_,_,_,o,_,_,e,_⟩:=x;exact ⟨o,e⟩
 | set S n=>obtain ⟨o,_,_,_,e,_⟩:=x;exact ⟨o,e⟩
 | ins C dx fs=>obtain ⟨_,_,_,e,_⟩:=x;exact ⟨_,e⟩
 | own y=>obtain ⟨o,e⟩:=x;exact ⟨o,e⟩
 | xd fs=>obtain ⟨_,⟨o,_,_,e,_⟩,_⟩:=x;exact ⟨o,e⟩
 | rng lo hi=>obtain ⟨_,_,_,e⟩:=x;exact ⟨_,e⟩
 | frz ob u=>obtain ⟨e,_⟩:=x;exact ⟨_,e⟩
 | tbl ps=>exact ⟨_,(show h.get? a=some _ from x)⟩
 | met f y=>exact ⟨_,(show h.get? a=some _ from x)⟩
 | ext φ=>obtain ⟨_,⟨o,e⟩,_⟩:=x;exact ⟨o,e⟩
section
variable {X:Cx} {pins:List (Addr×Obj)} {σ:St} {H:Hp} {s:Shared} {E:XK} {B h':Heap} {ea t:Addr} {cls:Value}
theorem qk2 {P:Program} {w:World} {h:Heap} (ok:HOk P w H h) (st:B.StaysIn h) (b1:∀ b u,H b=some u ->∃ o,B.get? b=some o) (k:B.StaysIn h'):HOk P w H h':=λ a u e=>
 (ok a u e).stay (λ b v hb q=>by
  have J:∃ O,H b=some O:=by
   rcases hb with rfl | hb
   ·exact ⟨_,e⟩
   ·exact ⟨_,hb⟩
  obtain ⟨O,eu⟩:=J;obtain ⟨o,U⟩:=b1 b O eu;have z:=st b o U;rw [q] at z;cases z
  exact k b _ U) (λ _ q=>q) λ _ _ q=>q
theorem qmy {l:List Env} {H H':Hp} {h h1 h2:Heap} (un:Un (frs l) [] H H' h h1) (st:B.StaysIn h1) (ff:h1.FunFrames B l) (U:∀ b o,h.get? b=some o ->b∉frs l ->∃ o',B.get? b=some o') (k:B.StaysIn h2) (J:h2.FunFrames B l) (up:h1.UpToSlots h2):
  Un (frs l) [] H H' h h2:=by
 refine ⟨λ b o q n hb hx=> ?_,λ b o q n hb hx=> ?_,un.free,λ b o q _=> ?_,un.tups,un.frzs,un.tbls⟩
 ·have e1:=un.keep b o q n hb hx;obtain ⟨o',e2⟩:=U b o q hb;have e3:=st b o' e2;rw [e1] at e3;cases e3
  exact k b _ e2
 ·obtain ⟨sl,e1⟩:=un.slot b o q n hb hx;obtain ⟨_,Y,e3,nf⟩:=ff.mem hb;rw [e1] at e3;cases e3
  obtain ⟨O,e4⟩:=up b _ e1 nf;exact ⟨O,e4⟩
 ·by_cases hb:b∈frs l
  ·obtain ⟨_,Y,e3,_⟩:=J.mem hb;exact ⟨Y,e3⟩
  ·obtain ⟨o',e2⟩:=U b o q hb;exact ⟨o',k b _ e2⟩
theorem qvg {base h:Heap} {l:List Env} (f:h.FunFrames base l) (st:B.StaysIn h) {h2:Heap} (f2:h2.FunFrames B l):h.FunFrames B l:=by
 induction l with
 | nil=>trivial
 | cons env r ih=>
  obtain ⟨a1,⟨L,o,J,a3,a4⟩,a5⟩:=f;obtain ⟨c1,⟨L',o',c2,c3,c4⟩,c5⟩:=f2;rw [J] at c2;cases c2
  exact ⟨a1,⟨L,o,J,c3,a4⟩,ih a5 c5⟩
theorem qf8 (I:Inv X pins σ H s) (J:X.ex=[]) (st:B.StaysIn s.heap) (b1:∀ b u,H b=some u ->∃ o,B.get? b=some o) (O:∀ b o,X.s₀.heap.get? b=some o ->b∉frs X.outer ->∃ o',B.get? b=some o')
  (fl:Heap.FlyingW B X.outer ea cls (.ref t) h') (up:s.heap.UpToSlots h') (he:E cls none H):CXE X.prog X.w X.outer X.H₀ X.s₀ E (.ref ea) {s with heap:=h'}:=by
 have U:=I.base;rw [J] at U;exact ⟨ea,cls,t,H,B,zr,I.os,I.bare,qmy U st (qvg I.funs st fl.2.2.1) O fl.1 fl.2.2.1 up,qk2 I.hok st b1 fl.1,fl,b1,O,he⟩
structure Leav (X:Cx) (E:XK):Prop where
 ex:X.ex=[]
 st:X.stack=X.env::X.outer
 fr:X.env.frame=some X.env.locals
 xe:X.xe=λ e s'=>wpAny (model X.prog X.w) X.A (leaving X.env e) (λ _ s''=>CXE X.prog X.w X.outer X.H₀ X.s₀ E e s'') (λ e' s''=>CXE X.prog X.w X.outer X.H₀ X.s₀ E e' s'') s'
theorem q7t {P:Program} {w:World} {K:PySem.W.Frag} {mg:Str ->Option Value} {base:Heap} {N:List Str} {qual:Str} {scope:Scope} {f:Addr} {cd:Value} {A:Around} {outer:List Env} {s:Shared} {H:Hp}:
  Leav (cxOf (CXE P w) P w K mg base N qual scope f cd A outer s H E) E:=⟨rfl,rfl,rfl,rfl⟩
theorem Inv.old (I:Inv X pins σ H s) (st:X.stack=X.env::X.outer) (fr:X.env.frame=some X.env.locals) {b:Addr} {o:Obj} (q:X.s₀.heap.get? b=some o) (hb:b∉frs X.outer):b∉frs X.stack:=λ z=>by
 rcases z35.mp (I.stkSub b z) with e | e
 ·exact absurd (z1h (z3g q) I.ok.above) (by rw [e];exact z37 _)
 ·exact hb e
theorem q98 (L:Leav X E):q2x (CXE X.prog X.w) X E:=by
 intro pins σ H s e s' I h;obtain ⟨ea,cls,t,H',B,rfl,os,bare,un,hok,fl,b1,b2,he⟩:=h;have I':Inv X pins σ H' s':=I.call' (ch:=[]) os un hok bare (λ b z=>nomatch z);rw [L.xe];have J:=fl;rw [L.st] at J;refine wpAny_leaves_onW (by rw [<- L.st];exact I.ok.frames) L.fr J λ h' x1 x2=> ?_;refine qf8 I' L.ex fl.1 b1 (λ b o q hb=> ?_) x1 x2 he;obtain ⟨o',q'⟩:=I.base.there b o q (by rw [L.ex];simp);exact b2 b o' q' (I.old L.st L.fr q hb)
theorem ql4 (L:Leav X E) (I:Inv X pins σ H s) {h1:Heap} {args:List Value} (hx:Heap.MadeExcOf s.heap h1 ea cls args) (J:E cls none H):X.xe (.ref ea) {s with heap:=h1}:=by
 rw [L.xe];have O:∀ env∈X.env::X.outer,∀ b,env.frame=some b ->b∈frs X.stack:=λ env J b hb=>by rw [L.st];exact List.mem_filterMap.mpr ⟨env,J,hb⟩
 have fs:=I.stack;rw [L.st] at fs;refine wpAny_leaves_madeW (base:=PySem.W.hideAll s.heap (frs X.stack)) (h:=s.heap) (by rw [<- L.st];exact I.ok.frames) L.fr (λ b o q=>PySem.W.of_hideAll _ q) (PySem.W.funFrames_hide fs O) hx λ h' t x1 _ _ x4=> ?_;have up:s.heap.UpToSlots h':=(Heap.UpToSlots.of_keeps hx.keeps).trans x4;show CXE X.prog X.w X.outer X.H₀ X.s₀ E (.ref ea) {s with heap:=h'};refine qf8 (s:=s) I L.ex (λ b o q=>PySem.W.of_hideAll _ q) (λ b u q=> ?_) (λ b o q hb=> ?_) x1 up J
 ·obtain ⟨o,e⟩:∃ o,s.heap.get? b=some o:=(I.hok b u q).there;exact ⟨o,PySem.W.hideAll_get _ e λ z=>by rw [I.stkFree b z] at q;cases q⟩
 ·obtain ⟨o',q'⟩:=I.base.there b o q (by rw [L.ex];simp);exact ⟨o',PySem.W.hideAll_get _ q' (I.old L.st L.fr q hb)⟩
end
abbrev qqh:List Value:=[.type "ValueError",.type "Exception",.type "BaseException",.type "object"]
theorem qrz {K:PySem.W.Frag} {h:Heap} {C:Addr} {U:List Value} {J:String} (X:K.In h) (q:PySem.W.excIn K C U J=true):
  ∃ bm N nm qn bs hd sn sub ab col dd k0 k1 k2 k3 k5 mN,h.get? C=some (excClassObj nm qn C N bs bm hd sn sub ab col dd k0 k1 k2 k3 k5 J)/\h.Ns N mN/\mN "__init__"=none/\OwnTail h U bm:=by
 unfold PySem.W.excIn at q;split at q
 ·rename_i dd cd sl ho;split at q
  ·rename_i C' bm k0 k1 k2 k3 n k5 hm hs;simp only [z28,beq_iff_eq,Bool.not_eq_true'] at q;obtain ⟨⟨⟨⟨⟨rfl,rfl⟩,O⟩,ht⟩,hok⟩,Y⟩:=q;obtain ⟨nm,bs,mro,ns,qn,hd,sn,sub,ab,col,del⟩:=cd
   dsimp only at hm O hok Y
   subst hm O;have Z:sl=#[k0,k1,k2,k3,some (.builtin n),k5]:=by
    obtain ⟨l⟩:=sl;simp only at hs;rw [hs]
   subst Z;exact ⟨bm,ns,nm,qn,bs,hd,sn,sub,ab,col,dd,k0,k1,k2,k3,k5,_,X _ _ ho,.of_isNs (PySem.W.isNs_of_in X hok),PySem.W.nsMap_none_of_in X hok Y,PySem.W.tail_of_in X ht⟩
  ·cases q
 ·cases q
def qtz (C:Addr) (E:XK) (t:TA):TS:=λ _ σ H=>t σ H λ vs H1=>vs.length<=sizeLine/\E (.ref C) none H1
section
variable {X:Cx} {E:XK} {C:Addr} {x:Str} {np cpos pos:Pos} {e:Expr} {es:List Expr} {t:TA}
theorem qhr (L:Leav X E) (hq:PySem.W.excIn X.K C qqh "ValueError.__new__"=true) (hm:X.mg x=some (.ref C)) (ha:PA X (e::es) t) (hg:Gl X x:=by rfl) (hc:X.calm=true:=by rfl)
  (U:starEach (e::es) X.env=(false,eval e X.env)::starEach es X.env:=by rfl) (O:(backTo cpos (starEach es X.env)).any (·.1)=false:=by rfl) (hd:(x==("__debug__":Str))=false:=by decide):
  PS X (.Raise (some (.Call (.Name x np) (e::es) [] cpos)) none pos) (qtz C E t):=by
 intro pins s σ H D I h;obtain ⟨bm,N,nm,q,bs,hdct,sn,sub,ab,col,dd,k0,k1,k2,k3,k5,mN,hC,hN,J,T⟩:=qrz I.mod.kin hq;refine wpAny_Raise_call_subT (C:=C) (nm:=nm) (q:=q) (N:=N) (bs:=bs) (bm:=bm) (hdct:=hdct) (sn:=sn) (sub:=sub) (ab:=ab) (col:=col) (dd:=dd) (k0:=k0) (k1:=k1) (k2:=k2) (k3:=k3) (k5:=k5)
  F.excBase_ValueError (mN:=mN) (T.hasType F.excBase_ValueError.hasBase) (I.ok.hd hc) (by rw [U];show (false || (backTo cpos (starEach es X.env)).any (·.1))=false;rw [O];rfl) J (q67 I hg hm ⟨rfl,?_⟩ hd)
 have a:=ha cpos pins s σ H _ I h;rw [U] at a ⊢;refine Calls.evalArgs_plain (thn a λ us s2 ⟨vs,H2,I2,r,z,q⟩=>⟨rfl,by rw [<- r.length];exact z,I2.bk _ _ hC,hN.keeps I2.bk,T.keeps I2.bk,λ h' ea hx=> ?_⟩);exact ql4 L I2 hx q
end
abbrev Cx.tried (X:Cx) (pins:List (Addr×Obj)) (xe:Value ->Shared ->Prop):Cx:={X with pn:=X.pn++pins,xe:=xe}
abbrev Cx.hand (X:Cx) (ea:Addr) (oe:Obj):Cx:={X with A:=X.A.mark (some (.ref ea)),calm:=false,pn:=(ea,oe)::X.pn,xe:=λ _ _=>False}
section
variable {X:Cx} {pins pins':List (Addr×Obj)} {σ:St} {H:Hp} {s:Shared} {xe:Value ->Shared ->Prop} {ea:Addr} {oe:Obj}
theorem Inv.tried (I:Inv X pins σ H s):Inv (X.tried pins xe) [] σ H s:=
 ⟨⟨I.ok.mod,I.ok.kind,I.ok.glob,I.ok.blt,I.ok.above,I.ok.inj,I.ok.has,I.ok.cab,I.ok.hd,I.ok.frames,I.ok.stk,I.ok.exf,I.ok.bs,I.ok.bsz,I.ok.noex,I.ok.exfs,I.ok.funs,I.ok.frf⟩,I.os,I.bare,I.base,I.loc,I.cell,I.free,I.freeC,
  λ p hp=>I.pin p (by rw [z2m] at hp;exact hp),I.hok,I.len⟩
theorem Inv.untried (I:Inv (X.tried pins xe) pins' σ H s) (ok:X.Ok):Inv X pins σ H s:=
 ⟨ok,I.os,I.bare,I.base,I.loc,I.cell,I.free,I.freeC,λ p hp=>I.pin p (z10 _ hp),I.hok,I.len⟩
theorem Inv.hand (I:Inv X pins σ H s) (h:s.heap.get? ea=some oe/\H ea=none/\ea≠X.env.locals/\ea∉X.fs/\∀ v,oe.data≠ .cell v):Inv (X.hand ea oe) pins σ H s:=
 ⟨⟨I.ok.mod,I.ok.kind,I.ok.glob,I.ok.blt,I.ok.above,I.ok.inj,I.ok.has,I.ok.cab,(λ z=>by cases z),I.ok.frames,I.ok.stk,I.ok.exf,I.ok.bs,I.ok.bsz,I.ok.noex,I.ok.exfs,I.ok.funs,I.ok.frf⟩,I.os,I.bare,I.base,I.loc,I.cell,I.free,I.freeC,
  λ p hp=>by
   rcases z35.mp hp with rfl | z
   ·exact h
   ·exact I.pin p z,I.hok,I.len⟩
theorem Inv.unhand (I:Inv (X.hand ea oe) pins σ H s) (ok:X.Ok):Inv X pins σ H s:=
 ⟨ok,I.os,I.bare,I.base,I.loc,I.cell,I.free,I.freeC,λ p hp=>I.pin p (z0z _ hp),I.hok,I.len⟩
theorem SP.unhand {D:Ends} {f:Flow} (ok:X.Ok) (h:SP (X.hand ea oe) pins D f s):SP X pins D f s:=by
 cases f with
 | next=>obtain ⟨σ',H',I,q⟩:=h;exact ⟨σ',H',I.unhand ok,q⟩
 | brk=>obtain ⟨σ',H',I,q⟩:=h;exact ⟨σ',H',I.unhand ok,q⟩
 | cont=>obtain ⟨σ',H',I,q⟩:=h;exact ⟨σ',H',I.unhand ok,q⟩
 | ret u=>obtain ⟨v,σ',H',I,r,q⟩:=h;exact ⟨v,σ',H',I.unhand ok,r,q⟩
theorem SP.untried {D:Ends} {f:Flow} (ok:X.Ok) (h:SP (X.tried pins xe) pins' D f s):SP X pins D f s:=by
 cases f with
 | next=>obtain ⟨σ',H',I,q⟩:=h;exact ⟨σ',H',I.untried ok,q⟩
 | brk=>obtain ⟨σ',H',I,q⟩:=h;exact ⟨σ',H',I.untried ok,q⟩
 | cont=>obtain ⟨σ',H',I,q⟩:=h;exact ⟨σ',H',I.untried ok,q⟩
 | ret u=>obtain ⟨v,σ',H',I,r,q⟩:=h;exact ⟨v,σ',H',I.untried ok,r,q⟩
theorem q73 {M:Model} {A:Around} {E:Value ->Shared ->Prop} {i:Nat} {n:Str} {pos:Pos} {Q:Unit ->Shared ->Prop} (I:Inv X pins σ H s) (hN:X.N.Nodup) (hi:X.N[i]? =some n) (hl:X.env.kindOf n=some .local)
  (h:∀ s',Inv X pins (σ.set i none) H s' ->Q () s'):wpAny M A (do bindName X.env n .none;unbindBehindTheSuite X.env n pos) Q E s:=by
 obtain ⟨m,hn,a1⟩:=id I.loc;have U:(X.env.scope.kind== .class || (X.env.scope.kind== .module&&X.env.locals !=X.env.globals))=false:=by rw [I.ok.kind];rfl
 have Z:i < σ.length:=by rw [I.len];exact (z06.mp hi).1
 have cne:=I.cne;obtain ⟨oL,_,_,hoL,_⟩:=id hn;refine wpAny_nameGoes_keeps hl hn U λ h' v a2 J=> ?_;have O:∀ b o,X.s₀.heap.get? b=some o ->b≠X.env.locals:=λ b o e=>z3h (z1h (z3g e) I.ok.above);refine h _ ⟨I.ok,I.os,I.bare,⟨λ b o e n hb hx=>(J.2 b (O b o e)).trans (I.base.keep b o e n hb hx),λ b o e n hb hx=> ?_,I.base.free,λ b o e hx=> ?_,I.base.tups,I.base.frzs,I.base.tbls⟩,⟨_,a2,λ j y v' e1 e2 e3=> ?_⟩,λ y c e=> ?_,I.free,I.freeC,λ p hp=> ?_,λ b ob e=> ?_,by simpa using I.len⟩
 ·obtain ⟨sl,e1⟩:=I.base.slot b o e n hb hx;exact ⟨sl,(J.2 b (O b o e)).trans e1⟩
 ·obtain ⟨o',e1⟩:=I.base.there b o e hx;exact ⟨o',(J.2 b (O b o e)).trans e1⟩
 ·by_cases hj:j=i
  ·subst hj;rw [List.getElem?_set_self Z] at e2;cases e2
  ·rw [List.getElem?_set_ne (Ne.symm hj)] at e2;obtain ⟨u',r',q⟩:=a1 j y v' e1 e2 e3;refine ⟨u',r',?_⟩;rcases q with ⟨k,e⟩ | ⟨k,c,e,z⟩
   ·refine .inl ⟨k,?_⟩;have:y≠n:=λ e=>hj (qb3 hN e1 (e ▸ hi));simp [this,e]
   ·exact .inr ⟨k,c,e,z.sameBut J (cne y c e)⟩
 ·obtain ⟨w',z⟩:=I.cell y c e;exact ⟨w',z.sameBut J (cne y c e)⟩
 ·obtain ⟨e,n,ne,nf,d⟩:=I.pin p hp;exact ⟨(J.2 p.1 ne).trans e,n,ne,nf,d⟩
 ·refine (I.hok b ob e).stay (λ c w' Y q=>(J.2 c ?_).trans q) (λ _ q=>q) λ _ _ q=>q;rintro rfl;rcases Y with z | Y
  ·rw [<- z,I.free] at e;cases e
  ·rw [I.free] at Y;cases Y
end
def wTry (K:PySem.W.Frag) (W:Addr) (n:Nat) (th:Addr ->Obj ->St ->Hp ->Prop):XK:=λ cls _ H'=>PySem.W.exmOne K cls (.ref W)=some true/\∀ ea oe σ',oe.cls=cls ->H' ea=none ->σ'.length=n ->th ea oe σ' H'
def Ends.less (D:Ends) (i:Nat):Ends:={nx:=λ σ H=>D.nx (σ.set i none) H,rt:=D.rt,bk:=λ σ H=>D.bk (σ.set i none) H,ct:=λ σ H=>D.ct (σ.set i none) H}
def qu0 (K:PySem.W.Frag) (W:Addr) (n i:Nat) (tb:XK ->TS) (th:Addr ->Obj ->TS):TS:=λ D σ H=>tb (wTry K W n λ ea oe σ'=>th ea oe (D.less i) (σ'.set i (some (.ref ea)))) D σ H
section
variable {X:Cx} {W:Addr} {x n:Str} {np hpos pos:Pos} {b₀:Stmt} {body suite:List Stmt} {tb:XK ->TS} {th:Addr ->Obj ->TS} {i:Nat}
theorem qox {pins:List (Addr×Obj)} {Q:Flow ->Shared ->Prop} {th:Addr ->Obj ->St ->Hp ->Prop} {hd:ExceptHandler} (ok:X.Ok) (a1:X.stack=X.env::X.outer) (a7:X.env.frame=some X.env.locals)
  (go:∀ (ea:Addr) (cls:Value) (t:Addr) (B:Heap) (σ:St) (H:Hp) (s:Shared),PySem.W.exmOne X.K cls (.ref W)=some true ->(∃ oe,oe.cls=cls/\s.heap.get? ea=some oe/\Inv (X.hand ea oe) pins σ H s) ->(∀ oe,oe.cls=cls ->th ea oe σ H) ->Heap.FlyingW B (X.env::X.outer) ea cls (.ref t) s.heap ->
   (∀ h2,Heap.FlyingW B (X.env::X.outer) ea cls (.ref t) h2 ->s.heap.UpToSlots h2 ->∃ oe,oe.cls=cls/\Inv (X.hand ea oe) pins σ H {s with heap:=h2}) ->
   wpAny (model X.prog X.w) X.A (handleBy (.ref ea) X.env [hd]) Q X.xe s):
  q2x (CXE X.prog X.w) (X.tried pins λ e s'=>wpAny (model X.prog X.w) X.A (noteFrame e X.env) (λ _ s₂=>wpAny (model X.prog X.w) X.A (setFlight e none) (λ _ s₃=>wpAny (model X.prog X.w) X.A (handleBy e X.env [hd]) Q X.xe s₃) X.xe s₂) X.xe s') (wTry X.K W X.N.length th):=by
 intro pins' σ' H1 s1 e s' I1 hx;obtain ⟨ea,cls,t,H',B,rfl,os,bare,un,hok,fl,b1,b2,hE,hw⟩:=hx;have a6:Heap.FlyingW B (X.env::X.outer) ea cls (.ref t) s'.heap:=by rw [<- a1];exact fl
 have hn:H' ea=none:=by
  cases q:H' ea with
  | none=>rfl
  | some u=>
   obtain ⟨o,e⟩:=b1 ea u q;rw [fl.2.1] at e;cases e
 have back:∀ h2,Heap.FlyingW B (X.env::X.outer) ea cls (.ref t) h2 ->s'.heap.UpToSlots h2 ->∃ oe,oe.cls=cls/\h2.get? ea=some oe/\Inv (X.hand ea oe) pins σ' H' {s' with heap:=h2}:=λ h2 f2 up=>by
  have f3:Heap.FlyingW B X.stack ea cls (.ref t) h2:=by rw [a1];exact f2
  have J:Inv X pins σ' H' {s' with heap:=h2}:=(I1.call' (s':={s' with heap:=h2}) (ch:=[]) os (qmy un fl.1 fl.2.2.1 b2 f3.1 f3.2.2.1 up) (qk2 hok fl.1 b1 f3.1) bare (λ b z=>nomatch z)).untried ok;obtain ⟨oe,ws,Y,a3,U,_⟩:=f2.first;refine ⟨oe,a3,Y,J.hand ⟨Y,hn,λ z=> ?_,λ z=> ?_,λ v z=>by rw [U] at z;cases z⟩⟩
  ·obtain ⟨m,⟨o,es,ep,ho,hd,_⟩,_⟩:=J.loc;rw [<- z] at ho;have O:h2.get? ea=some o:=ho;rw [Y] at O;cases O
   rw [U] at hd;cases hd
  ·obtain ⟨_,o,ho,nf⟩:=J.funs.mem z;have O:h2.get? ea=some o:=ho;rw [Y] at O;cases O
   exact nf ws U
 show wpAny (model X.prog X.w) X.A (noteFrame (.ref ea) X.env) _ _ _;refine wpAny_looks_onW (by rw [<- a1];exact ok.frames) a7 a6 λ h4 Z a4=> ?_;refine wpAny_landsW Z λ h5 a2 a5=> ?_;have J:=back h5 a2 (a4.trans a5);refine go ea cls t B σ' H' {s' with heap:=h5} hE J (λ oe hc=>hw ea oe σ' hc hn ?_) a2 λ h2 f2 up=> ?_
 ·obtain ⟨oe,_,_,J⟩:=J;exact J.len
 ·obtain ⟨oe,h1,_,J⟩:=back h2 f2 ((a4.trans a5).trans up);exact ⟨oe,h1,J⟩
theorem qhs {M:Model} {h:Heap} {oe:Obj} {ea:Addr} (e:h.get? ea=some oe):PySem.W.Looks M h (typeOf (.ref ea)) oe.cls:=(PySem.W.Looks.ld e).andThen .now
theorem qoy (hm:X.mg x=some (.ref W)) (hb:∀ pins xe E,q2x (CXE X.prog X.w) (X.tried pins xe) E ->PSs (X.tried pins xe) body (tb E)) (hs:∀ ea oe,PSs (X.hand ea oe) (b₀::suite) (th ea oe))
  (hi:X.N[i]? =some n) (hl:X.env.kindOf n=some .local) (hN:X.N.Nodup)
  (hg:Gl X x:=by rfl) (a4:X.stack=X.env::X.outer:=by rfl) (a3:X.env.frame=some X.env.locals:=by rfl) (hd:(x==("__debug__":Str))=false:=by decide):
  PS X (.Try body [.ExceptHandler (some (.Name x np)) (some n) (b₀::suite) hpos] [] [] pos) (qu0 X.K W X.N.length i tb th):=by
 intro pins s σ H D I h;refine wpAny_Try_except ?_;refine z3w (hb pins _ _ (qox (X:=X) (W:=W) (Q:=SP X pins D) (th:=λ ea oe σ'=>th ea oe (D.less i) (σ'.set i (some (.ref ea)))) (hd:= .ExceptHandler (some (.Name x np)) (some n) (b₀::suite) hpos) I.ok a4 a3 ?_) [] s σ H D I.tried h) (λ f s1 hf=> ?_) (λ e s1 z=>z)
 ·intro ea cls t B σ' H' s' hE J hw fl back;obtain ⟨oe,hc,ho,J⟩:=J;refine wpAny_handleBy_cons (codeAny_handlers_test ?_) (by intro q;cases q);refine q67 (X:=X.hand ea oe) J hg hm ?_ hd;refine (PySem.W.exm_one (M:=model X.prog X.w) J.kIn (hc ▸ qhs ho) hE).here ?_;show codeAny _ _ _ _ _;refine codeAny_handlers_suite_as ?_;refine lands_againW fl λ h6 a1 a5=> ?_;obtain ⟨Z,a2,J6⟩:=back h6 a1 a5;refine qb4 (X:=X.hand ea Z) J6 hN hi (.inl hl) (show RelV (.ref ea) (.ref ea) from rfl) (λ s7 J7=> ?_) (.inr hl);refine z3w (hs ea Z pins _ _ H' (D.less i) J7 (hw Z a2)) (λ f s2 hf=> ?_) (λ _ _ z=>z.elim);have O:=hf.unhand I.ok;cases f with
  | next=>obtain ⟨σ2,H2,U,q⟩:=O;exact q73 U hN hi hl λ s3 Y=>⟨_,H2,Y,q⟩
  | brk=>obtain ⟨σ2,H2,U,q⟩:=O;exact q73 U hN hi hl λ s3 Y=>⟨_,H2,Y,q⟩
  | cont=>obtain ⟨σ2,H2,U,q⟩:=O;exact q73 U hN hi hl λ s3 Y=>⟨_,H2,Y,q⟩
  | ret u=>obtain ⟨v,σ2,H2,U,r,q⟩:=O;exact q73 U hN hi hl λ s3 Y=>⟨v,_,H2,Y,r,q⟩
 ·have O:=hf.untried I.ok;cases f with
  | next=>exact wpAny_execs_nil O
  | brk=>exact O
  | cont=>exact O
  | ret u=>exact O
end
end L2
namespace L2
open PySem PySem.Spec PyProof.Rows PySem.W Builtin Builtin.ObjectAttr Builtin.Getset_descriptor
structure ExcI (K:PySem.W.Frag) (C:Addr):Prop where
 hga:findIn K (.ref C) "__getattribute__"=some (some (.builtin "BaseException.__getattribute__"))
 hgx:findIn K (.ref C) "__getattr__"=some none
 ha:findIn K (.ref C) "__class__"=some (some (.builtin "object.__class__"))
 hm:mroIn K C (.type "object")=some true
 hb:subIn K (.ref C) (.type "BaseException")=some true
section
variable {prog:Program} {w:World} {A:Around} {E:Value ->Shared ->Prop} {K:PySem.W.Frag} {h:Heap} {g:Array GenState} {d:Drawn} {t:Nat} {os:OsState} {a C:Addr} {o:Obj}
theorem q99 (F:ExcI K C):(clsIn K C).isSome=true:=by
 have hm:=F.hm;unfold mroIn at hm;cases e:clsIn K C with
 | none=>rw [e] at hm;cases hm
 | some _=>rfl
theorem qs0 {R:Result ->Shared ->Prop} {tp:Value} (X:K.In h) (hx:h.get? a=some o) (hc:o.cls= .ref C) (hm:mroIn K C (.type "object")=some true) (hq:R (.ok (.ret (.ref C))) ⟨h,g,d,t,os⟩):
  codeAny (model prog w) A (.call (.builtin "getset_descriptor.__get__") ⟨[.builtin "object.__class__",.ref a,tp],[]⟩) R ⟨h,g,d,t,os⟩:=by
 have L0:Looks (model prog w) h (typeOf (.ref a)) (.ref C):=hc ▸ qhs hx;have L1:=looks_mroIn (M:=model prog w) X hm;refine codeAny_call_builtin KF.slot_gs.plain KF.entry_gs (KF.slot_gs.check _ _ _ _ _ _ _ _ KF.type_class (KF.args_gs _ _ _) ?_);unfold Builtin.«getset_descriptor.__get__» descrGet;rw [dga_obj];refine z3v (z3u ?_);unfold descrGetter descrCheckInstance descrNameAndClass isInstance;simp only [KF.owner_class]
 repeat lk
 refine ⟨Code.quiet_builtin _ (by decide+kernel),z2t KF.entry_class ?_⟩;unfold Builtin.«object.__class__» shownTypeOf
 repeat lk
 exact hq
theorem qmz {tk:Tok} {Q:Fin ->Shared ->Prop} (X:K.In h) (F:ExcI K C) (hx:h.get? a=some o) (J:o.cls= .ref C) (hq:Q (.done (.ret (.ref C))) ⟨h,g,d,t,os⟩):
  wpAny (model prog w) A (Builtin.«object.__getattribute__» ⟨[.ref a,.str "__class__" tk],[]⟩) Q E ⟨h,g,d,t,os⟩:=by
 have hT5:(⟨h,g,d,t,os⟩:Shared).TypeIs (.builtin "object.__class__") "getset_descriptor":=PySem.F.typeOf_object_class;have f5:=PySem.F.typeOf_object_class;have f6:=PySem.F.slot_gs_get.lookup;have f7:=PySem.F.slot_gs_set.lookup;have L1:=looks_findIn (M:=model prog w) X F.ha
 repeat (any_goals (first | assumption | (with_reducible refine wpAny_loadPart_at hx ?_;rw [J]) | with_reducible refine L1.at ?_ | wp_step))
 refine qs0 X hx J F.hm ?_
 repeat (any_goals (first | assumption | wp_step))
theorem qn0 {M:Model} {J:Value} {Q:Unit ->Shared ->Prop} (X:K.In h) (F:ExcI K C) (hx:h.get? a=some o) (hc:o.cls= .ref C) (hq:Q () ⟨h,g,d,t,os⟩):
  wpAny M A (checkBuiltinCall "BaseException.__getattribute__" ⟨[.ref a,J],[]⟩) Q E ⟨h,g,d,t,os⟩:=by
 have hk:builtinKind "BaseException.__getattribute__"=some .slot:=by decide+kernel
 have O:splitId "BaseException.__getattribute__"=some ("BaseException","__getattribute__"):=by decide+kernel
 have ha:=PySem.F.args_bexc_ga (.ref a) J;have L1:Looks M h (isSubtype (.ref C) (.type "BaseException")) true:=looks_subIn X F.hb;simp only [checkBuiltinCall,hk,O];refine z3v ?_
 ·unfold isInstance
  repeat (first | (with_reducible refine wpAny_loadPart_at hx ?_;rw [hc]) | with_reducible refine L1.at ?_ | wp_step)
  exact hq
theorem qoz {tk:Tok} {R:Result ->Shared ->Prop} (X:K.In h) (F:ExcI K C) (hx:h.get? a=some o) (J:o.cls= .ref C) (hq:R (.ok (.ret (.ref C))) ⟨h,g,d,t,os⟩):
  codeAny (model prog w) A (.call (.builtin "BaseException.__getattribute__") ⟨[.ref a,.str "__class__" tk],[]⟩) R ⟨h,g,d,t,os⟩:=
 codeAny_call_builtin (PySem.F.excAttr_ValueError).ga.plain PySem.F.entry_bexc_ga (qn0 X F hx J (qmz X F hx J hq))
theorem qu1 {tk:Tok} {O J:Bool} {Q:Value ->Shared ->Prop} (X:K.In h) (F:ExcI K C) (hx:h.get? a=some o) (Y:o.cls= .ref C) (hq:Q (.ref C) ⟨h,g,d,t,os⟩):
  wpAny (model prog w) A (getAttrBy (.ref a) (.str "__class__" tk) O J) Q E ⟨h,g,d,t,os⟩:=by
 have f3:=(PySem.F.excAttr_ValueError).ga.bind (.ref a);have hx0:(J&&onTheHeap (Value.builtin "BaseException.__getattribute__"))=false:=by cases J <;> rfl
 have U:(Value.builtin "BaseException.__getattribute__"==Value.builtin "object.__getattribute__")=false:=by decide+kernel
 have hx1:(onTheHeap (Value.ref C)&&Value.builtin "BaseException.__getattribute__"==Value.builtin "object.__getattribute__")=false:=by rw [U];rfl
 have L1:=looks_findIn (M:=model prog w) X F.hga;have L2:=looks_findIn (M:=model prog w) X F.hgx
 repeat (any_goals (first | assumption | (with_reducible refine wpAny_loadPart_at hx ?_;rw [Y]) | with_reducible refine L1.at ?_ | with_reducible refine L2.at ?_ | wp_step))
 refine qoz X F hx Y ?_
 repeat (any_goals (first | assumption | wp_step))
theorem qp0 {Q:Option Value ->Shared ->Prop} (X:K.In h) (F:ExcI K C) (hx:h.get? a=some o) (hc:o.cls= .ref C) (hq:Q (some (.ref C)) ⟨h,g,d,t+1,os⟩):
  wpAny (model prog w) A (getAttr? (.ref a) "__class__") Q E ⟨h,g,d,t,os⟩:=by
 unfold getAttr? getAttrBy?
 repeat (any_goals (first | assumption | with_reducible apply qu1 X F hx hc | wp_step))
def qqi (a C:Addr) (h:Heap):Prop:=∃ o,h.get? a=some o/\o.cls= .ref C
theorem qht (F:ExcI K C):KitX K (.ref a) (.ref C) (qqi a C) where
 ty:=λ M h _ p=>by
  obtain ⟨o,h1,h2⟩:=p;exact h2 ▸ qhs h1
 it:=λ _ _ X _=>by
  obtain ⟨cd,J⟩:=Option.isSome_iff_exists.mp (q99 F);unfold clsIn at J;split at J
  ·rename_i c' d' O Y ho;intro A' Q' E' s' k q;unfold isType loadHead;exact z3v (wpAny_loadPart (k _ _ (X _ _ ho)) (z3u q))
  ·cases J
 ne:=λ h tp dd its n sl X U=>by
  obtain ⟨cd,J⟩:=Option.isSome_iff_exists.mp (q99 F);refine Bool.eq_false_iff.mpr λ q=> ?_;have e:C=tp:=Value.ref.inj (beq_iff_eq.mp q);subst e;unfold clsIn at J;split at J
  ·rename_i c' d' O Y ho;have z:=(X _ _ ho).symm.trans U;cases z
  ·cases J
 ca:=λ {_ _ _ _ _ s} X p k=>by
  obtain ⟨h,g,d,t,os⟩:=s;obtain ⟨o,h1,h2⟩:=p;exact qp0 X F h1 h2 k
end
theorem qft:bootBuiltins "ValueError"=some (.type "ValueError"):=by decide+kernel
section
variable {X:Cx} {ea C R:Addr} {oe:Obj}
theorem Inv.excAt {pins:List (Addr×Obj)} {σ:St} {H:Hp} {s:Shared} (I:Inv (X.hand ea oe) pins σ H s) (hc:oe.cls= .ref C):qqi ea C s.heap:=⟨oe,(I.pin (ea,oe) z1f).1,hc⟩
theorem qn1 (K:PySem.W.Frag) (hK:X.K=K:=by rfl):q20 (X.hand ea oe) (.builtin "isinstance") (λ xs H Q=>∃ C c v b,xs=[.ref ea,v]/\oe.cls= .ref C/\ExcI K C/\(v= .ref c/\kitOne K (.ref C) (.ref c)=some b\/ ∃ n,v= .ty n/\kitOne K (.ref C) (.type n)=some b)/\Q (.bl b) H):=by
 subst hK;intro pins s σ H xs us Q I r h;obtain ⟨C,c,v,b,rfl,J,F,hv,q⟩:=h;obtain ⟨u,u2,rfl,ru,O⟩:=qgn r;cases ru
 have fin:∀ tk,EP (X.hand ea oe) pins σ Q (.bool b) {s with toks:=tk}:=λ tk=>⟨.bl _,H,I.tok tk,rfl,q⟩;rcases hv with ⟨rfl,e⟩ | ⟨n,rfl,e⟩
 ·cases O
  exact kia_one (qht F) I.kIn (I.excAt J) e (λ z=>nomatch z) fin
 ·cases O
  exact kia_one (qht F) I.kIn (I.excAt J) e (λ z=>nomatch z) fin
end
structure DefE (P:Program) (w:World) (K:PySem.W.Frag) (mg:Str ->Option Value) (base:Heap) (k:Nat) (x:Str) (ps:List Str) (sp:Sp):Prop where
 ex:∃ f fd,FnOk P w K mg base (CXE P w) k f fd ps sp/\mg x=some (.ref f)/\PySem.W.keepIn K (.ref f)=true/\Binds K fd ps []
section
variable {P:Program} {w:World} {K:PySem.W.Frag} {mg:Str ->Option Value} {base:Heap}
theorem Top.okE {x:Str} {st:Stmt} {N ps:List Str} {k:Nat} {sp:Sp} (T:Top K mg x st ps) (S:FnScope N ps (qc st)) (len:∀ vs H Q E,sp vs H Q E ->vs.length=ps.length)
  (J:∀ (f:Addr) (cdv:Value) (A:Around) (outer:List Env) (s:Shared) (H:Hp) (vs:List V) (Q:VK) (E:XK),Room k (A.deeper (envOfC x (qc st) s.heap.objs.size f cdv)) ->sp vs H Q E ->
   ∃ t,PSs (cxOf (CXE P w) P w K mg base N x (qc st) f cdv A outer s H E) (qw st) t/\t {nx:=λ _ H'=>Q .non H',rt:=Q} (start N vs) H):DefE P w K mg base (k+1) x ps sp:=by
 obtain ⟨f,fd,F,hm,hb⟩:=T.ex;refine ⟨f,fd,?_,hm,F.kp,Binds.all hb⟩;obtain ⟨oc,od,kV,doc,pm,an,cdv,ct,osl,rfl,lk,O⟩:=F.ex;exact qgo lk O S len (J f cdv)
end
section
variable {X:Cx} {k k':Nat} {ps:List Str} {sp:Sp} {E:XK} {x:Str} {p pos:Pos} {e:Expr} {es:List Expr} {t:TA}
theorem qdj (D:DefE X.prog X.w X.K X.mg X.base k x ps sp) (hx:q2x (CXE X.prog X.w) X E) (hr:Room k' X.A) (hg:Gl X x) (ha:PA X (e::es) t) (O:k<=k':=by decide)
  (J:(x==("__debug__":Str))=false:=by decide) (he:starEach (e::es) X.env=(false,eval e X.env)::starEach es X.env:=by rfl) (U:(backTo pos (starEach es X.env)).any (·.1)=false:=by rfl):
  PE X (.Call (.Name x p) (e::es) [] pos) (qkt sp [] E t):=by
 obtain ⟨f,fd,F,hm,hk,hb⟩:=D.ex;exact qjt F (hr.mono O) hg hm hk hb .nil hx ha J he U
end
structure XCls (K:PySem.W.Frag) (C:Addr):Prop where
 new:excIn K C qqh "ValueError.__new__"=true
 isi:ExcI K C
 ve:mroIn K C (.type "ValueError")=some true
 self:mroIn K C (.ref C)=some true
 ty:typeIn K (.ref C)=some (.type "type")
structure XiK (K:PySem.W.Frag) (x:Str):Prop where
 ex:∃ C:Addr,nsIn K mainGlobals x=some (some (.ref C))/\XCls K C
theorem xiK {K:PySem.W.Frag} {x:Str} {C:Addr} (n:nsIn K mainGlobals x=some (some (.ref C))) (a:excIn K C [.type "ValueError",.type "Exception",.type "BaseException",.type "object"] "ValueError.__new__"=true) (b:findIn K (.ref C) "__getattribute__"=some (some (.builtin "BaseException.__getattribute__")))
  (c:findIn K (.ref C) "__getattr__"=some none) (d:findIn K (.ref C) "__class__"=some (some (.builtin "object.__class__"))) (e:mroIn K C (.type "object")=some true) (f:mroIn K C (.type "BaseException")=some true)
  (g:mroIn K C (.type "ValueError")=some true) (h:mroIn K C (.ref C)=some true) (i:typeIn K (.ref C)=some (.type "type")):XiK K x:=⟨C,n,a,⟨b,c,d,e,f⟩,g,h,i⟩
structure PiK (K:PySem.W.Frag) (x y:Str) (b:Bool):Prop where
 ex:∃ C D:Addr,nsIn K mainGlobals x=some (some (.ref C))/\nsIn K mainGlobals y=some (some (.ref D))/\mroIn K C (.ref D)=some b
theorem piK {K:PySem.W.Frag} {x y:Str} {b:Bool} {C D:Addr} (n:nsIn K mainGlobals x=some (some (.ref C))) (m:nsIn K mainGlobals y=some (some (.ref D))) (e:mroIn K C (.ref D)=some b):PiK K x y b:=⟨C,D,n,m,e⟩
section
variable {K:PySem.W.Frag} {h:Heap} {mg:Str ->Option Value} {x y:Str} {b:Bool} {C D:Addr}
theorem XiK.g (F:XiK K x) (X:K.In h) (G:h.Ns mainGlobals mg):mg x=some (.ref (cA mg x)):=by
 obtain ⟨C,n,_⟩:=F.ex;rw [q43 (mg_of X G n)];exact mg_of X G n
theorem XiK.at' (F:XiK K x) (X:K.In h) (G:h.Ns mainGlobals mg):XCls K (cA mg x):=by
 obtain ⟨C,n,q⟩:=F.ex;rw [q43 (mg_of X G n)];exact q
theorem PiK.at' (F:PiK K x y b) (X:K.In h) (G:h.Ns mainGlobals mg):mroIn K (cA mg x) (.ref (cA mg y))=some b:=by
 obtain ⟨C,D,n,m,q⟩:=F.ex;rw [q43 (mg_of X G n),q43 (mg_of X G m)];exact q
theorem XCls.cls (F:XCls K C):(clsIn K C).isSome=true:=q99 F.isi
theorem XCls.kit (F:XCls K C) (G:XCls K D) (e:mroIn K C (.ref D)=some b):kitCls K (.ref C) (.ref D)=some b:=by
 show (if ((clsIn K D).isSome&&typeIn K (.ref D)==some (.type "type"))=true then subIn K (.ref C) (.ref D) else none)=some b;rw [if_pos (by rw [G.cls,G.ty];simp)];exact e
theorem XCls.veI (F:XCls K C):kitOne K (.ref C) (.type "ValueError")=some true:=by
 unfold kitOne;rw [if_neg (λ z=>nomatch (beq_iff_eq.mp z:Value.ref C=Value.type "ValueError"))];show (if kitMeta "ValueError"=true then subIn K (.ref C) (.type "ValueError") else none)=some true;rw [if_pos (by decide+kernel)];exact F.ve
theorem XCls.caught (F:XCls K C) (G:XCls K D) (e:mroIn K C (.ref D)=some true):exmOne K (.ref C) (.ref D)=some true:=by
 unfold exmOne;rw [if_pos (by rw [show subIn K (.ref D) (.type "BaseException")=some true from G.isi.hb];rfl)];exact F.kit G e
end
end L2
namespace L2
open PySem PySem.Spec PyProof.Rows PySem.W
section
variable {X:Cx} {v1 v2 a:Expr} {t1 t2 ta:TE} {pos:Pos}
theorem qp1 (h1:PE X v1 t1) (h2:PE X v2 t2):PE X (.JoinedStr [v1,v2] pos) (λ σ H Q=>t1 σ H λ x H1=>∃ a,x= .str a/\a.length<=100000/\t2 σ H1 λ y H2=>∃ b,y= .str b/\b.length<=100000/\Q (.str (a++b)) H2):=by
 intro pins s σ H Q I h;have U:Str.empty.length=0:=rfl;refine JoinedStr_many (joinParts_cons (thn (h1 pins s σ H _ I h) λ v s1 O=> ?_));obtain ⟨x,H1,I1,r1,a,ea,la,q1⟩:=O;subst ea;obtain ⟨t,rfl⟩:=r1;refine ⟨?_,joinParts_cons (thn (h2 pins s1 σ H1 _ I1 q1) λ v s2 ⟨y,H2,I2,r2,b,eb,lb,q2⟩=> ?_)⟩
 ·rw [Str.length_append,U,z3e];exact z3i la (by decide)
 subst eb;obtain ⟨t,rfl⟩:=r2;have J:(Str.empty++a++b).length<=sizeLine:=by
  rw [Str.length_append,Str.length_append,U,z3e];exact z3i (Nat.add_le_add la lb) (by decide)
 rw [Str.empty_append] at J ⊢;exact ⟨J,joinParts_nil ⟨.str (a++b),H2,I2.tok _,⟨_,zr⟩,q2⟩ J⟩
end
end L2
namespace L2
open PySem PySem.Spec PyProof.Rows PySem.W Builtin
section
variable {X:Cx}
end
section
variable {prog:Program} {w:World} {A:Around} {E:Value ->Shared ->Prop}
end
section
variable {X:Cx}
end
end L2
namespace L2
open PySem PySem.Spec PyProof.Rows
def q18 (v:Nat ->Int):Nat ->Option Int
 | 0=>none
 | n+1=>match q18 v n with
  | none=>some (v n)
  | some m=>some (if v n < m then v n else m)
def optV:Option Int ->V
 | none=> .non
 | some m=> .int m
theorem qcg:(toString "min"++toString ".loop":String)="min.loop":=by decide
theorem qdk (a v:Value):argsOk "min" ⟨[a],[(Str.ofString "default",v)]⟩:=by unfold argsOk;kernel_rfl
section
variable {prog:Program} {w:World} {A:Around} {R:Result ->Shared ->Prop} {I:Addr} {fp wr:List Addr} {n:Nat} {P:Nat ->Value ->Prop} {St:Nat ->Heap ->Prop}
def qvh (v:Nat ->Int) (j:Nat) (xs:Array Value):Prop:=(q18 v j=none/\xs=#[])\/ ∃ m t,q18 v j=some m/\xs=#[.int m t,.int m t]
theorem qch {v:Nat ->Int}:∀ {j:Nat},q18 v j=none ->j=0
 | 0,_=>rfl
 | j+1,h=>by
  rw [q18] at h;split at h <;> cases h
theorem q74 (W:Walks prog w A.in1 I fp wr n P St) (v:Nat ->Int) (hv:∀ i x,P i x ->∃ t,x= .int (v i) t) (S:Addr) (Z:S∉fp) (dv:Value):∀ (k j:Nat) (s:Shared) (xs:Array Value) (c:Nat),j+k=n ->St j s.heap ->qvh v j xs ->
  s.heap.get? S=some {cls:= .type "list",data:= .seq xs c} ->
  (∀ t h' tk,(∀ b o,b∉wr ->b≠S ->s.heap.get? b=some o ->h'.get? b=some o) ->R (.ok (.ret (match q18 v n with | none=>dv | some m=> .int m t))) {s with heap:=h',toks:=tk}) ->
  codeAny (model prog w) A (.builtin "min.loop" ⟨[.ref I,.none,.ref S],[(Str.ofString "default",dv)]⟩) R s
 | 0,j,s,xs,c,hk,a5,hb,hS,hR=>by
  have a4:S∉wr:=λ h=>Z (W.sub _ h);have hj:j=n:=by lia
  subst hj;refine z2t PySem.F.entry_min_loop ?_;rw [Around.under_plainId PySem.F.plain_min_loop _];refine z3v (m:=seqItems? (.ref S)) (wpAny_seqItems hS rfl ?_);refine z3v (m:=tryCatch (pyNext (.ref I)) _) (wpAny_tryCatch (W.done s _ _ a5 λ h' tk U=> ?_));have Y:=U S _ a4 hS;rcases hb with ⟨e,rfl⟩ | ⟨m,t,e,rfl⟩
  ·have:=hR 0 h' tk λ b o J _ eb=>U b o J eb;rw [e] at this;exact z3v (z3t (z3u this))
  ·refine z3v (m:=updateSeq S λ _=>#[]) ?_;refine wpAny_updateSeq Y rfl (z3v (wpAny_letGo (z3u ?_)));rw [e] at hR;exact hR t _ tk λ b o J O eb=>(z0k _ _ (Ne.symm O)).trans (U b o J eb)
 | k+1,j,s,xs,c,hk,a5,hb,hS,hR=>by
  have a4:S∉wr:=λ h=>Z (W.sub _ h);have a7:j < n:=by lia
  refine z2t PySem.F.entry_min_loop ?_;rw [Around.under_plainId PySem.F.plain_min_loop _];refine z3v (m:=seqItems? (.ref S)) (wpAny_seqItems hS rfl ?_);refine z3v (m:=tryCatch (pyNext (.ref I)) _) (wpAny_tryCatch (W.item j s _ _ a7 a5 λ x h' tk hP a3 U=> ?_));have Y:=U S _ a4 hS;obtain ⟨tx,rfl⟩:=hv j x hP;have stay:∀ (f:Obj ->Obj),St (j+1) (h'.update S f):=λ f=>W.frame _ _ _ a3 λ b a6 o e=>(z0k _ _ (λ h:S=b=>Z (by rw [h];exact a6))).trans e;rcases hb with ⟨e,rfl⟩ | ⟨m,t,e,rfl⟩
  ·refine z3v (m:=updateSeq S λ _=>#[.int (v j) tx,.int (v j) tx]) ?_;refine wpAny_updateSeq Y rfl ?_;rw [qcg];refine z3u ⟨plainId_quiet PySem.F.plain_min_loop _,q74 W v hv S Z dv k (j+1) _ _ _ (by lia) (stay _) (.inr ⟨v j,tx,?_,zr⟩) (z0t _ Y rfl) λ t' h2 a2 a1=> ?_⟩
   ·rw [q18,e]
   ·exact hR t' h2 a2 λ b o J O eb=>a1 b o J O ((z0k _ _ (Ne.symm O)).trans (U b o J eb))
  ·refine z3v (m:=tryCatch (holding [.int (v j) tx,.int (v j) tx] (richCompare .Lt (.int (v j) tx) (.int m t) >>=_)) _) (wpAny_tryCatch (z36 (z3v (richCompare_gives (op:= .Lt) (typeIs_int _ _ tx) (typeIs_int _ _ t) PySem.F.slot_int_lt PySem.F.entry_int_lt (PySem.F.args_int_lt_2 _ _) (gives_int_lt _ _ tx t) (λ x=>nomatch x) ?_))));refine z3v (z36 (z1u ?_));refine z3v (wpAny_letGo (z3u ?_));by_cases hb:v j < m
   ·rw [z2w hb,if_pos rfl];refine z3v ?_;refine wpAny_updateSeq Y rfl (z3v (wpAny_letGo ?_));rw [qcg];refine z3u ⟨plainId_quiet PySem.F.plain_min_loop _,q74 W v hv S Z dv k (j+1) _ _ _ (by lia) (stay _) (.inr ⟨v j,tx,?_,zr⟩) (z0t _ Y rfl) λ t' h2 a2 a1=> ?_⟩
    ·rw [q18,e];show some (if v j < m then v j else m)=_;rw [if_pos hb]
    ·exact hR t' h2 a2 λ b o J O eb=>a1 b o J O ((z0k _ _ (Ne.symm O)).trans (U b o J eb))
   ·rw [z2h hb,if_neg (by decide)];refine z3v (wpAny_letGo ?_);rw [qcg];refine z3u ⟨plainId_quiet PySem.F.plain_min_loop _,q74 W v hv S Z dv k (j+1) _ _ _ (by lia) a3 (.inr ⟨m,t,?_,zr⟩) Y λ t' h2 a2 a1=> ?_⟩
    ·rw [q18,e];show some (if v j < m then v j else m)=_;rw [if_neg hb]
    ·exact hR t' h2 a2 λ b o J O eb=>a1 b o J O (U b o J eb)
end
section
variable {X:Cx} {e d:Expr} {t tk:TA} {p pos kpos:Pos}
theorem qs1 (K:PySem.W.Frag) (hc:X.calm=true) (hg:Gl X "min") (hm:X.mg "min"=none) (hv:bootBuiltins "min"=some (.builtin "min")) (ha:PA X [e] t) (a1:PK X [⟨some "default",d,kpos⟩] tk) (hK:X.K=K:=by rfl)
  (a2:(backTo pos (starEach [e] X.env)).any (·.1)=false:=by rfl) (he:backTo pos (starEach [e] X.env)=(false,eval e X.env)::backTo pos (starEach [] X.env):=by rfl):
  PE X (.Call (.Name "min" p) [e] [⟨some "default",d,kpos⟩] pos) (λ σ H Q=>t σ H λ vs H1=>tk σ H1 λ ws H2=>∃ (l:Addr) (ns:List Int),vs=[.ref l]/\ws=[.non]/\SqL K H2 l (ns.map V.int)/\Q (optV (q18 (λ i=>ns.getD i 0) ns.length)) H2):=by
 subst hK;intro pins s σ H Q I h;refine z1i (q53 I hg hm hv ?_);refine callWith_kw (thn (ha pos pins s σ H _ I h) λ us s1 ⟨vs,H1,I1,r1,q1⟩=>thn (a1 pos pins s1 σ H1 _ I1 q1) λ ws J a3=> ?_) he a2;obtain ⟨zs,H2,I2,rz,q2⟩:=a3;obtain ⟨l,ns,rfl,rfl,hl,q⟩:=q2;obtain ⟨u,rfl,Z⟩:=q2b r1;cases Z
 obtain ⟨u,rfl,Z⟩:=q2b rz;cases Z
 obtain ⟨its,rv,pl,hz⟩:=I2.list hl;have hsz:its.toArray.size=ns.length:=by
  have:=rv.length;rw [z2l] at this;rw [z1t];exact this.symm
 have hh:X.A.in1.handled=none:=I2.ok.hd hc;have O:l < J.heap.objs.size:=by
  obtain ⟨o,k,e1,_⟩:=pl;exact z3g e1
 show wpAny _ _ (call (.builtin "min") [.ref l] [(Str.ofString "default",.none)]) _ _ J;refine kmk_tree PySem.F.kind_min PySem.F.plain_min PySem.F.entry_min (qdk _ _) ?_;refine z3v (m:=Builtin.Builtins.bindParams "min" ["key","default"] 0 ⟨[],[(Str.ofString "default",.none)]⟩) (wpAny_of_eq (show _=pure [none,some Value.none] from rfl) ?_);refine z3v (z3u ?_);refine z3v (z1v pl.isList ?_);refine z3v (wpAny_newList ?_ (z3s _));rw [qcg];have keep:∀ b o,J.heap.get? b=some o ->((J.heap.push {cls:= .type "list_iterator",data:= .fields #[.ref l,.int 0 0]}).push {cls:= .type "list",data:= .seq #[]}).get? b=some o:=λ b o e=>z0j _ (z0j _ e);have U:(J.heap.push {cls:= .type "list_iterator",data:= .fields #[.ref l,.int 0 0]}).objs.size=J.heap.objs.size+1:=Array.size_push _;refine z3u ⟨plainId_quiet PySem.F.plain_min_loop _,q74 (n:=ns.length) (A:=X.A) (hsz ▸ Walks.list hh J.heap.objs.size l (z3h O) its.toArray) (λ i=>ns.getD i 0) ?_ (J.heap.push {cls:= .type "list_iterator",data:= .fields #[.ref l,.int 0 0]}).objs.size ?_ .none ns.length 0 _ #[] 0 (z3e _) ⟨⟨_,z0j _ (z15 _ rfl),zr,zr⟩,pl.isList.at (keep l)⟩ (.inl ⟨zr,zr⟩) (z15 _ rfl) λ t' h' tk' hk=> ?_⟩
 ·intro i v hv;have Y:its[i]? =some v:=by simpa using hv
  have hi:i < ns.length:=by
   rw [<- hsz,z1t];exact (z06.mp Y).1
  have e:(ns.map V.int)[i]? =some (V.int ns[i]):=by rw [z1s,z0a hi];rfl
  obtain ⟨u,hu,Z⟩:=rv.get e;rw [Y] at hu;cases hu
  obtain ⟨t,rfl⟩:=Z;exact ⟨t,by show _=Value.int (ns.getD i 0) t;rw [q6a hi]⟩
 ·rw [U];intro hb;simp only [z35,z2d,or_false] at hb;rcases hb with h | h
  ·exact absurd h (Nat.succ_ne_self _)
  ·exact absurd O (by rw [<- h];exact Nat.not_lt_of_le (Nat.le_succ _))
 ·refine ⟨optV (q18 (λ i=>ns.getD i 0) ns.length),H2,I2.kept λ b o e=>hk b o ?_ ?_ (keep b o e),?_,q⟩
  ·simp
   exact z3h (z3g e)
  ·rw [U];exact z3h (z20 (z3g e))
  ·cases q18 (λ i=>ns.getD i 0) ns.length with
   | none=>rfl
   | some m=>exact ⟨_,rfl⟩
end
theorem qhu (v:Nat ->Int):∀ n:Nat,q18 v (n+1)=some (v (argBest (λ i j=>decide (v i < v j)) n))
 | 0=>rfl
 | n+1=>by
  rw [q18,qhu v n];show some (if v (n+1) < _ then _ else _)=some (v (if decide (v (n+1) < v (argBest _ n))=true then _ else _));by_cases h:v (n+1) < v (argBest (λ i j=>decide (v i < v j)) n)
  ·rw [if_pos h,if_pos (z2w h)]
  ·rw [if_neg h,if_neg (by simpa using h)]
section
variable {X:Cx}
theorem qn2 (hc:X.calm=true) (K:PySem.W.Frag) (hK:X.K=K:=by rfl):q20 X (.builtin "min") (λ xs H Q=>∃ (l:Addr) (ns:List Int) (m:Int),xs=[.ref l]/\SqL K H l (ns.map V.int)/\q18 (λ i=>ns.getD i 0) ns.length=some m/\Q (.int m) H):=by
 subst hK;intro pins s σ H xs us Q I r h;obtain ⟨l,ns,m,rfl,hl,Y,q⟩:=h;obtain ⟨u,rfl,Z⟩:=q2b r;cases Z
 obtain ⟨its,rv,pl,hz⟩:=I.list hl;have hsz:its.toArray.size=ns.length:=by
  have:=rv.length;rw [z2l] at this;rw [z1t];exact this.symm
 have hh:X.A.in1.handled=none:=I.ok.hd hc;have O:l < s.heap.objs.size:=by
  obtain ⟨o,k,e1,_⟩:=pl;exact z3g e1
 have hn:0 < ns.length:=Nat.pos_of_ne_zero λ z=>by rw [z] at Y;cases Y
 have J:∀ (i:Nat) (v:Value),its.toArray[i]? =some v ->∃ t,v= .int (ns.getD i 0) t:=λ i v hv=>by
  have U:its[i]? =some v:=by simpa using hv
  have hi:i < ns.length:=by
   rw [<- hsz,z1t];exact (z06.mp U).1
  have e:(ns.map V.int)[i]? =some (V.int ns[i]):=by rw [z1s,z0a hi];rfl
  obtain ⟨u,hu,Z⟩:=rv.get e;rw [U] at hu;cases hu
  obtain ⟨t,rfl⟩:=Z;exact ⟨t,by rw [q6a hi]⟩
 refine call_min_walk (z1v pl.isList ?_);refine ⟨s.heap.objs.size,_,_,ns.length,_,_,λ i j=>decide (ns.getD i 0 < ns.getD j 0),rfl,hsz ▸ Walks.list hh s.heap.objs.size l (z3h O) its.toArray,⟨⟨_,z15 _ rfl,rfl,rfl⟩,pl.isList.at λ o e=>z0j _ e⟩,?_,hn,λ i j vi vj s' Q' E' hi hj hQ=> ?_,λ v h' tk hP hk=> ?_⟩
 ·intro b hb;rw [show (s.heap.push {cls:= .type "list_iterator",data:= .fields #[.ref l,.int 0 0]}).objs.size=s.heap.objs.size+1 from Array.size_push _];simp only [z35,z2d,or_false] at hb;rcases hb with rfl | rfl
  ·exact z27 _
  ·exact z20 O
 ·obtain ⟨ti,rfl⟩:=J i vi hi;obtain ⟨tj,rfl⟩:=J j vj hj;exact richCompare_gives (op:= .Lt) (typeIs_int _ _ ti) (typeIs_int _ _ tj) PySem.F.slot_int_lt PySem.F.entry_int_lt (PySem.F.args_int_lt_2 _ _) (gives_int_lt _ _ _ _) (λ x=>nomatch x) hQ
 ·obtain ⟨t,rfl⟩:=J _ v hP;obtain ⟨n,en⟩:∃ n,ns.length=n+1:=⟨ns.length - 1,by lia⟩;rw [en,qhu] at Y;rw [en];cases Y
  refine ⟨.int _,H,I.kept λ b o e=>hk b o ?_ (z0j _ e),⟨_,zr⟩,q⟩;simp
  exact z3h (z3g e)
end
end L2
namespace L2
open PySem PySem.Spec PyProof.Rows PySem.W
namespace Tab
end Tab
end L2
namespace L2
open PySem PySem.Spec PyProof.Rows PySem.W
namespace Tab
end Tab
end L2
namespace L2
open PySem PySem.Spec PyProof.Rows PySem.W
section
variable {P:Program} {w:World} {A:Around} {E:Value ->Shared ->Prop} {s:Shared}
end
section
variable {prog:Program} {w:World} {A:Around} {R:Result ->Shared ->Prop} {I:Addr} {fp wr:List Addr} {G:Array GenState ->Array GenState ->Prop} {n:Nat} {P:Nat ->Value ->Prop} {St:Nat ->Shared ->Prop}
end
section
variable {prog:Program} {w:World} {A:Around} {E:Value ->Shared ->Prop} {s:Shared}
end
section
variable {prog:Program} {w:World} {A:Around} {E:Value ->Shared ->Prop} {s:Shared} {a:Addr} {xs:List (Addr×List Str)}
end
section
variable {X:Cx} {pins:List (Addr×Obj)} {σ:St} {H:Hp} {s:Shared}
end
section
variable {X:Cx} {pins:List (Addr×Obj)} {σ:St} {H:Hp} {s:Shared}
end
end L2
namespace L2
open PySem PySem.Spec PyProof.Rows PySem.Builtin.Str PySem.StrLaws PySem.NumText
theorem qvi {S G:Prop} (main:S ->G) (pf:S):G:=main pf
end L2
namespace Tim
open PySem PyProof.Rows
section
variable {M:Model} {A:Around} {E:Value ->Shared ->Prop} {s:Shared} {kd:SortKind} {S:Keyed ->Prop} {rk:Keyed ->Int} {n:Nat}
def Dne (rk:Keyed ->Int) (n:Nat) (st st':SortSt):Prop:=(arrOf st').Perm (arrOf st)/\failedOf st'=none/\(pendingOf st').size<=1/\Up rk (arrOf st') 0 n
theorem qj9 (L:LtOk M A E s kd S rk) {st:SortSt} (B:Sane kd S n st) (h2:2<=n) (a2:n < 64) (hp:pendingOf st=#[]) {Q:Unit ->SortSt ->Prop}
  (h:∀ J,(arrOf J).Perm (arrOf st) ->failedOf J=none ->Up rk (arrOf J) 0 n ->Q () J):wpS M A E s sortRuns' Q st:=by
 rw [sortRuns'_eq];refine wpS_bind (wpS_get ?_)
 dsimp only
 simp only [B.size];have a3:minRun' n n 0=n:=by
  obtain ⟨f,hf⟩:∃ f,n=f+1:=⟨n - 1,by lia⟩;have:minRun' (f+1) n 0=n:=by rw [minRun'_succ,if_pos a2];rfl
  rwa [<- hf] at this
 refine wpS_bind (wpS_mono (wpS_forRange (I:=λ x c J=>(x=0/\c=(none,0)/\J=st)\/ (c=(none,n)/\Dne rk n st J))
  (Q:=λ c J=>c=(none,n)/\Dne rk n st J) ?turn ?last (.inl ⟨rfl,rfl,rfl⟩)) ?after)
 case last=>
  rintro c J (⟨h0,_⟩ | z)
  ·lia
  ·exact z
 case turn=>
  rintro x c J _ hx (⟨rfl,rfl,rfl⟩ | ⟨rfl,D⟩)
  ·dsimp only
   rw [if_neg (show ¬ 0 >=n by lia)];refine wpS_bind (qbw L B (by lia) (by lia) λ k a1 v2 k1 k2 u2=> ?_)
   dsimp only
   rw [a3];have fin:∀ O:SortSt,Mv 0 (0+(n - 0)) J O ->Up rk (arrOf O) 0 n ->Dne rk n J (setPending O ((pendingOf O).push (0,n,0))):=λ O v3 u3=>by
    refine ⟨v3.perm,(v3.sane B).failed,?_,u3⟩;show ((pendingOf O).push (0,n,0)).size<=1;rw [v3.pend,hp];exact z3p _
   have back:∀ O:SortSt,Mv 0 (0+(n - 0)) J O ->(pendingOf O).back? =none:=λ O v3=>by
    rw [v3.pend,hp];rfl
   by_cases Z:k < n
   ·rw [if_pos Z];refine wpS_bind (wpS_lift (z3t ⟨zr,?_⟩));rw [show min (n - 0) n=n by lia];refine wpS_bind (q8y L (v2.sane B) (by lia) (by lia) u2 λ O v3 u3=> ?_);have v4:Mv 0 (0+(n - 0)) J O:=v2.trans (v3.wide (z3p _) (by lia));simp only [Bool.not_true,z1a,if_false];refine wpS_bind (wpS_get ?_);rw [back O v4]
    dsimp only
    rw [show (0+n)=n by lia] at*;exact wpS_bind (wpS_modify (wpS_pure (.inr ⟨zr,fin O v4 u3⟩)))
   ·rw [if_neg Z];have e:k=n:=by lia
    subst e;refine wpS_bind (wpS_get ?_);rw [back a1 v2]
    dsimp only
    rw [show (0+k)=k by lia] at*;exact wpS_bind (wpS_modify (wpS_pure (.inr ⟨zr,fin a1 v2 u2⟩)))
  ·dsimp only
   rw [if_pos (z3p n)];exact wpS_pure ⟨zr,D⟩
 case after=>
  rintro c J ⟨rfl,D⟩
  dsimp only
  refine wpS_bind (wpS_mono (wpS_forRange (I:=λ _ c U=>c=(none,())/\Dne rk n st U) (Q:=λ c U=>c=(none,())/\Dne rk n st U) ?fturn (λ _ _ z=>z) ⟨zr,D⟩) ?fafter)
  case fturn=>
   rintro j c U _ hj ⟨rfl,Y⟩;refine wpS_bind (wpS_get ?_);rw [if_pos Y.2.2.1];exact wpS_pure ⟨zr,Y⟩
  case fafter=>
   rintro c U ⟨rfl,Y⟩
   dsimp only
   exact wpS_pure (h U Y.1 Y.2.1 Y.2.2.2)
end
section
variable {prog:Program} {w:World} {A:Around} {E:Value ->Shared ->Prop} {s:Shared}
theorem qci {a:Addr} {vs:List Value} {n:Nat} {rk:Value ->Int} {P:PySem.Fin ->Shared ->Prop} (ho:s.heap.get? a=some (seqObj "list" vs.toArray n)) (Y:vs.length < 64) (hk:Keys prog w A s a vs rk)
  (h:∀ out:Array Value,Sorted rk vs out.toList ->P (.done (.ret .none)) {s with heap:=sortedHeap s.heap a vs out}):wpAny (model prog w) A (Builtin.«list.sort» ⟨[.ref a],[]⟩) P E s:=by
 have hz:vs.length<=sizeLine:=z3i (z3f Y) (by decide);rw [list_sort_plain];have ha:a < s.heap.objs.size:=z3g ho;have a5:vs.toArray.size=vs.length:=z1t;refine z3v (listItems_at ho rfl (z3v (listUpdate_at ho rfl ?_ (by rw [a5];exact hz) (z3s _))));obtain ⟨e1,Z⟩:∃ e1,(s.heap.update a (Obj.mapSeq λ _=>#[])).get? a=some (seqObj "list" #[] e1):=⟨_,get?_update_seq ho (λ _=>#[])⟩;refine z3v (seqEpoch_at Z rfl (z3v (wpAny_newTuple (z3v (wpAny_newList (z36 ?_))))));have s1:=z14 s.heap a (Obj.mapSeq λ _=>(#[]:Array Value));have keep:∀ b o,(s.heap.update a (Obj.mapSeq λ _=>#[])).get? b=some o ->(((s.heap.update a (Obj.mapSeq λ _=>#[])).push (seqObj "tuple" vs.toArray 0)).push (seqObj "list" #[] 0)).get? b=some o:=
  λ b o e=>z0j _ (z0j _ e)
 have O:=keep a _ Z;have U:∀ b o,b≠a ->s.heap.get? b=some o ->(((s.heap.update a (Obj.mapSeq λ _=>#[])).push (seqObj "tuple" vs.toArray 0)).push (seqObj "list" #[] 0)).get? b=some o:=
  λ b o hb e=>keep b o ((s1.2 b hb).trans e)
 show wpAny (model prog w) A _ P E {s with heap:=((s.heap.update a (Obj.mapSeq λ _=>#[])).push (seqObj "tuple" vs.toArray 0)).push (seqObj "list" #[] 0)}
 dsimp only
 by_cases h2:vs.toArray.size < 2
 ·rw [if_pos h2,if_pos h2];refine z3v (z3u ?_);rw [StateT.run_pure];refine z3v (z3u ?_)
  dsimp only
  have es:((vs.toArray.zip vs.toArray).map (·.2)).toList=vs:=by
   rw [Array.toList_map];show (pairsOf vs).toList.map _=_;rw [pairsOf_toList,List.map_snd_zip (z3p _)]
  refine z3v (seqEpoch_at O rfl (z3v (listUpdate_at O rfl ?_ (z3s _) (by rw [<- z12,es];lia))));simp only [bne_self_eq_false,z1a,if_false];refine z3u (h _ ?_);rw [es];refine ⟨List.Perm.refl _,?_⟩;rw [a5] at h2
  match vs,h2 with
  | [],_=>exact .nil
  | [_],_=>exact z0d ..
 ·rw [if_neg h2,if_neg h2];obtain ⟨kd,kk,kl⟩:=hk (by lia) {s with heap:=((s.heap.update a (Obj.mapSeq λ _=>#[])).push (seqObj "tuple" vs.toArray 0)).push (seqObj "list" #[] 0)} U;refine z3v (kk _ _ ?_);have hS:∀ p∈(vs.toArray.zip vs.toArray).toList,p.1∈vs:=λ p hp=>by
   have a4:p∈(pairsOf vs).toList:=hp;rw [pairsOf_toList] at a4;exact (mem_zip_self a4).2
  refine z3v (z3w (qj9 (S:=λ p=>p.1∈vs) (rk:=λ p=>rk p.1) (n:=vs.length) (st:=SortSt.mk' kd (vs.toArray.zip vs.toArray) #[] 7 none)
   (Q:=λ _ J=>(arrOf J).Perm (pairsOf vs)/\failedOf J=none/\Up (λ p=>rk p.1) (arrOf J) 0 vs.length)
   (qd8 λ x y hx hy=>kl x.1 hx y.1 hy) ⟨pairsOf_size vs,hS,rfl,rfl⟩ (by lia) Y rfl λ J a1 a2 a3=>⟨a1,a2,a3⟩) ?_ λ _ _ e=>e)
  rintro ⟨⟨⟩,J⟩ s' ⟨rfl,hp,hf,hu⟩
  dsimp only
  have so:=q8z hp hu;refine z3v (seqEpoch_at O rfl (z3v (listUpdate_at O rfl ?_ (z3s _) (by rw [<- z12,so.perm.length_eq];lia))));rw [hf];simp only [bne_self_eq_false,z1a,if_false];exact z3u (h _ so)
end
end Tim
namespace L2
open PySem PySem.Spec PyProof.Rows PySem.W
section
variable {prog:Program} {w:World} {A:Around} {E:Value ->Shared ->Prop} {s:Shared} {a:Addr}
theorem qao {x:Value} {vs:List Value} {rk:Value ->Int} {Q:Value ->Shared ->Prop} (Y:vs.length < 64)
  (hc:∀ (U:Around) (E':Value ->Shared ->Prop) (R:List Value ->Shared ->Prop),U.handled=A.handled ->(∀ h' tk,(∀ b o,s.heap.get? b=some o ->h'.get? b=some o) ->s.heap.objs.size<=h'.objs.size ->R vs {s with heap:=h',toks:=tk}) ->wpAny (model prog w) U (collect x) R E' s)
  (hk:∀ (U:Around) (s':Shared) (a:Addr),U.units<=A.units+4 ->s.heap.objs.size<=a ->(∀ b o,s.heap.get? b=some o ->s'.heap.get? b=some o) ->Tim.Keys prog w U s' a vs rk)
  (h:∀ (out:Array Value) (l:Addr) (n:Nat) (h':Heap) (tk:Nat),Tim.Sorted rk vs out.toList ->(∀ b o,s.heap.get? b=some o ->h'.get? b=some o) ->s.heap.objs.size<=l ->h'.get? l=some (seqObj "list" out n) ->Q (.ref l) {s with heap:=h',toks:=tk}):
  wpAny (model prog w) A (call (.builtin "sorted") [x]) Q E s:=by
 have hz:vs.length<=sizeLine:=z3i (z3f Y) (by decide);refine Calls.call_function_entry kind_sorted plain_sorted entry_sorted (args_sorted1 _) ?_;unfold Builtin.«sorted»;refine z3v (m:=checkCount "sorted" 1 1 _) (z3u ?_);refine z3v (hc _ _ _ rfl λ h1 tk keep hsz=> ?_);refine z3v (wpAny_newList ?_ hz);have O:(h1.push (seqObj "list" vs.toArray 0)).get? h1.objs.size=some (seqObj "list" vs.toArray 0):=z15 _ rfl;show wpAny _ _ _ _ _ {s with heap:=h1.push (seqObj "list" vs.toArray 0),toks:=tk};have J:∀ b o,s.heap.get? b=some o ->(h1.push (seqObj "list" vs.toArray 0)).get? b=some o:=λ b o e=>z0j _ (keep b o e);refine z3v (z36 (z2a slot_list_sort ⟨_,O,zr⟩ entry_list_sort (Tim.qci O Y (hk _ _ _ ?_ hsz J) λ out so=>⟨_,zr,?_⟩) (args_list_sort _)))
 ·show A.units+2<=A.units+4
  lia
 ·have Z:∀ b o,s.heap.get? b=some o ->b≠h1.objs.size:=λ b o e=>z3h (z1h (z3g e) hsz);have u1:=z14 (h1.push (seqObj "list" vs.toArray 0)) h1.objs.size (Obj.mapSeq λ _=>(#[]:Array Value));obtain ⟨e1,g1⟩:∃ e1,((h1.push (seqObj "list" vs.toArray 0)).update h1.objs.size (Obj.mapSeq λ _=>(#[]:Array Value))).get? h1.objs.size=some (seqObj "list" #[] e1):=⟨_,get?_update_seq O λ _=>#[]⟩;have g2:=z0j (seqObj "list" #[] 0) (z0j (seqObj "tuple" vs.toArray 0) g1);have g3:=get?_update_seq g2 λ _=>out;have u4:=z14 (((((h1.push (seqObj "list" vs.toArray 0)).update h1.objs.size (Obj.mapSeq λ _=>(#[]:Array Value))).push (seqObj "tuple" vs.toArray 0)).push (seqObj "list" #[] 0))) h1.objs.size (Obj.mapSeq λ _=>out);refine z3u ⟨_,zr,h out h1.objs.size _ _ tk so (λ b o e=> ?_) hsz g3⟩;refine (u4.2 b (Z b o e)).trans (z0j _ (z0j _ ((u1.2 b (Z b o e)).trans (J b o e))))
end
section
variable {X:Cx} {pins:List (Addr×Obj)} {σ:St} {H:Hp} {s:Shared}
theorem qfu (K:PySem.W.Frag) (hK:X.K=K:=by rfl):q20 X (.builtin "sorted") (λ xs H Q=>∃ p J,xs=[.ref p]/\(SqL K H p (J.map V.str)\/ SqT K H p (J.map V.str))/\J.length < 64/\∀ l,H l=none ->Q (.ref l) (upd H l (.lst ((Tim.srt strLt J).map V.str)))):=by
 subst hK;intro pins s σ H xs us Q I r h;obtain ⟨p,J,rfl,hp,Z,q⟩:=h;obtain ⟨u,rfl,ru⟩:=q2b r;cases ru
 obtain ⟨T,o,its,n,hT,ho,hc,hd,rv,hz⟩:∃ (T:String) (o:Obj) (its:List Value) (n:Nat),(T="list"\/ T="tuple")/\s.heap.get? p=some o/\o.cls= .type T/\o.data= .seq its.toArray n/\Vals (J.map V.str) its/\(J.map V.str).length<=sizeLine:=by
  rcases hp with hp | hp
  ·obtain ⟨its,rv,⟨o,n,e,c,_,d⟩,z⟩:=I.list hp;exact ⟨"list",o,its,n,.inl rfl,e,c,d,rv,z⟩
  ·obtain ⟨its,rv,⟨o,e,c,n,d⟩,z⟩:=I.tuple hp;exact ⟨"tuple",o,its,n,.inr rfl,e,c,d,rv,z⟩
 have hl:its.length<=sizeLine:=by rw [<- rv.length];exact hz
 obtain ⟨e1,e2,_⟩:=q8d rv;refine qao (vs:=its) (rk:=λ v=>Tim.rank strLt (its.map sOf) (sOf v)) (by rw [<- rv.length,z2l];exact Z) (λ A' E' R _ k=>qky hT ho hc hd (by rw [z1t];exact hl) (by rw [z18];exact k)) (λ A' s' a _ _ _=>qf3 rv) λ out l n h' tk so keep O hg=> ?_;have Y:∀ u∈out.toList,∃ x t,u= .str x t:=λ u hu=>e2 u (so.perm.mem_iff.mp hu);have ed:=Tim.q50 q3d sOf so;rw [e1] at ed;have U:=q6h Y;rw [ed] at U;exact I.q7e U (by rw [z2l,(Tim.q14 strLt J).length_eq];rw [z2l] at hz;exact hz) keep O hg (q l (I.hok.fresh O))
theorem qfv (hu:X.A.units+64 < cLine) (hc:X.calm=true) (K:PySem.W.Frag) (hK:X.K=K:=by rfl):q20 X (.builtin "sorted") (λ xs H Q=>∃ (d:Addr) (kvs:List (List Str×V)),xs=[.ref d]/\H d=some (.dT (kvs.map λ kv=>(kv.1.map Sum.inr,kv.2)))/\
  kvs.length < 64/\∀ l zs,H l=none ->Paired (λ x p=>∃ b,x=V.ref b/\H b=some (.tup (p.map V.str))) zs (Tim.srt q1j (kvs.map (·.1))) ->Q (.ref l) (upd H l (.lst zs))):=by
 subst hK;intro pins s σ H xs us Q I r h;obtain ⟨d,kvs,rfl,hd,a5,q⟩:=h;obtain ⟨u,rfl,ru⟩:=q2b r;cases ru
 obtain ⟨hz,a7,es0,U,o,es,ep,ho,hx,Z,a1,a6⟩:=I.hok d _ hd;have O:es.size=kvs.length:=by
  rw [<- z12,a1,z2l,<- U.length,z2l]
 have J:qqe H (es.toList.map (·.key)) (kvs.map (·.1)):=by
  rw [a1,z3o];clear hz a1 Z O ho q hd a6 a5;unfold qqe;revert U;generalize hk:(kvs.map λ kv=>(kv.1.map (Sum.inr:Str ->Key),kv.2))=ks;intro U
  induction U generalizing kvs with
  | nil=>
   have:kvs=[]:=by simpa using hk
   subst this;exact .nil
  | cons a rr ih=>
   cases kvs with
   | nil=>simp at hk
   | cons kv kvs=>
    rw [z33,z2g] at hk;obtain ⟨rfl,hk⟩:=hk;refine .cons ⟨_,zr,?_⟩ (ih kvs hk);obtain ⟨_,a2,_⟩:=a;rw [qdf] at a2;exact a2
 have a3:∀ v p,(∃ b,v=Value.ref b/\H b=some (.tup (p.map V.str))) ->TupAt s.heap v p:=λ v p ⟨b,e,hb⟩=>by
  obtain ⟨_,its,rv,o,e1,c,n,dd⟩:=I.hok b _ hb;exact ⟨b,o,its.toArray,n,e,e1,c,dd,by rw [z18];exact rv⟩
 have Y:Paired (λ v p=>TupAt s.heap v p/\decT H v=p) (es.toList.map (·.key)) (kvs.map (·.1)):=Paired.mapP J λ v p z=>⟨a3 v p z,by
  obtain ⟨b,rfl,hb⟩:=z;exact qk0 hb⟩
 have ev:(es.toList.map (·.key)).map (decT H)=kvs.map (·.1):=(q42 Y λ _ _ z=>z.2).1;have mem:∀ v∈es.toList.map (·.key),∃ b,v=Value.ref b/\H b=some (.tup ((decT H v).map V.str)):=(q42 (f:=decT H) J λ v p ⟨b,e,hb⟩=>by
  rw [e];exact qk0 hb).2
 have hl:(es.toList.map (·.key)).length<=sizeLine:=by
  rw [z2l,z12,O];rw [z2l] at hz;exact hz
 refine qao (vs:=es.toList.map (·.key)) (rk:=λ v=>Tim.rank q1j ((es.toList.map (·.key)).map (decT H)) (decT H v)) (by rw [z2l,z12,O];exact a5)
  (λ A' E' R hh k=>q7d (hh.trans (I.ok.hd hc)) a7 ⟨o,ho,hx,Z⟩ (by rw [z2l,z12] at hl;exact hl) k)
  (λ A' s' a hu' ha keep=>qmt (s:=s) (decT H) Y ha keep (by lia)) λ out l n h' tk so keep a4 hg=> ?_
 have ed:=Tim.q50 q8c (decT H) so;rw [ev] at ed;have mo:∀ v∈out.toList,∃ b,v=Value.ref b/\H b=some (.tup ((decT H v).map V.str)):=λ v hv=>mem v (so.perm.mem_iff.mp hv);obtain ⟨zs,rv,hp⟩:∃ zs:List V,Vals zs out.toList/\Paired (λ x p=>∃ b,x=V.ref b/\H b=some (.tup (p.map V.str))) zs (out.toList.map (decT H)):=by
  revert mo;generalize out.toList=os;intro mo
  induction os with
  | nil=>exact ⟨[],.nil,.nil⟩
  | cons v os ih=>
   obtain ⟨zs,r1,r2⟩:=ih λ u hu=>mo u (z0z _ hu);obtain ⟨b,e,hb⟩:=mo v (z1f ..);exact ⟨.ref b::zs,.cons e r1,.cons ⟨b,zr,hb⟩ r2⟩
 rw [ed] at hp;refine I.q7e rv ?_ keep a4 hg (q l zs (I.hok.fresh a4) hp);rw [rv.length,so.perm.length_eq];exact hl
end
section
variable {prog:Program} {w:World} {A:Around} {E:Value ->Shared ->Prop} {s:Shared} {I:Addr} {fp:List Addr} {n:Nat} {P:Nat ->Value ->Prop} {St:Nat ->Heap ->Prop} {T:String}
end
section
variable {X:Cx} {e:Expr} {te:TE} {p1 p2 q1 q2:Pos}
end
section
variable {prog:Program} {w:World} {A:Around} {E:Value ->Shared ->Prop} {s:Shared}
end
section
variable {prog:Program} {w:World} {A:Around} {E:Value ->Shared ->Prop} {s:Shared} {I:Addr} {fp:List Addr} {n:Nat} {P:Nat ->Value ->Prop} {St:Nat ->Heap ->Prop} {T:String}
end
section
variable {X:Cx} {e:Expr} {te:TE} {p1 p2 q1 q2:Pos}
end
end L2
namespace L2
open PySem PySem.Spec PyProof.Rows
section
variable {M:Model} {A:Around} {E:Value ->Shared ->Prop} {s:Shared} {B:Heap} {env:Env} {outer l:List Env} {L e:Addr} {cls a0 fl:Value}
end
section
variable {X:Cx} {pins pins':List (Addr×Obj)} {σ σ':St} {H H':Hp} {s s':Shared} {N:List Str} {scope:Scope} {cl:List (Str×Addr)} {C:Addr} {fp:List Addr} {xe:Value ->Shared ->Prop} {E:XK}
end
section
variable {X:Cx} {pins:List (Addr×Obj)} {σ:St} {H:Hp} {s:Shared} {N:List Str} {caps:List (Option Nat)} {scope:Scope} {elt tg iter:Expr} {ifs:List Expr} {wi:TI} {g:TG} {tf:TT} {te:TE} {pos:Pos} {E:XK}
end
section
variable {X:Cx} {pins:List (Addr×Obj)} {σ:St} {H:Hp} {s:Shared} {a b:Addr} {kvs more:List (Key×V)} {A:Around} {E:Value ->Shared ->Prop}
end
section
variable {X:Cx} {o e:Expr} {apos cpos:Pos} {td ty:TE}
end
section
variable {X:Cx}
end
inductive NK where
 | leaf (k:Key)
 | tup (xs:List NK)
noncomputable instance : DecidableEq NK := fun a b => Classical.propDecidable _
mutual
def NK.deep:NK ->Nat
 | .leaf _=>0
 | .tup xs=>NK.deeps xs+1
def NK.deeps:List NK ->Nat
 | []=>0
 | x::r=>max x.deep (NK.deeps r)
end
mutual
def NK.draws:NK ->Nat
 | .leaf _=>1
 | .tup xs=>NK.drawss xs+1
def NK.drawss:List NK ->Nat
 | []=>0
 | x::r=>x.draws+NK.drawss r
end
theorem NK.qcj:∀ xs ys:List NK,NK.drawss (xs++ys)=NK.drawss xs+NK.drawss ys
 | [],ys=>by rw [List.nil_append,NK.drawss,z3e]
 | x::r,ys=>by rw [List.cons_append,NK.drawss,NK.drawss,NK.qcj r ys,Nat.add_assoc]
section
variable {P:Program} {w:World}
theorem qs2 {i:Int} {v:Value} (h:(qz P w).is (.inl i) v=true):∃ t,v= .int i t:=by
 have h:q5z (.inl i) v=true:=h;rcases q1e h with ⟨j,t,e,rfl⟩ | ⟨x,t,e,rfl⟩
 ·cases e
  exact ⟨t,zr⟩
 ·cases e
theorem qs3 {z:Str} {v:Value} (h:(qz P w).is (.inr z) v=true):∃ t,v= .str z t:=by
 have h:q5z (.inr z) v=true:=h;rcases q1e h with ⟨j,t,e,rfl⟩ | ⟨x,t,e,rfl⟩
 ·cases e
 ·cases e
  exact ⟨t,zr⟩
mutual
def NK.hash (P:Program) (w:World):NK ->Int
 | .leaf k=>(qz P w).hash k
 | .tup xs=>reduceHash (Builtin.Tuple.tupleHashOf (NK.hashs P w xs))
def NK.hashs (P:Program) (w:World):List NK ->List Int
 | []=>[]
 | x::r=>x.hash P w::NK.hashs P w r
end
mutual
/-- v is this key -/
def IsN (P:Program) (w:World) (h:Heap):NK ->Value ->Prop
 | .leaf k,v=>(qz P w).is k v=true
 | .tup xs,v=>∃ a o items n,v= .ref a/\h.get? a=some o/\o.cls= .type "tuple"/\o.data= .seq items n/\IsNs P w h xs items.toList
def IsNs (P:Program) (w:World) (h:Heap):List NK ->List Value ->Prop
 | [],vs=>vs=[]
 | x::r,vs=>∃ v vr,vs=v::vr/\IsN P w h x v/\IsNs P w h r vr
end
mutual
theorem IsN.inj {h:Heap}:∀ {x y:NK} {v:Value},IsN P w h x v ->IsN P w h y v ->x=y
 | .leaf k,.leaf j,v,hx,hy=>by
  rw [IsN] at hx;rw [IsN] at hy;rw [(qz P w).inj _ _ _ hx hy]
 | .leaf k,.tup ys,v,hx,hy=>by
  rw [IsN] at hx;rw [IsN] at hy;obtain ⟨a,_,_,_,rfl,_⟩:=hy;exact absurd ((qz P w).byValue _ _ hx) (by simp [carriedByValue])
 | .tup xs,.leaf k,v,hx,hy=>by
  rw [IsN] at hx;rw [IsN] at hy;obtain ⟨a,_,_,_,rfl,_⟩:=hx;exact absurd ((qz P w).byValue _ _ hy) (by simp [carriedByValue])
 | .tup xs,.tup ys,v,hx,hy=>by
  rw [IsN] at hx;rw [IsN] at hy;obtain ⟨a,o,Z,n,rfl,ho,_,hd,hi⟩:=hx;obtain ⟨a',o',O,n',e,Y,_,J,U⟩:=hy;injection e with e;subst e;obtain rfl:o=o':=Option.some.inj (ho.symm.trans Y);rw [hd] at J;injection J with h1 _;subst h1;rw [IsNs.inj hi U]
theorem IsNs.inj {h:Heap}:∀ {x y:List NK} {vs:List Value},IsNs P w h x vs ->IsNs P w h y vs ->x=y
 | [],[],_,_,_=>rfl
 | [],y::r,vs,hx,hy=>by
  rw [IsNs] at hx;rw [IsNs] at hy;obtain ⟨v,J,e,_⟩:=hy;rw [hx] at e;cases e
 | x::r,[],vs,hx,hy=>by
  rw [IsNs] at hx;rw [IsNs] at hy;obtain ⟨v,J,e,_⟩:=hx;rw [hy] at e;cases e
 | x::r,y::t,vs,hx,hy=>by
  rw [IsNs] at hx;rw [IsNs] at hy;obtain ⟨v,J,rfl,h1,h2⟩:=hx;obtain ⟨v',vr',e,g1,g2⟩:=hy;cases e
  rw [IsN.inj h1 g1,IsNs.inj h2 g2]
end
mutual
theorem IsN.keeps {h h':Heap} {d:Addr} {o:Obj} {es ep} (ho:h.get? d=some o) (hd:o.data= .dict es ep) (Z:Heap.SameBut d h h'):∀ {x:NK} {v:Value},IsN P w h x v ->IsN P w h' x v
 | .leaf k,v,hx=>by
  rw [IsN] at hx ⊢;exact hx
 | .tup xs,v,hx=>by
  rw [IsN] at hx ⊢;obtain ⟨a,o',O,n,rfl,U,hc,J,hi⟩:=hx;have Y:a≠d:=by
   rintro rfl;obtain rfl:o'=o:=Option.some.inj (U.symm.trans ho);rw [hd] at J;exact nomatch J
  exact ⟨a,o',O,n,zr,(Z.2 a Y).trans U,hc,J,IsNs.keeps ho hd Z hi⟩
theorem IsNs.keeps {h h':Heap} {d:Addr} {o:Obj} {es ep} (ho:h.get? d=some o) (hd:o.data= .dict es ep) (J:Heap.SameBut d h h'):∀ {x:List NK} {vs:List Value},IsNs P w h x vs ->IsNs P w h' x vs
 | [],vs,hx=>by
  rw [IsNs] at hx ⊢;exact hx
 | x::r,vs,hx=>by
  rw [IsNs] at hx ⊢;obtain ⟨v,vr,rfl,h1,h2⟩:=hx;exact ⟨v,vr,zr,IsN.keeps ho hd J h1,IsNs.keeps ho hd J h2⟩
end
theorem NK.qf9:∀ xs:List NK,NK.hashs P w xs=xs.map (NK.hash P w)
 | []=>by rw [NK.hashs];rfl
 | x::r=>by rw [NK.hashs,NK.qf9 r];rfl
theorem qn3:∀ (n:Nat) {A:Around} {E:Value ->Shared ->Prop} {s:Shared} {x:NK} {v:Value} {Q:Int ->Shared ->Prop},x.deep<=n ->A.units+4*n < cLine ->IsN P w s.heap x v ->Q (x.hash P w) {s with toks:=s.toks+x.draws} ->wpAny (model P w) A (pyHash v) Q E s
  | n,A,E,s,.leaf k,v,Q,_,hu,hx,h=>by
    rw [IsN] at hx;rw [NK.hash,NK.draws] at h;exact (qz P w).pyHash hx h
  | 0,A,E,s,.tup xs,v,Q,hn,_,_,_=>by
    rw [NK.deep] at hn
    lia
  | n+1,A,E,s,.tup xs,v,Q,hn,hu,hx,h=>by
    rw [NK.deep] at hn;rw [IsN] at hx;obtain ⟨a,o,O,m,rfl,ho,hc,hd,hi⟩:=hx;have J:s.TypeIs (.ref a) "tuple":=⟨o,ho,hc⟩;unfold pyHash
    first | unfold pyHashByItsType | skip
    first | refine z3v (wpAny_cRoomFor_or (.inr (by lia)) ?_) | skip
    refine z3v (wpAny_specialOf J F.slot_tuple_hash.lookup ?_);show wpAny _ _ (if (some (Value.builtin "tuple.__hash__")==some Value.none)=true then _ else _) Q E s;rw [if_neg (by rw [beq_builtin_none];exact z1b)];refine z3v (wpAny_specialOf J F.slot_tuple_hash.lookup ?_);show wpAny _ _ (callSpecialIfBoundUnlessNone? (.ref a) "__hash__" _ >>=_) Q E s;refine z3v (wpAny_callSpecialIfBoundUnlessNone?_slot J F.slot_tuple_hash (z2a F.slot_tuple_hash J F.entry_tuple_hash ?_ (F.args_tuple_hash_1 _)));show wpAny _ _ (Builtin.Tuple.tupleItemsOf (.ref a) >>=_) _ _ s;refine z3v (wpAny_tupleItemsOf ho hd ?_);refine z3v ?_;rw [<- Array.forIn_toList];refine wpAny_forIn_list _ (λ rest (b:Array Int) s'=>∃ done left,xs=done++left/\IsNs P w s.heap left rest/\NK.deeps left<=n/\b.toList=done.map (NK.hash P w)/\s'={s with toks:=s.toks+NK.drawss done}) _ ?_ ?_ _ _ ⟨[],xs,rfl,hi,by lia,rfl,rfl⟩
    · rintro x rest b s' ⟨done,left,rfl,hl,dl,hb,rfl⟩
      cases left with
      | nil=>
        rw [IsNs] at hl;cases hl
      | cons k ks=>
        rw [IsNs] at hl;obtain ⟨v,vr,e,h1,h2⟩:=hl;cases e
        rw [NK.deeps] at dl;refine z3v (qn3 n (x:=k) (by lia) (by rw [Around.in1_units];lia) h1 ?_);have U:NK.drawss (done++ [k])=NK.drawss done+k.draws:=by
          rw [NK.qcj,NK.drawss,NK.drawss]
          lia
        first
          | exact z3u ⟨done++ [k],ks,by simp,h2,by lia,by simp [hb],by rw [U,Nat.add_assoc]⟩
          | exact z3v (z3u (z3u ⟨done++ [k],ks,by simp,h2,by lia,by simp [hb],by rw [U,Nat.add_assoc]⟩))
    · rintro b s' ⟨done,left,rfl,hl,_,hb,rfl⟩
      cases left with
      | cons k ks=>
        rw [IsNs] at hl;obtain ⟨v,vr,e,_⟩:=hl;cases e
      | nil=>
        rw [z2m] at h;rw [NK.hash,NK.draws,NK.qf9] at h;show wpAny _ _ (retInt (Builtin.Tuple.tupleHashOf b.toList)) _ _ _;rw [hb];refine wpAny_ret_mkInt ?_;show wpAny _ _ (if (decide (-(2:Int)^63<=Builtin.Tuple.tupleHashOf (done.map (NK.hash P w)))&&decide (Builtin.Tuple.tupleHashOf (done.map (NK.hash P w)) < 2^63))=true then _ else _) Q E _;unfold reduceHash at h;by_cases hr:(decide (-(2:Int)^63<=Builtin.Tuple.tupleHashOf (done.map (NK.hash P w)))&&decide (Builtin.Tuple.tupleHashOf (done.map (NK.hash P w)) < 2^63))=true
        · rw [if_pos hr]
          rw [if_pos hr] at h;exact z3u (by simpa [Nat.add_assoc] using h)
        · rw [if_neg hr]
          rw [if_neg hr] at h;exact z3v (z3t (z3u (by simpa [Nat.add_assoc] using h)))
mutual
/-- the datum of a key -/
def NK.dat:NK ->PyData
 | .leaf (.inl i)=> .int i
 | .leaf (.inr z)=> .str z
 | .tup xs=> .tuple (NK.dats xs)
def NK.dats:List NK ->List PyData
 | []=>[]
 | x::r=>x.dat::NK.dats r
end
mutual
theorem IsN.reads {h:Heap}:∀ {x:NK} {v:Value},IsN P w h x v ->∃ as,Reads h v x.dat as
 | .leaf (.inl i),v,hx=>by
  rw [IsN] at hx;obtain ⟨t,rfl⟩:=qs2 hx;exact ⟨[],by rw [NK.dat];exact .int i t⟩
 | .leaf (.inr z),v,hx=>by
  rw [IsN] at hx;obtain ⟨t,rfl⟩:=qs3 hx;exact ⟨[],by rw [NK.dat];exact .str z t⟩
 | .tup xs,v,hx=>by
  rw [IsN] at hx;obtain ⟨a,o,J,n,rfl,ho,hc,hd,hi⟩:=hx;obtain ⟨as,ha⟩:=IsNs.reads hi;exact ⟨as,by rw [NK.dat];exact .tuple ho hc hd ha⟩
theorem IsNs.reads {h:Heap}:∀ {x:List NK} {vs:List Value},IsNs P w h x vs ->∃ as,ReadsAll h vs (NK.dats x) as
 | [],vs,hx=>by
  rw [IsNs] at hx;subst hx;exact ⟨[],by rw [NK.dats];exact .nil⟩
 | x::r,vs,hx=>by
  rw [IsNs] at hx;obtain ⟨v,vr,rfl,h1,h2⟩:=hx;obtain ⟨as,ha⟩:=IsN.reads h1;obtain ⟨bs,hb⟩:=IsNs.reads h2;exact ⟨as++bs,by rw [NK.dats];exact .cons ha hb⟩
end
mutual
theorem NK.eqv:∀ x y:NK,PyData.eqv x.dat y.dat=decide (x=y)
 | .leaf (.inl i),.leaf (.inl j)=>by
  rw [NK.dat,NK.dat];show decide (i=j)=_;exact decide_eq_decide.mpr ⟨λ e=>by rw [e],λ e=>by injection e with e;injection e⟩
 | .leaf (.inl i),.leaf (.inr z)=>by
  rw [NK.dat,NK.dat];exact (z2h (λ e=>by injection e with e;cases e)).symm
 | .leaf (.inr z),.leaf (.inl i)=>by
  rw [NK.dat,NK.dat];exact (z2h (λ e=>by injection e with e;cases e)).symm
 | .leaf (.inr z),.leaf (.inr y)=>by
  rw [NK.dat,NK.dat];show (z==y)=_;by_cases e:z=y
  ·subst e;rw [z2w rfl];simp
  ·rw [z2h (λ q=>e (by injection q with q;injection q))]
   simpa using e
 | .leaf (.inl i),.tup ys=>by
  rw [NK.dat,NK.dat];exact (z2h (λ e=>by cases e)).symm
 | .leaf (.inr z),.tup ys=>by
  rw [NK.dat,NK.dat];exact (z2h (λ e=>by cases e)).symm
 | .tup xs,.leaf (.inl i)=>by
  rw [NK.dat,NK.dat];exact (z2h (λ e=>by cases e)).symm
 | .tup xs,.leaf (.inr z)=>by
  rw [NK.dat,NK.dat];exact (z2h (λ e=>by cases e)).symm
 | .tup xs,.tup ys=>by
  rw [NK.dat,NK.dat,PyData.eqv,NK.eqvs xs ys];exact decide_eq_decide.mpr ⟨λ e=>by rw [e],λ e=>by injection e⟩
theorem NK.eqvs:∀ x y:List NK,PyData.eqvAll (NK.dats x) (NK.dats y)=decide (x=y)
 | [],[]=>by rw [NK.dats,PyData.eqvAll,z2w rfl]
 | [],_::_=>by rw [NK.dats,NK.dats,PyData.eqvAll];exact (z2h (λ e=>by cases e)).symm
 | _::_,[]=>by rw [NK.dats,NK.dats,PyData.eqvAll];exact (z2h (λ e=>by cases e)).symm
 | x::p,y::q=>by
  rw [NK.dats,NK.dats,PyData.eqvAll,NK.eqv x y,NK.eqvs p q];by_cases h1:x=y
  ·by_cases h2:p=q
   ·rw [z2w h1,z2w h2,z2w (by rw [h1,h2])];rfl
   ·rw [z2w h1,z2h h2,z2h (λ e=>h2 (List.cons.inj e).2)];rfl
  ·rw [z2h h1,z2h (λ e=>h1 (List.cons.inj e).1)];rfl
end
mutual
theorem NK.depth:∀ x:NK,x.dat.depth=x.deep
 | .leaf (.inl i)=>by rw [NK.dat,NK.deep];rfl
 | .leaf (.inr z)=>by rw [NK.dat,NK.deep];rfl
 | .tup xs=>by rw [NK.dat,NK.deep,<- NK.depths xs];rfl
theorem NK.depths:∀ x:List NK,PyData.depthAll (NK.dats x)=NK.deeps x
 | []=>by rw [NK.dats,NK.deeps];rfl
 | x::r=>by rw [NK.dats,NK.deeps,<- NK.depth x,<- NK.depths r];rfl
end
theorem qfa:∀ {xs:List NK} {n:Nat},NK.deeps xs<=n ->∀ x∈xs,x.deep<=n
 | [],_,_,x,hx=>nomatch hx
 | y::r,n,h,x,hx=>by
  rw [NK.deeps] at h;rcases z35.mp hx with rfl | hx
  ·lia
  ·exact qfa (by lia) x hx
theorem IsNs.mem {h:Heap}:∀ {xs:List NK} {vs:List Value},IsNs P w h xs vs ->∀ v∈vs,∃ x∈xs,IsN P w h x v
 | [],vs,hx,v,J=>by
  rw [IsNs] at hx;subst hx;cases J
 | x::r,vs,hx,v,J=>by
  rw [IsNs] at hx;obtain ⟨u,vr,rfl,h1,h2⟩:=hx;rcases z35.mp J with rfl | J
  ·exact ⟨x,z1f ..,h1⟩
  ·obtain ⟨y,hy,h3⟩:=IsNs.mem h2 v J;exact ⟨y,z0z _ hy,h3⟩
theorem qk3:∀ (n:Nat) {A:Around} {E:Value ->Shared ->Prop} {s:Shared} {x:NK} {v:Value} {Q:Bool ->Shared ->Prop},x.deep<=n ->IsN P w s.heap x v ->Q true s ->wpAny (model P w) A (eqIsQuiet n v) Q E s
 | n,A,E,s,.leaf k,v,Q,_,hx,h=>by
  rw [IsN] at hx;rw [eqIsQuiet_byValue n ((qz P w).byValue _ _ hx)];exact z3u h
 | 0,A,E,s,.tup xs,v,Q,hn,_,_=>by
  rw [NK.deep] at hn
  lia
 | n+1,A,E,s,.tup xs,v,Q,hn,hx,h=>by
  rw [NK.deep] at hn;rw [IsN] at hx;obtain ⟨a,o,J,m,rfl,ho,hc,hd,hi⟩:=hx;have Y:s.TypeIs (.ref a) "tuple":=⟨o,ho,hc⟩;unfold eqIsQuiet;refine z3v (wpAny_specialOf Y F.slot_tuple_eq.lookup ?_);show wpAny _ _ (isInstance (.ref a) (.type "tuple") >>=_) _ _ s;refine z3v (wpAny_isInstance Y isSubtype_tuple_tuple ?_);simp only [Bool.not_true,z1a,if_false];refine z3v (wpAny_seqItems ho hd ?_);refine z3v ?_;show wpAny _ _ (forIn J _ _) _ _ s;rw [<- Array.forIn_toList];have all:∀ v∈J.toList,∃ y,y.deep<=n/\IsN P w s.heap y v:=λ v hv=>by
   obtain ⟨y,hy,h1⟩:=IsNs.mem hi v hv;exact ⟨y,qfa (by lia) y hy,h1⟩
  refine wpAny_forIn_list _ (λ rest r s'=>r.1=none/\s'=s/\∀ v∈rest,∃ y,y.deep<=n/\IsN P w s.heap y v) _ ?_ ?_ _ _ ⟨rfl,rfl,all⟩
  ·rintro v rest r s' ⟨hr,rfl,O⟩;obtain ⟨y,h1,h2⟩:=O v z1f;refine z3v (qk3 n h1 h2 ?_);simp only [Bool.not_true,z1a,if_false];exact z3u ⟨zr,zr,λ u U=>O u (z0z _ U)⟩
  ·rintro ⟨r1,r2⟩ s' ⟨hr,rfl,_⟩;simp only at hr;subst hr;exact z3u h
end
noncomputable def nestKind (P : Program) (w : World) : HeapKind P w NK where
 is:=λ h x a=>IsN P w h x (.ref a)/\x.deep<=7/\x.dat.canLay0=true
 hash:=NK.hash P w
 draws:=NK.draws
 room:=λ A=>A.units+40 < cLine
 inj:=λ hx hy=>IsN.inj hx.1 hy.1
 keeps:=λ x ho hd hs=>⟨x.1.keeps ho hd hs,x.2⟩
 pyHash:=λ hu hk h=>qn3 7 hk.2.1 (by lia) hk.1 h
 eqBool:=λ {A E s x y a b Q} hu hx hy h=>by
  obtain ⟨as,ra⟩:=hx.1.reads;obtain ⟨bs,rb⟩:=hy.1.reads;refine SeqAt.eqAt_reads x.dat y.dat A s _ _ as bs ra rb hx.2.2 hy.2.2 ?_ _ _ _ _ ?_
  ·rw [NK.depth,NK.depth];have:=hx.2.1
   lia
  ·rw [NK.eqv];exact h
 quiet:=λ hk h=>qk3 8 (Nat.le_succ_of_le hk.2.1) hk.1 h
mutual
/-- the key x lies at v -/
def NAt (H:Hp):NK ->V ->Prop
 | .leaf k,v=>v=kV k
 | .tup xs,v=>∃ a vs,v= .ref a/\H a=some (.tup vs)/\NAts H xs vs
def NAts (H:Hp):List NK ->List V ->Prop
 | [],vs=>vs=[]
 | x::r,vs=>∃ v vr,vs=v::vr/\NAt H x v/\NAts H r vr
end
mutual
theorem NAt.keep {H H':Hp} (J:∀ b ys,H b=some (.tup ys) ->H' b=some (.tup ys)):∀ {x:NK} {v:V},NAt H x v ->NAt H' x v
 | .leaf k,v,h=>by
  rw [NAt] at h ⊢;exact h
 | .tup xs,v,h=>by
  rw [NAt] at h ⊢;obtain ⟨a,vs,e,h1,h2⟩:=h;exact ⟨a,vs,e,J _ _ h1,NAts.keep J h2⟩
theorem NAts.keep {H H':Hp} (J:∀ b ys,H b=some (.tup ys) ->H' b=some (.tup ys)):∀ {x:List NK} {v:List V},NAts H x v ->NAts H' x v
 | [],v,h=>by
  rw [NAts] at h ⊢;exact h
 | x::r,v,h=>by
  rw [NAts] at h ⊢;obtain ⟨u,ur,e,h1,h2⟩:=h;exact ⟨u,ur,e,NAt.keep J h1,NAts.keep J h2⟩
end
theorem NAt.same {H H':Hp} {x:NK} {v:V} (s:Same H H') (h:NAt H x v):NAt H' x v:=h.keep λ _ _ e=>s _ _ e
mutual
theorem NAt.is {P:Program} {w:World} {H:Hp} {h:Heap} (ok:HOk P w H h):∀ {x:NK} {v:V} {u:Value},NAt H x v ->RelV v u ->IsN P w h x u
 | .leaf k,v,u,hx,r=>by
  rw [NAt] at hx;subst hx;rw [IsN];exact q70 r
 | .tup xs,v,u,hx,r=>by
  rw [NAt] at hx;obtain ⟨a,vs,rfl,h1,h2⟩:=hx;cases (show u=Value.ref a from r)
  obtain ⟨_,its,rv,o,g1,g2,n,g3⟩:=(show ObjOk P w H h a (.tup vs) from ok a _ h1);rw [IsN];exact ⟨a,o,its.toArray,n,zr,g1,g2,g3,by simpa using NAts.is ok h2 rv⟩
theorem NAts.is {P:Program} {w:World} {H:Hp} {h:Heap} (ok:HOk P w H h):∀ {x:List NK} {v:List V} {u:List Value},NAts H x v ->Vals v u ->IsNs P w h x u
 | [],v,u,hx,r=>by
  rw [NAts] at hx;subst hx;cases r
  rw [IsNs]
 | x::xs,v,u,hx,r=>by
  rw [NAts] at hx;obtain ⟨v1,vr,rfl,h1,h2⟩:=hx;cases r with
  | cons r1 r2=>
   rw [IsNs];exact ⟨_,_,zr,NAt.is ok h1 r1,NAts.is ok h2 r2⟩
end
def NOk (x:NK):Prop:=x.deep<=7/\x.dat.canLay0=true
abbrev KN (H:Hp):List (NK×V) ->List (NK×Addr×Value) ->Prop:=Paired λ p q=>p.1=q.1/\(NAt H p.1 (.ref q.2.1)/\NOk p.1)/\RelV p.2 q.2.2
theorem KN.val {H:Hp} {kvs:List (NK×V)} {xs:List (NK×Addr×Value)} (r:KN H kvs xs) (k:NK):RelO (valV kvs k) ((atKey xs k).map (·.2)):=by
 induction r with
 | nil=>exact True.intro
 | @cons p q ps J h t ih=>
  obtain ⟨h1,_,h2⟩:=h;by_cases e:p.1=k
  ·have e':q.1=k:=h1.symm.trans e;have b:atKey (q::J) k=some q.2:=by simp [atKey,z2o,e']
   rw [q1k e,b];exact h2
  ·have e':q.1≠k:=λ z=>e (h1.trans z);have b:atKey (q::J) k=atKey J k:=by simp [atKey,z2o,e']
   rw [q1c e,b];exact ih
theorem KN.repl {H:Hp} {kvs:List (NK×V)} {xs:List (NK×Addr×Value)} (r:KN H kvs xs) (k:NK) {y:V} {u:Value} (ry:RelV y u):
  KN H (kvs.map λ kv=>if kv.1=k then (kv.1,y) else kv) (xs.map (putAt k u)):=by
 induction r with
 | nil=>exact .nil
 | @cons p q ps qs h t ih=>
  rw [z33,z33];refine .cons ?_ ih;obtain ⟨h1,h2,h3⟩:=h;unfold putAt;by_cases e:p.1=k
  ·have e':q.1=k:=h1.symm.trans e;rw [if_pos e,if_pos e'];exact ⟨h1,h2,ry⟩
  ·have e':q.1≠k:=λ z=>e (h1.trans z);rw [if_neg e,if_neg e'];exact ⟨h1,h2,h3⟩
theorem KN.put {H:Hp} {kvs:List (NK×V)} {xs:List (NK×Addr×Value)} (r:KN H kvs xs) (k:NK) {b:Addr} {y:V} {u:Value} (hb:NAt H k (.ref b)/\NOk k) (ry:RelV y u):
  KN H (putK kvs k y) (storedH xs k b u):=by
 have e:(kvs.any λ kv=>decide (kv.1=k))=(atKey xs k).isSome:=by
  rw [q2n,(r.val k).q36,Option.isSome_map]
 unfold putK storedH;rw [e];by_cases q:(atKey xs k).isSome=true
 ·rw [if_pos q,if_pos q];exact r.repl k ry
 ·rw [if_neg q,if_neg q];exact Paired.snoc r ⟨rfl,hb,ry⟩
theorem KN.keeps {H H':Hp} {kvs:List (NK×V)} {xs:List (NK×Addr×Value)} (r:KN H kvs xs) (ht:∀ b ys,H b=some (.tup ys) ->H' b=some (.tup ys)):KN H' kvs xs:=
 Paired.mapP r λ _ _ z=>⟨z.1,⟨z.2.1.1.keep ht,z.2.1.2⟩,z.2.2⟩
def dNφ (P:Program) (w:World) (a:Addr) (xs:List (NK×Addr×Value)):Heap ->Prop:=λ h=>(a==sysModules)=false/\xs.length<=sizeLine/\∃ o es ep,h.get? a=some o/\o.ExactDict/\o.data= .dict es ep/\es.toList=xs.map (entryOfKey (nestKind P w))/\(xs.map (·.1)).Nodup
theorem ql5 {P:Program} {w:World} {H:Hp} {a:Addr} {xs:List (NK×Addr×Value)} {h:Heap} (x:dNφ P w a xs h):ObjOk P w H h a (.ext (dNφ P w a xs)):=by
 refine ⟨x,let ⟨_,_,o,_,_,h1,_⟩:=x;⟨o,h1⟩,λ h1 h2 y k=> ?_⟩;obtain ⟨y1,y2,o,es,ep,g1,g2⟩:=y;exact ⟨y1,y2,o,es,ep,k _ g1,g2⟩
def DN (P:Program) (w:World) (H:Hp) (a:Addr) (kvs:List (NK×V)):Prop:=∃ xs,H a=some (.ext (dNφ P w a xs))/\KN H kvs xs
theorem DN.same {P:Program} {w:World} {H H':Hp} {a:Addr} {kvs:List (NK×V)} (s:Same H H') (h:DN P w H a kvs):DN P w H' a kvs:=let ⟨xs,h1,h2⟩:=h;⟨xs,s _ _ h1,h2.keeps λ _ _ e=>s _ _ e⟩
section
variable {P:Program} {w:World} {H:Hp} {h:Heap} {a:Addr}
theorem q64 {kvs:List (NK×V)} (ok:HOk P w H h) (e:DN P w H a kvs):kvs.length<=sizeLine/\(a==sysModules)=false/\∃ xs,H a=some (.ext (dNφ P w a xs))/\KN H kvs xs/\h.DictOfH (nestKind P w) a xs:=by
 obtain ⟨xs,e,r⟩:=e;obtain ⟨⟨y,z,o,es,ep,h1,h2,h3,h4,h5⟩,_⟩:=(show ObjOk P w H h a (.ext (dNφ P w a xs)) from ok a _ e);refine ⟨by rw [Paired.length r];exact z,y,xs,e,r,o,es,ep,h1,h2,h3,h4,λ x hx=> ?_,h5⟩;have all:∀ {l:List (NK×V)} {m:List (NK×Addr×Value)},KN H l m ->∀ x∈m,(nestKind P w).is h x.1 x.2.1:=by
  intro l m q
  induction q with
  | nil=>intro x hx;exact nomatch hx
  | @cons p q ps qs hq t ih=>
   intro x hx;rcases z35.mp hx with e | hx
   ·subst e;obtain ⟨g1,⟨g2,g3⟩,_⟩:=hq;rw [<- g1];exact ⟨g2.is ok rfl,g3⟩
   ·exact ih x hx
 exact all r x hx
theorem q9a {k:NK} {b:Addr} (ok:HOk P w H h) (e:NAt H k (.ref b)) (o:NOk k):(nestKind P w).is h k b:=⟨e.is ok rfl,o⟩
end
theorem q59 {P:Program} {w:World} {A:Around} (hu:A.units+64 < cLine):(nestKind P w).room A.in1:=by
 show A.in1.units+40 < cLine;rw [Around.in1_units]
 lia
section
variable {X:Cx} {pins:List (Addr×Obj)} {σ:St} {H:Hp} {s:Shared} {a b:Addr} {v d:V} {r:Value} {A:Around} {E:Value ->Shared ->Prop} {kvs:List (NK×V)} {k:NK}
theorem qn4 {Q:Value ->Shared ->Prop} (hu:A.units+64 < cLine) (I:Inv X pins σ H s) (g:DN X.prog X.w H a kvs) (nk:NAt H k (.ref b)) (ok:NOk k) (l:valV kvs k=some v) (h:∀ J s',Inv X pins σ H s' ->RelV v J ->Q J s'):
  wpAny (model X.prog X.w) A (getItem (.ref a) (.ref b)) Q E s:=by
 obtain ⟨z,hd,xs,_,U,dd⟩:=q64 I.hok g;obtain ⟨J,hw,Y⟩:=RelO.q7k (v:=v) (o:=(atKey xs k).map (·.2)) (by rw [<- l];exact U.val k);obtain ⟨p,hp,O⟩:=z0l.mp hw;refine wpAny_getItem_heap (q59 hu) (q9a I.hok nk ok) dd hp ?_;rw [O];exact h J _ (I.tok _) Y
theorem n_in {Q:Value ->Shared ->Prop} (hu:A.units+64 < cLine) (I:Inv X pins σ H s) (g:DN X.prog X.w H a kvs) (nk:NAt H k (.ref b)) (ok:NOk k) (h:∀ s',Inv X pins σ H s' ->Q (.bool (valV kvs k).isSome) s'):
  wpAny (model X.prog X.w) A (compareOp .In (.ref b) (.ref a)) Q E s:=by
 obtain ⟨z,hd,xs,_,J,dd⟩:=q64 I.hok g;refine wpAny_in_heap (q59 hu) (q9a I.hok nk ok) hd dd ?_;have q:=(J.val k).q36;rw [Option.isSome_map] at q;rw [<- q];exact h _ (I.tok _)
theorem qu2 {Q:Value ->Shared ->Prop} (hu:A.units+64 < cLine) (I:Inv X pins σ H s) (g:DN X.prog X.w H a kvs) (nk:NAt H k (.ref b)) (ok:NOk k) (rd:RelV d r) (h:∀ O s',Inv X pins σ H s' ->RelV ((valV kvs k).getD d) O ->Q O s'):
  wpAny (model X.prog X.w) A (call (.builtin "dict.get") [.ref a,.ref b,r]) Q E s:=by
 obtain ⟨z,hd,xs,_,J,dd⟩:=q64 I.hok g;exact call_meetsIn PySem.F.slot_dict_get dd.typeIs PySem.F.entry_dict_get (PySem.F.args_dict_get_3 _ _ _) (meetsH_dict_get_default (nestKind X.prog X.w) a b hd r) ⟨q59 hu,k,xs,q9a I.hok nk ok,dd,h _ _ (I.tok _) ((J.val k).getD rd)⟩
theorem qn5 {Q:Unit ->Shared ->Prop} (hu:A.units+64 < cLine) (I:Inv X pins σ H s) (g:DN X.prog X.w H a kvs) (nk:NAt H k (.ref b)) (ok:NOk k) (l:kvs.length < sizeLine) (rv:RelV v r) (h:∀ o s',DN X.prog X.w (upd H a o) a (putK kvs k v) ->Inv X pins σ (upd H a o) s' ->Q () s'):
  wpAny (model X.prog X.w) A (setItem (.ref a) (.ref b) r) Q E s:=by
 obtain ⟨z,hd,xs,e,O,dd⟩:=q64 I.hok g;have hz:xs.length<=sizeLine:=by rw [<- Paired.length O];exact z
 refine wpAny_setItem_heap (hsz:=hz) (q59 hu) (q9a I.hok nk ok) dd λ h' Y hs=> ?_;obtain ⟨q,es,ep,hq,h2,h3,h4,_,h5⟩:=Y;have J:=(O.put k ⟨nk,ok⟩ rv);have hl:(storedH xs k b r).length<=sizeLine:=by
  rw [<- Paired.length J];have:=q4z kvs k v
  lia
 have U:KN (upd H a (.ext (dNφ X.prog X.w a (storedH xs k b r)))) (putK kvs k v) (storedH xs k b r):=J.keeps λ c ys ec=>by
  rw [qh (λ z=>by rw [z,e] at ec;cases ec)];exact ec
 exact h (.ext (dNφ X.prog X.w a (storedH xs k b r))) _ ⟨_,q5,U⟩ (q7n I (by rw [e];exact True.intro) hs ⟨q,hq⟩ (ql5 ⟨hd,hl,q,es,ep,hq,h2,h3,h4,h5⟩))
end
def qvj (P:Program) (w:World):TE:=λ σ H Q=>∀ p o,H p=none ->DN P w (upd H p o) p [] ->Q (.ref p) (upd H p o)
def qvk (P:Program) (w:World) (td ty:TE):TE:=λ σ H Q=>td σ H λ x H1=>ty σ H1 λ y H2=>∃ a b kvs k v,x= .ref a/\y= .ref b/\DN P w H2 a kvs/\NAt H2 k (.ref b)/\NOk k/\valV kvs k=some v/\Q v H2
def tNIn (P:Program) (w:World) (ty td:TE):TE:=λ σ H Q=>ty σ H λ y H1=>td σ H1 λ x H2=>∃ a b kvs k,x= .ref a/\y= .ref b/\DN P w H2 a kvs/\NAt H2 k (.ref b)/\NOk k/\Q (.bl (valV kvs k).isSome) H2
def qu3 (P:Program) (w:World) (td ty tx:TE):TE:=λ σ H Q=>td σ H λ x H1=>∃ a,x= .ref a/\(∃ kvs,DN P w H1 a kvs)/\ty σ H1 λ y H2=>tx σ H2 λ z H3=>∃ b kvs k,y= .ref b/\DN P w H3 a kvs/\NAt H3 k (.ref b)/\NOk k/\Q ((valV kvs k).getD z) H3
def qvl (P:Program) (w:World) (td ty tv:TE):TS:=λ D σ H=>tv σ H λ v H1=>td σ H1 λ x H2=>ty σ H2 λ y H3=>∃ a b kvs k,x= .ref a/\y= .ref b/\DN P w H3 a kvs/\NAt H3 k (.ref b)/\NOk k/\kvs.length < sizeLine/\∀ o,DN P w (upd H3 a o) a (putK kvs k v) ->D.nx σ (upd H3 a o)
section
variable {X:Cx} {P:Program} {w:World} {o i e f value:Expr} {pos pos' tpos apos cpos:Pos} {td ty tv tx:TE}
theorem qba {pins:List (Addr×Obj)} {σ:St} {H:Hp} {s:Shared} {a:Addr} {kvs:List (NK×V)} (I:Inv X pins σ H s) (g:DN X.prog X.w H a kvs):s.TypeIs (.ref a) "dict":=by
 obtain ⟨_,_,xs,_,_,dd⟩:=q64 I.hok g;exact dd.typeIs
theorem q7u (hP:X.prog=P:=by rfl) (hw:X.w=w:=by rfl):PE X (.Dict [] [] pos) (qvj P w):=by
 subst hP hw;intro pins s σ H Q I h;have J:(s.heap.objs.size==sysModules)=false:=beq_eq_false_iff_ne.mpr (Ne.symm (z3h I.big));have new:dNφ X.prog X.w s.heap.objs.size [] (s.heap.push {cls:= .type "dict",data:= .dict #[]}):=⟨J,z3s _,_,#[],0,z15 _ rfl,⟨rfl,rfl,rfl⟩,rfl,rfl,z30⟩;exact wpAny_Dict_empty ⟨.ref s.heap.objs.size,_,I.laid (a:=s.heap.objs.size) (o:= .ext (dNφ X.prog X.w s.heap.objs.size [])) (t':=s.toks) (λ _ _ q=>z0j _ q) (z3p _) (ql5 new),zr,h _ _ (I.hok.fresh (z3p _)) ⟨[],q5,.nil⟩⟩
theorem qa0 (hu:X.A.units+64 < cLine) (ho:PE X o td) (hi:PE X i ty) (hs:NoSl i) (hP:X.prog=P:=by rfl) (hw:X.w=w:=by rfl):PE X (.Subscript o i pos) (qvk P w td ty):=by
 subst hP hw;intro pins s σ H Q I h;refine qjw PySem.F.slot_dict_getitem.lookup hs (thn (ho pins s σ H _ I h) λ u s1 ⟨x,H1,I1,rx,q1⟩=>thn (hi pins s1 σ H1 _ I1 q1) λ iv s2 O=> ?_);obtain ⟨y,H2,I2,ry,a,b,kvs,k,v,ex,ey,g,nk,ok,l,q2⟩:=O;subst ex ey;obtain rfl:u=Value.ref a:=rx;obtain rfl:iv=Value.ref b:=ry;exact ⟨qba I2 g,qn4 hu I2 g nk ok l λ w' s3 I3 J=>⟨v,H2,I3,J,q2⟩⟩
theorem qu4 (hu:X.A.units+64 < cLine) (hi:PE X i ty) (ho:PE X o td) (hP:X.prog=P:=by rfl) (hw:X.w=w:=by rfl):PC X .In i o (tNIn P w ty td):=by
 subst hP hw;intro pins s σ H Q I h;refine thn (hi pins s σ H _ I h) λ iv s1 ⟨y,H1,I1,ry,q1⟩=>thn (ho pins s1 σ H1 _ I1 q1) λ u s2 J=> ?_;obtain ⟨x,H2,I2,rx,a,b,kvs,k,ex,ey,g,nk,ok,q2⟩:=J;subst ex ey;obtain rfl:u=Value.ref a:=rx;obtain rfl:iv=Value.ref b:=ry;exact n_in hu I2 g nk ok λ s3 I3=>⟨.bl (valV kvs k).isSome,H2,I3,zr,q2⟩
theorem q7v (hu:X.A.units+64 < cLine) (ho:PE X o td) (hi:PE X i ty) (hv:PE X value tv) (hs:swapsWith value (some (.Subscript o i pos')) pos.line X.env=pure false) (hP:X.prog=P:=by rfl) (hw:X.w=w:=by rfl):
  PS X (.Assign [.Subscript o i pos'] value pos) (qvl P w td ty tv):=by
 subst hP hw;intro pins s σ H D I h;refine wpAny_Assign_Subscript (thn (hv pins s σ H _ I h) λ r s1 ⟨v,H1,I1,rv,q1⟩=>thn (ho pins s1 σ H1 _ I1 q1) λ u s2 ⟨x,H2,I2,rx,q2⟩=>thn (hi pins s2 σ H2 _ I2 q2) λ iv s3 J=> ?_) hs;obtain ⟨y,H3,I3,ry,a,b,kvs,k,ex,ey,g,nk,ok,l,q3⟩:=J;subst ex ey;obtain rfl:u=Value.ref a:=rx;obtain rfl:iv=Value.ref b:=ry;exact qn5 hu I3 g nk ok l rv λ o s4 dn I4=>⟨σ,_,I4,q3 o dn⟩
theorem qhv (hu:X.A.units+64 < cLine) (ho:PE X o td) (he:PE X e ty) (hf:PE X f tx) (m:M2 X o "get" apos e f cpos) (hP:X.prog=P:=by rfl) (hw:X.w=w:=by rfl):PE X (.Call (.Attribute o "get" apos) [e,f] [] cpos) (qu3 P w td ty tx):=by
 subst hP hw;intro pins s σ H Q I h;refine wpAny_Call_method m.base m.few m.line PySem.F.plainAttrs_dict PySem.F.slot_dict_get PySem.F.type_dict_get (thn (ho pins s σ H _ I h) λ u s1 U=> ?_);obtain ⟨x,H1,I1,rx,a,ex,⟨kv0,d⟩,q1⟩:=U;subst ex;obtain rfl:u=Value.ref a:=rx;have t2:∀ b,Value.ref a= .ref b ->∃ J,s1.heap.get? b=some J/\J.dict=none:=λ b q=>by
  cases q
  obtain ⟨_,_,xs,_,_,J,_,_,h1,h2,_⟩:=q64 I1.hok d;exact ⟨J,h1,h2.2.1⟩
 refine ⟨qba I1 d,t2,?_⟩;rw [m.trees];refine Calls.callWith_builtin rfl (Calls.evalArgs_plain (Calls.spliced_cons (thn (he pins s1 σ H1 _ I1 q1) λ iv s2 ⟨y,H2,I2,ry,q2⟩=>
  Calls.spliced_cons (thn (hf pins s2 σ H2 _ I2 q2) λ fv s3 ⟨z,H3,I3,rz,b,kvs,k,ey,g,nk,ok,q3⟩=>Calls.spliced_nil ?_))))
 subst ey;obtain rfl:iv=Value.ref b:=ry;exact qu2 hu I3 g nk ok rz λ w' s4 I4 O=>⟨_,H3,I4,O,q3⟩
end
end L2
namespace L2
open PySem PySem.Spec PyProof.Rows PySem.W
section
variable {prog:Program} {w:World} {A:Around} {E:Value ->Shared ->Prop} {s:Shared}
theorem qap {fin:Bool} {Q:Bool ->Shared ->Prop}:∀ (l:List (Value×Value)) (i:Nat) (s:Shared),KatLex prog w A true fin Q l (i+1) s=KatLex prog w A false fin Q l (i+1) s
  | [],_,_=>rfl
  | (p,q)::r,i,s=>by
    have e:(λ (e:Bool) (s':Shared)=>if e=true then KatLex prog w A true fin Q r (i+1+1) s' else wpAny (model prog w) A (oneLt' (true&&i+1==0) p q) Q (λ _ _=>False) s')=λ e s'=>if e=true then KatLex prog w A false fin Q r (i+1+1) s' else wpAny (model prog w) A (oneLt' (false&&i+1==0) p q) Q (λ _ _=>False) s':=by
      funext e s'
      rw [qap r (i+1) s'];rfl
    show wpAny (model prog w) A (eqBool p q) _ _ s=wpAny (model prog w) A (eqBool p q) _ _ s;rw [e]
def STAt (h:Heap) (v:Value):Prop:=∃ z ds as,Reads h v (.tuple (.str z::ds)) as
theorem qfb:∀ (vs:List Value),(∀ v∈vs,STAt s.heap v) ->∃ fs:List (Option Value),(∀ (M:Model) (A:Around) (E:Value ->Shared ->Prop) (Q:List (Option Value) ->Shared ->Prop),Q fs s ->wpAny M A (vs.mapM firstOfTuple') Q E s)/\fs.length=vs.length/\
  ∀ f∈fs,∃ x t,f=some (.str x t)
 | [],_=>⟨[],λ M A E Q q=>by rw [List.mapM_nil];exact z3u q,rfl,λ _ z=>nomatch z⟩
 | v::vs,h=>by
  obtain ⟨fs,g1,g2,g3⟩:=qfb vs λ u hu=>h u (z0z _ hu);obtain ⟨z,ds,as,hr⟩:=h v (z1f ..);cases hr with
  | @tuple b o its n _ _ h1 h2 h3 h4=>
   refine ⟨its[0]? ::fs,λ M A E Q q=> ?_,by rw [z24,g2,z24],λ f J=> ?_⟩
   ·rw [List.mapM_cons];refine z3v ?_;rw [kas_first_eq];refine z3v (Looks.here (show Looks M s.heap (typeOf (.ref b)) o.cls from (Looks.ld h1).andThen .now) ?_);rw [h2,if_neg (by decide)];refine z3v (listItems_at h1 h3 (z3u ?_));exact z3v (g1 M A E (λ bs s'=>wpAny M A (pure (its[0]? ::bs)) Q E s') (z3u q))
   ·rcases z35.mp J with rfl | J
    ·rw [<- z0s];revert h4;generalize its.toList=l;intro h4;cases h4 with
     | @cons _ d _ _ _ _ r1 rs=>
      cases r1 with
      | str x t=>exact ⟨_,t,rfl⟩
    ·exact g3 f J
theorem qs4 {vs:List Value} (h:∀ v∈vs,STAt s.heap v) (h2:2<=vs.length):∀ (M:Model) (A:Around) (E:Value ->Shared ->Prop) (Q:SortKind ->Shared ->Prop),Q (tuples' true) s ->wpAny M A (keyKind' vs.toArray) Q E s:=by
 obtain ⟨fs,g1,Z,g3⟩:=qfb vs h;have J:(fs.toArray.all λ x=>x.isSome)=true:=by
  simp only [List.all_toArray,z29];intro f U;obtain ⟨x,t,rfl⟩:=g3 f U;rfl
 intro M A E Q q;rw [kat_kind_eq,z1z,map_eq_pure_bind];refine z3v (z3v (g1 M A E _ (z3u ?_)));rw [if_pos J];refine z3v (z3t ?_);obtain ⟨f1,fr,e⟩:∃ f1 fr,fs=f1::fr:=by
  cases e:fs with
  | nil=>rw [e] at Z;simp at Z;lia
  | cons f1 fr=>exact ⟨f1,fr,rfl⟩
 have hs:∀ v∈fs.filterMap id,∃ x t,v= .str x t:=λ v hv=>by
  obtain ⟨f,U,e⟩:=List.mem_filterMap.mp hv;obtain ⟨x,t,rfl⟩:=g3 f U;exact ⟨x,t,(Option.some.inj e).symm⟩
 have Y:fs.toArray.filterMap id=(fs.filterMap id).toArray:=by simp
 rw [Y,oneTypeOnly'_eq,z1z,q7f _ hs];simp only [map_pure,pure_bind];have h0:∃ v O,fs.filterMap id=v::O:=by
  rw [e] at J ⊢;cases f1 with
  | none=>simp at J
  | some v=>exact ⟨v,fr.filterMap id,rfl⟩
 obtain ⟨v,O,ev⟩:=h0;rw [ev];have ha:((List.map (λ _=>Value.type "str") (v::O)).toArray.all λ x=>x==Value.type "str")=true:=by
  simp only [List.all_toArray,z3n,z29];intro _ _;rfl
 have hz:(List.map (λ _=>Value.type "str") (v::O)).toArray[0]? =some (Value.type "str"):=by simp
 rw [hz];simp only [ha,if_true,pure_bind];exact z3u q
theorem qu5 {x y:Value} {z J:Str} {ds es:List PyData} {as bs:List Addr} {r:Bool} (hx:Reads s.heap x (.tuple (.str z::ds)) as) (hy:Reads s.heap y (.tuple (.str J::es)) bs) (lx:(PyData.tuple (.str z::ds)).canLay0=true) (ly:(PyData.tuple (.str J::es)).canLay0=true) (hu:A.units+64 < cLine) (hd:(PyData.tuple (.str z::ds)).depth<=50)
  (e:ltD? (.tuple (.str z::ds)) (.tuple (.str J::es))=some r):Tim.KLt prog w A s (tuples' true) x y r:=by
 have hd':PyData.depthAll (.str z::ds)+1<=50:=hd;have e':lexD? (.str z::ds) (.str J::es)=some r:=by rw [ltD?] at e;exact e
 intro E Q k;cases hx with
 | @tuple b o its n _ _ h1 h2 h3 h4=>
  cases hy with
  | @tuple b' o' its' n' _ _ k1 k2 k3 Z=>
   refine kat_lt h1 h3 k1 k3 ?_;have hf:decide (its.size < its'.size)=decide (its.toList.length < its'.toList.length):=by rw [z12,z12]
   rw [hf];revert h4 Z;generalize its.toList=vs;generalize its'.toList=ws;intro h4 Z;have a1:PyData.canLayAll0 (.str z::ds)=true:=lx;have a2:PyData.canLayAll0 (.str J::es)=true:=ly;have O:(PyData.str z).canLay0=true/\PyData.canLayAll0 ds=true:=by simpa [PyData.canLayAll0] using a1
   have U:(PyData.str J).canLay0=true/\PyData.canLayAll0 es=true:=by simpa [PyData.canLayAll0] using a2
   cases h4 with
   | @cons v vr _ _ as1 as2 r1 rs=>
    cases Z with
    | @cons v' vr' _ _ bs1 bs2 Y a3=>
     have hm:min (PyData.depthAll ds) (PyData.depthAll es)<=PyData.depthAll (.str z::ds):=by
      show _<=max 0 (PyData.depthAll ds)
      lia
     rw [z1j];have eq:=SeqAt.eqAt_reads (.str z) (.str J) A s _ _ _ _ r1 Y O.1 U.1 (by show A.units+min 0 0 < cLine;lia);refine kat_cons (eq prog w _ _ ?_);rw [lexD?] at e';cases q:PyData.eqv (.str z) (.str J) with
     | true=>
      rw [if_pos q] at e';refine kat_yes ?_;rw [qap];exact q96 ds es _ _ _ _ 1 rs a3 O.2 U.2 (by lia) (by simp) e' k
     | false=>
      rw [if_neg (by rw [q];exact z1b)] at e';refine kat_no ?_;cases r1 with
      | str _ t=>
       cases Y with
       | str _ u=>
        have e2:decide (z.cps.toList < J.cps.toList)=r:=by
         rw [ltD?] at e';exact Option.some.inj e'
        refine qcd _ z J t u ?_;show Q (decide (z.cps.toList < J.cps.toList)) s;rw [e2];exact k
end
mutual
theorem NAt.inj {H:Hp}:∀ {x y:NK} {v:V},NAt H x v ->NAt H y v ->x=y
 | .leaf k,.leaf j,v,hx,hy=>by
  rw [NAt] at hx;rw [NAt] at hy;rw [qtd (hx.symm.trans hy)]
 | .leaf k,.tup ys,v,hx,hy=>by
  rw [NAt] at hx;rw [NAt] at hy;obtain ⟨a,_,e,_⟩:=hy;rw [hx] at e;cases k <;> cases e
 | .tup xs,.leaf k,v,hx,hy=>by
  rw [NAt] at hx;rw [NAt] at hy;obtain ⟨a,_,e,_⟩:=hx;rw [hy] at e;cases k <;> cases e
 | .tup xs,.tup ys,v,hx,hy=>by
  rw [NAt] at hx;rw [NAt] at hy;obtain ⟨a,vs,rfl,h1,h2⟩:=hx;obtain ⟨a',vs',e,J,g2⟩:=hy;injection e with e;subst e;rw [h1] at J;injection J with J;injection J with J;subst J;rw [NAts.inj h2 g2]
theorem NAts.inj {H:Hp}:∀ {x y:List NK} {vs:List V},NAts H x vs ->NAts H y vs ->x=y
 | [],[],_,_,_=>rfl
 | [],y::r,vs,hx,hy=>by
  rw [NAts] at hx;rw [NAts] at hy;obtain ⟨v,J,e,_⟩:=hy;rw [hx] at e;cases e
 | x::r,[],vs,hx,hy=>by
  rw [NAts] at hx;rw [NAts] at hy;obtain ⟨v,J,e,_⟩:=hx;rw [hy] at e;cases e
 | x::r,y::t,vs,hx,hy=>by
  rw [NAts] at hx;rw [NAts] at hy;obtain ⟨v,J,rfl,h1,h2⟩:=hx;obtain ⟨v',vr',e,g1,g2⟩:=hy;cases e
  rw [NAt.inj h1 g1,NAts.inj h2 g2]
end
abbrev PR:=Str×List Key
def pN (p:PR):NK:= .tup [.leaf (.inr p.1),.tup (p.2.map NK.leaf)]
theorem qfc:∀ {a b:List Key},a.map NK.leaf=b.map NK.leaf ->a=b
 | [],[],_=>rfl
 | [],_::_,e=>nomatch e
 | _::_,[],e=>nomatch e
 | x::a,y::b,e=>by
  rw [z33,z33] at e;injection e with e1 e2;injection e1 with e1;rw [e1,qfc e2]
theorem qck {p q:PR} (e:pN p=pN q):p=q:=by
 unfold pN at e;injection e with e;injection e with e1 e2;injection e2 with e2 _;injection e1 with e1;injection e1 with e1;injection e2 with e2;exact Prod.ext e1 (qfc e2)
def PrAt (H:Hp) (v:Value) (p:PR):Prop:=∃ b,v=Value.ref b/\NAt H (pN p) (.ref b)
theorem PrAt.inj {H:Hp} {v:Value} {p q:PR} (h:PrAt H v p) (g:PrAt H v q):p=q:=by
 obtain ⟨b,rfl,h1⟩:=h;obtain ⟨b',e,g1⟩:=g;cases e
 exact qck (h1.inj g1)
open Classical in
noncomputable def decP (H : Hp) (v : Value) : PR := if h : ∃ p, PrAt H v p then Classical.choose h else (Str.empty, [])
theorem qa1 {H:Hp} {v:Value} {p:PR} (h:PrAt H v p):decP H v=p:=by
 unfold decP;rw [dif_pos ⟨p,h⟩];exact PrAt.inj (Classical.choose_spec (⟨p,h⟩:∃ p,PrAt H v p)) h
def DP (P:Program) (w:World) (H:Hp) (a:Addr) (kvs:List (PR×V)):Prop:=DN P w H a (kvs.map λ kv=>(pN kv.1,kv.2))
def qn6 (P:Program) (w:World) (K:PySem.W.Frag) (sp:Sp) (t:TA):TE:=λ σ H Q=>t σ H λ vs H1=>∃ (d:Addr) (kvs:List (PR×V)) (kd:PR ->PyData) (lt:PR ->PR ->Bool),vs=[.ref d]/\DP P w H1 d kvs/\Tim.STO lt/\
 (∀ a∈kvs.map (·.1),∀ b∈kvs.map (·.1),ltD? (kd a) (kd b)=some (lt a b))/\
 (∀ a∈kvs.map (·.1),(∃ z ds,kd a= .tuple (.str z::ds))/\(kd a).depth<=50)/\
 (∀ a∈kvs.map (·.1),∀ b H2 (R:VK),Same H1 H2 ->NAt H2 (pN a) (.ref b) ->(∀ v H3,Same H2 H3 ->Dat K H3 (kd a) v ->R v H3) ->sp [.ref b] H2 R E0)/\
 (∀ l zs H2,Same H1 H2 ->H1 l=none ->H2 l=none ->Paired (λ x a=>∃ b,x=V.ref b/\NAt H1 (pN a) (.ref b)) zs (Tim.srt lt (kvs.map (·.1))) ->Q (.ref l) (upd H2 l (.lst zs)))
section
variable {X:Cx} {P:Program} {w:World} {k k':Nat} {x p1:Str} {sp:Sp} {e:Expr} {t:TA} {p pos kpos xp:Pos}
theorem q5e (P:Program) (w:World) (K:PySem.W.Frag) (D:Def X.prog X.w X.K X.mg X.base k x [p1] sp) (hr:Room k' X.A) (hc:X.calm=true) (hg:Gl X "sorted") (c5:X.mg "sorted"=none) (hv:bootBuiltins "sorted"=some (.builtin "sorted")) (hgx:Gl X x) (ha:PA X [e] t)
  (c1:k+2<=k':=by decide) (hK:X.K=K:=by rfl) (hP:X.prog=P:=by rfl) (hw:X.w=w:=by rfl) (c0:(x==("__debug__":Str))=false:=by decide) (c8:(backTo pos (starEach [e] X.env)).any (·.1)=false:=by rfl) (he:backTo pos (starEach [e] X.env)=(false,eval e X.env)::backTo pos (starEach [] X.env):=by rfl):
  PE X (.Call (.Name "sorted" p) [e] [⟨some "key",.Name x xp,kpos⟩] pos) (qn6 P w K sp t):=by
 subst hK hP hw;intro pins s σ H Q I h;obtain ⟨f,fd,F,hm,hk,hb⟩:=D.ex;have b4:=hr.mono c1;have c4:=qda (X:=X) (nm:="key") (kpos:=kpos) (qot (pos:=xp) hgx hm c0) qhb;refine z1i (q53 I hg c5 hv ?_);refine callWith_kw (thn (ha pos pins s σ H _ I h) λ us s1 ⟨vs,H1,I1,r1,q1⟩=>thn (c4 pos pins s1 σ H1 (λ ws H2=>ws=[.ref f]/\H2=H1) I1 ⟨zr,zr⟩) λ ws s2 d0=> ?_) he c8;obtain ⟨zs,H2,I2,rz,q2,q3⟩:=d0;subst q2 q3;obtain ⟨d,kvs,kd,lt,rfl,hd,b6,b2,O,b5,q⟩:=q1;obtain ⟨u,rfl,ru⟩:=q2b r1;cases ru
 obtain ⟨u,rfl,ru⟩:=q2b rz;cases ru
 obtain ⟨hz,c7,es0,c9,a4,o,es,ep,ho,hx,Z,a2,a7,c6⟩:=q64 I2.hok hd;rw [z2l] at hz;have J:Paired (PrAt H2) (es.toList.map (·.key)) (kvs.map (·.1)):=by
  rw [a2,z3o];clear hz a2 Z ho q hd c6 b2 O b5 c9 a7;generalize Y:(kvs.map λ kv:PR×V=>(pN kv.1,kv.2))=kv2 at a4
  induction a4 generalizing kvs with
  | nil=>
   cases kvs with
   | nil=>exact .nil
   | cons c r=>cases Y
  | @cons c c' ps qs a rr ih=>
   cases kvs with
   | nil=>cases Y
   | cons kv r=>
    rw [z33] at Y;injection Y with e1 e2;refine .cons ⟨_,zr,?_⟩ (ih r e2);rw [show pN kv.1=c.1 by rw [<- e1]];exact a.2.1.1
 have U:(es.toList.map (·.key)).length=kvs.length:=by
  rw [a2,z2l,z2l,<- Paired.length a4,z2l]
 have hl:(es.toList.map (·.key)).length<=sizeLine:=by rw [U];exact hz
 have a9:(kvs.map (·.1)).length=(es.toList.map (·.key)).length:=by rw [z2l,U]
 have mem:∀ v∈es.toList.map (·.key),∃ b,v=Value.ref b/\NAt H2 (pN (decP H2 v)) (.ref b):=λ v hv=>by
  obtain ⟨a,_,ha⟩:=q97 J hv;have e9:=qa1 ha;obtain ⟨b,rfl,hb⟩:=ha;exact ⟨b,rfl,by rw [e9];exact hb⟩
 have ev:(es.toList.map (·.key)).map (decP H2)=kvs.map (·.1):=(q42 (f:=decP H2) J λ v p h=>qa1 h).1;show wpAny _ _ (call (.builtin "sorted") [.ref d] [(Str.ofString "key",.ref f)]) _ _ s2;refine call_function_entry_kw kind_sorted plain_sorted entry_sorted (ksk_s1 _ _) ?_;unfold Builtin.«sorted»;refine z3v (m:=checkCount "sorted" 1 1 _) (z3u ?_);refine z3v (q7d (I2.ok.hd hc) c7 ⟨o,ho,hx,Z⟩ (by rw [z2l,z12] at hl;exact hl) λ h1 tk keep hsz=> ?_);generalize es.toList.map (·.key)=vs at J U hl a9 mem ev;refine z3v (wpAny_newList ?_ hl);have b3:(h1.push (seqObj "list" vs.toArray 0)).get? h1.objs.size=some (seqObj "list" vs.toArray 0):=z15 _ rfl;have a3:∀ b o,s2.heap.get? b=some o ->(h1.push (seqObj "list" vs.toArray 0)).get? b=some o:=λ b o e=>z0j _ (keep b o e);show wpAny _ _ _ _ _ {s2 with heap:=h1.push (seqObj "list" vs.toArray 0),toks:=tk};have I3:Inv X pins σ H2 {s2 with heap:=h1.push (seqObj "list" vs.toArray 0),toks:=tk}:=I2.kept a3;have a8:H2 h1.objs.size=none:=I2.hok.fresh hsz;have fa:FpOk X pins H2 h1.objs.size:=I2.fpOk hsz a8;refine z3v (z36 (wpAny_call_entry_kw slot_list_sort ⟨_,b3,zr⟩ entry_list_sort ?body (ksk_l1 _ _)))
 case body=>
  show wpAny (model X.prog X.w) X.A.in1.in1 (Builtin.«list.sort» ⟨[.ref h1.objs.size],[(Str.ofString "key",.ref f)]⟩) _ _ _;rw [ksk_t1];refine qou (rk:=λ v=>Tim.rank lt (vs.map (decP H2)) (decP H2 v)) I3 b3 fa hl (λ i ks H'=>Same H2 H'/\Paired (λ k a=>∃ x,RelV x k/\Dat X.K H' (kd a) x) ks ((kvs.map (·.1)).take i)) ⟨Same.refl _,.nil⟩ (λ i v ks pins' H' s' hv lk hj I'=> ?_) (λ ks pins' H' s' lk hj I' h2=> ?_) λ ks H' s' out c hj so I' a6 g=>⟨_,zr,?_⟩
  ·obtain ⟨sm,hp⟩:=hj;obtain ⟨a,ha,b,rfl,b9⟩:=qf7 J hv;refine z3w (qrx (Q:=λ v H3=>Same H' H3/\Dat X.K H3 (kd a) v) (vs:=[V.ref b]) F b4 hb I' (.cons (show RelV (V.ref b) (Value.ref b) from rfl) .nil) (b5 a (z11 ha) b H' _ sm (b9.same sm) λ v H3 s3 d3=>⟨s3,d3⟩)) (λ u s'' z=> ?_) λ _ _ z=>z;obtain ⟨y,H3,b7,ry,s3,d3⟩:=z;refine ⟨H3,b7,sm.trans s3,?_⟩;rw [z31,ha];exact qcf (Paired.mapP hp λ k a ⟨x,rx,dx⟩=>⟨x,rx,Dat.same s3 _ _ dx⟩) ⟨y,ry,d3⟩
  ·obtain ⟨sm,hp⟩:=hj;rw [z0i (by rw [a9];exact z3p _)] at hp;have rd:∀ k a,a∈kvs.map (·.1) ->(∃ x,RelV x k/\Dat X.K H' (kd a) x) ->∃ as,Reads s'.heap k (kd a) as/\(kd a).canLay0=true:=λ k a _ ⟨x,rx,dx⟩=>by
    obtain ⟨as,hr⟩:=Dat.reads I' _ _ _ dx rx;exact ⟨as,hr,Dat.lay _ _ dx⟩
   have tt:∀ k∈ks,STAt s'.heap k:=λ k hk=>by
    obtain ⟨a,ha,hx⟩:=q97 hp hk;obtain ⟨as,hr,_⟩:=rd k a ha hx;obtain ⟨⟨z,ds,ed⟩,_⟩:=O a ha;rw [ed] at hr;exact ⟨z,ds,as,hr⟩
   have kk:=qs4 (s:=s') tt (by lia);refine ⟨tuples' true,λ E Q z=>kk _ _ E Q z,λ x hx y hy=> ?_⟩;obtain ⟨a,ha,fx,gx⟩:=q8f hp J x hx;obtain ⟨b,a1,fy,gy⟩:=q8f hp J y hy;obtain ⟨as,rx,lx⟩:=rd _ a ha fx;obtain ⟨bs,ry,ly⟩:=rd _ b a1 fy;have e0:=b2 a ha b a1;have e1:=Tim.qb8 b6 (decP H2) (List.of_mem_zip hx).2 (List.of_mem_zip hy).2;rw [<- e1,qa1 gx,qa1 gy];obtain ⟨⟨z,ds,ed⟩,a5⟩:=O a ha;obtain ⟨⟨z',ds',b8⟩,_⟩:=O b a1;rw [ed] at rx lx e0 a5;rw [b8] at ry ly e0;exact qu5 rx ry lx ly b4.in1.in1.units a5 e0
  ·have ed:=Tim.q50 b6 (decP H2) so;rw [ev] at ed;have mo:∀ v∈out.toList,∃ b,v=Value.ref b/\NAt H2 (pN (decP H2 v)) (.ref b):=λ v hv=>mem v (so.perm.mem_iff.mp hv);obtain ⟨zs,rv,hp⟩:∃ zs:List V,Vals zs out.toList/\Paired (λ x a=>∃ b,x=V.ref b/\NAt H2 (pN a) (.ref b)) zs (out.toList.map (decP H2)):=by
    revert mo;generalize out.toList=os;intro mo
    induction os with
    | nil=>exact ⟨[],.nil,.nil⟩
    | cons v os ih=>
     obtain ⟨zs,r1,r2⟩:=ih λ u hu=>mo u (z0z _ hu);obtain ⟨b,e,hb⟩:=mo v (z1f ..);exact ⟨.ref b::zs,.cons e r1,.cons ⟨b,zr,hb⟩ r2⟩
   rw [ed] at hp;refine z3u ⟨_,rfl,.ref h1.objs.size,upd H' h1.objs.size (.lst zs),I'.track a6 ⟨?_,out.toList,c,rv,by rw [Array.toArray_toList];exact g⟩,rfl,q _ zs H' hj.1 a8 a6.1 hp⟩;rw [rv.length,so.perm.length_eq];exact hl
end
end L2
namespace L2
open PySem PySem.Spec PyProof.Rows
section
variable {X:Cx}
end
section
variable {X:Cx}
end
section
variable {X:Cx}
end
section
variable {X:Cx}
end
section
variable {κ:Type} [DecidableEq κ]
def q2u (xs:List (κ×Addr×Value)) (k:κ):List (κ×Addr×Value):=xs.filter λ x=>decide (x.1≠k)
theorem qhw:∀ {xs:List (κ×Addr×Value)} {k:κ},¬ k∈xs.map (·.1) ->q2u xs k=xs
 | [],_,_=>rfl
 | x::r,k,h=>by
  have h1:x.1≠k:=λ e=>h (by rw [<- e];exact z1f ..);unfold q2u;rw [List.filter_cons_of_pos (by simpa using h1)];exact congrArg _ (qhw λ z=>h (z0z _ z))
theorem qfd {α β:Type} (f:α ->β):∀ (l:List α) (j:Nat),(l.map f).eraseIdx j=(l.eraseIdx j).map f
 | [],_=>rfl
 | _::_,0=>rfl
 | x::l,j+1=>congrArg (f x:: ·) (qfd f l j)
theorem qaq:∀ {xs:List (κ×Addr×Value)} {k:κ} {j:Nat} {p:Addr×Value},(xs.map (·.1)).Nodup ->xs[j]? =some (k,p) ->xs.eraseIdx j=q2u xs k
 | [],_,_,_,_,e=>by rw [List.getElem?_nil] at e;cases e
 | x::r,k,0,p,hn,e=>by
  rw [List.getElem?_cons_zero] at e;cases e
  rw [z33,z2n] at hn;show r=q2u ((k,p)::r) k;unfold q2u;rw [List.filter_cons_of_neg (by simp)];exact (qhw hn.1).symm
 | x::r,k,j+1,p,hn,e=>by
  rw [List.getElem?_cons_succ] at e;rw [z33,z2n] at hn;have h1:x.1≠k:=λ z=>hn.1 (by rw [z];exact z3m.mpr ⟨(k,p),z11 e,rfl⟩);rw [List.eraseIdx_cons_succ,qaq hn.2 e];unfold q2u;rw [List.filter_cons_of_pos (by simpa using h1)]
end
theorem KN.drop {H:Hp} {kvs:List (NK×V)} {xs:List (NK×Addr×Value)} (r:KN H kvs xs) (k:NK):KN H (q2l kvs k) (q2u xs k):=by
 induction r with
 | nil=>exact .nil
 | @cons p q ps qs h t J=>
  by_cases e:p.1=k
  ·have e':q.1=k:=h.1.symm.trans e;rw [q57 e];unfold q2u;rw [List.filter_cons_of_neg (by simp [e'])];exact J
  ·have e':q.1≠k:=λ z=>e (h.1.trans z);rw [q58 e];unfold q2u;rw [List.filter_cons_of_pos (by simpa using e')];exact .cons h J
section
variable {prog:Program} {w:World} {K:Type} [DecidableEq K] {knd:HeapKind prog w K} {A:Around} {E:Value ->Shared ->Prop} {s:Shared} {d a:Addr} {k:K} {xs:List (K×Addr×Value)} {p:Addr×Value}
theorem qn7 {Q:Option DictEntry ->Shared ->Prop} (hu:knd.room A) (hkey:knd.is s.heap k a) (hm:s.heap.DictOfH knd d xs) (hp:atKey xs k=some p) (hsz:xs.length<=sizeLine)
  (h:∀ e h',e.val=p.2 ->h'.DictOfH knd d (q2u xs k) ->Heap.SameBut d s.heap h' ->Q (some e) {s with heap:=h',toks:=s.toks+knd.draws k}):wpAny (model prog w) A (Builtin.Dict.takeOut d (.ref a)) Q E s:=by
 obtain ⟨o,es,ep,ho,hc,hd,O,J,hn⟩:=hm;unfold Builtin.Dict.takeOut
 try with_reducible refine z36 ?_
 refine z3v (knd.pyHash hu hkey (z3v (wpAny_dictFind_heap (s:={s with toks:=s.toks+knd.draws k}) hu hkey ho hd O J hn ?_ ?_)))
 ·intro Z;rw [atKey_none_of_get Z] at hp;cases hp
 ·intro j p' Y;rw [atKey_of_get hn Y] at hp;cases hp
  refine z3v (z1y (s:={s with toks:=s.toks+knd.draws k}) ho hd ?_);rw [entry_at O j,Y];have U:es.size<=sizeLine:=by rw [size_of_entries O];exact hsz
  refine z3v (wpAny_updateDictKeys (hz:=U) (s:={s with toks:=s.toks+knd.draws k}) ho hd (z3u (h _ _ rfl ⟨_,_,ep+1,z0t _ ho (Obj.isFreed_of_dict (Obj.data_mapDictKeys hd _)),
   hc.mapDictKeys _,Obj.data_mapDictKeys hd _,?_,?_,?_⟩ (z14 ..))))
  ·rw [<- qaq hn Y];have e1:(es.eraseIdxIfInBounds j).toList=es.toList.eraseIdx j:=by
    obtain ⟨l⟩:=es;simp
   rw [e1,O];exact qfd _ _ _
  ·intro x hx;exact knd.keeps (J x (z2i.mp hx).1) ho hd (z14 ..)
  ·exact hn.sublist ((List.filter_sublist ..).map _)
theorem ql6 (knd:HeapKind prog w K) (d a:Addr):MeetsIn prog w (Builtin.«dict.pop» ⟨[.ref d,.ref a],[]⟩) (λ A R s=>knd.room A.in1/\∃ k xs p,knd.is s.heap k a/\s.heap.DictOfH knd d xs/\xs.length<=sizeLine/\atKey xs k=some p/\
  ∀ h',h'.DictOfH knd d (q2u xs k) ->Heap.SameBut d s.heap h' ->R (.ok (.ret p.2)) {s with heap:=h',toks:=s.toks+knd.draws k}):=
 .of_wp λ A R s ⟨hu,k,xs,p,hkey,hm,hsz,hp,h⟩=>by
  unfold Builtin.«dict.pop»;refine z3v ?_;unfold Builtin.Dict.keyAndDefault;refine z3v (wpAny_notOrdered_dict hm.typeIs ?_);show wpAny _ _ (pure (d,Value.ref a,none)) _ _ s;refine z3u ?_;have Y:∀ {es:Array DictEntry},es.toList=xs.map (entryOfKey knd) ->es.isEmpty=false:=λ {es} J=>by
   have h0:es.size≠0:=λ z=>by
    rw [size_of_entries J] at z;rw [z0f.mp z] at hp;cases hp
   simpa [Array.isEmpty] using h0
  have h1:(keyPart (Value.ref a)).isSome=false:=rfl;simp only [h1,z1a,if_false];refine z3v ?_;obtain ⟨o,es,ep,ho,hc,hd,J,O,hn⟩:=hm;refine z1y ho hd (z3v (z3u ?_));rw [Y J];simp only [z1a,if_false];refine z3v (qn7 hu hkey ⟨o,es,ep,ho,hc,hd,J,O,hn⟩ hp hsz λ e h' ev U hs=> ?_);simp only [Option.isNone_some,z1a,if_false];exact z3v (wpAny_letGo (z3u ⟨e.val,rfl,by rw [ev];exact h h' U hs⟩))
end
section
variable {X:Cx} {pins:List (Addr×Obj)} {σ:St} {H:Hp} {s:Shared} {a b:Addr} {v:V} {A:Around} {E:Value ->Shared ->Prop} {kvs:List (NK×V)} {k:NK}
theorem qvm {Q:Value ->Shared ->Prop} (hu:A.units+64 < cLine) (I:Inv X pins σ H s) (g:DN X.prog X.w H a kvs) (nk:NAt H k (.ref b)) (ok:NOk k) (l:valV kvs k=some v) (h:∀ o w' s',DN X.prog X.w (upd H a o) a (q2l kvs k) ->Inv X pins σ (upd H a o) s' ->RelV v w' ->Q w' s'):
  wpAny (model X.prog X.w) A (call (.builtin "dict.pop") [.ref a,.ref b]) Q E s:=by
 obtain ⟨z,hd,xs,e,J,dd⟩:=q64 I.hok g;have hz:xs.length<=sizeLine:=by rw [<- Paired.length J];exact z
 obtain ⟨w',hw,Z⟩:=RelO.q7k (v:=v) (o:=(atKey xs k).map (·.2)) (by rw [<- l];exact J.val k);obtain ⟨p,hp,Y⟩:=z0l.mp hw;refine call_meetsIn PySem.F.slot_dict_pop dd.typeIs PySem.F.entry_dict_pop (PySem.F.args_dict_pop_2 _ _) (ql6 (nestKind X.prog X.w) a b) ⟨q59 hu,k,xs,p,q9a I.hok nk ok,dd,hz,hp,λ h' U hs=> ?_⟩;obtain ⟨q,es,ep,hq,h2,h3,h4,_,h5⟩:=U;have hl:(q2u xs k).length<=sizeLine:=z3i (List.length_filter_le _ _) hz;have O:KN (upd H a (.ext (dNφ X.prog X.w a (q2u xs k)))) (q2l kvs k) (q2u xs k):=(J.drop k).keeps λ c ys ec=>by
  rw [qh (λ z=>by rw [z,e] at ec;cases ec)];exact ec
 refine h (.ext (dNφ X.prog X.w a (q2u xs k))) _ _ ⟨_,q5,O⟩ (q7n I (by rw [e];exact True.intro) hs ⟨q,hq⟩ (ql5 ⟨hd,hl,q,es,ep,hq,h2,h3,h4,h5⟩)) ?_;rw [Y];exact Z
end
def qvn (P:Program) (w:World) (td ty:TE):TE:=λ σ H Q=>td σ H λ x H1=>∃ a,x= .ref a/\(∃ kvs,DN P w H1 a kvs)/\ty σ H1 λ y H2=>∃ b kvs k v,y= .ref b/\DN P w H2 a kvs/\NAt H2 k (.ref b)/\NOk k/\valV kvs k=some v/\∀ o,DN P w (upd H2 a o) a (q2l kvs k) ->Q v (upd H2 a o)
section
variable {X:Cx} {P:Program} {w:World} {o e:Expr} {apos cpos:Pos} {td ty:TE}
theorem qa2 (hu:X.A.units+64 < cLine) (ho:PE X o td) (he:PE X e ty) (m:M1 X o "pop" apos e cpos) (hP:X.prog=P:=by rfl) (hw:X.w=w:=by rfl):PE X (.Call (.Attribute o "pop" apos) [e] [] cpos) (qvn P w td ty):=by
 subst hP hw;intro pins s σ H Q I h;refine wpAny_Call_method m.base m.few m.line PySem.F.plainAttrs_dict PySem.F.slot_dict_pop PySem.F.type_dict_pop (thn (ho pins s σ H _ I h) λ u s1 U=> ?_);obtain ⟨x,H1,I1,rx,a,ex,⟨kv0,d⟩,q1⟩:=U;subst ex;obtain rfl:u=Value.ref a:=rx;have t2:∀ b,Value.ref a= .ref b ->∃ J,s1.heap.get? b=some J/\J.dict=none:=λ b q=>by
  cases q
  obtain ⟨_,_,xs,_,_,J,_,_,h1,h2,_⟩:=q64 I1.hok d;exact ⟨J,h1,h2.2.1⟩
 refine ⟨qba I1 d,t2,?_⟩;rw [m.trees];refine Calls.callWith_builtin rfl (Calls.evalArgs_plain (Calls.spliced_cons (thn (he pins s1 σ H1 _ I1 q1) λ iv s2 ⟨y,H2,I2,ry,b,kvs,k,v,ey,g,nk,ok,l,q2⟩=>Calls.spliced_nil ?_)));subst ey;obtain rfl:iv=Value.ref b:=ry;exact qvm hu I2 g nk ok l λ o w' s3 dn I3 O=>⟨v,_,I3,O,q2 o dn⟩
end
structure MDefE (P:Program) (w:World) (K:PySem.W.Frag) (mg:Str ->Option Value) (base:Heap) (k:Nat) (C:Addr) (m:Str) (ps:List Str) (sp:Sp):Prop where
 ex:∃ f fd,FnOk P w K mg base (CXE P w) k f fd ps sp/\Meth K C m f/\Binds K fd ps []
section
variable {P:Program} {w:World} {K:PySem.W.Frag} {mg:Str ->Option Value} {base:Heap} {C:Addr} {m qual:Str} {st:Stmt} {N ps:List Str} {k:Nat} {sp:Sp}
theorem MTop.okE (T:MTop K C m qual st ps) (S:FnScope N ps (qc st)) (len:∀ vs H Q E,sp vs H Q E ->vs.length=ps.length)
  (J:∀ (f:Addr) (cdv:Value) (A:Around) (outer:List Env) (s:Shared) (H:Hp) (vs:List V) (Q:VK) (E:XK),Room k (A.deeper (envOfC qual (qc st) s.heap.objs.size f cdv)) ->sp vs H Q E ->
   ∃ t,PSs (cxOf (CXE P w) P w K mg base N qual (qc st) f cdv A outer s H E) (qw st) t/\t {nx:=λ _ H'=>Q .non H',rt:=Q} (start N vs) H):MDefE P w K mg base (k+1) C m ps sp:=by
 obtain ⟨f,fd,F,hm,hb⟩:=T.ex;refine ⟨f,fd,?_,hm,Binds.all hb⟩;obtain ⟨oc,od,kV,doc,pm,an,cdv,ct,osl,rfl,lk,O⟩:=F.ex;exact qgo lk O S len (J f cdv)
theorem MDefE.toD (D:MDefE P w K mg base k C m ps sp):MDef P w K mg base k C m ps (λ vs H Q _=>sp vs H Q λ _ _ _=>False):=by
 obtain ⟨f,fd,F,hm,hb⟩:=D.ex;refine ⟨f,fd,⟨λ vs H Q E h=>F.len vs H Q _ h,λ A outer s H args us vs Q E hr he hb hv hs=> ?_⟩,hm,hb⟩;refine z3k (F.run A outer s H args us vs Q _ hr he hb hv hs) λ r s' z=> ?_;cases r with
 | error e=>
  obtain ⟨_,_,_,_,_,_,_,_,_,_,_,_,_,z⟩:=z;exact z
 | ok fl=>cases fl <;> exact z
end
section
variable {X:Cx} {k k':Nat} {C:Addr} {ps:List Str} {sp:Sp} {m:Str} {pos apos:Pos} {e o:Expr} {es:List Expr} {ta:TE} {t:TA} {E:XK}
theorem qhx {pl:Sem Bool} (D:MDefE X.prog X.w X.K X.mg X.base k C m ps sp) (hx:q2x (CXE X.prog X.w) X E) (c:Cls X.K C) (hr:Room k' X.A) (he:PE X o ta) (ha:PA X (e::es) t) (J:k<=k':=by decide)
  (U:starEach (e::es) X.env=(false,eval e X.env)::starEach es X.env:=by rfl) (O:(backTo pos (starEach es X.env)).any (·.1)=false:=by rfl)
  (ht:eval (.Call (.Attribute o m apos) (e::es) [] pos) X.env=(do
   let ov <- eval o X.env
   standAt apos.atName
   let (f,first) <- holding [ov] (getMethod ov m pl)
   callWith pos f first (backTo pos (starEach (e::es) X.env)) (backToKw pos (keywordEach [] X.env))):=by rfl):
  PE X (.Call (.Attribute o m apos) (e::es) [] pos) (qc6 C m sp [] E ta t):=by
 obtain ⟨f,fd,F,hm,hb⟩:=D.ex;exact qju he c hm F (hr.mono J) hb .nil hx ha U O ht
end
end L2
set_option maxHeartbeats 4000000
namespace Wy
open PySem L2
def top (i:Nat):Stmt:=PySem.Challenge.pw_whyrows_k75_ledger.main.body.getD i (.Pass ⟨0,0,0,0⟩)
abbrev qk4:Stmt:=top 0
abbrev q8g:Stmt:=top 5
abbrev q7g:Stmt:=top 7
abbrev q9b:Stmt:=top 8
abbrev q8h:Stmt:=top 9
abbrev q3s:Stmt:=top 10
abbrev q8i:Stmt:=top 12
abbrev ql7:Stmt:=top 14
abbrev q6i:Stmt:=top 16
abbrev q39:Stmt:=top 17
abbrev q8j:Stmt:=top 18
abbrev q5f:Stmt:=qp (top 20) 0
abbrev q4m:Stmt:=qp (top 20) 2
abbrev q4n:Stmt:=qp (top 20) 3
abbrev q3f:Stmt:=qp (top 20) 4
abbrev q3t:Stmt:=qp (top 20) 5
abbrev q4o:Stmt:=qp (top 20) 6
abbrev q5g:Stmt:=qp (top 20) 7
abbrev q44:Stmt:=qp (top 22) 0
abbrev q5h:Stmt:=qp (top 23) 0
abbrev q45:Stmt:=qp (top 23) 1
abbrev q5i:Stmt:=qp (top 23) 2
abbrev q46:Stmt:=qp (top 23) 3
abbrev q5j:Stmt:=qp (top 23) 4
abbrev q3g:Stmt:=qp (top 23) 5
abbrev q6j:Stmt:=qp (top 24) 0
abbrev q4p:Stmt:=qp (top 24) 1
abbrev q6k:Stmt:=qp (top 24) 2
abbrev q4q:Stmt:=qp (top 24) 3
abbrev q6l:Stmt:=qp (top 24) 4
abbrev q3u:Stmt:=qp (top 22) 0
abbrev q2y:Stmt:=qp (top 25) 0
abbrev q5k:Stmt:=qp (top 25) 1
abbrev q47:Stmt:=qp (top 25) 2
abbrev q5l:Stmt:=qp (top 25) 3
abbrev q48:Stmt:=qp (top 25) 4
abbrev q5m:Stmt:=qp (top 25) 5
abbrev q3h:Stmt:=qp (top 22) 0
abbrev q5n:Stmt:=qp (top 26) 0
abbrev q49:Stmt:=qp (top 26) 1
abbrev q5o:Stmt:=qp (top 26) 2
abbrev q4a:Stmt:=qp (top 26) 3
abbrev q5p:Stmt:=qp (top 26) 4
abbrev q3i:Stmt:=qp (top 22) 0
abbrev q4r:Stmt:=top 28
abbrev q5q:Stmt:=top 29
abbrev q6m:Stmt:=top 30
abbrev q5r:Stmt:=top 31
abbrev q6n:Stmt:=top 32
abbrev q8k:Stmt:=top 33
abbrev q8l:Stmt:=top 34
abbrev q6o:Stmt:=top 35
abbrev q4b:Stmt:=top 36
abbrev q7h:Stmt:=top 37
abbrev q6p:Stmt:=top 38
abbrev q6q:Stmt:=top 39
abbrev q4s:Stmt:=top 40
abbrev q4t:Stmt:=top 41
abbrev q4u:Stmt:=top 42
abbrev ql8:Stmt:=top 43
local macro_rules | `(tactic| k_updF)=>`(tactic| exact ⟨rfl,rfl,rfl,by decide+kernel,rfl,by decide+kernel,by decide+kernel⟩)
theorem qja:FnScope ["thing"] ["thing"] (qc q8g):=by k_updF
theorem qhy:FnScope ["value"] ["value"] (qc q7g):=by k_updF
theorem ql9:FnScope ["row"] ["row"] (qc q9b):=by k_updF
theorem qjb:FnScope ["pair"] ["pair"] (qc q8h):=by k_updF
theorem qa8:FnScope ["pairs"] ["pairs"] (qc q3s):=by k_updF
theorem q3m:FnScope ["why","found","product","ways","name"] ["why"] (qc q8i):=by k_updF
theorem qu6:FnScope ["worth"] ["worth"] (qc ql7):=by k_updF
theorem q8o:FnScope ["names","by","worths","name"] ["names","by","worths"] (qc q6i):=by k_updF
theorem q2c:FnScope ["product","by","worths","worth","name"] ["product","by","worths"] (qc q39):=by k_updF
theorem q3n:FnScope ["why","by","worths","worth","product","ways"] ["why","by","worths"] (qc q8j):=by k_updF
theorem qdl:FnScope ["self","by"] ["self","by"] (qc q5f):=by k_updF
theorem q4c:FnScope ["self","name","worth","bearers","pair"] ["self","name","worth"] (qc q4m):=by k_updF
theorem q4d:FnScope ["self","table","row","why","worth","pair"] ["self","table","row","why"] (qc q4n):=by k_updF
theorem q5a:FnScope ["self","pair","name"] ["self","pair"] (qc q3f):=by k_updF
theorem q3j:FnScope ["self","pair","why","worth","name","pairs"] ["self","pair","why","worth"] (qc q3t):=by k_updF
theorem qcl:FnScope ["self","table","row"] ["self","table","row"] (qc q4o):=by k_updF
theorem qdm:FnScope ["self"] ["self"] (qc q5g):=by k_updF
theorem qdn:FnScope ["self","thing"] ["self","thing"] (qc q5h):=by k_updF
theorem qbb:FnScope ["self"] ["self"] (qc q45):=by k_updF
theorem qdo:FnScope ["self"] ["self"] (qc q5i):=by k_updF
theorem qbc:FnScope ["self","one","other"] ["self","one","other"] (qc q46):=by k_updF
theorem qdp:FnScope ["self","one","other"] ["self","one","other"] (qc q5j):=by k_updF
theorem q9c:FnScope ["self","worth","many"] ["self","worth","many"] (qc q3g):=by k_updF
theorem qfw:FnScope ["self","thing"] ["self","thing"] (qc q6j):=by k_updF
theorem qcm:FnScope ["self"] ["self"] (qc q4p):=by k_updF
theorem qfx:FnScope ["self"] ["self"] (qc q6k):=by k_updF
theorem qcn:FnScope ["self","one","other"] ["self","one","other"] (qc q4q):=by k_updF
theorem qfy:FnScope ["self","one","other"] ["self","one","other"] (qc q6l):=by k_updF
theorem qa9:FnScope ["self","worth","many"] ["self","worth","many"] (qc q3u):=by k_updF
theorem qdq:FnScope ["self","top"] ["self","top"] (qc q2y):=by k_updF
theorem qdr:FnScope ["self","thing"] ["self","thing"] (qc q5k):=by k_updF
theorem qbd:FnScope ["self"] ["self"] (qc q47):=by k_updF
theorem qds:FnScope ["self"] ["self"] (qc q5l):=by k_updF
theorem qbe:FnScope ["self","one","other"] ["self","one","other"] (qc q48):=by k_updF
theorem qdt:FnScope ["self","one","other"] ["self","one","other"] (qc q5m):=by k_updF
theorem q9d:FnScope ["self","worth","many"] ["self","worth","many"] (qc q3h):=by k_updF
theorem qdu:FnScope ["self","thing"] ["self","thing"] (qc q5n):=by k_updF
theorem qbf:FnScope ["self"] ["self"] (qc q49):=by k_updF
theorem qdv:FnScope ["self"] ["self"] (qc q5o):=by k_updF
theorem qbg:FnScope ["self","one","other"] ["self","one","other"] (qc q4a):=by k_updF
theorem qdw:FnScope ["self","one","other"] ["self","one","other"] (qc q5p):=by k_updF
theorem q9e:FnScope ["self","worth","many"] ["self","worth","many"] (qc q3i):=by k_updF
theorem qco:FnScope ["_law_script","_law_k"] ["_law_script","_law_k"] (qc q4r):=by k_updF
theorem q2p:FnScope ["_law_cell","_law_place","_law_number","_law_some","_law_k"] ["_law_cell","_law_place"] (qc q5q):=by k_updF
theorem q1f:FnScope ["_law_cell","_law_many","_law_signs","_law_size","_law_at","_law_words_here","_law_k","_law_word","_law_j","_law_place"] ["_law_cell","_law_many"] (qc q6m):=by k_updF
theorem q4v:FnScope ["_law_cell","_law_number","_law_words_here"] ["_law_cell"] (qc q5r):=by k_updF
theorem qfz:FnScope ["_law_found"] ["_law_found"] (qc q6n):=by k_updF
theorem qjc:FnScope ["_law_pair"] ["_law_pair"] (qc q8k):=by k_updF
theorem q3o:FnScope ["_law_cell","_law_names","_law_s","_law_many","_law_k","_law_product"] ["_law_cell","_law_names"] (qc q8l):=by k_updF
theorem qg0:FnScope ["_law_way","_law_top","_law_cell"] ["_law_way","_law_top","_law_cell"] (qc q6o):=by k_updF
theorem q29:FnScope ["_law_way","_law_top","_law_cell","_law_some"] ["_law_way","_law_top","_law_cell"] (qc q4b):=by k_updF
theorem q6r:FnScope ["_law_way","_law_top","_law_worths","_law_many","_law_worth_here"] ["_law_way","_law_top","_law_worths","_law_many"] (qc q7h):=by k_updF
theorem q3r:FnScope ["_law_way","_law_top","_law_why_here","_law_prices","_law_parts","_law_product","_law_many"] ["_law_way","_law_top","_law_why_here","_law_prices"] (qc q6p):=by k_updF
theorem qg1:FnScope ["_law_found","_law_due"] ["_law_found","_law_due"] (qc q6q):=by k_updF
theorem q75:FnScope ["_law_ledger","_law_way","_law_thing","e"] ["_law_ledger","_law_way","_law_thing"] (qc q4s):=by k_updF
theorem q4e:FnScope ["_law_whys","_law_name","_law_found","_law_pair"] ["_law_whys","_law_name"] (qc q4t):=by k_updF
theorem qcp:FnScope ["_law_ledger","_law_pair","_law_why_here","_law_whys","_law_prices"] ["_law_ledger","_law_pair","_law_why_here","_law_whys","_law_prices"] (qc q4u):=by k_updF
theorem q2a:FnScope ["_law_script","_law_way","_law_top","_law_ledger","_law_words_here","_law_values_here","_law_pairs","_law_prices","_law_whys","_law_k","_law_cell","_law_name","_law_pair","_law_told","_law_due"] ["_law_script"] (qc ql8):=by k_updF
structure Txt (K:PySem.W.Frag) (mg:Str ->Option Value):Prop where
 qiv:mg "ValueError"=none
 b_all:mg "all"=none
 b_any:mg "any"=none
 q9u:mg "bool"=none
 qji:mg "enumerate"=none
 b_int:mg "int"=none
 q1d:mg "isinstance"=none
 b_len:mg "len"=none
 q9r:mg "list"=none
 b_max:mg "max"=none
 b_min:mg "min"=none
 q83:mg "range"=none
 q4x:mg "sorted"=none
 b_str:mg "str"=none
 b_sum:mg "sum"=none
 q82:mg "tuple"=none
 qvv:Top K mg "_wall" qk4 ["k"]
 qlj:Top K mg "is_whole" q8g ["thing"]
 qjg:Top K mg "value_key" q7g ["value"]
 qo0:Top K mg "row_key" q9b ["row"]
 qli:Top K mg "pair_key" q8h ["pair"]
 qbu:Top K mg "pairs_in_order" q3s ["pairs"]
 qlh:Top K mg "names_of" q8i ["why"]
 t_own:Top K mg "own" ql7 ["worth"]
 qir:Top K mg "ask_worths" q6i ["names","by","worths"]
 q9s:Top K mg "product_reckoned" q39 ["product","by","worths"]
 qlk:Top K mg "reckoned" q8j ["why","by","worths"]
 qek:Top K mg "_law_cell_at" q4r ["_law_script","_law_k"]
 qg7:Top K mg "_law_stream" q5q ["_law_cell","_law_place"]
 qiw:Top K mg "_law_words" q6m ["_law_cell","_law_many"]
 qgk:Top K mg "_law_values" q5r ["_law_cell"]
 qiu:Top K mg "_law_whole" q6n ["_law_found"]
 qln:Top K mg "_law_key" q8k ["_law_pair"]
 qll:Top K mg "_law_why" q8l ["_law_cell","_law_names"]
 qit:Top K mg "_law_price" q6o ["_law_way","_law_top","_law_cell"]
 qd1:Top K mg "_law_no_price" q4b ["_law_way","_law_top","_law_cell"]
 qjh:Top K mg "_law_part" q7h ["_law_way","_law_top","_law_worths","_law_many"]
 qis:Top K mg "_law_worth" q6p ["_law_way","_law_top","_law_why_here","_law_prices"]
 qip:Top K mg "_law_alike" q6q ["_law_found","_law_due"]
 qep:Top K mg "_law_refused" q4s ["_law_ledger","_law_way","_law_thing"]
 qej:Top K mg "_law_bearing" q4t ["_law_whys","_law_name"]
 qeq:Top K mg "_law_entered" q4u ["_law_ledger","_law_pair","_law_why_here","_law_whys","_law_prices"]
 t_law:Top K mg "law" ql8 ["_law_script"]
 qq2:mg "Ledger"=some (.ref (cA mg "Ledger"))
 qi:Cls K (cA mg "Ledger")
 qnz:PySem.W.makesIn K (cA mg "Ledger")=true
 qnx:PySem.W.keepIn K (.ref (cA mg "Ledger"))=true
 q2w:NoAttr K (cA mg "Ledger") "bearers"
 q3q:NoAttr K (cA mg "Ledger") "by"
 q33:NoAttr K (cA mg "Ledger") "prices"
 q2h:NoAttr K (cA mg "Ledger") "whys"
 q22:NoAttr K (cA mg "Ledger") "worths"
 qgf:MTop K (cA mg "Ledger") "__init__" "Ledger.__init__" q5f ["self","by"]
 qem:MTop K (cA mg "Ledger") "price" "Ledger.price" q4m ["self","name","worth"]
 qen:MTop K (cA mg "Ledger") "enter" "Ledger.enter" q4n ["self","table","row","why"]
 qac:MTop K (cA mg "Ledger") "take_out" "Ledger.take_out" q3f ["self","pair"]
 qbs:MTop K (cA mg "Ledger") "take_in" "Ledger.take_in" q3t ["self","pair","why","worth"]
 qeo:MTop K (cA mg "Ledger") "worth" "Ledger.worth" q4o ["self","table","row"]
 qg8:MTop K (cA mg "Ledger") "told" "Ledger.told" q5g ["self"]
 quw:mg "Reckoning"=some (.ref (cA mg "Reckoning"))
 quv:Cls K (cA mg "Reckoning")
 qut:PySem.W.makesIn K (cA mg "Reckoning")=true
 quu:PySem.W.keepIn K (.ref (cA mg "Reckoning"))=true
 qus:PySem.W.findIn K (.ref (cA mg "Reckoning")) "__init__"=some (some (.builtin "object.__init__"))
 qnr:NoAttr K (cA mg "Reckoning") "either"
 qnq:NoAttr K (cA mg "Reckoning") "nought"
 qlm:MTop K (cA mg "Reckoning") "repeated" "Reckoning.repeated" q44 ["self","worth","many"]
 qpz:mg "Counts"=some (.ref (cA mg "Counts"))
 qo2:Cls K (cA mg "Counts")
 qno:PySem.W.makesIn K (cA mg "Counts")=true
 qns:PySem.W.keepIn K (.ref (cA mg "Counts"))=true
 qnp:PySem.W.findIn K (.ref (cA mg "Counts")) "__init__"=some (some (.builtin "object.__init__"))
 qgi:MTop K (cA mg "Counts") "fits" "Counts.fits" q5h ["self","thing"]
 qd4:MTop K (cA mg "Counts") "nought" "Counts.nought" q45 ["self"]
 qga:MTop K (cA mg "Counts") "unit" "Counts.unit" q5i ["self"]
 qd3:MTop K (cA mg "Counts") "either" "Counts.either" q46 ["self","one","other"]
 qgg:MTop K (cA mg "Counts") "both" "Counts.both" q5j ["self","one","other"]
 qaf:MTop K (cA mg "Counts") "repeated" "Counts.repeated" q3g ["self","worth","many"]
 qsx:mg "Costs"=some (.ref (cA mg "Costs"))
 qpv:Cls K (cA mg "Costs")
 qpw:PySem.W.makesIn K (cA mg "Costs")=true
 qq1:PySem.W.keepIn K (.ref (cA mg "Costs"))=true
 qpy:PySem.W.findIn K (.ref (cA mg "Costs")) "__init__"=some (some (.builtin "object.__init__"))
 qin:MTop K (cA mg "Costs") "fits" "Costs.fits" q6j ["self","thing"]
 qei:MTop K (cA mg "Costs") "nought" "Costs.nought" q4p ["self"]
 qiq:MTop K (cA mg "Costs") "unit" "Costs.unit" q6k ["self"]
 qel:MTop K (cA mg "Costs") "either" "Costs.either" q4q ["self","one","other"]
 qio:MTop K (cA mg "Costs") "both" "Costs.both" q6l ["self","one","other"]
 qbt:MTop K (cA mg "Costs") "repeated" "Reckoning.repeated" q3u ["self","worth","many"]
 qq0:mg "Trusts"=some (.ref (cA mg "Trusts"))
 q7b:Cls K (cA mg "Trusts")
 qny:PySem.W.makesIn K (cA mg "Trusts")=true
 qnu:PySem.W.keepIn K (.ref (cA mg "Trusts"))=true
 q6w:NoAttr K (cA mg "Trusts") "top"
 qgh:ITop K (cA mg "Trusts") "Trusts.__init__" "top" q2y (.int 100)
 qgj:MTop K (cA mg "Trusts") "fits" "Trusts.fits" q5k ["self","thing"]
 qd0:MTop K (cA mg "Trusts") "nought" "Trusts.nought" q47 ["self"]
 qge:MTop K (cA mg "Trusts") "unit" "Trusts.unit" q5l ["self"]
 qcz:MTop K (cA mg "Trusts") "either" "Trusts.either" q48 ["self","one","other"]
 qgc:MTop K (cA mg "Trusts") "both" "Trusts.both" q5m ["self","one","other"]
 qae:MTop K (cA mg "Trusts") "repeated" "Reckoning.repeated" q3h ["self","worth","many"]
 qpx:mg "Truths"=some (.ref (cA mg "Truths"))
 qnt:Cls K (cA mg "Truths")
 qo1:PySem.W.makesIn K (cA mg "Truths")=true
 qnw:PySem.W.keepIn K (.ref (cA mg "Truths"))=true
 qnv:PySem.W.findIn K (.ref (cA mg "Truths")) "__init__"=some (some (.builtin "object.__init__"))
 qgd:MTop K (cA mg "Truths") "fits" "Truths.fits" q5n ["self","thing"]
 qd5:MTop K (cA mg "Truths") "nought" "Truths.nought" q49 ["self"]
 qg9:MTop K (cA mg "Truths") "unit" "Truths.unit" q5o ["self"]
 qd2:MTop K (cA mg "Truths") "either" "Truths.either" q4a ["self","one","other"]
 qgb:MTop K (cA mg "Truths") "both" "Truths.both" q5p ["self","one","other"]
 qad:MTop K (cA mg "Truths") "repeated" "Reckoning.repeated" q3i ["self","worth","many"]
 q9t:mg "NoWorth"=some (.ref (cA mg "NoWorth"))
 q27:XCls K (cA mg "NoWorth")
 q5t:PySem.W.mroIn K (cA mg "NoWorth") (.ref (cA mg "NoWorth"))=some true
theorem qj {b:Bool} {A B:Prop} (e:b=false) (h:B):if b=true then A else B:=by
 subst e;exact iteF h
theorem q16 {b:Bool} {A B:Prop} (e:b=true) (h:A):if b=true then A else B:=by
 subst e;exact iteT h
def fur:Str:="abcdefghijklmnopqrstuvwxyz0123456789"
def qk5 (fs:Str):List Nat ->Bool
 | []=>false
 | c::r=>decide (c∈fs.cps.toList)&&r.all λ d=>decide (d∈fur.cps.toList)
def txtB (fs z:Str):Bool:=decide (1<=z.length)&&decide (z.length<=12)&&qk5 fs z.cps.toList
def TxOk:Key ->Prop
 | .inr z=>z.length<=200/\PyData.strOk z=true
 | .inl _=>True
theorem qp2 {fs z:Str} (h:¬ (1<=z.length/\z.length<=12)):txtB fs z=false:=by
 unfold txtB;by_cases h1:1<=z.length
 ·have h2:¬ z.length<=12:=λ q=>h ⟨h1,q⟩;simp [h2]
 ·simp [h1]
theorem qk6 {fs z:Str} (h1:1<=z.length) (h2:z.length<=12):txtB fs z=qk5 fs z.cps.toList:=by
 unfold txtB;simp [h1,h2]
theorem q3v (z:Str):z.cps.toList.length=z.length:=by simp [Str.length]
theorem qla {z:Str} (h:1<=z.length):∃ c r,z.cps.toList=c::r:=by
 have:=q3v z;cases e:z.cps.toList with
 | nil=>rw [e] at this;simp at this;lia
 | cons c r=>exact ⟨c,r,rfl⟩
variable {P:Program} {w:World} {K:PySem.W.Frag} {mg:Str ->Option Value} {base:Heap}
def qs5 (K:PySem.W.Frag):Sp:=λ vs H Q _=>∃ (a:Addr) (ns:List Int) (k:Int),vs=[.ref a,.int k]/\SqL K H a (ns.map V.int)/\0<=k/\Q (.int (ns.getD k.toNat 0)) H
theorem q32 (T:Txt K mg):Def P w K mg base 1 "_law_cell_at" ["_law_script","_law_k"] (qs5 K):=by
 refine T.qek.ok qco (λ vs H Q E h=> ?_) λ f cdv A outer s H vs Q E hr h=> ?_
 ·obtain ⟨a,ns,k,rfl,_⟩:=h;rfl
 ·obtain ⟨a,ns,k,rfl,O,h0,q⟩:=h;refine ⟨_,(q31
   (qx (qr qv4 (pv 1) (qt (qmm K) rfl T.b_len qtp (pa_1 (pv 0))) (qo _)) (qe (qg (qy (q11 K) (pv 0) (pv 1) (λ _ _=>rfl)))) ql)
   (qg qb)),?_⟩
  refine ⟨_,zr,_,zr,_,_,zr,.inl ⟨_,O,zr⟩,_,_,zr,zr,_,zr,?_⟩;rw [z2l];refine ite2 (λ h1=> ?_) (λ h1=> ?_)
  ·have J:k < ns.length:=by simpa using h1
   have U:k.toNat < ns.length:=by lia
   refine ⟨_,zr,_,zr,_,_,_,V.int (ns.getD k.toNat 0),zr,zr,O,?_,q⟩;rw [qto h0 (by rw [z2l];exact J),z1s,z0a U,q6a U];rfl
  ·have J:¬ k < ns.length:=by simpa using h1
   have e:ns.getD k.toNat 0=0:=by
    exact qrm (by lia)
   rw [e] at q;exact q
theorem qbh (a b:Str):(a++b).cps.toList=a.cps.toList++b.cps.toList:=by
 show (a.cps++b.cps).toList=_;rw [z13]
theorem qs6 (a b:Str):(a++b).length=a.length+b.length:=by
 show (a.cps++b.cps).size=a.cps.size+b.cps.size;exact Array.size_append
theorem qhz {z:Str} (h:∀ c∈z.cps.toList,c < 0x110000):PyData.strOk z=true:=by
 unfold PyData.strOk;rw [<- Array.all_toList,z29];exact λ c hc=>z2w (h c hc)
theorem qbi {K:PySem.W.Frag} {H:Hp}:∀ {ds:List PyData} {xs:List V},Dats K H ds xs ->ds.length=xs.length
 | _,_,.nil=>rfl
 | _,_,.cons a b=>by rw [z24,z24,qbi b]
theorem q9f {K:PySem.W.Frag} {H:Hp} {d:PyData} {x:V}:∀ {ds:List PyData} {xs:List V},Dats K H ds xs ->Dat K H d x ->Dats K H (ds++ [d]) (xs++ [x])
 | _,_,.nil,h=> .cons h .nil
 | _,_,.cons a b,h=> .cons a (q9f b h)
def KeepT (H H':Hp):Prop:=∀ b ys,H b=some (.tup ys) ->H' b=some (.tup ys)
theorem Same.keepT {H H':Hp} (s:Same H H'):KeepT H H':=λ b ys e=>s b _ e
theorem KeepT.trans {H H1 H2:Hp} (a:KeepT H H1) (b:KeepT H1 H2):KeepT H H2:=λ c ys e=>b c ys (a c ys e)
theorem KeepT.upd {H H':Hp} {d:Addr} {xs ys:List V} (k:KeepT H H') (e:H' d=some (.lst xs)):KeepT H (upd H' d (.lst ys)):=λ b zs hb=>by
 rw [qh (λ z=>by rw [z] at hb;have:=k _ _ hb;rw [e] at this;cases this)];exact k b zs hb
abbrev Tab:=List (List Str×Int)
def encI (W:Tab):List (List Str×V):=W.map λ kv=>(kv.1,V.int kv.2)
def encD (W:Tab):HO:= .dT ((encI W).map λ kv=>(kv.1.map Sum.inr,kv.2))
def getA (W:Tab) (k:List Str):Option Int:=(W.find? λ kv=>decide (kv.1=k)).map (·.2)
def putA (W:Tab) (k:List Str) (v:Int):Tab:=if (W.any λ kv=>decide (kv.1=k))=true then W.map (λ kv=>if kv.1=k then (kv.1,v) else kv) else W++ [(k,v)]
theorem qdx {a b:List Str}:a.map (Sum.inr:Str ->Key)=b.map Sum.inr↔a=b:=by
 constructor
 ·intro h;exact List.map_inj_right (λ x y e=>Sum.inr.inj e) |>.mp h
 ·intro h;rw [h]
theorem qs7 (a b:List Str):decide (a.map (Sum.inr:Str ->Key)=b.map Sum.inr)=decide (a=b):=decide_eq_decide.mpr qdx
theorem qp3 (W:Tab) (k:List Str):valV ((encI W).map λ kv=>(kv.1.map (Sum.inr:Str ->Key),kv.2)) (k.map Sum.inr)=(getA W k).map V.int:=by
 unfold valV getA encI
 induction W with
 | nil=>rfl
 | cons p W ih=>
  rw [z33,z33];by_cases e:p.1=k
  ·rw [z0n (by rw [e];simp),z0n (by simpa using e)];rfl
  ·rw [z0o (by simpa using λ q=>e (qdx.mp q)),z0o (by simpa using e)];exact ih
theorem qp4 (W:Tab) (k:List Str) (v:Int):putK ((encI W).map λ kv=>(kv.1.map (Sum.inr:Str ->Key),kv.2)) (k.map Sum.inr) (V.int v)=(encI (putA W k v)).map λ kv=>(kv.1.map Sum.inr,kv.2):=by
 unfold putK putA encI;have e1:((List.map (λ kv:List Str×V=>(kv.1.map (Sum.inr:Str ->Key),kv.2)) (W.map λ kv=>(kv.1,V.int kv.2))).any λ kv=>decide (kv.1=k.map Sum.inr))=W.any λ kv=>decide (kv.1=k):=by
  rw [List.any_map,List.any_map]
  congr 1
  funext kv
  exact qs7 kv.1 k
 rw [e1];split
 ·rw [z3o,z3o,z3o,z3o];refine z17 λ kv _=> ?_;show (if kv.1.map (Sum.inr:Str ->Key)=k.map Sum.inr then (kv.1.map Sum.inr,V.int v) else (kv.1.map Sum.inr,V.int kv.2))=_;by_cases h:kv.1=k
  ·rw [if_pos (by rw [h])];show _=(((if kv.1=k then (kv.1,v) else kv).1).map Sum.inr,V.int (if kv.1=k then (kv.1,v) else kv).2);rw [if_pos h]
  ·rw [if_neg (λ q=>h (qdx.mp q))];show _=(((if kv.1=k then (kv.1,v) else kv).1).map Sum.inr,V.int (if kv.1=k then (kv.1,v) else kv).2);rw [if_neg h]
 ·rw [z2q,z2q];rfl
theorem qi0 (W:Tab) (k:List Str) (v:Int):(putA W k v).map (·.1)=if k∈W.map (·.1) then W.map (·.1) else W.map (·.1)++ [k]:=by
 unfold putA;have e:(W.any λ kv=>decide (kv.1=k))=decide (k∈W.map (·.1)):=by
  rw [z2k,z2b,decide_eq_true_iff,z3m]
  constructor
  ·rintro ⟨p,hp,h⟩;exact ⟨p,hp,of_decide_eq_true h⟩
  ·rintro ⟨p,hp,h⟩;exact ⟨p,hp,z2w h⟩
 rw [e];by_cases h:k∈W.map (·.1)
 ·rw [if_pos (z2w h),if_pos h,z3o];refine z17 λ kv _=> ?_;show (if kv.1=k then (kv.1,v) else kv).1=kv.1;split <;> rfl
 ·rw [if_neg (by simpa using h),if_neg h,z2q];rfl
theorem qu7 {W:Tab} (h:(W.map (·.1)).Nodup) (k:List Str) (v:Int):((putA W k v).map (·.1)).Nodup:=by
 rw [qi0];split
 ·exact h
 ·rename_i hk;exact q9y h hk
theorem qs8 (W:Tab) (k:List Str) (v:Int):(putA W k v).length<=W.length+1:=by
 have:(putA W k v).length=((putA W k v).map (·.1)).length:=by rw [z2l]
 rw [this,qi0];split
 ·rw [z2l];lia
 ·rw [z1e,z2l];exact z3p _
def qvo (kv:List Str×Int):PyData:= .tuple [.tuple (kv.1.map .str),.int kv.2]
def whyD (W:Tab):List PyData:=W.map qvo
theorem qar {α β:Type} {F:α ->β ->Prop} {x:α} {y:β}:∀ {xs:List α} {ys:List β},Paired F xs ys ->F x y ->Paired F (xs++ [x]) (ys++ [y])
 | _,_,.nil,h=> .cons h .nil
 | _,_,.cons a b,h=> .cons a (qar b h)
def PlAt (H:Hp) (x:V) (kv:List Str×Int):Prop:=∃ q b,x= .ref q/\H q=some (.tup [.ref b,.int kv.2])/\H b=some (.tup (kv.1.map V.str))
theorem PlAt.keep {H H':Hp} {x:V} {kv:List Str×Int} (h:PlAt H x kv) (s:KeepT H H'):PlAt H' x kv:=by
 obtain ⟨q,b,e,h1,h2⟩:=h;exact ⟨q,b,e,s _ _ h1,s _ _ h2⟩
theorem qa3 {H H':Hp} (s:KeepT H H'):∀ {xs:List V} {ps:Tab},Paired (PlAt H) xs ps ->Paired (PlAt H') xs ps
 | _,_,.nil=> .nil
 | _,_,.cons a b=> .cons (a.keep s) (qa3 s b)
theorem qk7 {ns:List Int} {k:Nat} (h:k < ns.length):atI (ns.map V.int) (k:Int)=some (V.int (ns.getD k 0)):=by
 rw [q6a h];exact q1b (by rw [z1s,z0a h];rfl)
theorem qa4:fur.length=36:=by decide+kernel
theorem qn8:∀ c∈fur.cps.toList,c < 0x110000:=by decide+kernel
def Wz (n:Nat) (z:Str):Prop:=z.length<=n/\∀ c∈z.cps.toList,c∈fur.cps.toList
theorem Wz.ok {n:Nat} {z:Str} (h:Wz n z):PyData.strOk z=true:=qhz λ c hc=>qn8 c (h.2 c hc)
theorem qs9 (d:Nat):(⟨#[d]⟩:Str).length<=1:=z3p _
theorem qu8 (c:Int) {m:Int} (h0:0 < m) (h1:m<=36):∃ d,atI fur.cps.toList (c%m)=some d/\d∈fur.cps.toList:=
 q3l (z2u _ (by lia)) (by rw [q3v,qa4];have:=z1m c h0;lia)
theorem qp5:fur.length<=sizeLine:=by rw [qa4];decide
theorem q8m {W:Tab} (h:(W.map (·.1)).Nodup) {k:List Str} (hk:k∈W.map (·.1)):∃ n,getA W k=some n/\(k,n)∈W:=by
 obtain ⟨⟨k',n⟩,hp,e⟩:=z3m.mp hk;have e':k'=k:=e;subst e';unfold getA;cases q:W.find? λ kv=>decide (kv.1=k') with
 | none=>
  have:=List.find?_eq_none.mp q _ hp;simp at this
 | some x=>
  have h1:=List.find?_some q;have h2:=List.mem_of_find?_eq_some q;obtain ⟨x1,x2⟩:=x;have:x1=k':=by simpa using h1
  subst this;exact ⟨x2,zr,h2⟩
theorem qp6 {K:PySem.W.Frag} {H:Hp} {b:Addr} {p:List Str} (h:H b=some (.tup (p.map V.str))) (ho:∀ x∈p,PyData.strOk x=true):Dat K H (.tuple (p.map .str)) (.ref b):=by
 refine .tup (SqT.of h) ?_;clear h
 induction p with
 | nil=>exact .nil
 | cons x p ih=>exact .cons (.str x (ho x (z1f ..))) (ih λ y hy=>ho y (z0z _ hy))
theorem qi1 {K:PySem.W.Frag} {H:Hp}:∀ {xs:List V} {W:Tab},Paired (PlAt H) xs W ->(∀ kv∈W,∀ z∈kv.1,PyData.strOk z=true) ->Dats K H (whyD W) xs
 | _,_,.nil,_=> .nil
 | _,_,.cons ⟨q,b,e,h1,h2⟩ r,ok=>by
  subst e;exact .cons (.tup (SqT.of h1) (.cons (qp6 h2 (ok _ (z1f ..))) (.cons (.int _) .nil))) (qi1 r λ kv J=>ok kv (z0z _ J))
theorem q1h {α β:Type} {F:α ->β ->Prop}:∀ {l:List α} {k:List β} {i:Nat} {x:α},Paired F l k ->l[i]? =some x ->∃ y,k[i]? =some y/\F x y
 | _,_,_,_,.nil,h=>by simp at h
 | _,_,0,_,.cons a _,h=>by
  simp at h
  subst h;exact ⟨_,zr,a⟩
 | _,_,i+1,x,.cons _ r,h=>by
  obtain ⟨y,e,f⟩:=q1h (i:=i) (x:=x) r (by simpa using h);exact ⟨y,by simpa using e,f⟩
theorem q4w (a b:Str):PyData.eqv (.str a) (.str b)=decide (a=b):=by
 show (a==b)=_;by_cases h:a=b <;> simp [h]
theorem qlb (p:List Str):PyData.depthAll (p.map .str)=0:=by
 induction p with
 | nil=>rfl
 | cons x p ih=>
  show max (PyData.depth (.str x)) (PyData.depthAll (p.map .str))=0;rw [ih];rfl
theorem q9g {α:Type} {lt:α ->α ->Bool} (h:Tim.STO lt):∀ {l:List α},l.Pairwise (λ a b=>lt b a=false) ->l.Nodup ->l.Pairwise λ a b=>lt a b=true
 | [],_,_=> .nil
 | a::l,h1,h2=>by
  obtain ⟨a1,a2⟩:=z1g.mp h1;obtain ⟨b1,b2⟩:=z2n.mp h2;refine z1g.mpr ⟨λ b hb=> ?_,q9g h a2 b2⟩;cases e:lt a b with
  | true=>rfl
  | false=>exact absurd (h.tri a b e (a1 b hb)) λ z=>b1 (z ▸ hb)
theorem qp7 (ns:List Int) (lo hi:Option Int):∃ J:List Int,cutV (ns.map V.int) lo hi=J.map V.int/\J.length<=ns.length:=by
 refine ⟨(ns.drop (HT.sIx ns.length 0 lo)).take (HT.sIx ns.length ns.length hi - HT.sIx ns.length 0 lo),?_,?_⟩
 ·unfold cutV;rw [z2l,List.map_take,List.map_drop]
 ·rw [z22,z23]
  lia
theorem qp8 {W:Tab} {k:List Str} {v:Int} {kv:List Str×Int} (h:kv∈putA W k v):kv∈W\/ kv=(k,v):=by
 unfold putA at h;split at h
 ·obtain ⟨x,hx,e⟩:=z3m.mp h;by_cases q:x.1=k
  ·rw [if_pos q] at e;exact .inr (by rw [<- e,q])
  ·rw [if_neg q] at e;exact .inl (e ▸ hx)
 ·rcases z2f.mp h with h | h
  ·exact .inl h
  ·exact .inr (z1c.mp h)
theorem qlc (W:Tab):PyData.depthAll (whyD W)<=2:=by
 induction W with
 | nil=>exact z3s _
 | cons p W ih=>
  refine Nat.max_le.mpr ⟨?_,ih⟩;show max (PyData.depthAll (p.1.map .str)+1) (max 0 0)+1<=2;rw [qlb];decide
theorem qfe (W:Tab):PyData.depth (.list (whyD W))<=60:=z3i (z2c (qlc W)) (by decide)
def Bd (n L:Nat) (b:Int) (W:Tab):Prop:=W.length<=n/\∀ p∈W,(∀ x∈p.1,PyData.strOk x=true)/\p.1.length<=L/\0<=p.2/\p.2<=b
abbrev BW (W:Tab):Prop:=Bd 200 1000 (2^599) W
def WA (H:Hp) (l:Addr) (W:Tab):Prop:=∃ xs,H l=some (.lst xs)/\Paired (PlAt H) xs W/\BW W
theorem WA.same {H H':Hp} {l:Addr} {W:Tab} (h:WA H l W) (s:Same H H'):WA H' l W:=by
 obtain ⟨xs,h1,h2,h3⟩:=h;exact ⟨xs,s _ _ h1,qa3 (Same.keepT s) h2,h3⟩
theorem WA.bd {H:Hp} {l:Addr} {W:Tab} (h:WA H l W):BW W:=by
 obtain ⟨xs,h1,h2,h3⟩:=h;exact h3
theorem WA.dat {K:PySem.W.Frag} {H:Hp} {l:Addr} {W:Tab} (h:WA H l W):Dat K H (.list (whyD W)) (.ref l):=by
 obtain ⟨xs,h1,h2,h3⟩:=h;exact .lst (SqL.of h1) (qi1 h2 λ p hp=>(h3.2 p hp).1)
noncomputable def WA.xs {H : Hp} {l : Addr} {W : Tab} (h : WA H l W) : List V := Classical.choose h
theorem WA.lst {H:Hp} {l:Addr} {W:Tab} (h:WA H l W):H l=some (.lst h.xs):=(Classical.choose_spec h).1
theorem WA.prd {H:Hp} {l:Addr} {W:Tab} (h:WA H l W):Paired (PlAt H) h.xs W:=(Classical.choose_spec h).2.1
theorem WA.copy {H:Hp} {l q:Addr} {W:Tab} (h:WA H l W) (hq:H q=none):WA (upd H q (.lst h.xs)) q W:=⟨h.xs,q5,qa3 (Same.keepT (qd hq)) h.prd,h.bd⟩
def qqj (W:Tab) (ns:List Str):Prop:=(ns.Pairwise λ a b=>strLt a b=true)/\∀ x,x∈ns↔∃ kv∈W,x∈kv.1
theorem qp9 {kvs:List (Key×V)} {k:Key} (v:V) (h:k∈kvs.map (·.1)):(putK kvs k v).map (·.1)=kvs.map (·.1):=by
 obtain ⟨p,hp,e⟩:=z3m.mp h;unfold putK;rw [if_pos (z2b.mpr ⟨p,hp,z2w e⟩),z3o];refine z17 λ kv _=> ?_;show (if kv.1=k then (kv.1,v) else kv).1=kv.1;split <;> rfl
theorem qn9 {kvs:List (Key×V)} {k:Key} (v:V) (h:¬ k∈kvs.map (·.1)):(putK kvs k v).map (·.1)=kvs.map (·.1)++ [k]:=by
 unfold putK;rw [if_neg,z2q]
 ·rfl
 ·intro z;obtain ⟨p,hp,e⟩:=z2b.mp z;exact h (z3m.mpr ⟨p,hp,of_decide_eq_true e⟩)
def qi2 (H:Hp) (d:Addr) (ws:List Str) (v:V):Prop:=∃ kvs,H d=some (.dK kvs)/\kvs.map (·.1)=ws.map Sum.inr/\ws.Nodup/\∀ kv∈kvs,kv.2=v
theorem qk8 {x:Str} {J:List Str}:(Sum.inr x:Key)∈J.map Sum.inr↔x∈J:=by
 rw [z3m]
 constructor
 ·rintro ⟨y,hy,e⟩;cases e
  exact hy
 ·exact λ h=>⟨x,h,zr⟩
theorem qi3 {kvs:List (Key×V)} {k:Key} {v:V} (h:∀ kv∈kvs,kv.2=v):∀ kv∈putK kvs k v,kv.2=v:=λ kv J=>by
 unfold putK at J;split at J
 ·obtain ⟨x,hx,e⟩:=z3m.mp J;by_cases q:x.1=k
  ·rw [if_pos q] at e;rw [<- e]
  ·rw [if_neg q] at e;exact e ▸ h x hx
 ·rcases z2f.mp J with g | g
  ·exact h kv g
  ·rw [z1c.mp g]
theorem qpa {H:Hp} {d:Addr} {J:List Str} {v:V} {x:Str} {kvs:List (Key×V)} (h1:kvs.map (·.1)=J.map Sum.inr) (h2:J.Nodup) (U:∀ kv∈kvs,kv.2=v):∃ O,qi2 (upd H d (.dK (putK kvs (Sum.inr x) v))) d O v/\(∀ y,y∈O↔y∈J\/ y=x)/\O.length<=J.length+1:=by
 by_cases h:x∈J
 ·refine ⟨J,⟨_,q5,?_,h2,qi3 U⟩,λ y=>⟨.inl,λ z=>z.elim id λ e=>e ▸ h⟩,Nat.le_succ _⟩;rw [qp9 v (by rw [h1];exact qk8.mpr h),h1]
 ·refine ⟨J++ [x],⟨_,q5,?_,q9y h2 h,qi3 U⟩,λ y=>by rw [z2f,z1c],by rw [z1e];exact z3p _⟩;rw [qn9 v (by rw [h1];exact λ z=>h (qk8.mp z)),h1,z2q];rfl
def qpb:Sp:=λ vs H Q _=>∃ (l:Addr) (W:Tab),vs=[.ref l]/\WA H l W/\∀ p ns H',Same H H' ->H p=none ->H' p=some (.lst (ns.map V.str)) ->qqj W ns ->ns.length<=200000 ->Q (.ref p) H'
theorem qpc {W:Tab} {n L:Nat} (h:∀ p∈W,p.1.length<=L) (hn:W.length<=n):(W.flatMap (·.1)).length<=n*L:=by
 have:(W.flatMap (·.1)).length<=W.length*L:=by
  clear hn
  induction W with
  | nil=>simp
  | cons p W ih=>
   rw [List.flatMap_cons,z1e,z24,Nat.add_mul];have h1:=h p (z1f ..);have h2:=ih λ q hq=>h q (z0z _ hq)
   lia
 exact z3i this (Nat.mul_le_mul_right _ hn)
theorem q7i (T:Txt K mg):Def P w K mg base 1 "names_of" ["why"] qpb:=by
 refine T.qlh.ok q3m (λ vs H Q E h=> ?_) λ f cdv A outer s H vs Q E hr h=> ?_
 ·obtain ⟨l,W,rfl,_⟩:=h;rfl
 ·obtain ⟨l,W,rfl,⟨xs,hl,hp,hb⟩,k⟩:=h;refine ⟨_,(q63
   (qk (i:=1) q3m.nd rfl (Or.inl rfl) q88)
   (q23 PassesOwn.never rfl (q1l K (pv 0)) (q90 rfl (q1r (qm (i:=2) q3m.nd rfl (Or.inl rfl)) (q1r (qm (i:=3) q3m.nd rfl (Or.inl rfl)) q4j))) (qe (q23 PassesOwn.never rfl (q69 K (pv 2)) (qm (i:=4) q3m.nd rfl (Or.inl rfl)) (qe (q9x (q3c hr) (pv 1) (pv 4) q3a rfl)))))
   (qg (qt (qfs rfl K) rfl T.q4x q3x (pa_1 (pv 1))))),?_⟩
  refine λ d hd=> ?_;have s1:=qd (o:=HO.dK []) hd;have xl:=Paired.length hp;have fl:∀ i,((W.take i).flatMap (·.1)).length<=200000:=λ i=>qpc (n:=200) (L:=1000) (λ p hp=>(hb.2 p (z0y hp)).2.1) (z3i (by rw [z22];lia) hb.1);refine ⟨_,rfl,l,rfl,⟨_,SqL.of (s1 _ _ hl)⟩,q2t (xs:=xs) (λ i σ G=>Same H G/\(∃ v1 v2 v3,σ=[some (.ref l),some (.ref d),v1,v2,v3])/\∃ J,qi2 G d J (.bl true)/\(∀ x,x∈J↔x∈(W.take i).flatMap (·.1))/\J.length<=((W.take i).flatMap (·.1)).length) ⟨s1,⟨_,_,_,rfl⟩,[],⟨[],q5,rfl,z30,λ _ z=>nomatch z⟩,λ x=>by simp,z3s _⟩ (λ i σ G _ z=>SqL.of (z.1 _ _ hl)) ?_ ?_⟩
  ·rintro i x σ G hx ⟨sg,⟨v1,v2,v3,rfl⟩,J,hk,hm,O⟩;obtain ⟨kv,a5,a6⟩:=q1h hp hx;obtain ⟨q,b,rfl,hq,a2⟩:=a6.keep (Same.keepT sg);refine ⟨_,_,zr,SqT.of hq,zr,_,_,zr,_,_,zr,zr,?_⟩;have Z:(W.take (i+1)).flatMap (·.1)=(W.take i).flatMap (·.1)++kv.1:=by
    rw [z31,a5,List.flatMap_append];simp
   have a4:=fl (i+1);rw [Z,z1e] at a4;refine ⟨_,rfl,b,rfl,⟨_,SqT.of a2⟩,qjs (xs:=kv.1.map V.str) (λ j σ F=>Same H F/\F b=some (.tup (kv.1.map V.str))/\(∃ v3,σ=[some (.ref l),some (.ref d),some (.ref b),some (.int kv.2),v3])/\∃ J,qi2 F d J (.bl true)/\(∀ x,x∈J↔x∈(W.take i).flatMap (·.1)\/ x∈kv.1.take j)/\J.length<=((W.take i).flatMap (·.1)).length+j) ⟨sg,a2,⟨_,rfl⟩,J,hk,λ x=>by rw [hm x];simp,O⟩ (λ j σ F _ z=>SqT.of z.2.1) ?_ ?_⟩
   ·rintro j y σ F hy ⟨sf,fb,⟨v3,rfl⟩,J,⟨kvs,U,Y,a1,a3⟩,hm,O⟩;rw [z1s] at hy;obtain ⟨z,hz,rfl⟩:=z0l.mp hy;have jl:j < kv.1.length:=(z06.mp hz).1;have kl:kvs.length=J.length:=by
     have:=congrArg List.length Y;rw [z2l,z2l] at this;exact this
    obtain ⟨a7,g1,g2,g3⟩:=qpa (H:=F) (d:=d) (x:=z) Y a1 a3;refine ⟨_,rfl,_,rfl,d,_,rfl,DPut.k (k:=Sum.inr z) U (by rw [kl];exact z1h (show J.length < 1000000 by lia) (by decide)),?_⟩;refine ⟨λ c o hc=>by rw [qh (λ e=>by rw [e,hd] at hc;cases hc)];exact sf c o hc,by rw [qh (λ e=>by rw [e,U] at fb;cases fb)];exact fb,⟨_,rfl⟩,a7,g1,λ x=> ?_,by lia⟩;rw [g2,hm,z31,hz,or_assoc];simp
   ·rintro σ F ⟨sf,fb,⟨v3,rfl⟩,J,hk,hm,O⟩;rw [z2l,z2e] at hm;rw [z2l] at O;refine ⟨sf,⟨_,_,_,zr⟩,J,hk,λ x=> ?_,?_⟩
    ·rw [hm,Z,z2f]
    ·rw [Z,z1e];exact O
  ·rintro σ G ⟨sg,⟨v1,v2,v3,rfl⟩,J,⟨kvs,U,Y,a1,a3⟩,hm,O⟩;rw [xl,z2e] at hm;have fl2:=fl xs.length;refine ⟨_,zr,d,kvs,J,zr,U,Y,λ p hp=> ?_⟩;refine k p _ _ (sg.trans (qd hp)) (sg.free hp) q5 ⟨q9g q3d (Tim.q7s q3d _) ((Tim.q14 strLt _).nodup_iff.mpr a1),λ x=> ?_⟩ ?_
   ·rw [(Tim.q14 strLt _).mem_iff,hm,List.mem_flatMap]
   ·rw [(Tim.q14 strLt _).length_eq]
    lia
def strLt (x y:Str):Bool:=decide (x.cps.toList < y.cps.toList)
def befK:Key ->Key ->Bool
 | .inl i,.inl j=>decide (i < j)
 | .inl _,.inr _=>true
 | .inr _,.inl _=>false
 | .inr x,.inr y=>strLt x y
def keyV:Key ->List V
 | .inl i=>[.int 0,.int i,.str ""]
 | .inr z=>[.int 1,.int 0,.str z]
def qqk:Key ->List PyData
 | .inl i=>[.int 0,.int i,.str ""]
 | .inr z=>[.int 1,.int 0,.str z]
def ordD (k:Key):PyData:= .tuple (qqk k)
def valD:Key ->PyData
 | .inl i=> .int i
 | .inr z=> .str z
def OkK:Key ->Prop
 | .inl _=>True
 | .inr z=>Wz 40 z
theorem qdy {K:PySem.W.Frag} {H:Hp}:∀ {k:Key},OkK k ->Dat K H (valD k) (kV k)
 | .inl i,_=> .int i
 | .inr z,h=> .str z (Wz.ok (n:=40) h)
theorem qpd {K:PySem.W.Frag} {H:Hp}:∀ {k:Key},OkK k ->Dats K H (qqk k) (keyV k)
 | .inl i,_=> .cons (.int 0) (.cons (.int i) (.cons (.str "" (by decide+kernel)) .nil))
 | .inr z,h=> .cons (.int 1) (.cons (.int 0) (.cons (.str z (Wz.ok (n:=40) h)) .nil))
theorem qna (k:Key):(ordD k).depth=1:=by cases k <;> rfl
theorem q3e (a b:Int):PyData.eqv (.int a) (.int b)=decide (a=b):=by
 show (a==b)=_;by_cases h:a=b <;> simp [h]
theorem qsa:∀ a b:Key,ltD? (ordD a) (ordD b)=some (befK a b)
 | .inl i,.inl j=>by
  show lexD? [.int 0,.int i,.str ""] [.int 0,.int j,.str ""]=_;rw [lexD?,if_pos (by decide),lexD?,q3e];by_cases h:i=j
  ·subst h;rw [if_pos (by simp),lexD?,if_pos (by decide),lexD?];simp [befK]
  ·rw [if_neg (by simpa using h),ltD?];rfl
 | .inl i,.inr y=>by
  show lexD? [.int 0,.int i,.str ""] [.int 1,.int 0,.str y]=_;rw [lexD?,if_neg (by decide),ltD?];rfl
 | .inr x,.inl j=>by
  show lexD? [.int 1,.int 0,.str x] [.int 0,.int j,.str ""]=_;rw [lexD?,if_neg (by decide),ltD?];rfl
 | .inr x,.inr y=>by
  show lexD? [.int 1,.int 0,.str x] [.int 1,.int 0,.str y]=_;rw [lexD?,if_pos (by decide),lexD?,if_pos (by decide),lexD?,q4w];by_cases h:x=y
  ·subst h;rw [if_pos (by simp),lexD?];simp [befK,strLt,List.lt_irrefl]
  ·rw [if_neg (by simpa using h),ltD?];rfl
def qi4:PyData ->Bool
 | .int _=>true
 | _=>false
def qpe (K:PySem.W.Frag):Sp:=λ vs H Q _=>∃ x d,vs=[x]/\Dat K H d x/\Q (.bl (qi4 d)) H
theorem q52 (T:Txt K mg):Def P w K mg base 1 "is_whole" ["thing"] (qpe K):=by
 refine T.qlj.ok qja (λ vs H Q E h=> ?_) λ f cdv A outer s H vs Q E hr h=> ?_
 ·obtain ⟨x,d,rfl,_⟩:=h;rfl
 ·obtain ⟨x,d,rfl,hd,k⟩:=h;refine ⟨_,(qe (qg (q6e (qt (q26 K) rfl T.q1d q17 (pa_2 (pv 0) (q41 rfl T.b_int qcb))) (q3z (qlx (qt (q26 K) rfl T.q1d q17 (pa_2 (pv 0) (q41 rfl T.q9u q7q)))))))),?_⟩;refine ⟨_,zr,_,_,_,zr,hd,by decide,_,zr,ite2 (λ h1=> ?_) (λ h1=> ?_)⟩
  ·refine ⟨_,zr,_,_,_,zr,hd,by decide,_,zr,?_⟩;cases hd <;> first | exact k | (exact absurd h1 z1b)
  ·cases hd <;> first | exact k | (exact absurd rfl h1)
def qsb:Sp:=λ vs H Q _=>∃ k:Key,vs=[kV k]/\OkK k/\∀ p,H p=none ->Q (.ref p) (upd H p (.tup (keyV k)))
theorem qi5 (T:Txt K mg):Def P w K mg base 2 "value_key" ["value"] qsb:=by
 refine T.qjg.ok qhy (λ vs H Q E h=> ?_) λ f cdv A outer s H vs Q E hr h=> ?_
 ·obtain ⟨k,rfl,_⟩:=h;rfl
 ·obtain ⟨k,rfl,hk,q⟩:=h;refine ⟨_,(q31
   (qx (q34 (qv (q52 T) hr rfl (pa_1 (pv 0)))) (qe (qg (q1x (pa_3 qb (pv 0) q2o)))) ql)
   (qg (q1x (pa_3 qb qb (pv 0))))),?_⟩
  refine ⟨_,zr,_,valD k,zr,qdy hk,_,zr,?_⟩;cases k with
  | inl i=>
   refine iteT ?_;exact ⟨_,rfl,by show 3<=sizeLine;decide,λ p hp=>q p hp⟩
  | inr z=>
   refine iteF ?_;exact ⟨_,rfl,by show 3<=sizeLine;decide,λ p hp=>q p hp⟩
def addN:V ->V ->V
 | .int i,.int j=> .int (i+j)
 | _,_=> .non
def minN:V ->V ->V
 | .non,y=>y
 | x,.non=>x
 | .int i,.int j=> .int (if j < i then j else i)
 | x,_=>x
def IsN (x:V):Prop:=x= .non\/ ∃ i,x= .int i
def sp_k (v:V):Sp:=λ vs H Q _=>∃ p:Addr,vs=[.ref p]/\Q v H
def qld (f:Int ->Int ->Int):Sp:=λ vs H Q _=>∃ (p:Addr) (i j:Int),vs=[.ref p,.int i,.int j]/\Q (.int (f i j)) H
def qu9:Sp:=λ vs H Q _=>∃ (p:Addr) (i j:Int),vs=[.ref p,.int i,.int j]/\qqf i j/\Q (.int (i*j)) H
def qql (f:V ->V ->V):Sp:=λ vs H Q _=>∃ (p:Addr) (x y:V),vs=[.ref p,x,y]/\IsN x/\IsN y/\Q (f x y) H
def qqm (f:Bool ->Bool ->Bool):Sp:=λ vs H Q _=>∃ (p:Addr) (x y:Bool),vs=[.ref p,.bl x,.bl y]/\Q (.bl (f x y)) H
theorem qbj (T:Txt K mg):MDef P w K mg base 1 (cA mg "Counts") "nought" ["self"] (sp_k (.int 0)):=by
 refine T.qd4.ok qbb (λ vs H Q E h=> ?_) λ f cdv A outer s H vs Q E hr h=> ?_
 ·obtain ⟨p,rfl,_⟩:=h;rfl
 ·obtain ⟨p,rfl,q⟩:=h;exact ⟨_,(qe (qg qb)),q⟩
theorem qdz (T:Txt K mg):MDef P w K mg base 1 (cA mg "Counts") "unit" ["self"] (sp_k (.int 1)):=by
 refine T.qga.ok qdo (λ vs H Q E h=> ?_) λ f cdv A outer s H vs Q E hr h=> ?_
 ·obtain ⟨p,rfl,_⟩:=h;rfl
 ·obtain ⟨p,rfl,q⟩:=h;exact ⟨_,(qe (qg qb)),q⟩
theorem qbk (T:Txt K mg):MDef P w K mg base 1 (cA mg "Counts") "either" ["self","one","other"] (qld (· + ·)):=by
 refine T.qd3.ok qbc (λ vs H Q E h=> ?_) λ f cdv A outer s H vs Q E hr h=> ?_
 ·obtain ⟨p,i,j,rfl,_⟩:=h;rfl
 ·obtain ⟨p,i,j,rfl,q⟩:=h;exact ⟨_,(qe (qg (qf q1a (pv 1) (pv 2)))),⟨_,zr,_,zr,_,_,zr,zr,q⟩⟩
theorem qe0 (T:Txt K mg):MDef P w K mg base 1 (cA mg "Counts") "both" ["self","one","other"] qu9:=by
 refine T.qgg.ok qdp (λ vs H Q E h=> ?_) λ f cdv A outer s H vs Q E hr h=> ?_
 ·obtain ⟨p,i,j,rfl,_⟩:=h;rfl
 ·obtain ⟨p,i,j,rfl,b,q⟩:=h;exact ⟨_,(qe (qg (qf qdh (pv 1) (pv 2)))),⟨_,zr,_,zr,_,_,zr,zr,b,q⟩⟩
theorem qcq (T:Txt K mg):MDef P w K mg base 1 (cA mg "Costs") "nought" ["self"] (sp_k .non):=by
 refine T.qei.ok qcm (λ vs H Q E h=> ?_) λ f cdv A outer s H vs Q E hr h=> ?_
 ·obtain ⟨p,rfl,_⟩:=h;rfl
 ·obtain ⟨p,rfl,q⟩:=h;exact ⟨_,(qe (qg q1u)),q⟩
theorem qg2 (T:Txt K mg):MDef P w K mg base 1 (cA mg "Costs") "unit" ["self"] (sp_k (.int 0)):=by
 refine T.qiq.ok qfx (λ vs H Q E h=> ?_) λ f cdv A outer s H vs Q E hr h=> ?_
 ·obtain ⟨p,rfl,_⟩:=h;rfl
 ·obtain ⟨p,rfl,q⟩:=h;exact ⟨_,(qe (qg qb)),q⟩
theorem qcr (T:Txt K mg):MDef P w K mg base 1 (cA mg "Costs") "either" ["self","one","other"] (qql minN):=by
 refine T.qel.ok qcn (λ vs H Q E h=> ?_) λ f cdv A outer s H vs Q E hr h=> ?_
 ·obtain ⟨p,x,y,rfl,_⟩:=h;rfl
 ·obtain ⟨p,x,y,rfl,hx,hy,q⟩:=h;refine ⟨_,(q63
   (qx (qr q55 (pv 1) q1u (qo _)) (qe (qg (pv 2))) ql)
   (qx (qr q55 (pv 2) q1u (qo _)) (qe (qg (pv 1))) ql)
   (qg (qt (qeu rfl) rfl T.b_min qca (pa_2 (pv 1) (pv 2))))),?_⟩
  rcases hx with rfl | ⟨i,rfl⟩
  ·exact ⟨_,zr,zr,_,zr,q16 rfl ⟨_,zr,q⟩⟩
  ·rcases hy with rfl | ⟨j,rfl⟩
   ·exact ⟨_,zr,zr,_,zr,qj rfl ⟨_,zr,zr,_,zr,q16 rfl ⟨_,zr,q⟩⟩⟩
   ·exact ⟨_,zr,zr,_,zr,qj rfl ⟨_,zr,zr,_,zr,qj rfl ⟨_,zr,_,zr,_,_,zr,q⟩⟩⟩
theorem qg3 (T:Txt K mg):MDef P w K mg base 1 (cA mg "Costs") "both" ["self","one","other"] (qql addN):=by
 refine T.qio.ok qfy (λ vs H Q E h=> ?_) λ f cdv A outer s H vs Q E hr h=> ?_
 ·obtain ⟨p,x,y,rfl,_⟩:=h;rfl
 ·obtain ⟨p,x,y,rfl,hx,hy,q⟩:=h;refine ⟨_,(q31
   (qx (PW.pt (qkl (qr q55 (pv 1) q1u (qo _)) (qh8 (qr q55 (pv 2) q1u (qo _))))) (qe (qg q1u)) ql)
   (qg (qf q1a (pv 1) (pv 2)))),?_⟩
  rcases hx with rfl | ⟨i,rfl⟩
  ·exact ⟨_,zr,zr,_,zr,q16 rfl q⟩
  ·rcases hy with rfl | ⟨j,rfl⟩
   ·exact ⟨_,zr,zr,_,zr,qj rfl ⟨_,zr,zr,_,zr,q16 rfl q⟩⟩
   ·exact ⟨_,zr,zr,_,zr,qj rfl ⟨_,zr,zr,_,zr,qj rfl ⟨_,zr,_,zr,_,_,zr,zr,q⟩⟩⟩
def qpf (C:Addr):Sp:=λ vs H Q _=>∃ (p dx:Addr) (v:V),vs=[.ref p,v]/\H p=some (.ins C dx [])/\Q .non (upd H p (.ins C dx [("top",v)]))
theorem qe1 (T:Txt K mg):IDef P w K mg base 1 (cA mg "Trusts") "top" (.int 100) (qpf (cA mg "Trusts")):=by
 refine T.qgh.ok qdq (λ vs H Q E h=> ?_) λ f cdv A outer s H vs Q E hr h=> ?_
 ·obtain ⟨p,dx,v,rfl,_⟩:=h;rfl
 ·obtain ⟨p,dx,v,rfl,hp,q⟩:=h;exact ⟨_,(qe (q7l (pv 0) (pv 1) rfl)),⟨_,rfl,_,rfl,p,_,dx,_,rfl,hp,T.q7b,T.q6w,(by show 0 < 1000;decide),q⟩⟩
theorem qbl (T:Txt K mg):MDef P w K mg base 1 (cA mg "Trusts") "nought" ["self"] (sp_k (.int 0)):=by
 refine T.qd0.ok qbd (λ vs H Q E h=> ?_) λ f cdv A outer s H vs Q E hr h=> ?_
 ·obtain ⟨p,rfl,_⟩:=h;rfl
 ·obtain ⟨p,rfl,q⟩:=h;exact ⟨_,(qe (qg qb)),q⟩
def qpg (C:Addr):Sp:=λ vs H Q _=>∃ (p dx:Addr) (v:V),vs=[.ref p]/\H p=some (.ins C dx [("top",v)])/\Q v H
theorem qe2 (T:Txt K mg):MDef P w K mg base 1 (cA mg "Trusts") "unit" ["self"] (qpg (cA mg "Trusts")):=by
 refine T.qge.ok qds (λ vs H Q E h=> ?_) λ f cdv A outer s H vs Q E hr h=> ?_
 ·obtain ⟨p,dx,v,rfl,_⟩:=h;rfl
 ·obtain ⟨p,dx,v,rfl,hp,q⟩:=h;exact ⟨_,(qe (qg (q1i (pv 0) rfl))),⟨_,zr,p,_,dx,_,v,zr,hp,T.q7b,T.q6w,zr,q⟩⟩
theorem qbm (T:Txt K mg):MDef P w K mg base 1 (cA mg "Trusts") "either" ["self","one","other"] (qld λ i j=>if j > i then j else i):=by
 refine T.qcz.ok qbe (λ vs H Q E h=> ?_) λ f cdv A outer s H vs Q E hr h=> ?_
 ·obtain ⟨p,i,j,rfl,_⟩:=h;rfl
 ·obtain ⟨p,i,j,rfl,q⟩:=h;exact ⟨_,(qe (qg (qt (qm2 rfl) rfl T.b_max qmp (pa_2 (pv 1) (pv 2))))),⟨_,zr,_,zr,_,_,zr,q⟩⟩
theorem qe3 (T:Txt K mg):MDef P w K mg base 1 (cA mg "Trusts") "both" ["self","one","other"] (qld λ i j=>if j < i then j else i):=by
 refine T.qgc.ok qdt (λ vs H Q E h=> ?_) λ f cdv A outer s H vs Q E hr h=> ?_
 ·obtain ⟨p,i,j,rfl,_⟩:=h;rfl
 ·obtain ⟨p,i,j,rfl,q⟩:=h;exact ⟨_,(qe (qg (qt (qeu rfl) rfl T.b_min qca (pa_2 (pv 1) (pv 2))))),⟨_,zr,_,zr,_,_,zr,q⟩⟩
theorem qbn (T:Txt K mg):MDef P w K mg base 1 (cA mg "Truths") "nought" ["self"] (sp_k (.bl false)):=by
 refine T.qd5.ok qbf (λ vs H Q E h=> ?_) λ f cdv A outer s H vs Q E hr h=> ?_
 ·obtain ⟨p,rfl,_⟩:=h;rfl
 ·obtain ⟨p,rfl,q⟩:=h;exact ⟨_,(qe (qg q3a)),q⟩
theorem qe4 (T:Txt K mg):MDef P w K mg base 1 (cA mg "Truths") "unit" ["self"] (sp_k (.bl true)):=by
 refine T.qg9.ok qdv (λ vs H Q E h=> ?_) λ f cdv A outer s H vs Q E hr h=> ?_
 ·obtain ⟨p,rfl,_⟩:=h;rfl
 ·obtain ⟨p,rfl,q⟩:=h;exact ⟨_,(qe (qg q3a)),q⟩
theorem qbo (T:Txt K mg):MDef P w K mg base 1 (cA mg "Truths") "either" ["self","one","other"] (qqm (· || ·)):=by
 refine T.qd2.ok qbg (λ vs H Q E h=> ?_) λ f cdv A outer s H vs Q E hr h=> ?_
 ·obtain ⟨p,i,j,rfl,_⟩:=h;rfl
 ·obtain ⟨p,i,j,rfl,q⟩:=h;refine ⟨_,(qe (qg (qq3 (pv 1) (q3z (pv 2))))),⟨_,zr,_,zr,?_⟩⟩;cases i with
  | true=>exact iteT q
  | false=>exact iteF ⟨_,rfl,q⟩
theorem qe5 (T:Txt K mg):MDef P w K mg base 1 (cA mg "Truths") "both" ["self","one","other"] (qqm (· && ·)):=by
 refine T.qgb.ok qdw (λ vs H Q E h=> ?_) λ f cdv A outer s H vs Q E hr h=> ?_
 ·obtain ⟨p,i,j,rfl,_⟩:=h;rfl
 ·obtain ⟨p,i,j,rfl,q⟩:=h;refine ⟨_,(qe (qg (q6e (pv 1) (q3z (pv 2))))),⟨_,zr,_,zr,?_⟩⟩;cases i with
  | true=>exact iteT ⟨_,rfl,q⟩
  | false=>exact iteF q
inductive K4
 | counts
 | costs
 | trusts (t:Int)
 | truths
def cls4 (mg:Str ->Option Value):K4 ->Addr
 | .counts=>cA mg "Counts"
 | .costs=>cA mg "Costs"
 | .trusts _=>cA mg "Trusts"
 | .truths=>cA mg "Truths"
def fs4:K4 ->List (Str×V)
 | .trusts t=>[("top",.int t)]
 | _=>[]
theorem q3p (m:Str) (hm:m≠"top") (k:K4):(fs4 k).lookup m=none:=by
 cases k with
 | trusts t=>
  show (match m=="top" with | true=>some _ | false=>List.lookup m [])=none;rw [beq_eq_false_iff_ne.mpr hm];rfl
 | _=>rfl
def By4 (mg:Str ->Option Value) (H:Hp) (o:Addr) (k:K4):Prop:=∃ dx,H o=some (.ins (cls4 mg k) dx (fs4 k))
theorem By4.same {mg:Str ->Option Value} {H H':Hp} {o:Addr} {k:K4} (h:By4 mg H o k) (s:Same H H'):By4 mg H' o k:=let ⟨dx,e⟩:=h;⟨dx,s _ _ e⟩
def Ok4:K4 ->V ->Prop
 | .counts,v=>∃ i,v= .int i/\0<=i
 | .costs,v=>v= .non\/ ∃ i,v= .int i
 | .trusts t,v=>∃ i,v= .int i/\0<=i/\i<=t
 | .truths,v=>∃ b,v= .bl b
def Lt4 (B:Int):K4 ->V ->Prop
 | .counts,v=>∃ i,v= .int i/\i < B
 | _,_=>True
def no4:K4 ->V
 | .counts=> .int 0
 | .costs=> .non
 | .trusts _=> .int 0
 | .truths=> .bl false
def un4:K4 ->V
 | .counts=> .int 1
 | .costs=> .int 0
 | .trusts t=> .int t
 | .truths=> .bl true
def iiV (f:Int ->Int ->Int):V ->V ->V
 | .int i,.int j=> .int (f i j)
 | _,_=> .non
def bbV (f:Bool ->Bool ->Bool):V ->V ->V
 | .bl i,.bl j=> .bl (f i j)
 | _,_=> .non
def ei4:K4 ->V ->V ->V
 | .counts=>iiV (· + ·)
 | .costs=>minN
 | .trusts _=>iiV λ i j=>if j > i then j else i
 | .truths=>bbV (· || ·)
def bo4:K4 ->V ->V ->V
 | .counts=>iiV (· * ·)
 | .costs=>addN
 | .trusts _=>iiV λ i j=>if j < i then j else i
 | .truths=>bbV (· && ·)
def rp4:K4 ->V ->Int ->V
 | .counts,v,n=>iiV (· * ·) v (.int n)
 | k,v,n=>if n=0 then no4 k else ei4 k v v
theorem q7w {k:K4} (hk:∀ t,k= .trusts t ->0<=t):Ok4 k (no4 k):=by
 cases k with
 | counts=>exact ⟨0,rfl,z3r _⟩
 | costs=>exact .inl rfl
 | trusts t=>exact ⟨0,rfl,z3r _,hk t rfl⟩
 | truths=>exact ⟨false,rfl⟩
theorem qua {k:K4} (hk:∀ t,k= .trusts t ->0<=t):Ok4 k (un4 k):=by
 cases k with
 | counts=>exact ⟨1,rfl,by decide⟩
 | costs=>exact .inr ⟨0,rfl⟩
 | trusts t=>exact ⟨t,rfl,hk t rfl,z3r _⟩
 | truths=>exact ⟨true,rfl⟩
theorem qcs {k:K4} {x y:V} (hx:Ok4 k x) (hy:Ok4 k y):Ok4 k (ei4 k x y):=by
 cases k with
 | counts=>
  obtain ⟨i,rfl,hi⟩:=hx;obtain ⟨j,rfl,J⟩:=hy;exact ⟨_,zr,Int.add_nonneg hi J⟩
 | costs=>
  rcases hx with rfl | ⟨i,rfl⟩
  ·exact hy
  ·rcases hy with rfl | ⟨j,rfl⟩ <;> exact .inr ⟨_,rfl⟩
 | trusts t=>
  obtain ⟨i,rfl,hi⟩:=hx;obtain ⟨j,rfl,J⟩:=hy;exact ⟨_,rfl,by dsimp only;split <;> lia⟩
 | truths=>
  obtain ⟨i,rfl⟩:=hx;obtain ⟨j,rfl⟩:=hy;exact ⟨_,zr⟩
theorem qub {k:K4} {x y:V} (hx:Ok4 k x) (hy:Ok4 k y):Ok4 k (bo4 k x y):=by
 cases k with
 | counts=>
  obtain ⟨i,rfl,hi⟩:=hx;obtain ⟨j,rfl,J⟩:=hy;exact ⟨_,zr,z32 hi J⟩
 | costs=>
  rcases hx with rfl | ⟨i,rfl⟩
  ·exact .inl rfl
  ·rcases hy with rfl | ⟨j,rfl⟩
   ·exact .inl rfl
   ·exact .inr ⟨_,zr⟩
 | trusts t=>
  obtain ⟨i,rfl,hi⟩:=hx;obtain ⟨j,rfl,J⟩:=hy;exact ⟨_,rfl,by dsimp only;split <;> lia⟩
 | truths=>
  obtain ⟨i,rfl⟩:=hx;obtain ⟨j,rfl⟩:=hy;exact ⟨_,zr⟩
theorem qi6 {k:K4} {x:V} {n:Int} (J:∀ t,k= .trusts t ->0<=t) (hx:Ok4 k x) (hn:0<=n):Ok4 k (rp4 k x n):=by
 cases k with
 | counts=>
  obtain ⟨i,rfl,hi⟩:=hx;exact ⟨_,zr,z32 hi hn⟩
 | costs=>show Ok4 _ (if _ then _ else _);split;exact q7w J;exact qcs hx hx
 | trusts t=>show Ok4 _ (if _ then _ else _);split;exact q7w J;exact qcs hx hx
 | truths=>show Ok4 _ (if _ then _ else _);split;exact q7w J;exact qcs hx hx
theorem qgr {α:Type} {C:List α ->Prop} (h0:C []) (h1:∀ l x,C l ->C (l++ [x])) (l:List α):C l:=by
 have h:∀ m:List α,C m.reverse:=λ m=>by
  induction m with
  | nil=>exact h0
  | cons x m ih=>
   rw [List.reverse_cons];exact h1 _ _ ih
 rw [<- List.reverse_reverse l];exact h _
def fit4:K4 ->PyData ->Bool
 | .counts,.int i=>decide (0<=i)
 | .costs,.none=>true
 | .costs,.int _=>true
 | .trusts t,.int i=>decide (0<=i)&&decide (i<=t)
 | .truths,.bool _=>true
 | _,_=>false
theorem qsc {H:Hp} {k:K4} {d:PyData} {x:V} (h:Dat K H d x) (e:fit4 k d=true):Ok4 k x:=by
 cases h with
 | int i=>
  cases k with
  | counts=>exact ⟨i,rfl,of_decide_eq_true e⟩
  | costs=>exact .inr ⟨i,rfl⟩
  | trusts t=>
   have e:(decide (0<=i)&&decide (i<=t))=true:=e;rw [z28] at e;exact ⟨i,zr,of_decide_eq_true e.1,of_decide_eq_true e.2⟩
  | truths=>cases e
 | non=>
  cases k with
  | costs=>exact .inl rfl
  | _=>cases e
 | bl b=>
  cases k with
  | truths=>exact ⟨b,rfl⟩
  | _=>cases e
 | _=>cases k <;> cases e
def quc (mg:Str ->Option Value) (k:K4):Sp:=λ vs H Q _=>∃ o,vs=[.ref o]/\By4 mg H o k/\Q (no4 k) H
def qud (mg:Str ->Option Value) (k:K4):Sp:=λ vs H Q _=>∃ o,vs=[.ref o]/\By4 mg H o k/\Q (un4 k) H
def que (mg:Str ->Option Value) (k:K4):Sp:=λ vs H Q _=>∃ (o:Addr) (x y:V),vs=[.ref o,x,y]/\By4 mg H o k/\Ok4 k x/\Ok4 k y/\Q (ei4 k x y) H
def quf (mg:Str ->Option Value) (k:K4):Sp:=λ vs H Q _=>∃ (o:Addr) (x y:V),vs=[.ref o,x,y]/\By4 mg H o k/\Ok4 k x/\Ok4 k y/\Lt4 (2^600) k x/\Lt4 (2^600) k y/\Q (bo4 k x y) H
def q9h (mg:Str ->Option Value) (k:K4):Sp:=λ vs H Q _=>∃ (o:Addr) (x:V) (n:Int),vs=[.ref o,x,.int n]/\By4 mg H o k/\Ok4 k x/\Lt4 (2^600) k x/\0<=n/\n < 2^600/\Q (rp4 k x n) H
def q9i (K:PySem.W.Frag) (mg:Str ->Option Value) (k:K4):Sp:=λ vs H Q _=>∃ (o:Addr) (x:V) (d:PyData),vs=[.ref o,x]/\By4 mg H o k/\Dat K H d x/\Q (.bl (fit4 k d)) H
theorem q2m (T:Txt K mg) (k:K4):Cls K (cls4 mg k):=by
 cases k with
 | counts=>exact T.qo2
 | costs=>exact T.qpv
 | trusts _=>exact T.q7b
 | truths=>exact T.qnt
theorem q5b (T:Txt K mg) (k:K4):MDef P w K mg base 1 (cls4 mg k) "nought" ["self"] (quc mg k):=by
 cases k with
 | counts=>exact (qbj T).imp λ vs H Q E ⟨o,e,_,q⟩=>⟨o,e,q⟩
 | costs=>exact (qcq T).imp λ vs H Q E ⟨o,e,_,q⟩=>⟨o,e,q⟩
 | trusts _=>exact (qbl T).imp λ vs H Q E ⟨o,e,_,q⟩=>⟨o,e,q⟩
 | truths=>exact (qbn T).imp λ vs H Q E ⟨o,e,_,q⟩=>⟨o,e,q⟩
theorem qsd (T:Txt K mg) (k:K4):MDef P w K mg base 1 (cls4 mg k) "unit" ["self"] (qud mg k):=by
 cases k with
 | counts=>exact (qdz T).imp λ vs H Q E ⟨o,e,_,q⟩=>⟨o,e,q⟩
 | costs=>exact (qg2 T).imp λ vs H Q E ⟨o,e,_,q⟩=>⟨o,e,q⟩
 | trusts t=>exact (qe2 T).imp λ vs H Q E ⟨o,e,⟨dx,h⟩,q⟩=>⟨o,dx,.int t,e,h,q⟩
 | truths=>exact (qe4 T).imp λ vs H Q E ⟨o,e,_,q⟩=>⟨o,e,q⟩
theorem q76 (T:Txt K mg) (k:K4):MDef P w K mg base 1 (cls4 mg k) "either" ["self","one","other"] (que mg k):=by
 cases k with
 | counts=>exact (qbk T).imp λ vs H Q E ⟨o,x,y,e,_,⟨i,ei,_⟩,⟨j,ej,_⟩,q⟩=>by subst ei ej;exact ⟨o,i,j,e,q⟩
 | costs=>exact (qcr T).imp λ vs H Q E ⟨o,x,y,e,_,hx,hy,q⟩=>⟨o,x,y,e,hx,hy,q⟩
 | trusts t=>exact (qbm T).imp λ vs H Q E ⟨o,x,y,e,_,⟨i,ei,_⟩,⟨j,ej,_⟩,q⟩=>by subst ei ej;exact ⟨o,i,j,e,q⟩
 | truths=>exact (qbo T).imp λ vs H Q E ⟨o,x,y,e,_,⟨i,ei⟩,⟨j,ej⟩,q⟩=>by subst ei ej;exact ⟨o,i,j,e,q⟩
theorem qse (T:Txt K mg) (k:K4):MDef P w K mg base 1 (cls4 mg k) "both" ["self","one","other"] (quf mg k):=by
 cases k with
 | counts=>
  refine (qe0 T).imp λ vs H Q E J=> ?_;obtain ⟨o,x,y,e,_,⟨i,ei,h1⟩,⟨j,ej,h2⟩,⟨i',e3,h3⟩,⟨j',e4,h4⟩,q⟩:=J;subst ei ej;cases e3
  cases e4
  exact ⟨o,i,j,e,⟨⟨h1,h3⟩,h2,h4⟩,q⟩
 | costs=>exact (qg3 T).imp λ vs H Q E ⟨o,x,y,e,_,hx,hy,_,_,q⟩=>⟨o,x,y,e,hx,hy,q⟩
 | trusts t=>exact (qe3 T).imp λ vs H Q E ⟨o,x,y,e,_,⟨i,ei,_⟩,⟨j,ej,_⟩,_,_,q⟩=>by subst ei ej;exact ⟨o,i,j,e,q⟩
 | truths=>exact (qe5 T).imp λ vs H Q E ⟨o,x,y,e,_,⟨i,ei⟩,⟨j,ej⟩,_,_,q⟩=>by subst ei ej;exact ⟨o,i,j,e,q⟩
theorem qe6 {a b:Int} (h:decide (V.int a=V.int b)=true):a=b:=by
 have:=of_decide_eq_true h;injection this
theorem qbp {a b:Int} (h:¬ decide (V.int a=V.int b)=true):a≠b:=λ e=>h (z2w (congrArg V.int e))
theorem q9j (T:Txt K mg):MDef P w K mg base 1 (cA mg "Counts") "repeated" ["self","worth","many"] (q9h mg .counts):=by
 refine T.qaf.ok q9c (λ vs H Q E h=> ?_) λ f cdv A outer s H vs Q E hr h=> ?_
 ·obtain ⟨o,x,n,rfl,_⟩:=h;rfl
 ·obtain ⟨o,x,n,rfl,_,⟨i,rfl,h1⟩,⟨i',e,h2⟩,h3,h4,q⟩:=h;cases e
  exact ⟨_,(qe (qg (qf qdh (pv 1) (pv 2)))),⟨_,zr,_,zr,_,_,zr,zr,⟨⟨h1,h2⟩,h3,h4⟩,q⟩⟩
theorem qaa (T:Txt K mg):MDef P w K mg base 2 (cA mg "Costs") "repeated" ["self","worth","many"] (q9h mg .costs):=by
 refine T.qbt.ok qa9 (λ vs H Q E h=> ?_) λ f cdv A outer s H vs Q E hr h=> ?_
 ·obtain ⟨o,x,n,rfl,_⟩:=h;rfl
 ·obtain ⟨o,x,n,rfl,⟨dx,J⟩,hx,_,_,_,q⟩:=h;have q:Q (if n=0 then no4 .costs else ei4 .costs x x) H:=q;refine ⟨_,(q31
   (qx (qr q1s (pv 2) qb (qo _)) (qe (qg (q3y (q5b T) (q2m T) hr (pv 0)))) ql)
   (qg (q38 (q76 T) (q2m T) hr (pv 0) (pa_2 (pv 1) (pv 1))))),?_⟩
  refine ⟨_,zr,zr,_,zr,ite2 (λ h=> ?_) (λ h=> ?_)⟩
  ·rw [if_pos (qe6 h)] at q;exact ⟨_,zr,.costs,o,dx,_,zr,J,zr,o,zr,⟨dx,J⟩,q⟩
  ·rw [if_neg (qbp h)] at q;exact ⟨_,zr,.costs,o,dx,_,zr,J,zr,_,zr,_,zr,o,_,_,zr,⟨dx,J⟩,hx,hx,q⟩
theorem q9k (T:Txt K mg) (t:Int):MDef P w K mg base 2 (cA mg "Trusts") "repeated" ["self","worth","many"] (q9h mg (.trusts t)):=by
 refine T.qae.ok q9d (λ vs H Q E h=> ?_) λ f cdv A outer s H vs Q E hr h=> ?_
 ·obtain ⟨o,x,n,rfl,_⟩:=h;rfl
 ·obtain ⟨o,x,n,rfl,⟨dx,J⟩,hx,_,_,_,q⟩:=h;have q:Q (if n=0 then no4 (.trusts t) else ei4 (.trusts t) x x) H:=q;refine ⟨_,(q31
   (qx (qr q1s (pv 2) qb (qo _)) (qe (qg (q3y (q5b T) (q2m T) hr (pv 0)))) ql)
   (qg (q38 (q76 T) (q2m T) hr (pv 0) (pa_2 (pv 1) (pv 1))))),?_⟩
  refine ⟨_,zr,zr,_,zr,ite2 (λ h=> ?_) (λ h=> ?_)⟩
  ·rw [if_pos (qe6 h)] at q;exact ⟨_,zr,.trusts t,o,dx,_,zr,J,q3p _ (by decide) _,o,zr,⟨dx,J⟩,q⟩
  ·rw [if_neg (qbp h)] at q;exact ⟨_,zr,.trusts t,o,dx,_,zr,J,q3p _ (by decide) _,_,zr,_,zr,o,_,_,zr,⟨dx,J⟩,hx,hx,q⟩
theorem q9l (T:Txt K mg):MDef P w K mg base 2 (cA mg "Truths") "repeated" ["self","worth","many"] (q9h mg .truths):=by
 refine T.qad.ok q9e (λ vs H Q E h=> ?_) λ f cdv A outer s H vs Q E hr h=> ?_
 ·obtain ⟨o,x,n,rfl,_⟩:=h;rfl
 ·obtain ⟨o,x,n,rfl,⟨dx,J⟩,hx,_,_,_,q⟩:=h;have q:Q (if n=0 then no4 .truths else ei4 .truths x x) H:=q;refine ⟨_,(q31
   (qx (qr q1s (pv 2) qb (qo _)) (qe (qg (q3y (q5b T) (q2m T) hr (pv 0)))) ql)
   (qg (q38 (q76 T) (q2m T) hr (pv 0) (pa_2 (pv 1) (pv 1))))),?_⟩
  refine ⟨_,zr,zr,_,zr,ite2 (λ h=> ?_) (λ h=> ?_)⟩
  ·rw [if_pos (qe6 h)] at q;exact ⟨_,zr,.truths,o,dx,_,zr,J,zr,o,zr,⟨dx,J⟩,q⟩
  ·rw [if_neg (qbp h)] at q;exact ⟨_,zr,.truths,o,dx,_,zr,J,zr,_,zr,_,zr,o,_,_,zr,⟨dx,J⟩,hx,hx,q⟩
theorem qjd (T:Txt K mg) (k:K4):MDef P w K mg base 2 (cls4 mg k) "repeated" ["self","worth","many"] (q9h mg k):=by
 cases k with
 | counts=>exact MDef.mono (q9j T) (by decide)
 | costs=>exact qaa T
 | trusts t=>exact q9k T t
 | truths=>exact q9l T
theorem qff {H:Hp} {d:PyData} {x:V} (h:Dat K H d x):(∃ i,d= .int i/\x= .int i)\/ (qi4 d=false/\∀ i,d≠ .int i):=by
 cases h with
 | int i=>exact .inl ⟨i,rfl,rfl⟩
 | non=>exact .inr ⟨rfl,λ _ z=>nomatch z⟩
 | bl _=>exact .inr ⟨rfl,λ _ z=>nomatch z⟩
 | str _ _=>exact .inr ⟨rfl,λ _ z=>nomatch z⟩
 | lst _ _=>exact .inr ⟨rfl,λ _ z=>nomatch z⟩
 | tup _ _=>exact .inr ⟨rfl,λ _ z=>nomatch z⟩
theorem qe7 (T:Txt K mg):MDef P w K mg base 2 (cA mg "Counts") "fits" ["self","thing"] (q9i K mg .counts):=by
 refine T.qgi.ok qdn (λ vs H Q E h=> ?_) λ f cdv A outer s H vs Q E hr h=> ?_
 ·obtain ⟨o,x,d,rfl,_⟩:=h;rfl
 ·obtain ⟨o,x,d,rfl,_,hd,q⟩:=h;refine ⟨_,(qe (qg (q6e (qv (q52 T) hr rfl (pa_1 (pv 1))) (q3z (q30 qv6 (pv 1) qb (qo _)))))),?_⟩;refine ⟨_,zr,x,d,zr,hd,_,zr,?_⟩;rcases qff hd with ⟨i,rfl,rfl⟩ | ⟨n,hn⟩
  ·exact q16 rfl ⟨_,zr,_,_,zr,zr,q⟩
  ·refine qj n ?_;have e:fit4 .counts d=false:=by
    cases d with
    | int i=>exact absurd rfl (hn i)
    | _=>rfl
   rw [e] at q;exact q
theorem qg4 (T:Txt K mg):MDef P w K mg base 2 (cA mg "Costs") "fits" ["self","thing"] (q9i K mg .costs):=by
 refine T.qin.ok qfw (λ vs H Q E h=> ?_) λ f cdv A outer s H vs Q E hr h=> ?_
 ·obtain ⟨o,x,d,rfl,_⟩:=h;rfl
 ·obtain ⟨o,x,d,rfl,_,hd,q⟩:=h;refine ⟨_,(qe (qg (qq3 (q30 q55 (pv 1) q1u (qo _)) (q3z (qv (q52 T) hr rfl (pa_1 (pv 1))))))),?_⟩;refine ⟨_,zr,zr,_,zr,?_⟩;cases hd with
  | non=>exact q16 rfl q
  | bl b=>exact qj rfl ⟨_,rfl,_,_,rfl,.bl b,q⟩
  | int i=>exact qj rfl ⟨_,rfl,_,_,rfl,.int i,q⟩
  | str z hz=>exact qj rfl ⟨_,rfl,_,_,rfl,.str z hz,q⟩
  | lst a b=>exact qj rfl ⟨_,rfl,_,_,rfl,.lst a b,q⟩
  | tup a b=>exact qj rfl ⟨_,rfl,_,_,rfl,.tup a b,q⟩
theorem qe8 (T:Txt K mg) (t:Int):MDef P w K mg base 2 (cA mg "Trusts") "fits" ["self","thing"] (q9i K mg (.trusts t)):=by
  refine T.qgj.ok qdr (λ vs H Q E h=> ?_) λ f cdv A outer s H vs Q E hr h=> ?_
  · obtain ⟨o,x,d,rfl,_⟩:=h
    rfl
  · obtain ⟨o,x,d,rfl,⟨dx,hp⟩,hd,q⟩:=h
    refine ⟨_,(qe (qg (q6e (qv (q52 T) hr rfl (pa_1 (pv 1))) (q3z (qoa qq7 qq7 qb (pv 1) (q1i (pv 0) rfl)))))),?_⟩;refine ⟨_,zr,x,d,zr,hd,_,zr,?_⟩;rcases qff hd with ⟨i,rfl,rfl⟩ | ⟨n,hn⟩
    · refine q16 rfl ⟨_,zr,_,_,zr,zr,_,zr,ite2 (λ h1=> ?_) (λ h1=> ?_)⟩
      · refine ⟨_,zr,o,_,dx,_,_,zr,hp,T.q7b,T.q6w,zr,_,_,zr,zr,?_⟩
        have e:fit4 (.trusts t) (.int i)=decide (i<=t):=by
          show (decide (0<=i)&&decide (i<=t))=_;rw [h1,z3a]
        rw [e] at q;exact q
      · have e:fit4 (.trusts t) (.int i)=false:=by
          show (decide (0<=i)&&decide (i<=t))=_;rw [Bool.eq_false_iff.mpr h1,z2y]
        rw [e] at q;exact q
    · refine qj n ?_
      have e:fit4 (.trusts t) d=false:=by
        cases d with
        | int i=>exact absurd rfl (hn i)
        | _=>rfl
      rw [e] at q;exact q
theorem qe9 (T:Txt K mg):MDef P w K mg base 1 (cA mg "Truths") "fits" ["self","thing"] (q9i K mg .truths):=by
 refine T.qgd.ok qdu (λ vs H Q E h=> ?_) λ f cdv A outer s H vs Q E hr h=> ?_
 ·obtain ⟨o,x,d,rfl,_⟩:=h;rfl
 ·obtain ⟨o,x,d,rfl,_,hd,q⟩:=h;refine ⟨_,(qe (qg (qt (q26 K) rfl T.q1d q17 (pa_2 (pv 1) (q41 rfl T.q9u q7q))))),?_⟩;refine ⟨_,zr,x,_,d,zr,hd,by decide,?_⟩;cases hd <;> exact q
theorem qk9 (T:Txt K mg) (k:K4):MDef P w K mg base 2 (cls4 mg k) "fits" ["self","thing"] (q9i K mg k):=by
 cases k with
 | counts=>exact qe7 T
 | costs=>exact qg4 T
 | trusts t=>exact qe8 T t
 | truths=>exact MDef.mono (qe9 T) (by decide)
def Vp (H:Hp) (d:Addr) (f:Str ->Option V):Prop:=∃ kvs,Rd H d (.dK kvs)/\∀ z,valV kvs (Sum.inr z)=f z
theorem Vp.same {H H':Hp} {d:Addr} {f:Str ->Option V} (h:Vp H d f) (s:Same H H'):Vp H' d f:=by
 obtain ⟨kvs,hr,hv⟩:=h;refine ⟨kvs,?_,hv⟩;rcases hr with hr | ⟨o,hr⟩
 ·exact .inl (s _ _ hr)
 ·exact .inr ⟨o,s _ _ hr⟩
theorem Vp.get {H:Hp} {d:Addr} {f:Str ->Option V} (h:Vp H d f) (z:Str):DGet H d (.str z) (f z):=by
 obtain ⟨kvs,hr,hv⟩:=h;exact .inl ⟨kvs,Sum.inr z,hr,zr,(hv z).symm⟩
structure G4 (k:K4) (f:Str ->Option V):Prop where
 top:∀ t,k= .trusts t ->0<=t
 ok:∀ z v,f z=some v ->Ok4 k v/\Lt4 (2^600) k v
def gv (f:Str ->Option V) (z:Str):V:=(f z).getD .non
def rkP4 (k:K4) (g:Str ->V) (p:List Str):V:=p.foldl (λ z n=>bo4 k z (g n)) (un4 k)
def rkY4 (k:K4) (g:Str ->V) (Y:Tab):V:=Y.foldl (λ z kv=>ei4 k z (rp4 k (rkP4 k g kv.1) kv.2)) (no4 k)
theorem q77 (k:K4) (g:Str ->V) (p:List Str) (n:Str):rkP4 k g (p++ [n])=bo4 k (rkP4 k g p) (g n):=z21
theorem qfg (k:K4) (g:Str ->V) (Y:Tab) (kv:List Str×Int):rkY4 k g (Y++ [kv])=ei4 k (rkY4 k g Y) (rp4 k (rkP4 k g kv.1) kv.2):=z21
theorem q7x {k:K4} {f:Str ->Option V} (h:G4 k f) {p:List Str} (hp:∀ n∈p,∃ v,f n=some v):Ok4 k (rkP4 k (gv f) p):=by
 revert hp;refine qgr (C:=λ p=>(∀ n∈p,∃ v,f n=some v) ->Ok4 k (rkP4 k (gv f) p)) (λ _=>qua h.top) (λ p n ih hp=> ?_) p;rw [q77];obtain ⟨v,J⟩:=hp n (z0r _ (z1c.mpr rfl));refine qub (ih λ m hm=>hp m (z10 _ hm)) ?_;unfold gv;rw [J];exact (h.ok n v J).1
theorem qa5 {k:K4} {f:Str ->Option V} (h:G4 k f) {Y:Tab} (hp:∀ q∈Y,(∀ n∈q.1,∃ v,f n=some v)/\0<=q.2):Ok4 k (rkY4 k (gv f) Y):=by
 revert hp;refine qgr (C:=λ Y=>(∀ q∈Y,(∀ n∈q.1,∃ v,f n=some v)/\0<=q.2) ->Ok4 k (rkY4 k (gv f) Y)) (λ _=>q7w h.top) (λ Y q ih hp=> ?_) Y;rw [qfg];obtain ⟨h1,h2⟩:=hp q (z0r _ (z1c.mpr rfl));exact qcs (ih λ m hm=>hp m (z10 _ hm)) (qi6 h.top (q7x h h1) h2)
theorem q7y {K:PySem.W.Frag} {H:Hp} {k:K4} {v:V} (h:Ok4 k v):∃ d,Dat K H d v/\fit4 k d=true:=by
 cases k with
 | counts=>
  obtain ⟨i,rfl,hi⟩:=h;exact ⟨_,.int i,z2w hi⟩
 | costs=>
  rcases h with rfl | ⟨i,rfl⟩
  ·exact ⟨_,.non,zr⟩
  ·exact ⟨_,.int i,zr⟩
 | trusts t=>
  obtain ⟨i,rfl,h1,h2⟩:=h;exact ⟨_,.int i,by show (decide (0<=i)&&decide (i<=t))=true;rw [z2w h1,z2w h2];rfl⟩
 | truths=>
  obtain ⟨b,rfl⟩:=h;exact ⟨_,.bl b,zr⟩
def qug (mg:Str ->Option Value):Sp:=λ vs H Q _=>∃ (b o d:Addr) (p:List Str) (k:K4) (f:Str ->Option V),vs=[.ref b,.ref o,.ref d]/\H b=some (.tup (p.map V.str))/\By4 mg H o k/\Vp H d f/\G4 k f/\(∀ n∈p,∃ v,f n=some v)/\(∀ i,Lt4 (2^600) k (rkP4 k (gv f) (p.take i)))/\Q (rkP4 k (gv f) p) H
theorem q8s (T:Txt K mg):Def P w K mg base 2 "product_reckoned" ["product","by","worths"] (qug mg):=by
 refine T.q9s.ok q2c (λ vs H Q E h=> ?_) λ f cdv A outer s H vs Q E hr h=> ?_
 ·obtain ⟨b,o,d,p,k,f,rfl,_⟩:=h;rfl
 ·obtain ⟨b,o,d,p,k,U,rfl,hb,⟨dx,O⟩,hd,ok,J,Y,q⟩:=h;refine ⟨_,(q63
   (qk (i:=3) q2c.nd rfl (Or.inl rfl) (q3y (qsd T) (q2m T) hr (pv 1)))
   (q23 PassesOwn.never rfl (q69 K (pv 0)) (qm (i:=4) q2c.nd rfl (Or.inl rfl)) (qe (qk (i:=3) q2c.nd rfl (Or.inl rfl) (q38 (qse T) (q2m T) hr (pv 1) (pa_2 (pv 3) (q68 (q3c hr) (pv 2) (pv 4) (λ _ _=>rfl)))))))
   (qg (pv 3))),?_⟩
  refine ⟨_,zr,k,o,dx,_,zr,O,q3p _ (by decide) k,o,zr,⟨dx,O⟩,?_⟩;refine ⟨_,rfl,b,rfl,⟨_,SqT.of hb⟩,qjs (xs:=p.map V.str) (λ i σ G=>G=H/\∃ v,σ=[some (.ref b),some (.ref o),some (.ref d),some (rkP4 k (gv U) (p.take i)),v]) ⟨rfl,_,rfl⟩ (λ i σ G _ z=>by rw [z.1];exact SqT.of hb) ?_ ?_⟩
  ·rintro i x σ G hx ⟨rfl,v,rfl⟩;rw [z1s] at hx;obtain ⟨n,hn,rfl⟩:=z0l.mp hx;obtain ⟨a,ha⟩:=J n (z11 hn);have Z:=hd.get n;rw [ha] at Z;refine ⟨_,zr,k,o,dx,_,zr,O,q3p _ (by decide) k,_,zr,_,zr,_,zr,d,_,zr,Z,o,_,a,zr,⟨dx,O⟩,q7x ok λ m hm=>J m (z0y hm),(ok.ok n a ha).1,Y i,(ok.ok n a ha).2,zr,some (.str n),?_⟩;have e:gv U n=a:=by
    unfold gv;rw [ha];rfl
   rw [z31,hn];show _=[_,_,_,some (rkP4 k (gv U) (p.take i++ [n])),_];rw [q77,e];rfl
  ·rintro σ G ⟨rfl,v,rfl⟩;rw [z2l,z2e];exact ⟨_,zr,q⟩
def qsf (mg:Str ->Option Value):Sp:=λ vs H Q E=>∃ (p o d:Addr) (ns:List Str) (k:K4) (f:Str ->Option V),vs=[.ref p,.ref o,.ref d]/\H p=some (.lst (ns.map V.str))/\By4 mg H o k/\Vp H d f/\G4 k f/\(∀ n∈ns,n.length<=1000)/\
 ((∀ n∈ns,∃ v,f n=some v) ->Q .non H)/\((∃ n∈ns,f n=none) ->E (.ref (cA mg "NoWorth")) none H)
theorem qea (T:Txt K mg):DefE P w K mg base 3 "ask_worths" ["names","by","worths"] (qsf mg):=by
 refine T.qir.okE q8o (λ vs H Q E h=> ?_) λ f cdv A outer s H vs Q E hr h=> ?_
 ·obtain ⟨p,o,d,ns,k,f,rfl,_⟩:=h;rfl
 ·obtain ⟨p,o,d,ns,k,U,rfl,hp,⟨dx,Y⟩,hd,ok,nl,q,no⟩:=h;refine ⟨_,(qe (q23 PassesOwn.leaving rfl (q1l K (pv 0)) (qm (i:=3) q8o.nd rfl (Or.inl rfl)) (qe (qx (PW.pt (qkl (qlw (qmc (q3c hr) (pv 3) (pv 2))) (qh8 (q6d (q34 (q38 (qk9 T) (q2m T) hr (pv 1) (pa_1 (q68 (q3c hr) (pv 2) (pv 3) (λ _ _=>rfl))))))))) (qe (qhr q7t T.q27.new T.q9t (pa_1 (qp1 (qqg (pv 3)) q2o)))) ql)))),?_⟩;refine ⟨_,rfl,p,rfl,⟨_,SqL.of hp⟩,q2t (xs:=ns.map V.str) (λ i σ G=>G=H/\(∀ n∈ns.take i,∃ v,U n=some v)/\∃ v,σ=[some (.ref p),some (.ref o),some (.ref d),v]) ⟨rfl,(λ _ z=>nomatch z),_,rfl⟩ (λ i σ G _ z=>by rw [z.1];exact SqL.of hp) ?_ ?_⟩
  ·rintro i x σ G hx ⟨rfl,O,v,rfl⟩;rw [z1s] at hx;obtain ⟨z,hz,rfl⟩:=z0l.mp hx;have zm:=z11 hz;have Z:=nl z zm;have J:=hd.get z;cases e1:U z with
   | none=>
    rw [e1] at J;refine ⟨_,zr,_,zr,d,_,zr,J,_,zr,q16 rfl (iteT ?_)⟩;exact ⟨_,rfl,z,rfl,z3i Z (by decide),_,rfl,z3i Z (by decide),_,rfl,by decide,by show 1<=sizeLine;decide,no ⟨z,zm,e1⟩⟩
   | some u=>
    rw [e1] at J;obtain ⟨a,wu,hf⟩:=q7y (K:=K) (H:=G) (ok.ok z u e1).1;refine ⟨_,zr,_,zr,d,_,zr,J,_,zr,qj rfl ?_⟩;refine ⟨_,zr,k,o,dx,_,zr,Y,q3p _ (by decide) k,_,zr,_,zr,d,_,zr,J,o,u,a,zr,⟨dx,Y⟩,wu,?_⟩;rw [hf];refine ⟨_,zr,iteF ⟨zr,λ n hn=> ?_,_,zr⟩⟩;rw [z31,hz] at hn;rcases z2f.mp hn with h | h
    ·exact O n h
    ·rw [z1c.mp h];exact ⟨u,e1⟩
  ·rintro σ G ⟨rfl,O,v,rfl⟩;rw [z2l,z2e] at O;exact q O
def Sz4 (k:K4) (f:Str ->Option V) (Y:Tab):Prop:=∀ kv∈Y,kv.2 < 2^600/\∀ i,Lt4 (2^600) k (rkP4 k (gv f) (kv.1.take i))
def quh (mg:Str ->Option Value):Sp:=λ vs H Q E=>∃ (l o d:Addr) (Y:Tab) (k:K4) (f:Str ->Option V),vs=[.ref l,.ref o,.ref d]/\WA H l Y/\By4 mg H o k/\Vp H d f/\G4 k f/\(∀ p∈Y,∀ n∈p.1,n.length<=1000)/\
 ((∀ p∈Y,∀ n∈p.1,∃ v,f n=some v) ->Sz4 k f Y/\∀ H',Same H H' ->Q (rkY4 k (gv f) Y) H')/\((∃ p∈Y,∃ n∈p.1,f n=none) ->∀ H',Same H H' ->E (.ref (cA mg "NoWorth")) none H')
theorem q9m (T:Txt K mg):DefE P w K mg base 4 "reckoned" ["why","by","worths"] (quh mg):=by
 refine T.qlk.okE q3n (λ vs H Q E h=> ?_) λ f cdv A outer s H vs Q E hr h=> ?_
 ·obtain ⟨l,o,d,Y,k,f,rfl,_⟩:=h;rfl
 ·obtain ⟨l,o,d,Y,k,Z,rfl,hl,hB,hd,ok,sh,q,no⟩:=h;refine ⟨_,(q9z
   (q28 (qdj (qea T) (q98 q7t) hr rfl (pa_3 (qv (q7i T) hr rfl (pa_1 (pv 0))) (pv 1) (pv 2))))
   (qk (i:=3) q3n.nd rfl (Or.inl rfl) (q3y (q5b T) (q2m T) hr (pv 1)))
   (q23 PassesOwn.leaving rfl (q1l K (pv 0)) (q90 rfl (q1r (qm (i:=4) q3n.nd rfl (Or.inl rfl)) (q1r (qm (i:=5) q3n.nd rfl (Or.inl rfl)) q4j))) (qe (qk (i:=3) q3n.nd rfl (Or.inl rfl) (q38 (q76 T) (q2m T) hr (pv 1) (pa_2 (pv 3) (q38 (qjd T) (q2m T) hr (pv 1) (pa_2 (qv (q8s T) hr rfl (pa_3 (pv 4) (pv 1) (pv 2))) (pv 5))))))))
   (qg (pv 3))),?_⟩
  refine ⟨_,zr,l,Y,zr,hl,λ p ns H1 s1 _ hp a1 _=> ?_⟩;refine ⟨_,zr,_,zr,p,o,d,ns,k,Z,zr,hp,hB.same s1,hd.same s1,ok,λ n hn=> ?_,λ gd=> ?_,λ bd=> ?_⟩
  ·obtain ⟨kv,O,hx⟩:=(a1.2 n).mp hn;exact sh kv O n hx
  ·have U:∀ p∈Y,∀ n∈p.1,∃ v,Z n=some v:=λ p hp n hn=>gd n ((a1.2 n).mpr ⟨p,hp,hn⟩);obtain ⟨dx,J⟩:=hB.same s1;have a7:=hd.same s1;obtain ⟨xs,a4,a3,a2⟩:=hl.same s1;have xl:=Paired.length a3;obtain ⟨sz,qq⟩:=q U;have qq:=qq H1 s1;refine ⟨_,zr,k,o,dx,_,zr,J,q3p _ (by decide) k,o,zr,⟨dx,J⟩,?_⟩;refine ⟨_,rfl,l,rfl,⟨_,SqL.of a4⟩,q2t (xs:=xs) (λ i σ G=>G=H1/\∃ v1 v2,σ=[some (.ref l),some (.ref o),some (.ref d),some (rkY4 k (gv Z) (Y.take i)),v1,v2]) ⟨rfl,_,_,rfl⟩ (λ i σ G _ z=>by rw [z.1];exact SqL.of a4) ?_ ?_⟩
   ·rintro i x σ G hx ⟨rfl,v1,v2,rfl⟩;obtain ⟨kv,O,a8⟩:=q1h a3 hx;obtain ⟨qa,b,rfl,hq,a6⟩:=a8;have hm:=z11 O;have a5:0<=kv.2:=(a2.2 kv hm).2.2.1;have nn:∀ q∈Y.take i,(∀ n∈q.1,∃ v,Z n=some v)/\0<=q.2:=λ q hq=>⟨U q (z0y hq),(a2.2 q (z0y hq)).2.2.1⟩;have a9:Lt4 (2^600) k (rkP4 k (gv Z) kv.1):=by
     have:=(sz kv hm).2 kv.1.length;rw [z2e] at this;exact this
    have oP:=q7x ok (U kv hm);refine ⟨_,_,zr,SqT.of hq,zr,_,_,zr,_,_,zr,zr,?_⟩;refine ⟨_,zr,k,o,dx,_,zr,J,q3p _ (by decide) k,_,zr,_,zr,k,o,dx,_,zr,J,q3p _ (by decide) k,_,zr,_,zr,_,zr,b,o,d,kv.1,k,Z,zr,a6,⟨dx,J⟩,a7,ok,U kv hm,(sz kv hm).2,?_⟩;refine ⟨_,zr,o,_,kv.2,zr,⟨dx,J⟩,oP,a9,a5,(sz kv hm).1,?_⟩;refine ⟨o,_,_,zr,⟨dx,J⟩,qa5 ok nn,qi6 ok.top oP a5,zr,some (.ref b),some (.int kv.2),?_⟩;rw [z31,O];show _=[_,_,_,some (rkY4 k (gv Z) (Y.take i++ [kv])),_,_];rw [qfg];rfl
   ·rintro σ G ⟨rfl,v1,v2,rfl⟩;rw [xl,z2e];exact ⟨_,zr,qq⟩
  ·obtain ⟨n,hn,e⟩:=bd;obtain ⟨kv,O,hx⟩:=(a1.2 n).mp hn;exact no ⟨kv,O,n,hx,e⟩ H1 s1
def smaS:Str:="abcdefghijklmnopqrstuvwxyz"
theorem qsg {F z:Str} {c:Nat} {r:List Nat} (e:z.cps.toList=c::r) (hl:r.length<=11) (hc:c∈F.cps.toList) (hr:∀ d∈r,d∈fur.cps.toList):txtB F z=true:=by
 have hz:=q3v z;rw [e,z24] at hz;rw [qk6 (by lia) (by lia),e];show (decide (c∈F.cps.toList)&&r.all λ d=>decide (d∈fur.cps.toList))=true;rw [z2w hc,z3a,z29];exact λ d hd=>z2w (hr d hd)
theorem qui:∀ c∈smaS.cps.toList,c < 0x110000:=by decide+kernel
theorem q4f {F z:Str} (h:txtB F z=true):1<=z.length/\z.length<=12/\∃ c r,z.cps.toList=c::r/\c∈F.cps.toList/\∀ d∈r,d∈fur.cps.toList:=by
 by_cases hl:1<=z.length/\z.length<=12
 ·obtain ⟨c,r,e⟩:=qla hl.1;rw [qk6 hl.1 hl.2,e] at h;have h':(decide (c∈F.cps.toList)&&r.all λ d=>decide (d∈fur.cps.toList))=true:=h;rw [z28,z29] at h';exact ⟨hl.1,hl.2,c,r,e,of_decide_eq_true h'.1,λ d hd=>of_decide_eq_true (h'.2 d hd)⟩
 ·rw [qp2 hl] at h;cases h
theorem qph {F z:Str} (hF:∀ c∈F.cps.toList,c < 0x110000) (h:txtB F z=true):PyData.strOk z=true:=by
 obtain ⟨_,_,c,r,e,hc,hr⟩:=q4f h;refine qhz λ d hd=> ?_;rw [e] at hd;rcases z35.mp hd with rfl | hd
 ·exact hF _ hc
 ·exact qn8 d (hr d hd)
def GoodK:Key ->Prop
 | .inl _=>True
 | .inr z=>txtB smaS z=true
theorem GoodK.tx:∀ {k:Key},GoodK k ->TxOk k
 | .inl _,_=>True.intro
 | .inr z,h=>⟨z3i (q4f h).2.1 (by decide),qph qui h⟩
def NmI (F z:Str) (i:Nat):Prop:=(i=0/\z="")\/ ∃ c r,z.cps.toList=c::r/\r.length+1=i/\c∈F.cps.toList/\∀ d∈r,d∈fur.cps.toList
theorem NmI.one {F:Str} {c:Nat} (h:c∈F.cps.toList):NmI F ⟨#[c]⟩ 1:= .inr ⟨c,[],rfl,rfl,h,λ _ z=>nomatch z⟩
theorem NmI.more {F z:Str} {i d:Nat} (h:NmI F z i) (hi:i≠0) (hd:d∈fur.cps.toList):NmI F (z++⟨#[d]⟩) (i+1):=by
 rcases h with ⟨e,_⟩ | ⟨c,r,e,hl,hc,hr⟩
 ·exact absurd e hi
 ·refine .inr ⟨c,r++ [d],by rw [qbh,e];rfl,by rw [z1e];show r.length+1+1=_;lia,hc,λ x hx=> ?_⟩;rcases z2f.mp hx with hx | hx
  ·exact hr x hx
  ·rw [z1c.mp hx];exact hd
theorem NmI.len {F z:Str} {i:Nat} (h:NmI F z i):z.length=i:=by
 rcases h with ⟨rfl,rfl⟩ | ⟨c,r,e,hl,_⟩
 ·rfl
 ·rw [<- q3v,e,z24,hl]
theorem qka:∀ c∈smaS.cps.toList,c∈fur.cps.toList:=by decide+kernel
theorem GoodK.ok:∀ {k:Key},GoodK k ->OkK k
 | .inl _,_=>True.intro
 | .inr z,h=>by
  obtain ⟨h1,h2,c,r,e,hc,hr⟩:=q4f h;refine ⟨z3i h2 (by decide),λ d hd=> ?_⟩;rw [e] at hd;rcases z35.mp hd with rfl | hd
  ·exact qka _ hc
  ·exact hr d hd
theorem qkb:∀ a b:Key,PyData.eqv (ordD a) (ordD b)=decide (a=b)
 | .inl i,.inl j=>by
  show (PyData.eqv (.int 0) (.int 0)&&(PyData.eqv (.int i) (.int j)&&(PyData.eqv (.str "") (.str "")&&true)))=_;rw [q3e,q3e,q4w];by_cases h:i=j <;> simp [h]
 | .inl i,.inr y=>by
  show (PyData.eqv (.int 0) (.int 1)&&(PyData.eqv (.int i) (.int 0)&&(PyData.eqv (.str "") (.str y)&&true)))=_;rw [q3e];simp
 | .inr x,.inl j=>by
  show (PyData.eqv (.int 1) (.int 0)&&(PyData.eqv (.int 0) (.int j)&&(PyData.eqv (.str x) (.str "")&&true)))=_;rw [q3e];simp
 | .inr x,.inr y=>by
  show (PyData.eqv (.int 1) (.int 1)&&(PyData.eqv (.int 0) (.int 0)&&(PyData.eqv (.str x) (.str y)&&true)))=_;rw [q3e,q3e,q4w];by_cases h:x=y <;> simp [h]
def qa6 (a b:List Key):Bool:=Tim.lexB befK a b
theorem qkc:∀ a b:List Key,lexD? (a.map ordD) (b.map ordD)=some (qa6 a b)
 | [],[]=>by rw [z3l,lexD?];rfl
 | [],_::_=>by rw [z3l,z33,lexD?];rfl
 | _::_,[]=>by rw [z3l,z33,lexD?];rfl
 | x::a,y::b=>by
  rw [z33,z33,lexD?,qkb,qa6,Tim.lexB];by_cases h:x=y
  ·subst h;rw [if_pos (by simp),if_pos rfl];exact qkc a b
  ·rw [if_neg (by simpa using h),if_neg h];exact qsa x y
theorem qle (ks:List Key):PyData.depthAll (ks.map ordD)<=1:=by
 induction ks with
 | nil=>exact z3s _
 | cons k ks ih=>exact Nat.max_le.mpr ⟨Nat.le_of_eq (qna k),ih⟩
def qsh (K:PySem.W.Frag):Sp:=λ vs H Q _=>∃ (a:Addr) (ks:List Key),vs=[.ref a]/\SqT K H a (ks.map kV)/\(∀ k∈ks,OkK k)/\ks.length<=100/\
 ∀ p rs H',Same H H' ->H' p=some (.tup rs) ->Dats K H' (ks.map ordD) rs ->Q (.ref p) H'
theorem qlf (T:Txt K mg):Def P w K mg base 3 "row_key" ["row"] (qsh K):=by
 refine T.qo0.ok ql9 (λ vs H Q E h=> ?_) λ f cdv A outer s H vs Q E hr h=> ?_
 ·obtain ⟨a,ks,rfl,_⟩:=h;rfl
 ·obtain ⟨a,ks,rfl,Z,hok,hl,k⟩:=h;refine ⟨_,(qe (qg (q25 (q3k K) rfl T.q82 q6g (pa_1 (q2f (N:=["value"]) (caps:=[none]) rfl (by with_unfolding_all rfl) (q69 K (pv 0)) (λ _ _ _ _ _=>(qm (i:=0) (show (["value"]:List Str).Nodup by decide+kernel) rfl (Or.inl rfl))) (λ _ _ _ _ _=>q37) (λ _ _ _ _ _=>(qv (qi5 T) hr rfl (pa_1 (pv 0))))))))),?_⟩;refine ⟨_,zr,a,zr,⟨_,Z⟩,λ D hD=> ?_⟩;refine q2g (ks.map kV).length (λ i σ' H'=>(∃ v,σ'=[v])/\Same H H'/\∃ J,H' D=some (.lst J)/\∀ H2,(∀ b o,b≠D ->H' b=some o ->H2 b=some o) ->Dats K H2 ((ks.take i).map ordD) J) ⟨⟨_,zr⟩,qd hD,[],q5,λ _ _=> .nil⟩ (λ i σ' H' hi p=> ?_) (λ σ' H' p=>⟨?_,?_⟩) (λ i σ' H' hi p x H2 y=> ?_)
  ·obtain ⟨_,sm,_⟩:=p;exact ⟨_,(ks.map kV)[i],sm.seqT Z,z0a hi⟩
  ·obtain ⟨_,sm,_⟩:=p;exact ⟨_,sm.seqT Z,z3p _⟩
  ·obtain ⟨_,sm,J,e,hd⟩:=p;rw [z2l,z2e] at hd;refine ⟨_,_,zr,.inl ⟨SqL.of e,λ q hq=> ?_⟩⟩;have O:=qd (o:=HO.tup J) hq;exact k q J _ (sm.trans O) q5 (hd _ λ b o _ hb=>O b o hb)
  ·obtain ⟨⟨v,rfl⟩,sm,J,e,hd⟩:=p;obtain ⟨rfl,hx⟩:=y;have Y:=hx _ (sm.seqT Z);rw [z1s] at Y;obtain ⟨kk,hk,rfl⟩:=z0l.mp Y;have a1:J.length=min i ks.length:=by
    rw [<- qbi (hd _ λ b o _ h=>h),z2l,z22]
   refine ⟨_,zr,kk,zr,hok kk (z11 hk),λ q hq=> ?_⟩;have O:=qd (o:=HO.tup (keyV kk)) hq;have U:q≠D:=λ z=>by
    rw [z,e] at hq;cases hq
   refine ⟨_,O _ _ e,by rw [a1];exact q15 (by lia),⟨_,rfl⟩,(sm.trans O).set hD,J++ [.ref q],q5,λ H3 h3=> ?_⟩;rw [z31,hk,z2q];refine q9f (hd H3 λ b o hb ho=>h3 b o hb ?_) (.tup (SqT.of (h3 q _ U (by rw [qh U,q5]))) (qpd (hok kk (z11 hk))));rw [qh hb];exact O b o ho
theorem qsi:Tim.STO befK:=by
 have J:Tim.STO strLt:=q3d;refine ⟨λ a=> ?_,λ a b c h1 h2=> ?_,λ a b h1 h2=> ?_⟩
 ·cases a with
  | inl i=>exact z2h (Int.lt_irrefl i)
  | inr z=>exact J.irr z
 ·cases a with
  | inl i=>
   cases c with
   | inr z=>rfl
   | inl k=>
    cases b with
    | inr y=>cases h2
    | inl j=>exact Tim.qjq.tr i j k h1 h2
  | inr x=>
   cases b with
   | inl j=>cases h1
   | inr y=>
    cases c with
    | inl k=>cases h2
    | inr z=>exact J.tr x y z h1 h2
 ·cases a with
  | inl i=>
   cases b with
   | inl j=>exact congrArg Sum.inl (Tim.qjq.tri i j h1 h2)
   | inr y=>cases h1
  | inr x=>
   cases b with
   | inl j=>cases h2
   | inr y=>exact congrArg Sum.inr (J.tri x y h1 h2)
theorem q7z:Tim.STO qa6:=qsi.lex
theorem qsj (a b:Key):PyData.eqv (ordD a) (ordD b)=decide (a=b):=qkb a b
theorem qi7:∀ a b:List Key,PyData.eqvAll (a.map ordD) (b.map ordD)=decide (a=b)
 | [],[]=>by rw [z3l,PyData.eqvAll];rfl
 | [],_::_=>by rw [z3l,z33,PyData.eqvAll];rfl
 | _::_,[]=>by rw [z3l,z33,PyData.eqvAll];rfl
 | x::p,y::q=>by
  rw [z33,z33,PyData.eqvAll,qsj,qi7 p q];by_cases h1:x=y
  ·by_cases h2:p=q
   ·rw [z2w h1,z2w h2,z2w (by rw [h1,h2])];rfl
   ·rw [z2w h1,z2h h2,z2h (λ e=>h2 (List.cons.inj e).2)];rfl
  ·rw [z2h h1,z2h (λ e=>h1 (List.cons.inj e).1)];rfl
def prLt (a b:PR):Bool:=if a.1=b.1 then qa6 a.2 b.2 else strLt a.1 b.1
theorem q6s:Tim.STO prLt:=by
 have O:Tim.STO strLt:=q3d;refine ⟨λ a=> ?_,λ a b c h1 h2=> ?_,λ a b h1 h2=> ?_⟩
 ·unfold prLt;rw [if_pos rfl];exact q7z.irr _
 ·unfold prLt at h1 h2 ⊢;by_cases e1:a.1=b.1
  ·rw [if_pos e1] at h1;by_cases e2:b.1=c.1
   ·rw [if_pos e2] at h2;rw [if_pos (e1.trans e2)];exact q7z.tr _ _ _ h1 h2
   ·rw [if_neg e2] at h2;rw [if_neg (λ z=>e2 (e1.symm.trans z)),e1];exact h2
  ·rw [if_neg e1] at h1;by_cases e2:b.1=c.1
   ·rw [if_pos e2] at h2;rw [if_neg (λ z=>e1 (z.trans e2.symm)),<- e2];exact h1
   ·rw [if_neg e2] at h2;have J:=O.tr _ _ _ h1 h2;rw [if_neg (λ z=>by rw [z,O.irr] at J;cases J)];exact J
 ·unfold prLt at h1 h2;by_cases e1:a.1=b.1
  ·rw [if_pos e1] at h1;rw [if_pos e1.symm] at h2;exact Prod.ext e1 (q7z.tri _ _ h1 h2)
  ·rw [if_neg e1] at h1;rw [if_neg (λ z=>e1 z.symm)] at h2;exact absurd (O.tri _ _ h1 h2) e1
def prD (p:PR):PyData:= .tuple [.str p.1,.tuple (p.2.map ordD)]
theorem quj (a b:PR):ltD? (prD a) (prD b)=some (prLt a b):=by
 show lexD? [.str a.1,.tuple (a.2.map ordD)] [.str b.1,.tuple (b.2.map ordD)]=some (prLt a b);rw [lexD?,q4w];unfold prLt;by_cases e:a.1=b.1
 ·rw [if_pos (z2w e),if_pos e,lexD?];have er:PyData.eqv (.tuple (a.2.map ordD)) (.tuple (b.2.map ordD))=decide (a.2=b.2):=by
   rw [PyData.eqv];exact qi7 a.2 b.2
  rw [er];by_cases e2:a.2=b.2
  ·rw [if_pos (z2w e2),lexD?,e2];rw [q7z.irr]
  ·rw [if_neg (by rw [z2h e2];exact z1b),ltD?];exact qkc a.2 b.2
 ·rw [if_neg (by rw [z2h e];exact z1b),if_neg e,ltD?];rfl
theorem qpi (p:PR):(prD p).depth<=3:=by
 have:=qle p.2;show max 0 (max (PyData.depthAll (p.2.map ordD)+1) 0)+1<=3
 lia
def q2z (p:PR):Prop:=txtB smaS p.1=true/\p.2.length<=4/\∀ k∈p.2,GoodK k
theorem natS {H:Hp}:∀ {us:List Key} {vs:List V},NAts H (us.map NK.leaf) vs ->vs=us.map kV
 | [],vs,h=>by
  rw [z3l,NAts] at h;exact h
 | u::us,vs,h=>by
  rw [z33,NAts] at h;obtain ⟨v,vr,rfl,h1,h2⟩:=h;rw [NAt] at h1;rw [h1,natS h2];rfl
theorem qkd {H:Hp}:∀ us:List Key,NAts H (us.map NK.leaf) (us.map kV)
 | []=>by rw [z3l,NAts];rfl
 | u::us=>by
  rw [z33,NAts];exact ⟨kV u,us.map kV,zr,by rw [NAt],qkd us⟩
theorem pr_at {H:Hp} {p:PR} {b:Addr}:NAt H (pN p) (.ref b)↔∃ q,H b=some (.tup [.str p.1,.ref q])/\H q=some (.tup (p.2.map kV)):=by
 unfold pN;rw [NAt]
 constructor
 ·rintro ⟨a,vs,e,h1,h2⟩;injection e with e;subst e;rw [NAts] at h2;obtain ⟨v,vr,rfl,J,O⟩:=h2;rw [NAt] at J;rw [NAts] at O;obtain ⟨v2,vr2,rfl,U,g4⟩:=O;rw [NAts] at g4;rw [NAt] at U;obtain ⟨q,us,rfl,Y,g6⟩:=U;rw [natS g6] at Y;subst J g4;exact ⟨q,h1,Y⟩
 ·rintro ⟨q,h1,h2⟩;refine ⟨b,_,zr,h1,?_⟩;rw [NAts];refine ⟨_,_,rfl,by rw [NAt];rfl,?_⟩;rw [NAts];refine ⟨_,_,zr,?_,by rw [NAts]⟩;rw [NAt];exact ⟨q,_,zr,h2,qkd p.2⟩
def qsk (K:PySem.W.Frag):Sp:=λ vs H Q _=>∃ (b:Addr) (p:PR),vs=[.ref b]/\NAt H (pN p) (.ref b)/\q2z p/\∀ v H',Same H H' ->Dat K H' (prD p) v ->Q v H'
theorem qje (T:Txt K mg):Def P w K mg base 4 "pair_key" ["pair"] (qsk K):=by
 refine T.qli.ok qjb (λ vs H Q E h=> ?_) λ f cdv A outer s H vs Q E hr h=> ?_
 ·obtain ⟨b,p,rfl,_⟩:=h;rfl
 ·obtain ⟨b,p,rfl,hb,g,k⟩:=h;obtain ⟨q,h1,h2⟩:=pr_at.mp hb;have g3:=g.2.1;refine ⟨_,(qe (qg (q1x (pa_2 (qy (q21 K) (pv 0) qb (λ _ _=>rfl)) (qv (qlf T) hr rfl (pa_1 (qy (q21 K) (pv 0) qb (λ _ _=>rfl)))))))),?_⟩;refine ⟨_,zr,_,_,_,_,zr,zr,SqT.of h1,q1b (j:=0) rfl,?_⟩;refine ⟨_,zr,_,_,_,_,zr,zr,SqT.of h1,q1b (j:=1) rfl,q,p.2,zr,SqT.of h2,λ u hu=>(g.2.2 u hu).ok,by lia,λ r rs H1 s1 J dr=> ?_⟩;refine ⟨by show 2<=sizeLine;decide,λ x hx=> ?_⟩;have O:=qd (o:=HO.tup [V.str p.1,.ref r]) hx;exact k _ _ (s1.trans O) (.tup (SqT.of q5) (.cons (.str _ (GoodK.tx (k:= .inr p.1) g.1).2) (.cons (.tup (SqT.of (O _ _ J)) (Dats.same O _ _ dr)) .nil)))
def qsl (P:Program) (w:World):Sp:=λ vs H Q _=>∃ (d:Addr) (kvs:List (PR×V)),vs=[.ref d]/\DP P w H d kvs/\(∀ p∈kvs.map (·.1),q2z p)/\∀ l zs H',Same H H' ->H l=none ->H' l=some (.lst zs) ->Paired (λ x p=>∃ b,x=V.ref b/\NAt H (pN p) (.ref b)) zs (Tim.srt prLt (kvs.map (·.1))) ->Q (.ref l) H'
theorem q5s (T:Txt K mg):Def P w K mg base 7 "pairs_in_order" ["pairs"] (qsl P w):=by
 refine T.qbu.ok qa8 (λ vs H Q E h=> ?_) λ f cdv A outer s H vs Q E hr h=> ?_
 ·obtain ⟨d,kvs,rfl,_⟩:=h;rfl
 ·obtain ⟨d,kvs,rfl,hd,gp,k⟩:=h;refine ⟨_,(qe (qg (q5e P w K (qje T) hr rfl rfl T.q4x q3x rfl (pa_1 (pv 0))))),?_⟩;refine ⟨_,zr,d,kvs,prD,prLt,zr,hd,q6s,λ a _ b _=>quj a b,λ a _=>⟨⟨_,_,zr⟩,z3i (qpi a) (by decide)⟩,λ a ha b H2 R J hb kk=>⟨b,a,zr,hb,gp a ha,kk⟩,λ l zs H2 J h1 h2 pr=> ?_⟩;exact k l zs _ (J.trans (qd h2)) h1 q5 pr
theorem qi8 {f:Str} {v:V}:∀ {fs:List (Str×V)} (ns:List Str),fs.map (·.1)=ns ->ns.contains f=false ->putF f v fs=fs++ [(f,v)]
  | [],_,_,_=>rfl
  | (g,x)::r,[],e,_=>nomatch e
  | (g,x)::r,n::ns,e,h=>by
    injection e with e1 e2;have e1:g=n:=e1;rw [List.contains_cons,Bool.or_eq_false_iff] at h;have ne:¬ g=f:=λ z=>by
      rw [<- e1,z] at h;simp at h
    show (if g=f then (g,v)::r else (g,x)::putF f v r)=_;rw [if_neg ne,qi8 ns e2 h.2];rfl
theorem q9n {K:PySem.W.Frag} {J H1:Hp} {p C dx:Addr} {fs:List (Str×V)} {f:Str} {y:V} {N:L2.St ->Hp ->Prop} {σ:L2.St} (ns:List Str) (S1:Same J H1) (O:J p=none) (hp:H1 p=some (.ins C dx fs)) (hc:Cls K C) (hn:NoAttr K C f) (hl:fs.length < 1000) (e:fs.map (·.1)=ns) (nw:ns.contains f=false)
  (h:∀ H2,Same J H2 ->H2 p=some (.ins C dx (fs++ [(f,y)])) ->(∀ a o,a≠p ->H1 a=some o ->H2 a=some o) ->N σ H2):
  ∃ a C dx fs,V.ref p= .ref a/\H1 a=some (.ins C dx fs)/\Cls K C/\NoAttr K C f/\fs.length < 1000/\N σ (upd H1 a (.ins C dx (putF f y fs))):=
 ⟨p,C,dx,fs,rfl,hp,hc,hn,hl,h _ (S1.set O) (by rw [q5,qi8 ns e nw]) λ a o n z=>by rw [qh n];exact z⟩
def fsL (o:V) (pr y z b:Addr):List (Str×V):=[("by",o),("prices",.ref pr),("whys",.ref y),("worths",.ref z),("bearers",.ref b)]
theorem q9o {P:Program} {w:World} {H H2:Hp} {a p:Addr} (h:DN P w H a []) (ne:a≠p) (k:∀ a o,a≠p ->H a=some o ->H2 a=some o):DN P w H2 a []:=by
 obtain ⟨xs,e,r⟩:=h;exact ⟨xs,k _ _ ne e,by cases r;exact .nil⟩
theorem qeb {P:Program} {w:World} {H:Hp} {a:Addr} {kvs:List (NK×V)} (h:DN P w H a kvs):∃ o,H a=some o:=let ⟨_,e,_⟩:=h;⟨_,e⟩
def qpj (P:Program) (w:World) (mg:Str ->Option Value):Sp:=λ vs H Q _=>∃ (H0:Hp) (p dx:Addr) (o:V),vs=[.ref p,o]/\Same H0 H/\H0 p=none/\H p=some (.ins (cA mg "Ledger") dx [])/\
 ∀ H' pr y z b,Same H0 H' ->H' p=some (.ins (cA mg "Ledger") dx (fsL o pr y z b)) ->H' pr=some (.dK []) ->DN P w H' y [] ->DN P w H' z [] ->H' b=some (.dK []) ->(pr≠p/\y≠p/\z≠p/\b≠p) ->(y≠pr/\z≠pr/\b≠pr) ->(z≠y/\b≠y/\b≠z) ->(H0 pr=none/\H0 y=none/\H0 z=none/\H0 b=none) ->Q .non H'
theorem qec (T:Txt K mg):MDef P w K mg base 1 (cA mg "Ledger") "__init__" ["self","by"] (qpj P w mg):=by
 refine T.qgf.ok qdl (λ vs H Q E h=> ?_) λ f cdv A outer s H vs Q E hr h=> ?_
 ·obtain ⟨H0,p,dx,o,rfl,_⟩:=h;rfl
 ·obtain ⟨H0,p,dx,o,rfl,s0,J,hp,k⟩:=h;refine ⟨_,(qgq
   (q7l (pv 0) (pv 1) rfl)
   (q7l (pv 0) q88 rfl)
   (q7l (pv 0) (q7u (P:=P) (w:=w)) rfl)
   (q7l (pv 0) (q7u (P:=P) (w:=w)) rfl)
   (q7l (pv 0) q88 rfl)),?_⟩
  have nk:∀ {G:Hp} {a q:Addr} {x:HO},G q=some x ->G a=none ->a≠q:=λ {G a q x} h1 h2 e=>by rw [e,h1] at h2;cases h2
  refine ⟨_,zr,_,zr,?_⟩;refine q9n [] s0 J hp T.qi T.q3q (by show 0 < 1000;decide) rfl rfl λ H1 S1 U _=> ?_;refine λ pr O=> ?_;have s2:=qd (o:=HO.dK []) O;refine ⟨_,zr,?_⟩;refine q9n ["by"] (S1.trans s2) J (s2 _ _ U) T.qi T.q33 (by show 1 < 1000;decide) rfl (by decide+kernel) λ H2 S2 Y k2=> ?_;have n1:pr≠p:=nk U O;have f1:H0 pr=none:=S1.free O;have r2:H2 pr=some (.dK []):=k2 pr _ n1 q5;refine λ y oy hy dy=> ?_;have s3:=qd (o:=oy) hy;refine ⟨_,zr,?_⟩;refine q9n ["by","prices"] (S2.trans s3) J (s3 _ _ Y) T.qi T.q2h (by show 2 < 1000;decide) rfl (by decide+kernel) λ H3 S3 Z k3=> ?_;have n2:y≠p:=nk Y hy;have m2:y≠pr:=nk r2 hy;have r3:H3 pr=some (.dK []):=k3 pr _ n1 (s3 _ _ r2);have y3:=q9o dy n2 k3;obtain ⟨oy3,a2⟩:=qeb y3;refine λ z oz hz dz=> ?_;have s4:=qd (o:=oz) hz;refine ⟨_,zr,?_⟩;refine q9n ["by","prices","whys"] (S3.trans s4) J (s4 _ _ Z) T.qi T.q22 (by show 3 < 1000;decide) rfl (by decide+kernel) λ H4 S4 a1 k4=> ?_;have n3:z≠p:=nk Z hz;have m3:z≠pr:=nk r3 hz;have o3:z≠y:=nk a2 hz;have r4:H4 pr=some (.dK []):=k4 pr _ n1 (s4 _ _ r3);have y4:=q9o (y3.same s4) n2 k4;have z4:=q9o dz n3 k4;obtain ⟨oy4,a3⟩:=qeb y4;obtain ⟨oz4,a4⟩:=qeb z4;refine λ b hb=> ?_;have s5:=qd (o:=HO.dK []) hb;refine ⟨_,zr,?_⟩;refine q9n ["by","prices","whys","worths"] (S4.trans s5) J (s5 _ _ a1) T.qi T.q2w (by show 4 < 1000;decide) rfl (by decide+kernel) λ H5 S5 a5 k5=> ?_;have n4:b≠p:=nk a1 hb;exact k H5 pr y z b S5 a5 (k5 pr _ n1 (s5 _ _ r4)) (q9o (y4.same s5) n2 k5) (q9o (z4.same s5) n3 k5) (k5 b _ n4 q5) ⟨n1,n2,n3,n4⟩ ⟨m2,m3,nk r4 hb⟩ ⟨o3,nk a3 hb,nk a4 hb⟩ ⟨f1,S2.free hy,S3.free hz,S4.free hb⟩
def quk:Sp:=λ vs H Q _=>∃ (k:K4) (v:V),vs=[v]/\Ok4 k v/\Q v H
theorem qnb (T:Txt K mg):Def P w K mg base 1 "own" ["worth"] quk:=by
 refine T.t_own.ok qu6 (λ vs H Q E h=> ?_) λ f cdv A outer s H vs Q E hr h=> ?_
 ·obtain ⟨k,v,rfl,_⟩:=h;rfl
 ·obtain ⟨k,v,rfl,hv,q⟩:=h;refine ⟨_,(qe (qg (qh9 (q34 (qt (q26 K) rfl T.q1d q17 (pa_2 (pv 0) (q41 rfl T.q9r q7r)))) (q25 (q8b K) rfl T.q9r q7r (pa_1 (pv 0))) (pv 0)))),?_⟩;obtain ⟨d,hd,hf⟩:=q7y (K:=K) (H:=H) hv;refine ⟨_,zr,_,_,_,zr,hd,by decide,_,zr,qj ?_ ⟨_,zr,q⟩⟩;cases hd with
  | lst _ _=>cases k <;> cases hf
  | _=>rfl
noncomputable def valP4 (kvs : List (PR × V)) (p : PR) : Option V := valV (kvs.map fun kv => (pN kv.1, kv.2)) (pN p)
def qsm (P:Program) (w:World) (mg:Str ->Option Value):Sp:=λ vs H Q _=>∃ (p dx o pr y z b r:Addr) (q:PR) (k:K4) (kvs:List (PR×V)),vs=[.ref p,.str q.1,.ref r]/\H p=some (.ins (cA mg "Ledger") dx (fsL (.ref o) pr y z b))/\By4 mg H o k/\(∀ t,k= .trusts t ->0<=t)/\DP P w H z kvs/\
 H r=some (.tup (q.2.map kV))/\NOk (pN q)/\(∀ v,valP4 kvs q=some v ->Ok4 k v)/\∀ H',Same H H' ->Q ((valP4 kvs q).getD (no4 k)) H'
theorem q78 (T:Txt K mg):MDef P w K mg base 3 (cA mg "Ledger") "worth" ["self","table","row"] (qsm P w mg):=by
 refine T.qeo.ok qcl (λ vs H Q E h=> ?_) λ f cdv A outer s H vs Q E hr h=> ?_
 ·obtain ⟨p,dx,o,pr,y,z,b,r,q,k,kvs,rfl,_⟩:=h;rfl
 ·obtain ⟨p,dx,o,pr,y,z,b,r,q,k,kvs,rfl,hp,hB,ht,hz,O,hq,hok,qq⟩:=h;refine ⟨_,(qe (qg (qv (qnb T) hr rfl (pa_1 (qhv (P:=P) (w:=w) hr.units (q1i (pv 0) rfl) (q1x (pa_2 (pv 1) (pv 2))) (q3y (q5b T) (q2m T) hr (q1i (pv 0) rfl)) ⟨zr,zr,zr,zr⟩))))),?_⟩;refine ⟨_,zr,p,_,dx,_,_,zr,hp,T.qi,T.q22,zr,z,zr,⟨_,hz⟩,?_⟩;refine ⟨_,rfl,_,rfl,by show 2<=sizeLine;decide,λ a ha=> ?_⟩;have s1:=qd (o:=HO.tup [V.str q.1,V.ref r]) ha;obtain ⟨U,J⟩:=hB.same s1;refine ⟨_,zr,p,_,dx,_,_,zr,s1 _ _ hp,T.qi,T.q3q,zr,k,o,U,_,zr,J,q3p _ (by decide) k,o,zr,⟨U,J⟩,?_⟩;refine ⟨a,_,pN q,zr,DN.same s1 hz,pr_at.mpr ⟨r,q5,s1 _ _ O⟩,hq,k,_,zr,?_,qq _ s1⟩;show Ok4 k ((valP4 kvs q).getD (no4 k));cases e:valP4 kvs q with
  | none=>exact q7w ht
  | some v=>exact hok v e
theorem qfh:∀ {us:List Key},(∀ u∈us,GoodK u) ->PyData.canLayAll0 (NK.dats (us.map NK.leaf))=true/\NK.deeps (us.map NK.leaf)=0
 | [],_=>by
  rw [z3l,NK.dats,NK.deeps];exact ⟨zr,zr⟩
 | u::us,h=>by
  have J:=qfh (us:=us) λ x hx=>h x (z0z _ hx);have hu:=(h u (z1f ..)).tx;rw [z33,NK.dats,NK.deeps,NK.deep,J.2];refine ⟨?_,zr⟩;rw [PyData.canLayAll0,J.1,Bool.and_true];cases u with
  | inl i=>rw [NK.dat];rfl
  | inr z=>rw [NK.dat];exact hu.2
theorem q4g {p:PR} (g:q2z p):NOk (pN p):=by
 obtain ⟨h1,h2⟩:=qfh g.2.2;have ht:=GoodK.tx (k:= .inr p.1) g.1;unfold pN NOk
 constructor
 ·rw [NK.deep,NK.deeps,NK.deep,NK.deeps,NK.deep,NK.deeps,h2];decide
 ·rw [NK.dat,NK.dats,NK.dat,NK.dats,NK.dat,NK.dats,PyData.canLay0,PyData.canLayAll0,PyData.canLayAll0,PyData.canLay0,PyData.canLay0,h1,show PyData.strOk p.1=true from ht.2];rfl
theorem valP (kvs:List (PR×V)) (p:PR):valV (kvs.map λ kv=>(pN kv.1,kv.2)) (pN p)=valV kvs p:=by
 induction kvs with
 | nil=>rfl
 | cons a r ih=>
  rw [z33];by_cases e:a.1=p
  ·rw [q1k (p:=(pN a.1,a.2)) (congrArg pN e),q1k e]
  ·rw [q1c (p:=(pN a.1,a.2)) (λ z=>e (qck z)),q1c e,ih]
theorem putP (kvs:List (PR×V)) (p:PR) (v:V):putK (kvs.map λ kv=>(pN kv.1,kv.2)) (pN p) v=(putK kvs p v).map λ kv=>(pN kv.1,kv.2):=by
 unfold putK;rw [q2n,q2n,valP];split
 ·rw [z3o,z3o];refine z17 λ a _=> ?_;show (if pN a.1=pN p then _ else _)=_;by_cases e:a.1=p
  ·rw [if_pos (congrArg pN e)];show _=(λ kv:PR×V=>(pN kv.1,kv.2)) (if a.1=p then (a.1,v) else a);rw [if_pos e]
  ·rw [if_neg (λ z=>e (qck z))];show _=(λ kv:PR×V=>(pN kv.1,kv.2)) (if a.1=p then (a.1,v) else a);rw [if_neg e]
 ·rw [z2q];rfl
section
variable {κ:Type} [DecidableEq κ]
theorem qqn (kvs:List (κ×V)) (k:κ) (v:V):(putK kvs k v).map (·.1)=if (valV kvs k).isSome then kvs.map (·.1) else kvs.map (·.1)++ [k]:=by
 unfold putK;rw [q2n];split
 ·rw [z3o];refine z17 λ x _=> ?_;show (if x.1=k then (x.1,v) else x).1=x.1;split <;> rfl
 ·rw [z2q];rfl
theorem q1y {kvs:List (κ×V)} {k:κ} {v:V} {x:κ}:x∈(putK kvs k v).map (·.1)↔x∈kvs.map (·.1)\/ x=k:=by
 rw [qqn];cases e:valV kvs k with
 | none=>
  rw [if_neg (by decide),z2f,z1c]
 | some u=>
  show (x∈kvs.map (·.1))↔_;exact ⟨.inl,λ z=>z.elim id λ z=>by rw [z];exact q7o e⟩
theorem q2v {kvs:List (κ×V)} {k:κ} {v:V} (h:(kvs.map (·.1)).Nodup):((putK kvs k v).map (·.1)).Nodup:=by
 rw [qqn];cases e:valV kvs k with
 | none=>
  rw [if_neg (by decide)];exact q9y h (qhg e)
 | some u=>
  exact h
theorem q6t:∀ (kvs:List (κ×V)) (k j:κ),valV (q2l kvs k) j=if j=k then none else valV kvs j
 | [],k,j=>by
  show none=_;split <;> rfl
 | p::r,k,j=>by
  have J:=q6t r k j;by_cases e:p.1=k
  ·rw [q57 e,J];by_cases e2:j=k
   ·rw [if_pos e2,if_pos e2]
   ·rw [if_neg e2,if_neg e2,q1c (λ z=>e2 (z.symm.trans e))]
  ·rw [q58 e];by_cases e2:p.1=j
   ·rw [q1k e2,q1k e2,if_neg (λ z=>e (e2.trans z))]
   ·rw [q1c e2,q1c e2,J]
theorem kval4 {kvs:List (κ×V)} {k:κ}:k∈kvs.map (·.1)↔∃ v,valV kvs k=some v:=by
 constructor
 ·intro h;cases e:valV kvs k with
  | none=>exact absurd h (qhg e)
  | some v=>exact ⟨v,rfl⟩
 ·rintro ⟨v,h⟩;exact q7o h
theorem q4h {kvs:List (κ×V)} {k x:κ}:x∈(q2l kvs k).map (·.1)↔x∈kvs.map (·.1)/\x≠k:=by
 rw [kval4,kval4,q6t];by_cases e:x=k
 ·rw [if_pos e];exact ⟨λ ⟨_,z⟩=>(by cases z),λ z=>absurd e z.2⟩
 ·rw [if_neg e];exact ⟨λ z=>⟨z,e⟩,λ z=>z.1⟩
theorem q80:∀ {l m:List κ},l.Nodup ->(∀ x∈l,x∈m) ->l.length<=m.length
 | [],_,_,_=>z3s _
 | x::l,m,h,hm=>by
  obtain ⟨h1,h2⟩:=z2n.mp h;have hx:=hm x (z1f ..);have ih:=q80 (l:=l) (m:=m.erase x) h2 λ y hy=>(List.mem_erase_of_ne (λ e=>h1 (by rw [<- e];exact hy))).mpr (hm y (z0z _ hy));rw [List.length_erase_of_mem hx] at ih;have:=List.length_pos_of_mem hx;rw [z24]
  lia
end
def nd:HO ->Prop
 | .dK _=>False
 | .ext _=>False
 | _=>True
def KeepN (H H':Hp):Prop:=∀ a o,nd o ->H a=some o ->H' a=some o
theorem KeepN.refl (H:Hp):KeepN H H:=λ _ _ _ e=>e
theorem KeepN.trans {H1 H2 H3:Hp} (h:KeepN H1 H2) (g:KeepN H2 H3):KeepN H1 H3:=λ a o n e=>g a o n (h a o n e)
theorem KeepN.of {H H':Hp} (h:Same H H'):KeepN H H':=λ a o _ e=>h a o e
theorem KeepN.up {H:Hp} {c:Addr} {x o:HO} (h:H c=some x) (n:¬ nd x):KeepN H (upd H c o):=λ a y ny e=>by
 rw [qh (λ z=>by rw [z,h] at e;cases e;exact n ny)];exact e
theorem KeepN.kT {H H':Hp} (h:KeepN H H'):KeepT H H':=λ _ _ e=>h _ _ True.intro e
theorem KeepN.wa {H H':Hp} {l:Addr} {Y:Tab} (h:KeepN H H') (x:WA H l Y):WA H' l Y:=by
 obtain ⟨xs,h1,h2,h3⟩:=x;exact ⟨xs,h _ _ True.intro h1,qa3 h.kT h2,h3⟩
theorem KeepN.by4 {mg:Str ->Option Value} {H H':Hp} {o:Addr} {k:K4} (h:KeepN H H') (x:By4 mg H o k):By4 mg H' o k:=let ⟨dx,e⟩:=x;⟨dx,h _ _ True.intro e⟩
theorem KeepN.nat {H H':Hp} {x:NK} {v:V} (h:KeepN H H') (e:NAt H x v):NAt H' x v:=e.keep h.kT
theorem KeepN.dn {P:Program} {w:World} {H H':Hp} {a:Addr} {kvs:List (NK×V)} (h:KeepN H H') (x:DN P w H a kvs) (e:H' a=H a):DN P w H' a kvs:=by
 obtain ⟨xs,h1,h2⟩:=x;exact ⟨xs,by rw [e];exact h1,h2.keeps h.kT⟩
theorem qlg {P:Program} {w:World} {H:Hp} {a:Addr} {kvs:List (NK×V)} (h:DN P w H a kvs):∃ x,H a=some x/\¬ nd x:=let ⟨_,e,_⟩:=h;⟨_,e,λ z=>z⟩
theorem q1v {P:Program} {w:World} {H:Hp} {a:Addr} {kvs:List (NK×V)} (h:DN P w H a kvs):∃ φ,H a=some (.ext φ):=let ⟨_,e,_⟩:=h;⟨_,e⟩
theorem qgs (kvs:List (PR×V)) (p:PR):q2l (kvs.map λ kv=>(pN kv.1,kv.2)) (pN p)=(q2l kvs p).map λ kv=>(pN kv.1,kv.2):=by
 induction kvs with
 | nil=>rfl
 | cons a r J=>
  rw [z33];by_cases e:a.1=p
  ·rw [q57 (p:=(pN a.1,a.2)) (congrArg pN e),q57 e,J]
  ·rw [q58 (p:=(pN a.1,a.2)) (λ z=>e (qck z)),q58 e,J,z33]
structure LA where
 p:Addr
 dx:Addr
 o:Addr
 pr:Addr
 y:Addr
 z:Addr
 b:Addr
def foot (A:LA) (bks:List (Key×V)) (a:Addr):Prop:=a=A.pr\/ a=A.y\/ a=A.z\/ a=A.b\/ ∃ n,valV bks (Sum.inr n)=some (.ref a)
def PriX (W:List Str) (H:Hp) (a:Addr) (f:Str ->Option V):Prop:=∃ kvs,H a=some (.dK kvs)/\(kvs.map (·.1)).Nodup/\(∀ x∈kvs.map (·.1),x∈W.map Sum.inr)/\∀ z,valV kvs (Sum.inr z)=f z
def WhyX (P:Program) (w:World) (Ps:List PR) (H:Hp) (a:Addr) (g:PR ->Option Tab):Prop:=∃ kvs:List (PR×V),DP P w H a kvs/\(kvs.map (·.1)).Nodup/\(∀ x∈kvs.map (·.1),x∈Ps)/\(∀ q,g q=none ->valV kvs q=none)/\∀ q Y,g q=some Y ->∃ l,valV kvs q=some (.ref l)/\WA H l Y
def WorX (P:Program) (w:World) (Ps:List PR) (H:Hp) (a:Addr) (h:PR ->Option V):Prop:=∃ zs:List (PR×V),DP P w H a zs/\(zs.map (·.1)).Nodup/\(∀ x∈zs.map (·.1),x∈Ps)/\∀ q,valV zs q=h q
def BrX (P:Program) (w:World) (Ps:List PR) (H:Hp) (a:Addr) (S:PR ->Prop):Prop:=∃ kvs:List (PR×V),DP P w H a kvs/\(kvs.map (·.1)).Nodup/\(∀ x∈kvs.map (·.1),x∈Ps)/\∀ q,q∈kvs.map (·.1)↔S q
structure BeaX (P:Program) (w:World) (W:List Str) (Ps:List PR) (H:Hp) (A:LA) (B:Str ->PR ->Prop) (bks:List (Key×V)):Prop where
 at_:H A.b=some (.dK bks)
 knd:(bks.map (·.1)).Nodup
 kin:∀ x∈bks.map (·.1),x∈W.map Sum.inr
 has:∀ n v,valV bks (Sum.inr n)=some v ->∃ a,v= .ref a/\BrX P w Ps H a (B n)
 no:∀ n,valV bks (Sum.inr n)=none ->∀ q,¬ B n q
 inj:∀ n m a,valV bks (Sum.inr n)=some (.ref a) ->valV bks (Sum.inr m)=some (.ref a) ->n=m
 nyz:∀ n a,valV bks (Sum.inr n)=some (.ref a) ->a≠A.y/\a≠A.z
structure LedX (P:Program) (w:World) (mg:Str ->Option Value) (W:List Str) (Ps:List PR) (H:Hp) (A:LA) (k:K4) (f:Str ->Option V) (g:PR ->Option Tab) (h:PR ->Option V) (B:Str ->PR ->Prop) (bks:List (Key×V)):Prop where
 ins:H A.p=some (.ins (cA mg "Ledger") A.dx (fsL (.ref A.o) A.pr A.y A.z A.b))
 by_:By4 mg H A.o k
 pri:PriX W H A.pr f
 why:WhyX P w Ps H A.y g
 wor:WorX P w Ps H A.z h
 bea:BeaX P w W Ps H A B bks
 d1:A.pr≠A.b
 d2:A.y≠A.z
 wl:W.length<=1000
 pl:Ps.length<=1000
 pg:∀ q∈Ps,q2z q
section
variable {P:Program} {w:World} {mg:Str ->Option Value} {W:List Str} {Ps:List PR} {H H':Hp} {A:LA} {k:K4} {f:Str ->Option V} {g:PR ->Option Tab} {h:PR ->Option V} {B:Str ->PR ->Prop} {bks:List (Key×V)}
theorem PriX.keep {a:Addr} (x:PriX W H a f) (e:H' a=H a):PriX W H' a f:=by
 obtain ⟨kvs,h1,h2⟩:=x;exact ⟨kvs,by rw [e];exact h1,h2⟩
theorem WhyX.keep {a:Addr} (x:WhyX P w Ps H a g) (kn:KeepN H H') (e:H' a=H a):WhyX P w Ps H' a g:=by
 obtain ⟨kvs,h1,h2,h3,h4,h5⟩:=x;refine ⟨kvs,kn.dn h1 e,h2,h3,h4,λ q Y hq=> ?_⟩;obtain ⟨l,g1,g2⟩:=h5 q Y hq;exact ⟨l,g1,kn.wa g2⟩
theorem WorX.keep {a:Addr} (x:WorX P w Ps H a h) (kn:KeepN H H') (e:H' a=H a):WorX P w Ps H' a h:=by
 obtain ⟨kvs,h1,h2⟩:=x;exact ⟨kvs,kn.dn h1 e,h2⟩
theorem BrX.keep {a:Addr} {S:PR ->Prop} (x:BrX P w Ps H a S) (kn:KeepN H H') (e:H' a=H a):BrX P w Ps H' a S:=by
 obtain ⟨kvs,h1,h2⟩:=x;exact ⟨kvs,kn.dn h1 e,h2⟩
theorem BrX.imp {a:Addr} {S J:PR ->Prop} (x:BrX P w Ps H a S) (e:∀ q,S q↔J q):BrX P w Ps H a J:=by
 obtain ⟨kvs,h1,h2,h3,h4⟩:=x;exact ⟨kvs,h1,h2,h3,λ q=>(h4 q).trans (e q)⟩
theorem BeaX.keep (x:BeaX P w W Ps H A B bks) (kn:KeepN H H') (e:H' A.b=H A.b) (ed:∀ n a,valV bks (Sum.inr n)=some (.ref a) ->H' a=H a):BeaX P w W Ps H' A B bks:=by
 refine ⟨by rw [e];exact x.at_,x.knd,x.kin,λ n v J=> ?_,x.no,x.inj,x.nyz⟩;obtain ⟨a,rfl,hb⟩:=x.has n v J;exact ⟨a,zr,hb.keep kn (ed n a J)⟩
theorem LedX.qsn (x:LedX P w mg W Ps H A k f g h B bks):∃ kvs,H A.pr=some (.dK kvs)/\(kvs.map (·.1)).Nodup/\(∀ x∈kvs.map (·.1),x∈W.map Sum.inr)/\(∀ z,valV kvs (Sum.inr z)=f z)/\kvs.length<=1000:=by
 obtain ⟨kvs,h1,h2,J,h4⟩:=x.pri;refine ⟨kvs,h1,h2,J,h4,?_⟩;have:=q80 h2 J;rw [z2l,z2l] at this;exact z3i this x.wl
theorem LedX.qso (x:LedX P w mg W Ps H A k f g h B bks):bks.length<=1000:=by
 have:=q80 x.bea.knd x.bea.kin;rw [z2l,z2l] at this;exact z3i this x.wl
theorem q5c {kvs:List (PR×V)} (h2:(kvs.map (·.1)).Nodup) (h3:∀ x∈kvs.map (·.1),x∈Ps) (l:Ps.length<=1000):kvs.length<=1000:=by
 have:=q80 h2 h3;rw [z2l] at this;exact z3i this l
theorem LedX.dict (x:LedX P w mg W Ps H A k f g h B bks) {a:Addr} (e:foot A bks a):∃ o,H a=some o/\¬ nd o:=by
 rcases e with rfl | rfl | rfl | rfl | ⟨n,e⟩
 ·obtain ⟨kvs,h1,_⟩:=x.pri;exact ⟨_,h1,λ z=>z⟩
 ·obtain ⟨kvs,h1,_⟩:=x.why;exact qlg h1
 ·obtain ⟨kvs,h1,_⟩:=x.wor;exact qlg h1
 ·exact ⟨_,x.bea.at_,λ z=>z⟩
 ·obtain ⟨a',ea,kvs,h1,_⟩:=x.bea.has n _ e;cases ea
  exact qlg h1
theorem LedX.keep (x:LedX P w mg W Ps H A k f g h B bks) (kn:KeepN H H') (e:∀ a,foot A bks a ->H' a=H a):LedX P w mg W Ps H' A k f g h B bks:=
 ⟨kn _ _ True.intro x.ins,kn.by4 x.by_,x.pri.keep (e _ (.inl rfl)),x.why.keep kn (e _ (.inr (.inl rfl))),x.wor.keep kn (e _ (.inr (.inr (.inl rfl)))),x.bea.keep kn (e _ (.inr (.inr (.inr (.inl rfl))))) λ n a hn=>e _ (.inr (.inr (.inr (.inr ⟨n,hn⟩)))),x.d1,x.d2,x.wl,x.pl,x.pg⟩
theorem LedX.same (x:LedX P w mg W Ps H A k f g h B bks) (s:Same H H'):LedX P w mg W Ps H' A k f g h B bks:=x.keep (.of s) λ a ha=>by
 obtain ⟨o,e,_⟩:=x.dict ha;rw [e,s _ _ e]
theorem LedX.else_ (x:LedX P w mg W Ps H A k f g h B bks) {c:Addr} {u o:HO} (hc:H c=some u) (n:¬ nd u) (nf:¬ foot A bks c):LedX P w mg W Ps (upd H c o) A k f g h B bks:=x.keep (.up hc n) λ a ha=>qh λ z=>nf (by rw [<- z];exact ha)
theorem LedX.imp {f':Str ->Option V} {g':PR ->Option Tab} {h':PR ->Option V} {B':Str ->PR ->Prop} (x:LedX P w mg W Ps H A k f g h B bks) (ef:∀ n,f n=f' n) (eg:∀ q,g q=g' q) (eh:∀ q,h q=h' q) (eB:∀ n q,B n q↔B' n q):LedX P w mg W Ps H A k f' g' h' B' bks:=by
 have e1:f=f':=funext ef;have e2:g=g':=funext eg;have e3:h=h':=funext eh;have e4:B=B':=funext λ n=>funext λ q=>propext (eB n q);subst e1 e2 e3 e4;exact x
theorem LedX.setY (x:LedX P w mg W Ps H A k f g h B bks) {o:HO} {kvs:List (PR×V)} {g':PR ->Option Tab} (d:DP P w (upd H A.y o) A.y kvs) (h2:(kvs.map (·.1)).Nodup) (h3:∀ x∈kvs.map (·.1),x∈Ps) (h4:∀ q,g' q=none ->valV kvs q=none) (h5:∀ q Y,g' q=some Y ->∃ l,valV kvs q=some (.ref l)/\WA H l Y):LedX P w mg W Ps (upd H A.y o) A k f g' h B bks:=by
 obtain ⟨_,hy,_⟩:=x.why;obtain ⟨φ,ey⟩:=q1v hy;have kn:KeepN H (upd H A.y o):= .up ey λ z=>z;have hd:∀ {a kvs},H a=some (.dK kvs) ->upd H A.y o a=H a:=λ {a kvs} e=>qh λ z=>by rw [z,ey] at e;cases e
 obtain ⟨kp,hp,_⟩:=x.pri;refine ⟨kn _ _ True.intro x.ins,kn.by4 x.by_,x.pri.keep (hd hp),⟨kvs,d,h2,h3,h4,λ q Y hq=> ?_⟩,x.wor.keep kn (qh (Ne.symm x.d2)),x.bea.keep kn (hd x.bea.at_) λ n a hn=>qh (x.bea.nyz n a hn).1,x.d1,x.d2,x.wl,x.pl,x.pg⟩;obtain ⟨l,g1,g2⟩:=h5 q Y hq;exact ⟨l,g1,kn.wa g2⟩
theorem LedX.setZ (x:LedX P w mg W Ps H A k f g h B bks) {o:HO} {kvs:List (PR×V)} {h':PR ->Option V} (d:DP P w (upd H A.z o) A.z kvs) (h2:(kvs.map (·.1)).Nodup) (h3:∀ x∈kvs.map (·.1),x∈Ps) (h4:∀ q,valV kvs q=h' q):LedX P w mg W Ps (upd H A.z o) A k f g h' B bks:=by
 obtain ⟨_,hy,_⟩:=x.wor;obtain ⟨φ,ey⟩:=q1v hy;have kn:KeepN H (upd H A.z o):= .up ey λ z=>z;have hd:∀ {a kvs},H a=some (.dK kvs) ->upd H A.z o a=H a:=λ {a kvs} e=>qh λ z=>by rw [z,ey] at e;cases e
 obtain ⟨kp,hp,_⟩:=x.pri;exact ⟨kn _ _ True.intro x.ins,kn.by4 x.by_,x.pri.keep (hd hp),x.why.keep kn (qh x.d2),⟨kvs,d,h2,h3,h4⟩,x.bea.keep kn (hd x.bea.at_) λ n a hn=>qh (x.bea.nyz n a hn).2,x.d1,x.d2,x.wl,x.pl,x.pg⟩
theorem LedX.setP (x:LedX P w mg W Ps H A k f g h B bks) {kvs:List (Key×V)} {f':Str ->Option V} (h2:(kvs.map (·.1)).Nodup) (h3:∀ x∈kvs.map (·.1),x∈W.map Sum.inr) (h4:∀ z,valV kvs (Sum.inr z)=f' z):LedX P w mg W Ps (upd H A.pr (.dK kvs)) A k f' g h B bks:=by
 obtain ⟨kp,hp,_⟩:=x.pri;have kn:KeepN H (upd H A.pr (.dK kvs)):= .up hp λ z=>z;have hd:∀ {a J},DP P w H a J ->upd H A.pr (.dK kvs) a=H a:=λ {a J} e=>qh λ z=>by
  obtain ⟨φ,e⟩:=q1v e;rw [z,hp] at e;cases e
 obtain ⟨_,hy,_⟩:=x.why;obtain ⟨_,hz,_⟩:=x.wor;exact ⟨kn _ _ True.intro x.ins,kn.by4 x.by_,⟨kvs,q5,h2,h3,h4⟩,x.why.keep kn (hd hy),x.wor.keep kn (hd hz),x.bea.keep kn (qh (Ne.symm x.d1)) λ n a hn=>by
  obtain ⟨a',ea,_,h1,_⟩:=x.bea.has n _ hn;cases ea
  exact hd h1,x.d1,x.d2,x.wl,x.pl,x.pg⟩
theorem LedX.setD (x:LedX P w mg W Ps H A k f g h B bks) {n:Str} {c:Addr} {o:HO} {kvs:List (PR×V)} {S:PR ->Prop} (e:valV bks (Sum.inr n)=some (.ref c)) (d:DP P w (upd H c o) c kvs) (h2:(kvs.map (·.1)).Nodup) (h3:∀ x∈kvs.map (·.1),x∈Ps) (h4:∀ q,q∈kvs.map (·.1)↔S q):
  LedX P w mg W Ps (upd H c o) A k f g h (λ m q=>if m=n then S q else B m q) bks:=by
 obtain ⟨a',ea,_,hc,_⟩:=x.bea.has n _ e;cases ea
 obtain ⟨φ,ey⟩:=q1v hc;have kn:KeepN H (upd H c o):= .up ey λ z=>z;have hd:∀ {a kvs},H a=some (.dK kvs) ->upd H c o a=H a:=λ {a kvs} e=>qh λ z=>by rw [z,ey] at e;cases e
 obtain ⟨kp,hp,_⟩:=x.pri;have U:=x.bea.nyz n c e;refine ⟨kn _ _ True.intro x.ins,kn.by4 x.by_,x.pri.keep (hd hp),x.why.keep kn (qh (Ne.symm U.1)),x.wor.keep kn (qh (Ne.symm U.2)),⟨by rw [hd x.bea.at_];exact x.bea.at_,x.bea.knd,x.bea.kin,λ m v J=> ?_,λ m hm q=> ?_,x.bea.inj,x.bea.nyz⟩,x.d1,x.d2,x.wl,x.pl,x.pg⟩
 ·obtain ⟨a,rfl,hb⟩:=x.bea.has m v J;by_cases O:m=n
  ·subst O;rw [e] at J;cases J
   refine ⟨_,zr,⟨kvs,d,h2,h3,λ q=> ?_⟩⟩;show _↔if m=m then S q else B m q
   rw [if_pos rfl];exact h4 q
  ·refine ⟨a,rfl,(hb.keep kn (qh λ z=>O (x.bea.inj m n a J (by rw [z];exact e)))).imp λ q=> ?_⟩;show _↔if m=n then S q else B m q
   rw [if_neg O]
 ·rw [if_neg (λ z=>by rw [z,e] at hm;cases hm)];exact x.bea.no m hm q
theorem LedX.setB (x:LedX P w mg W Ps H A k f g h B bks) {n:Str} {c:Addr} (e:valV bks (Sum.inr n)=none) (hn:n∈W) (d:DP P w H c []) (Z:¬ foot A bks c):
  LedX P w mg W Ps (upd H A.b (.dK (putK bks (Sum.inr n) (.ref c)))) A k f g h B (putK bks (Sum.inr n) (.ref c)):=by
 have hb:=x.bea.at_;have kn:KeepN H (upd H A.b (.dK (putK bks (Sum.inr n) (.ref c)))):= .up hb λ z=>z;have hd:∀ {a U},DP P w H a U ->upd H A.b (.dK (putK bks (Sum.inr n) (.ref c))) a=H a:=λ {a U} e=>qh λ z=>by
  obtain ⟨φ,e⟩:=q1v e;rw [z,hb] at e;cases e
 obtain ⟨_,hy,_⟩:=x.why;obtain ⟨_,hz,_⟩:=x.wor;have vp:∀ m,valV (putK bks (Sum.inr n) (.ref c)) (Sum.inr m)=if m=n then some (.ref c) else valV bks (Sum.inr m):=λ m=>by
  rw [q1w];by_cases J:m=n
  ·rw [if_pos J,if_pos (congrArg Sum.inr J)]
  ·rw [if_neg J,if_neg (λ z=>J (Sum.inr.inj z))]
 refine ⟨kn _ _ True.intro x.ins,kn.by4 x.by_,x.pri.keep (qh x.d1),x.why.keep kn (hd hy),x.wor.keep kn (hd hz),⟨q5,q2v x.bea.knd,λ y hy=> ?_,λ m v O=> ?_,λ m hm=> ?_,λ m Y a h1 h2=> ?_,λ m a O=> ?_⟩,x.d1,x.d2,x.wl,x.pl,x.pg⟩
 ·rcases q1y.mp hy with h | h
  ·exact x.bea.kin y h
  ·rw [h];exact z3m.mpr ⟨n,hn,zr⟩
 ·rw [vp] at O;by_cases J:m=n
  ·rw [if_pos J] at O;cases O
   exact ⟨c,rfl,[],kn.dn d (hd d),z30,(λ _ z=>nomatch z),λ q=>⟨(λ z=>nomatch z),λ z=>absurd z (x.bea.no m (by rw [J];exact e) q)⟩⟩
  ·rw [if_neg J] at O;obtain ⟨a,rfl,ha⟩:=x.bea.has m v O;have a1:=ha;obtain ⟨_,h1,_⟩:=a1;exact ⟨a,zr,ha.keep kn (hd h1)⟩
 ·rw [vp] at hm;by_cases J:m=n
  ·rw [if_pos J] at hm;cases hm
  ·rw [if_neg J] at hm;exact x.bea.no m hm
 ·rw [vp] at h1 h2;by_cases e1:m=n
  ·by_cases e2:Y=n
   ·rw [e1,e2]
   ·rw [if_pos e1] at h1;rw [if_neg e2] at h2;cases h1
    exact absurd (.inr (.inr (.inr (.inr ⟨Y,h2⟩)))) Z
  ·by_cases e2:Y=n
   ·rw [if_neg e1] at h1;rw [if_pos e2] at h2;cases h2
    exact absurd (.inr (.inr (.inr (.inr ⟨m,h1⟩)))) Z
   ·rw [if_neg e1] at h1;rw [if_neg e2] at h2;exact x.bea.inj m Y a h1 h2
 ·rw [vp] at O;by_cases J:m=n
  ·rw [if_pos J] at O;cases O
   exact ⟨λ z=>Z (.inr (.inl z)),λ z=>Z (.inr (.inr (.inl z)))⟩
  ·rw [if_neg J] at O;exact x.bea.nyz m a O
end
def Chg (F:Addr ->Prop) (H H':Hp):Prop:=∀ a o,¬ F a ->H a=some o ->H' a=some o
theorem Chg.refl (F:Addr ->Prop) (H:Hp):Chg F H H:=λ _ _ _ e=>e
theorem Chg.of {F:Addr ->Prop} {H H':Hp} (s:Same H H'):Chg F H H':=λ a o _ e=>s a o e
theorem Chg.same {F:Addr ->Prop} {H H1 H2:Hp} (h:Chg F H H1) (s:Same H1 H2):Chg F H H2:=λ a o n e=>s a o (h a o n e)
theorem Chg.put {F:Addr ->Prop} {H H1:Hp} {c:Addr} {o:HO} (h:Chg F H H1) (J:F c\/ H c=none):Chg F H (upd H1 c o):=λ a x n e=>by
 rw [qh (λ z=>by
  subst z;rcases J with J | J
  ·exact n J
  ·rw [J] at e;cases e)]
 exact h a x n e
theorem Chg.kn {P:Program} {w:World} {mg:Str ->Option Value} {W:List Str} {Ps:List PR} {H H':Hp} {A:LA} {k:K4} {f:Str ->Option V} {g:PR ->Option Tab} {h:PR ->Option V} {B:Str ->PR ->Prop} {bks:List (Key×V)} (c:Chg (foot A bks) H H') (x:LedX P w mg W Ps H A k f g h B bks):KeepN H H':=λ a o n e=>c a o (λ z=>by
 obtain ⟨o',e',n'⟩:=x.dict z;rw [e] at e';cases e'
 exact n' n) e
def Grw (H:Hp) (F F':Addr ->Prop):Prop:=∀ a,F' a ->F a\/ H a=none
def InY (Y:Tab) (n:Str):Prop:=∃ kv∈Y,n∈kv.1
theorem qi9 {Y:Tab} {ns:List Str} (h:qqj Y ns):ns.Nodup:=h.1.imp λ {a b} e z=>by
 rw [z] at e;have h2:L2.strLt b b=false:=q3d.irr b;rw [h2] at e;cases e
def qul (P:Program) (w:World) (mg:Str ->Option Value):Sp:=λ vs H Q _=>∃ (W:List Str) (Ps:List PR) (A:LA) (k:K4) (f:Str ->Option V) (g:PR ->Option Tab) (h:PR ->Option V) (B:Str ->PR ->Prop) (bks:List (Key×V)) (q:PR) (Y:Tab) (a:Addr) (u:V),vs=[.ref A.p,.ref a]/\LedX P w mg W Ps H A k f g h B bks/\NAt H (pN q) (.ref a)/\q∈Ps/\g q=some Y/\h q=some u/\(∀ n,B n q↔InY Y n)/\
 ∀ H',LedX P w mg W Ps H' A k f (λ x=>if x=q then none else g x) (λ x=>if x=q then none else h x) (λ n x=>B n x/\x≠q) bks ->Chg (foot A bks) H H' ->Q .non H'
theorem q9p (T:Txt K mg):MDef P w K mg base 2 (cA mg "Ledger") "take_out" ["self","pair"] (qul P w mg):=by
 refine T.qac.ok q5a (λ vs H Q E h=> ?_) λ f cdv A outer s H vs Q E hr h=> ?_
 ·obtain ⟨W,Ps,A,k,f,g,h,B,bks,q,Y,a,u,rfl,_⟩:=h;rfl
 ·obtain ⟨W,Ps,A,k,ff,g,hh,B,bks,q,Y,a,u,rfl,L,hq,a6,gq,hu,hB,kk⟩:=h;have O:NOk (pN q):=q4g (L.pg q a6);refine ⟨_,(q63
   (q23 PassesOwn.never rfl (q1l K (qv (q7i T) hr rfl (pa_1 (qa0 (P:=P) (w:=w) hr.units (q1i (pv 0) rfl) (pv 1) (λ _ _=>rfl))))) (qm (i:=2) q5a.nd rfl (Or.inl rfl)) (qe (q28 (qa2 (P:=P) (w:=w) hr.units (q68 (q3c hr) (q1i (pv 0) rfl) (pv 2) (λ _ _=>rfl)) (pv 1) ⟨rfl,rfl,rfl,rfl⟩))))
   (q28 (qa2 (P:=P) (w:=w) hr.units (q1i (pv 0) rfl) (pv 1) ⟨rfl,rfl,rfl,rfl⟩))
   (q28 (qa2 (P:=P) (w:=w) hr.units (q1i (pv 0) rfl) (pv 1) ⟨rfl,rfl,rfl,rfl⟩))),?_⟩
  obtain ⟨ky,dy,y2,y3,y4,y5⟩:=L.why;obtain ⟨l,vl,wl⟩:=y5 q Y gq;refine ⟨_,zr,A.p,_,A.dx,_,_,zr,L.ins,T.qi,T.q2h,zr,_,zr,A.y,a,_,pN q,_,zr,zr,dy,hq,O,(valP ky q).trans vl,l,Y,zr,wl,λ p ns H1 s1 _ hp U _=> ?_⟩;have Z:=L.same s1;have b2:=qi9 U;refine ⟨p,rfl,⟨_,SqL.of hp⟩,q2t (xs:=ns.map V.str) (λ i σ G=>∃ v,σ=[some (.ref A.p),some (.ref a),v]/\LedX P w mg W Ps G A k ff g hh (λ n x=>B n x/\(n∈ns.take i ->x≠q)) bks/\Chg (foot A bks) H1 G) ⟨none,rfl,Z.imp (λ _=>rfl) (λ _=>rfl) (λ _=>rfl) (λ n x=>⟨λ z=>⟨z,λ y=>nomatch y⟩,λ z=>z.1⟩),Chg.refl _ _⟩ (λ i σ G _ z=> ?_) ?_ ?_⟩
  ·obtain ⟨v,_,_,c⟩:=z;exact SqL.of (c.kn Z _ _ True.intro hp)
  ·rintro i x σ G hx ⟨v,rfl,J,c⟩;rw [z1s] at hx;obtain ⟨n,hn,rfl⟩:=z0l.mp hx;have nm:n∈ns:=z11 hn;have il:=(z06.mp hn).1;have a3:n∉ns.take i:=λ z=>by
    obtain ⟨j,hj,e⟩:=z19 z;rw [z22] at hj;rw [z1p] at e;have e2:ns[i]=n:=(z06.mp hn).2;exact z07.mp b2 j i (by lia) il (by lia) (e.trans e2.symm)
   have bq:B n q:=(hB n).mpr ((U.2 n).mp nm);cases ev:valV bks (Sum.inr n) with
   | none=>exact absurd ⟨bq,λ z=>absurd z a3⟩ (J.bea.no n ev q)
   | some v2=>
    obtain ⟨c2,rfl,a9,dd,d2,d3,d4⟩:=J.bea.has n v2 ev;have a4:=J.bea.at_;have a2:=DGet.k (k:=Sum.inr n) a4;rw [ev] at a2;obtain ⟨vv,a8⟩:=kval4.mp ((d4 q).mpr ⟨bq,λ z=>absurd z a3⟩);have kn:=c.kn Z;refine ⟨_,zr,A.p,_,A.dx,_,_,zr,J.ins,T.qi,T.q2w,zr,_,zr,A.b,_,zr,a2,c2,zr,⟨_,dd⟩,_,zr,a,_,pN q,_,zr,dd,kn.nat (hq.same s1),O,(valP a9 q).trans a8,λ o dn=> ?_⟩;rw [qgs] at dn;refine ⟨_,zr,(J.setD (S:=λ y=>B n y/\y≠q) ev dn (q4l d2) (λ y hy=>d3 y (q4h.mp hy).1) (λ y=> ?_)).imp (λ _=>rfl) (λ _=>rfl) (λ _=>rfl) (λ m y=> ?_),c.put (.inl (.inr (.inr (.inr (.inr ⟨n,ev⟩)))))⟩
    ·rw [q4h,d4];exact ⟨λ z=>⟨z.1.1,z.2⟩,λ z=>⟨⟨z.1,λ _=>z.2⟩,z.2⟩⟩
    ·rw [z31,hn];show (if m=n then _ else _)↔_/\(m∈ns.take i++ [n] ->y≠q);rw [z2f,z1c];by_cases em:m=n
     ·rw [if_pos em,em];exact ⟨λ z=>⟨z.1,λ _=>z.2⟩,λ z=>⟨z.1,z.2 (.inr rfl)⟩⟩
     ·rw [if_neg em];exact ⟨λ z=>⟨z.1,λ y=>y.elim z.2 λ y=>absurd y em⟩,λ z=>⟨z.1,λ y=>z.2 (.inl y)⟩⟩
  ·rintro σ G ⟨v,rfl,J,c⟩;rw [z2l,z2e] at J;have kn:=c.kn Z;have a5:=kn.nat (hq.same s1);have J:=J.imp (λ _=>rfl) (λ _=>rfl) (λ _=>rfl) (B':=λ n x=>B n x/\x≠q) (λ n x=>⟨λ z=>⟨z.1,λ e=>by
    have h1:=z.1;rw [e] at h1;exact z.2 ((U.2 n).mpr ((hB n).mp h1)) e⟩,λ z=>⟨z.1,λ _=>z.2⟩⟩)
   obtain ⟨kz,ez,z2,z3,z4,z5⟩:=J.why;obtain ⟨l2,b3,_⟩:=z5 q Y gq;refine ⟨_,zr,A.p,_,A.dx,_,_,zr,J.ins,T.qi,T.q2h,zr,A.y,zr,⟨_,ez⟩,_,zr,a,_,pN q,_,zr,ez,a5,O,(valP kz q).trans b3,λ o dn=> ?_⟩;rw [qgs] at dn;have LY:=J.setY (g':=λ x=>if x=q then none else g x) dn (q4l z2) (λ y hy=>z3 y (q4h.mp hy).1) (λ y hy=>by
    rw [q6t];by_cases e:y=q
    ·rw [if_pos e]
    ·rw [if_neg e];exact z4 y (by rw [if_neg e] at hy;exact hy)) (λ y Y' hy=>by
    by_cases e:y=q
    ·rw [if_pos e] at hy;cases hy
    ·rw [if_neg e] at hy;rw [q6t,if_neg e];exact z5 y Y' hy)
   have c2:=c.put (c:=A.y) (o:=o) (.inl (.inr (.inl rfl)));have a7:=(c2.kn Z).nat (hq.same s1);generalize upd G A.y o=G2 at*;obtain ⟨kw,ew,w2,w3,w4⟩:=LY.wor;refine ⟨_,zr,A.p,_,A.dx,_,_,zr,LY.ins,T.qi,T.q22,zr,A.z,zr,⟨_,ew⟩,_,zr,a,_,pN q,u,zr,ew,a7,O,(valP kw q).trans ((w4 q).trans hu),λ o2 a1=> ?_⟩;rw [qgs] at a1;exact kk _ (LY.setZ (h':=λ x=>if x=q then none else hh x) a1 (q4l w2) (λ y hy=>w3 y (q4h.mp hy).1) (λ y=>by rw [q6t,w4])) (λ b x nf e=>c2.put (c:=A.z) (o:=o2) (.inl (.inr (.inr (.inl rfl)))) b x nf (s1 _ _ e))
def qvp (P:Program) (w:World) (mg:Str ->Option Value):Sp:=λ vs H Q _=>∃ (W:List Str) (Ps:List PR) (A:LA) (k:K4) (f:Str ->Option V) (g:PR ->Option Tab) (h:PR ->Option V) (B:Str ->PR ->Prop) (bks:List (Key×V)) (q:PR) (Y:Tab) (a l:Addr) (u:V),vs=[.ref A.p,.ref a,.ref l,u]/\LedX P w mg W Ps H A k f g h B bks/\NAt H (pN q) (.ref a)/\q∈Ps/\WA H l Y/\(∀ n,InY Y n ->n∈W)/\
 ∀ H' bks',LedX P w mg W Ps H' A k f (λ x=>if x=q then some Y else g x) (λ x=>if x=q then some u else h x) (λ n x=>B n x\/ x=q/\InY Y n) bks' ->Chg (foot A bks) H H' ->Grw H (foot A bks) (foot A bks') ->Q .non H'
theorem qab (T:Txt K mg):MDef P w K mg base 2 (cA mg "Ledger") "take_in" ["self","pair","why","worth"] (qvp P w mg):=by
  refine T.qbs.ok q3j (λ vs H Q E h=> ?_) λ f cdv A outer s H vs Q E hr h=> ?_
  · obtain ⟨W,Ps,A,k,f,g,h,B,bks,q,Y,a,l,u,rfl,_⟩:=h
    rfl
  · obtain ⟨W,Ps,A,k,ff,g,hh,B,bks,q,Y,a,l,u,rfl,L,hq,O,wl,hW,kk⟩:=h
    have Z:NOk (pN q):=q4g (L.pg q O);refine ⟨_,(q63
      (q7v (P:=P) (w:=w) hr.units (q1i (pv 0) rfl) (pv 1) (pv 2) rfl)
      (q7v (P:=P) (w:=w) hr.units (q1i (pv 0) rfl) (pv 1) (pv 3) rfl)
      (q23 PassesOwn.never rfl (q1l K (qv (q7i T) hr rfl (pa_1 (pv 2)))) (qm (i:=4) q3j.nd rfl (Or.inl rfl)) (q31
      (qk (i:=5) q3j.nd rfl (Or.inl rfl) (qos (q1i (pv 0) rfl) (pv 4) (q7u (P:=P) (w:=w)) ⟨rfl,rfl,rfl,rfl⟩))
      (q7v (P:=P) (w:=w) hr.units (pv 5) (pv 1) q3a rfl)))),?_⟩
    obtain ⟨ky,dy,y2,y3,y4,y5⟩:=L.why;refine ⟨_,rfl,_,rfl,A.p,_,A.dx,_,_,rfl,L.ins,T.qi,T.q2h,rfl,_,rfl,A.y,a,_,pN q,rfl,rfl,dy,hq,Z,by rw [z2l];exact Nat.lt_of_le_of_lt (q5c y2 y3 L.pl) (by decide),λ o dn=> ?_⟩;rw [putP] at dn;have LY:=L.setY (g':=λ x=>if x=q then some Y else g x) dn (q2v y2) (λ y hy=>(q1y.mp hy).elim (y3 y) λ e=>by rw [e];exact O) (λ y hy=>by
      by_cases e:y=q
      · rw [if_pos e] at hy
        cases hy
      · rw [if_neg e] at hy
        rw [q1w,if_neg e];exact y4 y hy) (λ y Y' hy=>by
      rw [q1w];by_cases e:y=q
      · rw [if_pos e] at hy ⊢
        cases hy
        exact ⟨l,zr,wl⟩
      · rw [if_neg e] at hy ⊢
        exact y5 y Y' hy)
    have c1:Chg (foot A bks) H (upd H A.y o):=(Chg.refl _ H).put (.inl (.inr (.inl rfl)));generalize upd H A.y o=H1 at*;have a6:=c1.kn L;obtain ⟨kw,ew,w2,w3,w4⟩:=LY.wor;refine ⟨_,rfl,_,rfl,A.p,_,A.dx,_,_,rfl,LY.ins,T.qi,T.q22,rfl,_,rfl,A.z,a,_,pN q,rfl,rfl,ew,a6.nat hq,Z,by rw [z2l];exact Nat.lt_of_le_of_lt (q5c w2 w3 L.pl) (by decide),λ o2 a1=> ?_⟩;rw [putP] at a1;have LZ:=LY.setZ (h':=λ x=>if x=q then some u else hh x) a1 (q2v w2) (λ y hy=>(q1y.mp hy).elim (w3 y) λ e=>by rw [e];exact O) (λ y=>by rw [q1w,w4]);have c2:=c1.put (c:=A.z) (o:=o2) (.inl (.inr (.inr (.inl rfl))));generalize upd H1 A.z o2=H2 at*;have a7:=c2.kn L;refine ⟨_,zr,l,Y,zr,a7.wa wl,λ p ns H3 s3 _ hp U _=> ?_⟩;have L3:=LZ.same s3;have c3:=c2.same s3;have a2:=(c3.kn L).nat hq;have nnd:=qi9 U;refine ⟨p,rfl,⟨_,SqL.of hp⟩,q2t (xs:=ns.map V.str) (λ i σ G=>∃ v1 v2 bk,σ=[some (.ref A.p),some (.ref a),some (.ref l),some u,v1,v2]/\LedX P w mg W Ps G A k ff (λ x=>if x=q then some Y else g x) (λ x=>if x=q then some u else hh x) (λ n x=>B n x\/ x=q/\n∈ns.take i) bk/\Chg (foot A bks) H3 G/\Grw H3 (foot A bks) (foot A bk)/\∀ b,foot A bks b ->foot A bk b) ⟨none,none,bks,rfl,L3.imp (λ _=>rfl) (λ _=>rfl) (λ _=>rfl) (λ n x=>⟨.inl,λ z=>z.elim id λ z=>nomatch z.2⟩),Chg.refl _ _,(λ _ z=> .inl z),λ _ z=>z⟩ (λ i σ G _ z=> ?_) ?_ ?_⟩
    · obtain ⟨v1,v2,bk,_,_,c,_⟩:=z
      exact SqL.of (c.kn L3 _ _ True.intro hp)
    · rintro i x σ G hx ⟨v1,v2,bk,rfl,LG,c,gr,sb⟩
      rw [z1s] at hx;obtain ⟨n,hn,rfl⟩:=z0l.mp hx;have nm:n∈ns:=z11 hn;have kn:=c.kn L3;have nW:n∈W:=hW n ((U.2 n).mp nm);have tk:∀ m y,(if m=n then B n y\/ y=q\/ y=q/\n∈ns.take i else B m y\/ y=q/\m∈ns.take i)↔B m y\/ y=q/\m∈ns.take (i+1):=λ m y=>by
        rw [z31,hn];show _↔_\/ _/\m∈ns.take i++ [n];rw [z2f,z1c];by_cases em:m=n
        · rw [if_pos em,em]
          exact ⟨λ z=>z.elim .inl λ z=> .inr ⟨z.elim id λ z=>z.1,.inr rfl⟩,λ z=>z.elim .inl λ z=> .inr (.inl z.1)⟩
        · rw [if_neg em]
          exact ⟨λ z=>z.elim .inl λ z=> .inr ⟨z.1,.inl z.2⟩,λ z=>z.elim .inl λ z=> .inr ⟨z.1,z.2.elim id λ z=>absurd z em⟩⟩
      refine ⟨_,zr,A.p,_,A.dx,_,_,zr,LG.ins,T.qi,T.q2w,zr,A.b,zr,.inl ⟨_,.inl LG.bea.at_⟩,_,zr,λ e oe he dn=> ?_⟩;have s4:=qd (o:=oe) he;have LE:=LG.same s4;have cE:=c.same s4;have a3:¬ foot A bk e:=λ z=>by
        obtain ⟨o,eo,_⟩:=LG.dict z;rw [he] at eo;cases eo
      have e3:H3 e=none:=by
        cases e3:H3 e with
        | none=>rfl
        | some x=>
          by_cases fe:foot A bks e
          · exact absurd (sb e fe) a3
          · rw [c e x fe e3] at he
            cases he
      have a5:NAt (upd G e oe) (pN q) (.ref a):=(cE.kn L3).nat a2;refine ⟨_,Sum.inr n,LE.bea.at_,zr,Nat.lt_of_le_of_lt LE.qso (by decide),λ v hv=> ?_,λ hv=> ?_⟩
      · obtain ⟨c2,rfl,a8,dd,d2,d3,d4⟩:=LE.bea.has n v hv
        refine ⟨_,rfl,_,rfl,c2,a,_,pN q,rfl,rfl,dd,a5,Z,by rw [z2l];exact Nat.lt_of_le_of_lt (q5c d2 d3 L.pl) (by decide),λ o3 J=> ?_⟩;rw [putP] at J;have fc:foot A bk c2:= .inr (.inr (.inr (.inr ⟨n,hv⟩)));refine ⟨_,_,bk,rfl,(LE.setD (S:=λ y=>B n y\/ y=q\/ y=q/\n∈ns.take i) hv J (q2v d2) (λ y hy=>(q1y.mp hy).elim (d3 y) λ e=>by rw [e];exact O) (λ y=> ?_)).imp (λ _=>rfl) (λ _=>rfl) (λ _=>rfl) tk,?_,gr,sb⟩
        · rw [q1y,d4]
          exact ⟨λ z=>z.elim (λ z=>z.elim .inl λ z=> .inr (.inr z)) λ z=> .inr (.inl z),λ z=>z.elim (λ z=> .inl (.inl z)) λ z=>z.elim .inr λ z=> .inl (.inr z)⟩
        · exact cE.put (gr c2 fc)
      · have LB:=LE.setB hv nW dn a3
        have cB:=cE.put (c:=A.b) (o:= .dK (putK bk (Sum.inr n) (.ref e))) (.inl (.inr (.inr (.inr (.inl rfl)))));have ev:valV (putK bk (Sum.inr n) (.ref e)) (Sum.inr n)=some (.ref e):=by rw [q1w,if_pos rfl]
        have a4:=(cB.kn L3).nat a2;generalize upd (upd G e oe) A.b (.dK (putK bk (Sum.inr n) (.ref e)))=G3 at*;obtain ⟨c2,ec,a8,dd,d2,d3,d4⟩:=LB.bea.has n _ ev;cases ec
        refine ⟨_,rfl,_,rfl,e,a,_,pN q,rfl,rfl,dd,a4,Z,by rw [z2l];exact Nat.lt_of_le_of_lt (q5c d2 d3 L.pl) (by decide),λ o3 J=> ?_⟩;rw [putP] at J;have vp:∀ m b,valV (putK bk (Sum.inr n) (.ref e)) (Sum.inr m)=some (.ref b) ->valV bk (Sum.inr m)=some (.ref b)\/ b=e:=λ m b hm=>by
          rw [q1w] at hm;by_cases em:(Sum.inr m:Key)=Sum.inr n
          · rw [if_pos em] at hm
            cases hm
            exact .inr rfl
          · rw [if_neg em] at hm
            exact .inl hm
        refine ⟨_,_,_,rfl,(LB.setD (S:=λ y=>B n y\/ y=q\/ y=q/\n∈ns.take i) ev J (q2v d2) (λ y hy=>(q1y.mp hy).elim (d3 y) λ e=>by rw [e];exact O) (λ y=> ?_)).imp (λ _=>rfl) (λ _=>rfl) (λ _=>rfl) tk,?_,λ b hb=> ?_,λ b hb=> ?_⟩
        · rw [q1y,d4]
          exact ⟨λ z=>z.elim (λ z=>z.elim .inl λ z=> .inr (.inr z)) λ z=> .inr (.inl z),λ z=>z.elim (λ z=> .inl (.inl z)) λ z=>z.elim .inr λ z=> .inl (.inr z)⟩
        · exact cB.put (.inr e3)
        · rcases hb with h | h | h | h | ⟨m,h⟩
          · exact .inl (.inl h)
          · exact .inl (.inr (.inl h))
          · exact .inl (.inr (.inr (.inl h)))
          · exact .inl (.inr (.inr (.inr (.inl h))))
          · rcases vp m b h with h | h
            · exact gr b (.inr (.inr (.inr (.inr ⟨m,h⟩))))
            · rw [h]
              exact .inr e3
        · rcases sb b hb with h | h | h | h | ⟨m,h⟩
          · exact .inl h
          · exact .inr (.inl h)
          · exact .inr (.inr (.inl h))
          · exact .inr (.inr (.inr (.inl h)))
          · refine .inr (.inr (.inr (.inr ⟨m,?_⟩)))
            rw [q1w,if_neg (λ z=>by rw [z,hv] at h;cases h)];exact h
    · rintro σ G ⟨v1,v2,bk,rfl,LG,c,gr,sb⟩
      rw [z2l,z2e] at LG;refine kk G bk (LG.imp (λ _=>rfl) (λ _=>rfl) (λ _=>rfl) (λ n x=> ?_)) (λ b x nf e=>c b x nf (c3 b x nf e)) (λ b hb=> ?_)
      · exact ⟨λ z=>z.elim .inl λ z=> .inr ⟨z.1,(U.2 n).mp z.2⟩,λ z=>z.elim .inl λ z=> .inr ⟨z.1,(U.2 n).mpr z.2⟩⟩
      · rcases gr b hb with h | h
        · exact .inl h
        · exact .inr (by
            cases eb:H b with
            | none=>rfl
            | some x=>
              by_cases fb:foot A bks b
              · obtain ⟨o',e4,_⟩:=L3.dict fb
                rw [h] at e4;cases e4
              · rw [c3 b x fb eb] at h
                cases h)
structure G15 (k:K4) (f:Str ->Option V):Prop where
 top:∀ t,k= .trusts t ->0<=t
 ok:∀ z v,f z=some v ->Ok4 k v/\Lt4 (10^15) k v
theorem qpk {k:K4} {v:V} (h:Lt4 (10^15) k v):Lt4 (2^600) k v:=by
 cases k with
 | counts=>
  obtain ⟨i,e,h⟩:=h;exact ⟨i,e,Int.lt_trans h (by decide)⟩
 | _=>exact True.intro
theorem G15.g4 {k:K4} {f:Str ->Option V} (h:G15 k f):G4 k f:=⟨h.top,λ z v e=>⟨(h.ok z v e).1,qpk (h.ok z v e).2⟩⟩
def YSm (W:List Str) (Y:Tab):Prop:=∀ kv∈Y,kv.1.length<=3/\kv.2 < 2^600/\∀ n∈kv.1,n∈W/\n.length<=1000
def Pcd (f:Str ->Option V) (Y:Tab):Prop:=∀ p∈Y,∀ n∈p.1,∃ v,f n=some v
theorem InY.inW {W:List Str} {Y:Tab} (h:YSm W Y) {n:Str} (i:InY Y n):n∈W:=let ⟨kv,h1,h2⟩:=i;((h kv h1).2.2 n h2).1
theorem qas {f:Str ->Option V} (h:G15 .counts f) (p:List Str):(∀ n∈p,∃ v,f n=some v) ->∃ i:Int,rkP4 .counts (gv f) p= .int i/\0<=i/\i<=(10^15)^p.length:=by
 refine qgr (C:=λ p=>(∀ n∈p,∃ v,f n=some v) ->∃ i:Int,rkP4 .counts (gv f) p= .int i/\0<=i/\i<=(10^15)^p.length) (λ _=>⟨1,rfl,by decide,by decide⟩) (λ p n ih hp=> ?_) p;obtain ⟨i,e,J,h1⟩:=ih λ m hm=>hp m (z10 _ hm);obtain ⟨v,O⟩:=hp n (z0r _ (z1c.mpr rfl));obtain ⟨⟨j,rfl,U⟩,j',e',j1⟩:=h.ok n v O;cases e'
 refine ⟨i*j,?_,z32 J U,?_⟩
 ·rw [q77,e];unfold gv;rw [O];rfl
 ·rw [z1e,show [n].length=1 from rfl,Int.pow_succ];exact Int.mul_le_mul h1 (z3c j1) U (z3d J h1)
theorem qnc {k:K4} {f:Str ->Option V} {W:List Str} {Y:Tab} (h:G15 k f) (hy:YSm W Y) (hp:Pcd f Y):Sz4 k f Y:=λ kv J=>⟨(hy kv J).2.1,λ i=>by
 cases k with
 | counts=>
  obtain ⟨j,e,h0,h1⟩:=qas h (kv.1.take i) λ n hn=>hp kv J n (z0y hn);refine ⟨j,e,z1l h1 ?_⟩;have l3:(kv.1.take i).length<=3:=by
   rw [z22];have:=(hy kv J).1
   lia
  generalize (kv.1.take i).length=m at l3;rcases (show m=0\/ m=1\/ m=2\/ m=3 by lia) with rfl | rfl | rfl | rfl <;> decide
 | _=>exact True.intro⟩
theorem qfi {k:K4} {g g':Str ->V}:∀ (p:List Str) (z:V),(∀ n∈p,g n=g' n) ->p.foldl (λ z n=>bo4 k z (g n)) z=p.foldl (λ z n=>bo4 k z (g' n)) z
 | [],_,_=>rfl
 | n::p,z,h=>by
  show p.foldl _ (bo4 k z (g n))=p.foldl _ (bo4 k z (g' n));rw [h n (z1f ..)];exact qfi p _ λ m hm=>h m (z0z _ hm)
theorem qfj {k:K4} {g g':Str ->V}:∀ (Y:Tab) (z:V),(∀ kv∈Y,∀ n∈kv.1,g n=g' n) ->Y.foldl (λ z kv=>ei4 k z (rp4 k (rkP4 k g kv.1) kv.2)) z=Y.foldl (λ z kv=>ei4 k z (rp4 k (rkP4 k g' kv.1) kv.2)) z
 | [],_,_=>rfl
 | kv::Y,z,h=>by
  have e:rkP4 k g kv.1=rkP4 k g' kv.1:=qfi _ _ (h kv (z1f ..));show Y.foldl _ (ei4 k z (rp4 k (rkP4 k g kv.1) kv.2))=Y.foldl _ (ei4 k z (rp4 k (rkP4 k g' kv.1) kv.2));rw [e];exact qfj Y _ λ m hm=>h m (z0z _ hm)
def q2d (f:Str ->Option V) (n:Str) (v:V):Str ->Option V:=λ m=>if m=n then some v else f m
def Brs (g:PR ->Option Tab) (n:Str) (q:PR):Prop:=∃ Y,g q=some Y/\InY Y n
def wrs (k:K4) (f:Str ->Option V) (g:PR ->Option Tab) (q:PR):Option V:=(g q).map (rkY4 k (gv f))
structure Led (P:Program) (w:World) (mg:Str ->Option Value) (W:List Str) (Ps:List PR) (H:Hp) (A:LA) (k:K4) (f:Str ->Option V) (g:PR ->Option Tab) (bks:List (Key×V)):Prop where
 led:LedX P w mg W Ps H A k f g (wrs k f g) (Brs g) bks
 g15:G15 k f
 sm:∀ q Y,g q=some Y ->YSm W Y/\Pcd f Y
theorem qed {lt:PR ->PR ->Bool} (l:List PR):(Tim.srt lt l).length=l.length:=(Tim.q14 lt l).length_eq
def qnd (P:Program) (w:World) (K:PySem.W.Frag) (mg:Str ->Option Value):Sp:=λ vs H Q E=>∃ (W:List Str) (Ps:List PR) (A:LA) (k:K4) (f:Str ->Option V) (g:PR ->Option Tab) (bks:List (Key×V)) (n:Str) (x:V) (d:PyData),vs=[.ref A.p,.str n,x]/\Led P w mg W Ps H A k f g bks/\n∈W/\n.length<=1000/\Dat K H d x/\
 (fit4 k d=true ->Lt4 (10^15) k x/\∀ H' l zs ks,Led P w mg W Ps H' A k (q2d f n x) g bks ->Chg (foot A bks) H H' ->H' l=some (.lst zs) ->Paired (λ x p=>∃ b,x=V.ref b/\NAt H' (pN p) (.ref b)) zs (Tim.srt prLt ks) ->ks.Nodup ->(∀ q,q∈ks↔Brs g n q) ->Q (.ref l) H')/\
 (fit4 k d=false ->E (.ref (cA mg "NoWorth")) none H)
theorem q6u (T:Txt K mg):MDefE P w K mg base 9 (cA mg "Ledger") "price" ["self","name","worth"] (qnd P w K mg):=by
 refine T.qem.okE q4c (λ vs H Q E h=> ?_) λ f cdv A outer s H vs Q E hr h=> ?_
 ·obtain ⟨W,Ps,A,k,f,g,bks,n,x,d,rfl,_⟩:=h;rfl
 ·obtain ⟨W,Ps,A,k,U,g,bks,n,x,d,rfl,L,nW,nl,dx,b8,no⟩:=h;obtain ⟨dk,a4⟩:=L.led.by_;refine ⟨_,(qgq
   (qx (q6d (q34 (q38 (qk9 T) (q2m T) hr (q1i (pv 0) rfl) (pa_1 (pv 2))))) (qe (qhr q7t T.q27.new T.q9t (pa_1 (qow q2o (qqg (pv 1)) q2o)))) ql)
   (q9x (q3c hr) (q1i (pv 0) rfl) (pv 1) (qv (qnb T) hr rfl (pa_1 (pv 2))) rfl)
   (qk (i:=3) q4c.nd rfl (Or.inl rfl) (qv (q5s T) hr rfl (pa_1 (qok (q3c hr) (q1i (pv 0) rfl) (pv 1) (q7u (P:=P) (w:=w)) ⟨rfl,rfl,rfl,rfl⟩))))
   (q23 PassesOwn.leaving rfl (q1l K (pv 3)) (qm (i:=4) q4c.nd rfl (Or.inl rfl)) (qe (q7v (P:=P) (w:=w) hr.units (q1i (pv 0) rfl) (pv 4) (qdj (q9m T) (q98 q7t) hr rfl (pa_3 (qa0 (P:=P) (w:=w) hr.units (q1i (pv 0) rfl) (pv 4) (λ _ _=>rfl)) (q1i (pv 0) rfl) (q1i (pv 0) rfl))) rfl)))
   (qg (pv 3))),?_⟩
  refine ⟨_,zr,A.p,_,A.dx,_,_,zr,L.led.ins,T.qi,T.q3q,zr,k,A.o,dk,_,zr,a4,q3p _ (by decide) k,_,zr,A.o,x,d,zr,⟨dk,a4⟩,dx,?_⟩;cases hf:fit4 k d with
  | false=>
   exact ⟨_,rfl,iteT ⟨_,rfl,by decide,_,rfl,n,rfl,z3i nl (by decide),_,rfl,z3i nl (by decide),_,rfl,by decide,by show 1<=sizeLine;decide,no hf⟩⟩
  | true=>
   obtain ⟨lx,kk⟩:=b8 hf;have a7:=qsc dx hf;refine ⟨_,zr,iteF ?_⟩;obtain ⟨kp,hp,p2,p3,p4,pl⟩:=L.led.qsn;refine ⟨_,zr,k,x,zr,a7,_,zr,A.p,_,A.dx,_,_,zr,L.led.ins,T.qi,T.q33,zr,_,zr,A.pr,_,zr,DPut.k (k:=Sum.inr n) hp (Nat.lt_of_le_of_lt pl (by decide)),?_⟩;have L1:=L.led.setP (kvs:=putK kp (Sum.inr n) x) (f':=q2d U n x) (q2v p2) (λ y hy=>(q1y.mp hy).elim (p3 y) λ e=>by rw [e];exact z3m.mpr ⟨n,nW,rfl⟩) (λ z=>by
    rw [q1w,p4];unfold q2d;by_cases e:z=n
    ·rw [if_pos (congrArg Sum.inr e),if_pos e]
    ·rw [if_neg (λ y=>e (Sum.inr.inj y)),if_neg e])
   have g15:G15 k (q2d U n x):=⟨L.g15.top,λ z v e=>by
    unfold q2d at e;by_cases ez:z=n
    ·rw [if_pos ez] at e;cases e
     exact ⟨a7,lx⟩
    ·rw [if_neg ez] at e;exact L.g15.ok z v e⟩
   have sm:∀ q Y,g q=some Y ->YSm W Y/\Pcd (q2d U n x) Y:=λ q Y e=>⟨(L.sm q Y e).1,λ p hp m hm=>by
    unfold q2d;by_cases ez:m=n
    ·exact ⟨x,if_pos ez⟩
    ·rw [if_neg ez];exact (L.sm q Y e).2 p hp m hm⟩
   have c1:Chg (foot A bks) H (upd H A.pr (.dK (putK kp (Sum.inr n) x))):=(Chg.refl _ H).put (.inl (.inl rfl));generalize upd H A.pr (.dK (putK kp (Sum.inr n) x))=H1 at*;refine ⟨_,zr,A.p,_,A.dx,_,_,zr,L1.ins,T.qi,T.q2w,zr,A.b,zr,.inl ⟨_,.inl L1.bea.at_⟩,_,zr,λ e oe he dn=> ?_⟩;have s2:=qd (o:=oe) he;have a1:=L1.same s2;have c2:=c1.same s2;obtain ⟨c,J,ec,dd,d2,d3,d4⟩:∃ c J,(valV bks (Sum.inr n)).getD (.ref e)= .ref c/\DP P w (upd H1 e oe) c J/\(J.map (·.1)).Nodup/\(∀ y∈J.map (·.1),y∈Ps)/\∀ q,q∈J.map (·.1)↔Brs g n q:=by
    cases ev:valV bks (Sum.inr n) with
    | none=>exact ⟨e,[],rfl,dn,z30,(λ _ z=>nomatch z),λ q=>⟨(λ z=>nomatch z),λ z=>absurd z (L1.bea.no n ev q)⟩⟩
    | some v=>
     obtain ⟨a,rfl,J,h1,h2,h3,h4⟩:=a1.bea.has n v ev;exact ⟨a,J,zr,h1,h2,h3,h4⟩
   refine ⟨_,DGet.k (k:=Sum.inr n) a1.bea.at_,c,J,by rw [ec];rfl,dd,λ p hp=>L1.pg p (d3 p hp),λ l zs H3 s3 l0 hl pz=> ?_⟩;have L3:=a1.same s3;have c3:=c2.same s3;have a2:Paired (λ x p=>∃ b,x=V.ref b/\NAt H3 (pN p) (.ref b)) zs (Tim.srt prLt (J.map (·.1))):=Paired.mapP pz λ _ _ ⟨b,e,h⟩=>⟨b,e,h.same s3⟩;have mS:∀ q,q∈Tim.srt prLt (J.map (·.1))↔Brs g n q:=λ q=>((Tim.q14 prLt _).mem_iff).trans (d4 q);have b3:∀ H':Hp,Led P w mg W Ps H' A k (q2d U n x) g bks ->Chg (foot A bks) H3 H' ->Q (.ref l) H':=λ H' LH ch=>kk H' l zs (J.map (·.1)) LH (λ b o nf e=>ch b o nf (c3 b o nf e)) (ch.kn L3 _ _ True.intro hl) (Paired.mapP a2 λ _ _ ⟨b,e,h⟩=>⟨b,e,(ch.kn L3).nat h⟩) d2 d4;clear kk;generalize Tim.srt prLt (J.map (·.1))=S at*;have zl:=Paired.length a2;refine ⟨_,rfl,l,rfl,⟨_,SqL.of hl⟩,q2t (xs:=zs) (λ i σ G=>∃ v5 hi,σ=[some (.ref A.p),some (.str n),some x,some (.ref l),v5]/\LedX P w mg W Ps G A k (q2d U n x) g hi (Brs g) bks/\Chg (foot A bks) H3 G/\(∀ q∈S.take i,hi q=wrs k (q2d U n x) g q)/\∀ q,hi q=wrs k (q2d U n x) g q\/ hi q=wrs k U g q) ⟨none,wrs k U g,rfl,L3,Chg.refl _ _,(λ _ z=>nomatch z),λ _=> .inr rfl⟩ (λ i σ G _ z=> ?_) ?_ ?_⟩
   ·obtain ⟨v,_,_,_,c,_⟩:=z;exact SqL.of (c.kn L3 _ _ True.intro hl)
   ·rintro i y σ G hy ⟨v5,hi,rfl,Z,cg,done,O⟩;obtain ⟨q,hq,b,rfl,hb⟩:=q1h a2 hy;have qS:q∈S:=z11 hq;obtain ⟨Y,gq,iY⟩:=(mS q).mp qS;obtain ⟨a9,a8⟩:=sm q Y gq;have a5:=(cg.kn L3).nat hb;obtain ⟨ky,dy,y2,y3,y4,y5⟩:=Z.why;obtain ⟨l1,vl,wl⟩:=y5 q Y gq;have qP:q∈Ps:=y3 q (q7o vl);have a6:NOk (pN q):=q4g (Z.pg q qP);obtain ⟨b6,b5,_,_,b7⟩:=Z.pri;refine ⟨_,zr,A.p,_,A.dx,_,_,zr,Z.ins,T.qi,T.q2h,zr,_,zr,A.y,b,_,pN q,_,zr,zr,dy,a5,a6,(valP ky q).trans vl,_,zr,A.p,_,A.dx,_,_,zr,Z.ins,T.qi,T.q3q,zr,_,zr,A.p,_,A.dx,_,_,zr,Z.ins,T.qi,T.q33,zr,l1,A.o,A.pr,Y,k,q2d U n x,zr,wl,Z.by_,⟨b6,.inl b5,b7⟩,g15.g4,λ p hp m hm=>((a9 p hp).2.2 m hm).2,λ gd=>⟨qnc g15 a9 a8,λ H5 s5=> ?_⟩,λ bd=> ?_⟩
    ·have L5:=Z.same s5;have c5:=cg.same s5;have b2:=a5.same s5;obtain ⟨kz,dz,z2,z3,z4⟩:=L5.wor;refine ⟨_,rfl,A.p,_,A.dx,_,_,rfl,L5.ins,T.qi,T.q22,rfl,_,rfl,A.z,b,_,pN q,rfl,rfl,dz,b2,a6,by rw [z2l];exact Nat.lt_of_le_of_lt (q5c z2 z3 Z.pl) (by decide),λ o a3=> ?_⟩;rw [putP] at a3;have ew:wrs k (q2d U n x) g q=some (rkY4 k (gv (q2d U n x)) Y):=by
      unfold wrs;rw [gq];rfl
     refine ⟨_,_,rfl,L5.setZ (h':=λ y=>if y=q then some (rkY4 k (gv (q2d U n x)) Y) else hi y) a3 (q2v z2) (λ y hy=>(q1y.mp hy).elim (z3 y) λ e=>by rw [e];exact qP) (λ y=>by rw [q1w,z4]),c5.put (.inl (.inr (.inr (.inl rfl)))),λ y hy=> ?_,λ y=> ?_⟩
     ·show (if y=q then _ else _)=_;by_cases e:y=q
      ·rw [if_pos e,e,ew]
      ·rw [if_neg e];rw [z31,hq] at hy;rcases z2f.mp hy with h | h
       ·exact done y h
       ·exact absurd (z1c.mp h) e
     ·show (if y=q then _ else _)=_\/ (if y=q then _ else _)=_;by_cases e:y=q
      ·rw [if_pos e,e,ew];exact .inl rfl
      ·rw [if_neg e];exact O y
    ·obtain ⟨p,hp,m,hm,e⟩:=bd;obtain ⟨v,ev⟩:=a8 p hp m hm;rw [ev] at e;cases e
   ·rintro σ G ⟨v5,hi,rfl,Z,cg,done,O⟩;rw [zl,z2e] at done;refine ⟨_,zr,b3 G ⟨Z.imp (λ _=>rfl) (λ _=>rfl) (λ q=> ?_) (λ _ _=>Iff.rfl),g15,sm⟩ cg⟩;by_cases qS:q∈S
    ·exact done q qS
    ·rcases O q with h | h
     ·exact h
     ·rw [h];unfold wrs;cases gq:g q with
      | none=>rfl
      | some Y=>
       refine congrArg some (qfj Y _ λ kv b4 m hm=> ?_);unfold gv q2d;rw [if_neg (λ e=>qS ((mS q).mpr ⟨Y,gq,kv,b4,by rw [<- e];exact hm⟩))]
def qne (P:Program) (w:World) (mg:Str ->Option Value):Sp:=λ vs H Q E=>∃ (W:List Str) (Ps:List PR) (A:LA) (k:K4) (f:Str ->Option V) (g:PR ->Option Tab) (bks:List (Key×V)) (q:PR) (Y:Tab) (r l:Addr),vs=[.ref A.p,.str q.1,.ref r,.ref l]/\Led P w mg W Ps H A k f g bks/\q∈Ps/\H r=some (.tup (q.2.map kV))/\WA H l Y/\YSm W Y/\
 (Pcd f Y ->∀ H' bks',Led P w mg W Ps H' A k f (λ x=>if x=q then (if Y=[] then none else some Y) else g x) bks' ->Chg (foot A bks) H H' ->Grw H (foot A bks) (foot A bks') ->Q .non H')/\
 ((∃ p∈Y,∃ n∈p.1,f n=none) ->∀ H',Same H H' ->E (.ref (cA mg "NoWorth")) none H')
theorem q6v (T:Txt K mg):MDefE P w K mg base 6 (cA mg "Ledger") "enter" ["self","table","row","why"] (qne P w mg):=by
  refine T.qen.okE q4d (λ vs H Q E h=> ?_) λ f cdv A outer s H vs Q E hr h=> ?_
  · obtain ⟨W,Ps,A,k,f,g,bks,q,Y,r,l,rfl,_⟩:=h
    rfl
  · obtain ⟨W,Ps,A,k,U,g,bks,q,Y,r,l,rfl,L,qP,a5,wl,ys,a2,no⟩:=h
    have a7:NOk (pN q):=q4g (L.led.pg q qP);refine qde 3 (λ σ G=>∃ a,σ=[some (.ref A.p),some (.str q.1),some (.ref r),some (.ref l),some (rkY4 k (gv U) Y),some (.ref a)]/\Pcd U Y/\LedX P w mg W Ps G A k U (λ x=>if x=q then none else g x) (λ x=>if x=q then none else wrs k U g x) (λ n x=>Brs g n x/\x≠q) bks/\Chg (foot A bks) H G/\NAt G (pN q) (.ref a)) ⟨_,(qe (qx (qr (qhl hr.units K) (pv 3) (q1n q2k) (qo _)) (qe (q28 (q6b (qab T) T.qi hr (pv 0) (pa_3 (pv 5) (q25 (q8b K) rfl T.q9r q7r (pa_1 (pv 3))) (pv 4))))) ql)),?_⟩ (λ u hu hC=>⟨_,(qqd
      (qk (i:=4) q4d.nd rfl (Or.inl rfl) (qdj (q9m T) (q98 q7t) hr rfl (pa_3 (pv 3) (q1i (pv 0) rfl) (q1i (pv 0) rfl))))
      (qk (i:=5) q4d.nd rfl (Or.inl rfl) (q1x (pa_2 (pv 1) (pv 2))))
      (qx (qlw (qu4 (P:=P) (w:=w) hr.units (pv 5) (q1i (pv 0) rfl))) (qe (q28 (q6b (q9p T) T.qi hr (pv 0) (pa_1 (pv 5))))) ql)
      hu),?_⟩)
    · rintro σ G ⟨a,rfl,pc,LG,cg,hq⟩
      have kn:=cg.kn L.led;have wG:=kn.wa wl;refine ⟨_,zr,by decide,λ e he=> ?_⟩;have s1:=qd (o:=HO.lst []) he;have LE:=LG.same s1;have wE:=wG.same s1;have cE:=cg.same s1;have a4:=hq.same s1;refine ⟨.list (whyD Y),.list [],wE.dat,.lst (SqL.of q5) .nil,qfe Y,_,zr,?_⟩;have sm:∀ x J,(λ x=>if x=q then (if Y=[] then none else some Y) else g x) x=some J ->YSm W J/\Pcd U J:=λ x J e=>by
        have e:(if x=q then (if Y=[] then none else some Y) else g x)=some J:=e;by_cases ex:x=q
        · rw [if_pos ex] at e
          by_cases ey:Y=[]
          · rw [if_pos ey] at e
            cases e
          · rw [if_neg ey] at e
            cases e
            exact ⟨ys,pc⟩
        · rw [if_neg ex] at e
          exact L.sm x J e
      by_cases ey:Y=[]
      · have eb:(!PyData.eqv (.list (whyD Y)) (.list []))=false:=by rw [ey];rfl
        rw [eb];refine iteF (a2 pc _ bks ⟨LE.imp (λ _=>rfl) (λ x=> ?_) (λ x=> ?_) (λ n x=> ?_),L.g15,sm⟩ cE (λ _ z=> .inl z))
        · show (if x=q then none else g x)=if x=q then _ else g x
          rw [if_pos ey]
        · show (if x=q then none else wrs k U g x)=((if x=q then (if Y=[] then none else some Y) else g x)).map _
          rw [if_pos ey];by_cases ex:x=q
          · rw [if_pos ex,if_pos ex]
            rfl
          · rw [if_neg ex,if_neg ex]
            rfl
        · unfold Brs
          rw [if_pos ey]
          constructor
          · rintro ⟨⟨J,e1,h1⟩,ne⟩
            exact ⟨J,by show (if x=q then none else g x)=_;rw [if_neg ne];exact e1,h1⟩
          · rintro ⟨J,e1,h1⟩
            replace e1:(if x=q then none else g x)=some J:=e1
            by_cases ex:x=q
            · rw [if_pos ex] at e1
              cases e1
            · rw [if_neg ex] at e1
              exact ⟨⟨J,e1,h1⟩,ex⟩
      · have eb:(!PyData.eqv (.list (whyD Y)) (.list []))=true:=by
          cases Y with
          | nil=>exact absurd rfl ey
          | cons a r=>rfl
        rw [eb];refine iteT ?_;have a6:=wE.lst;refine ⟨_,zr,A.p,A.dx,_,zr,LE.ins,zr,_,zr,_,zr,l,_,zr,.inl (SqL.of a6),λ c hc=> ?_⟩;have s2:=qd (o:=HO.lst wE.xs) hc;have LC:=LE.same s2;have cC:=cE.same s2;have wC:=wE.copy hc;have a3:=a4.same s2;generalize upd (upd G e (.lst [])) c (.lst wE.xs)=G2 at*;refine ⟨_,zr,W,Ps,A,k,U,_,_,_,bks,q,Y,a,c,_,zr,LC,a3,qP,wC,λ n hn=>hn.inW ys,λ H' a1 LH ch gr=> ?_⟩;refine a2 pc H' a1 ⟨LH.imp (λ _=>rfl) (λ x=> ?_) (λ x=> ?_) (λ n x=> ?_),L.g15,sm⟩ (λ b o nf e=>ch b o nf (cC b o nf e)) (λ b hb=> ?_)
        · show (if x=q then some Y else if x=q then none else g x)=if x=q then _ else g x
          rw [if_neg ey];by_cases ex:x=q
          · rw [if_pos ex,if_pos ex]
          · rw [if_neg ex,if_neg ex,if_neg ex]
        · show (if x=q then some _ else if x=q then none else wrs k U g x)=((if x=q then (if Y=[] then none else some Y) else g x)).map _
          rw [if_neg ey];by_cases ex:x=q
          · rw [if_pos ex,if_pos ex]
            rfl
          · rw [if_neg ex,if_neg ex,if_neg ex]
            rfl
        · show ((Brs g n x/\x≠q)\/ x=q/\InY Y n)↔Brs _ n x
          unfold Brs;rw [if_neg ey]
          constructor
          · rintro (⟨⟨J,e1,h1⟩,ne⟩ | ⟨ex,h1⟩)
            · exact ⟨J,by show (if x=q then some Y else g x)=_;rw [if_neg ne];exact e1,h1⟩
            · exact ⟨Y,by show (if x=q then some Y else g x)=_;rw [if_pos ex],h1⟩
          · rintro ⟨J,e1,h1⟩
            replace e1:(if x=q then some Y else g x)=some J:=e1
            by_cases ex:x=q
            · rw [if_pos ex] at e1
              cases e1
              exact .inr ⟨ex,h1⟩
            · rw [if_neg ex] at e1
              exact .inl ⟨⟨J,e1,h1⟩,ex⟩
        · rcases gr b hb with h | h
          · exact .inl h
          · by_cases fb:foot A bks b
            · exact .inl fb
            · refine .inr ?_
              cases eb:H b with
              | none=>rfl
              | some o=>
                rw [cC b o fb eb] at h;cases h
    · obtain ⟨kp,hp,_,_,p4⟩:=L.led.pri
      refine ⟨_,zr,_,zr,A.p,_,A.dx,_,_,zr,L.led.ins,T.qi,T.q3q,zr,_,zr,A.p,_,A.dx,_,_,zr,L.led.ins,T.qi,T.q33,zr,l,A.o,A.pr,Y,k,U,zr,wl,L.led.by_,⟨kp,.inl hp,p4⟩,L.g15.g4,λ p hp m hm=>((ys p hp).2.2 m hm).2,λ pc=>⟨qnc L.g15 ys pc,λ H1 s1=> ?_⟩,no⟩;refine ⟨_,rfl,_,rfl,by show 2<=sizeLine;decide,λ a ha=> ?_⟩;have s2:=qd (o:=HO.tup [V.str q.1,V.ref r]) ha;have S2:=s1.trans s2;have O:=L.led.same S2;have hq:NAt (upd H1 a (.tup [V.str q.1,V.ref r])) (pN q) (.ref a):=pr_at.mpr ⟨r,q5,S2 _ _ a5⟩;generalize upd H1 a (.tup [V.str q.1,V.ref r])=H2 at*;obtain ⟨ky,dy,y2,y3,y4,y5⟩:=O.why;refine ⟨_,zr,_,zr,A.p,_,A.dx,_,_,zr,O.ins,T.qi,T.q2h,zr,A.y,a,_,pN q,zr,zr,dy,hq,a7,_,zr,?_⟩;rw [valP];cases Z:g q with
      | none=>
        rw [y4 q Z];refine iteF (hC _ _ ⟨a,zr,pc,O.imp (λ _=>rfl) (λ x=> ?_) (λ x=> ?_) (λ n x=> ?_),Chg.of S2,hq⟩)
        · show _=if x=q then none else g x
          by_cases e:x=q
          · rw [if_pos e,e,Z]
          · rw [if_neg e]
        · show _=if x=q then none else wrs k U g x
          by_cases e:x=q
          · rw [if_pos e,e]
            unfold wrs;rw [Z];rfl
          · rw [if_neg e]
        · refine ⟨λ z=>⟨z,λ e=> ?_⟩,λ z=>z.1⟩
          obtain ⟨Y0,e0,_⟩:=z;rw [e,Z] at e0;cases e0
      | some Y0=>
        obtain ⟨l0,v0,w0⟩:=y5 q Y0 Z;rw [v0];refine iteT ?_;refine ⟨_,zr,A.p,A.dx,_,zr,O.ins,zr,_,zr,W,Ps,A,k,U,g,wrs k U g,Brs g,bks,q,Y0,a,rkY4 k (gv U) Y0,zr,O,hq,qP,Z,?_,λ n=> ?_,λ H3 L3 c3=> ?_⟩
        · unfold wrs
          rw [Z];rfl
        · exact ⟨λ ⟨Y1,e1,h1⟩=>by rw [Z] at e1;cases e1;exact h1,λ h=>⟨Y0,Z,h⟩⟩
        · exact hC _ _ ⟨a,zr,pc,L3,λ b o nf e=>c3 b o nf (S2 _ _ e),(c3.kn O).nat hq⟩
def TdAt (H:Hp) (k:K4) (f:Str ->Option V) (g:PR ->Option Tab) (x:V) (p:PR):Prop:=∃ b r,x=V.ref b/\H b=some (.tup [.str p.1,.ref r,(wrs k f g p).getD (no4 k)])/\H r=some (.tup (p.2.map kV))
def qpl (P:Program) (w:World) (mg:Str ->Option Value):Sp:=λ vs H Q _=>∃ (W:List Str) (Ps:List PR) (A:LA) (k:K4) (f:Str ->Option V) (g:PR ->Option Tab) (bks:List (Key×V)),vs=[.ref A.p]/\Led P w mg W Ps H A k f g bks/\
 ∀ H' l zs ks,Same H H' ->H' l=some (.lst zs) ->Paired (TdAt H' k f g) zs (Tim.srt prLt ks) ->ks.Nodup ->(∀ q,q∈ks↔∃ Y,g q=some Y) ->Q (.ref l) H'
theorem Led.wok {W:List Str} {Ps:List PR} {H:Hp} {A:LA} {k:K4} {f:Str ->Option V} {g:PR ->Option Tab} {bks:List (Key×V)} (L:Led P w mg W Ps H A k f g bks) {q:PR} {v:V} (e:wrs k f g q=some v):Ok4 k v:=by
 unfold wrs at e;cases O:g q with
 | none=>
  rw [O] at e;cases e
 | some Y=>
  rw [O] at e;have e:some (rkY4 k (gv f) Y)=some v:=e;cases e
  obtain ⟨kvs,_,_,_,_,h5⟩:=L.led.why;obtain ⟨l,_,wl⟩:=h5 q Y O;exact qa5 L.g15.g4 λ kv J=>⟨(L.sm q Y O).2 kv J,(wl.bd.2 kv J).2.2.1⟩
theorem qee (T:Txt K mg):MDef P w K mg base 9 (cA mg "Ledger") "told" ["self"] (qpl P w mg):=by
  refine T.qg8.ok qdm (λ vs H Q E h=> ?_) λ f cdv A outer s H vs Q E hr h=> ?_
  · obtain ⟨W,Ps,A,k,f,g,bks,rfl,_⟩:=h
    rfl
  · obtain ⟨W,Ps,A,k,ff,g,bks,rfl,L,kk⟩:=h
    refine ⟨_,(qe (qg (q2f (N:=["table","row","self"]) (caps:=[none,none,some 0]) rfl (by with_unfolding_all rfl) (q1l K (qv (q5s T) hr rfl (pa_1 (q1i (pv 0) rfl)))) (λ _ _ _ _ _=>(qdg K (n:=2) rfl (q1r (qm (i:=0) (show (["table","row","self"]:List Str).Nodup by decide+kernel) rfl (Or.inl rfl)) (q1r (qm (i:=1) (show (["table","row","self"]:List Str).Nodup by decide+kernel) rfl (Or.inl rfl)) q4j)))) (λ _ _ _ _ _=>q37) (λ _ _ _ _ _=>(q1x (pa_3 (pv 0) (pv 1) (q6b (q78 (P:=P) (w:=w) T) T.qi hr (pv 2) (pa_2 (pv 0) (pv 1))))))))),?_⟩;obtain ⟨O,dz,z2,z3,z4⟩:=L.led.wor;refine ⟨_,zr,A.p,_,A.dx,_,_,zr,L.led.ins,T.qi,T.q22,zr,A.z,O,zr,dz,λ p hp=>L.led.pg p (z3 p hp),λ l zs H1 s1 l0 hl pz=> ?_⟩;have a4:∀ q,q∈O.map (·.1)↔∃ Y,g q=some Y:=λ q=>by
      rw [kval4]
      constructor
      · rintro ⟨v,J⟩
        rw [z4] at J;unfold wrs at J;cases gq:g q with
        | none=>
          rw [gq] at J;cases J
        | some Y=>exact ⟨Y,rfl⟩
      · rintro ⟨Y,gq⟩
        rw [z4];unfold wrs;rw [gq];exact ⟨_,zr⟩
    have a5:∀ q∈Tim.srt prLt (O.map (·.1)),q∈Ps:=λ q hq=>z3 q ((Tim.q14 prLt _).mem_iff.mp hq);have kk:=λ H' l zs=>kk H' l zs (O.map (·.1));have pl:(Tim.srt prLt (O.map (·.1))).length<=1000:=by
      rw [qed,z2l];exact q5c z2 z3 L.led.pl
    generalize Tim.srt prLt (O.map (·.1))=S at*;have zl:=Paired.length pz;refine ⟨l,zr,⟨_,SqL.of hl⟩,λ D hD=> ?_⟩;refine q2g zs.length (λ i σ' H'=>(∃ v1 v2,σ'=[v1,v2,some (.ref A.p)])/\Same H1 H'/\∃ Z,H' D=some (.lst Z)/\∀ H2,(∀ b o,b≠D ->H' b=some o ->H2 b=some o) ->Paired (TdAt H2 k ff g) Z (S.take i)) ⟨⟨_,_,zr⟩,qd hD,[],q5,λ _ _=> .nil⟩ (λ i σ' H' hi p=> ?_) (λ σ' H' p=>⟨?_,?_⟩) (λ i σ' H' hi p x H2 y=> ?_)
    · obtain ⟨_,sm,_⟩:=p
      exact ⟨_,zs[i],SqL.of (sm _ _ hl),z0a hi⟩
    · obtain ⟨_,sm,_⟩:=p
      exact ⟨_,SqL.of (sm _ _ hl),z3p _⟩
    · obtain ⟨_,sm,Z,e,hd⟩:=p
      rw [zl,z2e] at hd;exact kk H' D Z (s1.trans sm) e (hd H' λ _ _ _ h=>h) z2 a4
    · obtain ⟨⟨v1,v2,rfl⟩,sm,Z,e,hd⟩:=p
      obtain ⟨rfl,hx⟩:=y;have a7:=hx _ (SqL.of (sm _ _ hl));obtain ⟨q,hq,b,rfl,hb⟩:=q1h pz a7;have S1:=s1.trans sm;obtain ⟨r,a3,U⟩:=pr_at.mp hb;have qP:=a5 q (z11 hq);have LG:=L.led.same S1;refine ⟨_,_,zr,SqT.of (S1 _ _ a3),zr,_,_,zr,_,_,zr,zr,?_⟩;refine ⟨_,zr,_,zr,_,zr,A.p,A.dx,_,zr,LG.ins,zr,_,zr,_,zr,A.p,A.dx,A.o,A.pr,A.y,A.z,A.b,r,q,k,O,zr,LG.ins,LG.by_,L.g15.top,DN.same S1 dz,S1 _ _ U,q4g (L.led.pg q qP),λ v J=> ?_,λ H3 s3=> ?_⟩
      · unfold valP4 at J
        rw [valP,z4] at J;exact L.wok J
      · refine ⟨by show 3<=sizeLine;decide,λ c hc=> ?_⟩
        have ew:valP4 O q=wrs k ff g q:=by
          unfold valP4;rw [valP,z4]
        rw [ew];have s4:=qd (o:=HO.tup [V.str q.1,V.ref r,(wrs k ff g q).getD (no4 k)]) hc;have eD:=s4 _ _ (s3 _ _ e);have a6:Z.length=min i S.length:=by
          rw [Paired.length (hd _ λ _ _ _ h=>h),z22]
        have a1:c≠D:=λ z=>by
          rw [z,s3 _ _ e] at hc;cases hc
        refine ⟨_,eD,by rw [a6];exact q15 (by lia),⟨_,_,rfl⟩,((sm.trans s3).trans s4).set hD,Z++ [.ref c],q5,λ H5 h5=> ?_⟩;rw [z31,hq];refine Paired.snoc (hd H5 λ b o hb ho=>h5 b o hb ?_) ⟨c,r,zr,h5 c _ a1 (by rw [qh a1,q5]),?_⟩
        · rw [qh hb]
          exact s4 _ _ (s3 _ _ ho)
        · have a2:r≠D:=λ z=>by
            have:=(s1 _ _ U);rw [z,hD] at this;cases this
          refine h5 r _ a2 ?_;rw [qh a2];exact s4 _ _ (s3 _ _ (S1 _ _ U))
theorem qia (xs:List V) (n:Nat) (h:n<=xs.length):cutV xs (some (n:Int)) none=xs.drop n:=by
 unfold cutV;rw [HT.sIx_nat,HT.sIx_none,Nat.min_eq_left h,z0i (by rw [z23];exact z3p _)]
def qpm:Sp:=λ vs H Q _=>∃ c m:Int,vs=[.int c,.int m]/\∀ p (ns:List Int) H',Same H H' ->H' p=some (.lst (ns.map V.int)) ->ns.length=24 ->H p=none ->Q (.ref p) H'
theorem qef (T:Txt K mg):Def P w K mg base 1 "_law_stream" ["_law_cell","_law_place"] qpm:=by
 refine T.qg7.ok q2p (λ vs H Q E h=> ?_) λ f cdv A outer s H vs Q E hr h=> ?_
 ·obtain ⟨c,m,rfl,_⟩:=h;rfl
 ·obtain ⟨c,m,rfl,k⟩:=h;refine ⟨_,(q9z
   (qk (i:=2) q2p.nd rfl (Or.inl rfl) (qf q12 (qf q1a (pv 0) (qf q2j qb (pv 1))) qb))
   (qk (i:=3) q2p.nd rfl (Or.inl rfl) (q1n q2k))
   (q23 PassesOwn.never rfl (q54 rfl T.q83 (pa_1 qb)) (qm (i:=4) q2p.nd rfl (Or.inl rfl)) (q31
   (qk (i:=2) q2p.nd rfl (Or.inl rfl) (qf q12 (qf q1a (qf q1a (qf q2j (pv 2) qb) (qf q2j qb (pv 4))) qb) qb))
   (q28 (qgp z0g z0b z0c q56 (pv 3) (pa_1 (qf q1t (pv 2) qb))))))
   (qg (q35 (q6f K) (pv 3) (q3b qb) q4k))),?_⟩
  refine ⟨_,rfl,_,rfl,_,_,rfl,rfl,.inl ⟨by decide,by decide⟩,_,_,rfl,rfl,_,_,rfl,rfl,(by show (0:Int) < 2147483629;decide),?_⟩;refine ⟨by decide,λ p hp=> ?_⟩;refine ⟨_,zr,by decide,by decide,q6z (lo:=0) (n:=25) (λ i σ H'=>∃ (kk:Option V) (n:Int) (ns:List Int),σ=[some (.int c),some (.int m),some (.int n),some (.ref p),kk]/\H'=upd H p (.lst (ns.map V.int))/\ns.length=i) ⟨none,_,[],zr,zr,zr⟩ ?_ ?_⟩
  ·rintro i σ H' hi ⟨kk,n,ns,rfl,rfl,hl⟩;refine ⟨_,rfl,_,_,rfl,rfl,.inr ⟨by decide,by decide⟩,_,rfl,_,_,rfl,rfl,.inl ⟨by decide,by decide⟩,_,_,rfl,rfl,_,_,rfl,rfl,_,_,rfl,rfl,(by show (0:Int) < 2147483647;decide),?_⟩;refine ⟨_,rfl,.inl ⟨rfl,_,SqL.of q5⟩,_,rfl,_,_,rfl,rfl,⟨by decide,by decide⟩,_,_,_,rfl,rfl,q5,by rw [z2l,hl];exact q15 (by lia),?_⟩;exact ⟨_,_,ns++ [_],rfl,by rw [qqv,z2q];rfl,by rw [z1e,hl];rfl⟩
  ·rintro σ H' ⟨kk,n,ns,rfl,rfl,hl⟩;refine ⟨_,zr,_,zr,_,_,zr,SqL.of q5,λ q hq=> ?_⟩;have e:cutV (ns.map V.int) (some 1) none=(ns.drop 1).map V.int:=by
    rw [List.map_drop];exact qia (ns.map V.int) 1 (by rw [z2l];lia)
   rw [e];have s1:=qd (o:=HO.lst (ns.map V.int)) hp;exact k q (ns.drop 1) _ (s1.trans (qd hq)) q5 (by rw [z23];lia) (s1.free hq)
theorem qib (xs:List V) {m:Int} (h:0<=m):cutV xs none (some m)=xs.take m.toNat:=by
 obtain ⟨n,rfl⟩:=z0h h;unfold cutV;rw [HT.sIx_nat,HT.sIx_none,List.drop_zero];show xs.take (min n xs.length - 0)=xs.take n;rw [Nat.sub_zero,<- List.take_eq_take_min]
def sev:Str:="7"
theorem qsp {n:Int} (h0:0<=n) (h8:n<=8):Wz 8 (repS sev n):=by
 have:∀ k:Nat,k<=8 ->(repS sev (k:Int)).length<=8/\∀ c∈(repS sev (k:Int)).cps.toList,c∈fur.cps.toList:=by decide+kernel
 obtain ⟨k,rfl⟩:=z0h h0;exact this k (by lia)
theorem qvq (x:Int):∃ d,atI fur.cps.toList (x%26)=some d/\d∈smaS.cps.toList:=by
 have all:∀ k:Nat,k < 26 ->fur.cps.toList.getD k 0∈smaS.cps.toList:=by decide+kernel
 obtain ⟨d,hd,hm⟩:=q3l (xs:=fur.cps.toList) (i:=x%26) (z2u _ (by decide)) (by rw [q3v,qa4];have:=z1m x (show (0:Int) < 26 by decide);lia);refine ⟨d,hd,?_⟩;obtain ⟨n,hn⟩:=z0h (z2u x (show (26:Int)≠0 by decide));have O:n < 26:=by
  have:=z1m x (show (0:Int) < 26 by decide)
  lia
 have h:=all n O;rw [hn] at hd;have J:fur.cps.toList[n]? =some d:=by
  have hl:n < fur.cps.toList.length:=by rw [q3v,qa4];lia
  have h2:=q1b (xs:=fur.cps.toList) (z0a hl);rw [h2] at hd;rw [z0a hl];exact hd
 rw [z05,J] at h;exact h
theorem qvr {z y:Str} {i n:Nat} (h:NmI smaS z i) (h0:i≠0) (hy:Wz n y):txtB smaS (cutS (z++y) none (some 12))=true:=by
  rcases h with ⟨e,_⟩ | ⟨c,r,e,hl,hc,hr⟩
  · exact absurd e h0
  · have e2:(cutS (z++y) none (some 12)).cps.toList=c::(r++y.cps.toList).take 11:=by
      unfold cutS;rw [HT.sIx_none,List.drop_zero,show (some 12:Option Int)=some ((12:Nat):Int) from rfl,HT.sIx_nat,Nat.sub_zero,qbh,e];have J:(z++y).length=(c::(r++y.cps.toList)).length:=by
        rw [<- q3v,qbh,e];rfl
      rw [J];show List.take (min 12 _) (c::(r++y.cps.toList))=_;rw [<- List.take_eq_take_min];rfl
    refine qsg e2 (by rw [z22];lia) hc λ d hd=> ?_;rcases z2f.mp (z0y hd) with h | h
    · exact hr d h
    · exact hy.2 d h
def qpn:Sp:=λ vs H Q _=>∃ c m:Int,vs=[.int c,.int m]/\0<=m/\m<=9/\∀ p (ws:List Str) H',Same H H' ->H' p=some (.lst (ws.map V.str)) ->ws.length=m.toNat ->H p=none ->(∀ z∈ws,txtB smaS z=true) ->Q (.ref p) H'
theorem q8p (T:Txt K mg):Def P w K mg base 1 "_law_words" ["_law_cell","_law_many"] qpn:=by
  refine T.qiw.ok q1f (λ vs H Q E h=> ?_) λ f cdv A outer s H vs Q E hr h=> ?_
  · obtain ⟨c,m,rfl,_⟩:=h
    rfl
  · obtain ⟨c,m,rfl,m0,m9,k⟩:=h
    refine ⟨_,(qqc
      (qk (i:=2) q1f.nd rfl (Or.inl rfl) q2o)
      (qk (i:=3) q1f.nd rfl (Or.inl rfl) (qf q1a qb (qf q12 (pv 0) qb)))
      (qk (i:=4) q1f.nd rfl (Or.inl rfl) (qf q12 (qf q1t (pv 0) qb) (pv 3)))
      (qk (i:=5) q1f.nd rfl (Or.inl rfl) (q1n q2k))
      (q23 PassesOwn.never rfl (q54 rfl T.q83 (pa_1 (pv 1))) (qm (i:=6) q1f.nd rfl (Or.inl rfl)) (q63
      (qk (i:=7) q1f.nd rfl (Or.inl rfl) q2o)
      (q23 PassesOwn.never rfl (q54 rfl T.q83 (pa_1 (pv 3))) (qm (i:=8) q1f.nd rfl (Or.inl rfl)) (q31
      (qk (i:=9) q1f.nd rfl (Or.inl rfl) (qf q1a (qf q1a (qf q1t (pv 0) (qf q1a qb (qf q2j qb (pv 8)))) (qf q2j (pv 8) (pv 8))) (qf q2j (pv 6) (q25 qev rfl T.b_int qcb (pa_1 (q30 q1s (pv 8) (pv 4) (qo _)))))))
      (qk (i:=7) q1f.nd rfl (Or.inl rfl) (qf qc5 (pv 7) (qy qt9 (pv 2) (qf q12 (pv 9) (qf q1a qb (qf q2j qb (q25 qev rfl T.b_int qcb (pa_1 (q30 qv5 (pv 8) qb (qo _))))))) (λ _ _=>rfl))))))
      (q28 (qgp z0g z0b z0c q56 (pv 5) (pa_1 (q35 qtl (qf qc5 (pv 7) (qf qrw q2o (qf q2j (pv 6) (qf q12 (qf q1t (pv 0) qb) qb)))) q4k (q3b qb)))))))
      (qg (pv 5))),?_⟩
    have s0:=z2u c (show (12:Int)≠0 by decide);have s1:=z1m c (show (0:Int) < 12 by decide);refine ⟨_,rfl,_,_,rfl,rfl,(by show (0:Int) < 12;decide),_,_,rfl,rfl,?_⟩;refine ⟨_,rfl,_,_,rfl,rfl,⟨by decide,by decide⟩,_,rfl,_,_,rfl,rfl,(by show 0 < 1+c%12;lia),?_⟩;refine ⟨by decide,λ p hp=> ?_⟩;have t0:=qd (o:=HO.lst []) hp;refine ⟨_,rfl,_,rfl,by lia,by lia,q6z (lo:=0) (n:=m.toNat) (λ i σ H'=>∃ (v1 v2 v3 J:Option V) (O:List Str),σ=[some (.int c),some (.int m),some (.str fur),some (.int (1+c%12)),some (.int (c / 12%(1+c%12))),some (.ref p),v1,v2,v3,J]/\Same H H'/\H' p=some (.lst (O.map V.str))/\O.length=i/\∀ z∈O,txtB smaS z=true) ⟨none,none,none,none,[],rfl,t0,q5,rfl,λ _ z=>nomatch z⟩ ?_ ?_⟩
    · rintro i σ H1 hi ⟨v1,v2,v3,J,O,rfl,sm,e,lw,hw⟩
      refine ⟨_,zr,_,zr,by lia,by lia,q6z (lo:=0) (n:=(1+c%12).toNat) (λ j σ H'=>∃ (v3 J:Option V) (z:Str),σ=[some (.int c),some (.int m),some (.str fur),some (.int (1+c%12)),some (.int (c / 12%(1+c%12))),some (.ref p),some (.int (0+(i:Int))),some (.str z),v3,J]/\H'=H1/\NmI smaS z j) ⟨_,_,"",zr,zr,.inl ⟨zr,zr⟩⟩ ?_ ?_⟩
      · rintro j σ H' hj ⟨v3,J,z,rfl,rfl,U⟩
        have j12:j<=12:=by lia
        refine ⟨_,rfl,_,rfl,_,_,rfl,rfl,.inl ⟨by decide,by decide⟩,_,_,rfl,rfl,_,_,rfl,rfl,⟨by show (0:Int) < 144+13*(0+(j:Int));lia,by show 144+13*(0+(j:Int)) < 1073741824;lia⟩,_,rfl,_,rfl,_,_,rfl,rfl,.inl ⟨by lia,by lia⟩,_,_,rfl,rfl,_,rfl,_,rfl,_,rfl,rfl,.inr ⟨_,rfl,_,_,rfl,rfl,.inl ⟨by lia,by lia⟩,_,_,rfl,rfl,?_⟩⟩;have hm:(0:Int) < 26+10*(if decide ((0:Int) < 0+(j:Int))=true then 1 else 0)/\26+10*(if decide ((0:Int) < 0+(j:Int))=true then 1 else 0)<=(36:Int):=by split <;> lia
        obtain ⟨d,hd,a2,a1⟩:∃ d,atI fur.cps.toList ((c / (144+13*(0+(j:Int)))+(0+(j:Int))*(0+(j:Int))+(0+(i:Int))*(if decide (V.int (0+(j:Int))=V.int (c / 12%(1+c%12)))=true then 1 else 0))%(26+10*(if decide ((0:Int) < 0+(j:Int))=true then 1 else 0)))=some d/\d∈fur.cps.toList/\(j=0 ->d∈smaS.cps.toList):=by
          by_cases ej:j=0
          · have Z:(26+10*(if decide ((0:Int) < 0+(j:Int))=true then 1 else 0):Int)=26:=by
              rw [ej];rfl
            rw [Z];obtain ⟨d,h1,h2⟩:=qvq (c / (144+13*(0+(j:Int)))+(0+(j:Int))*(0+(j:Int))+(0+(i:Int))*(if decide (V.int (0+(j:Int))=V.int (c / 12%(1+c%12)))=true then 1 else 0));exact ⟨d,h1,qka d h2,λ _=>h2⟩
          · obtain ⟨d,h1,h2⟩:=qu8 (c / (144+13*(0+(j:Int)))+(0+(j:Int))*(0+(j:Int))+(0+(i:Int))*(if decide (V.int (0+(j:Int))=V.int (c / 12%(1+c%12)))=true then 1 else 0)) hm.1 hm.2
            exact ⟨d,h1,h2,λ z=>absurd z ej⟩
        refine ⟨_,zr,_,zr,_,zr,_,zr,_,_,zr,zr,.inr ⟨_,zr,_,_,zr,zr,.inl ⟨by decide,by decide⟩,_,_,zr,zr,_,_,zr,zr,hm.1,_,_,d,zr,zr,qp5,hd,_,_,zr,zr,?_,?_⟩⟩
        · have:=Nat.le_of_eq U.len
          exact z3i (Nat.add_le_add this (qs9 d)) (z3i (show j+1<=1000 by lia) (by decide))
        · refine ⟨_,_,_,zr,zr,?_⟩
          by_cases ej:j=0
          · subst ej
            rcases U with ⟨_,rfl⟩ | ⟨c',r,_,hl,_⟩
            · exact NmI.one (a1 rfl)
            · lia
          · exact U.more ej a2
      · rintro σ H' ⟨v3,J,z,rfl,rfl,U⟩
        have q0:=z2u (c / 5) (show (2:Int)≠0 by decide);have q1:=z1m (c / 5) (show (0:Int) < 2 by decide);have i9:(i:Int)<=8:=by lia
        have r0:0<=(0+(i:Int))*(c / 5%2):=z32 (by lia) q0;have r8:(0+(i:Int))*(c / 5%2)<=8:=by
          rcases (show c / 5%2=0\/ c / 5%2=1 by lia) with h | h <;> rw [h] <;> lia
        have wr:=qsp r0 r8;have Y:z.length+(repS sev ((0+(i:Int))*(c / 5%2))).length<=20:=by
          have:=U.len;have:=wr.1
          lia
        refine ⟨_,rfl,.inl ⟨rfl,_,SqL.of e⟩,_,rfl,_,rfl,_,rfl,_,_,rfl,rfl,⟨by decide,by decide⟩,_,_,rfl,rfl,(by show (0:Int) < 2;decide),_,_,rfl,rfl,.inl ⟨by lia,by lia⟩,sev,_,rfl,rfl,r0,by lia,by decide+kernel,z,_,rfl,rfl,z3i Y (by decide),?_⟩;refine ⟨_,rfl,_,rfl,by rw [qs6];exact z3i Y (by decide),_,_,_,rfl,rfl,e,q15 (by rw [z2l];lia),?_⟩;refine ⟨_,_,_,_,O++ [cutS (z++repS sev ((0+(i:Int))*(c / 5%2))) none (some 12)],rfl,sm.set hp,by rw [q5,z2q];rfl,by rw [z1e,lw];rfl,λ y hy=> ?_⟩;rcases z2f.mp hy with hy | hy
        · exact hw y hy
        · rw [z1c.mp hy]
          exact qvr U (by lia) wr
    · rintro σ H1 ⟨v1,v2,v3,J,O,rfl,sm,e,lw,hw⟩
      exact ⟨_,zr,k p O _ sm e lw hp hw⟩
def qnf:Sp:=λ vs H Q _=>∃ c:Int,vs=[.int c]/\∀ p (ks:List Key) H',Same H H' ->H' p=some (.lst (ks.map kV)) ->ks.length=3 ->(∀ v∈ks,GoodK v) ->Q (.ref p) H'
theorem qeg (T:Txt K mg):Def P w K mg base 2 "_law_values" ["_law_cell"] qnf:=by
 refine T.qgk.ok q4v (λ vs H Q E h=> ?_) λ f cdv A outer s H vs Q E hr h=> ?_
 ·obtain ⟨c,rfl,_⟩:=h;rfl
 ·obtain ⟨c,rfl,k⟩:=h;refine ⟨_,(q63
   (qk (i:=1) q4v.nd rfl (Or.inl rfl) (qf q2j (qf q12 (qf q1t (pv 0) qb) (qf q92 qb qb)) (qf qc3 qb (qf q2j qb (qf q12 (qf q1t (pv 0) qb) qb)))))
   (qk (i:=2) q4v.nd rfl (Or.inl rfl) (qv (q8p T) hr rfl (pa_2 (qf q1t (pv 0) qb) qb)))
   (qg (qy (q11 K) (q1n (pa_3 (q1n (pa_3 (pv 1) (qy (q11 K) (pv 2) qb (λ _ _=>rfl)) (qy (q11 K) (pv 2) qb (λ _ _=>rfl)))) (q1n (pa_3 (pv 1) (qf q1a (pv 1) qb) (qy (q11 K) (pv 2) qb (λ _ _=>rfl)))) (q1n (pa_3 (pv 1) (qy (q11 K) (pv 2) qb (λ _ _=>rfl)) (qf qc3 (qf qc3 qb (pv 1)) qb))))) (qf q12 (pv 0) qb) (λ _ _=>rfl)))),?_⟩
  have q0:=z2u (c / 3) (show (2:Int)≠0 by decide);have q1:=z1m (c / 3) (show (0:Int) < 2 by decide);refine ⟨_,rfl,_,_,rfl,rfl,⟨by decide,by decide⟩,_,_,rfl,rfl,⟨by decide,by decide,by decide⟩,_,_,rfl,rfl,(by show (0:Int) < 10^30;decide),_,rfl,_,_,rfl,rfl,⟨by decide,by decide⟩,_,_,rfl,rfl,(by show (0:Int) < 2;decide),_,_,rfl,rfl,.inl ⟨by decide,by decide⟩,_,_,rfl,rfl,_,_,rfl,rfl,.inr ⟨by show -(2^64) < 1 - 2*(c / 3%2);lia,by show 1 - 2*(c / 3%2) < 2^64;lia⟩,?_⟩;refine ⟨_,zr,_,_,zr,zr,⟨by decide,by decide⟩,_,2,zr,by decide,by decide,λ wp W H1 s1 hw lw _ hW=> ?_⟩;obtain ⟨O,U,rfl⟩:∃ O U,W=[O,U]:=by
   match W,lw with
   | [O,U],_=>exact ⟨_,_,rfl⟩
  have o0:=hW O (by simp);have o1:=hW U (by simp);refine ⟨_,rfl,_,rfl,_,_,_,_,rfl,rfl,SqL.of hw,rfl,_,rfl,_,_,_,_,rfl,rfl,SqL.of hw,rfl,by show 3<=sizeLine;decide,λ l1 h1=> ?_⟩;have u1:=qd (o:=HO.lst [V.int (c / 6%10^30*(1 - 2*(c / 3%2))),V.str O,V.str U]) h1;have Y:=u1 _ _ hw;refine ⟨_,rfl,_,rfl,_,_,rfl,rfl,_,rfl,_,_,_,_,rfl,rfl,SqL.of Y,rfl,by show 3<=sizeLine;decide,λ l2 h2=> ?_⟩;have u2:=qd (o:=HO.lst [V.int (c / 6%10^30*(1 - 2*(c / 3%2))),V.int (c / 6%10^30*(1 - 2*(c / 3%2))+1),V.str O]) h2;have a2:=u2 _ _ Y;refine ⟨_,rfl,_,rfl,_,_,_,_,rfl,rfl,SqL.of a2,rfl,_,rfl,_,_,rfl,rfl,_,_,rfl,rfl,by show 3<=sizeLine;decide,λ l3 h3=> ?_⟩;have u3:=qd (o:=HO.lst [V.int (c / 6%10^30*(1 - 2*(c / 3%2))),V.str O,V.int (0 - c / 6%10^30*(1 - 2*(c / 3%2)) - 1)]) h3;refine ⟨by show 3<=sizeLine;decide,λ L hL=> ?_⟩;have Z:=qd (o:=HO.lst [V.ref l1,.ref l2,.ref l3]) hL;obtain ⟨v,a1,J⟩:=q3l (xs:=[V.ref l1,.ref l2,.ref l3]) (i:=c%3) (z2u _ (by decide)) (z1m _ (by decide));refine ⟨_,rfl,_,_,rfl,rfl,(by show (0:Int) < 3;decide),_,_,_,v,rfl,rfl,SqL.of q5,a1,?_⟩;have sA:=s1.trans (u1.trans (u2.trans (u3.trans Z)));simp only [z35,z2d,or_false] at J;rcases J with rfl | rfl | rfl
  ·refine k l1 [.inl (c / 6%10^30*(1 - 2*(c / 3%2))),.inr O,.inr U] _ sA ((u2.trans (u3.trans Z)) _ _ q5) rfl λ v J=> ?_;simp only [z35,z2d,or_false] at J;rcases J with rfl | rfl | rfl
   ·exact True.intro
   ·exact o0
   ·exact o1
  ·refine k l2 [.inl (c / 6%10^30*(1 - 2*(c / 3%2))),.inl ((c / 6%10^30*(1 - 2*(c / 3%2)))+1),.inr O] _ sA ((u3.trans Z) _ _ q5) rfl λ v J=> ?_;simp only [z35,z2d,or_false] at J;rcases J with rfl | rfl | rfl
   ·exact True.intro
   ·exact True.intro
   ·exact o0
  ·refine k l3 [.inl (c / 6%10^30*(1 - 2*(c / 3%2))),.inr O,.inl (0 - c / 6%10^30*(1 - 2*(c / 3%2)) - 1)] _ sA (Z _ _ q5) rfl λ v J=> ?_;simp only [z35,z2d,or_false] at J;rcases J with rfl | rfl | rfl
   ·exact True.intro
   ·exact o0
   ·exact True.intro
def qsq (K:PySem.W.Frag):Sp:=λ vs H Q _=>∃ (v:V) (d:PyData),vs=[v]/\Dat K H d v/\Q (.bl (qi4 d)) H
theorem qg5 (T:Txt K mg):Def P w K mg base 1 "_law_whole" ["_law_found"] (qsq K):=by
 refine T.qiu.ok qfz (λ vs H Q E h=> ?_) λ f cdv A outer s H vs Q E hr h=> ?_
 ·obtain ⟨v,d,rfl,_⟩:=h;rfl
 ·obtain ⟨v,d,rfl,hd,k⟩:=h;refine ⟨_,(qe (qg (q6e (qt (q26 K) rfl T.q1d q17 (pa_2 (pv 0) (q41 rfl T.b_int qcb))) (q3z (qlx (qt (q26 K) rfl T.q1d q17 (pa_2 (pv 0) (q41 rfl T.q9u q7q)))))))),?_⟩;cases hd with
  | bl b=>exact ⟨_,rfl,_,_,_,rfl,.bl b,by decide,_,rfl,q16 rfl ⟨_,rfl,_,_,_,rfl,.bl b,by decide,_,rfl,k⟩⟩
  | int i=>exact ⟨_,rfl,_,_,_,rfl,.int i,by decide,_,rfl,q16 rfl ⟨_,rfl,_,_,_,rfl,.int i,by decide,_,rfl,k⟩⟩
  | non=>exact ⟨_,rfl,_,_,_,rfl,.non,by decide,_,rfl,qj rfl k⟩
  | str a b=>exact ⟨_,rfl,_,_,_,rfl,.str a b,by decide,_,rfl,qj rfl k⟩
  | lst a b=>exact ⟨_,rfl,_,_,_,rfl,.lst a b,by decide,_,rfl,qj rfl k⟩
  | tup a b=>exact ⟨_,rfl,_,_,_,rfl,.tup a b,by decide,_,rfl,qj rfl k⟩
def isTx:Key ->Bool
 | .inl _=>false
 | .inr _=>true
def lvD (k:Key):PyData:= .tuple [.bool (isTx k),valD k]
def lkD (p:PR):PyData:= .tuple [.str p.1,.list (p.2.map lvD)]
theorem q8n (a b:Bool):PyData.eqv (.bool a) (.bool b)=decide (a=b):=by cases a <;> cases b <;> rfl
theorem qng:∀ a b:Key,PyData.eqv (lvD a) (lvD b)=decide (a=b)
 | .inl i,.inl j=>by
  show (PyData.eqv (.bool false) (.bool false)&&(PyData.eqv (.int i) (.int j)&&true))=_;rw [q8n,q3e];by_cases h:i=j <;> simp [h]
 | .inl i,.inr y=>by
  show (PyData.eqv (.bool false) (.bool true)&&(PyData.eqv (.int i) (.str y)&&true))=_;rw [q8n];simp
 | .inr x,.inl j=>by
  show (PyData.eqv (.bool true) (.bool false)&&(PyData.eqv (.str x) (.int j)&&true))=_;rw [q8n];simp
 | .inr x,.inr y=>by
  show (PyData.eqv (.bool true) (.bool true)&&(PyData.eqv (.str x) (.str y)&&true))=_;rw [q8n,q4w];by_cases h:x=y <;> simp [h]
theorem qvs:∀ a b:Key,a≠b ->ltD? (lvD a) (lvD b)=some (befK a b)
 | .inl i,.inl j,h=>by
  show lexD? [.bool false,.int i] [.bool false,.int j]=_;rw [lexD?,if_pos (by decide),lexD?,q3e,if_neg (by simpa using λ z=>h (congrArg Sum.inl z)),ltD?];rfl
 | .inl i,.inr y,_=>by
  show lexD? [.bool false,.int i] [.bool true,.str y]=_;rw [lexD?,if_neg (by decide),ltD?];rfl
 | .inr x,.inl j,_=>by
  show lexD? [.bool true,.str x] [.bool false,.int j]=_;rw [lexD?,if_neg (by decide),ltD?];rfl
 | .inr x,.inr y,h=>by
  show lexD? [.bool true,.str x] [.bool true,.str y]=_;rw [lexD?,if_pos (by decide),lexD?,q4w,if_neg (by simpa using λ z=>h (congrArg Sum.inr z)),ltD?];rfl
theorem qnh:∀ a b:List Key,lexD? (a.map lvD) (b.map lvD)=some (qa6 a b)
 | [],[]=>by rw [z3l,lexD?];rfl
 | [],_::_=>by rw [z3l,z33,lexD?];rfl
 | _::_,[]=>by rw [z3l,z33,lexD?];rfl
 | x::a,y::b=>by
  rw [z33,z33,lexD?,qng,qa6,Tim.lexB];by_cases h:x=y
  ·subst h;rw [if_pos (by simp),if_pos rfl];exact qnh a b
  ·rw [if_neg (by simpa using h),if_neg h];exact qvs x y h
theorem qke:∀ a b:List Key,PyData.eqvAll (a.map lvD) (b.map lvD)=decide (a=b)
 | [],[]=>by rw [z3l,PyData.eqvAll];rfl
 | [],_::_=>by rw [z3l,z33,PyData.eqvAll];rfl
 | _::_,[]=>by rw [z3l,z33,PyData.eqvAll];rfl
 | x::p,y::q=>by
  rw [z33,z33,PyData.eqvAll,qng,qke p q];by_cases h1:x=y
  ·by_cases h2:p=q
   ·rw [z2w h1,z2w h2,z2w (by rw [h1,h2])];rfl
   ·rw [z2w h1,z2h h2,z2h (λ e=>h2 (List.cons.inj e).2)];rfl
  ·rw [z2h h1,z2h (λ e=>h1 (List.cons.inj e).1)];rfl
theorem qni (a b:PR):ltD? (lkD a) (lkD b)=some (prLt a b):=by
 show lexD? [.str a.1,.list (a.2.map lvD)] [.str b.1,.list (b.2.map lvD)]=some (prLt a b);rw [lexD?,q4w];unfold prLt;by_cases e:a.1=b.1
 ·rw [if_pos (z2w e),if_pos e,lexD?];have er:PyData.eqv (.list (a.2.map lvD)) (.list (b.2.map lvD))=decide (a.2=b.2):=by
   rw [PyData.eqv];exact qke a.2 b.2
  rw [er];by_cases e2:a.2=b.2
  ·rw [if_pos (z2w e2),lexD?,e2];rw [q7z.irr]
  ·rw [if_neg (by rw [z2h e2];exact z1b),ltD?];exact qnh a.2 b.2
 ·rw [if_neg (by rw [z2h e];exact z1b),if_neg e,ltD?];rfl
theorem qnj (ks:List Key):PyData.depthAll (ks.map lvD)<=1:=by
 induction ks with
 | nil=>exact z3s _
 | cons k ks ih=>exact Nat.max_le.mpr ⟨by cases k <;> exact z3p _,ih⟩
theorem qic (p:PR):(lkD p).depth<=3:=by
 have:=qnj p.2;show max 0 (max (PyData.depthAll (p.2.map lvD)+1) 0)+1<=3
 lia
def qsr (K:PySem.W.Frag):Sp:=λ vs H Q _=>∃ (b:Addr) (p:PR),vs=[.ref b]/\NAt H (pN p) (.ref b)/\q2z p/\∀ v H',Same H H' ->Dat K H' (lkD p) v ->Q v H'
theorem qat (T:Txt K mg):Def P w K mg base 1 "_law_key" ["_law_pair"] (qsr K):=by
 refine T.qln.ok qjc (λ vs H Q E h=> ?_) λ f cdv A outer s H vs Q E hr h=> ?_
 ·obtain ⟨b,p,rfl,_⟩:=h;rfl
 ·obtain ⟨b,p,rfl,hb,g,k⟩:=h;obtain ⟨q,h1,h2⟩:=pr_at.mp hb;have g3:=g.2.1;refine ⟨_,(qe (qg (q1x (pa_2 (qy (q21 K) (pv 0) qb (λ _ _=>rfl)) (q2f (N:=["_law_value"]) (caps:=[none]) rfl (by with_unfolding_all rfl) (q69 K (qy (q21 K) (pv 0) qb (λ _ _=>rfl))) (λ _ _ _ _ _=>(qm (i:=0) (show (["_law_value"]:List Str).Nodup by decide+kernel) rfl (Or.inl rfl))) (λ _ _ _ _ _=>q37) (λ _ _ _ _ _=>(q1x (pa_2 (qt (q26 K) rfl T.q1d q17 (pa_2 (pv 0) (q41 rfl T.b_str qtq))) (pv 0))))))))),?_⟩;refine ⟨_,zr,_,_,_,_,zr,zr,SqT.of h1,q1b (j:=0) rfl,?_⟩;refine ⟨_,zr,_,_,_,_,zr,zr,SqT.of h1,q1b (j:=1) rfl,q,zr,⟨_,SqT.of h2⟩,λ D hD=> ?_⟩;refine q2g (p.2.map kV).length (λ i σ' H'=>(∃ v,σ'=[v])/\Same H H'/\∃ J,H' D=some (.lst J)/\∀ H2,(∀ b o,b≠D ->H' b=some o ->H2 b=some o) ->Dats K H2 ((p.2.take i).map lvD) J) ⟨⟨_,zr⟩,qd hD,[],q5,λ _ _=> .nil⟩ (λ i σ' H' hi p=> ?_) (λ σ' H' p=>⟨?_,?_⟩) (λ i σ' H' hi p x H2 y=> ?_)
  ·obtain ⟨_,sm,_⟩:=p;exact ⟨_,_,SqT.of (sm _ _ h2),z0a hi⟩
  ·obtain ⟨_,sm,_⟩:=p;exact ⟨_,SqT.of (sm _ _ h2),z3p _⟩
  ·obtain ⟨_,sm,J,e,hd⟩:=p;rw [z2l,z2e] at hd;refine ⟨by show 2<=sizeLine;decide,λ x hx=> ?_⟩;have O:=qd (o:=HO.tup [V.str p.1,.ref D]) hx;exact k _ _ (sm.trans O) (.tup (SqT.of q5) (.cons (.str _ (GoodK.tx (k:= .inr p.1) g.1).2) (.cons (.lst (SqL.of (O _ _ e)) (hd _ λ b o _ hb=>O b o hb)) .nil)))
  ·obtain ⟨⟨v,rfl⟩,sm,J,e,hd⟩:=p;obtain ⟨rfl,hx⟩:=y;have Y:=hx _ (SqT.of (sm _ _ h2));rw [z1s] at Y;obtain ⟨kk,hk,rfl⟩:=z0l.mp Y;have gk:=g.2.2 kk (z11 hk);have Z:J.length=min i p.2.length:=by
    rw [<- qbi (hd _ λ b o _ h=>h),z2l,z22]
   have fin:∀ q,H2 q=none ->∃ l,upd H2 q (.tup [.bl (isTx kk),kV kk]) D=some (.lst l)/\l.length < sizeLine/\(∃ v,[some (kV kk)]=[v])/\Same H (upd (upd H2 q (.tup [.bl (isTx kk),kV kk])) D (.lst (l++ [.ref q])))/\∃ J,upd (upd H2 q (.tup [.bl (isTx kk),kV kk])) D (.lst (l++ [.ref q])) D=some (.lst J)/\∀ H3,(∀ b o,b≠D ->upd (upd H2 q (.tup [.bl (isTx kk),kV kk])) D (.lst (l++ [.ref q])) b=some o ->H3 b=some o) ->Dats K H3 ((p.2.take (i+1)).map lvD) J:=λ q hq=>by
    have O:=qd (o:=HO.tup [.bl (isTx kk),kV kk]) hq;have U:q≠D:=λ z=>by
     rw [z,e] at hq;cases hq
    refine ⟨J,O _ _ e,by rw [Z];exact q15 (by lia),⟨_,rfl⟩,(sm.trans O).set hD,J++ [.ref q],q5,λ H3 h3=> ?_⟩;rw [z31,hk,z2q];refine q9f (hd H3 λ b o hb ho=>h3 b o hb ?_) (.tup (SqT.of (h3 q _ U (by rw [qh U,q5]))) (.cons (.bl _) (.cons (qdy gk.ok) .nil)));rw [qh hb];exact O b o ho
   cases kk with
   | inl n=>exact ⟨_,rfl,_,_,_,rfl,.int n,by decide,_,rfl,by show 2<=sizeLine;decide,fin⟩
   | inr z=>exact ⟨_,rfl,_,_,_,rfl,.str z (GoodK.tx gk).2,by decide,_,rfl,by show 2<=sizeLine;decide,fin⟩
def YP (Y:Tab):Prop:=∀ kv∈Y,1<=kv.2/\kv.2<=10^30
def qpo:Sp:=λ vs H Q _=>∃ (c:Int) (wa:Addr) (ws:List Str),vs=[.int c,.ref wa]/\H wa=some (.lst (ws.map V.str))/\ws.length=5/\(∀ z∈ws,txtB smaS z=true)/\
 ∀ l W H',Same H H' ->H l=none ->WA H' l W ->YSm ws W ->YP W ->Q (.ref l) H'
theorem qjf (T:Txt K mg):Def P w K mg base 2 "_law_why" ["_law_cell","_law_names"] qpo:=by
 refine T.qll.ok q3o (λ vs H Q E h=> ?_) λ f cdv A outer s H vs Q E hr h=> ?_
 ·obtain ⟨c,wa,ws,rfl,_⟩:=h;rfl
 ·obtain ⟨c,wa,ws,rfl,b8,wl,c0,k⟩:=h;refine ⟨_,(q9z
   (qk (i:=2) q3o.nd rfl (Or.inr rfl) (qv (qef T) hr rfl (pa_2 (pv 0) qb)))
   (qk (i:=3) q3o.nd rfl (Or.inr rfl) qoj)
   (q23 PassesOwn.never rfl (q54 rfl T.q83 (pa_1 (qy (q11 K) (q1n (pa_6 qb qb qb qb qb qb)) (qf q12 (qy (q11 K) (pv 2) qb (λ _ _=>rfl)) qb) (λ _ _=>rfl)))) (qm (i:=4) q3o.nd rfl (Or.inr rfl)) (q31
   (qk (i:=5) q3o.nd rfl (Or.inl rfl) (qt (qfu K) rfl T.q4x q3x (pa_1 (q2f (N:=["_law_j","_law_names","_law_s","_law_k"]) (caps:=[none,some 1,some 2,some 4]) rfl (by with_unfolding_all rfl) (q54 rfl T.q83 (pa_1 (qf q12 (qy (q11 K) (pv 2) (qf q1a qb (pv 4)) (λ _ _=>rfl)) qb))) (λ _ _ _ _ _=>(qm (i:=0) (show (["_law_j","_law_names","_law_s","_law_k"]:List Str).Nodup by decide+kernel) rfl (Or.inl rfl))) (λ _ _ _ _ _=>q37) (λ _ _ _ _ _=>(qy (q11 K) (pv 1) (qf q12 (qy (q11 K) (pv 2) (qf q1a (qf q1a qb (qf q2j qb (pv 3))) (pv 0)) (λ _ _=>rfl)) qb) (λ _ _=>rfl)))))))
   (q9x (q3c hr) (pv 3) (q25 (q3k K) rfl T.q82 q6g (pa_1 (pv 5))) (qf q1a qb (qf q2j (qf q12 (qf q1a (pv 0) (qy (q11 K) (pv 2) (qf q1a qb (pv 4)) (λ _ _=>rfl))) (qf q92 qb qb)) (qf q12 (qy (q11 K) (pv 2) qb (λ _ _=>rfl)) qb))) rfl)))
   (qg (q2f (N:=["_law_product","_law_many"]) (caps:=[none,some 3]) rfl (by with_unfolding_all rfl) (q1l K (qt (qfv hr.units rfl K) rfl T.q4x q3x (pa_1 (pv 3)))) (λ _ _ _ _ _=>(qm (i:=0) (show (["_law_product","_law_many"]:List Str).Nodup by decide+kernel) rfl (Or.inl rfl))) (λ _ _ _ _ _=>q37) (λ _ _ _ _ _=>(q1x (pa_2 (pv 0) (q68 (q3c hr) (pv 1) (pv 0) (λ _ _=>rfl)))))))),?_⟩
  refine ⟨_,zr,c,3,zr,λ p ns H1 s1 hp hl hpn=> ?_⟩;refine λ d hd=> ?_;have s2:=qd (o:=HO.dT []) hd;have S2:=s1.trans s2;have d6:=s2 _ _ hp;have b9:=S2 _ _ b8;have d0:=s1.free hd;have dW:upd H1 d (.dT []) d=some (encD []):=q5;generalize upd H1 d (.dT [])=H2 at*;refine ⟨by show 6<=sizeLine;decide,λ L hL=> ?_⟩;have s3:=qd (o:=HO.lst [V.int 1,V.int 2,V.int 3,V.int 0,V.int 2,V.int 1]) hL;have a0:atI (ns.map V.int) 0=some (V.int (ns.getD 0 0)):=qk7 (k:=0) (by lia);obtain ⟨v,c8,hv⟩:=q3l (xs:=[V.int 1,V.int 2,V.int 3,V.int 0,V.int 2,V.int 1]) (i:=ns.getD 0 0%6) (z2u _ (by decide)) (z1m _ (by decide));obtain ⟨m,rfl,m0,m3⟩:∃ m:Int,v= .int m/\0<=m/\m<=3:=by
   simp only [z35,z2d,or_false] at hv;rcases hv with rfl | rfl | rfl | rfl | rfl | rfl
   ·exact ⟨1,zr,by decide,by decide⟩
   ·exact ⟨2,zr,by decide,by decide⟩
   ·exact ⟨3,zr,by decide,by decide⟩
   ·exact ⟨0,zr,by decide,by decide⟩
   ·exact ⟨2,zr,by decide,by decide⟩
   ·exact ⟨1,zr,by decide,by decide⟩
  have S3:=S2.trans s3;have e3:=q5 (H:=H2) (a:=L) (o:=HO.lst [V.int 1,V.int 2,V.int 3,V.int 0,V.int 2,V.int 1]);have b6:=s3 _ _ d6;have f0:=s3 _ _ b9;have c5:=s3 _ _ dW;refine ⟨_,rfl,_,_,_,_,rfl,rfl,SqL.of b6,a0,_,_,rfl,rfl,(by show (0:Int) < 6;decide),_,_,_,_,rfl,rfl,SqL.of e3,c8,?_⟩;generalize upd H2 L (.lst [V.int 1,V.int 2,V.int 3,V.int 0,V.int 2,V.int 1])=H3 at*;refine ⟨_,rfl,by lia,by lia,q6z (lo:=0) (n:=m.toNat) (λ i σ G=>∃ (v1 v2:Option V) (W:Tab),σ=[some (.int c),some (.ref wa),some (.ref p),some (.ref d),v1,v2]/\Same H G/\G p=some (.lst (ns.map V.int))/\G d=some (encD W)/\(W.map (·.1)).Nodup/\W.length<=i/\∀ kv∈W,1<=kv.2/\kv.2<=10^30/\kv.1.length<=3/\∀ z∈kv.1,z∈ws) ⟨none,none,[],rfl,S3,b6,c5,z30,z3p _,λ _ z=>nomatch z⟩ ?_ ?_⟩
  ·rintro i σ G hi ⟨v1,v2,W,rfl,sg,a1,a8,Z,a6,a2⟩;have i3:i < 3:=by lia
   have e7:=sg _ _ b8;have a3:∀ j:Nat,j < 24 ->atI (ns.map V.int) (j:Int)=some (V.int (ns.getD j 0)):=λ j hj=>qk7 (k:=j) (by lia);have e1:(1:Int)+(0+(i:Int))=((1+i:Nat):Int):=by lia
   have c6:(13:Int)+(0+(i:Int))=((13+i:Nat):Int):=by lia
   have n0:=z2u (ns.getD (1+i) 0) (show (4:Int)≠0 by decide);have n4:=z1m (ns.getD (1+i) 0) (show (0:Int) < 4 by decide);refine ⟨_,rfl,_,rfl,_,_,rfl,rfl,_,_,_,_,rfl,rfl,SqL.of a1,by rw [e1];exact a3 (1+i) (by lia),_,_,rfl,rfl,(by show (0:Int) < 4;decide),_,rfl,by lia,by lia,λ D hD=> ?_⟩;refine q2g (ns.getD (1+i) 0%4).toNat (λ j σ' H'=>(∃ v,σ'=[v,some (.ref wa),some (.ref p),some (.int (0+(i:Int)))])/\Same G H'/\∃ ys:List Str,H' D=some (.lst (ys.map V.str))/\ys.length=j/\∀ y∈ys,y∈ws) ⟨⟨_,rfl⟩,qd hD,[],q5,rfl,λ _ z=>nomatch z⟩ (λ i σ' H' hi p=>hi) (λ σ' H' p=>⟨z3p _,?_⟩) (λ j σ' H' hj p x H2 y=> ?_)
   ·obtain ⟨_,sm,ys,e,yl,hy⟩:=p;have yl3:ys.length<=3:=by lia
    refine ⟨_,ys,zr,.inl (SqL.of e),by lia,λ l d3=> ?_⟩;have u1:=qd (o:=HO.lst ((Tim.srt L2.strLt ys).map V.str)) d3;have f2:(Tim.srt L2.strLt ys).length=ys.length:=(Tim.q14 L2.strLt _).length_eq;have c4:∀ z∈Tim.srt L2.strLt ys,z∈ws:=λ z hz=>hy z ((Tim.q14 L2.strLt _).mem_iff.mp hz);have uA:=sm.trans u1;have d4:=q5 (H:=H') (a:=l) (o:=HO.lst ((Tim.srt L2.strLt ys).map V.str));have b7:=uA _ _ a1;generalize upd H' l (.lst ((Tim.srt L2.strLt ys).map V.str))=H5 at*;generalize Tim.srt L2.strLt ys=S at*;have q0:=z2u (ns.getD 16 0) (show (2:Int)≠0 by decide);have q1:=z1m (ns.getD 16 0) (show (0:Int) < 2 by decide);refine ⟨_,rfl,_,rfl,_,rfl,_,_,rfl,rfl,_,_,_,_,rfl,rfl,SqL.of b7,by rw [c6];exact a3 (13+i) (by lia),_,_,rfl,rfl,_,_,rfl,rfl,⟨by decide,by decide,by decide⟩,_,_,rfl,rfl,(by show (0:Int) < 10^30;decide),_,rfl,_,_,_,_,rfl,rfl,SqL.of b7,a3 16 (by decide),_,_,rfl,rfl,(by show (0:Int) < 2;decide),_,_,rfl,rfl,.inr ⟨by show -(2^64) < ns.getD 16 0%2;lia,by show ns.getD 16 0%2 < 2^64;lia⟩,_,_,rfl,rfl,?_⟩;have w0:=z2u (c+ns.getD (13+i) 0) (show (10^30:Int)≠0 by decide);have w1:=z1m (c+ns.getD (13+i) 0) (show (0:Int) < 10^30 by decide);have b0:1<=1+(c+ns.getD (13+i) 0)%10^30*(ns.getD 16 0%2)/\1+(c+ns.getD (13+i) 0)%10^30*(ns.getD 16 0%2)<=10^30:=by
     rcases (show ns.getD 16 0%2=0\/ ns.getD 16 0%2=1 by lia) with h | h <;> rw [h] <;> lia
    obtain ⟨N,eN⟩:∃ N,N=1+(c+ns.getD (13+i) 0)%10^30*(ns.getD 16 0%2):=⟨_,rfl⟩;rw [<- eN] at b0;refine ⟨_,zr,_,zr,_,_,zr,.inl ⟨SqL.of d4,λ t ht=> ?_⟩⟩;have u2:=qd (o:=HO.tup (S.map V.str)) ht;have e5:upd H5 t (.tup (S.map V.str)) t=some (.tup ((S.map (Sum.inr:Str ->Key)).map kV)):=by
     rw [q5,qdf]
    have uB:=uA.trans u2;generalize upd H5 t (.tup (S.map V.str))=H6 at*;have b5:((encI W).map λ kv=>(kv.1.map (Sum.inr:Str ->Key),kv.2)).length < sizeLine:=by rw [z2l];unfold encI;rw [z2l];exact q15 (by lia)
    refine ⟨d,_,zr,DPut.t (uB _ _ a8) e5 b5,?_⟩;have d7:p≠d:=λ z=>by
     rw [z,a8] at a1;cases a1
    refine ⟨_,_,putA W S N,rfl,(sg.trans uB).set d0,by rw [qh d7];exact uB _ _ a1,by rw [q5,qp4,eN];rfl,qu7 Z _ _,z3i (qs8 _ _ _) (z2c a6),λ kv Y=> ?_⟩;rcases qp8 Y with h | h
    ·exact a2 kv h
    ·rw [h];exact ⟨b0.1,b0.2,by show S.length<=3;lia,c4⟩
   ·obtain ⟨⟨v,rfl⟩,sm,ys,e,yl,hy⟩:=p;obtain ⟨rfl,rfl⟩:=y;have e4:(4:Int)+3*(0+(i:Int))+(0+(j:Int))=((4+3*i+j:Nat):Int):=by lia
    obtain ⟨v2,e6,d5⟩:=q3l (xs:=ws.map V.str) (i:=ns.getD (4+3*i+j) 0%5) (z2u _ (by decide)) (by rw [z2l,wl];exact z1m _ (by decide));obtain ⟨z,hz,rfl⟩:=z3m.mp d5;refine ⟨_,rfl,_,rfl,_,rfl,_,_,rfl,rfl,.inl ⟨by decide,by decide⟩,_,_,rfl,rfl,_,rfl,_,_,rfl,rfl,_,_,_,_,rfl,rfl,SqL.of (sm _ _ a1),by rw [e4];exact a3 (4+3*i+j) (by lia),_,_,rfl,rfl,(by show (0:Int) < 5;decide),_,_,_,_,rfl,rfl,SqL.of (sm _ _ e7),e6,?_⟩;refine ⟨_,e,by rw [z2l,yl];exact q15 (by lia),⟨_,rfl⟩,sm.set hD,ys++ [z],by rw [q5,z2q];rfl,by rw [z1e,yl];rfl,λ y e9=> ?_⟩;rcases z2f.mp e9 with h | h
    ·exact hy y h
    ·rw [z1c.mp h];exact hz
  ·rintro σ G ⟨v1,v2,W,rfl,sg,a1,hW,Z,a6,a2⟩;refine ⟨_,rfl,d,encI W,rfl,hW,by unfold encI;rw [z2l];lia,λ l zs hl hz=> ?_⟩;have ek:(encI W).map (·.1)=W.map (·.1):=by unfold encI;rw [z3o];rfl
   rw [ek] at hz;have u1:=qd (o:=HO.lst zs) hl;refine ⟨l,zr,⟨_,SqL.of q5⟩,λ D2 a5=> ?_⟩;have d8:zs.length=(Tim.srt q1j (W.map (·.1))).length:=Paired.length hz;have a4:G D2=none:=u1.free a5;have c7:(Tim.srt q1j (W.map (·.1))).length=W.length:=by
    rw [(Tim.q14 q1j _).length_eq,z2l]
   have O:∀ p∈Tim.srt q1j (W.map (·.1)),p∈W.map (·.1):=λ p hp=>(Tim.q14 q1j _).mem_iff.mp hp;have hSr:(Tim.srt q1j (W.map (·.1))).Pairwise λ a b=>q1j a b=true:=q9g q8c (Tim.q7s q8c _) ((Tim.q14 q1j _).nodup_iff.mpr Z);generalize Tim.srt q1j (W.map (·.1))=S at*;refine q2g zs.length (λ i σ' H'=>(∃ v,σ'=[v,some (.ref d)])/\Same (upd G l (.lst zs)) H'/\∃ ys,H' D2=some (.lst ys)/\(∀ H2,KeepT H' H2 ->Paired (PlAt H2) ys ((S.take i).map λ k=>(k,(getA W k).getD 0)))/\ys.length=i) ⟨⟨_,zr⟩,qd a5,[],q5,λ _ _=> .nil,zr⟩ (λ i σ' H' hi p=> ?_) (λ σ' H' p=>⟨?_,?_⟩) (λ i σ' H' hi p x H2 y=> ?_)
   ·obtain ⟨_,sm,_⟩:=p;exact ⟨_,zs[i],SqL.of (sm _ _ q5),z0a hi⟩
   ·obtain ⟨_,sm,_⟩:=p;exact ⟨_,SqL.of (sm _ _ q5),z3p _⟩
   ·obtain ⟨_,sm,ys,e,c1,yl⟩:=p;rw [d8,z2e] at c1;refine k D2 _ H' (sg.trans (u1.trans sm)) (sg.free a4) ⟨ys,e,c1 H' λ _ _ z=>z,by rw [z2l];lia,λ kv Y=> ?_⟩ (λ kv Y=> ?_) λ kv Y=> ?_
    ·obtain ⟨pr,U,rfl⟩:=z3m.mp Y;obtain ⟨n,hn,J⟩:=q8m Z (O pr U);obtain ⟨b1,b2,b3,b4⟩:=a2 _ J;rw [hn];refine ⟨λ z hz=>(GoodK.tx (k:= .inr z) (c0 z (b4 z hz))).2,z3i b3 (by decide),z3d (by decide) b1,z3d b2 (by decide)⟩
    ·obtain ⟨pr,U,rfl⟩:=z3m.mp Y;obtain ⟨n,hn,J⟩:=q8m Z (O pr U);obtain ⟨b1,b2,b3,b4⟩:=a2 _ J;rw [hn];refine ⟨b3,z1l b2 (by decide),λ z hz=>⟨b4 z hz,z3i (q4f (c0 z (b4 z hz))).2.1 (by decide)⟩⟩
    ·obtain ⟨pr,U,rfl⟩:=z3m.mp Y;obtain ⟨n,hn,J⟩:=q8m Z (O pr U);obtain ⟨b1,b2,b3,b4⟩:=a2 _ J;rw [hn];exact ⟨b1,b2⟩
   ·obtain ⟨⟨v,rfl⟩,sm,ys,e2,e0,yl⟩:=p;obtain ⟨rfl,hx⟩:=y;have e8:=hx _ (SqL.of (sm _ _ q5));obtain ⟨pr,U,b,rfl,hb⟩:=q1h hz e8;obtain ⟨n,hn,J⟩:=q8m Z (O pr (z11 U));have a7:=sm _ _ (u1 _ _ hb);have a9:DGet H2 d (.ref b) (some (.int n)):=by
     have e1:(some (V.int n))=valV ((encI W).map λ kv=>(kv.1.map (Sum.inr:Str ->Key),kv.2)) (pr.map Sum.inr):=by rw [qp3,hn];rfl
     rw [e1];exact DGet.t (sm _ _ (u1 _ _ hW)) (by rw [qdf];exact a7)
    refine ⟨_,rfl,_,rfl,_,rfl,d,_,rfl,a9,by show 2<=sizeLine;decide,λ q hq=> ?_⟩;have u3:=qd (o:=HO.tup [.ref b,.int n]) hq;have d9:q≠D2:=λ z=>by
     rw [z,e2] at hq;cases hq
    have c9:b≠D2:=λ z=>by
     rw [z,a4] at hb;cases hb
    refine ⟨_,u3 _ _ e2,by rw [yl];exact q15 (by lia),⟨_,rfl⟩,(sm.trans u3).set a5,ys++ [.ref q],q5,λ H5 h5=> ?_,by rw [z1e,yl];rfl⟩;rw [z31,U,z2q];refine qar (e0 H5 (((Same.keepT u3).upd (u3 _ _ e2)).trans h5)) ⟨q,b,rfl,h5 q _ ?_,h5 b _ (by rw [qh c9];exact u3 _ _ a7)⟩;rw [qh d9,q5];show some (HO.tup [V.ref b,V.int n])=some (HO.tup [V.ref b,V.int ((getA W pr).getD 0)]);rw [hn];rfl
def q65:K4 ->Int
 | .counts=>0
 | .costs=>1
 | .trusts _=>2
 | .truths=>3
def Top4 (k:K4) (t:Int):Prop:=0<=t/\∀ t',k= .trusts t' ->t'=t
def qum:Sp:=λ vs H Q _=>∃ (k:K4) (t c:Int),vs=[.int (q65 k),.int t,.int c]/\Top4 k t/\∀ x H',Same H H' ->Ok4 k x ->Lt4 (10^15) k x ->Q x H'
theorem qg6 (T:Txt K mg):Def P w K mg base 1 "_law_price" ["_law_way","_law_top","_law_cell"] qum:=by
 refine T.qit.ok qg0 (λ vs H Q E h=> ?_) λ f cdv A outer s H vs Q E hr h=> ?_
 ·obtain ⟨k,t,c,rfl,_⟩:=h;rfl
 ·obtain ⟨k,t,c,rfl,O,kk⟩:=h;refine ⟨_,(q9z
   (qx (qr q1s (pv 0) qb (qo _)) (qe (qg (qf q12 (pv 2) (qf q92 qb qb)))) ql)
   (qx (qr q1s (pv 0) qb (qo _)) (q31
   (qx (qr q1s (qf q12 (pv 2) qb) qb (qo _)) (qe (qg q1u)) ql)
   (qg (qf q2j (qf q12 (qf q1t (pv 2) qb) (qf q92 qb qb)) (qf qc3 qb (qf q2j qb (qf q12 (pv 2) qb)))))) ql)
   (qx (qr q1s (pv 0) qb (qo _)) (qe (qg (qy (q11 K) (q1n (pa_4 (qf q12 (qf q1t (pv 2) qb) (qf q1a (pv 1) qb)) (pv 1) qb (qf q12 (qf q1t (pv 2) qb) (qf q1a (pv 1) qb)))) (qf q12 (pv 2) qb) (λ _ _=>rfl)))) ql)
   (qg (q30 q1s (qf q12 (pv 2) qb) qb (qo _)))),?_⟩
  cases k with
  | counts=>
   refine ⟨_,zr,zr,_,zr,q16 rfl ?_⟩;refine ⟨_,rfl,_,_,rfl,rfl,⟨by decide,by decide,by decide⟩,_,_,rfl,rfl,(by show (0:Int) < 10^15;decide),?_⟩;exact kk _ H (Same.refl _) ⟨_,zr,z2u _ (by decide)⟩ ⟨_,zr,z1m _ (by decide)⟩
  | costs=>
   refine ⟨_,zr,zr,_,zr,qj rfl ?_⟩;refine ⟨_,zr,zr,_,zr,q16 rfl ?_⟩;refine ⟨_,rfl,_,_,rfl,rfl,(by show (0:Int) < 5;decide),rfl,_,rfl,ite2 (λ h1=> ?_) (λ h1=> ?_)⟩
   ·exact kk _ H (Same.refl _) (.inl rfl) True.intro
   ·have q0:=z2u c (show (2:Int)≠0 by decide);have q1:=z1m c (show (0:Int) < 2 by decide);refine ⟨_,rfl,_,_,rfl,rfl,⟨by decide,by decide⟩,_,_,rfl,rfl,⟨by decide,by decide,by decide⟩,_,_,rfl,rfl,(by show (0:Int) < 10^15;decide),_,rfl,_,_,rfl,rfl,(by show (0:Int) < 2;decide),_,_,rfl,rfl,.inl ⟨by decide,by decide⟩,_,_,rfl,rfl,_,_,rfl,rfl,.inr ⟨by show -(2^64) < 1 - 2*(c%2);lia,by show 1 - 2*(c%2) < 2^64;lia⟩,?_⟩;exact kk _ H (Same.refl _) (.inr ⟨_,zr⟩) True.intro
  | trusts t'=>
   have et:=O.2 t' rfl;subst et;have t0:=O.1;refine ⟨_,zr,zr,_,zr,qj rfl ?_⟩;refine ⟨_,zr,zr,_,zr,qj rfl ?_⟩;refine ⟨_,zr,zr,_,zr,q16 rfl ?_⟩;refine ⟨_,rfl,_,_,rfl,rfl,⟨by decide,by decide⟩,_,rfl,_,_,rfl,rfl,_,_,rfl,rfl,(by show 0 < t'+1;lia),_,rfl,_,rfl,_,_,rfl,rfl,⟨by decide,by decide⟩,_,rfl,_,_,rfl,rfl,_,_,rfl,rfl,(by show 0 < t'+1;lia),by show 4<=sizeLine;decide,λ l hl=> ?_⟩;have m0:=z2u (c / 4) (show t'+1≠0 by lia);have m1:=z1m (c / 4) (show 0 < t'+1 by lia);obtain ⟨v,J,U⟩:=q3l (xs:=[V.int (c / 4%(t'+1)),.int t',.int 0,.int (c / 4%(t'+1))]) (i:=c%4) (z2u _ (by decide)) (z1m _ (by decide));refine ⟨_,rfl,_,_,rfl,rfl,(by show (0:Int) < 4;decide),_,_,_,_,rfl,rfl,SqL.of q5,J,?_⟩;have s1:=qd (o:=HO.lst [V.int (c / 4%(t'+1)),.int t',.int 0,.int (c / 4%(t'+1))]) hl;refine kk v _ s1 ?_ True.intro;simp only [z35,z2d,or_false] at U;rcases U with rfl | rfl | rfl | rfl
   ·exact ⟨_,zr,by lia,by lia⟩
   ·exact ⟨_,zr,by lia,by lia⟩
   ·exact ⟨_,zr,by lia,by lia⟩
   ·exact ⟨_,zr,by lia,by lia⟩
  | truths=>
   refine ⟨_,zr,zr,_,zr,qj rfl ?_⟩;refine ⟨_,zr,zr,_,zr,qj rfl ?_⟩;refine ⟨_,zr,zr,_,zr,qj rfl ?_⟩;exact ⟨_,rfl,_,_,rfl,rfl,(by show (0:Int) < 3;decide),rfl,kk _ H (Same.refl _) ⟨_,rfl⟩ True.intro⟩
def qun (K:PySem.W.Frag):Sp:=λ vs H Q _=>∃ (k:K4) (t c:Int),vs=[.int (q65 k),.int t,.int c]/\Top4 k t/\∀ x d H',Same H H' ->Dat K H' d x ->fit4 k d=false ->Q x H'
theorem qbq (T:Txt K mg):Def P w K mg base 1 "_law_no_price" ["_law_way","_law_top","_law_cell"] (qun K):=by
 refine T.qd1.ok q29 (λ vs H Q E h=> ?_) λ f cdv A outer s H vs Q E hr h=> ?_
 ·obtain ⟨k,t,c,rfl,_⟩:=h;rfl
 ·obtain ⟨k,t,c,rfl,ht,kk⟩:=h;have Z:PyData.strOk "1"=true:=by decide+kernel
  have a3:PyData.strOk "no"=true:=by decide+kernel
  refine ⟨_,(qgq
   (qk (i:=3) q29.nd rfl (Or.inl rfl) (q1n (pa_4 (qq6 qm1 qb) q1u q3a q2o)))
   (qx (qr q1s (pv 0) qb (qo _)) (qe (qk (i:=3) q29.nd rfl (Or.inl rfl) (q1n (pa_4 q3a q2o (q1n (pa_1 qb)) (q1x (pa_1 qb)))))) ql)
   (qx (qr q1s (pv 0) qb (qo _)) (qe (qk (i:=3) q29.nd rfl (Or.inl rfl) (q1n (pa_4 (qf q1a (pv 1) qb) (qq6 qm1 qb) q1u q3a)))) ql)
   (qx (qr q1s (pv 0) qb (qo _)) (qe (qk (i:=3) q29.nd rfl (Or.inl rfl) (q1n (pa_4 qb qb q1u q2o)))) ql)
   (qg (qy (q11 K) (pv 3) (qf q12 (pv 2) qb) (λ _ _=>rfl)))),?_⟩
  refine ⟨_,rfl,by show 4<=sizeLine;decide,λ l hl=> ?_⟩;have s1:=qd (o:=HO.lst [V.int (-1),.non,.bl true,.str "1"]) hl;have e1:=q5 (H:=H) (a:=l) (o:=HO.lst [V.int (-1),.non,.bl true,.str "1"]);cases k with
  | counts=>
   refine ⟨_,zr,zr,_,zr,qj rfl ?_⟩;refine ⟨_,zr,zr,_,zr,qj rfl ?_⟩;refine ⟨_,zr,zr,_,zr,qj rfl ?_⟩;obtain ⟨v,J,U⟩:=q3l (xs:=[V.int (-1),.non,.bl true,.str "1"]) (i:=c%4) (z2u _ (by decide)) (z1m _ (by decide));refine ⟨_,rfl,_,rfl,_,_,rfl,rfl,(by show (0:Int) < 4;decide),_,_,_,_,rfl,rfl,SqL.of e1,J,?_⟩;simp only [z35,z2d,or_false] at U;rcases U with rfl | rfl | rfl | rfl
   ·exact kk _ _ _ s1 (.int _) rfl
   ·exact kk _ _ _ s1 .non rfl
   ·exact kk _ _ _ s1 (.bl _) rfl
   ·exact kk _ _ _ s1 (.str _ Z) rfl
  | costs=>
   refine ⟨_,zr,zr,_,zr,q16 rfl ?_⟩;refine ⟨by show 1<=sizeLine;decide,λ l2 a1=>⟨by show 1<=sizeLine;decide,λ t2 a2=>⟨by show 4<=sizeLine;decide,λ l3 O=> ?_⟩⟩⟩;have s2:=qd (o:=HO.lst [V.int 2]) a1;have s3:=qd (o:=HO.tup [V.int 3]) a2;have Y:=qd (o:=HO.lst [V.bl false,.str "1",.ref l2,.ref t2]) O;have S:=s1.trans (s2.trans (s3.trans Y));have d2:=Y _ _ (s3 _ _ (q5 (H:=upd H l (.lst [V.int (-1),.non,.bl true,.str "1"])) (a:=l2) (o:=HO.lst [V.int 2])));have d3:=Y _ _ (q5 (H:=upd (upd H l (.lst [V.int (-1),.non,.bl true,.str "1"])) l2 (.lst [V.int 2])) (a:=t2) (o:=HO.tup [V.int 3]));refine ⟨_,zr,zr,_,zr,qj rfl ?_⟩;refine ⟨_,zr,zr,_,zr,qj rfl ?_⟩;obtain ⟨v,J,U⟩:=q3l (xs:=[V.bl false,.str "1",.ref l2,.ref t2]) (i:=c%4) (z2u _ (by decide)) (z1m _ (by decide));refine ⟨_,rfl,_,rfl,_,_,rfl,rfl,(by show (0:Int) < 4;decide),_,_,_,_,rfl,rfl,SqL.of q5,J,?_⟩;simp only [z35,z2d,or_false] at U;rcases U with rfl | rfl | rfl | rfl
   ·exact kk _ _ _ S (.bl _) rfl
   ·exact kk _ _ _ S (.str _ Z) rfl
   ·exact kk _ _ _ S (.lst (SqL.of d2) (.cons (.int 2) .nil)) rfl
   ·exact kk _ _ _ S (.tup (SqT.of d3) (.cons (.int 3) .nil)) rfl
  | trusts t'=>
   have et:=ht.2 t' rfl;subst et;refine ⟨_,zr,zr,_,zr,qj rfl ?_⟩;refine ⟨_,zr,zr,_,zr,q16 rfl ?_⟩;refine ⟨_,rfl,_,_,rfl,rfl,_,rfl,by show 4<=sizeLine;decide,λ l3 O=> ?_⟩;have Y:=qd (o:=HO.lst [V.int (t'+1),.int (-1),.non,.bl true]) O;have S:=s1.trans Y;refine ⟨_,zr,zr,_,zr,qj rfl ?_⟩;obtain ⟨v,J,U⟩:=q3l (xs:=[V.int (t'+1),.int (-1),.non,.bl true]) (i:=c%4) (z2u _ (by decide)) (z1m _ (by decide));refine ⟨_,rfl,_,rfl,_,_,rfl,rfl,(by show (0:Int) < 4;decide),_,_,_,_,rfl,rfl,SqL.of q5,J,?_⟩;simp only [z35,z2d,or_false] at U;rcases U with rfl | rfl | rfl | rfl
   ·refine kk _ _ _ S (.int _) ?_;show (_&&decide (t'+1<=t'))=false;rw [z2h (show ¬ t'+1<=t' by lia),Bool.and_false]
   ·exact kk _ _ _ S (.int _) rfl
   ·exact kk _ _ _ S .non rfl
   ·exact kk _ _ _ S (.bl _) rfl
  | truths=>
   refine ⟨_,zr,zr,_,zr,qj rfl ?_⟩;refine ⟨_,zr,zr,_,zr,qj rfl ?_⟩;refine ⟨_,zr,zr,_,zr,q16 rfl ?_⟩;refine ⟨by show 4<=sizeLine;decide,λ l3 O=> ?_⟩;have Y:=qd (o:=HO.lst [V.int 1,.int 0,.non,.str "no"]) O;have S:=s1.trans Y;obtain ⟨v,J,U⟩:=q3l (xs:=[V.int 1,.int 0,.non,.str "no"]) (i:=c%4) (z2u _ (by decide)) (z1m _ (by decide));refine ⟨_,rfl,_,rfl,_,_,rfl,rfl,(by show (0:Int) < 4;decide),_,_,_,_,rfl,rfl,SqL.of q5,J,?_⟩;simp only [z35,z2d,or_false] at U;rcases U with rfl | rfl | rfl | rfl
   ·exact kk _ _ _ S (.int _) rfl
   ·exact kk _ _ _ S (.int _) rfl
   ·exact kk _ _ _ S .non rfl
   ·exact kk _ _ _ S (.str _ a3) rfl
theorem qa7 {C:Int ->Prop}:∀ {l:List V},(∀ v∈l,∃ i,v= .int i/\C i) ->∃ ns:List Int,l=ns.map V.int/\∀ i∈ns,C i
 | [],_=>⟨[],rfl,λ _ z=>nomatch z⟩
 | v::l,h=>by
  obtain ⟨i,rfl,hi⟩:=h v (z1f ..);obtain ⟨ns,rfl,hn⟩:=qa7 λ u hu=>h u (z0z _ hu);exact ⟨i::ns,zr,λ j hj=>(z35.mp hj).elim (λ e=>e ▸ hi) (hn j)⟩
theorem qid:∀ {l:List V},(∀ v∈l,∃ b,v= .bl b) ->∃ bs:List Bool,l=bs.map V.bl
 | [],_=>⟨[],rfl⟩
 | v::l,h=>by
  obtain ⟨i,rfl⟩:=h v (z1f ..);obtain ⟨ns,rfl⟩:=qid λ u hu=>h u (z0z _ hu);exact ⟨i::ns,zr⟩
theorem qie:∀ (ns:List Int) (s:Int),(ns.map V.int).foldl (iiV (· + ·)) (.int s)= .int (s+ns.sum)
 | [],s=>by show V.int s=V.int (s+0);rw [Int.add_zero]
 | n::ns,s=>by
  show (ns.map V.int).foldl (iiV (· + ·)) (.int (s+n))=_;rw [qie ns,List.sum_cons,Int.add_assoc]
theorem qif:∀ (bs:List Bool) (s:Bool),(bs.map V.bl).foldl (bbV (· || ·)) (.bl s)= .bl (s || bs.any id)
 | [],s=>by show V.bl s=V.bl (s || false);rw [Bool.or_false]
 | n::ns,s=>by
  show (ns.map V.bl).foldl (bbV (· || ·)) (.bl (s || n))=_;rw [qif ns,z38,Bool.or_assoc];rfl
theorem qig:∀ (bs:List Bool) (s:Bool),(bs.map V.bl).foldl (bbV (· && ·)) (.bl s)= .bl (s&&bs.all id)
 | [],s=>by show V.bl s=V.bl (s&&true);rw [Bool.and_true]
 | n::ns,s=>by
  show (ns.map V.bl).foldl (bbV (· && ·)) (.bl (s&&n))=_;rw [qig ns,List.all_cons,Bool.and_assoc];rfl
theorem qih:∀ (l:List V) (s:Int),(∀ v∈l,v= .non\/ ∃ i,v= .int i) ->(.non∈l/\l.foldl addN (.int s)= .non)\/ ∃ ns:List Int,l=ns.map V.int/\l.foldl addN (.int s)= .int (s+ns.sum)
 | [],s,_=> .inr ⟨[],rfl,by show V.int s=V.int (s+0);rw [Int.add_zero]⟩
 | v::l,s,h=>by
  rcases h v (z1f ..) with rfl | ⟨i,rfl⟩
  ·refine .inl ⟨z1f ..,?_⟩;show l.foldl addN .non= .non;have:∀ l:List V,l.foldl addN .non= .non:=λ l=>by
    induction l with
    | nil=>rfl
    | cons x l ih=>exact ih
   exact this l
  ·rcases qih l (s+i) λ u hu=>h u (z0z _ hu) with ⟨h1,h2⟩ | ⟨ns,rfl,h2⟩
   ·exact .inl ⟨z0z _ h1,h2⟩
   ·refine .inr ⟨i::ns,zr,?_⟩;show (ns.map V.int).foldl addN (.int (s+i))=_;rw [h2,List.sum_cons,Int.add_assoc]
theorem qct {v:Nat ->Int}:∀ {n:Nat} {m:Int},q18 v n=some m ->(∃ i,i < n/\m=v i)/\∀ i,i < n ->m<=v i
 | 0,m,h=>by cases h
 | n+1,m,h=>by
  rw [q18] at h;split at h
  ·rename_i e;cases h
   have:=qch e;subst this;exact ⟨⟨0,Nat.zero_lt_one,zr⟩,λ i hi=>by
    have:i=0:=by lia
    rw [this];exact z3r _⟩
  ·rename_i J e;obtain ⟨⟨i,hi,e1⟩,e2⟩:=qct e;have h':(if v n < J then v n else J)=m:=by injection h
   by_cases g:v n < J
   ·rw [if_pos g] at h';subst h';refine ⟨⟨n,z27 _,zr⟩,λ j hj=> ?_⟩;by_cases z:j=n
    ·rw [z];exact z3r _
    ·have:=e2 j (by lia)
     lia
   ·rw [if_neg g] at h';subst h';refine ⟨⟨i,z20 hi,e1⟩,λ j hj=> ?_⟩;by_cases z:j=n
    ·rw [z]
     lia
    ·exact e2 j (by lia)
theorem qii:∀ (ns:List Int) (t:Int),∃ m,(ns.map V.int).foldl (iiV λ i j=>if j < i then j else i) (.int t)= .int m/\m<=t/\(∀ n∈ns,m<=n)/\(m=t\/ m∈ns)
 | [],t=>⟨t,rfl,z3r _,(λ _ z=>nomatch z),.inl rfl⟩
 | n::ns,t=>by
  obtain ⟨m,h1,h2,h3,h4⟩:=qii ns (if n < t then n else t);have J:m<=t/\m<=n:=by split at h2 <;> lia
  refine ⟨m,h1,J.1,λ x hx=> ?_,?_⟩
  ·rcases z35.mp hx with rfl | hx
   ·exact J.2
   ·exact h3 x hx
  ·rcases h4 with h4 | h4
   ·split at h4
    ·exact .inr (by rw [h4];exact z1f ..)
    ·exact .inl h4
   ·exact .inr (z0z _ h4)
theorem qss (ns:List Int) (t:Int):∃ m,(ns.map V.int).foldl (iiV λ i j=>if j < i then j else i) (.int t)= .int m/\q18 (λ i=>(ns++ [t]).getD i 0) (ns++ [t]).length=some m:=by
 obtain ⟨m,h1,h2,h3,h4⟩:=qii ns t;refine ⟨m,h1,?_⟩;cases e:q18 (λ i=>(ns++ [t]).getD i 0) (ns++ [t]).length with
 | none=>
  have:=qch e;rw [z1e] at this;cases this
 | some b=>
  obtain ⟨⟨i,hi,e1⟩,e2⟩:=qct e;have get:∀ j (J:j < (ns++ [t]).length),(ns++ [t]).getD j 0=(ns++ [t])[j]:=λ j J=>by rw [z05,z0a J];rfl
  have b1:b∈ns++ [t]:=by
   rw [e1,get i hi];exact z26 hi
  have b2:∀ x∈ns++ [t],b<=x:=λ x hx=>by
   obtain ⟨j,J,rfl⟩:=z19 hx;have:=e2 j J;rw [get j J] at this;exact this
  have m1:m∈ns++ [t]:=by
   rcases h4 with h | h
   ·rw [h];exact z0r _ (z1c.mpr rfl)
   ·exact z10 _ h
  have m2:∀ x∈ns++ [t],m<=x:=λ x hx=>by
   rcases z2f.mp hx with h | h
   ·exact h3 x h
   ·rw [z1c.mp h];exact h2
  exact congrArg some (Int.le_antisymm (b2 m m1) (m2 b b1))
theorem qij {v u:Nat ->Int}:∀ {n:Nat},(∀ i,i < n ->v i=u i) ->q24 v n=q24 u n
 | 0,_=>rfl
 | n+1,h=>by
  rw [q24,q24,qij λ i hi=>h i (z20 hi),h n (z27 _)]
theorem qfk {v u:Nat ->Int}:∀ {n:Nat},(∀ i,i < n ->v i=u i) ->q18 v n=q18 u n
 | 0,_=>rfl
 | n+1,h=>by
  rw [q18,q18,qfk λ i hi=>h i (z20 hi),h n (z27 _)]
theorem qfl (l:List Int) (x:Int):(∀ i,i < l.length ->(l++ [x]).getD i 0=l.getD i 0)/\(l++ [x]).getD l.length 0=x:=by
 refine ⟨λ i hi=> ?_,?_⟩
 ·rw [z05,z05,List.getElem?_append_left hi]
 ·rw [z05,z04 (z3p _),Nat.sub_self];rfl
theorem qpp (l:List Int) (h:∀ x∈l,0<=x):(l.map V.int).foldl (iiV λ i j=>if j > i then j else i) (.int 0)= .int ((q24 (λ i=>l.getD i 0) l.length).getD 0):=by
 revert h;refine qgr (C:=λ l=>(∀ x∈l,0<=x) ->(l.map V.int).foldl (iiV λ i j=>if j > i then j else i) (.int 0)= .int ((q24 (λ i=>l.getD i 0) l.length).getD 0)) (λ _=>rfl) (λ l x ih h=> ?_) l;have x0:=h x (z0r _ (z1c.mpr rfl));rw [z2q,z21,ih λ y hy=>h y (z10 _ hy),z1e];show iiV (λ i j=>if j > i then j else i) (V.int ((q24 (λ i=>l.getD i 0) l.length).getD 0)) (V.int x)=V.int ((q24 (λ i=>(l++ [x]).getD i 0) (l.length+1)).getD 0);obtain ⟨g1,g2⟩:=qfl l x;rw [q24,qij g1,g2];cases e:q24 (λ i=>l.getD i 0) l.length with
 | none=>
  show V.int (if x > 0 then x else 0)=V.int x;split
  ·rfl
  ·exact congrArg V.int (by lia)
 | some m=>rfl
theorem qpq (l:List Int) (x:Int):minN (optV (q18 (λ i=>l.getD i 0) l.length)) (.int x)=optV (q18 (λ i=>(l++ [x]).getD i 0) (l++ [x]).length):=by
 rw [z1e];show _=optV (q18 (λ i=>(l++ [x]).getD i 0) (l.length+1));obtain ⟨g1,g2⟩:=qfl l x;rw [q18,qfk g1,g2];cases e:q18 (λ i=>l.getD i 0) l.length with
 | none=>rfl
 | some m=>rfl
theorem qeh {k:K4} {v:V} {n:Int} (hk:k≠ .counts) (h:Ok4 k v) (hn:1<=n):rp4 k v n=v:=by
 have J:¬ n=0:=by lia
 cases k with
 | counts=>exact absurd rfl hk
 | costs=>
  show (if n=0 then _ else minN v v)=v;rw [if_neg J];rcases h with rfl | ⟨i,rfl⟩
  ·rfl
  ·show V.int (if i < i then i else i)=_;rw [ite_self]
 | trusts t=>
  obtain ⟨i,rfl,_⟩:=h;show (if n=0 then _ else V.int (if i > i then i else i))=_;rw [if_neg J,ite_self]
 | truths=>
  obtain ⟨b,rfl⟩:=h;show (if n=0 then _ else V.bl (b || b))=_;rw [if_neg J,Bool.or_self]
def pts4 (k:K4) (g:Str ->V) (Y:Tab):List V:=Y.map λ kv=>rp4 k (rkP4 k g kv.1) kv.2
theorem qpr (k:K4) (g:Str ->V) (Y:Tab):rkY4 k g Y=(pts4 k g Y).foldl (ei4 k) (no4 k):=by
 unfold rkY4 pts4;rw [List.foldl_map]
theorem qbr (k:K4) (g:Str ->V) (p:List Str):rkP4 k g p=(p.map g).foldl (bo4 k) (un4 k):=by
 unfold rkP4;rw [List.foldl_map]
theorem qvt {k:K4} {f:Str ->Option V} (h:G15 k f) {p:List Str} (hp:∀ n∈p,∃ v,f n=some v):∀ v∈p.map (gv f),Ok4 k v/\Lt4 (10^15) k v:=λ v hv=>by
 obtain ⟨n,hn,rfl⟩:=z3m.mp hv;obtain ⟨u,J⟩:=hp n hn;unfold gv;rw [J];exact h.ok n u J
theorem qik {H:Hp} {k:K4}:∀ {l:List V},(∀ v∈l,Ok4 k v) ->∃ ds,Dats K H ds l/\PyData.depthAll ds<=60
 | [],_=>⟨[],.nil,z3s _⟩
 | v::l,h=>by
  obtain ⟨d,hd,O⟩:=q7y (K:=K) (H:=H) (h v (z1f ..));obtain ⟨ds,J,hz⟩:=qik (l:=l) λ u hu=>h u (z0z _ hu);refine ⟨d::ds,.cons hd J,Nat.max_le.mpr ⟨?_,hz⟩⟩;cases hd with
  | lst _ _=>cases k <;> cases O
  | tup _ _=>cases k <;> cases O
  | _=>exact z3s _
theorem qnk {H:Hp} {k:K4}:∀ {l:List V} {ds:List PyData},(∀ v∈l,Ok4 k v) ->Dats K H ds l ->(ds.any λ y=>PyData.eqv y .none)=decide (V.non∈l)
 | _,_,_,.nil=>rfl
 | v::l,d::ds,h,.cons a b=>by
  rw [z38,qnk (λ u hu=>h u (z0z _ hu)) b];by_cases e:V.non∈l
  ·rw [z2w e,z2w (z0z _ e),Bool.or_true]
  ·rw [z2h e,Bool.or_false];cases a with
   | non=>exact (z2w (z1f ..)).symm
   | int i=>exact (z2h λ z=>(z35.mp z).elim (λ z=>by cases z) e).symm
   | bl i=>exact (z2h λ z=>(z35.mp z).elim (λ z=>by cases z) e).symm
   | str _ _=>exact (z2h λ z=>(z35.mp z).elim (λ z=>by cases z) e).symm
   | lst _ _=>exact (z2h λ z=>(z35.mp z).elim (λ z=>by cases z) e).symm
   | tup _ _=>exact (z2h λ z=>(z35.mp z).elim (λ z=>by cases z) e).symm
def qst (K:PySem.W.Frag):Sp:=λ vs H Q _=>∃ (k:K4) (t n:Int) (l:Addr) (f:Str ->Option V) (p:List Str),vs=[.int (q65 k),.int t,.ref l,.int n]/\Top4 k t/\H l=some (.lst (p.map (gv f)))/\G15 k f/\(∀ n∈p,∃ v,f n=some v)/\p.length<=3/\1<=n/\n<=10^30/\∀ H',Same H H' ->Q (rp4 k (rkP4 k (gv f) p) n) H'
theorem qil (T:Txt K mg):Def P w K mg base 1 "_law_part" ["_law_way","_law_top","_law_worths","_law_many"] (qst K):=by
 refine T.qjh.ok q6r (λ vs H Q E h=> ?_) λ f cdv A outer s H vs Q E hr h=> ?_
 ·obtain ⟨k,t,n,l,f,p,rfl,_⟩:=h;rfl
 ·obtain ⟨k,t,n,l,O,p,rfl,ht,hl,g15,hp,p3,n1,a4,q⟩:=h;have Y:=q7x g15.g4 hp;have J:=qvt g15 hp;refine ⟨_,(q9z
   (qx (qr q1s (pv 0) qb (qo _)) (q31
   (q23 PassesOwn.never rfl (q1l K (pv 2)) (qm (i:=4) q6r.nd rfl (Or.inl rfl)) (qe (qk (i:=3) q6r.nd rfl (Or.inl rfl) (qf qdh (pv 3) (pv 4)))))
   (qg (pv 3))) ql)
   (qx (qr q1s (pv 0) qb (qo _)) (qe (qg (qh9 (qr (qry hr.units K) q1u (pv 2) (by with_unfolding_all rfl)) q1u (qt (qf4 rfl K) rfl T.b_sum qmo (pa_1 (pv 2)))))) ql)
   (qx (qr q1s (pv 0) qb (qo _)) (qe (qg (qt (qn2 rfl K) rfl T.b_min qca (pa_1 (qf qtc (pv 2) (q1n (pa_1 (pv 1)))))))) ql)
   (qg (qt (q71 rfl K) rfl T.b_all qc9 (pa_1 (pv 2))))),?_⟩
  cases k with
  | counts=>
   refine ⟨_,zr,zr,_,zr,q16 rfl ?_⟩;have all:∀ i,∃ a:Int,rkP4 .counts (gv O) (p.take i)= .int a/\0<=a/\a<=10^45:=λ i=>by
    obtain ⟨a,e,a0,a1⟩:=qas g15 (p.take i) λ m hm=>hp m (z0y hm);refine ⟨a,e,a0,z3d a1 ?_⟩;have l3:(p.take i).length<=3:=by rw [z22];lia
    generalize (p.take i).length=m at l3;rcases (show m=0\/ m=1\/ m=2\/ m=3 by lia) with rfl | rfl | rfl | rfl <;> decide
   refine ⟨_,rfl,l,rfl,⟨_,SqL.of hl⟩,q2t (xs:=p.map (gv O)) (λ i σ G=>G=H/\∃ (v:Option V) (a m:Int),σ=[some (.int 0),some (.int t),some (.ref l),some (.int m),v]/\rkP4 .counts (gv O) (p.take i)= .int a/\m=n*a) ⟨rfl,none,1,n,rfl,rfl,(Int.mul_one n).symm⟩ (λ i σ G _ z=>by rw [z.1];exact SqL.of hl) ?_ ?_⟩
   ·rintro i x σ G hx ⟨rfl,v,a,m,rfl,ea,rfl⟩;rw [z1s] at hx;obtain ⟨z,hz,rfl⟩:=z0l.mp hx;obtain ⟨⟨j,ej,j0⟩,j',a2,j1⟩:=J (gv O z) (z3m.mpr ⟨z,z11 hz,rfl⟩);rw [ej] at a2;cases a2
    obtain ⟨a',Z,a0,a1⟩:=all i;rw [ea] at Z;cases Z
    have b0:0<=n*a:=z32 (by lia) a0;have b1:n*a<=10^30*10^45:=Int.mul_le_mul a4 a1 a0 (by decide);rw [ej];refine ⟨_,zr,_,zr,_,_,zr,zr,⟨⟨b0,z1l b1 (by decide)⟩,j0,Int.lt_trans j1 (by decide)⟩,zr,_,a*j,_,zr,?_,Int.mul_assoc _ _ _⟩;rw [z31,hz];show rkP4 .counts (gv O) (p.take i++ [z])=_;rw [q77,ea,ej];rfl
   ·rintro σ G ⟨rfl,v,a,m,rfl,ea,rfl⟩;rw [z2l,z2e] at ea;refine ⟨_,zr,?_⟩;have:=q _ (Same.refl _);rw [ea] at this;have e:rp4 .counts (.int a) n= .int (n*a):=by
     show V.int (a*n)=_;rw [Int.mul_comm]
    rw [e] at this;exact this
  | costs=>
   rw [qeh (by intro z;cases z) Y n1,qbr] at q;obtain ⟨ds,a3,hz⟩:=qik (K:=K) (H:=H) (k:= .costs) λ v U=>(J v U).1;refine ⟨_,zr,zr,_,zr,qj rfl ?_⟩;refine ⟨_,zr,zr,_,zr,q16 rfl ?_⟩;refine ⟨_,zr,.none,ds,.non,.lst (SqL.of hl) a3,hz,_,zr,?_⟩;rw [qnk (λ v U=>(J v U).1) a3];rcases qih (p.map (gv O)) 0 (λ v U=>(J v U).1) with ⟨h1,h2⟩ | ⟨ns,h1,h2⟩
   ·refine q16 (z2w h1) ?_;have:=q H (Same.refl _);rw [show (p.map (gv O)).foldl (bo4 .costs) (un4 .costs)= .non from h2] at this;exact this
   ·refine qj (z2h λ z=> ?_) ?_
    ·rw [h1] at z;obtain ⟨i,_,e⟩:=z3m.mp z;cases e
    ·rw [h1] at hl;refine ⟨_,zr,l,ns,zr,SqL.of hl,?_⟩;have:=q H (Same.refl _);rw [show (p.map (gv O)).foldl (bo4 .costs) (un4 .costs)= .int (0+ns.sum) from h2,Int.zero_add] at this;exact this
  | trusts t'=>
   have et:=ht.2 t' rfl;subst et;rw [qeh (by intro z;cases z) Y n1,qbr] at q;obtain ⟨ns,h1,_⟩:=qa7 (C:=λ _=>True) λ v U=>(let ⟨i,e,_⟩:=(J v U).1;⟨i,e,True.intro⟩);obtain ⟨m,m1,m2⟩:=qss ns t';refine ⟨_,zr,zr,_,zr,qj rfl ?_⟩;refine ⟨_,zr,zr,_,zr,qj rfl ?_⟩;refine ⟨_,zr,zr,_,zr,q16 rfl ?_⟩;refine ⟨_,rfl,_,rfl,by show 1<=sizeLine;decide,λ b hb=> ?_⟩;have s1:=qd (o:=HO.lst [V.int t']) hb;refine ⟨l,b,_,_,rfl,rfl,s1 _ _ hl,q5,by rw [z2l];exact z3i (show p.length+1<=1000 by lia) (by decide),λ c hc=> ?_⟩;have s2:=qd (o:=HO.lst (p.map (gv O)++ [V.int t'])) hc;have e2:upd (upd H b (.lst [V.int t'])) c (.lst (p.map (gv O)++ [V.int t'])) c=some (.lst ((ns++ [t']).map V.int)):=by
    rw [q5,h1,z2q];rfl
   have qq:=q _ (s1.trans s2);refine ⟨c,ns++ [t'],m,zr,SqL.of e2,m2,?_⟩;have e9:(p.map (gv O)).foldl (bo4 (.trusts t')) (un4 (.trusts t'))= .int m:=by rw [h1];exact m1
   rw [e9] at qq;exact qq
  | truths=>
   rw [qeh (by intro z;cases z) Y n1,qbr] at q;obtain ⟨bs,h1⟩:=qid λ v U=>(J v U).1;refine ⟨_,zr,zr,_,zr,qj rfl ?_⟩;refine ⟨_,zr,zr,_,zr,qj rfl ?_⟩;refine ⟨_,zr,zr,_,zr,qj rfl ?_⟩;rw [h1] at hl;refine ⟨_,zr,l,bs,zr,SqL.of hl,?_⟩;have:=q H (Same.refl _);rw [h1,show (bs.map V.bl).foldl (bo4 .truths) (un4 .truths)= .bl (true&&bs.all id) from qig bs true,z3a] at this;exact this
def quo:Sp:=λ vs H Q _=>∃ (k:K4) (v:V),vs=[v,v]/\Ok4 k v/\Q (.bl true) H
theorem q8q (T:Txt K mg):Def P w K mg base 2 "_law_alike" ["_law_found","_law_due"] quo:=by
 refine T.qip.ok qg1 (λ vs H Q E h=> ?_) λ f cdv A outer s H vs Q E hr h=> ?_
 ·obtain ⟨k,v,rfl,_⟩:=h;rfl
 ·obtain ⟨k,v,rfl,ok,q⟩:=h;refine ⟨_,(q63
   (qx (qr q55 (pv 1) q1u (qo _)) (qe (qg (q30 q55 (pv 0) q1u (qo _)))) ql)
   (qx (q34 (qt (q26 K) rfl T.q1d q17 (pa_2 (pv 1) (q41 rfl T.q9u q7q)))) (qe (qg (q6e (qt (q26 K) rfl T.q1d q17 (pa_2 (pv 0) (q41 rfl T.q9u q7q))) (q3z (q30 q1s (pv 0) (pv 1) (qo _)))))) ql)
   (qg (q6e (qv (qg5 T) hr rfl (pa_1 (pv 0))) (q3z (q30 q1s (pv 0) (pv 1) (qo _)))))),?_⟩
  obtain ⟨d,hd,J⟩:=q7y (K:=K) (H:=H) ok;cases hd with
  | non=>exact ⟨_,rfl,rfl,_,rfl,q16 rfl ⟨_,rfl,rfl,q⟩⟩
  | int i=>
   refine ⟨_,zr,zr,_,zr,qj rfl ?_⟩;refine ⟨_,zr,_,_,_,zr,.int i,by decide,_,zr,qj rfl ?_⟩;refine ⟨_,zr,.int i,.int i,zr,.int i,_,zr,q16 rfl ?_⟩;refine ⟨_,zr,_,zr,zr,?_⟩;rw [z2w rfl];exact q
  | bl b=>
   refine ⟨_,zr,zr,_,zr,qj rfl ?_⟩;refine ⟨_,zr,_,_,_,zr,.bl b,by decide,_,zr,q16 rfl ?_⟩;refine ⟨_,zr,_,_,_,zr,.bl b,by decide,_,zr,q16 rfl ?_⟩;refine ⟨_,zr,_,zr,zr,?_⟩;rw [z2w rfl];exact q
  | str _ _=>cases k <;> cases J
  | lst _ _=>cases k <;> cases J
  | tup _ _=>cases k <;> cases J
def qsu:Sp:=λ vs H Q _=>∃ (k:K4) (t:Int) (l d:Addr) (f:Str ->Option V) (Y:Tab),vs=[.int (q65 k),.int t,.ref l,.ref d]/\Top4 k t/\WA H l Y/\Vp H d f/\G15 k f/\Pcd f Y/\(∀ kv∈Y,kv.1.length<=3)/\YP Y/\∀ H',Same H H' ->Q (rkY4 k (gv f) Y) H'
theorem q8r (T:Txt K mg):Def P w K mg base 2 "_law_worth" ["_law_way","_law_top","_law_why_here","_law_prices"] qsu:=by
 refine T.qis.ok q3r (λ vs H Q E h=> ?_) λ f cdv A outer s H vs Q E hr h=> ?_
 ·obtain ⟨k,t,l,d,f,Y,rfl,_⟩:=h;rfl
 ·obtain ⟨k,t,l,d,ff,Y,rfl,ht,wl,hd,g15,pc,y3,yp,q⟩:=h;refine ⟨_,(qqc
   (qk (i:=4) q3r.nd rfl (Or.inl rfl) (q1n q2k))
   (q23 PassesOwn.never rfl (q1l K (pv 2)) (q90 rfl (q1r (qm (i:=5) q3r.nd rfl (Or.inl rfl)) (q1r (qm (i:=6) q3r.nd rfl (Or.inl rfl)) q4j))) (qe (q28 (qgp z0g z0b z0c q56 (pv 4) (pa_1 (qv (qil T) hr rfl (pa_4 (pv 0) (pv 1) (q2f (N:=["_law_name","_law_prices"]) (caps:=[none,some 3]) rfl (by with_unfolding_all rfl) (q69 K (pv 5)) (λ _ _ _ _ _=>(qm (i:=0) (show (["_law_name","_law_prices"]:List Str).Nodup by decide+kernel) rfl (Or.inl rfl))) (λ _ _ _ _ _=>q37) (λ _ _ _ _ _=>(q68 (q3c hr) (pv 1) (pv 0) (λ _ _=>rfl)))) (pv 6))))))))
   (qx (qr q1s (pv 0) qb (qo _)) (qe (qg (qt (qf4 rfl K) rfl T.b_sum qmo (pa_1 (pv 4))))) ql)
   (qx (qr q1s (pv 0) qb (qo _)) (qe (qg (qs1 K rfl rfl T.b_min qca (pa_1 (q2f (N:=["_law_part_here"]) (caps:=[none]) rfl (by with_unfolding_all rfl) (q1l K (pv 4)) (λ _ _ _ _ _=>(qm (i:=0) (show (["_law_part_here"]:List Str).Nodup by decide+kernel) rfl (Or.inl rfl))) (λ _ _ _ _ _=>qtj (qr qr3 (pv 0) q1u (qo _))) (λ _ _ _ _ _=>(pv 0)))) (qda q1u qhb)))) ql)
   (qx (qr q1s (pv 0) qb (qo _)) (qe (qg (qrs K rfl rfl T.b_max qmp (pa_1 (pv 4)) (qda qb qhb)))) ql)
   (qg (qt (qf5 rfl K) rfl T.b_any qmn (pa_1 (pv 4))))),?_⟩
  refine ⟨by decide,λ L hL=> ?_⟩;have s0:=qd (o:=HO.lst []) hL;have e0:=q5 (H:=H) (a:=L) (o:=HO.lst []);generalize upd H L (.lst [])=H0 at*;obtain ⟨xs,hl,a3,a6⟩:=wl;have xl:=Paired.length a3;have a4:=a6.1;have a1:∀ v∈pts4 k (gv ff) Y,Ok4 k v:=λ v hv=>by
   obtain ⟨kv,U,rfl⟩:=z3m.mp hv;exact qi6 g15.top (q7x g15.g4 (pc kv U)) (by have:=(yp kv U).1;lia)
  refine ⟨_,zr,l,zr,⟨_,SqL.of (s0 _ _ hl)⟩,q2t (xs:=xs) (λ i σ G=>∃ v1 v2,σ=[some (.int (q65 k)),some (.int t),some (.ref l),some (.ref d),some (.ref L),v1,v2]/\Same H G/\G L=some (.lst (pts4 k (gv ff) (Y.take i)))) ⟨none,none,zr,s0,e0⟩ (λ i σ G _ z=> ?_) ?_ ?_⟩
  ·obtain ⟨_,_,_,O,_⟩:=z;exact SqL.of (O _ _ hl)
  ·rintro i x σ G hx ⟨v1,v2,rfl,O,J⟩;obtain ⟨kv,U,a7⟩:=q1h a3 hx;obtain ⟨qa,b,rfl,hq,hb⟩:=a7;have hm:=z11 U;have il:=(z06.mp U).1;refine ⟨_,_,zr,SqT.of (O _ _ hq),zr,_,_,zr,_,_,zr,zr,?_⟩;refine ⟨_,zr,.inl ⟨zr,_,SqL.of J⟩,_,zr,_,zr,_,zr,b,zr,⟨_,SqT.of (O _ _ hb)⟩,λ D hD=> ?_⟩;refine q2g (kv.1.map V.str).length (λ i σ' H'=>(∃ v,σ'=[v,some (.ref d)])/\Same G H'/\H' D=some (.lst ((kv.1.take i).map (gv ff)))) ⟨⟨_,zr⟩,qd hD,q5⟩ (λ i σ' H' hi p=> ?_) (λ σ' H' p=>⟨?_,?_⟩) (λ i σ' H' hi p x H2 y=> ?_)
   ·obtain ⟨_,sm,_⟩:=p;exact ⟨_,_,SqT.of (sm _ _ (O _ _ hb)),z0a hi⟩
   ·obtain ⟨_,sm,_⟩:=p;exact ⟨_,SqT.of (sm _ _ (O _ _ hb)),z3p _⟩
   ·obtain ⟨_,sm,e⟩:=p;rw [z2l,z2e] at e;refine ⟨_,zr,k,t,kv.2,D,ff,kv.1,zr,ht,e,g15,pc kv hm,y3 kv hm,(yp kv hm).1,(yp kv hm).2,λ H5 s5=> ?_⟩;have a5:=s5 _ _ (sm _ _ J);refine ⟨L,_,_,rfl,rfl,a5,by unfold pts4;rw [z2l,z22];exact q15 (by lia),_,_,rfl,(O.trans (sm.trans s5)).set hL,?_⟩;rw [q5,z31,U];unfold pts4;rw [z2q];rfl
   ·obtain ⟨⟨v,rfl⟩,sm,e⟩:=p;obtain ⟨rfl,hx⟩:=y;have Z:=hx _ (SqT.of (sm _ _ (O _ _ hb)));rw [z1s] at Z;obtain ⟨n,hn,rfl⟩:=z0l.mp Z;obtain ⟨u,hu⟩:=pc kv hm n (z11 hn);have a2:=(hd.same (O.trans sm)).get n;rw [hu] at a2;have k3:=y3 kv hm;refine ⟨_,rfl,_,rfl,d,_,rfl,a2,_,e,by rw [z2l,z22];exact q15 (by lia),⟨_,rfl⟩,sm.set hD,?_⟩;rw [q5,z31,hn,z2q];show some (HO.lst (_++ [u]))=some (HO.lst (_++ [gv ff n]));unfold gv;rw [hu];rfl
  ·rintro σ G ⟨v1,v2,rfl,O,J⟩;rw [xl,z2e] at J;rw [qpr] at q;have pl:(pts4 k (gv ff) Y).length<=200:=by
    unfold pts4;rw [z2l];exact a4
   generalize pts4 k (gv ff) Y=ps at*;cases k with
   | counts=>
    obtain ⟨ns,rfl,_⟩:=qa7 (C:=λ _=>True) λ v hv=>(let ⟨i,e,_⟩:=a1 v hv;⟨i,e,True.intro⟩);refine ⟨_,zr,zr,_,zr,q16 rfl ⟨_,zr,L,ns,zr,SqL.of J,?_⟩⟩;have:=q G O;rw [show (ns.map V.int).foldl (ei4 .counts) (no4 .counts)= .int (0+ns.sum) from qie ns 0,Int.zero_add] at this;exact this
   | costs=>
    refine ⟨_,zr,zr,_,zr,qj rfl ?_⟩;refine ⟨_,zr,zr,_,zr,q16 rfl ?_⟩;refine ⟨_,zr,L,zr,⟨_,SqL.of J⟩,λ D hD=> ?_⟩;refine q2g ps.length (λ i σ' H'=>(∃ v,σ'=[v])/\Same G H'/\∃ ns:List Int,H' D=some (.lst (ns.map V.int))/\ns.length<=i/\(ps.take i).foldl minN .non=optV (q18 (λ i=>ns.getD i 0) ns.length)) ⟨⟨_,rfl⟩,qd hD,[],q5,z3p _,rfl⟩ (λ i σ' H' hi p=> ?_) (λ σ' H' p=>⟨?_,?_⟩) (λ i σ' H' hi p x H2 y=> ?_)
    ·obtain ⟨_,sm,_⟩:=p;exact ⟨_,_,SqL.of (sm _ _ J),z0a hi⟩
    ·obtain ⟨_,sm,_⟩:=p;exact ⟨_,SqL.of (sm _ _ J),z3p _⟩
    ·obtain ⟨_,sm,ns,e,nl,en⟩:=p;rw [z2e] at en;refine ⟨D,ns,zr,zr,SqL.of e,?_⟩;have:=q _ (O.trans sm);rw [show ps.foldl (ei4 .costs) (no4 .costs)=_ from en] at this;exact this
    ·obtain ⟨⟨v,rfl⟩,sm,ns,e,nl,en⟩:=p;obtain ⟨rfl,hx⟩:=y;have Z:=hx _ (SqL.of (sm _ _ J));have tk:ps.take (i+1)=ps.take i++ [x]:=by rw [z31,Z];rfl
     rcases a1 x (z11 Z) with rfl | ⟨j,rfl⟩
     ·refine ⟨_,zr,zr,_,zr,qj rfl ⟨⟨_,zr⟩,sm,ns,e,by lia,?_⟩⟩;rw [tk,z21,en];show minN (optV _) .non=_;cases q18 (λ i=>ns.getD i 0) ns.length <;> rfl
     ·refine ⟨_,rfl,rfl,_,rfl,q16 rfl ⟨_,rfl,_,e,by rw [z2l];exact q15 (by lia),⟨_,rfl⟩,sm.set hD,ns++ [j],by rw [q5,z2q];rfl,by rw [z1e];exact z2c nl,?_⟩⟩;rw [tk,z21,en];exact qpq ns j
   | trusts t'=>
    obtain ⟨ns,rfl,n0⟩:=qa7 (C:=λ i=>0<=i) λ v hv=>(let ⟨i,e,h,_⟩:=a1 v hv;⟨i,e,h⟩);refine ⟨_,zr,zr,_,zr,qj rfl ?_⟩;refine ⟨_,zr,zr,_,zr,qj rfl ?_⟩;refine ⟨_,zr,zr,_,zr,q16 rfl ⟨_,zr,L,ns,0,zr,zr,SqL.of J,?_⟩⟩;have:=q G O;rw [show (ns.map V.int).foldl (ei4 (.trusts t')) (no4 (.trusts t'))=_ from qpp ns n0] at this;exact this
   | truths=>
    obtain ⟨bs,rfl⟩:=qid λ v hv=>a1 v hv;refine ⟨_,zr,zr,_,zr,qj rfl ?_⟩;refine ⟨_,zr,zr,_,zr,qj rfl ?_⟩;refine ⟨_,zr,zr,_,zr,qj rfl ?_⟩;refine ⟨_,zr,L,bs,zr,SqL.of J,?_⟩;have:=q G O;rw [show (bs.map V.bl).foldl (ei4 .truths) (no4 .truths)= .bl (false || bs.any id) from qif bs false,Bool.false_or] at this;exact this
def qsv (P:Program) (w:World) (K:PySem.W.Frag) (mg:Str ->Option Value):Sp:=λ vs H Q _=>∃ (W:List Str) (Ps:List PR) (A:LA) (k:K4) (f:Str ->Option V) (g:PR ->Option Tab) (bks:List (Key×V)) (z:Str) (b:Addr),vs=[.ref A.p,.str z,.ref b]/\Led P w mg W Ps H A k f g bks/\(∀ H',Same H H' ->Q (.bl true) H')/\
  ((z="price"/\∃ n x d,SqT K H b [.str n,x]/\n∈W/\n.length<=1000/\Dat K H d x/\fit4 k d=false)\/
   (z="enter"/\∃ q r l Y,SqT K H b [.str q.1,.ref r,.ref l]/\q∈Ps/\H r=some (.tup (q.2.map kV))/\WA H l Y/\YSm W Y/\∃ p∈Y,∃ n∈p.1,f n=none))
theorem q79 (T:Txt K mg):Def P w K mg base 10 "_law_refused" ["_law_ledger","_law_way","_law_thing"] (qsv P w K mg):=by
 refine T.qep.ok q75 (λ vs H Q E h=> ?_) λ f cdv A outer s H vs Q E hr h=> ?_
 ·obtain ⟨W,Ps,A,k,f,g,bks,z,b,rfl,_⟩:=h;rfl
 ·obtain ⟨W,Ps,A,k,Z,g,bks,z,b,rfl,L,q,h⟩:=h;refine ⟨_,(q31
   (qoy (i:=3) T.q9t (λ _ _ _ hp=>(qe (qx (qr q1s (pv 1) q2o (qo _)) (qe (q28 (qhx (q6u (P:=P) (w:=w) T) hp T.qi hr (pv 0) (pa_2 (qy (q21 K) (pv 2) qb (λ _ _=>rfl)) (qy (q21 K) (pv 2) qb (λ _ _=>rfl)))))) (qe (q28 (qhx (q6v (P:=P) (w:=w) T) hp T.qi hr (pv 0) (pa_3 (qy (q21 K) (pv 2) qb (λ _ _=>rfl)) (qy (q21 K) (pv 2) qb (λ _ _=>rfl)) (qy (q21 K) (pv 2) qb (λ _ _=>rfl))))))))) (λ ea oe=>(qe (qg (qt (qn1 K) rfl T.q1d q17 (pa_2 (pv 3) (q41 rfl T.qiv qft)))))) rfl rfl q75.nd)
   (qg q3a)),?_⟩
  rcases h with ⟨rfl,n,x,d,hb,nW,nl,hd,hf⟩ | ⟨rfl,qq,r,l,Y,hb,qP,U,wl,ys,un⟩
  ·refine ⟨_,zr,zr,_,zr,q16 (z2w rfl) ?_⟩;refine ⟨_,rfl,A.p,A.dx,_,rfl,L.led.ins,rfl,_,rfl,_,_,_,_,rfl,rfl,hb,q1b (j:=0) rfl,_,rfl,_,_,_,_,rfl,rfl,hb,q1b (j:=1) rfl,W,Ps,A,k,Z,g,bks,n,x,d,rfl,L,nW,nl,hd,(λ e=>by rw [hf] at e;cases e),λ _=> ?_⟩;refine ⟨T.q27.caught T.q27 T.q5t,λ ea oe σ' O hn hl=> ?_⟩;have J:σ'.length=4:=hl;obtain ⟨a1,b1,c1,e1,rfl⟩:∃ a b c e,σ'=[a,b,c,e]:=by
    match σ',J with
    | [a,b,c,e],_=>exact ⟨a,b,c,e,rfl⟩
   exact ⟨_,zr,cA mg "NoWorth",0,_,true,zr,O,T.q27.isi,.inr ⟨_,zr,T.q27.veI⟩,q _ (Same.refl _)⟩
  ·refine ⟨_,zr,zr,_,zr,qj (by decide+kernel) ?_⟩;refine ⟨_,zr,A.p,A.dx,_,zr,L.led.ins,zr,_,zr,_,_,_,_,zr,zr,hb,q1b (j:=0) rfl,_,zr,_,_,_,_,zr,zr,hb,q1b (j:=1) rfl,_,zr,_,_,_,_,zr,zr,hb,q1b (j:=2) rfl,W,Ps,A,k,Z,g,bks,qq,Y,r,l,zr,L,qP,U,wl,ys,(λ pc=> ?_),λ _ H' s'=> ?_⟩
   ·obtain ⟨p,hp,n,hn,e⟩:=un;obtain ⟨v,hv⟩:=pc p hp n hn;rw [e] at hv;cases hv
   ·refine ⟨T.q27.caught T.q27 T.q5t,λ ea oe σ' O hn hl=> ?_⟩;have J:σ'.length=4:=hl;obtain ⟨a1,b1,c1,e1,rfl⟩:∃ a b c e,σ'=[a,b,c,e]:=by
     match σ',J with
     | [a,b,c,e],_=>exact ⟨a,b,c,e,rfl⟩
    exact ⟨_,zr,cA mg "NoWorth",0,_,true,zr,O,T.q27.isi,.inr ⟨_,zr,T.q27.veI⟩,q _ s'⟩
theorem qkf (a b:Str):eqV (.str a) (.str b)=decide (a=b):=by
 show (a==b)=_;by_cases h:a=b <;> simp [h]
theorem qps (x:Str) (J:List Str):inV (.str x) (J.map V.str)=decide (x∈J):=by
 unfold inV;rw [z2k,z2b,decide_eq_true_iff]
 constructor
 ·rintro ⟨y,hy,h⟩;obtain ⟨z,hz,rfl⟩:=z3m.mp hy;rw [qkf] at h;have:=of_decide_eq_true h;exact this ▸ hz
 ·intro h;exact ⟨.str x,z3m.mpr ⟨x,h,rfl⟩,by rw [qkf];simp⟩
theorem qnl (ws:List Str):(ws.map V.str).all q62=true:=by
 rw [z29];intro x hx;obtain ⟨z,_,rfl⟩:=z3m.mp hx;rfl
def q7a (g:PR ->Option Tab) (n:Str) (q:PR):Bool:=match g q with
 | none=>false
 | some Y=>(Y.map λ kv=>decide (n∈kv.1)).any id
theorem qnm {g:PR ->Option Tab} {n:Str} {q:PR}:q7a g n q=true↔Brs g n q:=by
 unfold q7a Brs;cases e:g q with
 | none=>exact ⟨(λ z=>nomatch z),λ ⟨_,z,_⟩=>nomatch z⟩
 | some Y=>
  show ((Y.map λ kv=>decide (n∈kv.1)).any id)=true↔_;rw [z2b]
  constructor
  ·rintro ⟨b,hb,e⟩;obtain ⟨kv,J,rfl⟩:=z3m.mp hb;exact ⟨Y,zr,kv,J,of_decide_eq_true e⟩
  ·rintro ⟨Y',e,kv,J,hn⟩;cases e
   exact ⟨_,z3m.mpr ⟨kv,J,zr⟩,z2w hn⟩
def PrX (H:Hp) (x:V) (p:PR):Prop:=∃ b,x=V.ref b/\NAt H (pN p) (.ref b)
def qup (P:Program) (w:World):Sp:=λ vs H Q _=>∃ (dw:Addr) (n:Str) (Ps:List PR) (g:PR ->Option Tab),vs=[.ref dw,.str n]/\WhyX P w Ps H dw g/\Ps.length<=1000/\(∀ q∈Ps,q2z q)/\
 ∀ L rs H' ks,Same H H' ->H' L=some (.lst rs) ->Paired (PrX H') rs ((Tim.srt prLt ks).filter (q7a g n)) ->ks.Nodup ->(∀ q,q∈ks↔∃ Y,g q=some Y) ->Q (.ref L) H'
theorem qcu (T:Txt K mg):Def P w K mg base 5 "_law_bearing" ["_law_whys","_law_name"] (qup P w):=by
 refine T.qej.ok q4e (λ vs H Q E h=> ?_) λ f cdv A outer s H vs Q E hr h=> ?_
 ·obtain ⟨dw,n,Ps,g,rfl,_⟩:=h;rfl
 ·obtain ⟨dw,n,Ps,g,rfl,⟨kvs,dd,k2,k3,k4,k5⟩,pl,pg,kk⟩:=h;refine ⟨_,(q63
   (qk (i:=2) q4e.nd rfl (Or.inl rfl) (q1n q2k))
   (q23 PassesOwn.never rfl (q1l K (q5e P w K (qat T) hr rfl rfl T.q4x q3x rfl (pa_1 (pv 0)))) (qm (i:=3) q4e.nd rfl (Or.inl rfl)) (qe (qx (q34 (qt (qf5 rfl K) rfl T.b_any qmn (pa_1 (q2f (N:=["_law_product","_law_many","_law_name"]) (caps:=[none,none,some 1]) rfl (by with_unfolding_all rfl) (q1l K (qa0 (P:=P) (w:=w) hr.units (pv 0) (pv 3) (λ _ _=>rfl))) (λ _ _ _ _ _=>(qdg K (n:=2) rfl (q1r (qm (i:=0) (show (["_law_product","_law_many","_law_name"]:List Str).Nodup by decide+kernel) rfl (Or.inl rfl)) (q1r (qm (i:=1) (show (["_law_product","_law_many","_law_name"]:List Str).Nodup by decide+kernel) rfl (Or.inl rfl)) q4j)))) (λ _ _ _ _ _=>q37) (λ _ _ _ _ _=>(q30 (qtn K) (pv 2) (pv 0) (by with_unfolding_all rfl))))))) (qe (q28 (qgp z0g z0b z0c q56 (pv 2) (pa_1 (pv 3))))) ql)))
   (qg (pv 2))),?_⟩
  refine ⟨by decide,λ L hL=> ?_⟩;have s0:=qd (o:=HO.lst []) hL;have e0:=q5 (H:=H) (a:=L) (o:=HO.lst []);generalize upd H L (.lst [])=H0 at*;refine ⟨_,zr,dw,kvs,lkD,prLt,zr,DN.same s0 dd,q6s,λ a _ b _=>qni a b,λ a _=>⟨⟨_,_,zr⟩,z3i (qic a) (by decide)⟩,λ a ha b H2 R s2 hb k=>⟨b,a,zr,hb,pg a (k3 a ha),k⟩,λ l zs H2 s2 l0 l1 pz=> ?_⟩;have a2:∀ q,q∈kvs.map (·.1)↔∃ Y,g q=some Y:=λ q=>by
   rw [kval4]
   constructor
   ·rintro ⟨v,hv⟩;cases gq:g q with
    | none=>
     rw [k4 q gq] at hv;cases hv
    | some Y=>exact ⟨Y,rfl⟩
   ·rintro ⟨Y,gq⟩;obtain ⟨l,hl,_⟩:=k5 q Y gq;exact ⟨_,hl⟩
  have mS:∀ q,q∈Tim.srt prLt (kvs.map (·.1))↔∃ Y,g q=some Y:=λ q=>((Tim.q14 prLt _).mem_iff).trans (a2 q);have lS:(Tim.srt prLt (kvs.map (·.1))).length<=1000:=by
   rw [qed,z2l];exact q5c k2 k3 pl
  have kk:=λ L O H'=>kk L O H' (kvs.map (·.1));have s3:=qd (o:=HO.lst zs) l1;have a3:=q5 (H:=H2) (a:=l) (o:=HO.lst zs);have S3:=s2.trans s3;have SH:=s0.trans S3;have e3:=S3 _ _ e0;generalize upd H2 l (.lst zs)=H3 at*;generalize Tim.srt prLt (kvs.map (·.1))=S at*;have zl:=Paired.length pz;refine ⟨l,rfl,⟨_,SqL.of a3⟩,q2t (xs:=zs) (λ i σ G=>∃ v O,σ=[some (.ref dw),some (.str n),some (.ref L),v]/\Same H G/\G l=some (.lst zs)/\G L=some (.lst O)/\O.length<=i/\Paired (PrX H3) O ((S.take i).filter (q7a g n))/\∀ a o,a≠L ->H3 a=some o ->G a=some o) ⟨none,[],rfl,SH,a3,e3,z3p _,.nil,λ a o _ e=>e⟩ (λ i σ G _ z=> ?_) ?_ ?_⟩
  ·obtain ⟨_,_,_,_,h,_⟩:=z;exact SqL.of h
  ·rintro i x σ G hx ⟨v,O,rfl,sg,Z,J,rl,pr,sL⟩;obtain ⟨q,hq,b,rfl,hb⟩:=q1h pz hx;have il:=(z06.mp hq).1;obtain ⟨Y,gq⟩:=(mS q).mp (z11 hq);obtain ⟨l2,vl,wl⟩:=k5 q Y gq;have qP:q∈Ps:=k3 q (q7o vl);have a1:NAt H3 (pN q) (.ref b):=hb.same S3;have a7:NAt G (pN q) (.ref b):=a1.keep λ c ys e=>sL c _ (λ z=>by rw [z,e3] at e;cases e) e;obtain ⟨xs,U,a4,a8⟩:=wl.same sg;have xl:=Paired.length a4;refine ⟨_,zr,_,zr,dw,b,_,pN q,_,zr,zr,DN.same sg dd,a7,q4g (pg q qP),(valP kvs q).trans vl,l2,zr,⟨_,SqL.of U⟩,λ D hD=> ?_⟩;refine q2g xs.length (λ i σ' H'=>(∃ v1 v2,σ'=[v1,v2,some (.str n)])/\Same G H'/\H' D=some (.lst (((Y.take i).map λ kv=>decide (n∈kv.1)).map V.bl))) ⟨⟨_,_,zr⟩,qd hD,q5⟩ (λ i σ' H' hi p=> ?_) (λ σ' H' p=>⟨?_,?_⟩) (λ i σ' H' hi p x H2 y=> ?_)
   ·obtain ⟨_,sm,_⟩:=p;exact ⟨_,_,SqL.of (sm _ _ U),z0a hi⟩
   ·obtain ⟨_,sm,_⟩:=p;exact ⟨_,SqL.of (sm _ _ U),z3p _⟩
   ·obtain ⟨_,sm,e⟩:=p;rw [xl,z2e] at e;have eB:(Y.map λ kv=>decide (n∈kv.1)).any id=q7a g n q:=by
     unfold q7a;rw [gq]
    refine ⟨D,_,zr,SqL.of e,_,zr,?_⟩;rw [eB];have tk:S.take (i+1)=S.take i++ [q]:=by rw [z31,hq];rfl
    have a5:∀ a o,a≠L ->H3 a=some o ->H' a=some o:=λ a o n e=>sm _ _ (sL a o n e);cases eb:q7a g n q with
    | false=>
     refine qj rfl ⟨_,O,zr,sg.trans sm,sm _ _ Z,sm _ _ J,Nat.le_succ_of_le rl,?_,a5⟩;rw [tk,z1k,List.filter_cons_of_neg (by rw [eb];exact z1b),List.filter_nil,z2m];exact pr
    | true=>
     have b3:l≠L:=λ z=>by
      rw [z,e0] at l0;cases l0
     refine q16 rfl ⟨_,rfl,.inl ⟨rfl,_,SqL.of (sm _ _ J)⟩,_,rfl,L,_,_,rfl,rfl,sm _ _ J,q15 (by lia),_,O++ [.ref b],rfl,(sg.trans sm).set hL,by rw [qh b3];exact sm _ _ Z,q5,by rw [z1e];exact z2c rl,?_,λ a o na e=> ?_⟩
     ·rw [tk,z1k,List.filter_cons_of_pos eb,List.filter_nil];exact Paired.snoc pr ⟨b,zr,a1⟩
     ·rw [qh na];exact a5 a o na e
   ·obtain ⟨⟨v1,v2,rfl⟩,sm,e⟩:=p;obtain ⟨rfl,hx⟩:=y;have b6:=hx _ (SqL.of (sm _ _ U));obtain ⟨kv,a9,b4⟩:=q1h a4 b6;obtain ⟨qa,b2,rfl,b5,a6⟩:=b4.keep (Same.keepT sm);have b7:=a8.1;refine ⟨_,_,zr,SqT.of b5,zr,_,_,zr,_,_,zr,zr,?_⟩;refine ⟨_,zr,_,zr,b2,_,zr,.inr (SqT.of a6),zr,qnl _,_,e,?_,⟨_,_,zr⟩,sm.set hD,?_⟩
    ·rw [z2l,z2l,z22];exact q15 (by lia)
    ·rw [q5,z31,a9,z2q,z2q];show some (HO.lst (_++ [V.bl (inV (V.str n) (kv.1.map V.str))]))=_;rw [qps];rfl
  ·rintro σ G ⟨v,O,rfl,sg,Z,J,rl,pr,sL⟩;rw [zl,z2e] at pr;refine ⟨_,rfl,kk L O G sg J (Paired.mapP pr λ _ _ ⟨b,e,h⟩=>⟨b,e,h.keep λ c ys e=>sL c _ (λ z=>by rw [z,e3] at e;cases e) e⟩) k2 a2⟩
def setG (g:PR ->Option Tab) (q:PR) (Y:Tab):PR ->Option Tab:=λ x=>if x=q then (if Y=[] then none else some Y) else g x
theorem qcv (T:Txt K mg):MDef P w K mg base 6 (cA mg "Ledger") "enter" ["self","table","row","why"] (λ vs H Q _=>qne P w mg vs H Q λ _ _ _=>False):=(q6v T).toD
theorem qcw (T:Txt K mg):MDef P w K mg base 9 (cA mg "Ledger") "price" ["self","name","worth"] (λ vs H Q _=>qnd P w K mg vs H Q λ _ _ _=>False):=(q6u T).toD
theorem KeepN.tp {H H':Hp} {b:Addr} {xs:List V} (h:KeepN H H') (e:H b=some (.tup xs)):H' b=some (.tup xs):=h b (.tup xs) True.intro e
theorem KeepN.ls {H H':Hp} {b:Addr} {xs:List V} (h:KeepN H H') (e:H b=some (.lst xs)):H' b=some (.lst xs):=h b (.lst xs) True.intro e
structure Law75 (P:Program) (w:World) (mg:Str ->Option Value) (W:List Str) (Ps:List PR) (H0 H:Hp) (A:LA) (k:K4) (dp dw:Addr) (f:Str ->Option V) (g:PR ->Option Tab) (bks:List (Key×V)):Prop where
 led:Led P w mg W Ps H A k f g bks
 lw:WhyX P w Ps H dw g
 lp:PriX W H dp f
 nw:¬ foot A bks dw
 np:¬ foot A bks dp
 kn:KeepN H0 H
 yp:∀ q Y,g q=some Y ->YP Y
theorem Led.same {W:List Str} {Ps:List PR} {H H':Hp} {A:LA} {k:K4} {f:Str ->Option V} {g:PR ->Option Tab} {bks:List (Key×V)} (L:Led P w mg W Ps H A k f g bks) (s:Same H H'):Led P w mg W Ps H' A k f g bks:=⟨L.led.same s,L.g15,L.sm⟩
theorem Law75.same {W:List Str} {Ps:List PR} {O H H':Hp} {A:LA} {k:K4} {dp J:Addr} {f:Str ->Option V} {g:PR ->Option Tab} {bks:List (Key×V)} (L:Law75 P w mg W Ps O H A k dp J f g bks) (s:Same H H'):Law75 P w mg W Ps O H' A k dp J f g bks:=by
 have e1:H' J=H J:=by
  obtain ⟨_,d,_⟩:=L.lw;obtain ⟨φ,e⟩:=q1v d;rw [e,s _ _ e]
 have e2:H' dp=H dp:=by
  obtain ⟨_,e,_⟩:=L.lp;rw [e,s _ _ e]
 exact ⟨L.led.same s,L.lw.keep (.of s) e1,L.lp.keep e2,L.nw,L.np,L.kn.trans (.of s),L.yp⟩
theorem PriX.vp {W:List Str} {H:Hp} {d:Addr} {f:Str ->Option V} (h:PriX W H d f):Vp H d f:=let ⟨kvs,h1,_,_,h4⟩:=h;⟨kvs,.inl h1,h4⟩
def qsw (P:Program) (w:World) (mg:Str ->Option Value):Sp:=λ vs H Q _=>∃ (W:List Str) (Ps:List PR) (H0:Hp) (A:LA) (k:K4) (dp dw:Addr) (f:Str ->Option V) (g:PR ->Option Tab) (bks:List (Key×V)) (q:PR) (a l:Addr) (Y:Tab),vs=[.ref A.p,.ref a,.ref l,.ref dw,.ref dp]/\Law75 P w mg W Ps H0 H A k dp dw f g bks/\q∈Ps/\NAt H (pN q) (.ref a)/\WA H l Y/\YSm W Y/\YP Y/\
 (∀ H' g' bks',Law75 P w mg W Ps H0 H' A k dp dw f g' bks' ->KeepN H H' ->Q (.bl true) H')
theorem qcx (T:Txt K mg):Def P w K mg base 11 "_law_entered" ["_law_ledger","_law_pair","_law_why_here","_law_whys","_law_prices"] (qsw P w mg):=by
  refine T.qeq.ok qcp (λ vs H Q E h=> ?_) λ f cdv A outer s H vs Q E hr h=> ?_
  · obtain ⟨W,Ps,H0,A,k,dp,J,f,g,bks,q,a,l,Y,rfl,_⟩:=h
    rfl
  · obtain ⟨W,Ps,H0,A,k,dp,J,O,g,bks,q,a,l,Y,rfl,L,qP,hq,wl,ys,yp,kk⟩:=h
    have d6:NOk (pN q):=q4g (L.led.led.pg q qP);obtain ⟨kp,a7,p2,p3,p4⟩:=L.lp;obtain ⟨kw,dd,w2,w3,w4,w5⟩:=L.lw;obtain ⟨r,c9,d0⟩:=pr_at.mp hq;refine qde 3 (λ σ G=>σ=[some (.ref A.p),some (.ref a),some (.ref l),some (.ref J),some (.ref dp)]/\Pcd O Y/\(∀ b o,b≠J ->H b=some o ->G b=some o)/\KeepN H G/\LedX P w mg W Ps G A k O g (wrs k O g) (Brs g) bks/\WhyX P w Ps G J (setG g q Y)) ⟨_,(qe (qg (q30 q55 (q6b (qcv T) T.qi hr (pv 0) (pa_3 (qy (q21 K) (pv 1) qb (λ _ _=>rfl)) (qy (q21 K) (pv 1) qb (λ _ _=>rfl)) (q25 (q8b K) rfl T.q9r q7r (pa_1 (pv 2))))) q1u (qo _)))),?_⟩ (λ u hu hC=>⟨_,(qqd
      (qx (q6d (q34 (qt (q71 rfl K) rfl T.b_all qc9 (pa_1 (q2f (N:=["_law_product","_law_many","_law_prices"]) (caps:=[none,none,some 4]) rfl (by with_unfolding_all rfl) (q1l K (pv 2)) (λ _ _ _ _ _=>(qdg K (n:=2) rfl (q1r (qm (i:=0) (show (["_law_product","_law_many","_law_prices"]:List Str).Nodup by decide+kernel) rfl (Or.inl rfl)) (q1r (qm (i:=1) (show (["_law_product","_law_many","_law_prices"]:List Str).Nodup by decide+kernel) rfl (Or.inl rfl)) q4j)))) (λ _ _ _ _ _=>q37) (λ _ _ _ _ _=>(qt (q71 rfl K) rfl T.b_all qc9 (pa_1 (q2f (N:=["_law_name","_law_prices"]) (caps:=[none,some 2]) rfl (by with_unfolding_all rfl) (q69 K (pv 0)) (λ _ _ _ _ _=>(qm (i:=0) (show (["_law_name","_law_prices"]:List Str).Nodup by decide+kernel) rfl (Or.inl rfl))) (λ _ _ _ _ _=>q37) (λ _ _ _ _ _=>(qt3 (qte (q3c hr) (pv 0) (pv 1))))))))))))) (qe (qg (qv (q79 T) hr rfl (pa_3 (pv 0) q2o (qf qrv (pv 1) (q1x (pa_1 (pv 2)))))))) ql)
      (q7v (P:=P) (w:=w) hr.units (pv 3) (pv 1) (pv 2) rfl)
      (qx (qr (qtr hr.units K) (pv 2) (q1n q2k) (qo _)) (qe (q28 (qa2 (P:=P) (w:=w) hr.units (pv 3) (pv 1) ⟨rfl,rfl,rfl,rfl⟩))) ql)
      hu),?_⟩)
    · rintro σ G ⟨rfl,pc,keep,kn,LG,wG⟩
      have a5:=kn.wa wl;have b3:=kn.tp c9;have U:=a5.lst;refine ⟨_,zr,A.p,A.dx,_,zr,LG.ins,zr,_,zr,_,_,_,_,zr,zr,SqT.of b3,q1b (j:=0) rfl,_,zr,_,_,_,_,zr,zr,SqT.of b3,q1b (j:=1) rfl,_,zr,l,_,zr,.inl (SqL.of U),λ c hc=> ?_⟩;have s2:=qd (o:=HO.lst a5.xs) hc;have wC:=a5.copy hc;have LC:=LG.same s2;have c7:G dp=some (.dK kp):=keep dp _ (λ z=>by
        obtain ⟨φ,e⟩:=q1v dd;rw [z,e] at a7;cases a7) a7
      have b7:WhyX P w Ps (upd G c (.lst a5.xs)) J (setG g q Y):=by
        have f2:=wG;obtain ⟨_,d2,_⟩:=f2;obtain ⟨φ,e⟩:=q1v d2;exact wG.keep (.of s2) (by rw [e,s2 _ _ e])
      have a9:=s2 _ _ c7;have Z:=kn.trans (.of s2);generalize upd G c (.lst a5.xs)=G2 at*;refine ⟨W,Ps,A,k,O,g,bks,q,Y,r,c,zr,⟨LC,L.led.g15,L.led.sm⟩,qP,Z.tp d0,wC,ys,(λ _ H' a3 LH ch gr=> ?_),λ un=> ?_⟩
      · refine ⟨zr,?_⟩
        have f0:¬ foot A a3 J:=λ z=>by
          rcases gr J z with h | h
          · exact L.nw h
          · obtain ⟨_,d2,_⟩:=b7
            obtain ⟨φ,e⟩:=q1v d2;rw [e] at h;cases h
        have e8:¬ foot A a3 dp:=λ z=>by
          rcases gr dp z with h | h
          · exact L.np h
          · rw [a9] at h
            cases h
        have a1:=ch.kn LC;refine kk H' (setG g q Y) a3 ⟨LH,b7.keep a1 ?_,⟨kp,ch dp _ L.np a9,p2,p3,p4⟩,f0,e8,L.kn.trans (Z.trans a1),λ x Y' e=> ?_⟩ (Z.trans a1)
        · obtain ⟨_,d2,_⟩:=b7
          obtain ⟨φ,e⟩:=q1v d2;rw [e,ch J _ L.nw e]
        · unfold setG at e
          by_cases ex:x=q
          · rw [if_pos ex] at e
            by_cases ey:Y=[]
            · rw [if_pos ey] at e
              cases e
            · rw [if_neg ey] at e
              cases e
              exact yp
          · rw [if_neg ex] at e
            exact L.yp x Y' e
      · obtain ⟨p,hp,n,hn,e⟩:=un
        obtain ⟨v,hv⟩:=pc p hp n hn;rw [e] at hv;cases hv
    · obtain ⟨xs,U,b4,c5⟩:=wl
      have wl:WA H l Y:=⟨xs,U,b4,c5⟩;have xl:=Paired.length b4;have f7:=c5.1;refine ⟨_,zr,l,zr,⟨_,SqL.of U⟩,λ D hD=> ?_⟩;refine q2g xs.length (λ i σ' H'=>(∃ v1 v2,σ'=[v1,v2,some (.ref dp)])/\Same H H'/\H' D=some (.lst (((Y.take i).map λ kv=>(kv.1.map λ n=>(O n).isSome).all id).map V.bl))) ⟨⟨_,_,zr⟩,qd hD,q5⟩ (λ i σ' H' hi p=> ?_) (λ σ' H' p=>⟨?_,?_⟩) (λ i σ' H' hi p x H2 y=> ?_)
      · obtain ⟨_,sm,_⟩:=p
        exact ⟨_,_,SqL.of (sm _ _ U),z0a hi⟩
      · obtain ⟨_,sm,_⟩:=p
        exact ⟨_,SqL.of (sm _ _ U),z3p _⟩
      · obtain ⟨_,sm,e⟩:=p
        rw [xl,z2e] at e;refine ⟨D,_,zr,SqL.of e,_,zr,?_⟩;have d7:((Y.map λ kv=>(kv.1.map λ n=>(O n).isSome).all id).all id=true/\Pcd O Y)\/ ((Y.map λ kv=>(kv.1.map λ n=>(O n).isSome).all id).all id=false/\∃ p∈Y,∃ n∈p.1,O n=none):=by
          cases eb:(Y.map λ kv=>(kv.1.map λ n=>(O n).isSome).all id).all id with
          | true=>
            refine .inl ⟨zr,λ p hp n hn=> ?_⟩;rw [z29] at eb;have h1:=eb _ (z3m.mpr ⟨p,hp,rfl⟩);have h1:(p.1.map λ n=>(O n).isSome).all id=true:=h1;rw [z29] at h1;have h2:(O n).isSome=true:=h1 _ (z3m.mpr ⟨n,hn,rfl⟩);exact Option.isSome_iff_exists.mp h2
          | false=>
            refine .inr ⟨zr,?_⟩;obtain ⟨b,hb,eb⟩:=List.all_eq_false.mp eb;obtain ⟨p,hp,rfl⟩:=z3m.mp hb;have eb:¬ (p.1.map λ n=>(O n).isSome).all id=true:=eb;obtain ⟨b,hb,eb⟩:=List.all_eq_false.mp (Bool.eq_false_iff.mpr eb);obtain ⟨n,hn,rfl⟩:=z3m.mp hb;have eb:¬ (O n).isSome=true:=eb;exact ⟨p,hp,n,hn,by
              cases en:O n with
              | none=>rfl
              | some v=>
                rw [en] at eb;exact absurd rfl eb⟩
        rcases d7 with ⟨eb,pc⟩ | ⟨eb,un⟩
        · rw [eb]
          refine qj rfl ?_;have Ls:=L.same sm;have e4:=hq.same sm;have wls:=wl.same sm;have SH:=sm;obtain ⟨kw,dd,w2,w3,w4,w5⟩:=Ls.lw;refine ⟨_,rfl,_,rfl,_,rfl,J,a,_,pN q,rfl,rfl,dd,e4,d6,by rw [z2l];exact Nat.lt_of_le_of_lt (q5c w2 w3 L.led.led.pl) (by decide),λ o dn=> ?_⟩;rw [putP] at dn;obtain ⟨φ,c1⟩:=q1v dd;have d5:KeepN H' (upd H' J o):= .up c1 λ z=>z;have Lu:LedX P w mg W Ps (upd H' J o) A k O g (wrs k O g) (Brs g) bks:=Ls.led.led.else_ c1 (λ z=>z) L.nw;have b5:∀ b o',b≠J ->H b=some o' ->upd H' J o b=some o':=λ b o' n e=>by
            rw [qh n];exact sm _ _ e
          have b6:KeepN H (upd H' J o):=(KeepN.of sm).trans d5;have wU:WhyX P w Ps (upd H' J o) J (λ x=>if x=q then some Y else g x):=by
            refine ⟨_,dn,q2v w2,(λ y hy=>(q1y.mp hy).elim (w3 y) λ e=>by rw [e];exact qP),(λ y hy=> ?_),λ y Y' hy=> ?_⟩
            · replace hy:(if y=q then some Y else g y)=none:=hy
              by_cases e:y=q
              · rw [if_pos e] at hy
                cases hy
              · rw [if_neg e] at hy
                rw [q1w,if_neg e];exact w4 y hy
            · replace hy:(if y=q then some Y else g y)=some Y':=hy
              rw [q1w];by_cases e:y=q
              · rw [if_pos e] at hy ⊢
                cases hy
                exact ⟨l,zr,b6.wa wl⟩
              · rw [if_neg e] at hy ⊢
                obtain ⟨l',e1,e2⟩:=w5 y Y' hy;exact ⟨l',e1,d5.wa e2⟩
          generalize upd H' J o=G1 at*;refine ⟨_,zr,by decide,λ e he=> ?_⟩;have s3:=qd (o:=HO.lst []) he;have w1:=(b6.wa wl).same s3;have d8:=q5 (H:=G1) (a:=e) (o:=HO.lst []);have a4:∀ b o',b≠J ->H b=some o' ->upd G1 e (.lst []) b=some o':=λ b o' n x=>s3 _ _ (b5 b o' n x);have b9:=Lu.same s3;have Z:=b6.trans (.of s3);have b8:WhyX P w Ps (upd G1 e (.lst [])) J (λ x=>if x=q then some Y else g x):=by
            have f6:=wU;obtain ⟨_,d2,_⟩:=f6;obtain ⟨φ,e⟩:=q1v d2;exact wU.keep (.of s3) (by rw [e,s3 _ _ e])
          generalize upd G1 e (.lst [])=G2 at*;refine ⟨.list (whyD Y),.list [],w1.dat,.lst (SqL.of d8) .nil,qfe Y,_,zr,?_⟩;by_cases ey:Y=[]
          · have eb:PyData.eqv (.list (whyD Y)) (.list [])=true:=by rw [ey];rfl
            rw [eb];refine iteT ?_;obtain ⟨e7,d2,v2,v3,v4,v5⟩:=b8;obtain ⟨l9,e9,_⟩:=v5 q Y (show (if q=q then some Y else g q)=some Y from if_pos rfl);have d3:=Z.nat hq;refine ⟨_,zr,J,zr,⟨_,d2⟩,_,zr,a,_,pN q,_,zr,d2,d3,d6,(valP e7 q).trans e9,λ o2 c0=> ?_⟩;rw [qgs] at c0;obtain ⟨φ2,a8⟩:=q1v d2;have a1:KeepN G2 (upd G2 J o2):= .up a8 λ z=>z;refine hC _ _ ⟨rfl,pc,λ b o' n x=>by rw [qh n];exact a4 b o' n x,Z.trans a1,b9.else_ a8 (λ z=>z) L.nw,⟨_,c0,q4l v2,(λ y hy=>v3 y (q4h.mp hy).1),(λ y hy=> ?_),λ y Y' hy=> ?_⟩⟩
            · rw [q6t]
              by_cases e:y=q
              · rw [if_pos e]
              · rw [if_neg e]
                refine v4 y ?_;unfold setG at hy;show (if y=q then some Y else g y)=none;rw [if_neg e] at hy ⊢;exact hy
            · unfold setG at hy
              by_cases e:y=q
              · rw [if_pos e,if_pos ey] at hy
                cases hy
              · rw [if_neg e] at hy
                rw [q6t,if_neg e];obtain ⟨l',e1,e2⟩:=v5 y Y' (by show (if y=q then some Y else g y)=_;rw [if_neg e];exact hy);exact ⟨l',e1,a1.wa e2⟩
          · have eb:PyData.eqv (.list (whyD Y)) (.list [])=false:=by
              cases Y with
              | nil=>exact absurd rfl ey
              | cons a r=>rfl
            rw [eb];have eg:setG g q Y=λ x=>if x=q then some Y else g x:=by
              funext x
              unfold setG;rw [if_neg ey]
            rw [<- eg] at b8;exact iteF (hC _ _ ⟨zr,pc,a4,Z,b9,b8⟩)
        · rw [eb]
          refine q16 rfl ?_;have Ls:=L.same sm;refine ⟨_,rfl,_,rfl,_,rfl,by show 1<=sizeLine;decide,λ b hb=> ?_⟩;have s2:=qd (o:=HO.tup [V.ref l]) hb;have S2:=sm.trans s2;refine ⟨a,b,_,_,rfl,rfl,S2 _ _ c9,q5,by show 2+1<=sizeLine;decide,λ c H5 s5 hc=> ?_⟩;have S5:=S2.trans s5;refine ⟨W,Ps,A,k,O,g,bks,"enter",c,zr,L.led.same S5,λ H6 s6=> ?_,.inr ⟨zr,q,r,l,Y,SqT.of hc,qP,S5 _ _ d0,wl.same S5,ys,un⟩⟩;exact kk H6 g bks (L.same (S5.trans s6)) (.of (S5.trans s6))
      · obtain ⟨⟨v1,v2,rfl⟩,sm,e⟩:=p
        obtain ⟨rfl,hx⟩:=y;have e5:=hx _ (SqL.of (sm _ _ U));obtain ⟨kv,c8,d9⟩:=q1h b4 e5;obtain ⟨qa,b2,rfl,e0,a6⟩:=d9.keep (Same.keepT sm);have hm:=z11 c8;have k3:=(ys kv hm).1;refine ⟨_,_,zr,SqT.of e0,zr,_,_,zr,_,_,zr,zr,?_⟩;refine ⟨_,zr,b2,zr,⟨_,SqT.of a6⟩,λ D2 c4=> ?_⟩;refine q2g (kv.1.map V.str).length (λ i σ' H'=>(∃ v,σ'=[v,some (.ref dp)])/\Same H2 H'/\H' D2=some (.lst (((kv.1.take i).map λ n=>(O n).isSome).map V.bl))) ⟨⟨_,zr⟩,qd c4,q5⟩ (λ i σ' H' hi p=> ?_) (λ σ' H' p=>⟨?_,?_⟩) (λ i σ' H' hi p x H3 y=> ?_)
        · obtain ⟨_,sm,_⟩:=p
          exact ⟨_,_,SqT.of (sm _ _ a6),z0a hi⟩
        · obtain ⟨_,sm,_⟩:=p
          exact ⟨_,SqT.of (sm _ _ a6),z3p _⟩
        · obtain ⟨_,a2,e2⟩:=p
          rw [z2l,z2e] at e2;refine ⟨D2,_,zr,SqL.of e2,_,a2 _ _ e,?_,⟨_,_,zr⟩,(sm.trans a2).set hD,?_⟩
          · rw [z2l,z2l,z22]
            exact q15 (by lia)
          · rw [q5,z31,c8,z2q,z2q]
            rfl
        · obtain ⟨⟨v,rfl⟩,a2,e2⟩:=p
          obtain ⟨rfl,e6⟩:=y;have d4:=e6 _ (SqT.of (a2 _ _ a6));rw [z1s] at d4;obtain ⟨n,hn,rfl⟩:=z0l.mp d4;have c6:=DGet.k (k:=Sum.inr n) ((sm.trans a2) _ _ a7);rw [p4] at c6;refine ⟨_,zr,_,zr,dp,_,zr,c6,_,e2,?_,⟨_,zr⟩,a2.set c4,?_⟩
          · rw [z2l,z2l,z22]
            exact q15 (by lia)
          · rw [q5,z31,hn,z2q,z2q]
            rfl
def sp_law (K:PySem.W.Frag):Sp:=λ vs H Q _=>∃ (a:Addr) (ns:List Int),vs=[.ref a]/\SqL K H a (ns.map V.int)/\ns.length<=63/\∀ H',Q (.bl true) H'
def pdD (p:PR):PyData:= .tuple [.str p.1,.tuple (p.2.map valD)]
theorem qcy:∀ ks:List Key,PyData.depthAll (ks.map valD)=0
 | []=>rfl
 | k::ks=>by
  show max (valD k).depth (PyData.depthAll (ks.map valD))=0;rw [qcy ks];cases k <;> rfl
theorem q9q {K:PySem.W.Frag} {H:Hp}:∀ {ks:List Key},(∀ k∈ks,GoodK k) ->Dats K H (ks.map valD) (ks.map kV)
 | [],_=> .nil
 | k::ks,h=> .cons (qdy (h k (z1f ..)).ok) (q9q λ x hx=>h x (z0z _ hx))
theorem quq {K:PySem.W.Frag} {H:Hp} {p:PR} {b:Addr} (g:q2z p) (h:NAt H (pN p) (.ref b)):Dat K H (pdD p) (.ref b):=by
 obtain ⟨q,h1,h2⟩:=pr_at.mp h;exact .tup (SqT.of h1) (.cons (.str _ (GoodK.tx (k:= .inr p.1) g.1).2) (.cons (.tup (SqT.of h2) (q9q g.2.2)) .nil))
theorem q81 {K:PySem.W.Frag} {H:Hp}:∀ {zs:List V} {ps:List PR},Paired (PrX H) zs ps ->(∀ p∈ps,q2z p) ->Dats K H (ps.map pdD) zs
 | _,_,.nil,_=> .nil
 | _,_,.cons ⟨b,e,h⟩ r,g=>by
  subst e;exact .cons (quq (g _ (z1f ..)) h) (q81 r λ x hx=>g x (z0z _ hx))
theorem qfm (ps:List PR):(PyData.list (ps.map pdD)).depth<=60:=by
 have:PyData.depthAll (ps.map pdD)<=2:=by
  induction ps with
  | nil=>exact z3s _
  | cons p ps ih=>
   refine Nat.max_le.mpr ⟨?_,ih⟩;show max 0 (max (PyData.depthAll (p.2.map valD)+1) 0)+1<=2;rw [qcy];decide
 exact z3i (z2c this) (by decide)
theorem qpt {ks J:List PR} (h1:ks.Nodup) (h2:J.Nodup) (h:∀ q,q∈ks↔q∈J):Tim.srt prLt ks=Tim.srt prLt J:=
 Tim.qhm q6s ((Tim.q14 prLt ks).trans ((List.perm_ext_iff_of_nodup h1 h2).mpr h)) (Tim.q7s q6s ks)
theorem qpu {ks J:List PR} {b:PR ->Bool} (h1:ks.Nodup) (h2:J.Nodup) (h:∀ q,q∈J↔q∈ks/\b q=true):(Tim.srt prLt ks).filter b=Tim.srt prLt J:=by
 refine Tim.qhm q6s ((List.perm_ext_iff_of_nodup (((Tim.q14 prLt ks).nodup_iff.mpr h1).sublist List.filter_sublist) h2).mpr λ q=> ?_) ((Tim.q7s q6s ks).sublist List.filter_sublist);rw [z2i,(Tim.q14 prLt ks).mem_iff];exact (h q).symm
theorem qvu {c t:Int} (h0:0<=c) (h4:c < 4) (J:0<=t):∃ k:K4,q65 k=c/\Top4 k t:=by
 by_cases e0:c=0
 ·exact ⟨.counts,e0.symm,J,λ _ z=>nomatch z⟩
 by_cases e1:c=1
 ·exact ⟨.costs,e1.symm,J,λ _ z=>nomatch z⟩
 by_cases e2:c=2
 ·exact ⟨.trusts t,e2.symm,J,λ _ z=>(K4.trusts.inj z).symm⟩
 exact ⟨.truths,by show 3=c;lia,J,λ _ z=>nomatch z⟩
theorem q5d {H:Hp} {x dx C:Addr} {fs:List (Str×V)} (nx:H x=none) (J:H dx=none):Same H (upd (upd H dx (.own x)) x (.ins C dx fs)):=λ c o e=>by
 rw [qh (q19 e nx),qh (q19 e J)];exact e
theorem qkg {K:PySem.W.Frag} {H:Hp} {k:K4} {f:Str ->Option V} {g:PR ->Option Tab} (top:∀ t,k= .trusts t ->0<=t) (wok:∀ p v,wrs k f g p=some v ->Ok4 k v):∀ {zs:List V} {ps:List PR},Paired (TdAt H k f g) zs ps ->(∀ p∈ps,q2z p) ->∃ ds,Dats K H ds zs
 | _,_,.nil,_=>⟨[],.nil⟩
 | _,_,.cons (b:=p) ⟨b,r,e,h1,h2⟩ rr,U=>by
  subst e;have O:=U p (z1f ..);obtain ⟨ds,J⟩:=qkg top wok rr λ x hx=>U x (z0z _ hx);have ok:Ok4 k ((wrs k f g p).getD (no4 k)):=by
   cases e:wrs k f g p with
   | none=>exact q7w top
   | some v=>exact wok p v e
  obtain ⟨d,hd,_⟩:=q7y (K:=K) (H:=H) ok;exact ⟨_,.cons (.tup (SqT.of h1) (.cons (.str _ (GoodK.tx (k:= .inr p.1) O.1).2) (.cons (.tup (SqT.of h2) (q9q O.2.2)) (.cons hd .nil)))) J⟩
theorem qnn {H:Hp} {x dx:Addr} {o1 o2 o3:HO} (nx:H x=none) (J:H dx=none):Same H (upd (upd (upd H dx o1) x o2) x o3):=λ c o e=>by
 rw [qh (q19 e nx),qh (q19 e nx),qh (q19 e J)];exact e
theorem qur {l:PySem.W.OpenLaw} {w:World} {K:PySem.W.Frag} {mg:Str ->Option Value} {fa:Addr} (T:Txt K mg) (o3:mg "law"=some (.ref fa)):
    ∃ fd:FuncData,(∀ (s:Shared) (v:Value),BindsTo s fd ⟨[v],[]⟩ [("_law_script",v)])/\∀ base:Heap,K.In base ->base.Ns mainGlobals mg ->FnOk l.prog w K mg base CX0 13 fa fd ["_law_script"] (sp_law K):=by
  refine T.t_law.fin o3 q2a (λ vs H Q E h=> ?_) λ base f cdv A outer s H vs Q E hr h=> ?_
  · obtain ⟨a,ns,rfl,_⟩:=h
    rfl
  · obtain ⟨a,ns,rfl,hS,nl,q⟩:=h
    refine qde 8 (λ σ G=>∃ (k:K4) (t:Int) (A:LA) (wa pa dp Z:Addr) (O:List Str) (v5:Option V) (us:List Addr) (Ps:List PR),σ=[some (.ref a),some (.int (q65 k)),some (.int t),some (.ref A.p),some (.ref wa),v5,some (.ref pa),some (.ref dp),some (.ref Z),none,none,none,none,none,none]/\Top4 k t/\G wa=some (.lst (O.map V.str))/\O.length=7/\(∀ z∈O,txtB smaS z=true)/\G pa=some (.lst (us.map V.ref))/\us.length=4/\Paired (λ u p=>NAt G (pN p) (.ref u)) us Ps/\SqL K G a (ns.map V.int)/\Law75 l.prog w mg (O.drop 2) Ps G G A k dp Z (λ _=>none) (λ _=>none) []) ⟨_,(qgq
      (q23 PassesOwn.never rfl (qov K rfl T.qji (pa_1 (q35 (q6f K) (pv 0) (q3b qb) (q3b qb)))) (q90 rfl (q1r (qm (i:=9) q2a.nd rfl (Or.inl rfl)) (q1r (qm (i:=10) q2a.nd rfl (Or.inl rfl)) q4j))) (q9z
      (qk (i:=11) q2a.nd rfl (Or.inl rfl) (qy (q11 K) (pv 4) (qf q1a qb (qf q12 (qf q1a (qf q1t (pv 10) qb) (pv 9)) qb)) (λ _ _=>rfl)))
      (qk (i:=12) q2a.nd rfl (Or.inl rfl) (qy (q11 K) (pv 6) (qf q12 (qf q1a (qf q1t (pv 10) qb) (qf q1t (pv 9) qb)) qb) (λ _ _=>rfl)))
      (qx (qr q1s (qf q12 (pv 10) qb) qb (qo _)) (q31
      (q9x (q3c hr) (pv 7) (pv 11) (qv (qg6 T) hr rfl (pa_3 (pv 1) (pv 2) (qf q1a (qf q1t (pv 10) qb) (pv 9)))) rfl)
      (qx (qr (qhl hr.units K) (q6b (qcw T) T.qi hr (pv 3) (pa_2 (pv 11) (q68 (q3c hr) (pv 7) (pv 11) (λ _ _=>rfl)))) (qv (qcu T) hr rfl (pa_2 (pv 8) (pv 11))) (qo _)) (qe (qg q3a)) ql)) (qe (qx (qr q1s (qf q12 (pv 10) qb) qb (qo _)) (qe (qx (q6d (q34 (qv (q79 T) hr rfl (pa_3 (pv 3) q2o (q1x (pa_2 (pv 11) (qv (qbq T) hr rfl (pa_3 (pv 1) (pv 2) (qf q1t (pv 10) qb))))))))) (qe (qg q3a)) ql)) (qe (qx (q6d (q34 (qv (qcx T) hr rfl (pa_5 (pv 3) (pv 12) (qv (qjf T) hr rfl (pa_2 (qf q1t (pv 10) qb) (q35 (q6f K) (pv 4) (q3b qb) q4k))) (pv 8) (pv 7))))) (qe (qg q3a)) ql)))))
      (qx (q6d (q34 (qv (q8q (P:=l.prog) (w:=w) T) hr rfl (pa_2 (q6b (q78 T) T.qi hr (pv 3) (pa_2 (qy (q21 K) (pv 12) qb (λ _ _=>rfl)) (qy (q21 K) (pv 12) qb (λ _ _=>rfl)))) (qv (q8r (P:=l.prog) (w:=w) T) hr rfl (pa_4 (pv 1) (pv 2) (qhv (P:=l.prog) (w:=w) hr.units (pv 8) (pv 12) (q1n q2k) ⟨rfl,rfl,rfl,rfl⟩) (pv 7))))))) (qe (qg q3a)) ql)))
      (qk (i:=13) q2a.nd rfl (Or.inl rfl) (qor (qee T) T.qi hr (pv 3)))
      (qk (i:=14) q2a.nd rfl (Or.inl rfl) (q5e l.prog w K (qat T) hr rfl rfl T.q4x q3x rfl (pa_1 (pv 8))))
      (qx (PW.pt (qkl (q6d (q34 (qt (q26 K) rfl T.q1d q17 (pa_2 (pv 13) (q41 rfl T.q9r q7r))))) (qh8 (qr (qhl hr.units K) (q2f (N:=["_law_entry"]) (caps:=[none]) rfl (by with_unfolding_all rfl) (q1l K (pv 13)) (λ _ _ _ _ _=>(qm (i:=0) (show (["_law_entry"]:List Str).Nodup by decide+kernel) rfl (Or.inl rfl))) (λ _ _ _ _ _=>q37) (λ _ _ _ _ _=>(q35 (qjz K) (pv 0) q4k (q3b qb)))) (pv 14) (qo _))))) (qe (qg q3a)) ql)
      (qg (qt (q71 rfl K) rfl T.b_all qc9 (pa_1 (q2f (N:=["_law_entry","_law_way","_law_top","_law_prices","_law_whys"]) (caps:=[none,some 1,some 2,some 7,some 8]) rfl (by with_unfolding_all rfl) (q1l K (pv 13)) (λ _ _ _ _ _=>(qm (i:=0) (show (["_law_entry","_law_way","_law_top","_law_prices","_law_whys"]:List Str).Nodup by decide+kernel) rfl (Or.inl rfl))) (λ _ _ _ _ _=>q37) (λ _ _ _ _ _=>(qv (q8q (P:=l.prog) (w:=w) T) hr rfl (pa_2 (qy (q21 K) (pv 0) qb (λ _ _=>rfl)) (qv (q8r (P:=l.prog) (w:=w) T) hr rfl (pa_4 (pv 1) (pv 2) (qa0 (P:=l.prog) (w:=w) hr.units (pv 4) (q35 (qjz K) (pv 0) q4k (q3b qb)) (λ _ _=>rfl)) (pv 3))))))))))),?_⟩ (λ u hu hC=>⟨_,(qvd
      (qk (i:=1) q2a.nd rfl (Or.inr rfl) (qf q12 (qv (q32 T) hr rfl (pa_2 (pv 0) qb)) qb))
      (qk (i:=2) q2a.nd rfl (Or.inr rfl) (qf q12 (qv (q32 T) hr rfl (pa_2 (pv 0) qb)) (qf q92 qb qb)))
      (qk (i:=3) q2a.nd rfl (Or.inl rfl) (qty (qec T) T.qnz T.qnx hr rfl T.qq2 (pa_1 (qy (q11 K) (q1n (pa_4 (qb9 T.qno T.qnp T.qns rfl T.qpz) (qb9 T.qpw T.qpy T.qq1 rfl T.qsx) (qtu (qe1 T) T.qny T.qnu hr rfl T.qq0 (pa_1 (pv 2))) (qb9 T.qo1 T.qnv T.qnw rfl T.qpx))) (pv 1) (λ _ _=>rfl)))))
      (qk (i:=4) q2a.nd rfl (Or.inl rfl) (qv (q8p T) hr rfl (pa_2 (qv (q32 T) hr rfl (pa_2 (pv 0) qb)) qb)))
      (qk (i:=5) q2a.nd rfl (Or.inl rfl) (qv (qeg T) hr rfl (pa_1 (qv (q32 T) hr rfl (pa_2 (pv 0) qb)))))
      (qk (i:=6) q2a.nd rfl (Or.inl rfl) (q1n (pa_4 (q1x (pa_2 (qy (q11 K) (pv 4) qb (λ _ _=>rfl)) (q25 (q3k K) rfl T.q82 q6g (pa_1 (q35 (q6f K) (pv 5) q4k (q3b qb)))))) (q1x (pa_2 (qy (q11 K) (pv 4) qb (λ _ _=>rfl)) (q25 (q3k K) rfl T.q82 q6g (pa_1 (q35 (q6f K) (pv 5) q4k (q3b qb)))))) (q1x (pa_2 (qy (q11 K) (pv 4) qb (λ _ _=>rfl)) (q1x q2k))) (q1x (pa_2 (qy (q11 K) (pv 4) qb (λ _ _=>rfl)) (q25 (q3k K) rfl T.q82 q6g (pa_1 (pv 5))))))))
      (qk (i:=7) q2a.nd rfl (Or.inr rfl) q88)
      (qk (i:=8) q2a.nd rfl (Or.inr rfl) (q7u (P:=l.prog) (w:=w)))
      hu),?_⟩)
    · rintro σ G ⟨k,t,A,wa,pa,dp,Z,O,v5,us,Ps,rfl,ht,hw,lw,gw,c7,lu,pu,n6,L⟩
      refine ⟨_,zr,_,zr,_,zr,_,_,zr,n6,λ c1 o0=> ?_⟩;obtain ⟨ms,em,lm⟩:=qp7 ns (some 3) (some 43);have e1:upd G c1 (.lst (cutV (ns.map V.int) (some 3) (some 43))) c1=some (.lst (ms.map V.int)):=by rw [q5,em]
      have s1:=qd (o:=HO.lst (cutV (ns.map V.int) (some 3) (some 43))) o0;have L1:=L.same s1;have o8:=s1 _ _ hw;have i4:=s1 _ _ c7;have q9:Paired (λ u p=>NAt (upd G c1 (.lst (cutV (ns.map V.int) (some 3) (some 43)))) (pN p) (.ref u)) us Ps:=Paired.mapP pu λ _ _ h=>h.same s1;have L1:Law75 l.prog w mg (O.drop 2) Ps (upd G c1 (.lst (cutV (ns.map V.int) (some 3) (some 43)))) (upd G c1 (.lst (cutV (ns.map V.int) (some 3) (some 43)))) A k dp Z (λ _=>none) (λ _=>none) []:=⟨L1.led,L1.lw,L1.lp,L1.nw,L1.np,KeepN.refl _,L1.yp⟩;generalize upd G c1 (.lst (cutV (ns.map V.int) (some 3) (some 43)))=G1 at*;have t0:=ht.1;have p5:(O.drop 2).length=5:=by rw [z23,lw]
      refine ⟨c1,zr,⟨_,SqL.of e1⟩,qmx (K:=K) (xs:=ms.map V.int) (λ i σ F=>∃ (v9 d5 d6 d7:Option V) (f:Str ->Option V) (g:PR ->Option Tab) (bks:List (Key×V)),σ=[some (.ref a),some (.int (q65 k)),some (.int t),some (.ref A.p),some (.ref wa),v5,some (.ref pa),some (.ref dp),some (.ref Z),v9,d5,d6,d7,none,none]/\Law75 l.prog w mg (O.drop 2) Ps G1 F A k dp Z f g bks) ⟨none,none,none,none,_,_,_,zr,L1⟩ (λ i σ F _ z=> ?_) ?_ ?_⟩
      · obtain ⟨_,_,_,_,_,_,_,_,LF⟩:=z
        exact SqL.of (LF.kn.ls e1)
      · rintro i x c σ F hx hc ⟨v9,d5,d6,d7,f,g,bks,rfl,LF⟩
        rw [z1s] at hx;obtain ⟨cell,c5,rfl⟩:=z0l.mp hx;have il:i < ms.length:=(z06.mp c5).1;have sc:=qd (o:=HO.tup [V.int (i:Nat),V.int cell]) hc;have ec:=q5 (H:=F) (a:=c) (o:=HO.tup [V.int (i:Nat),V.int cell]);have LF:=LF.same sc;generalize upd F c (.tup [V.int (i:Nat),V.int cell])=F1 at*;refine ⟨_,_,zr,SqT.of ec,zr,_,_,zr,_,_,zr,zr,?_⟩;have m0:=z2u (cell / 12+(i:Int)) (show (5:Int)≠0 by decide);have m5:=z1m (cell / 12+(i:Int)) (show (0:Int) < 5 by decide);obtain ⟨nm,o4,c0⟩:∃ nm,atI (O.map V.str) (2+(cell / 12+(i:Int))%5)=some (.str nm)/\nm∈O.drop 2:=by
          obtain ⟨j,hj⟩:=z0h m0;rw [hj] at m5 ⊢;have j5:j < 5:=by lia
          have hl:2+j < O.length:=by lia
          refine ⟨O[2+j],?_,?_⟩
          · rw [show (2:Int)+(j:Int)=((2+j:Nat):Int) by lia]
            exact q1b (by rw [z1s,z0a hl];rfl)
          · have:(O.drop 2)[j]? =some O[2+j]:=by rw [List.getElem?_drop,z0a hl]
            exact z11 this
        have q0:txtB smaS nm=true:=gw nm (z0x c0);have l2:nm.length<=1000:=z3i (q4f q0).2.1 (by decide);have i9:=LF.kn.ls o8;refine ⟨_,rfl,_,rfl,_,_,rfl,rfl,⟨by decide,by decide⟩,_,rfl,_,_,rfl,rfl,_,_,rfl,rfl,(by show (0:Int) < 5;decide),_,_,rfl,rfl,_,_,_,_,rfl,rfl,SqL.of i9,o4,?_⟩;have p0:=z2u (cell / 60+(i:Int) / 2) (show (4:Int)≠0 by decide);have p4:=z1m (cell / 60+(i:Int) / 2) (show (0:Int) < 4 by decide);obtain ⟨b,J,hb,a8,qP⟩:∃ b J,atI (us.map V.ref) ((cell / 60+(i:Int) / 2)%4)=some (.ref b)/\NAt G1 (pN J) (.ref b)/\J∈Ps:=by
          obtain ⟨j,hj⟩:=z0h p0;rw [hj] at p4 ⊢;have hl:j < us.length:=by lia
          obtain ⟨J,a2,hn⟩:=q1h q9 (z0a hl);exact ⟨us[j],J,q1b (by rw [z1s,z0a hl];rfl),hn,z11 a2⟩
        refine ⟨_,rfl,_,rfl,_,_,rfl,rfl,⟨by decide,by decide⟩,_,rfl,_,_,rfl,rfl,⟨by decide,by decide⟩,_,_,rfl,rfl,_,_,rfl,rfl,(by show (0:Int) < 4;decide),_,_,_,_,rfl,rfl,SqL.of (LF.kn.ls i4),hb,?_⟩;have l3:NOk (pN J):=q4g (L.led.led.pg J qP);have gP:=L.led.led.pg
        apply qvi
        · intro key
          have k8:=LF.kn.nat a8;refine ⟨_,rfl,_,_,rfl,rfl,(by show (0:Int) < 3;decide),rfl,_,rfl,ite2 (λ h1=> ?_) (λ h1=> ?_)⟩
          · refine ⟨_,zr,_,zr,_,zr,_,_,zr,zr,⟨by decide,by decide⟩,_,zr,_,_,zr,zr,k,t,_,zr,ht,λ x H2 s2 q6 p6=> ?_⟩
            have U:=LF.same s2;obtain ⟨kp,b8,k2,k3,k4⟩:=U.lp;have kl:kp.length<=1000:=by
              have:=q80 k2 k3;rw [z2l,z2l] at this
              lia
            refine ⟨_,zr,_,zr,dp,_,zr,DPut.k (k:=Sum.inr nm) b8 (Nat.lt_of_le_of_lt kl (by decide)),?_⟩;have a5:=U.led.led.else_ (o:= .dK (putK kp (Sum.inr nm) x)) b8 (λ z=>z) U.np;have j0:KeepN H2 (upd H2 dp (.dK (putK kp (Sum.inr nm) x))):= .up b8 λ z=>z;have f0:=q5 (H:=H2) (a:=dp) (o:= .dK (putK kp (Sum.inr nm) x));have w3:WhyX l.prog w Ps (upd H2 dp (.dK (putK kp (Sum.inr nm) x))) Z g:=U.lw.keep j0 (qh λ z=>by
              obtain ⟨_,d2,_⟩:=U.lw;obtain ⟨φ,e⟩:=q1v d2;rw [z,b8] at e;cases e)
            generalize upd H2 dp (.dK (putK kp (Sum.inr nm) x))=H3 at*;have h8:=DGet.k (k:=Sum.inr nm) f0;rw [q1w,if_pos rfl] at h8;obtain ⟨d,hd,hf⟩:=q7y (K:=K) (H:=H3) q6;refine ⟨_,rfl,A.p,A.dx,_,rfl,a5.ins,rfl,_,rfl,_,rfl,_,rfl,dp,_,rfl,h8,O.drop 2,Ps,A,k,f,g,bks,nm,x,d,rfl,⟨a5,U.led.g15,U.led.sm⟩,c0,l2,hd,(λ _=>⟨p6,λ H4 lz zs ks LH ch hl pz nd mem=> ?_⟩),λ i0=>by rw [hf] at i0;cases i0⟩;have j3:=ch.kn a5;have w4:WhyX l.prog w Ps H4 Z g:=w3.keep j3 (by
              have r5:=w3;obtain ⟨_,d2,_⟩:=r5;obtain ⟨φ,e⟩:=q1v d2;rw [e,ch Z _ U.nw e])
            refine ⟨_,zr,_,zr,Z,nm,Ps,g,zr,w4,L.led.led.pl,gP,λ L9 rs H5 o9 s5 n5 pr p9 j4=> ?_⟩;have m8:(Tim.srt prLt o9).filter (q7a g nm)=Tim.srt prLt ks:=qpu p9 nd λ J=>by
              rw [mem,j4,qnm];exact ⟨λ z=>⟨let ⟨Y,e,_⟩:=z;⟨Y,e⟩,z⟩,λ z=>z.2⟩
            rw [m8] at pr;have r0:Paired (PrX H5) zs (Tim.srt prLt ks):=Paired.mapP pz λ _ _ ⟨b,e,h⟩=>⟨b,e,h.same s5⟩;have gS:∀ p∈Tim.srt prLt ks,q2z p:=λ p hp=>by
              obtain ⟨Y,e,_⟩:=(mem p).mp ((Tim.q14 prLt _).mem_iff.mp hp);obtain ⟨kv,_,_,h3,_,h5⟩:=w4;obtain ⟨l',e',_⟩:=h5 p Y e;exact gP p (h3 p (q7o e'))
            have dA:=q81 (K:=K) r0 gS;have dB:=q81 (K:=K) pr gS;have dA:Dat K H5 (.list ((Tim.srt prLt ks).map pdD)) (.ref lz):= .lst (SqL.of (s5 _ _ hl)) dA;have dB:Dat K H5 (.list ((Tim.srt prLt ks).map pdD)) (.ref L9):= .lst (SqL.of n5) dB;refine ⟨_,_,dA,dB,qfm _,_,zr,?_⟩;rw [SeqAt.eqv_refl _ (Dat.lay _ _ dA)];refine iteF ?_;have w5:WhyX l.prog w Ps H5 Z g:=by
              have r6:=w4;obtain ⟨_,d2,_⟩:=r6;obtain ⟨φ,e⟩:=q1v d2;exact w4.keep (.of s5) (by rw [e,s5 _ _ e])
            have R:Law75 l.prog w mg (O.drop 2) Ps G1 H5 A k dp Z (q2d f nm x) g bks:=⟨LH.same s5,w5,⟨_,s5 _ _ (ch dp _ U.np f0),q2v k2,(λ y hy=>(q1y.mp hy).elim (k3 y) λ e=>by rw [e];exact z3m.mpr ⟨nm,c0,rfl⟩),λ z=>by
              rw [q1w,k4];unfold q2d;by_cases e:z=nm
              · rw [if_pos (congrArg Sum.inr e),if_pos e]
              · rw [if_neg (λ y=>e (Sum.inr.inj y)),if_neg e]⟩,U.nw,U.np,(U.kn.trans j0).trans (j3.trans (.of s5)),U.yp⟩
            obtain ⟨H6,f6,g6,b6,eH,R⟩:∃ H6 f6 g6 b6,H5=H6/\Law75 l.prog w mg (O.drop 2) Ps G1 H6 A k dp Z f6 g6 b6:=⟨_,_,_,_,rfl,R⟩;rw [eH];clear eH;revert R;revert b6;revert g6;revert f6;revert H6;exact key
          · refine ⟨_,rfl,_,_,rfl,rfl,(by show (0:Int) < 12;decide),rfl,_,rfl,ite2 (λ h2=> ?_) (λ h2=> ?_)⟩
            · refine ⟨_,rfl,_,rfl,_,rfl,_,rfl,_,rfl,_,_,rfl,rfl,⟨by decide,by decide⟩,k,t,_,rfl,ht,λ x d H2 s2 hd hf=>⟨by show 2<=sizeLine;decide,λ u hu=> ?_⟩⟩
              have s3:=qd (o:=HO.tup [V.str nm,x]) hu;have L3:=LF.same (s2.trans s3);refine ⟨O.drop 2,Ps,A,k,f,g,bks,"price",u,zr,L3.led,λ H3 s4=> ?_,.inl ⟨zr,nm,x,d,SqT.of q5,c0,l2,Dat.same s3 _ _ hd,hf⟩⟩;exact ⟨_,zr,iteF (key _ _ _ _ (L3.same s4))⟩
            · have e7:cutV (O.map V.str) (some 2) none=(O.drop 2).map V.str:=by
                rw [List.map_drop];exact qia (O.map V.str) 2 (by rw [z2l];lia)
              refine ⟨_,zr,_,zr,_,zr,_,_,zr,zr,⟨by decide,by decide⟩,_,zr,_,zr,_,_,zr,SqL.of i9,λ c2 o1=> ?_⟩;have s2:=qd (o:=HO.lst (cutV (O.map V.str) (some 2) none)) o1;have e2:upd F1 c2 (.lst (cutV (O.map V.str) (some 2) none)) c2=some (.lst ((O.drop 2).map V.str)):=by rw [q5,e7]
              refine ⟨_,c2,O.drop 2,zr,e2,p5,λ z hz=>gw z (z0x hz),λ l9 Y H3 s3 _ wY ys yp=> ?_⟩;have S3:=s2.trans s3;refine ⟨_,zr,_,zr,O.drop 2,Ps,G1,A,k,dp,Z,f,g,bks,J,b,l9,Y,zr,LF.same S3,qP,k8.same S3,wY,ys,yp,λ H4 g' r7 LH _=> ?_⟩;exact ⟨_,zr,iteF (key _ _ _ _ LH)⟩
        · intro H6 f6 g6 b6 R
          have k6:=R.kn.nat a8;obtain ⟨r,b9,c8⟩:=pr_at.mp k6;obtain ⟨kz,dz,z2,z3,z4⟩:=R.led.led.wor;have ew:valP4 kz J=wrs k f6 g6 J:=by
            unfold valP4;rw [valP,z4]
          refine ⟨_,rfl,A.p,A.dx,_,rfl,R.led.led.ins,rfl,_,rfl,_,_,_,_,rfl,rfl,SqT.of b9,q1b (j:=0) rfl,_,rfl,_,_,_,_,rfl,rfl,SqT.of b9,q1b (j:=1) rfl,A.p,A.dx,A.o,A.pr,A.y,A.z,A.b,r,J,k,kz,rfl,R.led.led.ins,R.led.led.by_,R.led.g15.top,dz,c8,l3,(λ v hv=>R.led.wok (by rw [<- ew];exact hv)),λ H7 s7=> ?_⟩;rw [ew];have R7:=R.same s7;obtain ⟨kw,dd,w2,w3,w4,w5⟩:=R7.lw;refine ⟨_,zr,_,zr,_,zr,Z,zr,⟨_,dd⟩,_,zr,by decide,λ e he=> ?_⟩;have s8:=qd (o:=HO.lst []) he;have e8:=q5 (H:=H7) (a:=e) (o:=HO.lst []);have R8:=R7.same s8;have l6:=DN.same s8 dd;have k7:=R8.kn.nat a8;generalize upd H7 e (.lst [])=H8 at*;refine ⟨b,_,pN J,zr,l6,k7,l3,?_⟩;rw [valP];obtain ⟨l9,Y,ev,wY,eW,pc,y3,yp⟩:∃ l9 Y,(valV kw J).getD (.ref e)= .ref l9/\WA H8 l9 Y/\(wrs k f6 g6 J).getD (no4 k)=rkY4 k (gv f6) Y/\Pcd f6 Y/\(∀ kv∈Y,kv.1.length<=3)/\YP Y:=by
            cases gq:g6 J with
            | none=>
              refine ⟨e,[],by rw [w4 J gq];rfl,⟨[],e8,.nil,⟨z3s _,λ _ z=>nomatch z⟩⟩,?_,(λ _ z=>nomatch z),(λ _ z=>nomatch z),λ _ z=>nomatch z⟩;unfold wrs;rw [gq];rfl
            | some Y=>
              obtain ⟨l9,e9,wY⟩:=w5 J Y gq;refine ⟨l9,Y,by rw [e9];rfl,wY.same s8,?_,(R.led.sm J Y gq).2,λ kv a1=>((R.led.sm J Y gq).1 kv a1).1,R.yp J Y gq⟩;unfold wrs;rw [gq];rfl
          rw [ev,eW];have d0:Ok4 k (rkY4 k (gv f6) Y):=qa5 R.led.g15.g4 λ kv a1=>⟨pc kv a1,by have:=(yp kv a1).1;lia⟩;refine ⟨_,zr,k,t,l9,dp,f6,Y,zr,ht,wY,R8.lp.vp,R.led.g15,pc,y3,yp,λ H9 s9=> ?_⟩;exact ⟨k,_,zr,d0,_,zr,iteF ⟨_,_,_,_,f6,g6,b6,zr,R8.same s9⟩⟩
      · rintro σ F ⟨v9,d5,d6,d7,f,g,bks,rfl,LF⟩
        have gP:=L.led.led.pg;refine ⟨_,zr,A.p,A.dx,_,zr,LF.led.led.ins,zr,O.drop 2,Ps,A,k,f,g,bks,zr,LF.led,λ H1 lt zs ks s1 hl pt nd mem=> ?_⟩;have F1:=LF.same s1;obtain ⟨kw,dd,w2,w3,w4,w5⟩:=F1.lw;refine ⟨_,zr,Z,kw,lkD,prLt,zr,dd,q6s,(λ a _ b _=>qni a b),(λ a _=>⟨⟨_,_,zr⟩,z3i (qic a) (by decide)⟩),(λ a ha b H2 R s2 hb kx=>⟨b,a,zr,hb,gP a (w3 a ha),kx⟩),λ ld zd H2 s2 l0 l1 pd=> ?_⟩;have s3:=qd (o:=HO.lst zd) l1;have m7:=q5 (H:=H2) (a:=ld) (o:=HO.lst zd);have S3:=s2.trans s3;generalize upd H2 ld (.lst zd)=H3 at*;have a7:∀ J,J∈kw.map (·.1)↔∃ Y,g J=some Y:=λ J=>by
          rw [kval4]
          constructor
          · rintro ⟨v,hv⟩
            cases gq:g J with
            | none=>
              rw [w4 J gq] at hv;cases hv
            | some Y=>exact ⟨Y,rfl⟩
          · rintro ⟨Y,gq⟩
            obtain ⟨l,hl,_⟩:=w5 J Y gq;exact ⟨_,hl⟩
        rw [qpt w2 nd λ J=>(a7 J).trans (mem J).symm] at pd;have mS:∀ J∈Tim.srt prLt ks,∃ Y,g J=some Y:=λ J hq=>(mem J).mp ((Tim.q14 prLt _).mem_iff.mp hq);have gS:∀ J∈Tim.srt prLt ks,q2z J:=λ J hq=>by
          obtain ⟨Y,e⟩:=mS J hq;exact gP J (w3 J ((a7 J).mpr ⟨Y,e⟩))
        have lS:(Tim.srt prLt ks).length<=1000:=by
          rw [qed];exact z3i (q80 nd λ x hx=>w3 x ((a7 x).mpr ((mem x).mp hx))) L.led.led.pl
        have F3:=F1.same S3;have a4:=S3 _ _ hl;have c4:Paired (TdAt H3 k f g) zs (Tim.srt prLt ks):=Paired.mapP pt λ _ _ ⟨b,r,e,h1,h2⟩=>⟨b,r,e,S3 _ _ h1,S3 _ _ h2⟩;have q7:Paired (PrX H3) zd (Tim.srt prLt ks):=Paired.mapP pd λ _ _ ⟨b,e,h⟩=>⟨b,e,h.same S3⟩;generalize Tim.srt prLt ks=S at*;have zl:=Paired.length c4;obtain ⟨ds,o2⟩:=qkg (K:=K) LF.led.g15.top (λ p v e=>LF.led.wok e) c4 gS;refine ⟨_,zr,_,_,_,zr,.lst (SqL.of a4) o2,by decide,_,zr,iteF ?_⟩;refine ⟨_,zr,lt,zr,⟨_,SqL.of a4⟩,λ D hD=> ?_⟩;refine q2g zs.length (λ i σ' H'=>(∃ v,σ'=[v])/\Same H3 H'/\∃ rs,H' D=some (.lst rs)/\∀ H2,(∀ b o,b≠D ->H' b=some o ->H2 b=some o) ->Paired (PrX H2) rs (S.take i)) ⟨⟨_,zr⟩,qd hD,[],q5,λ _ _=> .nil⟩ (λ i σ' H' hi p=> ?_) (λ σ' H' p=>⟨?_,?_⟩) (λ i σ' H' hi p x H2 y=> ?_)
        · obtain ⟨_,sm,_⟩:=p
          exact ⟨_,zs[i],SqL.of (sm _ _ a4),z0a hi⟩
        · obtain ⟨_,sm,_⟩:=p
          exact ⟨_,SqL.of (sm _ _ a4),z3p _⟩
        · obtain ⟨_,sm,rs,e,hd⟩:=p
          rw [zl,z2e] at hd;have dA:Dat K H' (.list (S.map pdD)) (.ref D):= .lst (SqL.of e) (q81 (hd H' λ _ _ _ h=>h) gS);have dB:Dat K H' (.list (S.map pdD)) (.ref ld):= .lst (SqL.of (sm _ _ m7)) (q81 (Paired.mapP q7 λ _ _ ⟨b,e,h⟩=>⟨b,e,h.same sm⟩) gS);refine ⟨_,zr,_,_,dA,dB,qfm _,_,zr,?_⟩;rw [SeqAt.eqv_refl _ (Dat.lay _ _ dA)];refine iteF ?_;have F5:=F3.same sm;have b7:=sm _ _ a4;have q8:Paired (TdAt H' k f g) zs S:=Paired.mapP c4 λ _ _ ⟨b,r,e,h1,h2⟩=>⟨b,r,e,sm _ _ h1,sm _ _ h2⟩;refine ⟨_,zr,lt,zr,⟨_,SqL.of b7⟩,λ D2 g7=> ?_⟩;refine q2g zs.length (λ i σ' G'=>(∃ v,σ'=[v,some (.int (q65 k)),some (.int t),some (.ref dp),some (.ref Z)])/\Same H' G'/\∃ n,G' D2=some (.lst ((List.replicate n true).map V.bl))/\n<=i) ⟨⟨_,rfl⟩,qd g7,0,q5,z3p _⟩ (λ i σ' H' hi p=> ?_) (λ σ' H' p=>⟨?_,?_⟩) (λ i σ' G' hi p x H2 y=> ?_)
          · obtain ⟨_,sm,_⟩:=p
            exact ⟨_,zs[i],SqL.of (sm _ _ b7),z0a hi⟩
          · obtain ⟨_,sm,_⟩:=p
            exact ⟨_,SqL.of (sm _ _ b7),z3p _⟩
          · obtain ⟨_,sm,n,e,_⟩:=p
            refine ⟨D2,_,zr,SqL.of e,?_⟩;have:(List.replicate n true).all id=true:=by
              rw [z29];intro x hx;rw [List.eq_of_mem_replicate hx];rfl
            rw [this];exact q _
          · obtain ⟨⟨v,rfl⟩,a9,n,e2,nn⟩:=p
            obtain ⟨rfl,hx⟩:=y;have c9:=hx _ (SqL.of (a9 _ _ b7));obtain ⟨J,a2,b,r,rfl,h1,h2⟩:=q1h q8 c9;have qS:=z11 a2;obtain ⟨Y,gq⟩:=mS J qS;have g1:=gS J qS;have F6:=F5.same a9;obtain ⟨p3,l5,_,_,_,v5⟩:=F6.lw;have g5:=a9 _ _ h1;have il:=(z06.mp a2).1;refine ⟨_,rfl,_,_,_,_,rfl,rfl,SqT.of g5,q1b (j:=2) rfl,_,rfl,_,rfl,_,rfl,_,rfl,_,rfl,b,_,rfl,SqT.of g5,by show ¬ (HT.sIx 3 0 none=0/\HT.sIx 3 3 (some 2)=3);decide,λ c hc=> ?_⟩;have s6:=qd (o:=HO.tup [V.str J.1,V.ref r]) hc;have F7:=F6.same s6;obtain ⟨l9,e9,wY⟩:=v5 J Y gq;refine ⟨Z,c,_,pN J,_,zr,zr,DN.same s6 l5,pr_at.mpr ⟨r,q5,s6 _ _ (a9 _ _ h2)⟩,q4g g1,(valP p3 J).trans e9,_,zr,k,t,l9,dp,f,Y,zr,ht,wY.same s6,F7.lp.vp,LF.led.g15,(LF.led.sm J Y gq).2,(λ kv a1=>((LF.led.sm J Y gq).1 kv a1).1),LF.yp J Y gq,λ H9 s9=> ?_⟩;have ew:(wrs k f g J).getD (no4 k)=rkY4 k (gv f) Y:=by
              unfold wrs;rw [gq];rfl
            rw [ew];have d0:Ok4 k (rkY4 k (gv f) Y):=qa5 LF.led.g15.g4 λ kv a1=>⟨(LF.led.sm J Y gq).2 kv a1,by have:=(LF.yp J Y gq kv a1).1;lia⟩;refine ⟨k,_,rfl,d0,_,s9 _ _ (s6 _ _ e2),by rw [z2l,List.length_replicate];exact q15 (by lia),⟨_,rfl⟩,((a9.trans s6).trans s9).set g7,n+1,?_,z2c nn⟩;rw [q5,List.replicate_succ',z2q];rfl
        · obtain ⟨⟨v,rfl⟩,sm,rs,e,hd⟩:=p
          obtain ⟨rfl,hx⟩:=y;have c9:=hx _ (SqL.of (sm _ _ a4));obtain ⟨J,a2,b,r,rfl,h1,h2⟩:=q1h c4 c9;have il:=(z06.mp a2).1;refine ⟨_,rfl,_,rfl,b,_,rfl,SqT.of (sm _ _ h1),by show ¬ (HT.sIx 3 0 none=0/\HT.sIx 3 3 (some 2)=3);decide,λ c hc=> ?_⟩;have s6:=qd (o:=HO.tup [V.str J.1,V.ref r]) hc;have h7:c≠D:=λ z=>by
            rw [z,e] at hc;cases hc
          have i8:r≠D:=λ z=>by
            rw [z,hD] at h2;cases h2
          have o7:rs.length=min i S.length:=by
            rw [Paired.length (hd _ λ _ _ _ h=>h),z22]
          refine ⟨_,s6 _ _ e,by rw [o7];exact q15 (by lia),⟨_,rfl⟩,(sm.trans s6).set hD,rs++ [.ref c],q5,λ H5 h5=> ?_⟩;rw [z31,a2];refine Paired.snoc (hd H5 λ b o hb ho=>h5 b o hb ?_) ⟨c,rfl,pr_at.mpr ⟨r,h5 c _ h7 (by rw [qh h7];exact q5),h5 r _ i8 (by rw [qh i8];exact s6 _ _ (sm _ _ h2))⟩⟩;rw [qh hb];exact s6 _ _ ho
    · have w0:=z2u (ns.getD 0 0) (show (4:Int)≠0 by decide)
      have w4:=z1m (ns.getD 0 0) (show (0:Int) < 4 by decide);have t0:=z2u (ns.getD 1 0) (show (10^15:Int)≠0 by decide);obtain ⟨k,ek,ht⟩:=qvu w0 w4 t0;refine ⟨_,rfl,a,ns,0,rfl,hS,by decide,_,_,rfl,rfl,(by show (0:Int) < 4;decide),?_⟩;refine ⟨_,rfl,a,ns,1,rfl,hS,by decide,_,_,rfl,rfl,⟨by decide,by decide,by decide⟩,_,_,rfl,rfl,(by show (0:Int) < 10^15;decide),?_⟩;refine λ x1 d1 n1 m1 _=>λ x2 d2 n2 m2 _=>⟨_,rfl,λ x3 d3 n3 m3 _=>⟨x3,d3,_,rfl,q5,rfl,λ x4 d4 n4 m4 _=>⟨by show 4<=sizeLine;decide,λ lb i3=> ?_⟩⟩⟩;have u1:=q5d (C:=cA mg "Counts") (fs:=[]) n1 m1;have e1:=q5 (H:=upd H d1 (.own x1)) (a:=x1) (o:= .ins (cA mg "Counts") d1 []);generalize upd (upd H d1 (.own x1)) x1 (.ins (cA mg "Counts") d1 [])=H1 at*;have u2:=q5d (C:=cA mg "Costs") (fs:=[]) n2 m2;have e2:=q5 (H:=upd H1 d2 (.own x2)) (a:=x2) (o:= .ins (cA mg "Costs") d2 []);generalize upd (upd H1 d2 (.own x2)) x2 (.ins (cA mg "Costs") d2 [])=H2 at*;have e1:=u2 _ _ e1;have U2:=u1.trans u2;obtain ⟨o,g9,ho⟩:∃ o,atI [V.ref x1,.ref x2,.ref x3,.ref x4] (ns.getD 0 0%4)=some (.ref o)/\((k= .counts/\o=x1)\/ (k= .costs/\o=x2)\/ (k= .trusts (ns.getD 1 0%10^15)/\o=x3)\/ (k= .truths/\o=x4)):=by
        rw [<- ek];cases k with
        | counts=>exact ⟨x1,rfl,.inl ⟨rfl,rfl⟩⟩
        | costs=>exact ⟨x2,rfl,.inr (.inl ⟨rfl,rfl⟩)⟩
        | trusts t'=>exact ⟨x3,rfl,.inr (.inr (.inl ⟨by rw [ht.2 t' rfl],rfl⟩))⟩
        | truths=>exact ⟨x4,rfl,.inr (.inr (.inr ⟨rfl,rfl⟩))⟩
      refine ⟨_,zr,_,_,_,_,zr,zr,SqL.of q5,g9,λ p dx np k9 _=>⟨_,p,dx,.ref o,zr,q5d np k9,np,q5,λ H3 pr y z b S hp i5 hy hz hb n1' p7 p8 n4'=>⟨zr,?_⟩⟩⟩;have s5:=qd (o:=HO.lst [V.ref x1,.ref x2,.ref x3,.ref x4]) i3;have T3:∀ c o,H2 c=some o ->H3 c=some o:=λ c o e=>S c o (s5 c o (q5d n4 m4 c o (qnn n3 m3 c o e)));have n9:By4 mg H3 o k:=by
        rcases ho with ⟨rfl,rfl⟩ | ⟨rfl,rfl⟩ | ⟨rfl,rfl⟩ | ⟨rfl,rfl⟩
        · exact ⟨d1,T3 _ _ e1⟩
        · exact ⟨d2,T3 _ _ e2⟩
        · exact ⟨d3,S _ _ (s5 _ _ (q5d n4 m4 _ _ q5))⟩
        · exact ⟨d4,S _ _ (s5 _ _ q5)⟩
      have SH:Same H H3:=λ c o e=>T3 c o (U2 c o e);clear S s5 T3 g9 ho i3 n4 m4 n3 m3 np k9;have g8:=SH.seq hS;refine ⟨_,zr,a,ns,2,zr,g8,by decide,_,7,zr,by decide,by decide,λ wa O H4 s4 hw lw _ gw=> ?_⟩;refine ⟨_,zr,a,ns,1,zr,s4.seq g8,by decide,_,zr,λ va ks H5 s5 hv lk gk=> ?_⟩;have a6:=s5 _ _ hw;obtain ⟨w0,w1,wr,rfl⟩:∃ w0 w1 wr,O=w0::w1::wr:=by
        match O,lw with
        | w0::w1::wr,_=>exact ⟨_,_,_,rfl⟩
      have e0:atI ((w0::w1::wr).map V.str) 0=some (.str w0):=q1b (j:=0) rfl;have e4:atI ((w0::w1::wr).map V.str) 1=some (.str w1):=q1b (j:=1) rfl;have f9:=gw w0 (z1f ..);have g0:=gw w1 (z0z _ (z1f ..));have c1:cutV (ks.map kV) none (some 1)=(ks.take 1).map kV:=by rw [qib _ (by decide),List.map_take];rfl
      have c2:cutV (ks.map kV) none (some 2)=(ks.take 2).map kV:=by rw [qib _ (by decide),List.map_take];rfl
      refine ⟨_,rfl,_,_,_,_,rfl,rfl,SqL.of a6,e0,_,rfl,_,rfl,_,_,rfl,SqL.of hv,λ q1 b9=>⟨_,_,rfl,.inl ⟨SqL.of q5,λ r1 i6=>⟨by show 2<=sizeLine;decide,λ b1 h0=> ?_⟩⟩⟩⟩;rw [c1] at i6 h0 ⊢;have g1:=qd (o:=HO.lst ((ks.take 1).map kV)) b9;have g2:=qd (o:=HO.tup ((ks.take 1).map kV)) i6;have g3:=qd (o:=HO.tup [V.str w0,.ref r1]) h0;have f1:=g3 _ _ (q5 (H:=upd H5 q1 (.lst ((ks.take 1).map kV))) (a:=r1) (o:=HO.tup ((ks.take 1).map kV)));have f2:=q5 (H:=upd (upd H5 q1 (.lst ((ks.take 1).map kV))) r1 (.tup ((ks.take 1).map kV))) (a:=b1) (o:=HO.tup [V.str w0,.ref r1]);have G3:=(g1.trans g2).trans g3;generalize upd (upd (upd H5 q1 (.lst ((ks.take 1).map kV))) r1 (.tup ((ks.take 1).map kV))) b1 (.tup [V.str w0,.ref r1])=H6 at*;have j6:NAt H6 (pN (w0,ks.take 1)) (.ref b1):=pr_at.mpr ⟨r1,f2,f1⟩;refine ⟨_,rfl,_,_,_,_,rfl,rfl,SqL.of (G3 _ _ a6),e4,_,rfl,_,rfl,_,_,rfl,SqL.of (G3 _ _ hv),λ q2 c8=>⟨_,_,rfl,.inl ⟨SqL.of q5,λ r2 i7=>⟨by show 2<=sizeLine;decide,λ b2 h6=> ?_⟩⟩⟩⟩;rw [c2] at i7 h6 ⊢;have h1:=qd (o:=HO.lst ((ks.take 2).map kV)) c8;have h2:=qd (o:=HO.tup ((ks.take 2).map kV)) i7;have h3:=qd (o:=HO.tup [V.str w1,.ref r2]) h6;have f3:=h3 _ _ (q5 (H:=upd H6 q2 (.lst ((ks.take 2).map kV))) (a:=r2) (o:=HO.tup ((ks.take 2).map kV)));have f4:=q5 (H:=upd (upd H6 q2 (.lst ((ks.take 2).map kV))) r2 (.tup ((ks.take 2).map kV))) (a:=b2) (o:=HO.tup [V.str w1,.ref r2]);have G6:=(h1.trans h2).trans h3;generalize upd (upd (upd H6 q2 (.lst ((ks.take 2).map kV))) r2 (.tup ((ks.take 2).map kV))) b2 (.tup [V.str w1,.ref r2])=H7 at*;have j7:NAt H7 (pN (w1,ks.take 2)) (.ref b2):=pr_at.mpr ⟨r2,f4,f3⟩;have d8:=G3.trans G6;refine ⟨_,rfl,_,_,_,_,rfl,rfl,SqL.of (d8 _ _ a6),e0,by decide,λ r3 o5=>⟨by show 2<=sizeLine;decide,λ b3 n7=> ?_⟩⟩;have i1:=qd (o:=HO.tup []) o5;have i2:=qd (o:=HO.tup [V.str w0,.ref r3]) n7;have f5:=i2 _ _ (q5 (H:=H7) (a:=r3) (o:=HO.tup []));have f6:=q5 (H:=upd H7 r3 (.tup [])) (a:=b3) (o:=HO.tup [V.str w0,.ref r3]);have G7:=i1.trans i2;generalize upd (upd H7 r3 (.tup [])) b3 (.tup [V.str w0,.ref r3])=H8 at*;have j8:NAt H8 (pN (w0,[])) (.ref b3):=pr_at.mpr ⟨r3,f6,f5⟩;have a3:=d8.trans G7;refine ⟨_,rfl,_,_,_,_,rfl,rfl,SqL.of (a3 _ _ a6),e4,_,rfl,_,_,rfl,.inl ⟨SqL.of (a3 _ _ hv),λ r4 o6=>⟨by show 2<=sizeLine;decide,λ b4 n8=> ?_⟩⟩⟩;have j1:=qd (o:=HO.tup (ks.map kV)) o6;have j2:=qd (o:=HO.tup [V.str w1,.ref r4]) n8;have f7:=j2 _ _ (q5 (H:=H8) (a:=r4) (o:=HO.tup (ks.map kV)));have f8:=q5 (H:=upd H8 r4 (.tup (ks.map kV))) (a:=b4) (o:=HO.tup [V.str w1,.ref r4]);have G8:=j1.trans j2;generalize upd (upd H8 r4 (.tup (ks.map kV))) b4 (.tup [V.str w1,.ref r4])=H9 at*;have j9:NAt H9 (pN (w1,ks)) (.ref b4):=pr_at.mpr ⟨r4,f8,f7⟩;refine ⟨by show 4<=sizeLine;decide,λ pa c7=> ?_⟩;have z1:=qd (o:=HO.lst [V.ref b1,.ref b2,.ref b3,.ref b4]) c7;have m6:=q5 (H:=H9) (a:=pa) (o:=HO.lst [V.ref b1,.ref b2,.ref b3,.ref b4]);generalize upd H9 pa (.lst [V.ref b1,.ref b2,.ref b3,.ref b4])=d9 at*;refine λ dp h9=> ?_;have z2:=qd (o:=HO.dK []) h9;have l8:=q5 (H:=d9) (a:=dp) (o:=HO.dK []);generalize upd d9 dp (.dK [])=b5 at*;refine λ Z ow c6 l7=> ?_;have z3:=qd (o:=ow) c6;have SA:Same H3 (upd b5 Z ow):=s4.trans (s5.trans (a3.trans (G8.trans (z1.trans (z2.trans z3)))));have SB:Same H5 (upd b5 Z ow):=a3.trans (G8.trans (z1.trans (z2.trans z3)));have e5:=z3 _ _ l8;have e6:=z3 _ _ (z2 _ _ m6);have S9:=z1.trans (z2.trans z3);have k1:=((j6.same G6).same G7).same (G8.trans S9);have k2:=(j7.same G7).same (G8.trans S9);have k3:=j8.same (G8.trans S9);have k4:=j9.same S9;have dwn:b5 Z=none:=c6;have m9:H3 dp=none:=(s4.trans (s5.trans (a3.trans (G8.trans z1)))).free h9;have n0:H3 Z=none:=(s4.trans (s5.trans (a3.trans (G8.trans (z1.trans z2))))).free c6;generalize upd b5 Z ow=l4 at*;have nf:∀ d,H3 d=none ->¬ foot (LA.mk p dx o pr y z b) [] d:=λ d hd hf=>by
        rcases hf with e | e | e | e | ⟨n,e⟩
        · rw [e,show H3 (LA.mk p dx o pr y z b).pr=_ from i5] at hd
          cases hd
        · obtain ⟨φ,ey⟩:=q1v hy
          rw [e,show H3 (LA.mk p dx o pr y z b).y=_ from ey] at hd;cases hd
        · obtain ⟨φ,ey⟩:=q1v hz
          rw [e,show H3 (LA.mk p dx o pr y z b).z=_ from ey] at hd;cases hd
        · rw [e,show H3 (LA.mk p dx o pr y z b).b=_ from hb] at hd
          cases hd
        · cases e
      have gP:∀ q∈ [(w0,ks.take 1),(w1,ks.take 2),(w0,[]),(w1,ks)],q2z q:=λ q hq=>by
        simp only [z35,z2d,or_false] at hq;rcases hq with rfl | rfl | rfl | rfl
        · exact ⟨f9,by show (ks.take 1).length<=4;rw [z22];lia,λ x hx=>gk x (z0y hx)⟩
        · exact ⟨g0,by show (ks.take 2).length<=4;rw [z22];lia,λ x hx=>gk x (z0y hx)⟩
        · exact ⟨f9,by show 0<=4;decide,λ _ z=>nomatch z⟩
        · exact ⟨g0,by show ks.length<=4;lia,gk⟩
      have LX:LedX l.prog w mg ((w0::w1::wr).drop 2) [(w0,ks.take 1),(w1,ks.take 2),(w0,[]),(w1,ks)] l4 (LA.mk p dx o pr y z b) k (λ _=>none) (λ _=>none) (wrs k (λ _=>none) (λ _=>none)) (Brs λ _=>none) []:=by
        refine ⟨SA _ _ hp,n9.same SA,⟨[],SA _ _ i5,z30,(λ _ z=>nomatch z),λ _=>rfl⟩,⟨[],DN.same SA hy,z30,(λ _ z=>nomatch z),(λ _ _=>rfl),λ _ _ e=>nomatch e⟩,⟨[],DN.same SA hz,z30,(λ _ z=>nomatch z),λ _=>rfl⟩,⟨SA _ _ hb,z30,(λ _ z=>nomatch z),(λ n v e=>nomatch e),(λ n _ q ⟨Y,e,_⟩=>nomatch e),(λ n m a e=>nomatch e),λ n a e=>nomatch e⟩,Ne.symm p7.2.2,Ne.symm p8.1,?_,by show 4<=1000;decide,gP⟩;rw [z23,lw];decide
      exact hC _ _ ⟨k,ns.getD 1 0%10^15,LA.mk p dx o pr y z b,wa,pa,dp,Z,_,_,[b1,b2,b3,b4],[(w0,ks.take 1),(w1,ks.take 2),(w0,[]),(w1,ks)],by rw [ek];rfl,ht,SB _ _ a6,lw,gw,e6,rfl,.cons k1 (.cons k2 (.cons k3 (.cons k4 .nil))),(SH.trans SA).seq hS,⟨⟨LX,⟨λ t' e=>by rw [ht.2 t' e];exact ht.1,λ z v e=>nomatch e⟩,λ q Y e=>nomatch e⟩,⟨[],l7,z30,(λ _ z=>nomatch z),(λ _ _=>rfl),λ _ _ e=>nomatch e⟩,⟨[],e5,z30,(λ _ z=>nomatch z),λ _=>rfl⟩,nf Z n0,nf dp m9,KeepN.refl _,λ q Y e=>nomatch e⟩⟩
open PySem.W in
theorem qim {K:PySem.W.Frag} {h:Heap} {mg:Str ->Option Value} (X:K.In h) (G:h.Ns mainGlobals mg) {aI aG aJ aM:Addr} {aN aO aP aQ aK aR aS:Value} {aT aU aV:Option Addr} {aW aX:Array (Option Value)} {aY:Tok}
  (aZ:nsIn K mainGlobals "ValueError"=some none)
  (a0:nsIn K mainGlobals "all"=some none)
  (a1:nsIn K mainGlobals "any"=some none)
  (a2:nsIn K mainGlobals "bool"=some none)
  (a3:nsIn K mainGlobals "enumerate"=some none)
  (a4:nsIn K mainGlobals "int"=some none)
  (a5:nsIn K mainGlobals "isinstance"=some none)
  (a6:nsIn K mainGlobals "len"=some none)
  (a7:nsIn K mainGlobals "list"=some none)
  (a8:nsIn K mainGlobals "max"=some none)
  (a9:nsIn K mainGlobals "min"=some none)
  (aa:nsIn K mainGlobals "range"=some none)
  (ab:nsIn K mainGlobals "sorted"=some none)
  (ac:nsIn K mainGlobals "str"=some none)
  (ad:nsIn K mainGlobals "sum"=some none)
  (ae:nsIn K mainGlobals "tuple"=some none)
  (af:FiK K "_wall" qk4)
  (ag:FiK K "is_whole" q8g)
  (ah:FiK K "value_key" q7g)
  (ai:FiK K "row_key" q9b)
  (aj:FiK K "pair_key" q8h)
  (ak:FiK K "pairs_in_order" q3s)
  (al:FiK K "names_of" q8i)
  (am:FiK K "own" ql7)
  (an:FiK K "ask_worths" q6i)
  (ao:FiK K "product_reckoned" q39)
  (ap:FiK K "reckoned" q8j)
  (aq:FiK K "_law_cell_at" q4r)
  (ar:FiK K "_law_stream" q5q)
  (as:FiK K "_law_words" q6m)
  (au:FiK K "_law_values" q5r)
  (av:FiK K "_law_whole" q6n)
  (aw:FiK K "_law_key" q8k)
  (ax:FiK K "_law_why" q8l)
  (ay:FiK K "_law_price" q6o)
  (az:FiK K "_law_no_price" q4b)
  (bA:FiK K "_law_part" q7h)
  (bB:FiK K "_law_worth" q6p)
  (bC:FiK K "_law_alike" q6q)
  (bD:FiK K "_law_refused" q4s)
  (bE:FiK K "_law_bearing" q4t)
  (bF:FiK K "_law_entered" q4u)
  (bG:FiK K "law" ql8)
  (bH:nsIn K mainGlobals "Trusts"=some (some (.ref aI)))
  (J:CiK K "Ledger")
  (bI:AiK K "Ledger" "bearers" (some none))
  (bJ:AiK K "Ledger" "by" (some none))
  (bK:AiK K "Ledger" "prices" (some none))
  (bL:AiK K "Ledger" "whys" (some none))
  (bM:AiK K "Ledger" "worths" (some none))
  (bN:MiK K "Ledger" "__init__" "Ledger.__init__" q5f)
  (bO:MiK K "Ledger" "price" "Ledger.price" q4m)
  (bP:MiK K "Ledger" "enter" "Ledger.enter" q4n)
  (bQ:MiK K "Ledger" "take_out" "Ledger.take_out" q3f)
  (bR:MiK K "Ledger" "take_in" "Ledger.take_in" q3t)
  (bS:MiK K "Ledger" "worth" "Ledger.worth" q4o)
  (bT:MiK K "Ledger" "told" "Ledger.told" q5g)
  (O:CiK K "Reckoning")
  (bU:AiK K "Reckoning" "__init__" (some (some (.builtin "object.__init__"))))
  (bV:AiK K "Reckoning" "either" (some none))
  (bW:AiK K "Reckoning" "nought" (some none))
  (bX:MiK K "Reckoning" "repeated" "Reckoning.repeated" q44)
  (U:CiK K "Counts")
  (bY:AiK K "Counts" "__init__" (some (some (.builtin "object.__init__"))))
  (bZ:MiK K "Counts" "fits" "Counts.fits" q5h)
  (b0:MiK K "Counts" "nought" "Counts.nought" q45)
  (b1:MiK K "Counts" "unit" "Counts.unit" q5i)
  (b2:MiK K "Counts" "either" "Counts.either" q46)
  (b3:MiK K "Counts" "both" "Counts.both" q5j)
  (b4:MiK K "Counts" "repeated" "Counts.repeated" q3g)
  (Y:CiK K "Costs")
  (b5:AiK K "Costs" "__init__" (some (some (.builtin "object.__init__"))))
  (b6:MiK K "Costs" "fits" "Costs.fits" q6j)
  (b7:MiK K "Costs" "nought" "Costs.nought" q4p)
  (b8:MiK K "Costs" "unit" "Costs.unit" q6k)
  (b9:MiK K "Costs" "either" "Costs.either" q4q)
  (ba:MiK K "Costs" "both" "Costs.both" q6l)
  (bb:MiK K "Costs" "repeated" "Reckoning.repeated" q3u)
  (Z:CiK K "Trusts")
  (bc:AiK K "Trusts" "top" (some none))
  (bd:findIn K (.ref aI) "__init__"=some (some (.ref aG))) (be:isFn K (.ref aG)=true)
  (bf:K.lookup aG=some ⟨aN,aT,.func (fnOf "__init__" "Trusts.__init__" (q1g q2y) (qw q2y) (qc q2y) (.ref aJ) aO aP aQ aU aK aR),aW⟩)
  (bg:codeIn K aK "Trusts.__init__"=true)
  (aH:K.lookup aJ=some ⟨aS,aV,.seq #[.int 100 aY] aM,aX⟩)
  (bh:MiK K "Trusts" "fits" "Trusts.fits" q5k)
  (bi:MiK K "Trusts" "nought" "Trusts.nought" q47)
  (bj:MiK K "Trusts" "unit" "Trusts.unit" q5l)
  (bk:MiK K "Trusts" "either" "Trusts.either" q48)
  (bl:MiK K "Trusts" "both" "Trusts.both" q5m)
  (bm:MiK K "Trusts" "repeated" "Reckoning.repeated" q3h)
  (aF:CiK K "Truths")
  (bn:AiK K "Truths" "__init__" (some (some (.builtin "object.__init__"))))
  (bo:MiK K "Truths" "fits" "Truths.fits" q5n)
  (bp:MiK K "Truths" "nought" "Truths.nought" q49)
  (bq:MiK K "Truths" "unit" "Truths.unit" q5o)
  (br:MiK K "Truths" "either" "Truths.either" q4a)
  (bs:MiK K "Truths" "both" "Truths.both" q5p)
  (bt:MiK K "Truths" "repeated" "Reckoning.repeated" q3i)
  (aL:XiK K "NoWorth")
  (bu:PiK K "NoWorth" "NoWorth" true):Txt K mg:=
 ⟨z1n X G aZ,
  z1n X G a0,
  z1n X G a1,
  z1n X G a2,
  z1n X G a3,
  z1n X G a4,
  z1n X G a5,
  z1n X G a6,
  z1n X G a7,
  z1n X G a8,
  z1n X G a9,
  z1n X G aa,
  z1n X G ab,
  z1n X G ac,
  z1n X G ad,
  z1n X G ae,
  af.top X G (λ _ _ _ _ _ _=>us1 λ _=>rfl),
  ag.top X G (λ _ _ _ _ _ _=>us1 λ _=>rfl),
  ah.top X G (λ _ _ _ _ _ _=>us1 λ _=>rfl),
  ai.top X G (λ _ _ _ _ _ _=>us1 λ _=>rfl),
  aj.top X G (λ _ _ _ _ _ _=>us1 λ _=>rfl),
  ak.top X G (λ _ _ _ _ _ _=>us1 λ _=>rfl),
  al.top X G (λ _ _ _ _ _ _=>us1 λ _=>rfl),
  am.top X G (λ _ _ _ _ _ _=>us1 λ _=>rfl),
  an.top X G (λ _ _ _ _ _ _=>us3 λ _ _ _=>rfl),
  ao.top X G (λ _ _ _ _ _ _=>us3 λ _ _ _=>rfl),
  ap.top X G (λ _ _ _ _ _ _=>us3 λ _ _ _=>rfl),
  aq.top X G (λ _ _ _ _ _ _=>us2 λ _ _=>rfl),
  ar.top X G (λ _ _ _ _ _ _=>us2 λ _ _=>rfl),
  as.top X G (λ _ _ _ _ _ _=>us2 λ _ _=>rfl),
  au.top X G (λ _ _ _ _ _ _=>us1 λ _=>rfl),
  av.top X G (λ _ _ _ _ _ _=>us1 λ _=>rfl),
  aw.top X G (λ _ _ _ _ _ _=>us1 λ _=>rfl),
  ax.top X G (λ _ _ _ _ _ _=>us2 λ _ _=>rfl),
  ay.top X G (λ _ _ _ _ _ _=>us3 λ _ _ _=>rfl),
  az.top X G (λ _ _ _ _ _ _=>us3 λ _ _ _=>rfl),
  bA.top X G (λ _ _ _ _ _ _=>us4 λ _ _ _ _=>rfl),
  bB.top X G (λ _ _ _ _ _ _=>us4 λ _ _ _ _=>rfl),
  bC.top X G (λ _ _ _ _ _ _=>us2 λ _ _=>rfl),
  bD.top X G (λ _ _ _ _ _ _=>us3 λ _ _ _=>rfl),
  bE.top X G (λ _ _ _ _ _ _=>us2 λ _ _=>rfl),
  bF.top X G (λ _ _ _ _ _ _=>us5 λ _ _ _ _ _=>rfl),
  bG.top X G (λ _ _ _ _ _ _=>us1 λ _=>rfl),
  J.g X G,
  J.cl X G,
  J.mk' X G,
  J.kp X G,
  bI.at' X G,
  bJ.at' X G,
  bK.at' X G,
  bL.at' X G,
  bM.at' X G,
  bN.top X G (λ _ _ _ _ _ _=>us2 λ _ _=>rfl),
  bO.top X G (λ _ _ _ _ _ _=>us3 λ _ _ _=>rfl),
  bP.top X G (λ _ _ _ _ _ _=>us4 λ _ _ _ _=>rfl),
  bQ.top X G (λ _ _ _ _ _ _=>us2 λ _ _=>rfl),
  bR.top X G (λ _ _ _ _ _ _=>us4 λ _ _ _ _=>rfl),
  bS.top X G (λ _ _ _ _ _ _=>us3 λ _ _ _=>rfl),
  bT.top X G (λ _ _ _ _ _ _=>us1 λ _=>rfl),
  O.g X G,
  O.cl X G,
  O.mk' X G,
  O.kp X G,
  bU.at' X G,
  bV.at' X G,
  bW.at' X G,
  bX.top X G (λ _ _ _ _ _ _=>us3 λ _ _ _=>rfl),
  U.g X G,
  U.cl X G,
  U.mk' X G,
  U.kp X G,
  bY.at' X G,
  bZ.top X G (λ _ _ _ _ _ _=>us2 λ _ _=>rfl),
  b0.top X G (λ _ _ _ _ _ _=>us1 λ _=>rfl),
  b1.top X G (λ _ _ _ _ _ _=>us1 λ _=>rfl),
  b2.top X G (λ _ _ _ _ _ _=>us3 λ _ _ _=>rfl),
  b3.top X G (λ _ _ _ _ _ _=>us3 λ _ _ _=>rfl),
  b4.top X G (λ _ _ _ _ _ _=>us3 λ _ _ _=>rfl),
  Y.g X G,
  Y.cl X G,
  Y.mk' X G,
  Y.kp X G,
  b5.at' X G,
  b6.top X G (λ _ _ _ _ _ _=>us2 λ _ _=>rfl),
  b7.top X G (λ _ _ _ _ _ _=>us1 λ _=>rfl),
  b8.top X G (λ _ _ _ _ _ _=>us1 λ _=>rfl),
  b9.top X G (λ _ _ _ _ _ _=>us3 λ _ _ _=>rfl),
  ba.top X G (λ _ _ _ _ _ _=>us3 λ _ _ _=>rfl),
  bb.top X G (λ _ _ _ _ _ _=>us3 λ _ _ _=>rfl),
  Z.g X G,
  Z.cl X G,
  Z.mk' X G,
  Z.kp X G,
  bc.at' X G,
  (by rw [q43 (z39 X G bH)];exact qru bd be bf bg ⟨_,rfl⟩ (λ s v X=>z2v X rfl aH rfl rfl rfl) (λ s v z X=>(by first | exact .of_eq rfl | exact z2v X rfl aH rfl rfl rfl)) (λ s v z X=>(by first | exact .of_eq rfl | exact z2v X rfl aH rfl rfl rfl))),
  bh.top X G (λ _ _ _ _ _ _=>us2 λ _ _=>rfl),
  bi.top X G (λ _ _ _ _ _ _=>us1 λ _=>rfl),
  bj.top X G (λ _ _ _ _ _ _=>us1 λ _=>rfl),
  bk.top X G (λ _ _ _ _ _ _=>us3 λ _ _ _=>rfl),
  bl.top X G (λ _ _ _ _ _ _=>us3 λ _ _ _=>rfl),
  bm.top X G (λ _ _ _ _ _ _=>us3 λ _ _ _=>rfl),
  aF.g X G,
  aF.cl X G,
  aF.mk' X G,
  aF.kp X G,
  bn.at' X G,
  bo.top X G (λ _ _ _ _ _ _=>us2 λ _ _=>rfl),
  bp.top X G (λ _ _ _ _ _ _=>us1 λ _=>rfl),
  bq.top X G (λ _ _ _ _ _ _=>us1 λ _=>rfl),
  br.top X G (λ _ _ _ _ _ _=>us3 λ _ _ _=>rfl),
  bs.top X G (λ _ _ _ _ _ _=>us3 λ _ _ _=>rfl),
  bt.top X G (λ _ _ _ _ _ _=>us3 λ _ _ _=>rfl),
  aL.g X G,
  aL.at' X G,
  bu.at' X G⟩
end Wy
open PySem PySem.W PyProof.Rows
namespace PySem.W.Fast
end PySem.W.Fast
namespace PySem.W.Fast
def tw9082755889906221501:=0
def tw5186661786336228606:=0
def tw18207614647912209324:=0
def tw10708824869423564511:=0
def tw5590233251322196491:=0
def tw16397905473149638037:=0
def tw1678677050462115877:=0
def tw6462594973126107696:=0
def tw3255473580807949533:=0
def tw15295144800227626709:=0
def tw17037353585864274359:=0
def tw17218141276379291118:=0
def tw18165463982678850861:=0
def tw115592075703733983:=0
def tw776175847027224495:=0
def tw2000664286758244442:=0
def tw6956402847822339754:=0
def tw14092759775666131811:=0
def tw10592206448706312658:=0
def tw2794922353173455734:=0
def tw4229128589419976432:=0
def tw15268234600433120127:=0
def tw3338043340864392302:=0
def tw16799928796865557475:=0
def tw4448195318743133125:=0
def tw8103394166372093497:=0
def tw13292597100520591162:=0
def tw2290371047321511846:=0
def tw5202540616959304201:=0
def tw8728790376726792430:=0
def tw10370056077825158777:=0
def tw9796852303062354610:=0
def tw5678247276012979392:=0
def tw12835369103289114556:=0
def tw17380015483191147860:=0
def tw8340949259906618574:=0
def tw8201698315615912540:=0
def tw8375403154322075191:=0
def tw4863904446236970653:=0
def tw7887244718508949479:=0
def tw12524077583788706577:=0
def tw10742723225637951971:=0
def tw12578013927081197522:=0
def tw3455682032656487493:=0
def tw994631704095997436:=0
def tw11262510735508156486:=0
def tw242797820573559450:=0
def tw12838237592860079265:=0
def tw2295789367059178856:=0
def tw17831638981265149699:=0
def tw15042269792244795523:=0
def tw14674202879002890092:=0
def tw12932301468007623493:=0
def tw9962834207922079206:=0
def tw14595713724712244379:=0
def tw9196113306032171984:=0
def tw18117663241873643756:=0
def tw3311344809010203784:=0
def tw2715537373970385366:=0
def tw12913742643275304209:=0
def tw10423072096817294427:=0
def tw13912033196216712214:=0
def tw420898626508137308:=0
def tw18177253392136387290:=0
def tw17820173797065132171:=0
def tw9136474844224382243:=0
def tw1954367454904518707:=0
def tw7642695580355321989:=0
def tw11845231561371362053:=0
def tw8547252660323722017:=0
def tw2406645550265201705:=0
def tw6461796403272160467:=0
def tw13968696933212008727:=0
def tw6667761366333694170:=0
def tw16624599053804614742:=0
def tw14109996696437082215:=0
def tw7653780652258680935:=0
def tw441941875290245046:=0
def tw7354035493343104842:=0
def tw6192039303456689764:=0
def tw9324774129560982589:=0
def tw10163909157397710741:=0
def tw3896156929412350183:=0
def tw9110842291700704456:=0
def tw18000101023991728183:=0
def tw337739286441756630:=0
def tw1301567436139166933:=0
def tw17570096560684123526:=0
def tw17289127057036227422:=0
def tw2097364939575910937:=0
def tw12687344383731181445:=0
def tw4116131239510009769:=0
def tw11554957547938248738:=0
def tw11587813751157407584:=0
def tw12676824813423232310:=0
def tw8658920228280421227:=0
def tw6639948640305663634:=0
def tw7041764886621255335:=0
def tw7906114404545445532:=0
def tw1478849375871884654:=0
def tw13647771713723426211:=0
def tw7585440224330021824:=0
def tw8501907003991864150:=0
def tw2234293301124642055:=0
def tw10137655891129058244:=0
def tw17567873096710496154:=0
def tw7031155629816923408:=0
def tw10647694570877262874:=0
def tw11109014533224221513:=0
def tw10704644008350785456:=0
def tw5790118515120209989:=0
def tw14610902971789617885:=0
def tw15315071723354676127:=0
def tw12489691294790079298:=0
def tw8225610783590585064:=0
def tw9429373935719200158:=0
def tw13243750414210233611:=0
def tw10843426928580003078:=0
def tw10038282491436647783:=0
def tw6551959620881023423:=0
def tw9789216682545337036:=0
def tw14953382562487980066:=0
def tw13950768151456923119:=0
def tw8625280171442242740:=0
def tw2897128010282565017:=0
def tw16808822378137042571:=0
def tw7916535170135313703:=0
def tw16931389176930216467:=0
def tw1528567991461800946:=0
def tw2022065285499293066:=0
def tw446862543434603073:=0
def tw1809184656636754466:=0
def tw10876029533752691086:=0
def tw2308507212783570572:=0
def tw17836933027357581709:=0
def tw3666692264323788127:=0
def tw12111188730217251817:=0
def tw14834073523145590095:=0
def tw6152374382560113978:=0
def tw17763904945322696906:=0
def tw11225785031849543678:=0
def tw17229370528534211437:=0
def tw8520454306882849359:=0
def tw4081232821422810110:=0
def tw11828896636744906566:=0
def tw14433003782010668627:=0
def tw12609961864099889184:=0
def tw2333935426585289011:=0
def tw6100208936787466458:=0
def tw4650378319301676963:=0
def tw17547136554542576411:=0
def tw3350470168188660155:=0
def tw7316184965658521688:=0
def tw2303789094283359288:=0
def tw3373524172135845996:=0
def tw5702679408534059025:=0
def tw10074184628443595561:=0
def tw14491874300908871951:=0
def tw3980258161899447486:=0
def tw5577689536371313465:=0
def tw14696673732039132149:=0
def tw1520350935486938454:=0
def tw1190026095991759063:=0
def tw9446053464592473458:=0
def tw6423758442576593980:=0
def tw5277339995642804646:=0
def tw4155965950408152398:=0
def tw10069973734066218556:=0
def tw4019490489905432934:=0
def tw3849516205015053289:=0
def tw18123013208702070527:=0
def tw17713594632998128984:=0
def tw8380442817489789089:=0
def tw1907353627872118921:=0
def tw13330155224219498356:=0
def tw7069721195983308063:=0
def tw5956553936609750822:=0
def tw12468052978218463251:=0
def tw4208133175625022938:=0
def tw12254977099259399793:=0
def tw18072064529996030960:=0
def tw11010582713697437216:=0
def tw4731713181859072903:=0
def tw11652817101138012670:=0
def tw2101257592461506535:=0
def tw6716047183342016240:=0
def tw16039588101850071099:=0
def tw8712697954657886673:=0
def tw1175383680736059365:=0
def tw10344160067877991452:=0
def tw14856909373816016296:=0
def tw2264733118591322807:=0
def tw5584633446096460474:=0
def tw13077761310085693464:=0
def tw14676880092473061957:=0
def tw494304415407122449:=0
def tw1738007324368126343:=0
def tw14598286267433972534:=0
def tw13174125716779729901:=0
def tw17782627800865702235:=0
def tw7060033511297223012:=0
def tw4613861877155933783:=0
def tw6850787739419293203:=0
def tw7774174446564808508:=0
def tw2068377823377424734:=0
def tw12626196548300432382:=0
def tw16080644505872156303:=0
def tw2653214964433298635:=0
def tw415155950627947279:=0
def tw13623880814382498890:=0
def tw9833386624479466236:=0
def tw166656156256180751:=0
def tw12005207499371869129:=0
def tw15470682601632502565:=0
def tw14988616841053808293:=0
def tw8715645375740870435:=0
def tw16247586885567571492:=0
def tw4602230949685399313:=0
def tw17686321344048414710:=0
def tw5268507477876186502:=0
def tw15975554103207452232:=0
def tw5524124132255207312:=0
def tw10115182319569341290:=0
def tw2296154709490113577:=0
def tw12640133795196074257:=0
def tw12165865617508699789:=0
def tw6345540676168086467:=0
def tw13514830112008468575:=0
def tw18148782954613079193:=0
end PySem.W.Fast
set_option maxRecDepth 100000 in
set_option maxHeartbeats 0 in
theorem PySem.Challenge.cw_whyrows_k75_ledger_holds : PySem.Challenge.rw_whyrows_k75_ledger.Holds := by
 w_on;o_law;k_head;(case hw=>w_witness2)
 k_fill
 refine L2.qom (l:=PySem.Challenge.rw_whyrows_k75_ledger) (n:=63) (k:=13) (x:="_law_script") (CX:=L2.CX0) (sp:=Wy.sp_law) rfl (by decide) rfl ⟨zr,by decide,by decide⟩ (λ w h Y=>PySem.W.kIn_of Y) ?F ?S ?C
 case F=>
  intro w mg fa h KX G hmg;have T:Wy.Txt (L2.KOf KX) mg:=by
   dsimp only [L2.KOf]
   refine' Wy.qim KX G ?_ ?_ ?_ ?_ ?_ ?_ ?_ ?_ ?_ ?_ ?_ ?_ ?_ ?_ ?_ ?_ ?_ ?_ ?_ ?_ ?_ ?_ ?_ ?_ ?_ ?_ ?_ ?_ ?_ ?_ ?_ ?_ ?_ ?_ ?_ ?_ ?_ ?_ ?_ ?_ ?_ ?_ ?_ ?_ ?_ ?_ ?_ ?_ ?_ ?_ ?_ ?_ ?_ ?_ ?_ ?_ ?_ ?_ ?_ ?_ ?_ ?_ ?_ ?_ ?_ ?_ ?_ ?_ ?_ ?_ ?_ ?_ ?_ ?_ ?_ ?_ ?_ ?_ ?_ ?_ ?_ ?_ ?_ ?_ ?_ ?_ ?_ ?_ ?_ ?_ ?_ ?_ ?_ ?_ ?_ ?_ ?_ ?_ ?_ ?_ ?_
   all_goals first | (refine' L2.fiK ?_ ?_ ?_ ?_;all_goals first | k_is | skip) | (refine' L2.miK ?_ ?_ ?_ ?_ ?_ ?_;all_goals first | k_is | skip) | (refine' L2.ciK ?_ ?_ ?_ ?_ ?_ ?_ ?_;all_goals first | k_is | skip) | (refine' L2.aiK ?_ ?_;all_goals first | k_is | skip) | (refine' L2.xiK ?_ ?_ ?_ ?_ ?_ ?_ ?_ ?_ ?_ ?_;all_goals first | k_is | k_exc | skip) | (refine' L2.piK ?_ ?_ ?_;all_goals first | k_is | skip) | k_is | skip
  exact Wy.qur T hmg
 case S=>exact λ K H a ns hl hO hS=>⟨a,ns,rfl,hS,hl,λ _=>rfl⟩
 case C=>exact λ _ _ _ _ z=>z
