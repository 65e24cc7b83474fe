import PyProof.Rows.All
import Wide.All
import OpenK.AllK
import Wide.FinOn
import Lean
import PyProof.EqAt
import PyProof.EqKinds
import PyProof.TupleCall
import PyProof.P3Eq
import PyProof.P3In
import PyProof.NeData
import PyProof.Rows.SortShell
import PyProof.SumWalkG
import PyProof.Rows.SeqMore3
import PyProof.FitsBits
import PyProof.MinMaxWalk
import PyProof.WalkInts
import PyProof.Rows.CallKwBuiltin
import KE.KMinKey
import PyProof.AttrMissHeap
import KE.KDictOf
import KE.KIsAll
import PyProof.Rows.StrJoin2
import PyProof.ZipIter
import PyProof.Draws
import PyProof.Rows.ZipGen
import PyProof.Rows.StrFit
import PyProof.AutoSeq1
import KE.KSortKey
import KE.KSortTup
import PyProof.Rows.Range3
import PyProof.MeetsStr2
import PyProof.PureStr
import PyProof.Rows.FStr
import PyProof.CallStr
import KE.KIntText
import PyProof.StrLawsTight
import KE.IntTextLaws
import PyProof.StationsW
import KE.KTryMore
import PyProof.ExcClass2
import PyProof.ExcBaseAll.ValueError
import PyProof.NsDelKeeps
import PyProof.Rows.Catch
import PyProof.ExcArgs
import PySem.Challenge.RW_whyrows_k31_whole_sums_and_products_reck
set_option Elab.async false
set_option linter.all false
set_option maxRecDepth 100000
set_option maxHeartbeats 4000000
theorem zf {α:Sort u} {a:α}:a=a:=rfl
def z00:=@PySem.F.slot_dict_keyiterator_next
def z01:=@PySem.wpAny_typeNameOfWhole_keyiter
def z02:=@Int.mul_le_mul_of_nonneg_left
def z03:=@PyProof.Rows.callWith_type1
def z04:=@Array.perm_iff_toList_perm
def z05:=@List.getElem?_append_right
def z06:=@List.getD_eq_getElem?_getD
def z07:=@List.getElem?_eq_some_iff
def z08:=@List.pairwise_iff_getElem
def z09:=@List.drop_eq_getElem_cons
def z0a:=@List.extract_eq_take_drop
def z0b:=@Array.getElem?_eq_getElem
def z0c:=@List.mem_of_find?_eq_some
def z0d:=@List.getElem?_eq_getElem
def z0e:=@PySem.F.slot_list_extend
def z0f:=@PySem.F.type_list_extend
def z0g:=@PySem.F.slot_list_append
def z0h:=@PySem.F.type_list_append
def z0i:=@List.pairwise_singleton
def z0j:=@PySem.F.plain_list_iadd
def z0k:=@List.length_eq_zero_iff
def z0l:=@PySem.F.plainAttrs_list
def z0m:=@Int.eq_ofNat_of_zero_le
def z0n:=@List.take_of_length_le
def z0o:=@PySem.Heap.get?_push_of_some
def z0p:=@PySem.Heap.get?_update_other
def z0q:=@Option.map_eq_some_iff
def z0r:=@Array.getElem?_eq_none
def z0s:=@List.find?_cons_of_pos
def z0t:=@List.find?_cons_of_neg
def z0u:=@List.perm_append_comm
def z0v:=@List.take_append_drop
def z0w:=@List.mem_append_right
def z0x:=@Array.getElem?_toList
def z0y:=@List.length_singleton
def z0z:=@PySem.Heap.get?_update_self
def z10:=@List.length_filter_le
def z11:=@List.pairwise_append
def z12:=@List.mem_iff_getElem
def z13:=@Array.toList_extract
def z14:=@List.mem_of_mem_drop
def z15:=@List.mem_of_mem_take
def z16:=@List.mem_cons_of_mem
def z17:=@List.mem_append_left
def z18:=@List.mem_of_getElem?
def z19:=@Array.length_toList
def z1a:=@Array.toList_append
def z1b:=@PySem.Heap.SameBut.update
def z1c:=@PySem.Heap.get?_push_size
def z1d:=@PySem.mem_of_lookup
def z1e:=@List.replicate_succ
def z1f:=@List.map_congr_left
def z1g:=@List.toList_toArray
def z1h:=@PySem.wpAny_setEntries_of
def z1i:=@List.getElem_of_mem
def z1j:=@List.flatMap_append
def z1k:=@Bool.false_eq_true
def z1l:=@Bool.false_ne_true
def z1m:=@List.mem_singleton
def z1n:=@Array.size_extract
def z1o:=@List.length_append
def z1p:=@List.mem_cons_self
def z1q:=@List.pairwise_cons
def z1r:=@Nat.lt_of_lt_of_le
def z1s:=@PySem.wpAny_Call_Name_kw
def z1t:=@List.zip_cons_cons
def z1u:=@List.filter_append
def z1v:=@Int.lt_of_le_of_lt
def z1w:=@Int.emod_lt_of_pos
def z1x:=@PySem.W.mg_none_of
def z1y:=@List.append_assoc
def z1z:=@List.getElem_take
def z20:=@Array.toList_push
def z21:=@List.ext_getElem?
def z22:=@List.getElem?_map
def z23:=@List.size_toArray
def z24:=@PySem.wpAny_truthy_bool
def z25:=@PySem.wpAny_pyIter_list
def z26:=@Int.toNat_natCast
def z27:=@List.flatten_cons
def z28:=@PySem.wpAny_newObj_type
def z29:=@List.length_range
def z2a:=@PySem.wpAny_dictEntries
def z2b:=@List.mapM_toArray
def z2c:=@PySem.wpAny_setState_of
def z2d:=@List.nodup_append
def z2e:=@Nat.lt_succ_of_lt
def z2f:=@List.foldl_append
def z2g:=@List.length_take
def z2h:=@List.length_drop
def z2i:=@List.length_cons
def z2j:=@List.filter_cons
def z2k:=@List.getElem_mem
def z2l:=@Nat.lt_succ_self
def z2m:=@Bool.and_eq_true
def z2n:=@List.all_eq_true
def z2o:=@PySem.wpAny_call_entry
def z2p:=@List.any_eq_true
def z2q:=@Nat.succ_le_succ
def z2r:=@List.not_mem_nil
def z2s:=@PySem.wpAny_askSetting
def z2t:=@List.take_length
def z2u:=@List.mem_append
def z2v:=@List.cons.injEq
def z2w:=@decide_eq_false
def z2x:=@List.mem_filter
def z2y:=@PySem.wpAny_passesOwn
def z2z:=@Bool.eq_iff_iff
def z30:=@List.length_map
def z31:=@List.append_nil
def z32:=@List.nodup_cons
def z33:=@List.find?_cons
def z34:=@List.length_nil
def z35:=@List.range_succ
def z36:=@List.map_append
def z37:=@PySem.W.kia_one
def z38:=@PySem.wpAny_dictEpoch
def z39:=@PySem.codeAny_builtin
def z3a:=@Int.emod_nonneg
def z3b:=@PySem.W.binds_K
def z3c:=@decide_eq_true
def z3d:=@List.mem_range
def z3e:=@Bool.false_and
def z3f:=@PySem.Heap.size_push
def z3g:=@List.nodup_nil
def z3h:=@List.take_succ
def z3i:=@PySem.wpAny_setField
def z3j:=@Nat.mul_le_mul
def z3k:=@Int.mul_nonneg
def z3l:=@List.map_cons
def z3m:=@PySem.wpAny_attempt
def z3n:=@List.mem_cons
def z3o:=@PySem.wpAny_holding
def z3p:=@Nat.lt_irrefl
def z3q:=@List.any_cons
def z3r:=@PySem.W.mg_of
def z3s:=@List.sum_cons
def z3t:=@Bool.true_and
def z3u:=@decide_false
def z3v:=@Int.le_of_lt
def z3w:=@Int.le_trans
def z3x:=@Nat.zero_add
def z3y:=@Nat.le_of_lt
def z3z:=@PySem.Heap.lt_size
def z40:=@Nat.ne_of_lt
def z41:=@Nat.le_trans
def z42:=@Nat.ne_of_gt
def z43:=@PySem.codeAny_mono
def z44:=@List.map_nil
def z45:=@List.mem_map
def z46:=@List.all_map
def z47:=@List.map_map
def z48:=@Nat.le_refl
def z49:=@decide_true
def z4a:=@Int.le_refl
def z4b:=@Nat.zero_le
def z4c:=@List.map_id
def z4d:=@PySem.wpAny_rule
def z4e:=@PySem.wpAny_pure
def z4f:=@PySem.wpAny_bind
def z4g:=@PySem.wpAny_mono
namespace Tim
open PySem PyProof.Rows
def kx (rk:Keyed ->Int) (xs:Array Keyed) (i:Nat):Int:=match xs[i]? with
 | some p=>rk p
 | none=>0
def Up (rk:Keyed ->Int) (xs:Array Keyed) (lo hi:Nat):Prop:=∀ i j,lo<=i ->i<=j ->j < hi ->kx rk xs i<=kx rk xs j
def Dn (rk:Keyed ->Int) (xs:Array Keyed) (lo hi:Nat):Prop:=∀ i j,lo<=i ->i<=j ->j < hi ->kx rk xs j<=kx rk xs i
theorem q3n {rk:Keyed ->Int} {xs:Array Keyed} {i:Nat} {p:Keyed} (h:xs[i]? =some p):kx rk xs i=rk p:=by unfold kx;rw [h]
theorem q5d {rk:Keyed ->Int} {xs ys:Array Keyed} {i j:Nat} (h:xs[i]? =ys[j]?):kx rk xs i=kx rk ys j:=by unfold kx;rw [h]
def LtOk (M:Model) (A:Around) (E:Value ->Shared ->Prop) (s:Shared) (kd:SortKind) (S:Keyed ->Prop) (rk:Keyed ->Int):Prop:=
 ∀ (x y:Keyed) (st:SortSt) (Q:Option Bool ->SortSt ->Prop),S x ->S y ->kindOf st=kd ->Q (some (decide (rk x < rk y))) st ->wpS M A E s (lt' x y) Q st
structure Mv (lo hi:Nat) (st st':SortSt):Prop where
 perm:(arrOf st').Perm (arrOf st)
 out:∀ k,k < lo\/ hi<=k ->(arrOf st')[k]? =(arrOf st)[k]?
 kind:kindOf st'=kindOf st
 pend:pendingOf st'=pendingOf st
 failed:failedOf st'=failedOf st
theorem Mv.refl (lo hi:Nat) (st:SortSt):Mv lo hi st st:=⟨Array.Perm.refl _,λ _ _=>rfl,rfl,rfl,rfl⟩
theorem Mv.trans {lo hi:Nat} {a b c:SortSt} (h:Mv lo hi a b) (k:Mv lo hi b c):Mv lo hi a c:=
 ⟨k.perm.trans h.perm,λ i hi=>(k.out i hi).trans (h.out i hi),k.kind.trans h.kind,k.pend.trans h.pend,k.failed.trans h.failed⟩
theorem Mv.size {lo hi:Nat} {a b:SortSt} (h:Mv lo hi a b):(arrOf b).size=(arrOf a).size:=h.perm.size_eq
structure Sane (kd:SortKind) (S:Keyed ->Prop) (n:Nat) (st:SortSt):Prop where
 size:(arrOf st).size=n
 all:∀ p∈(arrOf st).toList,S p
 kind:kindOf st=kd
 failed:failedOf st=none
theorem Mv.sane {lo hi:Nat} {a b:SortSt} {kd:SortKind} {S:Keyed ->Prop} {n:Nat} (h:Mv lo hi a b) (k:Sane kd S n a):Sane kd S n b:=
 ⟨h.size.trans k.size,λ p hp=>k.all p ((z04.mp h.perm).mem_iff.mp hp),h.kind.trans k.kind,h.failed.trans k.failed⟩
theorem Sane.at {kd:SortKind} {S:Keyed ->Prop} {n:Nat} {st:SortSt} (rk:Keyed ->Int) (k:Sane kd S n st) {i:Nat} (hi:i < n):∃ p,(arrOf st)[i]? =some p/\S p/\kx rk (arrOf st) i=rk p:=by
 have D:i < (arrOf st).size:=by rw [k.size];exact hi
 have e:(arrOf st)[i]? =some (arrOf st)[i]:=getElem?_pos _ i D;exact ⟨_,e,k.all _ (by simp),q3n e⟩
theorem Mv.mirrored {lo hi i j:Nat} {st:SortSt} (h1:lo<=i) (h2:j<=hi) (D:j<=(arrOf st).size):Mv lo hi st (setArr st (mirror (arrOf st) i j ((j - i) / 2))):=
 ⟨mirror_perm _ _ _ _,λ k hk=>(getElem?_mirror_all (i:=i) D k).trans (if_neg (by (clear D;omega))),rfl,rfl,rfl⟩
theorem Mv.sunk {lo hi D d:Nat} {st:SortSt} (h1:lo+d<=D) (h2:D < hi) (J:D < (arrOf st).size):Mv lo hi st (setArr st (bubble (arrOf st) D d)):=
 ⟨bubble_perm _ _ _,λ k hk=>(getElem?_bubble J d (by (clear hk J h2;omega)) k).trans (by rw [if_neg (by (clear J;omega)),if_neg (by (clear J;omega))]),rfl,rfl,rfl⟩
theorem qav (rk:Keyed ->Int) {xs:Array Keyed} {i j:Nat} (hj:j<=xs.size) (k:Nat):
  kx rk (mirror xs i j ((j - i) / 2)) k=if i<=k/\k < j then kx rk xs (i+j - 1 - k) else kx rk xs k:=by
 have e:=getElem?_mirror_all (i:=i) hj k;by_cases c:i<=k/\k < j
 ·rw [if_pos c] at e ⊢;exact q5d e
 ·rw [if_neg c] at e ⊢;exact q5d e
theorem q2u (rk:Keyed ->Int) {xs:Array Keyed} {i j:Nat} (D:j<=xs.size) (J:∀ k,i<=k ->k < j ->kx rk xs k=kx rk xs (j - 1)) (k:Nat):
  kx rk (mirror xs i j ((j - i) / 2)) k=kx rk xs k:=by
 rw [qav rk D];by_cases c:i<=k/\k < j
 ·rw [if_pos c,J _ (by (clear D;omega)) (by (clear D;omega)),J k c.1 c.2]
 ·rw [if_neg c]
theorem qhe (rk:Keyed ->Int) {xs:Array Keyed} {D d:Nat} (hs:D < xs.size) (hd:d<=D) (k:Nat):
  kx rk (bubble xs D d) k=if k=D - d then kx rk xs D else if D - d < k/\k<=D then kx rk xs (k - 1) else kx rk xs k:=by
 have e:=getElem?_bubble hs d hd k;by_cases c:k=D - d
 ·rw [if_pos c] at e ⊢;exact q5d e
 ·rw [if_neg c] at e ⊢;by_cases c2:D - d < k/\k<=D
  ·rw [if_pos c2] at e ⊢;exact q5d e
  ·rw [if_neg c2] at e ⊢;exact q5d e
section
variable {M:Model} {A:Around} {E:Value ->Shared ->Prop} {s:Shared} {kd:SortKind} {S:Keyed ->Prop} {rk:Keyed ->Int} {n:Nat}
theorem qaw (L:LtOk M A E s kd S rk) {st:SortSt} (B:Sane kd S n st) {i j:Nat} (hi:i < n) (hj:j < n) {Q:Option Bool ->SortSt ->Prop}
  (h:Q (some (decide (kx rk (arrOf st) i < kx rk (arrOf st) j))) st):wpS M A E s (ltAt' i j) Q st:=by
 obtain ⟨p,e1,s1,k1⟩:=B.at rk hi;obtain ⟨q,e2,s2,k2⟩:=B.at rk hj;rw [k1,k2] at h;rw [ltAt'_eq];refine wpS_bind (wpS_get ?_);show wpS M A E s (elem' (arrOf st) i >>=λ x=>elem' (arrOf st) j >>=λ y=>lt' x y) Q st;rw [elem'_eq,elem'_eq,e1,e2];exact wpS_bind (wpS_pure (wpS_bind (wpS_pure (L p q st Q s1 s2 B.kind h))))
theorem q8k {st:SortSt} {i j:Nat} {Q:Unit ->SortSt ->Prop} (h:Q () (setArr st (mirror (arrOf st) i j ((j - i) / 2)))):wpS M A E s (reverseSlice' i j) Q st:=by
 rw [reverseSlice'_eq];exact wpS_modify h
def qax (lo a nrem:Nat):StateT SortSt Sem AscSt:=
 forIn [a:nrem] ((none,a):AscSt) λ _ c=>do
  let x <- ltAt' (lo+c.snd) (lo+c.snd - 1)
  match x with
  | some b=>if b=true then pure (ForInStep.done (none,c.snd)) else pure (ForInStep.yield (none,c.snd+1))
  | _=>pure (ForInStep.done (some none,c.snd))
def qay (lo m nrem:Nat):StateT SortSt Sem (Option Nat):=do
 reverseSlice' lo (lo+m)
 let c <- qax lo m nrem
 match c.fst with
 | some r=>pure r
 | none=>pure (some c.snd)
def qef (lo m nrem:Nat):StateT SortSt Sem DescSt:=
 forIn [m:nrem] ((none,m,0):DescSt) λ _ c=>do
  let x <- ltAt' (lo+c.snd.fst) (lo+c.snd.fst - 1)
  match x with
  | some b=>
   if b=true then
    if c.snd.snd > 0 then do
     reverseSlice' (lo+c.snd.fst - (c.snd.snd+1)) (lo+c.snd.fst)
     pure (ForInStep.yield (none,c.snd.fst+1,0))
    else pure (ForInStep.yield (none,c.snd.fst+1,0))
   else do
    let y <- ltAt' (lo+c.snd.fst - 1) (lo+c.snd.fst)
    match y with
    | some g=>if g=true then pure (ForInStep.done (none,c.snd.fst,c.snd.snd)) else pure (ForInStep.yield (none,c.snd.fst+1,c.snd.snd+1))
    | _=>pure (ForInStep.done (some none,c.snd.fst,c.snd.snd))
  | _=>pure (ForInStep.done (some none,c.snd.fst,c.snd.snd))
def qaz (lo m nrem:Nat):StateT SortSt Sem (Option Nat):=do
 liftM (rule "list.sort.descending-run")
 let c <- qef lo (m+1) nrem
 match c.fst with
 | some r=>pure r
 | none=>
  if c.snd.snd > 0 then do
   reverseSlice' (lo+c.snd.fst - (c.snd.snd+1)) (lo+c.snd.fst)
   qay lo c.snd.fst nrem
  else qay lo c.snd.fst nrem
theorem qmm (lo D:Nat):countRun' lo D=(do
  let c <- qax lo 1 D
  match c.fst with
  | some r=>pure r
  | none=>
   if (c.snd==D)=true then pure (some c.snd)
   else if c.snd > 1 then do
    let x <- ltAt' lo (lo+c.snd - 1)
    match x with
    | some J=>if J=true then pure (some c.snd) else do
      reverseSlice' lo (lo+c.snd)
      qaz lo c.snd D
    | _=>pure none
   else qaz lo c.snd D):=by
 rw [countRun'_eq]
 dsimp only
 unfold qaz qay qef qax
 congr 1
 funext c
 obtain ⟨r,m⟩:=c;cases r with
 | some r=>rfl
 | none=>
  dsimp only
  split
  ·rfl
  ·split
   ·congr 1
    funext x
    cases x with
    | none=>rfl
    | some J=>
     dsimp only
     split
     ·rfl
     ·congr 1
      funext _u
      congr 1
      funext _v
      congr 1
      congr 1
      funext c2
      obtain ⟨r2,n2,q2⟩:=c2;cases r2 with
      | some r2=>rfl
      | none=>
       dsimp only
       split
       ·congr 1
        funext _w
        congr 1
        funext _z
        congr 1
        funext c3
        obtain ⟨r3,O⟩:=c3;cases r3 <;> rfl
       ·congr 1
        funext _z
        congr 1
        funext c3
        obtain ⟨r3,O⟩:=c3;cases r3 <;> rfl
   ·congr 1
    funext _v
    congr 1
    congr 1
    funext c2
    obtain ⟨r2,n2,q2⟩:=c2;cases r2 with
    | some r2=>rfl
    | none=>
     dsimp only
     split
     ·congr 1
      funext _w
      congr 1
      funext _z
      congr 1
      funext c3
      obtain ⟨r3,O⟩:=c3;cases r3 <;> rfl
     ·congr 1
      funext _z
      congr 1
      funext c3
      obtain ⟨r3,O⟩:=c3;cases r3 <;> rfl
theorem qjx (L:LtOk M A E s kd S rk) {st:SortSt} {lo a J:Nat} {Q:AscSt ->SortSt ->Prop} (B:Sane kd S n st) (hn:lo+J<=n) (ha:1<=a) (O:a<=J) (hs:Up rk (arrOf st) lo (lo+a))
  (h:∀ m,a<=m ->m<=J ->Up rk (arrOf st) lo (lo+m) ->(m=J\/ kx rk (arrOf st) (lo+m) < kx rk (arrOf st) (lo+m - 1)) ->Q (none,m) st):wpS M A E s (qax lo a J) Q st:=by
 unfold qax;refine wpS_forRange (I:=λ x c a2=>a2=st/\c=(none,x)/\Up rk (arrOf st) lo (lo+x)) ?turn ?last ⟨zf,zf,hs⟩
 case last=>
  rintro c a2 ⟨rfl,rfl,a0⟩;have e:max a J=J:=by (clear ha hn;omega)
  rw [e] at a0 ⊢;exact h J O (z48 _) a0 (.inl rfl)
 case turn=>
  rintro x c a2 Z a1 ⟨rfl,rfl,a0⟩
  dsimp only
  refine wpS_bind (qaw L B (by (clear Z O ha;omega)) (by (clear Z O ha;omega)) ?_);by_cases D:kx rk (arrOf a2) (lo+x) < kx rk (arrOf a2) (lo+x - 1)
  ·simp only [D,z49,if_true];exact wpS_pure (h x Z (by (clear D Z O ha hn;omega)) a0 (.inr D))
  ·simp only [D,z3u,z1k,if_false];refine wpS_pure ⟨zf,zf,λ i j h1 h2 h3=> ?_⟩;by_cases hj:j < lo+x
   ·exact a0 i j h1 h2 hj
   ·have a3:j=lo+x:=by (clear h2 h1 D a1 Z O ha hn;omega)
    subst a3;by_cases hi:i=lo+x
    ·subst hi
     (clear h2 h1 hj h3 D a1 Z O ha hn;omega)
    ·have:=a0 i (lo+x - 1) h1 (by (clear hj h3 h1 D a1 Z O ha hn;omega)) (by (clear hi hj h3 h2 h1 D a1 O hn;omega))
     (clear hi hj h3 h2 h1 a1 Z O ha hn;omega)
theorem qjy (L:LtOk M A E s kd S rk) {st:SortSt} {lo m D:Nat} {Q:Option Nat ->SortSt ->Prop} (B:Sane kd S n st) (hn:lo+D<=n) (h1:1<=m) (hm:m<=D) (hs:Dn rk (arrOf st) lo (lo+m))
  (h:∀ k J,Mv lo (lo+D) st J ->1<=k ->k<=D ->Up rk (arrOf J) lo (lo+k) ->Q (some k) J):wpS M A E s (qay lo m D) Q st:=by
 unfold qay;have hz:lo+m<=(arrOf st).size:=by rw [B.size];(clear h1;omega)
 have v:Mv lo (lo+D) st (setArr st (mirror (arrOf st) lo (lo+m) ((lo+m - lo) / 2))):=Mv.mirrored (z48 _) (by (clear hz h1 hn;omega)) hz;refine wpS_bind (q8k (wpS_bind (qjx L (v.sane B) hn h1 hm ?_ λ k k1 O k3 _=>wpS_pure (h k _ v (by (clear O hz hm hn;omega)) O k3))));intro i j a b c;show kx rk (mirror (arrOf st) lo (lo+m) ((lo+m - lo) / 2)) i<=kx rk (mirror (arrOf st) lo (lo+m) ((lo+m - lo) / 2)) j;rw [qav rk hz,qav rk hz,if_pos (by (clear hz hm h1 hn;omega)),if_pos (by (clear hz hm h1 hn;omega))];exact hs _ _ (by (clear b a hz hm h1 hn;omega)) (by (clear c a hz hm h1 hn;omega)) (by (clear c b hz hm hn;omega))
theorem qt0 (L:LtOk M A E s kd S rk) {st:SortSt} {lo m a1:Nat} {Q:DescSt ->SortSt ->Prop} (B:Sane kd S n st) (hn:lo+a1<=n) (h1:1<=m) (hm:m<=a1) (hs:Dn rk (arrOf st) lo (lo+m))
  (h:∀ k q O,Mv lo (lo+a1) st O ->m<=k ->k<=a1 ->Dn rk (arrOf O) lo (lo+k) ->q+1<=k ->(∀ i,lo+k - (q+1)<=i ->i < lo+k ->kx rk (arrOf O) i=kx rk (arrOf O) (lo+k - 1)) ->Q (none,k,q) O):
  wpS M A E s (qef lo m a1) Q st:=by
 unfold qef;refine wpS_forRange (I:=λ x c O=>∃ q,c=(none,x,q)/\Mv lo (lo+a1) st O/\Dn rk (arrOf O) lo (lo+x)/\q+1<=x/\
  (∀ i,lo+x - (q+1)<=i ->i < lo+x ->kx rk (arrOf O) i=kx rk (arrOf O) (lo+x - 1))) ?turn ?last ⟨0,rfl,Mv.refl _ _ _,hs,by (clear hm hn;omega),λ i a b=>by rw [show i=lo+m - 1 by (clear hm h1 hn;omega)]⟩
 case last=>
  rintro c O ⟨q,rfl,v,a3,hq,he⟩;have e:max m a1=a1:=by (clear hq h1 hn;omega)
  rw [e] at a3 hq he ⊢;exact h a1 q O v hm (z48 _) a3 hq he
 case turn=>
  rintro x c O J Z ⟨q,rfl,v,a3,hq,he⟩
  dsimp only
  have B':=v.sane B;have hz:lo+x<=(arrOf O).size:=by rw [B'.size];(clear hq J hm h1;omega)
  refine wpS_bind (qaw L B' (by (clear hz hq J hm h1;omega)) (by (clear hz hq J hm h1;omega)) ?_);by_cases D:kx rk (arrOf O) (lo+x) < kx rk (arrOf O) (lo+x - 1)
  ·simp only [D,z49,if_true];have more:∀ xs:Array Keyed,(∀ k,kx rk xs k=kx rk (arrOf O) k) ->Dn rk xs lo (lo+(x+1)):=by
    intro xs hk i j a b c;rw [hk,hk];by_cases hj:j < lo+x
    ·exact a3 i j a b hj
    ·have a4:j=lo+x:=by (clear b a D hz hq Z J hm h1 hn;omega)
     subst a4;by_cases hi:i=lo+x
     ·subst hi
      (clear b a hj c D hz hq Z J hm h1 hn;omega)
     ·have:=a3 i (lo+x - 1) a (by (clear hj c a D hz hq Z J hm h1 hn;omega)) (by (clear hi hj c b a D hz hq Z hm hn;omega))
      (clear hi hj c b a hz hq Z J hm h1 hn;omega)
   by_cases a2:q > 0
   ·rw [if_pos a2];exact wpS_bind (q8k (wpS_pure ⟨0,rfl,v.trans (Mv.mirrored (by (clear a2 D hz Z J hm h1 hn;omega)) (by (clear a2 D hz hq J hm h1 hn;omega)) hz),more _ (q2u rk hz he),by (clear a2 D hz hq Z J hm h1 hn;omega),λ i a b=>by rw [show i=lo+(x+1) - 1 by (clear a2 D hz hq Z J hm h1 hn;omega)]⟩))
   ·rw [if_neg a2];exact wpS_pure ⟨0,rfl,v,more _ (λ _=>rfl),by (clear a2 D hz hq Z J hm h1 hn;omega),λ i a b=>by rw [show i=lo+(x+1) - 1 by (clear a2 D hz hq Z J hm h1 hn;omega)]⟩
  ·simp only [D,z3u,z1k,if_false];refine wpS_bind (qaw L B' (by (clear D hz hq J hm h1;omega)) (by (clear D hz hq J hm h1;omega)) ?_);by_cases a0:kx rk (arrOf O) (lo+x - 1) < kx rk (arrOf O) (lo+x)
   ·simp only [a0,z49,if_true];exact wpS_pure (h x q O v J (by (clear a0 D hz hq J hm h1 hn;omega)) a3 hq he)
   ·simp only [a0,z3u,z1k,if_false];have ex:kx rk (arrOf O) (lo+x)=kx rk (arrOf O) (lo+x - 1):=by (clear hz hq Z J hm h1 hn;omega)
    refine wpS_pure ⟨q+1,rfl,v,λ i j a b c=> ?_,by (clear ex a0 D hz Z J hm h1 hn;omega),λ i a b=> ?_⟩
    ·by_cases hj:j < lo+x
     ·exact a3 i j a b hj
     ·have a4:j=lo+x:=by (clear b a ex a0 D hz hq Z J hm h1 hn;omega)
      subst a4;by_cases hi:i=lo+x
      ·subst hi
       (clear b a hj c ex a0 D hz hq Z J hm h1 hn;omega)
      ·have:=a3 i (lo+x - 1) a (by (clear hj c a ex a0 D hz hq Z J hm h1 hn;omega)) (by (clear hi hj c b a ex a0 D hz hq Z hm hn;omega))
       (clear hi hj c b a ex D hz hq Z J hm h1 hn;omega)
    ·rw [show lo+(x+1) - 1=lo+x by (clear b a ex a0 D hz hq Z J hm h1 hn;omega)];by_cases hi:i=lo+x
     ·rw [hi]
     ·rw [ex];exact he i (by (clear hi b ex a0 D hz hq Z J hm h1 hn;omega)) (by (clear a ex a0 D hz hq Z J hm h1 hn;omega))
theorem qjz (L:LtOk M A E s kd S rk) {st:SortSt} {lo m J:Nat} {Q:Option Nat ->SortSt ->Prop} (B:Sane kd S n st) (hn:lo+J<=n) (hm:m+1<=J) (hs:Dn rk (arrOf st) lo (lo+(m+1)))
  (h:∀ k D,Mv lo (lo+J) st D ->1<=k ->k<=J ->Up rk (arrOf D) lo (lo+k) ->Q (some k) D):wpS M A E s (qaz lo m J) Q st:=by
 unfold qaz;refine wpS_bind (wpS_lift (z4d ⟨zf,?_⟩));refine wpS_bind (qt0 L B hn (by (clear hm hn;omega)) hm hs λ k q D v k1 k2 a0 hq he=> ?_)
 dsimp only
 have B':=v.sane B;have hz:lo+k<=(arrOf D).size:=by rw [B'.size];(clear hq k1 hm;omega)
 by_cases O:q > 0
 ·rw [if_pos O];have v2:Mv lo (lo+J) D (setArr D (mirror (arrOf D) (lo+k - (q+1)) (lo+k) ((lo+k - (lo+k - (q+1))) / 2))):=Mv.mirrored (by (clear O hz k2 k1 hm hn;omega)) (by (clear O hz hq k1 hm hn;omega)) hz;refine wpS_bind (q8k (qjy L (v2.sane B') hn (by (clear O hz hq k2 hm hn;omega)) k2 ?_ λ j Z v3=>h j Z ((v.trans v2).trans v3)));intro i j a b c;show kx rk (mirror (arrOf D) (lo+k - (q+1)) (lo+k) ((lo+k - (lo+k - (q+1))) / 2)) j<=kx rk (mirror (arrOf D) (lo+k - (q+1)) (lo+k) ((lo+k - (lo+k - (q+1))) / 2)) i;rw [q2u rk hz he,q2u rk hz he];exact a0 i j a b c
 ·rw [if_neg O];exact qjy L B' hn (by (clear O hz hq k2 hm hn;omega)) k2 a0 λ j Z v3=>h j Z (v.trans v3)
theorem qok (L:LtOk M A E s kd S rk) {st:SortSt} {lo Z:Nat} {Q:Option Nat ->SortSt ->Prop} (B:Sane kd S n st) (hn:lo+Z<=n) (h1:1<=Z)
  (h:∀ k a3,Mv lo (lo+Z) st a3 ->1<=k ->k<=Z ->Up rk (arrOf a3) lo (lo+k) ->Q (some k) a3):wpS M A E s (countRun' lo Z) Q st:=by
 rw [qmm];refine wpS_bind (qjx L B hn (z48 1) h1 (λ i j a b c=>by rw [show i=j by (clear h1 hn;omega)];exact z4a _) λ m m1 m2 hs O=> ?_)
 dsimp only
 by_cases hm:m=Z
 ·rw [if_pos (by simpa using hm)];exact wpS_pure (h m st (Mv.refl _ _ _) m1 m2 hs)
 ·rw [if_neg (by simpa using hm)];have J:=O.resolve_left hm;by_cases hg:m > 1
  ·rw [if_pos hg];refine wpS_bind (qaw L B (by (clear hg J hm O m2 m1;omega)) (by (clear hg J hm O m1;omega)) ?_);by_cases D:kx rk (arrOf st) lo < kx rk (arrOf st) (lo+m - 1)
   ·simp only [D,z49,if_true];exact wpS_pure (h m st (Mv.refl _ _ _) m1 m2 hs)
   ·simp only [D,z3u,z1k,if_false];have hz:lo+m<=(arrOf st).size:=by rw [B.size];(clear D hg J hm O m1 h1;omega)
    have a0:∀ k,lo<=k ->k < lo+m ->kx rk (arrOf st) k=kx rk (arrOf st) (lo+m - 1):=by
     intro k a b;have a1:=hs lo k (z48 _) a b;have a2:=hs k (lo+m - 1) a (by (clear a1 a hz D hg J hm O m2 m1 h1 hn;omega)) (by (clear a1 b a hz D hg J hm O m2 h1 hn;omega))
     (clear b a hz hg J hm O m2 m1 h1 hn;omega)
    have v:Mv lo (lo+Z) st (setArr st (mirror (arrOf st) lo (lo+m) ((lo+m - lo) / 2))):=Mv.mirrored (z48 _) (by (clear hz D hg J hm O m1 h1 hn;omega)) hz;refine wpS_bind (q8k (qjz L (v.sane B) hn (by (clear hz D hg J O m1 h1 hn;omega)) ?_ λ j a6 v3=>h j a6 (v.trans v3)));intro i j a b c;show kx rk (mirror (arrOf st) lo (lo+m) ((lo+m - lo) / 2)) j<=kx rk (mirror (arrOf st) lo (lo+m) ((lo+m - lo) / 2)) i;rw [q2u rk hz a0,q2u rk hz a0];by_cases hj:j < lo+m
    ·rw [a0 i a (by (clear c a hz D hg J hm O m2 m1 h1 hn;omega)),a0 j (by (clear hj c hz D hg J hm O m2 m1 h1 hn;omega)) hj];exact z4a _
    ·have a4:j=lo+m:=by (clear b a hz D hg J hm O m2 m1 h1 hn;omega)
     subst a4;by_cases hi:i=lo+m
     ·subst hi
      (clear b a hj c hz D hg J hm O m2 m1 h1 hn;omega)
     ·rw [a0 i a (by (clear hj c a hz D hg J hm O m2 m1 h1 hn;omega))]
      (clear hi hj c b a hz D hg J m2 m1 h1 hn;omega)
  ·rw [if_neg hg];have a5:m=1:=by (clear J hm O m2 h1 hn;omega)
   subst a5;refine qjz L B hn (by (clear hg J O m2 m1 hn;omega)) ?_ h;intro i j a b c;by_cases hi:i=j
   ·rw [hi];exact z4a _
   ·have e1:i=lo:=by (clear hg J hm O m2 m1 h1 hn;omega)
    have e2:j=lo+1:=by (clear e1 hg J hm O m2 m1 h1 hn;omega)
    subst e1 e2;have:i+1 - 1=i:=by (clear c hi b a J O hn hg hm m2 m1 h1;omega)
    rw [this] at J
    (clear this c hi b a O hn hg hm m2 m1 h1;omega)
theorem qk0 (L:LtOk M A E s kd S rk) {st:SortSt} {lo m ok:Nat} {Q:Bool ->SortSt ->Prop} (B:Sane kd S n st) (hn:lo+m<=n) (hok:ok<=m) (hs:Up rk (arrOf st) lo (lo+ok))
    (h:∀ Z,Mv lo (lo+m) st Z ->Up rk (arrOf Z) lo (lo+m) ->Q true Z):wpS M A E s (binarySort' lo m ok) Q st:=by
  rw [binarySort'_eq];refine wpS_bind (wpS_mono (wpS_forRange (I:=λ k c Z=>c=(none,())/\Mv lo (lo+m) st Z/\Up rk (arrOf Z) lo (lo+min k m))
    (Q:=λ c Z=>c=(none,())/\Mv lo (lo+m) st Z/\Up rk (arrOf Z) lo (lo+m)) ?turn ?last ?first) ?after)
  case after=>
    rintro c Z ⟨rfl,v,a6⟩;exact wpS_pure (h Z v a6)
  case first=>
    refine ⟨zf,Mv.refl _ _ _,λ i j a b c=> ?_⟩;by_cases h0:ok=0
    · rw [show i=j by (clear hok hn;omega)]
      exact z4a _
    · exact hs i j a b (by (clear b a hok hn;omega))
  case last=>
    rintro c Z ⟨hc,v,a6⟩;refine ⟨hc,v,?_⟩
    rwa [show min (max (max ok 1) m) m=m by (clear hc hok hn;omega)] at a6
  case turn=>
    rintro k c Z D J ⟨rfl,v,a6⟩;have e0:min k m=k:=by (clear D hok hn;omega)
    rw [e0] at a6;have B':=v.sane B;refine wpS_bind (wpS_mono (wpS_forRange (I:=λ x c a3=>a3=Z/\∃ l r,c=(none,l,r)/\l<=r/\r<=k/\r - l<=k - x/\
        (∀ i,i < l ->kx rk (arrOf Z) (lo+i)<=kx rk (arrOf Z) (lo+k))/\(∀ i,r<=i ->i < k ->kx rk (arrOf Z) (lo+k) < kx rk (arrOf Z) (lo+i)))
      (Q:=λ c a3=>a3=Z/\∃ l r,c=(none,l,r)/\l<=k/\
        (∀ i,i < l ->kx rk (arrOf Z) (lo+i)<=kx rk (arrOf Z) (lo+k))/\(∀ i,l<=i ->i < k ->kx rk (arrOf Z) (lo+k) < kx rk (arrOf Z) (lo+i))) ?iturn ?ilast ?ifirst) ?iafter)
    case ifirst=>exact ⟨rfl,0,k,rfl,by (clear e0 J D hok hn;omega),by (clear e0 J D hok hn;omega),by (clear e0 J D hok hn;omega),λ i hi=>by (clear e0 J D hok hn;omega),λ i a b=>by (clear e0 J D hok hn;omega)⟩
    case ilast=>
      rintro c a3 ⟨rfl,l,r,rfl,a5,a0,hd,a8,a7⟩;have e:l=r:=by (clear a0 e0 J D hok hn;omega)
      subst e;exact ⟨zf,l,l,zf,a0,a8,a7⟩
    case iturn=>
      rintro x c a3 _ a1 ⟨rfl,l,r,rfl,a5,a0,hd,a8,a7⟩
      dsimp only
      by_cases a2:l >=r
      · rw [if_pos a2]
        have e:l=r:=by (clear hd a0 a1 e0 J D hok hn;omega)
        subst e;exact wpS_pure ⟨zf,l,l,zf,a0,a8,a7⟩
      · rw [if_neg a2]
        refine wpS_bind (qaw L B' (by (clear a2 hd a0 a5 a1 e0 D hok;omega)) (by (clear a2 hd a1 e0 D hok;omega)) ?_);by_cases O:kx rk (arrOf a3) (lo+k) < kx rk (arrOf a3) (lo+(l+r) / 2)
        · simp only [O,z49,if_true]
          refine wpS_pure ⟨rfl,l,(l+r) / 2,rfl,by (clear O a2 hd a0 a1 e0 J D hok hn;omega),by (clear O a2 hd a1 e0 J D hok hn;omega),by (clear O a2 a0 a5 a1 e0 J D hok hn;omega),a8,λ i a b=> ?_⟩;have:=a6 (lo+(l+r) / 2) (lo+i) (by (clear b a O a2 hd a0 a5 a1 e0 J D hok hn;omega)) (by (clear b O a2 hd a0 a5 a1 e0 J D hok hn;omega)) (by (clear a O a2 hd a0 a5 a1 e0 J D hok hn;omega))
          (clear b a a2 hd a0 a5 a1 e0 J D hok hn;omega)
        · simp only [O,z3u,z1k,if_false]
          refine wpS_pure ⟨rfl,(l+r) / 2+1,r,rfl,by (clear O hd a0 a5 a1 e0 J D hok hn;omega),by (clear O a2 hd a5 a1 e0 J D hok hn;omega),by (clear O a2 a0 a5 a1 e0 J D hok hn;omega),λ i a=> ?_,a7⟩;have:=a6 (lo+i) (lo+(l+r) / 2) (by (clear a O a2 hd a0 a5 a1 e0 J D hok hn;omega)) (by (clear O a2 hd a0 a5 a1 e0 J D hok hn;omega)) (by (clear a O hd a5 a1 e0 J D hok hn;omega))
          (clear a a2 hd a0 a5 a1 e0 J D hok hn;omega)
    case iafter=>
      rintro c a3 ⟨rfl,l,r,rfl,a4,a8,a7⟩;show wpS M A E s (moveDown' (lo+k) (lo+l) >>=λ _=>pure (ForInStep.yield (none,()))) _ a3;rw [moveDown'_eq];have hz:lo+k < (arrOf a3).size:=by rw [B'.size];(clear a4 e0 D hok;omega)
      refine wpS_bind (wpS_modify (wpS_pure ⟨rfl,v.trans (Mv.sunk (by (clear hz a4 e0 J D hok hn;omega)) (by (clear hz a4 e0 D hok hn;omega)) hz),?_⟩));rw [show min (k+1) m=k+1 by (clear hz a4 e0 D hok hn;omega)];intro i j a b c;show kx rk (bubble (arrOf a3) (lo+k) (lo+k - (lo+l))) i<=kx rk (bubble (arrOf a3) (lo+k) (lo+k - (lo+l))) j;rw [qhe rk hz (by (clear c b a hz a4 e0 J D hok hn;omega)),qhe rk hz (by (clear c b a hz a4 e0 J D hok hn;omega)),show lo+k - (lo+k - (lo+l))=lo+l by (clear c b a hz e0 J D hok hn;omega)];have b2:∀ q,lo<=q ->q < lo+l ->kx rk (arrOf a3) q<=kx rk (arrOf a3) (lo+k):=λ q a b=>by
        have:=a8 (q - lo) (by (clear c hz a4 e0 J D hok hn;omega))
        rwa [show lo+(q - lo)=q by (clear this b c hz a4 e0 J D hok hn;omega)] at this
      have a9:∀ q,lo+l<=q ->q < lo+k ->kx rk (arrOf a3) (lo+k) < kx rk (arrOf a3) q:=λ q a b=>by
        have:=a7 (q - lo) (by (clear b c hz a4 e0 J D hok hn;omega)) (by (clear a c hz a4 e0 J hok hn;omega))
        rwa [show lo+(q - lo)=q by (clear this b c hz a4 e0 J D hok hn;omega)] at this
      repeat' split
      all_goals first
        | (exfalso;omega)
        | exact z4a _
        | exact b2 _ (by (clear c b hz a4 e0 J D hok hn;omega)) (by (clear c a hz a4 e0 J D hok hn;omega))
        | exact z3v (a9 _ (by (clear c b a hz a4 e0 J D hok hn;omega)) (by (clear c b a hz a4 e0 J D hok hn;omega)))
        | exact a6 _ _ (by omega) (by omega) (by omega)
end
end Tim
namespace Tim
section
variable {α:Type} {rk:α ->Int} {as bs out:List α} {ia ib:Nat}
def Asc (rk:α ->Int) (l:List α):Prop:=l.Pairwise λ p q=>rk p<=rk q
structure Jn (rk:α ->Int) (as bs out:List α) (ia ib:Nat):Prop where
 perm:out.Perm (as.take ia++bs.take ib)
 asc:Asc rk out
 la:∀ p∈out,∀ q∈as.drop ia,rk p<=rk q
 lb:∀ p∈out,∀ q∈bs.drop ib,rk p<=rk q
theorem Jn.swap (h:Jn rk as bs out ia ib):Jn rk bs as out ib ia:=⟨h.perm.trans z0u,h.asc,h.lb,h.la⟩
theorem Jn.start:Jn rk as bs [] 0 0:=⟨by simp,List.Pairwise.nil,(λ _ z=>nomatch z),(λ _ z=>nomatch z)⟩
theorem qd9 (h:Asc rk as) (i:Nat):Asc rk (as.drop i):=List.Pairwise.sublist (List.drop_sublist i as) h
theorem q7c (as:List α) (i k:Nat):as.drop i=(as.drop i).take k++as.drop (i+k):=by
 rw [<- List.drop_drop,z0v]
theorem Jn.moreA (h:Jn rk as bs out ia ib) (ha:Asc rk as) (k:Nat) (hx:∀ p∈(as.drop ia).take k,∀ q∈bs.drop ib,rk p<=rk q):Jn rk as bs (out++(as.drop ia).take k) (ia+k) ib:=by
 have hd:=qd9 ha ia;rw [q7c as ia k] at hd;obtain ⟨d1,d2,d3⟩:=z11.mp hd;have J:∀ q,q∈(as.drop ia).take k ->q∈as.drop ia:=λ q hq=>(List.take_sublist _ _).mem hq;have O:∀ q,q∈as.drop (ia+k) ->q∈as.drop ia:=λ q hq=>by
  rw [q7c as ia k];exact z0w _ hq
 refine ⟨?_,?_,λ p D q hq=> ?_,λ p D q hq=> ?_⟩
 ·rw [List.take_add,z1y];refine (h.perm.append_right _).trans ?_;rw [z1y];exact List.Perm.append_left _ z0u
 ·exact z11.mpr ⟨h.asc,d1,λ p D q hq=>h.la p D q (J q hq)⟩
 ·rcases z2u.mp D with D | D
  ·exact h.la p D q (O q hq)
  ·exact d3 p D q hq
 ·rcases z2u.mp D with D | D
  ·exact h.lb p D q hq
  ·exact hx p D q hq
theorem Jn.done (h:Jn rk as bs out ia ib) (ha:Asc rk as) (hb:Asc rk bs) (hx:∀ p∈as.drop ia,∀ q∈bs.drop ib,rk p<=rk q):
  (out++as.drop ia++bs.drop ib).Perm (as++bs)/\Asc rk (out++as.drop ia++bs.drop ib):=by
 constructor
 ·refine ((h.perm.append_right _).append_right _).trans ?_;have e1:as=as.take ia++as.drop ia:=(z0v ..).symm;have e2:bs=bs.take ib++bs.drop ib:=(z0v ..).symm;refine List.Perm.trans ?_ (List.Perm.of_eq (show (as.take ia++as.drop ia)++(bs.take ib++bs.drop ib)=as++bs by rw [<- e1,<- e2]));simp only [z1y];refine List.Perm.append_left _ ?_;rw [<- z1y,<- z1y];exact List.Perm.append_right _ z0u
 ·refine z11.mpr ⟨z11.mpr ⟨h.asc,qd9 ha _,h.la⟩,qd9 hb _,λ p D q hq=> ?_⟩;rcases z2u.mp D with D | D
  ·exact h.lb p D q hq
  ·exact hx p D q hq
theorem Jn.done2 (h:Jn rk as bs out ia ib) (ha:Asc rk as) (hb:Asc rk bs) (hx:∀ p∈bs.drop ib,∀ q∈as.drop ia,rk p<=rk q):
  (out++bs.drop ib++as.drop ia).Perm (as++bs)/\Asc rk (out++bs.drop ib++as.drop ia):=
 let ⟨a,b⟩:=h.swap.done hb ha hx
 ⟨a.trans z0u,b⟩
theorem qft (h:Asc rk as):Asc (λ p=>- rk p) as.reverse:=by
 unfold Asc;rw [List.pairwise_reverse];exact List.Pairwise.imp (λ {p q} (z:rk p<=rk q)=>show - rk q<= - rk p by omega) h
theorem asc_rev' (h:Asc (λ p=>- rk p) as):Asc rk as.reverse:=by
 unfold Asc;rw [List.pairwise_reverse];exact List.Pairwise.imp (λ {p q} (z: - rk p<= - rk q)=>show rk q<=rk p by omega) h
theorem qk1 (as:List α) (k:Nat) (h:k<=as.length):as.reverse.drop (as.length - k)=(as.take k).reverse:=by
 rw [List.drop_reverse]
 congr 1
 congr 1
 omega
theorem qw1 (as:List α) (i k:Nat) (hi:i<=k) (h:k<=as.length):(as.reverse.drop (as.length - k)).take (k - i)=((as.drop i).take (k - i)).reverse:=by
 rw [qk1 as k h,List.take_reverse,z2g,Nat.min_eq_left h]
 congr 1
 rw [List.drop_take]
 congr 1
 ·omega
 ·congr 1
  omega
theorem qna (ha:Asc rk as) {i:Nat} {x:α} (hx:as[i]? =some x):∀ q∈as.drop i,rk x<=rk q:=by
 intro q hq;obtain ⟨j,hj,e⟩:=z12.mp hq;rw [List.getElem_drop] at e;obtain ⟨hi,ex⟩:=z07.mp hx;subst e ex;rcases Nat.eq_zero_or_pos j with h | h
 ·subst h;exact z4a _
 ·exact z08.mp ha i (i+j) hi (by rw [z2h] at hj;omega) (by omega)
theorem qnb (ha:Asc rk as) {i:Nat} {x:α} (hx:as[i]? =some x):∀ q∈as.take (i+1),rk q<=rk x:=by
 intro q hq;obtain ⟨j,hj,e⟩:=z12.mp hq;rw [z1z] at e;obtain ⟨hi,ex⟩:=z07.mp hx;subst e ex;have hj':j<=i:=by rw [z2g] at hj;omega
 rcases Nat.lt_or_ge j i with h | h
 ·exact z08.mp ha j i (by omega) hi h
 ·have:j=i:=by omega
  subst this;exact z4a _
theorem qda {i:Nat} {x:α} (hx:as[i]? =some x):(as.drop i).take 1=[x]:=by
 obtain ⟨hi,ex⟩:=z07.mp hx;rw [z09 hi,ex];rfl
end
end Tim
namespace Tim
open PySem PyProof.Rows
def q2r:Bool ->Keyed ->Array Keyed ->Nat ->Nat ->Nat ->StateT SortSt Sem (Option Nat):=sortPriv%PySem.Builtin.gallop
def beyd (left:Bool) (key:Keyed) (arr:Array Keyed) (i:Nat):StateT SortSt Sem (Option Bool):=do
 let p <- elem' arr i
 if left then lt' p key else return (<- lt' key p).map (!·)
theorem qol (left:Bool) (key:Keyed) (arr:Array Keyed) (base n hint:Nat):q2r left key arr base n hint=(do
 let mut bk:=0
 let mut fw:=1
 let mut lo:=0
 let mut up:=0
 let some rt <- beyd left key arr (base+hint) | return none
 if rt then
  let most:=n - hint
  for _ in [0:n] do
   if fw >=most then break
   let some mr <- beyd left key arr (base+(hint+fw)) | return none
   if !mr then break
   bk:=fw
   fw:=2*fw+1
  lo:=hint+bk+1
  up:=hint+min fw most
 else
  let most:=hint+1
  for _ in [0:n] do
   if fw >=most then break
   let some fd <- beyd left key arr (base+(hint - fw)) | return none
   if fd then break
   bk:=fw
   fw:=2*fw+1
  lo:=hint+1 - min fw most
  up:=hint - bk
 for _ in [0:n] do
  if lo >=up then break
  let D:=lo+(up - lo) / 2
  let some mr <- beyd left key arr (base+D) | return none
  if mr then lo:=D+1 else up:=D
 return some up):=rfl
def ahd (left:Bool) (k v:Int):Bool:=if left then decide (v < k) else decide (v<=k)
theorem qdb {left:Bool} {k v u:Int} (h:v<=u) (e:ahd left k u=true):ahd left k v=true:=by
 unfold ahd at*;cases left
 ·simp at*
  omega
 ·simp at*
  omega
def gBin (left:Bool) (key:Keyed) (arr:Array Keyed) (base n lo0 up0:Nat):StateT SortSt Sem (Option Nat):=do
 let mut lo:=lo0
 let mut up:=up0
 for _ in [0:n] do
  if lo >=up then break
  let md:=lo+(up - lo) / 2
  let some mr <- beyd left key arr (base+md) | return none
  if mr then lo:=md+1 else up:=md
 return some up
section
variable {M:Model} {A:Around} {E:Value ->Shared ->Prop} {s:Shared} {kd:SortKind} {S:Keyed ->Prop} {rk:Keyed ->Int}
theorem q1y {st:SortSt} {arr:Array Keyed} {i:Nat} {p:Keyed} {Q:Keyed ->SortSt ->Prop} (e:arr[i]? =some p) (h:Q p st):wpS M A E s (elem' arr i) Q st:=by
 rw [elem'_eq,e];exact wpS_pure h
theorem qeg (L:LtOk M A E s kd S rk) {st:SortSt} {left:Bool} {key:Keyed} {arr:Array Keyed} {i:Nat} {Q:Option Bool ->SortSt ->Prop} (hk:kindOf st=kd) (D:S key) (hp:∃ p,arr[i]? =some p/\S p)
  (h:Q (some (ahd left (rk key) (kx rk arr i))) st):wpS M A E s (beyd left key arr i) Q st:=by
 obtain ⟨p,e,sp⟩:=hp;rw [q3n e] at h;unfold beyd;refine wpS_bind (q1y e ?_);cases left with
 | true=>exact L p key st Q sp D hk h
 | false=>
  refine wpS_bind (L key p st _ D sp hk (wpS_pure ?_));have e2:(!decide (rk key < rk p))=ahd false (rk key) (rk p):=by
   unfold ahd;simp
   rw [<- decide_not];simp
  show Q (some (!decide (rk key < rk p))) st;rw [e2];exact h
theorem qq7 (L:LtOk M A E s kd S rk) {st:SortSt} {left:Bool} {key:Keyed} {arr:Array Keyed} {base n lo up:Nat} {Q:Option Nat ->SortSt ->Prop} (hk:kindOf st=kd) (hS:S key)
  (hp:∀ i,i < n ->∃ p,arr[base+i]? =some p/\S p) (hu:Up rk arr base (base+n)) (O:lo<=up) (Z:up<=n) (h1:∀ i,i < lo ->ahd left (rk key) (kx rk arr (base+i))=true)
  (h2:∀ i,up<=i ->i < n ->ahd left (rk key) (kx rk arr (base+i))=false)
  (h:∀ k,k<=n ->(∀ i,i < k ->ahd left (rk key) (kx rk arr (base+i))=true) ->(∀ i,k<=i ->i < n ->ahd left (rk key) (kx rk arr (base+i))=false) ->Q (some k) st):
  wpS M A E s (gBin left key arr base n lo up) Q st:=by
 unfold gBin
 dsimp only
 refine wpS_bind (wpS_mono (wpS_forRange (I:=λ x c D=>D=st/\∃ lo up,c=(none,lo,up)/\lo<=up/\up<=n/\up - lo<=n - x/\
   (∀ i,i < lo ->ahd left (rk key) (kx rk arr (base+i))=true)/\(∀ i,up<=i ->i < n ->ahd left (rk key) (kx rk arr (base+i))=false))
  (Q:=λ c D=>D=st/\∃ lo up,c=(none,lo,up)/\up<=n/\
   (∀ i,i < up ->ahd left (rk key) (kx rk arr (base+i))=true)/\(∀ i,up<=i ->i < n ->ahd left (rk key) (kx rk arr (base+i))=false)) ?turn ?last ⟨rfl,lo,up,rfl,O,Z,by omega,h1,h2⟩) ?after)
 case after=>
  rintro c D ⟨rfl,lo,up,rfl,a,b,d⟩;exact wpS_pure (h up a b d)
 case last=>
  rintro c D ⟨rfl,lo,up,rfl,a,b,d,e1,e2⟩;have e:lo=up:=by omega
  subst e;exact ⟨zf,lo,lo,zf,b,e1,e2⟩
 case turn=>
  rintro x c D _ hx ⟨rfl,lo,up,rfl,a,b,d,e1,e2⟩
  dsimp only
  by_cases J:lo >=up
  ·rw [if_pos J];have e:lo=up:=by omega
   subst e;exact wpS_pure ⟨zf,lo,lo,zf,b,e1,e2⟩
  ·rw [if_neg J];refine wpS_bind (qeg L hk hS (hp _ (by omega)) ?_);cases em:ahd left (rk key) (kx rk arr (base+(lo+(up - lo) / 2))) with
   | true=>
    dsimp only
    rw [if_pos rfl];refine wpS_pure ⟨zf,_,_,zf,by omega,b,by omega,λ i hi=> ?_,e2⟩;exact qdb (hu _ _ (by omega) (by omega) (by omega)) em
   | false=>
    dsimp only
    rw [if_neg z1l];refine wpS_pure ⟨zf,_,_,zf,by omega,by omega,by omega,e1,λ i hi hn=> ?_⟩;cases ei:ahd left (rk key) (kx rk arr (base+i)) with
    | false=>rfl
    | true=>
     have:=qdb (hu (base+(lo+(up - lo) / 2)) (base+i) (by omega) (by omega) (by omega)) ei;rw [em] at this;cases this
theorem q62 (L:LtOk M A E s kd S rk) {st:SortSt} {left:Bool} {key:Keyed} {arr:Array Keyed} {base n hint:Nat} {Q:Option Nat ->SortSt ->Prop} (hk:kindOf st=kd) (Z:S key)
  (hp:∀ i,i < n ->∃ p,arr[base+i]? =some p/\S p) (hu:Up rk arr base (base+n)) (hh:hint < n)
  (h:∀ k,k<=n ->(∀ i,i < k ->ahd left (rk key) (kx rk arr (base+i))=true) ->(∀ i,k<=i ->i < n ->ahd left (rk key) (kx rk arr (base+i))=false) ->Q (some k) st):
  wpS M A E s (q2r left key arr base n hint) Q st:=by
 have dn:∀ i j,i<=j ->j < n ->ahd left (rk key) (kx rk arr (base+j))=true ->ahd left (rk key) (kx rk arr (base+i))=true:=λ i j a b e=>qdb (hu _ _ (by omega) (by omega) (by omega)) e;have nu:∀ i j,i<=j ->j < n ->ahd left (rk key) (kx rk arr (base+i))=false ->ahd left (rk key) (kx rk arr (base+j))=false:=λ i j a b e=>by
  cases ej:ahd left (rk key) (kx rk arr (base+j)) with
  | false=>rfl
  | true=>
   rw [dn i j a b ej] at e;cases e
 rw [qol]
 dsimp only
 refine wpS_bind (qeg L hk Z (hp hint hh) ?_);cases e0:ahd left (rk key) (kx rk arr (base+hint)) with
 | true=>
  dsimp only
  rw [if_pos rfl];refine wpS_bind (wpS_mono (wpS_forRange (I:=λ x c D=>D=st/\∃ bk fw,c=(none,bk,fw)/\bk < fw/\x+1<=fw/\hint+bk < n/\ahd left (rk key) (kx rk arr (base+(hint+bk)))=true)
   (Q:=λ c D=>D=st/\∃ bk fw,c=(none,bk,fw)/\bk < fw/\hint+bk < n/\ahd left (rk key) (kx rk arr (base+(hint+bk)))=true/\(n - hint<=fw\/ hint+fw < n/\ahd left (rk key) (kx rk arr (base+(hint+fw)))=false)) ?turn ?last ⟨rfl,0,1,rfl,by omega,by omega,by omega,e0⟩) ?after)
  case last=>
   rintro c D ⟨rfl,bk,fw,rfl,a,b,d,e⟩;exact ⟨zf,bk,fw,zf,a,d,e,.inl (by omega)⟩
  case turn=>
   rintro x c D _ hx ⟨rfl,bk,fw,rfl,a,b,d,e⟩
   dsimp only
   by_cases J:fw >=n - hint
   ·rw [if_pos J];exact wpS_pure ⟨zf,bk,fw,zf,a,d,e,.inl J⟩
   ·rw [if_neg J];refine wpS_bind (qeg L hk Z (hp _ (by omega)) ?_);cases O:ahd left (rk key) (kx rk arr (base+(hint+fw))) with
    | true=>
     dsimp only
     rw [if_neg (by simp)];exact wpS_pure ⟨zf,fw,_,zf,by omega,by omega,by omega,O⟩
    | false=>
     dsimp only
     rw [if_pos (by simp)];exact wpS_pure ⟨zf,bk,fw,zf,a,d,e,.inr ⟨by omega,O⟩⟩
  case after=>
   rintro c D ⟨rfl,bk,fw,rfl,a,d,e,f⟩
   dsimp only
   refine qq7 L hk Z hp hu (lo:=hint+bk+1) (up:=hint+min fw (n - hint)) (by omega) (by omega) (λ i hi=>dn i (hint+bk) (by omega) d e) (λ i hi hn=> ?_) h;rcases f with f | ⟨f1,f2⟩
   ·omega
   ·exact nu (hint+fw) i (by omega) hn f2
 | false=>
  dsimp only
  rw [if_neg z1l];refine wpS_bind (wpS_mono (wpS_forRange (I:=λ x c D=>D=st/\∃ bk fw,c=(none,bk,fw)/\bk < fw/\x+1<=fw/\bk<=hint/\ahd left (rk key) (kx rk arr (base+(hint - bk)))=false)
   (Q:=λ c D=>D=st/\∃ bk fw,c=(none,bk,fw)/\bk < fw/\bk<=hint/\ahd left (rk key) (kx rk arr (base+(hint - bk)))=false/\(hint+1<=fw\/ fw<=hint/\ahd left (rk key) (kx rk arr (base+(hint - fw)))=true)) ?turn ?last ⟨rfl,0,1,rfl,by omega,by omega,by omega,e0⟩) ?after)
  case last=>
   rintro c D ⟨rfl,bk,fw,rfl,a,b,d,e⟩;exact ⟨zf,bk,fw,zf,a,d,e,.inl (by omega)⟩
  case turn=>
   rintro x c D _ hx ⟨rfl,bk,fw,rfl,a,b,d,e⟩
   dsimp only
   by_cases J:fw >=hint+1
   ·rw [if_pos J];exact wpS_pure ⟨zf,bk,fw,zf,a,d,e,.inl J⟩
   ·rw [if_neg J];refine wpS_bind (qeg L hk Z (hp _ (by omega)) ?_);cases O:ahd left (rk key) (kx rk arr (base+(hint - fw))) with
    | true=>
     dsimp only
     rw [if_pos rfl];exact wpS_pure ⟨zf,bk,fw,zf,a,d,e,.inr ⟨by omega,O⟩⟩
    | false=>
     dsimp only
     rw [if_neg z1l];exact wpS_pure ⟨zf,fw,_,zf,by omega,by omega,by omega,O⟩
  case after=>
   rintro c D ⟨rfl,bk,fw,rfl,a,d,e,f⟩
   dsimp only
   refine qq7 L hk Z hp hu (lo:=hint+1 - min fw (hint+1)) (up:=hint - bk) (by omega) (by omega) (λ i hi=> ?_) (λ i hi hn=>nu (hint - bk) i hi hn e) h;rcases f with f | ⟨f1,f2⟩
   ·omega
   ·exact dn i (hint - fw) (by omega) (by omega) f2
end
def qdc:Array Keyed ->Array Keyed ->StateT SortSt Sem (Array Keyed):=sortPriv%PySem.Builtin.mergeLo
abbrev q7q (st:SortSt) (g:Nat):SortSt:=SortSt.mk' (kindOf st) (arrOf st) (pendingOf st) g (failedOf st)
def q3o (a b out:Array Keyed) (ia ib:Nat):Array Keyed:=out++a.extract ia a.size++b.extract ib b.size
def q8l (a b out:Array Keyed) (ia ib:Nat):Array Keyed:=out++b.extract ib b.size++a.extract ia a.size
theorem qmn (a b:Array Keyed):qdc a b=(do
 rule "list.sort.merge-lo"
 let all:=a.size+b.size
 let mut o:Array Keyed:=#[<- elem' b 0]
 let mut x:=0
 let mut y:=1
 if y==b.size then return q3o a b o x y
 if x+1==a.size then return q8l a b o x y
 let mut g:=gallopOf (<- get)
 for _ in [0:all] do
  let mut ca:=0
  let mut cb:=0
  for _ in [0:all] do
   let some won <- lt' (<- elem' b y) (<- elem' a x) | return q3o a b o x y
   if won then
    o:=o.push (<- elem' b y);y:=y+1;cb:=cb+1;ca:=0
    if y==b.size then return q3o a b o x y
    if cb >=g then break
   else
    o:=o.push (<- elem' a x);x:=x+1;ca:=ca+1;cb:=0
    if x+1==a.size then return q8l a b o x y
    if ca >=g then break
  rule "list.sort.gallop"
  g:=g+1
  for _ in [0:all] do
   if g > 1 then g:=g - 1
   modify λ st=>q7q st g
   let some k <- q2r false (<- elem' b y) a x (a.size - x) 0 | return q3o a b o x y
   ca:=k
   if k > 0 then
    o:=o++a.extract x (x+k);x:=x+k
    if x+1==a.size then return q8l a b o x y
    if x==a.size then return q3o a b o x y
   o:=o.push (<- elem' b y);y:=y+1
   if y==b.size then return q3o a b o x y
   let some k <- q2r true (<- elem' a x) b y (b.size - y) 0 | return q3o a b o x y
   cb:=k
   if k > 0 then
    o:=o++b.extract y (y+k);y:=y+k
    if y==b.size then return q3o a b o x y
   o:=o.push (<- elem' a x);x:=x+1
   if x+1==a.size then return q8l a b o x y
   if ca < 7&&cb < 7 then break
  g:=g+1
  modify λ st=>q7q st g
 unsupported "internal:list.sort.merge-bound"):=rfl
structure Gl (st st':SortSt):Prop where
 arr:arrOf st'=arrOf st
 kind:kindOf st'=kindOf st
 pend:pendingOf st'=pendingOf st
 failed:failedOf st'=failedOf st
theorem Gl.refl (st:SortSt):Gl st st:=⟨rfl,rfl,rfl,rfl⟩
theorem Gl.set {st D:SortSt} (h:Gl st D) (g:Nat):Gl st (q7q D g):=⟨h.arr,h.kind,h.pend,h.failed⟩
section
variable {rk:Keyed ->Int} {a b o:Array Keyed} {x y:Nat}
theorem q2s (xs:Array Keyed) (i:Nat) {p:Keyed} (h:xs.toList[i]? =some p):kx rk xs i=rk p:=q3n (by rw [<- h,z0x])
theorem q91 {l:List Keyed} {i k:Nat} {p:Keyed} (h:p∈(l.drop i).take k):∃ j,j < k/\l[i+j]? =some p:=by
 obtain ⟨j,hj,e⟩:=z12.mp h;rw [z2g] at hj;refine ⟨j,by (clear e;omega),?_⟩;rw [<- e,z1z,List.getElem_drop,z0d]
theorem qdd {l:List Keyed} {i:Nat} {p:Keyed} (h:p∈l.drop i):∃ j,i<=j/\j < l.length/\l[j]? =some p:=by
 obtain ⟨j,D,e⟩:=z12.mp h;rw [z2h] at D;refine ⟨i+j,by (clear e D;omega),by (clear e;omega),?_⟩;rw [<- e,List.getElem_drop,z0d]
theorem qeh {xs:Array Keyed} (h:Asc rk xs.toList) (lo hi:Nat) (hh:hi<=xs.size):Up rk xs lo hi:=by
 intro i j _ O hj;have D:i < xs.toList.length:=by rw [z19];omega
 have J:j < xs.toList.length:=by rw [z19];(clear D O;omega)
 rw [q2s xs i (z0d D),q2s xs j (z0d J)];rcases Nat.lt_or_ge i j with q | q
 ·exact z08.mp h i j D J q
 ·have:i=j:=by (clear J D hj hh;omega)
  subst this;exact z4a _
theorem qt1 (xs:Array Keyed) (i k:Nat):(xs.extract i (i+k)).toList=(xs.toList.drop i).take k:=by
 rw [z13,z0a]
 congr 1
 omega
theorem q9l (xs:Array Keyed) (i:Nat):(xs.extract i xs.size).toList=xs.toList.drop i:=by
 rw [z13,z0a,z0n];rw [z2h,z19];omega
theorem qde {p:Keyed} (h:Jn rk a.toList b.toList o.toList x y) (ha:Asc rk a.toList) (e:a[x]? =some p) (D:∀ q∈b.toList.drop y,rk p<=rk q):Jn rk a.toList b.toList (o.push p).toList (x+1) y:=by
 have e':a.toList[x]? =some p:=by rw [z0x];exact e
 have:=h.moreA ha 1 (by rw [qda e'];intro z hz;rw [z1m.mp hz];exact D)
 rwa [qda e',<- z20] at this
theorem qdf {p:Keyed} (h:Jn rk a.toList b.toList o.toList x y) (hb:Asc rk b.toList) (e:b[y]? =some p) (D:∀ q∈a.toList.drop x,rk p<=rk q):Jn rk a.toList b.toList (o.push p).toList x (y+1):=
 (qde h.swap hb e D).swap
theorem qnc (h:Jn rk a.toList b.toList o.toList x y) (ha:Asc rk a.toList) (k:Nat) (hx:∀ p∈(a.toList.drop x).take k,∀ q∈b.toList.drop y,rk p<=rk q):Jn rk a.toList b.toList (o++a.extract x (x+k)).toList (x+k) y:=by
 rw [z1a,qt1];exact h.moreA ha k hx
theorem qw3 (h:Jn rk a.toList b.toList o.toList x y) (hb:Asc rk b.toList) (k:Nat) (hx:∀ p∈(b.toList.drop y).take k,∀ q∈a.toList.drop x,rk p<=rk q):Jn rk a.toList b.toList (o++b.extract y (y+k)).toList x (y+k):=
 (qnc h.swap hb k hx).swap
def Good (rk:Keyed ->Int) (a b r:Array Keyed):Prop:=r.toList.Perm (a.toList++b.toList)/\Asc rk r.toList
theorem q7d (h:Jn rk a.toList b.toList o.toList x y) (ha:Asc rk a.toList) (hb:Asc rk b.toList) (hy:y=b.size):Good rk a b (q3o a b o x y):=by
 have hx:∀ p∈a.toList.drop x,∀ q∈b.toList.drop y,rk p<=rk q:=λ p _ q hq=>by
  rw [List.drop_of_length_le (by rw [z19];omega)] at hq;cases hq
 have:=h.done ha hb hx;unfold Good q3o;rw [z1a,z1a,q9l,q9l];exact this
end
structure Mg (S:Keyed ->Prop) (rk:Keyed ->Int) (a b:Array Keyed):Prop where
 sa:∀ p∈a.toList,S p
 sb:∀ p∈b.toList,S p
 aa:Asc rk a.toList
 ab:Asc rk b.toList
 na:0 < a.size
 nb:0 < b.size
 top:∃ z,a[a.size - 1]? =some z/\∀ p∈b.toList,rk p < rk z
 bot:∃ z,b[0]? =some z/\∀ p∈a.toList,rk z < rk p
section
variable {S:Keyed ->Prop} {rk:Keyed ->Int} {a b o:Array Keyed} {x y:Nat}
theorem Mg.atA (m:Mg S rk a b) {i:Nat} (h:i < a.size):∃ p,a[i]? =some p/\S p/\p∈a.toList:=
 ⟨a[i],getElem?_pos a i h,m.sa _ (by simp),by simp⟩
theorem Mg.atB (m:Mg S rk a b) {i:Nat} (h:i < b.size):∃ p,b[i]? =some p/\S p/\p∈b.toList:=
 ⟨b[i],getElem?_pos b i h,m.sb _ (by simp),by simp⟩
theorem q7e (m:Mg S rk a b) (h:Jn rk a.toList b.toList o.toList x y) (hx:x+1=a.size):Good rk a b (q8l a b o x y):=by
 obtain ⟨z,D,hz⟩:=m.top;have hq:∀ p∈b.toList.drop y,∀ q∈a.toList.drop x,rk p<=rk q:=λ p hp q hq=>by
  obtain ⟨j,h1,h2,e⟩:=qdd hq;rw [z19] at h2;have ej:j=a.size - 1:=by (clear e D;omega)
  rw [z0x,ej,D] at e;cases e
  exact z3v (hz p (z14 hp))
 have:=h.done2 m.aa m.ab hq;unfold Good q8l;rw [z1a,z1a,q9l,q9l];exact this
theorem qk2 (m:Mg S rk a b) {i:Nat} {p:Keyed} (e:a[i]? =some p):∀ q∈a.toList.drop i,rk p<=rk q:=qna m.aa (by rw [z0x];exact e)
theorem qk3 (m:Mg S rk a b) {i:Nat} {p:Keyed} (e:b[i]? =some p):∀ q∈b.toList.drop i,rk p<=rk q:=qna m.ab (by rw [z0x];exact e)
end
abbrev LoSt:=Option (Array Keyed)×Array Keyed×Nat×Nat×Nat×Nat×Nat
def qei (a b:Array Keyed) (ca cb g:Nat) (o:Array Keyed) (x y:Nat):StateT SortSt Sem (ForInStep LoSt):=do
 let p <- elem' a x
 if (x+1+1==a.size)=true then pure (ForInStep.done (some (q8l a b (o.push p) (x+1) y),o.push p,x+1,y,g,ca,cb))
 else if (decide (ca < 7)&&decide (cb < 7))=true then pure (ForInStep.done (none,o.push p,x+1,y,g,ca,cb))
 else pure (ForInStep.yield (none,o.push p,x+1,y,g,ca,cb))
def qjq (a b:Array Keyed) (ca cb g:Nat) (o:Array Keyed) (x y:Nat):StateT SortSt Sem (ForInStep LoSt):=do
 let p <- elem' b y
 if (y+1==b.size)=true then pure (ForInStep.done (some (q3o a b (o.push p) x (y+1)),o.push p,x,y+1,g,ca,cb))
 else do
  let some k <- q2r true (<- elem' a x) b (y+1) (b.size - (y+1)) 0 | pure (ForInStep.done (some (q3o a b (o.push p) x (y+1)),o.push p,x,y+1,g,ca,cb))
  if k > 0 then
   if (y+1+k==b.size)=true then pure (ForInStep.done (some (q3o a b (o.push p++b.extract (y+1) (y+1+k)) x (y+1+k)),o.push p++b.extract (y+1) (y+1+k),x,y+1+k,g,ca,k))
   else qei a b ca k g (o.push p++b.extract (y+1) (y+1+k)) x (y+1+k)
  else qei a b ca k g (o.push p) x (y+1)
def qom (a b:Array Keyed) (ca cb g:Nat) (o:Array Keyed) (x y:Nat):StateT SortSt Sem (ForInStep LoSt):=do
 modify λ st=>q7q st g
 let some k <- q2r false (<- elem' b y) a x (a.size - x) 0 | pure (ForInStep.done (some (q3o a b o x y),o,x,y,g,ca,cb))
 if k > 0 then
  if (x+k+1==a.size)=true then pure (ForInStep.done (some (q8l a b (o++a.extract x (x+k)) (x+k) y),o++a.extract x (x+k),x+k,y,g,k,cb))
  else if (x+k==a.size)=true then pure (ForInStep.done (some (q3o a b (o++a.extract x (x+k)) (x+k) y),o++a.extract x (x+k),x+k,y,g,k,cb))
  else qjq a b k cb g (o++a.extract x (x+k)) (x+k) y
 else qjq a b k cb g o x y
section
variable {M:Model} {A:Around} {E:Value ->Shared ->Prop} {s:Shared} {kd:SortKind} {S:Keyed ->Prop} {rk:Keyed ->Int} {a b:Array Keyed} {st:SortSt}
structure Go (rk:Keyed ->Int) (a b o:Array Keyed) (x y:Nat):Prop where
 jn:Jn rk a.toList b.toList o.toList x y
 hx:x+1 < a.size
 hy:y < b.size
def LoQ (rk:Keyed ->Int) (a b:Array Keyed) (st:SortSt) (n:Nat) (r:ForInStep LoSt) (st':SortSt):Prop:=Gl st st'/\match r with
 | .done c=>(∃ r,c.1=some r/\Good rk a b r)\/ (c.1=none/\Go rk a b c.2.1 c.2.2.1 c.2.2.2.1/\n<=c.2.2.1+c.2.2.2.1)
 | .yield c=>c.1=none/\Go rk a b c.2.1 c.2.2.1 c.2.2.2.1/\n<=c.2.2.1+c.2.2.2.1
theorem qk4 (m:Mg S rk a b) {O:SortSt} {n ca cb g x y:Nat} {o:Array Keyed} (hg:Gl st O) (J:Jn rk a.toList b.toList o.toList x y) (hx:x+1 < a.size) (hy:y < b.size)
  (a0:∀ p,a[x]? =some p ->∀ q∈b.toList.drop y,rk p<=rk q) (hn:n<=x+y):wpS M A E s (qei a b ca cb g o x y) (LoQ rk a b st (n+1)) O:=by
 obtain ⟨p,e,_,_⟩:=m.atA (i:=x) (by (clear hn hy;omega));have Z:=qde J m.aa e (a0 p e);unfold qei;refine wpS_bind (q1y e ?_);by_cases D:x+1+1=a.size
 ·rw [if_pos (by simpa using D)];exact wpS_pure ⟨hg,.inl ⟨_,zf,q7e m Z D⟩⟩
 ·rw [if_neg (by simpa using D)];by_cases c2:(decide (ca < 7)&&decide (cb < 7))=true
  ·rw [if_pos c2];exact wpS_pure ⟨hg,.inr ⟨rfl,⟨Z,by show x+1+1 < a.size;(clear c2 e hn hy;omega),hy⟩,by show n+1<=x+1+y;(clear c2 D e hy hx;omega)⟩⟩
  ·rw [if_neg c2];exact wpS_pure ⟨hg,rfl,⟨Z,by show x+1+1 < a.size;(clear c2 e hn hy;omega),hy⟩,by show n+1<=x+1+y;(clear c2 D e hy hx;omega)⟩
theorem qnd (L:LtOk M A E s kd S rk) (hk:kindOf st=kd) (m:Mg S rk a b) {a0:SortSt} {n ca cb g x y:Nat} {o:Array Keyed} (hg:Gl st a0) (J:Jn rk a.toList b.toList o.toList x y) (hx:x+1 < a.size) (hy:y < b.size)
  (a1:∀ p,b[y]? =some p ->∀ q∈a.toList.drop x,rk p<=rk q) (hn:n<=x+y):wpS M A E s (qjq a b ca cb g o x y) (LoQ rk a b st (n+1)) a0:=by
 obtain ⟨p,e,_,_⟩:=m.atB hy;have J':=qdf J m.ab e (a1 p e);unfold qjq;refine wpS_bind (q1y e ?_);by_cases D:y+1=b.size
 ·rw [if_pos (by simpa using D)];exact wpS_pure ⟨hg,.inl ⟨_,zf,q7d J' m.aa m.ab D⟩⟩
 ·rw [if_neg (by simpa using D)];obtain ⟨q,eq,sq,_⟩:=m.atA (i:=x) (by (clear D e hn hy hk;omega));refine wpS_bind (q1y eq ?_);refine wpS_bind (q62 L (hg.kind.trans hk) sq (λ i hi=> ?_) (qeh m.ab _ _ (by (clear eq D e hn hx hk;omega))) (by (clear eq e hn hx hk;omega)) λ k O k2 k3=> ?_)
  ·obtain ⟨p,e,sp,_⟩:=m.atB (i:=y+1+i) (by (clear eq D e hn hy hx hk;omega));exact ⟨p,e,sp⟩
  dsimp only
  have after:∀ p',a[x]? =some p' ->∀ z∈b.toList.drop (y+1+k),rk p'<=rk z:=λ p' ep z hz=>by
   rw [eq] at ep;cases ep
   obtain ⟨j,h1,h2,Z⟩:=qdd hz;rw [z19] at h2;have:=k3 (j - (y+1)) (by (clear Z h2 O eq D e hn hy hx hk;omega)) (by (clear Z h1 O eq e hn hx hk;omega));rw [show y+1+(j - (y+1))=j by (clear this Z h2 O eq D e hn hy hx hk;omega),q2s b j Z] at this;simp [ahd] at this
   (clear Z h2 h1 O eq D e hn hy hx hk;omega)
  by_cases c2:k > 0
  ·rw [if_pos c2];have J2:=qw3 J' m.ab k λ z hz w hw=>by
    obtain ⟨j,h1,Z⟩:=q91 hz;have:=k2 j h1;rw [q2s b _ Z] at this;simp [ahd] at this
    have:=qk2 m eq w hw
    (clear Z h1 c2 O eq D e hn hy hx hk;omega)
   by_cases c3:y+1+k=b.size
   ·rw [if_pos (by simpa using c3)];exact wpS_pure ⟨hg,.inl ⟨_,zf,q7d J2 m.aa m.ab c3⟩⟩
   ·rw [if_neg (by simpa using c3)];exact qk4 m hg J2 hx (by (clear c2 eq D e hn hx hk;omega)) after (by (clear c3 c2 O eq D e hy hx hk;omega))
  ·rw [if_neg c2];have k0:k=0:=by (clear O eq D e hn hy hx hk;omega)
   subst k0;exact qk4 m hg J' hx (by (clear c2 O eq e hn hx hk;omega)) after (by (clear c2 O eq D e hy hx hk;omega))
theorem qw4 (L:LtOk M A E s kd S rk) (hk:kindOf st=kd) (m:Mg S rk a b) {a0:SortSt} {n ca cb g x y:Nat} {o:Array Keyed} (hg:Gl st a0) (G:Go rk a b o x y) (hn:n<=x+y):
  wpS M A E s (qom a b ca cb g o x y) (LoQ rk a b st (n+1)) a0:=by
 obtain ⟨J,hx,hy⟩:=G;unfold qom;refine wpS_bind (wpS_modify ?_);have Z:=hg.set g;obtain ⟨q,eq,sq,mq⟩:=m.atB hy;refine wpS_bind (q1y eq ?_);refine wpS_bind (q62 L (Z.kind.trans hk) sq (λ i hi=> ?_) (qeh m.aa _ _ (by (clear eq hy hn hk;omega))) (by (clear eq hy hn hk;omega)) λ k O k2 k3=> ?_)
 ·obtain ⟨p,e,sp,_⟩:=m.atA (i:=x+i) (by (clear eq hy hx hn hk;omega));exact ⟨p,e,sp⟩
 dsimp only
 have after:∀ p',b[y]? =some p' ->∀ z∈a.toList.drop (x+k),rk p'<=rk z:=λ p' ep z hz=>by
  rw [eq] at ep;cases ep
  obtain ⟨j,h1,h2,D⟩:=qdd hz;rw [z19] at h2;have:=k3 (j - x) (by (clear D h2 O eq hy hx hn hk;omega)) (by (clear D h1 O eq hy hn hk;omega));rw [show x+(j - x)=j by (clear this D h2 O eq hy hx hn hk;omega),q2s a j D] at this;simp [ahd] at this
  (clear D h2 h1 O eq hy hx hn hk;omega)
 by_cases c2:k > 0
 ·rw [if_pos c2];have J2:=qnc J m.aa k λ z hz w hw=>by
   obtain ⟨j,h1,D⟩:=q91 hz;have:=k2 j h1;rw [q2s a _ D] at this;simp [ahd] at this
   have:=qk3 m eq w hw
   (clear D h1 c2 O eq hy hx hn hk;omega)
  by_cases c3:x+k+1=a.size
  ·rw [if_pos (by simpa using c3)];exact wpS_pure ⟨Z,.inl ⟨_,zf,q7e m J2 c3⟩⟩
  ·rw [if_neg (by simpa using c3)];have c4:¬ x+k=a.size:=λ c4=>by
    obtain ⟨z,D,hz⟩:=m.top;have:=k2 (a.size - 1 - x) (by (clear D c3 c2 O eq hy hn hk;omega));rw [show x+(a.size - 1 - x)=a.size - 1 by (clear this D c4 c3 c2 O eq hy hn hk;omega),q3n D] at this;simp [ahd] at this
    have:=hz q mq
    (clear D c4 c3 c2 O eq hy hx hn hk;omega)
   rw [if_neg (by simpa using c4)];exact qnd L hk m Z J2 (by (clear c2 eq hy hn hk;omega)) hy after (by (clear c4 c3 c2 O eq hy hx hk;omega))
 ·rw [if_neg c2];have k0:k=0:=by (clear O eq hy hx hn hk;omega)
  subst k0;exact qnd L hk m Z J hx hy after hn
theorem qq8 (L:LtOk M A E s kd S rk) (hk:kindOf st=kd) (m:Mg S rk a b) {Q:Array Keyed ->SortSt ->Prop} (h:∀ r Z,Gl st Z ->Good rk a b r ->Q r Z):wpS M A E s (qdc a b) Q st:=by
 rw [qmn];refine wpS_bind (wpS_lift (z4d ⟨zf,?_⟩));obtain ⟨q,eq,sq,mq⟩:=m.atB m.nb;refine wpS_bind (q1y eq ?_);have J1:Jn rk a.toList b.toList (#[q]:Array Keyed).toList 0 1:=by
  obtain ⟨z,ez,hz⟩:=m.bot;rw [eq] at ez;cases ez
  exact qdf (o:=#[]) Jn.start m.ab eq λ w hw=>z3v (hz w (z14 hw))
 by_cases c1:1=b.size
 ·rw [if_pos (by simpa using c1)];exact wpS_pure (h _ _ (Gl.refl _) (q7d J1 m.aa m.ab c1))
 ·rw [if_neg (by simpa using c1)];by_cases c2:0+1=a.size
  ·rw [if_pos (by simpa using c2)];exact wpS_pure (h _ _ (Gl.refl _) (q7e m J1 c2))
  ·rw [if_neg (by simpa using c2)];refine wpS_bind (wpS_get ?_);have na:=m.na;have nb:=m.nb;have G1:Go rk a b #[q] 0 1:=⟨J1,by (clear nb c1 eq hk;omega),by (clear na c2 eq hk;omega)⟩;refine wpS_bind (wpS_mono (wpS_forRange (I:=λ i c Z=>Gl st Z/\∃ o x y g,c=(none,o,x,y,g)/\Go rk a b o x y/\i+1<=x+y)
    (Q:=λ c Z=>Gl st Z/\∃ r o x y g,c=(some r,o,x,y,g)/\Good rk a b r) ?turn ?last ⟨Gl.refl _,#[q],0,1,_,rfl,G1,by (clear nb na c2 c1 eq hk;omega)⟩) ?after)
   case after=>
    rintro c Z ⟨hg,r,o,x,y,g,rfl,hr⟩;exact wpS_pure (h r Z hg hr)
   case last=>
    rintro c Z ⟨hg,o,x,y,g,rfl,G,hi⟩;have:=G.hx;have:=G.hy
    exfalso
    (clear nb na c2 c1 eq hk;omega)
   case turn=>
    rintro i c Z _ hi ⟨hg,o,x,y,g,rfl,G,D⟩
    dsimp only
    refine wpS_bind (wpS_mono (wpS_forRange (I:=λ j c a0=>Gl st a0/\∃ o x y ca cb,c=(none,o,x,y,ca,cb)/\Go rk a b o x y/\i+1+j<=x+y)
     (Q:=λ c a0=>Gl st a0/\∃ r o x y ca cb,c=(r,o,x,y,ca,cb)/\match r with
      | some r=>Good rk a b r
      | none=>Go rk a b o x y/\i+2<=x+y) ?iturn ?ilast ⟨hg,o,x,y,0,0,rfl,G,by (clear hi nb na c2 c1 eq hk;omega)⟩) ?iafter)
    case ilast=>
     rintro c a0 ⟨J,o,x,y,ca,cb,rfl,G,hj⟩;have:=G.hx;have:=G.hy
     exfalso
     (clear D hi nb na c2 c1 eq hk;omega)
    case iturn=>
     rintro j c a0 _ hj ⟨J,o,x,y,ca,cb,rfl,G,O⟩
     dsimp only
     obtain ⟨pb,eb,sb,mb⟩:=m.atB G.hy;obtain ⟨pa,ea,sa,ma⟩:=m.atA (i:=x) (by have:=G.hx;(clear eb O hj D hi nb na c2 c1 eq hk;omega));refine wpS_bind (q1y eb (wpS_bind (q1y ea (wpS_bind (L pb pa a0 _ sb sa (J.kind.trans hk) ?_)))));by_cases hw:rk pb < rk pa
     ·simp only [hw,z49,if_true];refine wpS_bind (q1y eb ?_);have J2:=qdf G.jn m.ab eb λ z hz=>z3w (z3v hw) (qk2 m ea z hz);by_cases c3:y+1=b.size
      ·rw [if_pos (by simpa using c3)];exact wpS_pure ⟨J,_,_,_,_,_,_,zf,q7d J2 m.aa m.ab c3⟩
      ·rw [if_neg (by simpa using c3)];have G2:Go rk a b (o.push pb) x (y+1):=⟨J2,G.hx,by have:=G.hy;(clear hw ea eb O hj D hi nb na c2 c1 eq hk;omega)⟩;split
       ·exact wpS_pure ⟨J,_,_,_,_,_,_,rfl,G2,by (clear c3 hw ea eb hj D hi nb na c2 c1 eq hk;omega)⟩
       ·exact wpS_pure ⟨J,_,_,_,_,_,rfl,G2,by (clear c3 hw ea eb hj D hi nb na c2 c1 eq hk;omega)⟩
     ·simp only [hw,z3u,z1k,if_false];refine wpS_bind (q1y ea ?_);have J2:=qde G.jn m.aa ea λ z hz=>z3w (by (clear ea eb O hj D hi nb na c2 c1 eq hk;omega)) (qk3 m eb z hz);by_cases c3:x+1+1=a.size
      ·rw [if_pos (by simpa using c3)];exact wpS_pure ⟨J,_,_,_,_,_,_,zf,q7e m J2 c3⟩
      ·rw [if_neg (by simpa using c3)];have G2:Go rk a b (o.push pa) (x+1) y:=⟨J2,by have:=G.hx;(clear hw ea eb O hj D hi nb na c2 c1 eq hk;omega),G.hy⟩;split
       ·exact wpS_pure ⟨J,_,_,_,_,_,_,rfl,G2,by (clear c3 hw ea eb hj D hi nb na c2 c1 eq hk;omega)⟩
       ·exact wpS_pure ⟨J,_,_,_,_,_,rfl,G2,by (clear c3 hw ea eb hj D hi nb na c2 c1 eq hk;omega)⟩
    case iafter=>
     rintro c a0 ⟨J,r,o2,x2,y2,ca,cb,rfl,hr⟩;cases r with
     | some r=>exact wpS_pure ⟨J,r,_,_,_,_,rfl,hr⟩
     | none=>
      obtain ⟨G2,O⟩:=hr
      dsimp only
      refine wpS_bind (wpS_lift (z4d ⟨zf,?_⟩));refine wpS_bind (wpS_mono (wpS_forRange (I:=λ j c a1=>Gl st a1/\∃ o x y g ca cb,c=(none,o,x,y,g,ca,cb)/\Go rk a b o x y/\i+2+j<=x+y)
       (Q:=λ c a1=>Gl st a1/\∃ r o x y g ca cb,c=(r,o,x,y,g,ca,cb)/\match r with
        | some r=>Good rk a b r
        | none=>Go rk a b o x y/\i+2<=x+y) ?gturn ?glast ⟨J,o2,x2,y2,_,_,_,rfl,G2,by (clear D hi nb na c2 c1 eq hk;omega)⟩) ?gafter)
      case glast=>
       rintro c a1 ⟨a2,o,x,y,g,ca,cb,rfl,G,hj⟩;have:=G.hx;have:=G.hy
       exfalso
       (clear O D hi nb na c2 c1 eq hk;omega)
      case gturn=>
       rintro j c a1 _ hj ⟨a2,o,x,y,g,ca,cb,rfl,G,a3⟩;have go:∀ g',wpS M A E s (qom a b ca cb g' o x y) (LoQ rk a b st (i+2+j+1)) a1:=λ g'=>qw4 L hk m a2 G a3
       dsimp only
       by_cases a5:g > 1
       case' pos=>
        rw [if_pos a5];refine wpS_mono (go (g - 1)) ?_
       case' neg=>
        rw [if_neg a5];refine wpS_mono (go g) ?_
       all_goals
        intro r st4 q;obtain ⟨a4,q⟩:=q;cases r with
        | done c'=>
         obtain ⟨r,o,x,y,g,ca,cb⟩:=c';rcases q with ⟨r',e,q⟩ | ⟨e,q,q'⟩
         ·simp only at e;subst e;exact ⟨a4,_,_,_,_,_,_,_,zf,q⟩
         ·simp only at e q q';subst e;exact ⟨a4,_,_,_,_,_,_,_,zf,q,by omega⟩
        | yield c'=>
         obtain ⟨r,o,x,y,g,ca,cb⟩:=c';obtain ⟨e,q,q'⟩:=q;simp only at e q q';subst e;exact ⟨a4,_,_,_,_,_,_,zf,q,by omega⟩
      case gafter=>
       rintro c a1 ⟨a2,r,o3,x3,y3,g3,ca3,cb3,rfl,hr⟩;cases r with
       | some r=>exact wpS_pure ⟨a2,r,_,_,_,_,rfl,hr⟩
       | none=>
        obtain ⟨G3,a3⟩:=hr
        dsimp only
        exact wpS_bind (wpS_modify (wpS_pure ⟨a2.set _,_,_,_,_,rfl,G3,by (clear O D hi nb na c2 c1 eq hk;omega)⟩))
end
def qdg:Array Keyed ->Array Keyed ->StateT SortSt Sem (Array Keyed):=sortPriv%PySem.Builtin.mergeHi
def q3p (a b out:Array Keyed) (na nb:Nat):Array Keyed:=a.extract 0 na++b.extract 0 nb++out.reverse
def q6k (a b out:Array Keyed) (na nb:Nat):Array Keyed:=b.extract 0 nb++a.extract 0 na++out.reverse
theorem qmo (a b:Array Keyed):qdg a b=(do
 rule "list.sort.merge-hi"
 let all:=a.size+b.size
 let mut x:=a.size - 1
 let mut y:=b.size
 let mut o:Array Keyed:=#[<- elem' a x]
 if x==0 then return q3p a b o x y
 if y==1 then return q6k a b o x y
 let mut g:=gallopOf (<- get)
 for _ in [0:all] do
  let mut ca:=0
  let mut cb:=0
  for _ in [0:all] do
   let some won <- lt' (<- elem' b (y - 1)) (<- elem' a (x - 1)) | return q3p a b o x y
   if won then
    x:=x - 1;o:=o.push (<- elem' a x);ca:=ca+1;cb:=0
    if x==0 then return q3p a b o x y
    if ca >=g then break
   else
    y:=y - 1;o:=o.push (<- elem' b y);cb:=cb+1;ca:=0
    if y==1 then return q6k a b o x y
    if cb >=g then break
  rule "list.sort.gallop"
  g:=g+1
  for _ in [0:all] do
   if g > 1 then g:=g - 1
   modify λ st=>q7q st g
   let some j <- q2r false (<- elem' b (y - 1)) a 0 x (x - 1) | return q3p a b o x y
   let k:=x - j
   ca:=k
   if k > 0 then
    o:=o++(a.extract j x).reverse;x:=j
    if x==0 then return q3p a b o x y
   y:=y - 1;o:=o.push (<- elem' b y)
   if y==1 then return q6k a b o x y
   let some j <- q2r true (<- elem' a (x - 1)) b 0 y (y - 1) | return q3p a b o x y
   let k:=y - j
   cb:=k
   if k > 0 then
    o:=o++(b.extract j y).reverse;y:=j
    if y==1 then return q6k a b o x y
    if y==0 then return q3p a b o x y
   x:=x - 1;o:=o.push (<- elem' a x)
   if x==0 then return q3p a b o x y
   if ca < 7&&cb < 7 then break
  g:=g+1
  modify λ st=>q7q st g
 unsupported "internal:list.sort.merge-bound"):=rfl
section
variable {rk:Keyed ->Int} {a b o:Array Keyed} {x y:Nat}
def JH (rk:Keyed ->Int) (a b o:Array Keyed) (x y:Nat):Prop:=Jn (λ p=>- rk p) a.toList.reverse b.toList.reverse o.toList (a.size - x) (b.size - y)/\x<=a.size/\y<=b.size
theorem JH.swap (h:JH rk a b o x y):JH rk b a o y x:=⟨h.1.swap,h.2.2,h.2.1⟩
theorem qej (xs:Array Keyed) {k:Nat} (h:k<=xs.size):xs.toList.reverse.drop (xs.size - k)=(xs.toList.take k).reverse:=by
 have:=qk1 xs.toList k (by rw [z19];exact h)
 rwa [z19] at this
theorem rcut (xs:Array Keyed) {i k:Nat} (hi:i<=k) (h:k<=xs.size):(xs.toList.reverse.drop (xs.size - k)).take (k - i)=((xs.toList.drop i).take (k - i)).reverse:=by
 have:=qw1 xs.toList i k hi (by rw [z19];exact h)
 rwa [z19] at this
theorem qfu (h:JH rk a b o x y) (ha:Asc rk a.toList) {j:Nat} (D:j<=x) (hx:∀ p∈(a.toList.drop j).take (x - j),∀ q∈b.toList.take y,rk q<=rk p):JH rk a b (o++(a.extract j x).reverse) j y:=by
 obtain ⟨J,h1,h2⟩:=h;refine ⟨?_,by (clear h2;omega),h2⟩;have:=J.moreA (qft ha) (x - j) (λ p O q hq=>by
  rw [rcut a D h1] at O;rw [qej b h2] at hq;have:=hx p (List.mem_reverse.mp O) q (List.mem_reverse.mp hq);show - rk p<= - rk q
  (clear h2 h1 D;omega))
 rw [rcut a D h1,show a.size - x+(x - j)=a.size - j by (clear h2;omega)] at this;rw [z1a,Array.toList_reverse,z13,z0a];exact this
theorem q9m {p:Keyed} (h:JH rk a b o x y) (ha:Asc rk a.toList) (h1:1<=x) (e:a[x - 1]? =some p) (D:∀ q∈b.toList.take y,rk q<=rk p):JH rk a b (o.push p) (x - 1) y:=by
 have e':a.toList[x - 1]? =some p:=by rw [z0x];exact e
 have t1:(a.toList.drop (x - 1)).take (x - (x - 1))=[p]:=by
  rw [show x - (x - 1)=1 by (clear e' e;omega)];exact qda e'
 have:=qfu h ha (j:=x - 1) (by (clear t1 e' e h1;omega)) (by rw [t1];intro z hz;rw [z1m.mp hz];exact D);have e2:(o++(a.extract (x - 1) x).reverse)=o.push p:=by
  apply Array.toList_inj.mp
  rw [z1a,Array.toList_reverse,z13,z0a,t1,z20];rfl
 rwa [e2] at this
theorem qw5 (h:JH rk a b o x y) (hb:Asc rk b.toList) {j:Nat} (hj:j<=y) (hx:∀ p∈(b.toList.drop j).take (y - j),∀ q∈a.toList.take x,rk q<=rk p):JH rk a b (o++(b.extract j y).reverse) x j:=(qfu h.swap hb hj hx).swap
theorem qk5 {p:Keyed} (h:JH rk a b o x y) (hb:Asc rk b.toList) (h1:1<=y) (e:b[y - 1]? =some p) (D:∀ q∈a.toList.take x,rk q<=rk p):JH rk a b (o.push p) x (y - 1):=(q9m h.swap hb h1 e D).swap
theorem qk6 (xs:Array Keyed) (k:Nat):(xs.extract 0 k).toList=xs.toList.take k:=by
 rw [z13,z0a,List.drop_zero,Nat.sub_zero]
theorem good_headB' (h:JH rk a b o x y) (ha:Asc rk a.toList) (hb:Asc rk b.toList) (hq:∀ p∈a.toList.take x,∀ q∈b.toList.take y,rk q<=rk p):Good rk a b (q6k a b o x y):=by
 obtain ⟨J,h1,h2⟩:=h;have:=J.done (qft ha) (qft hb) (λ p O q D=>by
  rw [qej a h1] at O;rw [qej b h2] at D;have:=hq p (List.mem_reverse.mp O) q (List.mem_reverse.mp D);show - rk p<= - rk q
  (clear h2 h1;omega))
 rw [qej a h1,qej b h2] at this;have e:(q6k a b o x y).toList=(o.toList++(a.toList.take x).reverse++(b.toList.take y).reverse).reverse:=by
  unfold q6k;rw [z1a,z1a,qk6,qk6,Array.toList_reverse];simp
 unfold Good;rw [e];exact ⟨(List.reverse_perm _).trans (this.1.trans ((List.reverse_perm _).append (List.reverse_perm _))),asc_rev' this.2⟩
theorem good_headA' (h:JH rk a b o x y) (ha:Asc rk a.toList) (hb:Asc rk b.toList) (hq:∀ p∈b.toList.take y,∀ q∈a.toList.take x,rk q<=rk p):Good rk a b (q3p a b o x y):=by
 obtain ⟨p,q⟩:=good_headB' h.swap hb ha hq;exact ⟨p.trans z0u,q⟩
theorem q7f (h:JH rk a b o x y) (ha:Asc rk a.toList) (hb:Asc rk b.toList) (hx:x=0):Good rk a b (q3p a b o x y):=by
 refine good_headA' h ha hb λ p _ q hq=> ?_;rw [hx,List.take_zero] at hq;cases hq
end
section
variable {S:Keyed ->Prop} {rk:Keyed ->Int} {a b o:Array Keyed} {x y:Nat}
theorem q7g (m:Mg S rk a b) (h:JH rk a b o x y) (hy:y=1):Good rk a b (q6k a b o x y):=by
 obtain ⟨z,D,hz⟩:=m.bot;refine good_headB' h m.aa m.ab λ p hp q hq=> ?_;subst hy;obtain ⟨j,hj,e⟩:=z12.mp hq;rw [z2g] at hj;have j0:j=0:=by (clear e D;omega)
 subst j0;rw [z1z] at e;have:b.toList[0]? =some q:=by rw [<- e,z0d]
 rw [z0x,D] at this;cases this
 exact z3v (hz p (z15 hp))
theorem qk7 (m:Mg S rk a b) {i:Nat} {p:Keyed} (h1:1<=i) (e:a[i - 1]? =some p):∀ q∈a.toList.take i,rk q<=rk p:=by
 have:=qnb m.aa (i:=i - 1) (x:=p) (by rw [z0x];exact e)
 rwa [show i - 1+1=i by (clear e;omega)] at this
theorem qk8 (m:Mg S rk a b) {i:Nat} {p:Keyed} (h1:1<=i) (e:b[i - 1]? =some p):∀ q∈b.toList.take i,rk q<=rk p:=by
 have:=qnb m.ab (i:=i - 1) (x:=p) (by rw [z0x];exact e)
 rwa [show i - 1+1=i by (clear e;omega)] at this
theorem qk9 {l:List Keyed} {k:Nat} {p:Keyed} (h:p∈l.take k):∃ j,j < k/\l[j]? =some p:=by
 have:=q91 (l:=l) (i:=0) (k:=k) (p:=p) (by simpa using h);obtain ⟨j,a,b⟩:=this;exact ⟨j,a,by rwa [z3x] at b⟩
end
abbrev HiSt:=Option (Array Keyed)×Nat×Nat×Array Keyed×Nat×Nat×Nat
def qek (a b:Array Keyed) (ca cb g:Nat) (o:Array Keyed) (x y:Nat):StateT SortSt Sem (ForInStep HiSt):=do
 let p <- elem' a (x - 1)
 if (x - 1==0)=true then pure (ForInStep.done (some (q3p a b (o.push p) (x - 1) y),x - 1,y,o.push p,g,ca,cb))
 else if (decide (ca < 7)&&decide (cb < 7))=true then pure (ForInStep.done (none,x - 1,y,o.push p,g,ca,cb))
 else pure (ForInStep.yield (none,x - 1,y,o.push p,g,ca,cb))
def qjr (a b:Array Keyed) (ca cb g:Nat) (o:Array Keyed) (x y:Nat):StateT SortSt Sem (ForInStep HiSt):=do
 let p <- elem' b (y - 1)
 if (y - 1==1)=true then pure (ForInStep.done (some (q6k a b (o.push p) x (y - 1)),x,y - 1,o.push p,g,ca,cb))
 else do
  let some j <- q2r true (<- elem' a (x - 1)) b 0 (y - 1) (y - 1 - 1) | pure (ForInStep.done (some (q3p a b (o.push p) x (y - 1)),x,y - 1,o.push p,g,ca,cb))
  if y - 1 - j > 0 then
   if (j==1)=true then pure (ForInStep.done (some (q6k a b (o.push p++(b.extract j (y - 1)).reverse) x j),x,j,o.push p++(b.extract j (y - 1)).reverse,g,ca,y - 1 - j))
   else if (j==0)=true then pure (ForInStep.done (some (q3p a b (o.push p++(b.extract j (y - 1)).reverse) x j),x,j,o.push p++(b.extract j (y - 1)).reverse,g,ca,y - 1 - j))
   else qek a b ca (y - 1 - j) g (o.push p++(b.extract j (y - 1)).reverse) x j
  else qek a b ca (y - 1 - j) g (o.push p) x (y - 1)
def qon (a b:Array Keyed) (ca cb g:Nat) (o:Array Keyed) (x y:Nat):StateT SortSt Sem (ForInStep HiSt):=do
 modify λ st=>q7q st g
 let some j <- q2r false (<- elem' b (y - 1)) a 0 x (x - 1) | pure (ForInStep.done (some (q3p a b o x y),x,y,o,g,ca,cb))
 if x - j > 0 then
  if (j==0)=true then pure (ForInStep.done (some (q3p a b (o++(a.extract j x).reverse) j y),j,y,o++(a.extract j x).reverse,g,x - j,cb))
  else qjr a b (x - j) cb g (o++(a.extract j x).reverse) j y
 else qjr a b (x - j) cb g o x y
section
variable {M:Model} {A:Around} {E:Value ->Shared ->Prop} {s:Shared} {kd:SortKind} {S:Keyed ->Prop} {rk:Keyed ->Int} {a b:Array Keyed} {st:SortSt}
structure GoH (rk:Keyed ->Int) (a b o:Array Keyed) (x y:Nat):Prop where
 jn:JH rk a b o x y
 hx:1<=x
 hy:2<=y
def HiQ (rk:Keyed ->Int) (a b:Array Keyed) (st:SortSt) (n:Nat) (r:ForInStep HiSt) (st':SortSt):Prop:=Gl st st'/\match r with
 | .done c=>(∃ r,c.1=some r/\Good rk a b r)\/ (c.1=none/\GoH rk a b c.2.2.2.1 c.2.1 c.2.2.1/\c.2.1+c.2.2.1<=n)
 | .yield c=>c.1=none/\GoH rk a b c.2.2.2.1 c.2.1 c.2.2.1/\c.2.1+c.2.2.1<=n
theorem qka (m:Mg S rk a b) {O:SortSt} {n ca cb g x y:Nat} {o:Array Keyed} (hg:Gl st O) (J:JH rk a b o x y) (hx:1<=x) (hy:2<=y)
  (a0:∀ p,a[x - 1]? =some p ->∀ q∈b.toList.take y,rk q<=rk p) (hn:x+y<=n+1):wpS M A E s (qek a b ca cb g o x y) (HiQ rk a b st n) O:=by
 have hz:=J.2.1;obtain ⟨p,e,_,_⟩:=m.atA (i:=x - 1) (by (clear hn hy;omega));have Z:=q9m J m.aa hx e (a0 p e);unfold qek;refine wpS_bind (q1y e ?_);by_cases D:x - 1=0
 ·rw [if_pos (by simpa using D)];exact wpS_pure ⟨hg,.inl ⟨_,zf,q7f Z m.aa m.ab D⟩⟩
 ·rw [if_neg (by simpa using D)];by_cases c2:(decide (ca < 7)&&decide (cb < 7))=true
  ·rw [if_pos c2];exact wpS_pure ⟨hg,.inr ⟨rfl,⟨Z,by show 1<=x - 1;(clear c2 e hz hn hy hx;omega),hy⟩,by show x - 1+y<=n;(clear c2 D e hz hy;omega)⟩⟩
  ·rw [if_neg c2];exact wpS_pure ⟨hg,rfl,⟨Z,by show 1<=x - 1;(clear c2 e hz hn hy hx;omega),hy⟩,by show x - 1+y<=n;(clear c2 D e hz hy;omega)⟩
theorem qne (L:LtOk M A E s kd S rk) (hk:kindOf st=kd) (m:Mg S rk a b) {a0:SortSt} {n ca cb g x y:Nat} {o:Array Keyed} (hg:Gl st a0) (J:JH rk a b o x y) (hx:1<=x) (hy:2<=y)
  (a1:∀ p,b[y - 1]? =some p ->∀ q∈a.toList.take x,rk q<=rk p) (hn:x+y<=n+1):wpS M A E s (qjr a b ca cb g o x y) (HiQ rk a b st n) a0:=by
 have D:=J.2.1;have O:=J.2.2;obtain ⟨p,e,_,_⟩:=m.atB (i:=y - 1) (by (clear D hn hx hk;omega));have J':=qk5 J m.ab (by (clear e O D hn hx hk;omega)) e (a1 p e);unfold qjr;refine wpS_bind (q1y e ?_);by_cases Z:y - 1=1
 ·rw [if_pos (by simpa using Z)];exact wpS_pure ⟨hg,.inl ⟨_,zf,q7g m J' Z⟩⟩
 ·rw [if_neg (by simpa using Z)];obtain ⟨q,eq,sq,mq⟩:=m.atA (i:=x - 1) (by (clear Z e O hn hy hk;omega));refine wpS_bind (q1y eq ?_);refine wpS_bind (q62 L (hg.kind.trans hk) sq (λ i hi=> ?_) (qeh m.ab _ _ (by (clear eq Z e D hn hy hx hk;omega))) (by (clear eq Z e O D hn hx hk;omega)) λ j j1 j2 j3=> ?_)
  ·obtain ⟨p,e,sp,_⟩:=m.atB (i:=0+i) (by (clear eq Z e D hn hy hx hk;omega));exact ⟨p,e,sp⟩
  dsimp only
  have after:∀ p',a[x - 1]? =some p' ->∀ z∈b.toList.take j,rk z<=rk p':=λ p' ep z hz=>by
   rw [eq] at ep;cases ep
   obtain ⟨i,h1,ez⟩:=qk9 hz;have:=j2 i h1;rw [z3x,q2s b i ez] at this;simp [ahd] at this
   (clear ez h1 j1 eq Z e O D hn hy hx hk;omega)
  by_cases c2:y - 1 - j > 0
  ·rw [if_pos c2];have J2:=qw5 J' m.ab (j:=j) (by (clear c2 eq Z e O D hn hy hx hk;omega)) λ z hz w hw=>by
    obtain ⟨i,h1,ez⟩:=q91 hz;have:=j3 (j+i) (by (clear ez h1 c2 j1 eq Z e O D hn hy hx hk;omega)) (by (clear ez c2 j1 eq Z e O D hn hy hx hk;omega));rw [z3x,q2s b _ ez] at this;simp [ahd] at this
    have:=qk7 m hx eq w hw
    (clear ez h1 c2 j1 eq Z e O D hn hy hx hk;omega)
   by_cases c3:j=1
   ·rw [if_pos (by simpa using c3)];exact wpS_pure ⟨hg,.inl ⟨_,zf,q7g m J2 c3⟩⟩
   ·rw [if_neg (by simpa using c3)];have c4:¬ j=0:=λ c4=>by
     obtain ⟨z,ez,hz⟩:=m.bot;have:=j3 0 (by (clear ez c3 c2 j1 eq Z e O D hn hy hx hk;omega)) (by (clear ez c4 c3 c2 j1 eq Z e O D hn hx hk;omega));rw [z3x,q3n ez] at this;simp [ahd] at this
     have:=hz q mq
     (clear ez c4 c3 c2 j1 eq Z e O D hn hy hx hk;omega)
    rw [if_neg (by simpa using c4)];exact qka m hg J2 hx (by (clear c2 j1 eq Z e O D hn hy hx hk;omega)) after (by (clear c4 c3 c2 eq Z e O D hy hx hk;omega))
  ·rw [if_neg c2];have ej:j=y - 1:=by (clear eq Z e O D hn hy hx hk;omega)
   subst ej;exact qka m hg J' hx (by (clear c2 j1 eq e O D hn hx hk;omega)) after (by (clear c2 j1 eq Z e O D hy hx hk;omega))
theorem qw6 (L:LtOk M A E s kd S rk) (hk:kindOf st=kd) (m:Mg S rk a b) {a0:SortSt} {n ca cb g x y:Nat} {o:Array Keyed} (hg:Gl st a0) (G:GoH rk a b o x y) (hn:x+y<=n+1):
  wpS M A E s (qon a b ca cb g o x y) (HiQ rk a b st n) a0:=by
 obtain ⟨J,hx,hy⟩:=G;have O:=J.2.1;have D:=J.2.2;unfold qon;refine wpS_bind (wpS_modify ?_);have Z:=hg.set g;obtain ⟨q,eq,sq,mq⟩:=m.atB (i:=y - 1) (by (clear O hx hn hk;omega));refine wpS_bind (q1y eq ?_);refine wpS_bind (q62 L (Z.kind.trans hk) sq (λ i hi=> ?_) (qeh m.aa _ _ (by (clear eq D hy hx hn hk;omega))) (by (clear eq D O hy hn hk;omega)) λ j j1 j2 j3=> ?_)
 ·obtain ⟨p,e,sp,_⟩:=m.atA (i:=0+i) (by (clear eq D hy hx hn hk;omega));exact ⟨p,e,sp⟩
 dsimp only
 have after:∀ p',b[y - 1]? =some p' ->∀ z∈a.toList.take j,rk z<=rk p':=λ p' ep z hz=>by
  rw [eq] at ep;cases ep
  obtain ⟨i,h1,ez⟩:=qk9 hz;have:=j2 i h1;rw [z3x,q2s a i ez] at this;simp [ahd] at this
  (clear ez h1 j1 eq D O hy hx hn hk;omega)
 by_cases c2:x - j > 0
 ·rw [if_pos c2];have J2:=qfu J m.aa (j:=j) (by (clear c2 eq D O hy hx hn hk;omega)) λ z hz w hw=>by
   obtain ⟨i,h1,ez⟩:=q91 hz;have:=j3 (j+i) (by (clear ez h1 c2 j1 eq D O hy hx hn hk;omega)) (by (clear ez c2 j1 eq D O hy hx hn hk;omega));rw [z3x,q2s a _ ez] at this;simp [ahd] at this
   have:=qk8 m (by (clear this ez h1 c2 j1 eq D O hx hn hk;omega)) eq w hw
   (clear ez h1 c2 j1 eq D O hy hx hn hk;omega)
  by_cases c3:j=0
  ·rw [if_pos (by simpa using c3)];exact wpS_pure ⟨Z,.inl ⟨_,zf,q7f J2 m.aa m.ab c3⟩⟩
  ·rw [if_neg (by simpa using c3)];exact qne L hk m Z J2 (by (clear c2 j1 eq D O hy hx hn hk;omega)) hy after (by (clear c3 c2 eq D O hy hx hk;omega))
 ·rw [if_neg c2];have ej:j=x:=by (clear eq D O hy hx hn hk;omega)
  subst ej;exact qne L hk m Z J hx hy after hn
theorem qq9 (L:LtOk M A E s kd S rk) (hk:kindOf st=kd) (m:Mg S rk a b) {Q:Array Keyed ->SortSt ->Prop} (h:∀ r a0,Gl st a0 ->Good rk a b r ->Q r a0):wpS M A E s (qdg a b) Q st:=by
 rw [qmo];refine wpS_bind (wpS_lift (z4d ⟨zf,?_⟩));have na:=m.na;have nb:=m.nb;obtain ⟨q,eq,sq,mq⟩:=m.atA (i:=a.size - 1) (by (clear nb hk;omega));refine wpS_bind (q1y eq ?_);have J1:JH rk a b #[q] (a.size - 1) b.size:=by
  obtain ⟨z,ez,hz⟩:=m.top;rw [eq] at ez;cases ez
  have J0:JH rk a b #[] a.size b.size:=⟨by rw [Nat.sub_self,Nat.sub_self];exact Jn.start,z48 _,z48 _⟩;exact q9m (o:=#[]) J0 m.aa na eq λ w hw=>z3v (hz w (z15 hw))
 by_cases O:a.size - 1=0
 ·rw [if_pos (by simpa using O)];exact wpS_pure (h _ _ (Gl.refl _) (q7f J1 m.aa m.ab O))
 ·rw [if_neg (by simpa using O)];by_cases c2:b.size=1
  ·rw [if_pos (by simpa using c2)];exact wpS_pure (h _ _ (Gl.refl _) (q7g m J1 c2))
  ·rw [if_neg (by simpa using c2)];refine wpS_bind (wpS_get ?_);have G1:GoH rk a b #[q] (a.size - 1) b.size:=⟨J1,by (clear c2 eq nb na hk;omega),by (clear O eq na hk;omega)⟩;refine wpS_bind (wpS_mono (wpS_forRange (I:=λ i c a0=>Gl st a0/\∃ x y o g,c=(none,x,y,o,g)/\GoH rk a b o x y/\x+y+i+1<=a.size+b.size)
    (Q:=λ c a0=>Gl st a0/\∃ r x y o g,c=(some r,x,y,o,g)/\Good rk a b r) ?turn ?last ⟨Gl.refl _,_,_,#[q],_,rfl,G1,by (clear c2 O eq nb hk;omega)⟩) ?after)
   case after=>
    rintro c a0 ⟨hg,r,x,y,o,g,rfl,hr⟩;exact wpS_pure (h r a0 hg hr)
   case last=>
    rintro c a0 ⟨hg,x,y,o,g,rfl,G,hi⟩;have:=G.hx;have:=G.hy
    exfalso
    (clear this c2 O eq nb na hk;omega)
   case turn=>
    rintro i c a0 _ hi ⟨hg,x,y,o,g,rfl,G,J⟩
    dsimp only
    refine wpS_bind (wpS_mono (wpS_forRange (I:=λ j c a1=>Gl st a1/\∃ x y o ca cb,c=(none,x,y,o,ca,cb)/\GoH rk a b o x y/\x+y+i+1+j<=a.size+b.size)
     (Q:=λ c a1=>Gl st a1/\∃ r x y o ca cb,c=(r,x,y,o,ca,cb)/\match r with
      | some r=>Good rk a b r
      | none=>GoH rk a b o x y/\x+y+i+2<=a.size+b.size) ?iturn ?ilast ⟨hg,x,y,o,0,0,rfl,G,by (clear hi c2 O eq nb na hk;omega)⟩) ?iafter)
    case ilast=>
     rintro c a1 ⟨Z,x,y,o,ca,cb,rfl,G,hj⟩;have:=G.hx;have:=G.hy
     exfalso
     (clear this J hi c2 O eq nb na hk;omega)
    case iturn=>
     rintro j c a1 _ hj ⟨Z,x,y,o,ca,cb,rfl,G,D⟩
     dsimp only
     have g1:=G.hx;have g2:=G.hy;have z1:=G.jn.2.1;have z2:=G.jn.2.2;obtain ⟨pb,eb,sb,mb⟩:=m.atB (i:=y - 1) (by (clear z1 g2 g1 D hj J hi c2 O eq na hk;omega));obtain ⟨pa,ea,sa,ma⟩:=m.atA (i:=x - 1) (by (clear eb z2 g2 g1 D hj J hi c2 O eq nb hk;omega));refine wpS_bind (q1y eb (wpS_bind (q1y ea (wpS_bind (L pb pa a1 _ sb sa (Z.kind.trans hk) ?_)))));by_cases hw:rk pb < rk pa
     ·simp only [hw,z49,if_true];refine wpS_bind (q1y ea ?_);have J2:=q9m G.jn m.aa g1 ea λ z hz=>z3w (qk8 m (by (clear hw ea eb z2 z1 g1 D hj J hi c2 O eq nb na hk;omega)) eb z hz) (z3v hw);by_cases c3:x - 1=0
      ·rw [if_pos (by simpa using c3)];exact wpS_pure ⟨Z,_,_,_,_,_,_,zf,q7f J2 m.aa m.ab c3⟩
      ·rw [if_neg (by simpa using c3)];have G2:GoH rk a b (o.push pa) (x - 1) y:=⟨J2,by (clear hw ea eb z2 z1 g2 g1 D hj J hi c2 O eq nb na hk;omega),g2⟩;split
       ·exact wpS_pure ⟨Z,_,_,_,_,_,_,rfl,G2,by (clear c3 hw ea eb z2 z1 g2 hj J hi c2 O eq nb na hk;omega)⟩
       ·exact wpS_pure ⟨Z,_,_,_,_,_,rfl,G2,by (clear c3 hw ea eb z2 z1 g2 hj J hi c2 O eq nb na hk;omega)⟩
     ·simp only [hw,z3u,z1k,if_false];refine wpS_bind (q1y eb ?_);have J2:=qk5 G.jn m.ab (by (clear hw ea eb z2 z1 g1 D hj J hi c2 O eq nb na hk;omega)) eb λ z hz=>z3w (qk7 m g1 ea z hz) (by (clear ea eb z2 z1 g2 g1 D hj J hi c2 O eq nb na hk;omega));by_cases c3:y - 1=1
      ·rw [if_pos (by simpa using c3)];exact wpS_pure ⟨Z,_,_,_,_,_,_,zf,q7g m J2 c3⟩
      ·rw [if_neg (by simpa using c3)];have G2:GoH rk a b (o.push pb) x (y - 1):=⟨J2,g1,by (clear hw ea eb z2 z1 g1 D hj J hi c2 O eq nb na hk;omega)⟩;split
       ·exact wpS_pure ⟨Z,_,_,_,_,_,_,rfl,G2,by (clear c3 hw ea eb z2 z1 g1 hj J hi c2 O eq nb na hk;omega)⟩
       ·exact wpS_pure ⟨Z,_,_,_,_,_,rfl,G2,by (clear c3 hw ea eb z2 z1 g1 hj J hi c2 O eq nb na hk;omega)⟩
    case iafter=>
     rintro c a1 ⟨Z,r,x2,y2,o2,ca,cb,rfl,hr⟩;cases r with
     | some r=>exact wpS_pure ⟨Z,r,_,_,_,_,rfl,hr⟩
     | none=>
      obtain ⟨G2,D⟩:=hr
      dsimp only
      refine wpS_bind (wpS_lift (z4d ⟨zf,?_⟩));refine wpS_bind (wpS_mono (wpS_forRange (I:=λ j c a2=>Gl st a2/\∃ x y o g ca cb,c=(none,x,y,o,g,ca,cb)/\GoH rk a b o x y/\x+y+i+2+j<=a.size+b.size)
       (Q:=λ c a2=>Gl st a2/\∃ r x y o g ca cb,c=(r,x,y,o,g,ca,cb)/\match r with
        | some r=>Good rk a b r
        | none=>GoH rk a b o x y/\x+y+i+2<=a.size+b.size) ?gturn ?glast ⟨Z,x2,y2,o2,_,_,_,rfl,G2,by (clear J hi c2 O eq nb na hk;omega)⟩) ?gafter)
      case glast=>
       rintro c a2 ⟨a3,x,y,o,g,ca,cb,rfl,G,hj⟩;have:=G.hx;have:=G.hy
       exfalso
       (clear this D J hi c2 O eq nb na hk;omega)
      case gturn=>
       rintro j c a2 _ hj ⟨a3,x,y,o,g,ca,cb,rfl,G,a4⟩;have go:∀ g',wpS M A E s (qon a b ca cb g' o x y) (HiQ rk a b st (x+y - 1)) a2:=λ g'=>qw6 L hk m a3 G (by (clear a4 hj D J hi c2 O eq nb na hk;omega));have g1:=G.hx
       dsimp only
       by_cases a6:g > 1
       case' pos=>
        rw [if_pos a6];refine wpS_mono (go (g - 1)) ?_
       case' neg=>
        rw [if_neg a6];refine wpS_mono (go g) ?_
       all_goals
        intro r st4 q;obtain ⟨a5,q⟩:=q;cases r with
        | done c'=>
         obtain ⟨r,x',y',o',g',a7,a8⟩:=c';rcases q with ⟨r',e,q⟩ | ⟨e,q,q'⟩
         ·simp only at e;subst e;exact ⟨a5,_,_,_,_,_,_,_,zf,q⟩
         ·simp only at e q q';subst e;exact ⟨a5,_,_,_,_,_,_,_,zf,q,by omega⟩
        | yield c'=>
         obtain ⟨r,x',y',o',g',a7,a8⟩:=c';obtain ⟨e,q,q'⟩:=q;simp only at e q q';subst e;exact ⟨a5,_,_,_,_,_,_,zf,q,by omega⟩
      case gafter=>
       rintro c a2 ⟨a3,r,x3,y3,o3,g3,ca3,cb3,rfl,hr⟩;cases r with
       | some r=>exact wpS_pure ⟨a3,r,_,_,_,_,rfl,hr⟩
       | none=>
        obtain ⟨G3,a4⟩:=hr
        dsimp only
        exact wpS_bind (wpS_modify (wpS_pure ⟨a3.set _,_,_,_,_,rfl,G3,by (clear D J hi c2 O eq nb na hk;omega)⟩))
end
theorem qw7 {M:Model} {A:Around} {E:Value ->Shared ->Prop} {s:Shared} {σ:Type} {v:σ} {Q:PUnit ->σ ->Prop} {st:σ} (h:Q ⟨⟩ v):wpS M A E s (set v:StateT σ Sem PUnit) Q st:=by
 unfold wpS;rw [StateT.run_set];exact z4e ⟨zf,h⟩
def wrt (base:Nat) (l:List (Keyed×Nat)) (xs:Array Keyed):Array Keyed:=l.foldl (λ a q=>a.setIfInBounds (base+q.2) q.1) xs
theorem qoo (i:Nat):mergeAt' i=(do
 let c <- get
 let (some (sa,na,pw),some (sb,nb,_)):=((pendingOf c)[i]?,(pendingOf c)[i+1]?) | unsupported "internal:list.sort.pending"
 set (setPending c (((pendingOf c).setIfInBounds i (sa,na+nb,pw)).eraseIdxIfInBounds (i+1)))
 let some k <- q2r false (<- elem' (arrOf c) sb) (arrOf c) sa na 0 | return false
 let (sa,na):=(sa+k,na - k)
 if na==0 then return true
 let some nb <- q2r true (<- elem' (arrOf c) (sa+na - 1)) (arrOf c) sb nb (nb - 1) | return false
 if nb==0 then return true
 let x:=(arrOf c).extract sa sb
 let y:=(arrOf c).extract sb (sb+nb)
 let r <- if na<=nb then qdc x y else qdg x y
 modify λ c=>setArr c (wrt sa r.toList.zipIdx (arrOf c))
 return (failedOf (<- get)).isNone):=rfl
theorem qkb (base:Nat):∀ (l:List Keyed) (k:Nat) (xs:Array Keyed),base+k+l.length<=xs.size ->∀ j,(wrt base (l.zipIdx k) xs)[j]? =if base+k<=j/\j < base+k+l.length then l[j - (base+k)]? else xs[j]?
 | [],k,xs,_,j=>by
  rw [if_neg (by simp)];rfl
 | p::r,k,xs,h,j=>by
  have h':base+k+(r.length+1)<=xs.size:=h;have D:=qkb base r (k+1) (xs.setIfInBounds (base+k) p) (by rw [Array.size_setIfInBounds];(clear h;omega)) j;rw [List.zipIdx_cons];show (wrt base (r.zipIdx (k+1)) (xs.setIfInBounds (base+k) p))[j]? =_;rw [D,z2i];by_cases J:base+(k+1)<=j/\j < base+(k+1)+r.length
  ·rw [if_pos J,if_pos (by (clear D h' h;omega)),show j - (base+k)=j - (base+(k+1))+1 by (clear D h' h;omega),List.getElem?_cons_succ]
  ·rw [if_neg J,Array.getElem?_setIfInBounds];by_cases c2:base+k=j
   ·rw [if_pos c2,if_pos (by (clear c2 J D h;omega)),if_pos (by (clear J D h' h;omega)),show j - (base+k)=0 by (clear J D h' h;omega)];rfl
   ·rw [if_neg c2,if_neg (by (clear D h' h;omega))]
theorem qt2 (base:Nat) (l:List Keyed) (xs:Array Keyed) (h:base+l.length<=xs.size):(wrt base l.zipIdx xs).toList=xs.toList.take base++l++xs.toList.drop (base+l.length):=by
 apply z21
 intro j;have:=qkb base l 0 xs (by omega) j;rw [z0x];rw [this];have e1:(xs.toList.take base).length=base:=by rw [z2g,z19];(clear this;omega)
 by_cases D:j < base
 ·rw [if_neg (by (clear e1 this h;omega)),z1y,List.getElem?_append_left (by (clear this h;omega)),List.getElem?_take_of_lt D,z0x]
 ·rw [z1y,z05 (by (clear this h;omega)),e1];by_cases c2:j < base+l.length
  ·rw [if_pos (by (clear e1 this h;omega)),List.getElem?_append_left (by (clear e1 this h;omega))];rfl
  ·rw [if_neg (by (clear D e1 this h;omega)),z05 (by (clear D e1 this h;omega)),List.getElem?_drop,<- z0x]
   congr 1
   (clear D e1 this h;omega)
def Runs (rk:Keyed ->Int) (xs:Array Keyed):Nat ->List (Nat×Nat×Nat) ->Nat ->Prop
 | u,[],v=>u=v
 | u,r::l,v=>r.1=u/\1<=r.2.1/\Up rk xs u (u+r.2.1)/\Runs rk xs (u+r.2.1) l v
section
variable {rk:Keyed ->Int} {xs ys:Array Keyed}
theorem Runs.split:∀ {J D:List (Nat×Nat×Nat)} {u v:Nat},Runs rk xs u (J++D) v↔∃ w,Runs rk xs u J w/\Runs rk xs w D v
 | [],D,u,v=>⟨λ h=>⟨u,rfl,h⟩,λ ⟨w,e,h⟩=>by cases e;exact h⟩
 | r::J,D,u,v=>by
  constructor
  ·rintro ⟨a,b,c,d⟩;obtain ⟨w,h1,h2⟩:=Runs.split.mp d;exact ⟨w,⟨a,b,c,h1⟩,h2⟩
  ·rintro ⟨w,⟨a,b,c,d⟩,h2⟩;exact ⟨a,b,c,Runs.split.mpr ⟨w,d,h2⟩⟩
theorem Runs.le:∀ {l:List (Nat×Nat×Nat)} {u v:Nat},Runs rk xs u l v ->u+l.length<=v
 | [],u,v,h=>by cases h;simp
 | r::l,u,v,⟨_,b,_,d⟩=>by
  have:=Runs.le d;rw [z2i];omega
theorem Up.same {lo hi:Nat} (h:Up rk xs lo hi) (e:∀ k,lo<=k ->k < hi ->ys[k]? =xs[k]?):Up rk ys lo hi:=λ i j a b c=>by
 rw [q5d (e i a (by (clear a;omega))),q5d (e j (by (clear c;omega)) c)];exact h i j a b c
theorem Runs.same:∀ {l:List (Nat×Nat×Nat)} {u v:Nat},Runs rk xs u l v ->(∀ k,u<=k ->k < v ->ys[k]? =xs[k]?) ->Runs rk ys u l v
 | [],u,v,h,_=>h
 | r::l,u,v,⟨a,b,c,d⟩,e=>by
  have:=Runs.le d;exact ⟨a,b,c.same λ k h1 h2=>e k h1 (by (clear h1 b a;omega)),d.same λ k h1 h2=>e k (by (clear h2 this b a;omega)) h2⟩
theorem Runs.pow:∀ {l D:List (Nat×Nat×Nat)} {u v:Nat},Runs rk xs u l v ->D.map (λ r=>(r.1,r.2.1))=l.map (λ r=>(r.1,r.2.1)) ->Runs rk xs u D v
 | [],D,u,v,h,e=>by
  have:D=[]:=by simpa using e
  subst this;exact h
 | r::l,D,u,v,⟨a,b,c,d⟩,e=>by
  cases D with
  | nil=>simp at e
  | cons r' D=>
   simp only [z3l,z2v,Prod.mk.injEq] at e;obtain ⟨⟨e1,e2⟩,e3⟩:=e;exact ⟨e1.trans a,by (clear e1 e3 a;omega),by rw [e2];exact c,by rw [e2];exact d.pow e3⟩
end
section
variable {M:Model} {A:Around} {E:Value ->Shared ->Prop} {s:Shared} {kd:SortKind} {S:Keyed ->Prop} {rk:Keyed ->Int} {n:Nat}
theorem qnf {xs:Array Keyed} {i j:Nat} (O:j<=xs.size) (h:Up rk xs i j):Asc rk (xs.extract i j).toList:=by
 unfold Asc;rw [z08];intro p q J hq D;have hl:(xs.extract i j).toList.length=j - i:=by rw [z19,z1n];(clear D hq J;omega)
 have e:∀ p (J:p < (xs.extract i j).toList.length),rk (xs.extract i j).toList[p]=kx rk xs (i+p):=λ p J=>by
  refine (q3n ?_).symm;have h1:(xs.extract i j)[p]? =some (xs.extract i j).toList[p]:=by rw [<- z0x,z0d]
  rw [<- h1,Array.getElem?_extract,if_pos (by (clear h1 D hq;omega))]
 rw [e p J,e q hq];exact h _ _ (by (clear hl D hq J O;omega)) (by (clear hl hq J O;omega)) (by (clear D J O;omega))
theorem q7j {xs:Array Keyed} {i j:Nat} (D:j<=xs.size) {p:Keyed} (h:p∈(xs.extract i j).toList):∃ k,i<=k/\k < j/\xs[k]? =some p:=by
 obtain ⟨q,hq,e⟩:=z12.mp h;have hl:(xs.extract i j).toList.length=j - i:=by rw [z19,z1n];(clear e hq;omega)
 refine ⟨i+q,by (clear hl e hq D;omega),by (clear e D;omega),?_⟩;have h1:(xs.extract i j)[q]? =some p:=by rw [<- z0x,z0d hq,e]
 rw [<- h1,Array.getElem?_extract,if_pos (by (clear h1 e;omega))]
theorem qqa {xs:Array Keyed} {i j k:Nat} (h:i+k < j) (hj:j<=xs.size):(xs.extract i j)[k]? =xs[i+k]? :=by
 rw [Array.getElem?_extract,if_pos (by omega)]
theorem Mv.wrote {st:SortSt} {a m b:Nat} {r:Array Keyed} (h1:a<=m) (h2:m<=b) (J:b<=(arrOf st).size) (hr:r.toList.Perm (((arrOf st).extract a m).toList++((arrOf st).extract m b).toList)):
  Mv a b st (setArr st (wrt a r.toList.zipIdx (arrOf st)))/\(∀ j,a<=j ->j < b ->∃ p,(wrt a r.toList.zipIdx (arrOf st))[j]? =some p/\p∈r.toList/\r.toList[j - a]? =some p):=by
 have hl:r.toList.length=b - a:=by
  rw [hr.length_eq,z1o,z19,z19,z1n,z1n];omega
 have hw:=qt2 a r.toList (arrOf st) (by omega);have O:=qkb a r.toList 0 (arrOf st) (by (clear hw;omega));refine ⟨⟨?_,λ k hk=> ?_,zf,zf,zf⟩,λ j ha hb'=> ?_⟩
 ·rw [z04];show (wrt a r.toList.zipIdx (arrOf st)).toList.Perm (arrOf st).toList;rw [hw,hl,show a+(b - a)=b by (clear hw hl J;omega)];have e:(arrOf st).toList=(arrOf st).toList.take a++(((arrOf st).extract a m).toList++((arrOf st).extract m b).toList)++(arrOf st).toList.drop b:=by
   rw [z13,z13,z0a,z0a];have e1:(arrOf st).toList.drop a=((arrOf st).toList.drop a).take (m - a)++(arrOf st).toList.drop m:=by
    have:=q7c (arrOf st).toList a (m - a)
    rwa [show a+(m - a)=m by (clear this hw hl J h2;omega)] at this
   have e2:(arrOf st).toList.drop m=((arrOf st).toList.drop m).take (b - m)++(arrOf st).toList.drop b:=by
    have:=q7c (arrOf st).toList m (b - m)
    rwa [show m+(b - m)=b by (clear this e1 hw hl J h1;omega)] at this
   rw [z1y,z1y,<- e2,<- e1,z0v]
  refine List.Perm.trans ?_ (List.Perm.of_eq e.symm);exact (hr.append_left _).append_right _
 ·show (wrt a r.toList.zipIdx (arrOf st))[k]? =_;rw [O k,if_neg (by (clear hw J h2 h1;omega))]
 ·have D:j - a < r.toList.length:=by (clear hw J h2 h1;omega)
  refine ⟨r.toList[j - a],?_,by simp,z0d D⟩;rw [O j,if_pos (by (clear D hw J h2 h1;omega)),Nat.add_zero,z0d D]
structure Merged (rk:Keyed ->Int) (lo hi:Nat) (p:Array (Nat×Nat×Nat)) (st st':SortSt):Prop where
 perm:(arrOf st').Perm (arrOf st)
 out:∀ k,k < lo\/ hi<=k ->(arrOf st')[k]? =(arrOf st)[k]?
 kind:kindOf st'=kindOf st
 failed:failedOf st'=failedOf st
 pend:pendingOf st'=p
 up:Up rk (arrOf st') lo hi
theorem qhf (L:LtOk M A E s kd S rk) {st:SortSt} (B:Sane kd S n st) {i sa na pw nb p2:Nat} (e1:(pendingOf st)[i]? =some (sa,na,pw)) (e2:(pendingOf st)[i+1]? =some (sa+na,nb,p2)) (ha:1<=na) (Z:1<=nb) (hn:sa+na+nb<=n)
  (u1:Up rk (arrOf st) sa (sa+na)) (u2:Up rk (arrOf st) (sa+na) (sa+na+nb)) {Q:Bool ->SortSt ->Prop}
  (h:∀ a1,Merged rk sa (sa+na+nb) (((pendingOf st).setIfInBounds i (sa,na+nb,pw)).eraseIdxIfInBounds (i+1)) st a1 ->Q true a1):wpS M A E s (mergeAt' i) Q st:=by
 rw [qoo];refine wpS_bind (wpS_get ?_);rw [e1,e2]
 dsimp only
 refine wpS_bind (qw7 ?_);have a2:∀ j,j < n ->∃ p,(arrOf st)[j]? =some p/\S p:=λ j hj=>by
  obtain ⟨p,a,b,_⟩:=B.at rk hj;exact ⟨p,a,b⟩
 have hz:=B.size;obtain ⟨q,eq,sq⟩:=a2 (sa+na) (by (clear hz ha e2 e1;omega));have O:kx rk (arrOf st) (sa+na)=rk q:=q3n eq;refine wpS_bind (q1y eq ?_);refine wpS_bind (q62 L B.kind sq (λ j hj=>a2 (sa+j) (by (clear O eq hz Z ha e2 e1;omega))) u1 (by (clear O eq hz hn Z e2 e1;omega)) λ k k1 k2 k3=> ?_)
 dsimp only
 have a9:∀ j,sa<=j ->j < sa+k ->kx rk (arrOf st) j<=kx rk (arrOf st) (sa+na):=λ j a b=>by
  have:=k2 (j - sa) (by (clear k1 O eq hz hn Z ha e2 e1;omega));rw [show sa+(j - sa)=j by (clear this b k1 O eq hz hn Z ha e2 e1;omega)] at this;simp [ahd] at this
  rw [O];exact this
 have a4:∀ j,sa+k<=j ->j < sa+na ->kx rk (arrOf st) (sa+na) < kx rk (arrOf st) j:=λ j a b=>by
  have:=k3 (j - sa) (by (clear b k1 O eq hz hn Z ha e2 e1;omega)) (by (clear a k1 O eq hz hn Z e2 e1;omega));rw [show sa+(j - sa)=j by (clear this b k1 O eq hz hn Z ha e2 e1;omega)] at this;simp [ahd] at this
  rw [O]
  (clear b a k1 O eq hz hn Z ha e2 e1;omega)
 have D:kx rk (arrOf st) (sa+na - 1)<=kx rk (arrOf st) (sa+na) ->Up rk (arrOf st) sa (sa+na+nb):=λ a7 i j a b c=>by
  by_cases c1:j < sa+na
  ·exact u1 i j a b c1
  ·by_cases c2:sa+na<=i
   ·exact u2 i j c2 b c
   ·have h1:=u1 i (sa+na - 1) a (by (clear c1 c b a a7 k1 O eq hz hn Z ha e2 e1;omega)) (by (clear c2 c1 c b a a7 k1 O eq hz hn Z e2 e1;omega));have h2:=u2 (sa+na) j (z48 _) (by (clear h1 c2 c b a a7 k1 O eq hz hn Z ha e2 e1;omega)) c
    (clear c2 c1 c b a k1 O eq hz hn Z ha e2 e1;omega)
 by_cases c0:na - k=0
 ·rw [if_pos (by simpa using c0)];exact wpS_pure (h _ ⟨Array.Perm.refl _,λ _ _=>rfl,rfl,rfl,rfl,D (a9 _ (by (clear c0 D k1 O eq hz hn Z e2 e1;omega)) (by (clear D k1 O eq hz hn Z e2 e1;omega)))⟩)
 ·rw [if_neg (by simpa using c0)];have el:sa+k+(na - k) - 1=sa+na - 1:=by (clear c0 D O eq hz hn Z ha e2 e1;omega)
  rw [el];obtain ⟨z,ez,sz⟩:=a2 (sa+na - 1) (by (clear el c0 D k1 O eq hz Z e2 e1;omega));have kz:kx rk (arrOf st) (sa+na - 1)=rk z:=q3n ez;refine wpS_bind (q1y ez ?_);refine wpS_bind (q62 L B.kind sz (λ j hj=>a2 (sa+na+j) (by (clear kz ez el c0 D k1 O eq hz Z ha e2 e1;omega))) u2 (by (clear kz ez el c0 D k1 O eq hz hn ha e2 e1;omega)) λ k' J b6 b7=> ?_)
  dsimp only
  have a5:∀ j,sa+na<=j ->j < sa+na+k' ->kx rk (arrOf st) j < kx rk (arrOf st) (sa+na - 1):=λ j a b=>by
   have:=b6 (j - (sa+na)) (by (clear J kz ez el c0 D k1 O eq hz hn Z ha e2 e1;omega));rw [show sa+na+(j - (sa+na))=j by (clear this b J kz ez el c0 D k1 O eq hz hn Z ha e2 e1;omega)] at this;simp [ahd] at this
   rw [kz];exact this
  have a3:∀ j,sa+na+k'<=j ->j < sa+na+nb ->kx rk (arrOf st) (sa+na - 1)<=kx rk (arrOf st) j:=λ j a b=>by
   have:=b7 (j - (sa+na)) (by (clear b J kz ez el c0 D k1 O eq hz hn Z ha e2 e1;omega)) (by (clear a J kz ez el c0 D k1 O eq hz hn ha e2 e1;omega));rw [show sa+na+(j - (sa+na))=j by (clear this b J kz ez el c0 D k1 O eq hz hn Z ha e2 e1;omega)] at this;simp [ahd] at this
   rw [kz]
   (clear b a J kz ez el c0 D k1 O eq hz hn Z ha e2 e1;omega)
  by_cases c1:k'=0
  ·rw [if_pos (by simpa using c1)];exact wpS_pure (h _ ⟨Array.Perm.refl _,λ _ _=>rfl,rfl,rfl,rfl,D (a3 _ (by (clear J kz ez el c0 D k1 O eq hz hn Z ha e2 e1;omega)) (by (clear c1 J kz ez el c0 D k1 O eq hz hn ha e2 e1;omega)))⟩)
  ·rw [if_neg (by simpa using c1)];have m:Mg S rk ((arrOf st).extract (sa+k) (sa+na)) ((arrOf st).extract (sa+na) (sa+na+k')):=by
    refine ⟨λ p hp=> ?_,λ p hp=> ?_,qnf (by (clear c1 J kz ez el c0 D k1 O eq Z ha e2 e1;omega)) λ i j a b c=>u1 i j (by (clear c b c1 J kz ez el c0 D k1 O eq hz hn Z ha e2 e1;omega)) b c,qnf (by (clear c1 kz ez el c0 D k1 O eq Z ha e2 e1;omega)) λ i j a b c=>u2 i j a b (by (clear b a c1 kz ez el c0 D k1 O eq hz hn Z ha e2 e1;omega)),by rw [z1n];(clear c1 J kz ez el D k1 O eq Z ha e2 e1;omega),by rw [z1n];(clear J kz ez el c0 D k1 O eq ha e2 e1;omega),⟨z,?_,λ p hp=> ?_⟩,⟨q,?_,λ p hp=> ?_⟩⟩
    ·obtain ⟨j,h1,h2,e⟩:=q7j (by (clear c1 J kz ez el c0 D k1 O eq Z ha e2 e1;omega)) hp;obtain ⟨p',e',sp⟩:=a2 j (by (clear e h1 c1 J kz ez el c0 D k1 O eq hz Z ha e2 e1;omega));rw [e] at e';cases e'
     exact sp
    ·obtain ⟨j,h1,h2,e⟩:=q7j (by (clear c1 kz ez el c0 D k1 O eq Z ha e2 e1;omega)) hp;obtain ⟨p',e',sp⟩:=a2 j (by (clear e h1 c1 kz ez el c0 D k1 O eq hz Z ha e2 e1;omega));rw [e] at e';cases e'
     exact sp
    ·rw [z1n,qqa (by (clear c1 J kz ez el D k1 O eq hz hn Z ha e2 e1;omega)) (by (clear c1 J kz ez el c0 D k1 O eq Z ha e2 e1;omega)),<- ez]
     congr 1
     (clear c1 J kz ez el D k1 O eq Z ha e2 e1;omega)
    ·obtain ⟨j,h1,h2,e⟩:=q7j (by (clear c1 kz ez el c0 D k1 O eq Z ha e2 e1;omega)) hp;have:=a5 j h1 h2
     rwa [kz,q3n e] at this
    ·rw [qqa (by (clear J kz ez el c0 D k1 O eq hz hn Z ha e2 e1;omega)) (by (clear c1 kz ez el c0 D k1 O eq Z ha e2 e1;omega)),<- eq];rfl
    ·obtain ⟨j,h1,h2,e⟩:=q7j (by (clear c1 J kz ez el c0 D k1 O eq Z ha e2 e1;omega)) hp;have:=a4 j h1 h2
     rwa [O,q3n e] at this
   have fin:∀ (r:Array Keyed) (a1:SortSt),Gl (setPending st (((pendingOf st).setIfInBounds i (sa,na+nb,pw)).eraseIdxIfInBounds (i+1))) a1 ->Good rk ((arrOf st).extract (sa+k) (sa+na)) ((arrOf st).extract (sa+na) (sa+na+k')) r ->
     wpS M A E s ((modify λ c=>setArr c (wrt (sa+k) r.toList.zipIdx (arrOf c)):StateT SortSt Sem PUnit) >>=λ _=>get >>=λ c=>pure (failedOf c).isNone) Q a1:=by
    intro r a1 hg hr;have a0:arrOf a1=arrOf st:=hg.arr;refine wpS_bind (wpS_modify (wpS_bind (wpS_get (wpS_pure ?_))));have hf:failedOf a1=none:=hg.failed.trans B.failed;show Q (failedOf a1).isNone _;rw [hf];have hw:=Mv.wrote (st:=st) (a:=sa+k) (m:=sa+na) (b:=sa+na+k') (r:=r) (by (clear hf a0 c1 J kz ez el c0 D O eq hz hn Z ha e2 e1;omega)) (by (clear hf a0 c1 J kz ez el c0 D k1 O eq hz hn Z ha e2 e1;omega)) (by (clear hf a0 c1 kz ez el c0 D k1 O eq Z ha e2 e1;omega)) hr.1;obtain ⟨v,at'⟩:=hw;have a8:=z08.mp hr.2;have b2:∀ j,sa+k<=j ->j < sa+na+k' ->kx rk (arrOf st) (sa+na)<=kx rk (wrt (sa+k) r.toList.zipIdx (arrOf st)) j/\kx rk (wrt (sa+k) r.toList.zipIdx (arrOf st)) j<=kx rk (arrOf st) (sa+na - 1):=λ j a b=>by
     obtain ⟨p,e,hp,_⟩:=at' j a b;rw [q3n e];rcases z2u.mp (hr.1.mem_iff.mp hp) with hp | hp
     ·obtain ⟨j',h1,h2,e'⟩:=q7j (by (clear e b a hf a0 c1 J kz ez el c0 D k1 O eq Z ha e2 e1;omega)) hp;rw [<- q3n (rk:=rk) e'];exact ⟨z3v (a4 j' h1 h2),u1 j' (sa+na - 1) (by (clear e' h2 e b a hf a0 c1 J kz ez el c0 D k1 O eq hz hn Z ha e2 e1;omega)) (by (clear e' h1 e b a hf a0 c1 J kz ez el c0 D k1 O eq hz hn Z ha e2 e1;omega)) (by (clear e' h2 h1 e b a hf a0 c1 J kz ez el c0 D k1 O eq hz hn Z e2 e1;omega))⟩
     ·obtain ⟨j',h1,h2,e'⟩:=q7j (by (clear e b a hf a0 c1 kz ez el c0 D k1 O eq Z ha e2 e1;omega)) hp;rw [<- q3n (rk:=rk) e'];exact ⟨u2 _ j' (z48 _) h1 (by (clear e' h1 e b a hf a0 c1 kz ez el c0 D k1 O eq hz hn Z ha e2 e1;omega)),z3v (a5 j' h1 h2)⟩
    have out:∀ j,j < sa+k\/ sa+na+k'<=j ->kx rk (wrt (sa+k) r.toList.zipIdx (arrOf st)) j=kx rk (arrOf st) j:=λ j hj=>q5d (v.out j hj);rw [show (setArr a1 (wrt (sa+k) r.toList.zipIdx (arrOf a1)))=setArr a1 (wrt (sa+k) r.toList.zipIdx (arrOf st)) by rw [a0]];refine h _ ⟨v.perm,λ j hj=>v.out j (by (clear hf a0 c1 kz ez el c0 D k1 O eq hz hn Z ha e2 e1;omega)),hg.kind,hg.failed,hg.pend,λ i j a b c=> ?_⟩;show kx rk (wrt (sa+k) r.toList.zipIdx (arrOf st)) i<=kx rk (wrt (sa+k) r.toList.zipIdx (arrOf st)) j;by_cases i1:i < sa+k
    ·rw [out i (.inl i1)];have li:=a9 i a i1;by_cases j1:j < sa+k
     ·rw [out j (.inl j1)];exact u1 i j a b (by (clear li i1 c b a hf a0 c1 J kz ez el c0 D O eq hz hn Z ha e2 e1;omega))
     ·by_cases j2:j < sa+na+k'
      ·have:=(b2 j (by (clear j2 li i1 c b a hf a0 c1 J kz ez el c0 D k1 O eq hz hn Z ha e2 e1;omega)) j2).1
       (clear j2 j1 i1 c b a hf a0 c1 J kz ez el c0 D k1 O eq hz hn Z ha e2 e1;omega)
      ·rw [out j (.inr (by (clear j1 li i1 c b a hf a0 c1 J kz ez el c0 D k1 O eq hz hn Z ha e2 e1;omega)))];have:=u2 (sa+na) j (z48 _) (by (clear j1 li i1 c b a hf a0 c1 J kz ez el c0 D k1 O eq hz hn Z ha e2 e1;omega)) c
       (clear j2 j1 i1 c b a hf a0 c1 J kz ez el c0 D k1 O eq hz hn Z ha e2 e1;omega)
    ·by_cases i2:i < sa+na+k'
     ·by_cases j2:j < sa+na+k'
      ·obtain ⟨p,ep,_,gp⟩:=at' i (by (clear j2 i2 c b a hf a0 c1 J kz ez el c0 D k1 O eq hz hn Z ha e2 e1;omega)) i2;obtain ⟨p',b4,_,a6⟩:=at' j (by (clear gp ep j2 i2 c a hf a0 c1 J kz ez el c0 D k1 O eq hz hn Z ha e2 e1;omega)) j2;rw [q3n ep,q3n b4];obtain ⟨l1,x1⟩:=z07.mp gp;obtain ⟨l2,x2⟩:=z07.mp a6;rcases Nat.lt_or_ge i j with b5 | b5
       ·have:=a8 (i - (sa+k)) (j - (sa+k)) l1 l2 (by omega)
        rwa [x1,x2] at this
       ·have b3:i=j:=by omega
        subst b3;rw [gp] at a6;cases a6
        exact z4a _
      ·rw [out j (.inr (by omega))];have h1:=(b2 i (by omega) i2).2;have h2:=a3 j (by omega) c;omega
     ·rw [out i (.inr (by omega)),out j (.inr (by omega))];exact u2 i j (by omega) b c
   by_cases c2:na - k<=k'
   ·rw [if_pos c2];exact wpS_bind (qq8 (st:=setPending st (((pendingOf st).setIfInBounds i (sa,na+nb,pw)).eraseIdxIfInBounds (i+1))) L B.kind m λ r a1 hg hr=>fin r a1 hg hr)
   ·rw [if_neg c2];exact wpS_bind (qq9 (st:=setPending st (((pendingOf st).setIfInBounds i (sa,na+nb,pw)).eraseIdxIfInBounds (i+1))) L B.kind m λ r a1 hg hr=>fin r a1 hg hr)
end
theorem qhg {p:Array (Nat×Nat×Nat)} {D J:List (Nat×Nat×Nat)} {r1 r2 r:Nat×Nat×Nat} {i:Nat} (h:p.toList=D++r1::r2::J) (hi:D.length=i):
  ((p.setIfInBounds i r).eraseIdxIfInBounds (i+1)).toList=D++r::J:=by
 have hs:i+1 < (p.setIfInBounds i r).size:=by
  rw [Array.size_setIfInBounds,<- z19,h];simp
  omega
 rw [Array.eraseIdxIfInBounds,dif_pos hs,Array.toList_eraseIdx,Array.toList_setIfInBounds,h,<- hi,List.set_append_right _ _ (z48 _),Nat.sub_self,List.set_cons_zero,
  List.eraseIdx_append_of_length_le (by omega)]
 congr 1
 rw [show D.length+1 - D.length=1 by omega];rfl
theorem qt3 {α:Type} {l:List α} {i:Nat} (h:i+1 < l.length):∃ D r1 r2 l2,l=D++r1::r2::l2/\D.length=i:=by
 refine ⟨l.take i,l[i],l[i+1],l.drop (i+2),?_,by rw [z2g];omega⟩;rw [<- z09 h,<- z09 (by omega),z0v]
section
variable {M:Model} {A:Around} {E:Value ->Shared ->Prop} {s:Shared} {kd:SortKind} {S:Keyed ->Prop} {rk:Keyed ->Int} {n:Nat}
structure Sr (rk:Keyed ->Int) (kd:SortKind) (S:Keyed ->Prop) (n:Nat) (st:SortSt) (lo:Nat) (st':SortSt):Prop where
 perm:(arrOf st').Perm (arrOf st)
 sane:Sane kd S n st'
 runs:Runs rk (arrOf st') 0 (pendingOf st').toList lo
theorem Sr.merge {st D:SortSt} {lo i:Nat} (h:Sr rk kd S n st lo D) (hi:i+1 < (pendingOf D).size):
  ∃ sa na pw nb p2,(pendingOf D)[i]? =some (sa,na,pw)/\(pendingOf D)[i+1]? =some (sa+na,nb,p2)/\1<=na/\1<=nb/\sa+na+nb<=lo/\Up rk (arrOf D) sa (sa+na)/\Up rk (arrOf D) (sa+na) (sa+na+nb)/\
   ∀ J,Merged rk sa (sa+na+nb) (((pendingOf D).setIfInBounds i (sa,na+nb,pw)).eraseIdxIfInBounds (i+1)) D J ->
    Sr rk kd S n st lo J/\(pendingOf J).size+1=(pendingOf D).size/\∀ k,lo<=k ->(arrOf J)[k]? =(arrOf D)[k]? :=by
 obtain ⟨l1,⟨O,Z,q1⟩,⟨a2,n2,q2⟩,l2,e,el⟩:=qt3 (l:=(pendingOf D).toList) (i:=i) (by rw [z19];exact hi);have R:=h.runs;rw [e] at R;obtain ⟨w,R1,R2⟩:=Runs.split.mp R;obtain ⟨x1,x2,x3,x4,x5,x6,x7⟩:=R2;simp only at x1 x2 x3 x4 x5 x6 x7;subst x1 x4;have le:=Runs.le x7;have g1:(pendingOf D)[i]? =some (O,Z,q1):=by
  rw [<- z0x,e,z05 (by omega),<- el,Nat.sub_self];rfl
 have g2:(pendingOf D)[i+1]? =some (O+Z,n2,q2):=by
  rw [<- z0x,e,z05 (by omega),show i+1 - l1.length=1 by omega];rfl
 refine ⟨O,Z,q1,n2,q2,g1,g2,x2,x5,by omega,x3,x6,λ J m=>⟨⟨m.perm.trans h.perm,?_,?_⟩,?_,λ k hk=>m.out k (by omega)⟩⟩
 ·exact ⟨m.perm.size_eq.trans h.sane.size,λ p hp=>h.sane.all p ((z04.mp m.perm).mem_iff.mp hp),m.kind.trans h.sane.kind,m.failed.trans h.sane.failed⟩
 ·rw [m.pend,qhg e el];refine Runs.split.mpr ⟨O,R1.same λ k _ hk=>m.out k (.inl hk),rfl,by show 1<=Z+n2;omega,?_,?_⟩
  ·show Up rk (arrOf J) O (O+(Z+n2));rw [<- Nat.add_assoc];exact m.up
  ·show Runs rk (arrOf J) (O+(Z+n2)) l2 lo;rw [<- Nat.add_assoc];exact x7.same λ k hk _=>m.out k (.inr hk)
 ·rw [m.pend,<- z19,qhg e el,<- z19,e];simp
  omega
theorem Sr.mv {st D J:SortSt} {lo hi:Nat} (h:Sr rk kd S n st lo D) (v:Mv lo hi D J):Sr rk kd S n st lo J:=
 ⟨v.perm.trans h.perm,v.sane h.sane,by rw [v.pend];exact h.runs.same λ k _ hk=>v.out k (.inl hk)⟩
theorem Sr.setP {st D:SortSt} {lo hi:Nat} {p:Array (Nat×Nat×Nat)} (h:Sr rk kd S n st lo D) (r:Runs rk (arrOf D) 0 p.toList hi):Sr rk kd S n st hi (setPending D p):=
 ⟨h.perm,⟨h.sane.size,h.sane.all,h.sane.kind,h.sane.failed⟩,r⟩
theorem qt4 (p:Array (Nat×Nat×Nat)) (pw:Nat):(p.modify (p.size - 1) λ (x:Nat×Nat×Nat)=>(x.1,x.2.1,pw)).toList.map (λ r=>(r.1,r.2.1))=p.toList.map (λ r=>(r.1,r.2.1)):=by
 apply z21
 intro j;rw [z22,z22,z0x,z0x,Array.getElem?_modify];split
 ·cases p[j]? <;> rfl
 ·rfl
theorem qop (L:LtOk M A E s kd S rk) {st:SortSt} (B:Sane kd S n st) (h2:2<=n) (hp:pendingOf st=#[]) {Q:Unit ->SortSt ->Prop}
  (h:∀ O,(arrOf O).Perm (arrOf st) ->failedOf O=none ->Up rk (arrOf O) 0 n ->Q () O):wpS M A E s sortRuns' Q st:=by
 rw [sortRuns'_eq];refine wpS_bind (wpS_get ?_)
 dsimp only
 simp only [B.size];have start:Sr rk kd S n st 0 st:=⟨Array.Perm.refl _,B,by rw [hp];rfl⟩;refine wpS_bind (wpS_mono (wpS_forRange (I:=λ x c O=>∃ lo,c=(none,lo)/\Sr rk kd S n st lo O/\lo<=n/\min x n<=lo)
  (Q:=λ c O=>c=(none,n)/\Sr rk kd S n st n O) ?turn ?last ⟨0,rfl,start,by omega,by omega⟩) ?after)
 case last=>
  rintro c O ⟨lo,rfl,R,h1,h3⟩;have e:lo=n:=by omega
  subst e;exact ⟨zf,R⟩
 case turn=>
  rintro x c O _ hx ⟨lo,rfl,R,hlo,hxl⟩
  dsimp only
  by_cases a8:lo >=n
  ·rw [if_pos a8];have e:lo=n:=by omega
   subst e;exact wpS_pure ⟨zf,R⟩
  rw [if_neg a8];refine wpS_bind (qok L R.sane (by omega) (by omega) λ k a9 v2 k1 k2 u2=> ?_);have R2:=R.mv v2
  dsimp only
  by_cases a0:k < minRun' n n 0
  case' pos=>
   rw [if_pos a0];refine wpS_bind (wpS_lift (z4d ⟨zf,?_⟩));refine wpS_bind (qk0 L R2.sane (by omega) (by omega) u2 λ a7 v3 u3=> ?_);have R3:=R2.mv v3;simp only [Bool.not_true,z1k,if_false];have m1:1<=min (n - lo) (minRun' n n 0):=by omega
   have m2:min (n - lo) (minRun' n n 0)<=n - lo:=by omega
   clear a0 v3;generalize min (n - lo) (minRun' n n 0)=m at*
  case' neg=>
   rw [if_neg a0];have R3:=R2;have u3:=u2;have m1:=k1;have m2:=k2;clear a0;generalize a9=a7 at*;generalize k=m at*
  all_goals
   refine wpS_bind (wpS_get ?_);have fin:∀ (J:SortSt) (p:Array (Nat×Nat×Nat)),Sr rk kd S n st lo J ->Up rk (arrOf J) lo (lo+m) ->Runs rk (arrOf J) 0 p.toList lo ->
     Sr rk kd S n st (lo+m) (setPending (setPending J p) ((pendingOf (setPending J p)).push (lo,m,0))):=λ J p R5 u5 rp=>by
    refine (R5.setP rp).setP ?_;show Runs rk (arrOf J) 0 (p.push (lo,m,0)).toList (lo+m);rw [z20];exact Runs.split.mpr ⟨lo,rp,zf,m1,u5,zf⟩
   cases hb:(pendingOf a7).back? with
   | none=>
    dsimp only
    exact wpS_bind (wpS_modify (wpS_pure ⟨lo+m,zf,fin a7 (pendingOf a7) R3 u3 R3.runs,by omega,by omega⟩))
   | some q=>
    obtain ⟨s1,n1,q1⟩:=q
    dsimp only
    refine wpS_bind (wpS_mono (wpS_forRange (I:=λ _ c D=>c=(none,())/\Sr rk kd S n st lo D/\Up rk (arrOf D) lo (lo+m))
     (Q:=λ c D=>c=(none,())/\Sr rk kd S n st lo D/\Up rk (arrOf D) lo (lo+m)) ?mturn (λ _ _ z=>z) ⟨rfl,R3,u3⟩) ?mafter)
    case mturn=>
     rintro j c D _ hj ⟨rfl,Z,u4⟩;refine wpS_bind (wpS_get ?_);by_cases c1:(pendingOf D).size > 1
     ·obtain ⟨sa,na,pw,nb,p2,g1,g2,a1,a2,a3,a4,a5,a6⟩:=Z.merge (i:=(pendingOf D).size - 2) (by omega);rw [if_pos c1,g1]
      dsimp only
      split
      ·exact wpS_pure ⟨zf,Z,u4⟩
      ·refine wpS_bind (qhf L Z.sane g1 g2 a1 a2 (by omega) a4 a5 λ J mm=> ?_);obtain ⟨R5,_,o5⟩:=a6 J mm;simp only [Bool.not_true,z1k,if_false];exact wpS_pure ⟨zf,R5,u4.same λ k hk _=>o5 k hk⟩
     ·rw [if_neg c1];exact wpS_pure ⟨zf,Z,u4⟩
    case mafter=>
     rintro c D ⟨rfl,Z,u4⟩
     dsimp only
     refine wpS_bind (wpS_modify (wpS_bind (wpS_modify (wpS_pure ⟨lo+m,zf,?_,by omega,by omega⟩))));exact fin D _ Z u4 (Z.runs.pow (qt4 _ _))
 case after=>
  rintro c O ⟨rfl,R⟩
  dsimp only
  refine wpS_bind (wpS_mono (wpS_forRange (I:=λ x c D=>c=(none,())/\Sr rk kd S n st n D/\(pendingOf D).size<=max 1 (n - x))
   (Q:=λ c D=>c=(none,())/\Sr rk kd S n st n D/\(pendingOf D).size<=1) ?fturn ?flast ⟨rfl,R,?ffirst⟩) ?fafter)
  case ffirst=>
   have:=Runs.le R.runs;rw [z19] at this;omega
  case flast=>
   rintro c D ⟨hc,Z,h4⟩;exact ⟨hc,Z,by omega⟩
  case fturn=>
   rintro j c D _ hj ⟨rfl,Z,h4⟩;refine wpS_bind (wpS_get ?_);by_cases c1:(pendingOf D).size<=1
   ·rw [if_pos c1];exact wpS_pure ⟨zf,Z,c1⟩
   ·rw [if_neg c1];have go:∀ i,i+1 < (pendingOf D).size ->wpS M A E s (mergeAt' i) (λ b J=>b=true/\Sr rk kd S n st n J/\(pendingOf J).size<=max 1 (n - (j+1))) D:=λ i hi=>by
     obtain ⟨sa,na,pw,nb,p2,g1,g2,a1,a2,a3,a4,a5,a6⟩:=Z.merge hi;refine qhf L Z.sane g1 g2 a1 a2 (by omega) a4 a5 λ J mm=> ?_;obtain ⟨R5,z5,_⟩:=a6 J mm;exact ⟨zf,R5,by omega⟩
    refine wpS_bind (wpS_mono (go _ ?_) ?_)
    ·repeat' split
     all_goals omega
    ·rintro b J ⟨rfl,R5,z5⟩;simp only [Bool.not_true,z1k,if_false];exact wpS_pure ⟨zf,R5,z5⟩
  case fafter=>
   rintro c D ⟨rfl,Z,h4⟩;refine wpS_pure (h D Z.perm Z.sane.failed ?_);have hr:=Z.runs;have hl:(pendingOf D).toList.length<=1:=by rw [z19];exact h4
   cases e:(pendingOf D).toList with
   | nil=>
    rw [e] at hr;have:0=n:=hr;omega
   | cons r l=>
    rw [e] at hr hl;have:l=[]:=by simpa using hl
    subst this;obtain ⟨_,_,u,z⟩:=hr;have z':0+r.2.1=n:=z
    rwa [z'] at u
end
def KLt (prog:Program) (w:World) (A:Around) (s:Shared) (kd:SortKind) (x y:Value) (r:Bool):Prop:=
 ∀ (E:Value ->Shared ->Prop) (Q:Bool ->Shared ->Prop),Q r s ->wpAny (model prog w) A (keyLt' kd x y) Q E s
theorem qw8 {prog:Program} {w:World} {A:Around} {E:Value ->Shared ->Prop} {s:Shared} {kd:SortKind} {S:Keyed ->Prop} {rk:Keyed ->Int} (h:∀ x y,S x ->S y ->KLt prog w A s kd x.1 y.1 (decide (rk x < rk y))):
  LtOk (model prog w) A E s kd S rk:=by
 intro x y st Q sx sy hk q;rw [lt'_eq];refine wpS_bind (wpS_get ?_);rw [hk];refine wpS_bind (wpS_lift (z3m (h x y sx sy _ _ ⟨zf,?_⟩)));exact wpS_pure q
section
variable {α:Type}
theorem qdh {p q:α ->Bool}:∀ (l:List α),(∀ z∈l,p z=true ->q z=true) ->(l.filter p).length<=(l.filter q).length
 | [],_=>z48 _
 | z::l,h=>by
  have ih:=qdh (p:=p) (q:=q) l λ y hy=>h y (z16 _ hy);rw [z2j,z2j];cases e:p z with
  | true=>
   rw [h z (z1p ..) e];simp only [if_true,z2i];omega
  | false=>
   cases q z with
   | true=>simp only [z1k,if_false,if_true,z2i];omega
   | false=>simpa using ih
theorem qkc {p q:α ->Bool} {y:α}:∀ (l:List α),(∀ z∈l,p z=true ->q z=true) ->y∈l ->p y=false ->q y=true ->(l.filter p).length < (l.filter q).length
 | [],_,hy,_,_=>nomatch hy
 | z::l,h,hy,h1,h2=>by
  have hl:∀ w∈l,p w=true ->q w=true:=λ w hw=>h w (z16 _ hw);rw [z2j,z2j];rcases z3n.mp hy with rfl | hy
  ·rw [h1,h2];have:=qdh l hl;simp only [z1k,if_false,if_true,z2i];omega
  ·have ih:=qkc l hl hy h1 h2;cases e:p z with
   | true=>
    rw [h z (z1p ..) e];simp only [if_true,z2i];omega
   | false=>
    cases q z with
    | true=>simp only [z1k,if_false,if_true,z2i];omega
    | false=>simpa using ih
def rank (lt:α ->α ->Bool) (l:List α) (x:α):Int:=((l.filter λ y=>lt y x).length:Nat)
theorem qng {lt:α ->α ->Bool} {l:List α} (irr:∀ x∈l,lt x x=false) (tr:∀ x∈l,∀ y∈l,∀ z∈l,lt x y=true ->lt y z=true ->lt x z=true)
  (nt:∀ x∈l,∀ y∈l,∀ z∈l,lt x z=true ->lt x y=true\/ lt y z=true) {x y:α} (hx:x∈l) (hy:y∈l):lt x y=decide (rank lt l x < rank lt l y):=by
 unfold rank;cases e:lt x y with
 | true=>
  have:=qkc (p:=λ z=>lt z x) (q:=λ z=>lt z y) l (λ z hz h=>tr z hz x hx y hy h e) hx (irr x hx) e;exact (z3c (by omega)).symm
 | false=>
  have:=qdh (p:=λ z=>lt z y) (q:=λ z=>lt z x) l (λ z hz h=>(nt z hz x hx y hy h).resolve_right (by rw [e];exact z1l));exact (z2w (by omega)).symm
end
structure Sorted (rk:Value ->Int) (vs out:List Value):Prop where
 perm:out.Perm vs
 asc:out.Pairwise λ x y=>rk x<=rk y
theorem qkd {rk:Value ->Int} {vs:List Value} {xs:Array Keyed} (Z:xs.Perm (pairsOf vs)) (hu:Up (λ p=>rk p.1) xs 0 vs.length):Sorted rk vs (xs.map (·.2)).toList:=by
 have hl:xs.toList.Perm (vs.zip vs):=by
  rw [<- pairsOf_toList];exact z04.mp Z
 have hsz:xs.size=vs.length:=by
  rw [Z.size_eq,pairsOf_size]
 have same:∀ p,p∈xs.toList ->p.1=p.2:=λ p h=>(mem_zip_self (hl.mem_iff.mp h)).1;refine ⟨?_,?_⟩
 ·rw [Array.toList_map];have:=hl.map Prod.snd
  rwa [List.map_snd_zip (z48 _)] at this
 ·rw [Array.toList_map,z08];intro i j hi hj O;rw [List.getElem_map,List.getElem_map];have J:i < xs.toList.length:=by simpa using hi
  have D:j < xs.toList.length:=by simpa using hj
  have:=hu i j (z4b _) (z3y O) (by rw [z19] at D;omega);rw [q2s xs i (z0d J),q2s xs j (z0d D)] at this;rw [<- same _ (z2k J),<- same _ (z2k D)];exact this
section
variable {prog:Program} {w:World} {A:Around} {E:Value ->Shared ->Prop} {s:Shared}
def Keys (prog:Program) (w:World) (A:Around) (s:Shared) (a:Addr) (vs:List Value) (rk:Value ->Int):Prop:=2<=vs.length ->∀ s':Shared,(∀ b o,b≠a ->s.heap.get? b=some o ->s'.heap.get? b=some o) ->
 ∃ kd:SortKind,(∀ (E:Value ->Shared ->Prop) (Q:SortKind ->Shared ->Prop),Q kd s' ->wpAny (model prog w) A (keyKind' vs.toArray) Q E s')/\∀ x∈vs,∀ y∈vs,KLt prog w A s' kd x y (decide (rk x < rk y))
theorem qal {a:Addr} {vs:List Value} {n:Nat} {rk:Value ->Int} {P:PySem.Fin ->Shared ->Prop} (ho:s.heap.get? a=some (seqObj "list" vs.toArray n)) (hz:vs.length<=sizeLine) (hk:Keys prog w A s a vs rk)
  (h:∀ out:Array Value,Sorted rk vs out.toList ->P (.done (.ret .none)) {s with heap:=sortedHeap s.heap a vs out}):wpAny (model prog w) A (Builtin.«list.sort» ⟨[.ref a],[]⟩) P E s:=by
 rw [list_sort_plain];have ha:a < s.heap.objs.size:=z3z ho;have a4:vs.toArray.size=vs.length:=z23;refine z4f (listItems_at ho rfl (z4f (listUpdate_at ho rfl ?_ (by rw [a4];exact hz) (z4b _))));obtain ⟨e1,Z⟩:∃ e1,(s.heap.update a (Obj.mapSeq λ _=>#[])).get? a=some (seqObj "list" #[] e1):=⟨_,get?_update_seq ho (λ _=>#[])⟩;refine z4f (seqEpoch_at Z rfl (z4f (wpAny_newTuple (z4f (wpAny_newList (z3o ?_))))));have s1:=z1b s.heap a (Obj.mapSeq λ _=>(#[]:Array Value));have keep:∀ b o,(s.heap.update a (Obj.mapSeq λ _=>#[])).get? b=some o ->(((s.heap.update a (Obj.mapSeq λ _=>#[])).push (seqObj "tuple" vs.toArray 0)).push (seqObj "list" #[] 0)).get? b=some o:=
  λ b o e=>z0o _ (z0o _ e)
 have J:=keep a _ Z;have O:∀ b o,b≠a ->s.heap.get? b=some o ->(((s.heap.update a (Obj.mapSeq λ _=>#[])).push (seqObj "tuple" vs.toArray 0)).push (seqObj "list" #[] 0)).get? b=some o:=
  λ b o hb e=>keep b o ((s1.2 b hb).trans e)
 show wpAny (model prog w) A _ P E {s with heap:=((s.heap.update a (Obj.mapSeq λ _=>#[])).push (seqObj "tuple" vs.toArray 0)).push (seqObj "list" #[] 0)}
 dsimp only
 by_cases h2:vs.toArray.size < 2
 ·rw [if_pos h2,if_pos h2];refine z4f (z4e ?_);rw [StateT.run_pure];refine z4f (z4e ?_)
  dsimp only
  have es:((vs.toArray.zip vs.toArray).map (·.2)).toList=vs:=by
   rw [Array.toList_map];show (pairsOf vs).toList.map _=_;rw [pairsOf_toList,List.map_snd_zip (z48 _)]
  refine z4f (seqEpoch_at J rfl (z4f (listUpdate_at J rfl ?_ (z4b _) (by rw [<- z19,es];omega))));simp only [bne_self_eq_false,z1k,if_false];refine z4e (h _ ?_);rw [es];refine ⟨List.Perm.refl _,?_⟩;rw [a4] at h2
  match vs,h2 with
  | [],_=>exact .nil
  | [_],_=>exact z0i ..
 ·rw [if_neg h2,if_neg h2];obtain ⟨kd,kk,kl⟩:=hk (by omega) {s with heap:=((s.heap.update a (Obj.mapSeq λ _=>#[])).push (seqObj "tuple" vs.toArray 0)).push (seqObj "list" #[] 0)} O;refine z4f (kk _ _ ?_);have hS:∀ p∈(vs.toArray.zip vs.toArray).toList,p.1∈vs:=λ p hp=>by
   have a0:p∈(pairsOf vs).toList:=hp;rw [pairsOf_toList] at a0;exact (mem_zip_self a0).2
  refine z4f (z4g (qop (S:=λ p=>p.1∈vs) (rk:=λ p=>rk p.1) (n:=vs.length) (st:=SortSt.mk' kd (vs.toArray.zip vs.toArray) #[] 7 none)
   (Q:=λ _ D=>(arrOf D).Perm (pairsOf vs)/\failedOf D=none/\Up (λ p=>rk p.1) (arrOf D) 0 vs.length)
   (qw8 λ x y hx hy=>kl x.1 hx y.1 hy) ⟨pairsOf_size vs,hS,rfl,rfl⟩ (by omega) rfl λ D a1 a2 a3=>⟨a1,a2,a3⟩) ?_ λ _ _ e=>e)
  rintro ⟨⟨⟩,D⟩ s' ⟨rfl,hp,hf,hu⟩
  dsimp only
  have so:=qkd hp hu;refine z4f (seqEpoch_at J rfl (z4f (listUpdate_at J rfl ?_ (z4b _) (by rw [<- z19,so.perm.length_eq];omega))));rw [hf];simp only [bne_self_eq_false,z1k,if_false];exact z4e (h _ so)
end
end Tim
namespace Tim
structure STO {α:Type} (lt:α ->α ->Bool):Prop where
 irr:∀ a,lt a a=false
 tr:∀ a b c,lt a b=true ->lt b c=true ->lt a c=true
 tri:∀ a b,lt a b=false ->lt b a=false ->a=b
section
variable {α β:Type}
theorem STO.asym {lt:α ->α ->Bool} (h:STO lt) {a b:α} (x:lt a b=true):lt b a=false:=by
 cases e:lt b a with
 | false=>rfl
 | true=>
  have:=h.tr a b a x e;rw [h.irr] at this;cases this
theorem STO.nt {lt:α ->α ->Bool} (h:STO lt) {a c:α} (b:α) (x:lt a c=true):lt a b=true\/ lt b c=true:=by
 cases e:lt a b with
 | true=>exact .inl rfl
 | false=>
  cases f:lt b a with
  | true=>exact .inr (h.tr b a c f x)
  | false=>
   have:=h.tri a b e f;subst this;exact .inr x
theorem STO.map {lt:α ->α ->Bool} (h:STO lt) (f:β ->α) (inj:∀ a b,f a=f b ->a=b):STO λ a b=>lt (f a) (f b):=
 ⟨λ a=>h.irr _,λ a b c=>h.tr _ _ _,λ a b x y=>inj a b (h.tri _ _ x y)⟩
def lexB [DecidableEq α] (lt:α ->α ->Bool):List α ->List α ->Bool
 | [],[]=>false
 | [],_::_=>true
 | _::_,[]=>false
 | a::as,b::bs=>if a=b then lexB lt as bs else lt a b
theorem STO.lex [DecidableEq α] {lt:α ->α ->Bool} (h:STO lt):STO (lexB lt):=by
 refine ⟨λ a=> ?_,λ a=> ?_,λ a=> ?_⟩
 ·induction a with
  | nil=>rfl
  | cons x a O=>rw [lexB,if_pos rfl];exact O
 ·induction a with
  | nil=>
   intro b c h1 h2;cases c with
   | nil=>cases b with
    | nil=>exact h1
    | cons y b=>cases h2
   | cons z c=>rfl
  | cons x a O=>
   intro b c h1 h2;cases b with
   | nil=>cases h1
   | cons y b=>
    cases c with
    | nil=>cases h2
    | cons z c=>
     rw [lexB] at h1 h2 ⊢;by_cases D:x=y
     ·subst D;rw [if_pos rfl] at h1;by_cases Z:x=z
      ·subst Z;rw [if_pos rfl] at h2 ⊢;exact O b c h1 h2
      ·rw [if_neg Z] at h2 ⊢;exact h2
     ·rw [if_neg D] at h1;by_cases yz:y=z
      ·subst yz;rw [if_neg D];exact h1
      ·rw [if_neg yz] at h2;have J:=h.tr x y z h1 h2;have:¬ x=z:=λ e=>by
        subst e;rw [h.irr] at J;cases J
       rw [if_neg this];exact J
 ·induction a with
  | nil=>
   intro b h1 h2;cases b with
   | nil=>rfl
   | cons y b=>cases h1
  | cons x a O=>
   intro b h1 h2;cases b with
   | nil=>cases h2
   | cons y b=>
    rw [lexB] at h1 h2;by_cases D:x=y
    ·subst D;rw [if_pos rfl] at h1 h2;rw [O b h1 h2]
    ·rw [if_neg D] at h1;rw [if_neg (Ne.symm D)] at h2;exact absurd (h.tri x y h1 h2) D
theorem qw9:STO (λ a b:Nat=>decide (a < b)):=
 ⟨λ a=>by simp,λ a b c h1 h2=>by simp at*;omega,λ a b h1 h2=>by simp at*;omega⟩
theorem qwa:STO (λ a b:Int=>decide (a < b)):=
 ⟨λ a=>by simp,λ a b c h1 h2=>by simp at*;omega,λ a b h1 h2=>by simp at*;omega⟩
theorem qnh:∀ (a b:List Nat),decide (a < b)=lexB (λ x y:Nat=>decide (x < y)) a b
 | [],[]=>rfl
 | [],_::_=>by simp [lexB]
 | _::_,[]=>by simp [lexB]
 | x::a,y::b=>by
  rw [lexB,<- qnh a b];by_cases e:x=y
  ·subst e;rw [if_pos rfl];simp
  ·rw [if_neg e];have:(x::a < y::b)↔x < y:=by
    rw [List.cons_lt_cons_iff]
    constructor
    ·rintro (h | h)
     ·exact h
     ·exact absurd h.1 e
    ·exact .inl
   simp [this]
theorem STO.uniq {lt:α ->α ->Bool} (h:STO lt):∀ {a b:List α},a.Perm b ->a.Pairwise (λ x y=>lt y x=false) ->b.Pairwise (λ x y=>lt y x=false) ->a=b
 | [],b,p,_,_=>(List.nil_perm.mp p).symm ▸ rfl
 | x::a,[],p,_,_=>by have:=p.length_eq;simp at this
 | x::a,y::b,p,pa,pb=>by
  obtain ⟨D,J⟩:=z1q.mp pa;obtain ⟨O,Z⟩:=z1q.mp pb;have e:x=y:=by
   have hx:x∈y::b:=p.mem_iff.mp (z1p ..);have hy:y∈x::a:=p.mem_iff.mpr (z1p ..);rcases z3n.mp hx with e | hx
   ·exact e
   ·rcases z3n.mp hy with e | hy
    ·exact e.symm
    ·exact h.tri x y (O x hx) (D y hy)
  subst e;rw [h.uniq (List.Perm.cons_inv p) J Z]
end
end Tim
namespace L2
open PySem PySem.Spec PyProof.Rows
abbrev Key:=Sum Int Str
def q8m:Key ->Value ->Bool
 | .inl k,v=>Value.isInt k v
 | .inr x,v=>Value.isStrOf x v
def keyH (w:World):Key ->Int
 | .inl k=>hashInt k
 | .inr x=>hashStr w x
theorem q1q:∀ {k:Key} {v:Value},q8m k v=true ->(∃ i t,k=Sum.inl i/\v=Value.int i t)\/ (∃ x t,k=Sum.inr x/\v=Value.str x t)
 | .inl i,v,h=>by
  obtain ⟨t,e⟩:=Value.isInt_shape (k:=i) (v:=v) h;exact .inl ⟨i,t,zf,e⟩
 | .inr x,v,h=>by
  obtain ⟨t,e⟩:=Value.isStrOf_shape (x:=x) (v:=v) h;exact .inr ⟨x,t,zf,e⟩
theorem qqb (i:Int) (t:Tok):q8m (.inl i) (.int i t)=true:=by simp [q8m,Value.isInt]
theorem qqc (x:Str) (t:Tok):q8m (.inr x) (.str x t)=true:=by simp [q8m,Value.isStrOf]
theorem qyn (a b:Int):decide ((Sum.inl a:Key)=Sum.inl b)=(a==b):=by
 by_cases e:a=b
 ·subst e;simp
 ·have h:¬ (Sum.inl a:Key)=Sum.inl b:=λ q=>e (Sum.inl.inj q);rw [z2w h];exact (beq_eq_false_iff_ne.mpr e).symm
theorem qyo (a b:Str):decide ((Sum.inr a:Key)=Sum.inr b)=decide (a=b):=by
 by_cases e:a=b
 ·subst e;simp
 ·have h:¬ (Sum.inr a:Key)=Sum.inr b:=λ q=>e (Sum.inr.inj q);rw [z2w h,z2w e]
theorem qyp (a:Int) (b:Str):decide ((Sum.inl a:Key)=Sum.inr b)=false:=z2w (λ q=>nomatch q)
theorem qyq (a:Str) (b:Int):decide ((Sum.inr a:Key)=Sum.inl b)=false:=z2w (λ q=>nomatch q)
def q16 (prog:Program) (w:World):PySem.KeyKind prog w Key where
 is:=q8m
 hash:=keyH w
 inj:=λ v a b ha hb=>by
  rcases q1q ha with ⟨i,t,rfl,rfl⟩ | ⟨x,t,rfl,rfl⟩
  ·rcases q1q hb with ⟨j,u,rfl,e⟩ | ⟨y,u,rfl,e⟩
   ·injection e with e1 _;rw [e1]
   ·exact nomatch e
  ·rcases q1q hb with ⟨j,u,rfl,e⟩ | ⟨y,u,rfl,e⟩
   ·exact nomatch e
   ·injection e with e1 _;rw [e1]
 byValue:=λ k v h=>by
  rcases q1q h with ⟨i,t,rfl,rfl⟩ | ⟨x,t,rfl,rfl⟩ <;> rfl
 pyHash:=λ hv h=>by
  rcases q1q hv with ⟨i,t,rfl,rfl⟩ | ⟨x,t,rfl,rfl⟩
  ·exact wpAny_pyHash_int h
  ·exact wpAny_pyHash_str h
 eqBool:=λ hu hv h=>by
  rcases q1q hu with ⟨i,t,rfl,rfl⟩ | ⟨x,t,rfl,rfl⟩
  ·rcases q1q hv with ⟨j,u,rfl,rfl⟩ | ⟨y,u,rfl,rfl⟩
   ·rw [qyn] at h;exact wpAny_eqBool_int h
   ·rw [qyp] at h;exact SeqAt.EqAt.int_str i t y u _ _ _ _ h
  ·rcases q1q hv with ⟨j,u,rfl,rfl⟩ | ⟨y,u,rfl,rfl⟩
   ·rw [qyq] at h;exact SeqAt.EqAt.str_int x t j u _ _ _ _ h
   ·rw [qyo] at h;exact wpAny_eqBool_str h
 «strs»:=λ k x t v h=>by
  rcases q1q h with ⟨i,u,rfl,e⟩ | ⟨y,u,rfl,e⟩
  ·exact nomatch e
  ·injection e with e1 _;subst e1;cases v <;> rfl
theorem qmp (prog:Program) (w:World) (i:Int) (t:Tok):(q16 prog w).is (.inl i) (.int i t)=true:=qqb i t
theorem qcv (prog:Program) (w:World) (x:Str) (t:Tok):(q16 prog w).is (.inr x) (.str x t)=true:=qqc x t
inductive V where
 | non | bl (b:Bool) | int (i:Int) | str (x:Str) | byt (b:Array UInt8) | flt (b:UInt64) | ref (a:Addr) | ty (n:String)
 deriving DecidableEq
def RelV:V ->Value ->Prop
 | .non,u=>u=Value.none
 | .bl b,u=>u=Value.bool b
 | .int i,u=>∃ t,u=Value.int i t
 | .str x,u=>∃ t,u=Value.str x t
 | .byt b,u=>∃ t,u=Value.bytes b t
 | .flt b,u=>∃ t,u=Value.float b t
 | .ref a,u=>u=Value.ref a
 | .ty n,u=>u=Value.type n
abbrev Vals:List V ->List Value ->Prop:=Paired RelV
theorem Vals.length {xs:List V} {us:List Value} (r:Vals xs us):xs.length=us.length:=Paired.length r
theorem Vals.get:∀ {xs:List V} {us:List Value} {i:Nat} {x:V},Vals xs us ->xs[i]? =some x ->∃ u,us[i]? =some u/\RelV x u
 | _,_,_,_,.nil,e=>by simp at e
 | _,_,0,_,.cons r _,e=>by simp at e;subst e;exact ⟨_,rfl,r⟩
 | _,_,i+1,x,.cons _ t,e=>by
  obtain ⟨u,h1,h2⟩:=Vals.get (i:=i) (x:=x) t (by simpa using e);exact ⟨u,by simpa using h1,h2⟩
theorem Vals.append:∀ {xs ys:List V} {us ws:List Value},Vals xs us ->Vals ys ws ->Vals (xs++ys) (us++ws)
 | _,_,_,_,.nil,s=>s
 | _,_,_,_,.cons r t,s=> .cons r (Vals.append t s)
theorem Vals.take:∀ {xs:List V} {us:List Value} (n:Nat),Vals xs us ->Vals (xs.take n) (us.take n)
 | _,_,0,_=> .nil
 | _,_,_+1,.nil=> .nil
 | _,_,n+1,.cons r t=> .cons r (Vals.take n t)
theorem Vals.drop:∀ {xs:List V} {us:List Value} (n:Nat),Vals xs us ->Vals (xs.drop n) (us.drop n)
 | _,_,0,r=>r
 | _,_,_+1,.nil=> .nil
 | _,_,n+1,.cons _ t=>Vals.drop n t
def RelO:Option V ->Option Value ->Prop
 | some v,some u=>RelV v u
 | none,none=>True
 | _,_=>False
def KV {κ:Type}:List (κ×V) ->List (κ×Value) ->Prop:=Paired λ (p:κ×V) (q:κ×Value)=>p.1=q.1/\RelV p.2 q.2
def kV:Key ->V
 | .inl i=> .int i
 | .inr x=> .str x
inductive HO where
 /-- a list -/
 | lst (xs:List V)
 /-- a tuple (never changes) -/
 | tup (xs:List V)
 /-- a dict whose keys are ints and texts;one whose keys are tuples of ints and texts (the empty one is both) -/
 | dK (kvs:List (Key×V)) | dT (kvs:List (List Key×V))
 /-- a set of ints:its members,its size -/
 | set (S:Int ->Bool) (n:Nat)
 /-- an instance of the class at C,its dict at dx,its attributes -/
 | ins (C dx:Addr) (fs:List (Str×V))
 /-- the dict of the instance at x -/
 | own (x:Addr)
 /-- the dict of an exception -/
 | xd (fs:List (Str×V))
 /-- a bound method,f of x -/
 | met (f x:Addr)
 /-- a range object lo,lo+1,.. below hi -/
 | rng (lo hi:Int)
 /-- a thing that is known to the object (the script;a dict while a loop walks it):read,never written while it is so -/
 | frz (o:Obj) (u:HO)
 /-- a code object's table -/
 | tbl (ps:Array Value)
 /-- any other thing,by what is true of its one object (a def of one's own:SetO a S n:=HO.ext λ h=> ..) -/
 | ext (φ:Heap ->Prop)
abbrev Hp:=Addr ->Option HO
def upd (H:Hp) (a:Addr) (o:HO):Hp:=λ b=>if b=a then some o else H b
theorem qb {H:Hp} {a:Addr} {o:HO}:upd H a o a=some o:=by unfold upd;rw [if_pos rfl]
theorem qh {H:Hp} {a b:Addr} {o:HO} (h:b≠a):upd H a o b=H b:=by unfold upd;rw [if_neg h]
theorem q63 {H:Hp} {a:Addr} {o u:HO}:upd (upd H a o) a u=upd H a u:=by
 funext b;unfold upd;split <;> rfl
theorem q10t {H:Hp} {a b:Addr} {o u:HO} (h:H a=some o) (h':H b=some u) (d:o≠u):a≠b:=by
 intro e;subst e;rw [h] at h';exact d (Option.some.inj h')
theorem qr {H:Hp} {a b:Addr} {o:HO} (h:H a=some o) (h':H b=none):a≠b:=by
 intro e;subst e;rw [h] at h';cases h'
section
variable (P:Program) (w:World)
def ObjOk (H:Hp) (h:Heap) (a:Addr):HO ->Prop
 | .lst xs=>xs.length<=sizeLine/\∃ (its:List Value) (n:Nat),Vals xs its/\h.get? a=some {cls:= .type "list",data:= .seq its.toArray n}
 | .tup xs=>xs.length<=sizeLine/\∃ its:List Value,Vals xs its/\IsTup h a its.toArray
 | .dK kvs=>kvs.length<=sizeLine/\(a==sysModules)=false/\∃ vs,KV kvs vs/\h.DictOf (q16 P w) a vs
 | .dT kvs=>kvs.length<=sizeLine/\(a==sysModules)=false/\∃ xs:List (List Key×Addr×Value),
   Paired (λ (p:List Key×V) (q:List Key×Addr×Value)=>p.1=q.1/\H q.2.1=some (.tup (p.1.map kV))/\RelV p.2 q.2.2) kvs xs/\
   ∃ o es ep,h.get? a=some o/\o.ExactDict/\o.data= .dict es ep/\es.toList=xs.map (entryOfKey (tupleKind (q16 P w)))/\(xs.map (·.1)).Nodup
 | .set S n=>h.SetOf (intKind P w) a S n
 | .ins C dx fs=>H dx=some (.own a)/\fs.length<=1000/\dx≠a/\h.get? a=some (PySem.W.instObj C dx)/\
   ∃ mA,h.Ns1 dx mA/\(∀ f,RelO (fs.lookup f) (mA f))/\PySem.Within mA (fs.map (·.1))
 | .own _=>∃ o,h.get? a=some o
 | .xd fs=>∃ mA,h.Ns1 a mA/\∀ f,RelO (fs.lookup f) (mA f)
 | .rng lo hi=>∃ t u v,h.get? a=some {cls:= .type "range",data:= .fields #[.int lo t,.int hi u,.int 1 v]}
 | .frz o u=>h.get? a=some o/\ObjOk H h a u
 | .tbl ps=>h.get? a=some {cls:= .none,data:= .fields ps}
 | .met f x=>h.get? a=some (PySem.W.methodObj (.ref f) (.ref x))
 | .ext φ=>φ h/\(∃ o,h.get? a=some o)/\∀ h1 h2:Heap,φ h1 ->(∀ o,h1.get? a=some o ->h2.get? a=some o) ->φ h2
def HOk (H:Hp) (h:Heap):Prop:=∀ a o,H a=some o ->ObjOk P w H h a o
end
section
variable {P:Program} {w:World} {H H':Hp} {h h':Heap} {a:Addr} {o:HO}
theorem ObjOk.lt (x:ObjOk P w H h a o):a < h.objs.size:=by
 cases o with
 | lst xs=>obtain ⟨_,_,_,_,e⟩:=x;exact z3z e
 | tup xs=>obtain ⟨_,_,_,p⟩:=x;exact p.lt
 | dK kvs=>obtain ⟨_,_,_,_,o,_,_,e,_⟩:=x;exact z3z e
 | dT kvs=>obtain ⟨_,_,_,_,o,_,_,e,_⟩:=x;exact z3z e
 | set S n=>obtain ⟨o,_,_,_,e,_⟩:=x;exact z3z e
 | ins C dx fs=>obtain ⟨_,_,_,e,_⟩:=x;exact z3z e
 | own y=>obtain ⟨_,e⟩:=x;exact z3z e
 | xd fs=>obtain ⟨_,⟨_,_,_,e,_⟩,_⟩:=x;exact z3z e
 | rng lo hi=>obtain ⟨_,_,_,e⟩:=x;exact z3z e
 | frz ob u=>obtain ⟨e,_⟩:=x;exact z3z e
 | tbl ps=>exact z3z (show h.get? a=some _ from x)
 | met f y=>exact z3z (show h.get? a=some _ from x)
 | ext φ=>obtain ⟨_,⟨_,e⟩,_⟩:=x;exact z3z e
theorem Paired.mapP {α β:Type} {F G:α ->β ->Prop}:∀ {D:List α} {J:List β},Paired F D J ->(∀ a b,F a b ->G a b) ->Paired G D J
 | _,_,.nil,_=> .nil
 | _,_,.cons r t,f=> .cons (f _ _ r) (Paired.mapP t f)
theorem ObjOk.stay (x:ObjOk P w H h a o) (k:∀ b u,(b=a\/ H b=some (.own a)) ->h.get? b=some u ->h'.get? b=some u)
  (ho:∀ b,H b=some (.own a) ->H' b=some (.own a)) (ht:∀ b xs,H b=some (.tup xs) ->H' b=some (.tup xs)):ObjOk P w H' h' a o:=by
 induction o with
 | lst xs=>obtain ⟨z,its,n,r,e⟩:=x;exact ⟨z,its,n,r,k _ _ (.inl rfl) e⟩
 | tup xs=>obtain ⟨z,its,r,D,e,c⟩:=x;exact ⟨z,its,r,D,k _ _ (.inl rfl) e,c⟩
 | dK kvs=>obtain ⟨z,y,vs,r,D,es,ep,e,c⟩:=x;exact ⟨z,y,vs,r,D,es,ep,k _ _ (.inl rfl) e,c⟩
 | dT kvs=>
  obtain ⟨z,y,xs,r,D,es,ep,e,c⟩:=x;exact ⟨z,y,xs,Paired.mapP r λ p q z=>⟨z.1,ht _ _ z.2.1,z.2.2⟩,D,es,ep,k _ _ (.inl rfl) e,c⟩
 | set S n=>obtain ⟨D,es,ep,t,e,c⟩:=x;exact ⟨D,es,ep,t,k _ _ (.inl rfl) e,c⟩
 | ins C dx fs=>
  obtain ⟨d,z,ne,e,mA,⟨J,es,ep,e2,c⟩,r⟩:=x;exact ⟨ho _ d,z,ne,k _ _ (.inl rfl) e,mA,⟨J,es,ep,k _ _ (.inr d) e2,c⟩,r⟩
 | own y=>obtain ⟨D,e⟩:=x;exact ⟨D,k _ _ (.inl rfl) e⟩
 | xd fs=>obtain ⟨mA,⟨J,es,ep,e,c⟩,r⟩:=x;exact ⟨mA,⟨J,es,ep,k _ _ (.inl rfl) e,c⟩,r⟩
 | rng lo hi=>obtain ⟨t,u,v,e⟩:=x;exact ⟨t,u,v,k _ _ (.inl rfl) e⟩
 | frz D u ih=>obtain ⟨e,q⟩:=x;exact ⟨k _ _ (.inl rfl) e,ih q⟩
 | tbl ps=>
  have e:h.get? a=some {cls:= .none,data:= .fields ps}:=x;show h'.get? a=some {cls:= .none,data:= .fields ps};exact k a _ (.inl rfl) e
 | met f y=>
  have e:h.get? a=some (PySem.W.methodObj (.ref f) (.ref y)):=x;show h'.get? a=some (PySem.W.methodObj (.ref f) (.ref y));exact k a _ (.inl rfl) e
 | ext φ=>obtain ⟨p,⟨o,e⟩,st⟩:=x;exact ⟨st _ _ p λ o q=>k _ _ (.inl rfl) q,⟨o,k _ _ (.inl rfl) e⟩,st⟩
theorem HOk.lt (x:HOk P w H h) (e:H a=some o):a < h.objs.size:=(x a o e).lt
theorem HOk.fresh (x:HOk P w H h) (e:h.objs.size<=a):H a=none:=by
 cases q:H a with
 | none=>rfl
 | some u=>exact absurd (z1r (x.lt q) e) (z3p _)
theorem HOk.kept (x:HOk P w H h) (k:∀ b u,h.get? b=some u ->h'.get? b=some u):HOk P w H h':=λ a o e=>
 (x a o e).stay (λ b u _ q=>k b u q) (λ _ q=>q) λ _ _ q=>q
theorem HOk.laid (x:HOk P w H h) (k:∀ b u,h.get? b=some u ->h'.get? b=some u) (hp:h.objs.size<=a) (new:ObjOk P w (upd H a o) h' a o):HOk P w (upd H a o) h':=λ b u e=>by
 have hn:=x.fresh hp;by_cases D:b=a
 ·subst D;rw [qb] at e;cases e;exact new
 ·rw [qh D] at e;exact (x b u e).stay (λ c v _ q=>k c v q) (λ c q=>by rw [qh (qr q hn)];exact q) λ c xs q=>by rw [qh (qr q hn)];exact q
end
def Rd (H:Hp) (a:Addr) (u:HO):Prop:=H a=some u\/ ∃ o,H a=some (.frz o u)
theorem Rd.ok {P:Program} {w:World} {H:Hp} {h:Heap} {a:Addr} {u:HO} (r:Rd H a u) (x:HOk P w H h):ObjOk P w H h a u:=by
 rcases r with r | ⟨o,r⟩
 ·exact x a u r
 ·obtain ⟨_,q⟩:=x a _ r;exact q
def Mut:Option HO ->Prop
 | some (.lst _)=>True
 | some (.dK _)=>True
 | some (.dT _)=>True
 | some (.set _ _)=>True
 | some (.ins _ _ _)=>True
 | some (.ext _)=>True
 | _=>False
section
variable {P:Program} {w:World} {H:Hp} {h h':Heap} {x e:Addr} {o':HO}
theorem HOk.write (ok:HOk P w H h) (mu:Mut (H x)) (he:e=x\/ H e=some (.own x)) (k:∀ b u,b≠e ->h.get? b=some u ->h'.get? b=some u) (a0:∃ u,h'.get? e=some u)
    (new:ObjOk P w (upd H x o') h' x o'):HOk P w (upd H x o') h':=λ b u q=>by
  have J:∀ c y,H c=some (.own y) ->c≠x:=λ c y r z=>by subst z;rw [r] at mu;exact mu
  have O:∀ c xs,H c=some (.tup xs) ->c≠x:=λ c xs r z=>by subst z;rw [r] at mu;exact mu
  by_cases Z:b=x
  · subst Z;rw [qb] at q;cases q;exact new
  · rw [qh Z] at q
    by_cases D:b=e
    · have q':H b=some (.own x):=by
        rcases he with z | z
        · exact absurd (D.trans z) Z
        · rw [D];exact z
      rw [q] at q';cases q';obtain ⟨v,hv⟩:=a0;exact ⟨v,by rw [D];exact hv⟩
    · refine (ok b u q).stay (λ c v hc r=>k c v ?_ r) (λ c r=>by rw [qh (J c b r)];exact r) λ c xs r=>by rw [qh (O c xs r)];exact r
      rcases hc with rfl | hc
      · exact D
      · rintro rfl
        rcases he with z | z
        · exact J c b hc z
        · rw [hc] at z;cases z;exact Z rfl
end
structure Un (fs ex:List Addr) (H H':Hp) (h h':Heap):Prop where
 keep:∀ b o,h.get? b=some o ->H b=none ->b∉fs ->b∉ex ->h'.get? b=some o
 slot:∀ b o,h.get? b=some o ->H b=none ->b∈fs ->b∉ex ->∃ sl,h'.get? b=some {o with slots:=sl}
 free:∀ b o,h.get? b=some o ->H b=none ->b∉ex ->H' b=none
 there:∀ b o,h.get? b=some o ->b∉ex ->∃ o',h'.get? b=some o'
 tups:∀ b xs,H b=some (.tup xs) ->H' b=some (.tup xs)
 frzs:∀ b o u,H b=some (.frz o u) ->H' b=some (.frz o u)
 tbls:∀ b ps,H b=some (.tbl ps) ->∃ more,H' b=some (.tbl (ps++more))
section
variable {fs fs' ex ex':List Addr} {H H1 H2:Hp} {h h1 h2 h':Heap} {a x e:Addr} {o:HO}
theorem Un.any (u:Un fs ex H H1 h h1) {b:Addr} {D:Obj} (q:h.get? b=some D) (n:H b=none) (hx:b∉ex):∃ sl,h1.get? b=some {D with slots:=sl}:=by
 by_cases J:b∈fs
 ·exact u.slot b D q n J hx
 ·exact ⟨D.slots,u.keep b D q n J hx⟩
theorem Un.kept (k:∀ b u,h.get? b=some u ->h'.get? b=some u):Un fs ex H H h h':=
 ⟨λ b D q _ _ _=>k b D q,λ b D q _ _ _=>⟨D.slots,k b D q⟩,λ _ _ _ n _=>n,λ b D q _=>⟨D,k b D q⟩,λ _ _ q=>q,λ _ _ _ q=>q,λ _ ps q=>⟨#[],by rw [q];simp⟩⟩
theorem Un.refl:Un fs ex H H h h:=Un.kept λ _ _ q=>q
theorem Un.laid (k:∀ b u,h.get? b=some u ->h'.get? b=some u) (hp:h.objs.size<=a) (hn:H a=none):Un fs ex H (upd H a o) h h' where
 keep:=λ b u q _ _ _=>k b u q
 slot:=λ b u q _ _ _=>⟨u.slots,k b u q⟩
 free:=λ b u q n _=>by rw [qh (z40 (z1r (z3z q) hp))];exact n
 there:=λ b u q _=>⟨u,k b u q⟩
 tups:=λ b xs q=>by rw [qh (qr q hn)];exact q
 frzs:=λ b u xs q=>by rw [qh (qr q hn)];exact q
 tbls:=λ b ps q=>⟨#[],by rw [qh (qr q hn),q];simp⟩
theorem Un.write (mu:Mut (H x)) (he:e=x\/ H e=some (.own x)) (k:∀ b u,b≠e ->h.get? b=some u ->h'.get? b=some u) (J:∃ u,h'.get? e=some u):Un fs ex H (upd H x o) h h':=by
 have hx:∀ b,H b=none ->b≠x:=λ b n z=>by subst z;rw [n] at mu;exact mu
 have O:∀ b,H b=none ->b≠e:=λ b n z=>by
  subst z;rcases he with r | r
  ·exact hx b n r
  ·rw [n] at r;cases r
 have hm:∀ b u,H b=some u ->¬ Mut (some u) ->b≠x:=λ b u q nm z=>by subst z;rw [q] at mu;exact nm mu
 refine ⟨λ b u q n _ _=>k b u (O b n) q,λ b u q n _ _=>⟨u.slots,k b u (O b n) q⟩,λ b u q n _=>by rw [qh (hx b n)];exact n,λ b u q _=> ?_,
  λ b xs q=>by rw [qh (hm b _ q λ z=>z)];exact q,λ b u xs q=>by rw [qh (hm b _ q λ z=>z)];exact q,λ b ps q=>⟨#[],by rw [qh (hm b _ q λ z=>z),q];simp⟩⟩
 by_cases D:b=e
 ·subst D;exact J
 ·exact ⟨u,k b u D q⟩
end
def trk (h:Heap) (H:Hp):List Addr:=(List.range h.objs.size).filter λ a=>(H a).isSome
def hidT (h:Heap) (H:Hp):Heap:=PySem.W.hideAll h (trk h H)
theorem qqd (h:Heap) (H:Hp):(hidT h H).objs.size=h.objs.size:=PySem.W.hideAll_size _ _
theorem qt5 {h:Heap} {H:Hp} {b:Addr} {o:Obj} (e:h.get? b=some o) (n:H b=none):(hidT h H).get? b=some o:=
 PySem.W.hideAll_get _ e λ hm=>by
  have q:(H b).isSome=true:=(z2x.mp hm).2;rw [n] at q;simp at q
theorem qwb {h:Heap} {H:Hp} {b:Addr} {o:Obj} (e:(hidT h H).get? b=some o):h.get? b=some o/\H b=none:=by
 have e':h.get? b=some o:=PySem.W.of_hideAll (trk h H) e;refine ⟨e',?_⟩;cases q:H b with
 | none=>rfl
 | some x=>
  have hm:b∈trk h H:=z2x.mpr ⟨z3d.mpr (z3z e'),by simp [q]⟩;have z:(hidT h H).get? b=none:=PySem.W.hideAll_none (trk h H) hm;rw [z] at e;cases e
structure Mod (K:PySem.W.Frag) (mg:Str ->Option Value) (base:Heap):Prop where
 kin:K.In base
 glob:base.Ns mainGlobals mg
 blt:∃ mb,base.Ns builtinsNs mb/\∀ x:Str,x≠"__name__" ->mb x=bootBuiltins x
 nolimit:base.NoLimit
structure Cx where
 prog:Program
 w:World
 K:PySem.W.Frag
 mg:Str ->Option Value
 base:Heap
 A:Around
 N:List Str
 s₀:Shared
 H₀:Hp
 env:Env
 outer:List Env
 stack:List Env
 ex:List Addr
 fn:Str ->Bool
 calm:Bool
 pn:List (Addr×Obj)
 xe:Value ->Shared ->Prop
def frs (l:List Env):List Addr:=l.filterMap (·.frame)
abbrev Cx.fs (X:Cx):List Addr:=frs X.outer
def Vis (sc:Scope) (x:Str):Prop:=sc.names.lookup x=some .local\/ sc.names.lookup x=some .cell\/ sc.names.lookup x=some .free
def Loc (sc:Scope) (x:Str):Prop:=sc.names.lookup x=some .local\/ sc.names.lookup x=some .cell
def Look (env:Env) (h:Heap) (m:Str ->Option Value) (x:Str) (u:Value):Prop:=
 (env.kindOf x=some .local/\m x=some u)\/ ((env.kindOf x=some .cell\/ env.kindOf x=some .free)/\∃ c,env.cells.lookup x=some c/\h.IsCell c (some u))
structure Cx.Ok (X:Cx):Prop where
 mod:Mod X.K X.mg X.base
 kind:X.env.scope.kind= .function
 glob:X.env.globals=mainGlobals
 blt:X.env.builtins=builtinsNs
 above:X.s₀.heap.objs.size<=X.env.locals
 inj:∀ x y c,X.env.cells.lookup x=some c ->X.env.cells.lookup y=some c ->x=y
 has:∀ x,(X.env.kindOf x=some .cell\/ X.env.kindOf x=some .free) ->∃ c,X.env.cells.lookup x=some c
 cab:∀ x c,X.fn x=true ->X.env.cells.lookup x=some c ->X.s₀.heap.objs.size<=c
 hd:X.calm=true ->X.A.handled=none
 frames:X.A.frames=some X.stack
 stk:X.stack=X.outer\/ (X.stack=X.env::X.outer/\X.env.frame=some X.env.locals)
 exf:∀ b∈X.ex,b≠X.env.locals/\∀ x c,X.env.cells.lookup x=some c ->c≠b
 bs:∀ b o,X.base.get? b=some o ->X.s₀.heap.get? b=some o/\X.H₀ b=none
 bsz:X.base.objs.size<=X.s₀.heap.objs.size
 noex:∀ b o,X.base.get? b=some o ->b∉X.ex
 exfs:∀ b∈X.ex,b∉X.fs
 funs:X.s₀.heap.FunFrames X.base X.outer
 frf:∀ b∈X.fs,X.H₀ b=none
structure Inv (X:Cx) (pins:List (Addr×Obj)) (σ:List (Option V)) (H:Hp) (s:Shared):Prop where
 ok:X.Ok
 os:s.os=X.s₀.os
 bare:AllBare s.gens
 base:Un X.fs X.ex X.H₀ H X.s₀.heap s.heap
 loc:∃ m,s.heap.Ns X.env.locals m/\∀ (i:Nat) (x:Str) (v:V),X.N[i]? =some x ->σ[i]? =some (some v) ->Vis X.env.scope x ->∃ u,RelV v u/\Look X.env s.heap m x u
 cell:∀ x c,X.env.cells.lookup x=some c ->∃ v,s.heap.IsCell c v
 free:H X.env.locals=none
 freeC:∀ x c,X.env.cells.lookup x=some c ->H c=none
 pin:∀ p∈X.pn++pins,s.heap.get? p.1=some p.2/\H p.1=none/\p.1≠X.env.locals/\p.1∉X.fs/\∀ v,p.2.data≠ .cell v
 hok:HOk X.prog X.w H s.heap
 len:σ.length=X.N.length
section
variable {X:Cx} {pins:List (Addr×Obj)} {σ:List (Option V)} {H H':Hp} {s:Shared} {h':Heap}
theorem Cx.Ok.nofr (ok:X.Ok) {b:Addr} {o:Obj} (e:X.base.get? b=some o):b∉X.fs:=λ hb=>by
 have:=(ok.funs.mem hb).1;rw [e] at this;cases this
theorem Inv.bs (I:Inv X pins σ H s):∀ b o,X.base.get? b=some o ->s.heap.get? b=some o/\H b=none:=λ b o e=>
 ⟨I.base.keep b o (I.ok.bs b o e).1 (I.ok.bs b o e).2 (I.ok.nofr e) (I.ok.noex b o e),I.base.free b o (I.ok.bs b o e).1 (I.ok.bs b o e).2 (I.ok.noex b o e)⟩
theorem Inv.bk (I:Inv X pins σ H s):∀ b o,X.base.get? b=some o ->s.heap.get? b=some o:=λ b o e=>(I.bs b o e).1
theorem Inv.mod (I:Inv X pins σ H s):Mod X.K X.mg X.base:=I.ok.mod
theorem Inv.kIn (I:Inv X pins σ H s):X.K.In s.heap:=I.ok.mod.kin.keeps I.bk
theorem Inv.lt (I:Inv X pins σ H s):X.env.locals < s.heap.objs.size:=let ⟨_,hn,_⟩:=I.loc;hn.lt
theorem Inv.sz (I:Inv X pins σ H s):X.s₀.heap.objs.size<=s.heap.objs.size:=z41 I.ok.above (z3y I.lt)
theorem Inv.nofs (I:Inv X pins σ H s) {a:Addr} (h:s.heap.objs.size<=a):a∉X.fs:=λ hb=>by
 obtain ⟨_,o,ho,_⟩:=I.ok.funs.mem hb;exact absurd (z1r (z3z ho) (z41 I.sz h)) (z3p _)
theorem Inv.cne (I:Inv X pins σ H s):∀ x c,X.env.cells.lookup x=some c ->c≠X.env.locals:=λ x c e z=>by
 obtain ⟨v,o,ho,hd⟩:=I.cell x c e;obtain ⟨m,⟨o',es,ep,J,D,_⟩,_⟩:=I.loc;rw [z,J] at ho;cases ho;rw [D] at hd;cases hd
theorem Inv.funs (I:Inv X pins σ H s):s.heap.FunFrames X.base X.outer:=by
 have all:∀ (l:List Env),(∀ b∈frs l,b∈X.fs) ->X.s₀.heap.FunFrames X.base l ->s.heap.FunFrames X.base l:=by
  intro l
  induction l with
  | nil=>intro _ _;trivial
  | cons env r ih=>
   intro O hl;obtain ⟨hk,⟨L,o,hf,hn,ho,hd⟩,hr⟩:=hl;have D:L∈X.fs:=O L (by unfold frs;rw [List.filterMap_cons,hf];exact z1p);obtain ⟨sl,e⟩:=I.base.slot L o ho (I.ok.frf L D) D λ z=>I.ok.exfs L z D;exact ⟨hk,⟨L,_,hf,hn,e,hd⟩,ih (λ b J=>O b (by unfold frs;rw [List.filterMap_cons,hf];exact z16 _ J)) hr⟩
 exact all X.outer (λ _ J=>J) I.ok.funs
theorem Inv.stack (I:Inv X pins σ H s):s.heap.FunFrames X.base X.stack:=by
 rcases I.ok.stk with e | ⟨e,hf⟩
 ·rw [e];exact I.funs
 ·rw [e];obtain ⟨m,hn,_⟩:=I.loc;refine .cons (by rw [I.ok.kind];decide) hf hn ?_ I.funs;exact Heap.get?_none_of_le (z41 I.ok.bsz I.ok.above)
theorem Inv.stkSub (I:Inv X pins σ H s):∀ b∈frs X.stack,b∈X.env.locals::X.fs:=λ b D=>by
 rcases I.ok.stk with e | ⟨e,hf⟩
 ·rw [e] at D;exact z16 _ D
 ·rw [e] at D;unfold frs at D;rw [List.filterMap_cons,hf] at D;exact D
theorem Inv.stkFree (I:Inv X pins σ H s):∀ b∈frs X.stack,H b=none:=λ b D=>by
 rcases z3n.mp (I.stkSub b D) with e | D
 ·rw [e];exact I.free
 ·obtain ⟨_,o,ho,_⟩:=I.ok.funs.mem D;exact I.base.free b o ho (I.ok.frf b D) λ z=>I.ok.exfs b z D
theorem Inv.step {g':Array GenState} {t':Nat} {d':Drawn} {ch:List Addr} (I:Inv X pins σ H s)
  (J:∀ b∈ch,(b∈X.ex\/ X.s₀.heap.objs.size<=b)/\b≠X.env.locals/\(∀ x c,X.env.cells.lookup x=some c ->c≠b)/\∀ p∈X.pn++pins,p.1≠b)
  (keep:∀ b o,b≠X.env.locals ->b∉X.fs ->b∉ch ->s.heap.get? b=some o ->H b=none ->h'.get? b=some o)
  (slot:∀ b o,b≠X.env.locals ->b∈X.fs ->b∉ch ->s.heap.get? b=some o ->H b=none ->∃ sl,h'.get? b=some {o with slots:=sl}) (free:∀ b o,b∉ch ->s.heap.get? b=some o ->H b=none ->H' b=none)
  (there:∀ b o,b∉ch ->s.heap.get? b=some o ->∃ o',h'.get? b=some o')
  (tups:∀ b xs,H b=some (.tup xs) ->H' b=some (.tup xs)) (frzs:∀ b o u,H b=some (.frz o u) ->H' b=some (.frz o u)) (tbls:∀ b ps,H b=some (.tbl ps) ->∃ more,H' b=some (.tbl (ps++more)))
  (ns:∀ m,s.heap.Ns X.env.locals m ->h'.Ns X.env.locals m) (hok:HOk X.prog X.w H' h') (hg:AllBare g'):
  Inv X pins σ H' {s with heap:=h',gens:=g',drawn:=d',toks:=t'}:=by
 have a0:∀ b o,X.s₀.heap.get? b=some o ->b≠X.env.locals:=λ b o e=>z40 (z1r (z3z e) I.ok.above);have Z:∀ b o,X.s₀.heap.get? b=some o ->b∉X.ex ->b∉ch:=λ b o e hx hb=>by
  rcases (J b hb).1 with z | z
  ·exact hx z
  ·exact absurd (z1r (z3z e) z) (z3p _)
 have D:∀ x c,X.env.cells.lookup x=some c ->∀ v,s.heap.IsCell c v ->h'.IsCell c v:=λ x c e v ⟨o,ho,hd⟩=>by
  have O:c∉ch:=λ z=>(J c z).2.2.1 x c e rfl;by_cases hc:c∈X.fs
  ·obtain ⟨sl,q⟩:=slot c o (I.cne x c e) hc O ho (I.freeC x c e);exact ⟨_,q,hd⟩
  ·exact ⟨o,keep c o (I.cne x c e) hc O ho (I.freeC x c e),hd⟩
 refine ⟨I.ok,I.os,hg,⟨λ b o e n hb hx=> ?_,λ b o e n hb hx=> ?_,λ b o e n hx=> ?_,λ b o e hx=> ?_,λ b xs e=>tups b xs (I.base.tups b xs e),λ b o xs e=>frzs b o xs (I.base.frzs b o xs e),λ b ps e=> ?_⟩,?_,λ x c e=> ?_,?_,λ x c e=> ?_,λ p hp=> ?_,hok,I.len⟩
 ·exact keep b o (a0 b o e) hb (Z b o e hx) (I.base.keep b o e n hb hx) (I.base.free b o e n hx)
 ·obtain ⟨sl,e1⟩:=I.base.slot b o e n hb hx;obtain ⟨a1,e2⟩:=slot b _ (a0 b o e) hb (Z b o e hx) e1 (I.base.free b o e n hx);exact ⟨a1,e2⟩
 ·obtain ⟨o',e1⟩:=I.base.there b o e hx;exact free b o' (Z b o e hx) e1 (I.base.free b o e n hx)
 ·obtain ⟨o',e1⟩:=I.base.there b o e hx;exact there b o' (Z b o e hx) e1
 ·obtain ⟨m1,e1⟩:=I.base.tbls b ps e;obtain ⟨m2,e2⟩:=tbls b _ e1;exact ⟨m1++m2,by rw [e2,Array.append_assoc]⟩
 ·obtain ⟨m,hn,hl⟩:=I.loc;refine ⟨m,ns m hn,λ i x v e1 e2 e3=> ?_⟩;obtain ⟨u,r,l⟩:=hl i x v e1 e2 e3;refine ⟨u,r,?_⟩;rcases l with l | ⟨k,c,e,z⟩
  ·exact .inl l
  ·exact .inr ⟨k,c,e,D x c e _ z⟩
 ·obtain ⟨v,z⟩:=I.cell x c e;exact ⟨v,D x c e v z⟩
 ·obtain ⟨m,⟨o,_,_,ho,_⟩,_⟩:=I.loc;exact free _ o (λ z=>(J _ z).2.1 rfl) ho I.free
 ·obtain ⟨v,o,ho,hd⟩:=I.cell x c e;exact free c o (λ z=>(J c z).2.2.1 x c e rfl) ho (I.freeC x c e)
 ·obtain ⟨e,n,ne,nf,d⟩:=I.pin p hp;have O:p.1∉ch:=λ z=>(J p.1 z).2.2.2 p hp rfl;exact ⟨keep p.1 p.2 ne nf O e n,free p.1 p.2 O e n,ne,nf,d⟩
theorem Inv.un {t':Nat} (I:Inv X pins σ H s) (u:Un X.fs [] H H' s.heap h') (hok:HOk X.prog X.w H' h'):Inv X pins σ H' {s with heap:=h',toks:=t'}:=by
 obtain ⟨m,⟨o,es,ep,ho,r⟩,_⟩:=id I.loc;obtain ⟨sl,hL⟩:=u.any ho I.free (by simp);exact I.step (g':=s.gens) (d':=s.drawn) (ch:=[]) (λ _ z=>nomatch z) (λ b o _ Z _ e n=>u.keep b o e n Z (by simp)) (λ b o _ Z _ e n=>u.slot b o e n Z (by simp)) (λ b o _ e n=>u.free b o e n (by simp)) (λ b o _ e=>u.there b o e (by simp)) u.tups u.frzs u.tbls (λ m' hm=>by
  obtain ⟨o',O,J,D,r'⟩:=hm;rw [ho] at D;cases D;exact ⟨_,O,J,hL,r'⟩) hok I.bare
theorem Inv.call {g':Array GenState} {t':Nat} {d':Drawn} {ch:List Addr} (I:Inv X pins σ H s) (u:Un (frs X.stack) ch H H' s.heap h') (hok:HOk X.prog X.w H' h') (hg:AllBare g')
  (J:∀ b∈ch,(b∈X.ex\/ X.s₀.heap.objs.size<=b)/\b≠X.env.locals/\(∀ x c,X.env.cells.lookup x=some c ->c≠b)/\∀ p∈X.pn++pins,p.1≠b):
  Inv X pins σ H' {s with heap:=h',gens:=g',drawn:=d',toks:=t'}:=by
 obtain ⟨m,⟨o,es,ep,ho,r⟩,_⟩:=id I.loc;obtain ⟨sl,hL⟩:=u.any ho I.free λ z=>(J _ z).2.1 rfl;exact I.step (ch:=ch) J (λ b o hL hb D e n=>u.keep b o e n (λ z=>(z3n.mp (I.stkSub b z)).elim hL hb) D) (λ b o _ _ D e n=>u.any e n D) (λ b o D e n=>u.free b o e n D) (λ b o D e=>u.there b o e D) u.tups u.frzs u.tbls (λ m' hm=>by
  obtain ⟨o',a0,Z,O,r'⟩:=hm;rw [ho] at O;cases O;exact ⟨_,a0,Z,hL,r'⟩) hok hg
theorem Inv.turned {t':Nat} {it:Addr} (I:Inv X pins σ H s) (k:∀ b o,b≠it ->s.heap.get? b=some o ->h'.get? b=some o) (hn:H it=none) (O:it≠X.env.locals)
  (h1:it∈X.ex\/ X.s₀.heap.objs.size<=it) (h2:∀ x c,X.env.cells.lookup x=some c ->c≠it) (h3:∀ p∈X.pn++pins,p.1≠it):Inv X pins σ H {s with heap:=h',toks:=t'}:=by
 have J:∀ b u,H b=some u ->b≠it:=λ b u e z=>by rw [z,hn] at e;cases e
 refine I.step (g':=s.gens) (d':=s.drawn) (ch:=[it]) (λ b hb=> ?_) (λ b o _ _ D e _=>k b o (λ z=>D (by simp [z])) e) (λ b o _ _ D e _=>⟨o.slots,k b o (λ z=>D (by simp [z])) e⟩) (λ _ _ _ _ n=>n)
  (λ b o D e=>⟨o,k b o (λ z=>D (by simp [z])) e⟩) (λ _ _ e=>e) (λ _ _ _ e=>e) (λ b ps e=>⟨#[],by rw [e];simp⟩) (λ m hm=> ?_) (λ b u e=> ?_) I.bare
 ·have e:b=it:=by simpa using hb
  subst e;exact ⟨h1,O,h2,h3⟩
 ·obtain ⟨o,es,ep,ho,r⟩:=hm;exact ⟨o,es,ep,k _ o (Ne.symm O) ho,r⟩
 ·refine (I.hok b u e).stay (λ c v D q=>k c v ?_ q) (λ _ q=>q) λ _ _ q=>q;rcases D with z | z
  ·rw [z];exact J b u e
  ·exact J c _ z
theorem Inv.tok (I:Inv X pins σ H s) (t:Nat):Inv X pins σ H {s with toks:=t}:=I.un (h':=s.heap) (t':=t) Un.refl I.hok
theorem Inv.kept {t':Nat} (I:Inv X pins σ H s) (k:∀ b u,s.heap.get? b=some u ->h'.get? b=some u):Inv X pins σ H {s with heap:=h',toks:=t'}:=I.un (Un.kept k) (I.hok.kept k)
theorem Inv.laid {a:Addr} {o:HO} {t':Nat} (I:Inv X pins σ H s) (k:∀ b u,s.heap.get? b=some u ->h'.get? b=some u) (D:s.heap.objs.size<=a) (new:ObjOk X.prog X.w (upd H a o) h' a o):
  Inv X pins σ (upd H a o) {s with heap:=h',toks:=t'}:=I.un (Un.laid k D (I.hok.fresh D)) (I.hok.laid k D new)
theorem Inv.write {x e:Addr} {o:HO} {t':Nat} (I:Inv X pins σ H s) (mu:Mut (H x)) (J:e=x\/ H e=some (.own x)) (k:∀ b u,b≠e ->s.heap.get? b=some u ->h'.get? b=some u) (D:∃ u,h'.get? e=some u)
  (new:ObjOk X.prog X.w (upd H x o) h' x o):Inv X pins σ (upd H x o) {s with heap:=h',toks:=t'}:=I.un (Un.write mu J k D) (I.hok.write mu J k D new)
theorem Inv.qni {D:List (Addr×Obj)} (I:Inv X pins σ H s) (h:∀ p∈D,s.heap.get? p.1=some p.2/\H p.1=none/\p.1≠X.env.locals/\p.1∉X.fs/\∀ v,p.2.data≠ .cell v):Inv X D σ H s:=
 ⟨I.ok,I.os,I.bare,I.base,I.loc,I.cell,I.free,I.freeC,λ p hp=>(z2u.mp hp).elim (λ z=>I.pin p (z17 _ z)) (h p),I.hok,I.len⟩
theorem qke {N:List Str} (hN:N.Nodup) {i j:Nat} {x:Str} (a:N[i]? =some x) (b:N[j]? =some x):i=j:=by
 obtain ⟨h1,e1⟩:=z07.mp a;obtain ⟨h2,e2⟩:=z07.mp b;exact (List.getElem_inj hN).mp (e1.trans e2.symm)
theorem qqe {M:Model} {A:Around} {E:Value ->Shared ->Prop} {i:Nat} {x:Str} {v:V} {u:Value} {Q:Unit ->Shared ->Prop} (I:Inv X pins σ H s) (hN:X.N.Nodup) (hi:X.N[i]? =some x) (hx:Loc X.env.scope x) (r:RelV v u)
    (h:∀ s',Inv X pins (σ.set i (some v)) H s' ->(∃ a,Heap.SameBut a s.heap s'.heap/\(a=X.env.locals\/ X.env.cells.lookup x=some a)) ->Q () s') (hf:X.fn x=true\/ X.env.scope.names.lookup x=some .local:=by first | exact .inl rfl | exact .inr rfl | assumption):wpAny M A (storeName X.env x u) Q E s:=by
  obtain ⟨m,hn,hl⟩:=id I.loc;have a3:(X.env.scope.kind== .class || (X.env.scope.kind== .module&&X.env.locals !=X.env.globals))=false:=by rw [I.ok.kind];rfl
  have a4:i < σ.length:=by rw [I.len];exact (z07.mp hi).1
  have cne:=I.cne;have J:∀ {a:Addr} {h':Heap},(∃ o,s.heap.get? a=some o/\H a=none) ->Heap.SameBut a s.heap h' ->HOk X.prog X.w H h':=λ {a h'} ha D b ob e=>by
    obtain ⟨_,_,Z⟩:=ha;refine (I.hok b ob e).stay (λ c w' O q=>(D.2 c ?_).trans q) (λ _ q=>q) λ _ _ q=>q;rintro rfl;rcases O with rfl | O
    · rw [Z] at e;cases e
    · rw [Z] at O;cases O
  rcases hx with hk | hk
  · refine wpAny_storeName_local hk hn (λ h' a7 D=> ?_) a3
    obtain ⟨oL,_,_,a8,_⟩:=id hn;refine h _ ⟨I.ok,I.os,I.bare,⟨λ b o e n hb hx=> ?_,λ b o e n hb hx=> ?_,I.base.free,λ b o e hx=> ?_,I.base.tups,I.base.frzs,I.base.tbls⟩,⟨_,a7,λ j y v' e1 e2 e3=> ?_⟩,λ y c e=> ?_,I.free,I.freeC,λ p hp=> ?_,J ⟨oL,a8,I.free⟩ D,by simpa using I.len⟩ ⟨_,D,.inl rfl⟩
    · exact (D.2 b (z40 (z1r (z3z e) I.ok.above))).trans (I.base.keep b o e n hb hx)
    · obtain ⟨sl,e1⟩:=I.base.slot b o e n hb hx
      exact ⟨sl,(D.2 b (z40 (z1r (z3z e) I.ok.above))).trans e1⟩
    · obtain ⟨o',e1⟩:=I.base.there b o e hx
      exact ⟨o',(D.2 b (z40 (z1r (z3z e) I.ok.above))).trans e1⟩
    · by_cases hj:j=i
      · subst hj
        rw [hi] at e1;cases e1;rw [List.getElem?_set_self a4] at e2;cases e2
        exact ⟨u,r,.inl ⟨hk,by simp⟩⟩
      · rw [List.getElem?_set_ne (Ne.symm hj)] at e2
        obtain ⟨u',r',q⟩:=hl j y v' e1 e2 e3;refine ⟨u',r',?_⟩;rcases q with ⟨k,e⟩ | ⟨k,c,e,z⟩
        · refine .inl ⟨k,?_⟩
          have:y≠x:=λ e=>hj (qke hN e1 (e ▸ hi));simp [this,e]
        · exact .inr ⟨k,c,e,z.sameBut D (cne y c e)⟩
    · obtain ⟨w',z⟩:=I.cell y c e
      exact ⟨w',z.sameBut D (cne y c e)⟩
    · obtain ⟨e,n,ne,nf,d⟩:=I.pin p hp
      exact ⟨(D.2 p.1 ne).trans e,n,ne,nf,d⟩
  · have a0:X.fn x=true:=by
      rcases hf with z | z
      · exact z
      · rw [z] at hk;cases hk
    obtain ⟨c,O⟩:=I.ok.has x (.inl hk);obtain ⟨w',z⟩:=I.cell x c O;refine wpAny_storeName_cell I.ok.kind hk O z (λ h' a1 D=> ?_);obtain ⟨oc,a5,a6⟩:=id z;refine h {s with heap:=h'} ⟨I.ok,I.os,I.bare,⟨λ b o e n hb hx=> ?_,λ b o e n hb hx=> ?_,I.base.free,λ b o e hx=> ?_,I.base.tups,I.base.frzs,I.base.tbls⟩,⟨m,hn.sameBut D (Ne.symm (cne x c O)),λ j y v' e1 e2 e3=> ?_⟩,λ y c' e=> ?_,I.free,I.freeC,λ p hp=> ?_,J ⟨oc,a5,I.freeC x c O⟩ D,by simpa using I.len⟩ ⟨c,D,.inr O⟩
    · exact (D.2 b (z40 (z1r (z3z e) (I.ok.cab x c a0 O)))).trans (I.base.keep b o e n hb hx)
    · obtain ⟨sl,e1⟩:=I.base.slot b o e n hb hx
      exact ⟨sl,(D.2 b (z40 (z1r (z3z e) (I.ok.cab x c a0 O)))).trans e1⟩
    · obtain ⟨o',e1⟩:=I.base.there b o e hx
      exact ⟨o',(D.2 b (z40 (z1r (z3z e) (I.ok.cab x c a0 O)))).trans e1⟩
    · by_cases hj:j=i
      · subst hj
        rw [hi] at e1;cases e1;rw [List.getElem?_set_self a4] at e2;cases e2
        exact ⟨u,r,.inr ⟨.inl hk,c,O,a1⟩⟩
      · rw [List.getElem?_set_ne (Ne.symm hj)] at e2
        obtain ⟨u',r',q⟩:=hl j y v' e1 e2 e3;refine ⟨u',r',?_⟩;rcases q with q | ⟨k,c',e,z'⟩
        · exact .inl q
        · refine .inr ⟨k,c',e,z'.sameBut D ?_⟩
          rintro rfl;exact hj (qke hN e1 (I.ok.inj _ _ _ e O ▸ hi))
    · by_cases a2:c'=c
      · subst a2;exact ⟨_,a1⟩
      · obtain ⟨w2,z2⟩:=I.cell y c' e
        exact ⟨w2,z2.sameBut D a2⟩
    · obtain ⟨e,n,ne,nf,d⟩:=I.pin p hp
      refine ⟨(D.2 p.1 ?_).trans e,n,ne,nf,d⟩;intro q;rw [q,a5] at e;have q':oc=p.2:=Option.some.inj e;exact d w' (by rw [<- q'];exact a6)
theorem qdi {M:Model} {A:Around} {E:Value ->Shared ->Prop} {i:Nat} {x:Str} {v:V} {u:Value} {Q:Unit ->Shared ->Prop} (I:Inv X pins σ H s) (hN:X.N.Nodup) (hi:X.N[i]? =some x) (hx:Loc X.env.scope x) (r:RelV v u)
  (h:∀ s',Inv X pins (σ.set i (some v)) H s' ->Q () s') (hf:X.fn x=true\/ X.env.scope.names.lookup x=some .local:=by first | exact .inl rfl | exact .inr rfl | assumption):wpAny M A (storeName X.env x u) Q E s:=
 qqe I hN hi hx r (λ s' I' _=>h s' I') hf
theorem Inv.call' {s':Shared} {ch:List Addr} (I:Inv X pins σ H s) (ho:s'.os=s.os) (u:Un (frs X.stack) ch H H' s.heap s'.heap) (hok:HOk X.prog X.w H' s'.heap) (hg:AllBare s'.gens)
  (D:∀ b∈ch,(b∈X.ex\/ X.s₀.heap.objs.size<=b)/\b≠X.env.locals/\(∀ x c,X.env.cells.lookup x=some c ->c≠b)/\∀ p∈X.pn++pins,p.1≠b):Inv X pins σ H' s':=by
 obtain ⟨h',g',d',t',o'⟩:=s';have e:o'=s.os:=ho;subst e;exact I.call (g':=g') (t':=t') (d':=d') u hok hg D
end
abbrev XK:=Value ->Option Addr ->Hp ->Prop
abbrev St:=List (Option V)
abbrev VK:=V ->Hp ->Prop
abbrev TE:=St ->Hp ->VK ->Prop
abbrev TT:=St ->Hp ->(Bool ->Hp ->Prop) ->Prop
abbrev TA:=St ->Hp ->(List V ->Hp ->Prop) ->Prop
structure Ends where
 nx:St ->Hp ->Prop
 rt:VK
 bk:St ->Hp ->Prop:=λ _ _=>False
 ct:St ->Hp ->Prop:=λ _ _=>False
abbrev TS:=Ends ->St ->Hp ->Prop
def EP (X:Cx) (pins:List (Addr×Obj)) (σ:St) (Q:VK) (u:Value) (s':Shared):Prop:=∃ v H',Inv X pins σ H' s'/\RelV v u/\Q v H'
def TP (X:Cx) (pins:List (Addr×Obj)) (σ:St) (Q:Bool ->Hp ->Prop) (b:Bool) (s':Shared):Prop:=∃ H',Inv X pins σ H' s'/\Q b H'
def AP (X:Cx) (pins:List (Addr×Obj)) (σ:St) (Q:List V ->Hp ->Prop) (us:List Value) (s':Shared):Prop:=∃ vs H',Inv X pins σ H' s'/\Vals vs us/\Q vs H'
def SP (X:Cx) (pins:List (Addr×Obj)) (D:Ends) (f:Flow) (s':Shared):Prop:=
 match f with
 | .next=>∃ σ' H',Inv X pins σ' H' s'/\D.nx σ' H'
 | .brk=>∃ σ' H',Inv X pins σ' H' s'/\D.bk σ' H'
 | .cont=>∃ σ' H',Inv X pins σ' H' s'/\D.ct σ' H'
 | .ret u=>∃ v σ' H',Inv X pins σ' H' s'/\RelV v u/\D.rt v H'
def PE (X:Cx) (e:Expr) (t:TE):Prop:=
 ∀ (pins:List (Addr×Obj)) (s:Shared) (σ:St) (H:Hp) (Q:VK),Inv X pins σ H s ->t σ H Q ->wpAny (model X.prog X.w) X.A (eval e X.env) (EP X pins σ Q) X.xe s
def PT (X:Cx) (e:Expr) (t:TT):Prop:=
 ∀ (pins:List (Addr×Obj)) (s:Shared) (σ:St) (H:Hp) (Q:Bool ->Hp ->Prop),Inv X pins σ H s ->t σ H Q ->wpAny (model X.prog X.w) X.A (isTrue e X.env (eval e X.env)) (TP X pins σ Q) X.xe s
def PW (X:Cx) (e:Expr) (t:TT):Prop:=
 ∀ (whole:Sem Value) (pins:List (Addr×Obj)) (s:Shared) (σ:St) (H:Hp) (Q:Bool ->Hp ->Prop),Inv X pins σ H s ->t σ H Q ->wpAny (model X.prog X.w) X.A (isTrue e X.env whole) (TP X pins σ Q) X.xe s
theorem PW.pt {X:Cx} {e:Expr} {t:TT} (h:PW X e t):PT X e t:=h _
def PA (X:Cx) (es:List Expr) (t:TA):Prop:=
 ∀ (pos:Pos) (pins:List (Addr×Obj)) (s:Shared) (σ:St) (H:Hp) (Q:List V ->Hp ->Prop),Inv X pins σ H s ->t σ H Q ->wpAny (model X.prog X.w) X.A (spliced (backTo pos (starEach es X.env))) (AP X pins σ Q) X.xe s
def PS (X:Cx) (st:Stmt) (t:TS):Prop:=
 ∀ (pins:List (Addr×Obj)) (s:Shared) (σ:St) (H:Hp) (D:Ends),Inv X pins σ H s ->t D σ H ->wpAny (model X.prog X.w) X.A (exec st X.env) (SP X pins D) X.xe s
def PSs (X:Cx) (st:List Stmt) (t:TS):Prop:=
 ∀ (pins:List (Addr×Obj)) (s:Shared) (σ:St) (H:Hp) (D:Ends),Inv X pins σ H s ->t D σ H ->wpAny (model X.prog X.w) X.A (execs st X.env) (SP X pins D) X.xe s
theorem thn {α:Type} {t:Sem α} {Q D:α ->Shared ->Prop} {M:Model} {A:Around} {E:Value ->Shared ->Prop} {s:Shared} (h:wpAny M A t Q E s) (hQ:∀ a s,Q a s ->D a s):wpAny M A t D E s:=z4g h hQ λ _ _ x=>x
section
variable {X:Cx}
def tVar (i:Nat):TE:=λ σ H Q=>∃ v,σ[i]? =some (some v)/\Q v H
def tC (v:V):TE:=λ _ H Q=>Q v H
theorem qyr {i:Nat} {x:Str} {pos:Pos} (hN:X.N[i]? =some x) (hv:Vis X.env.scope x) (hd:(x==("__debug__":Str))=false:=by decide) (J:(x==("__classdict__":Str))=false:=by decide):PE X (.Name x pos) (tVar i):=by
 intro pins s σ H Q I h;obtain ⟨v,e,h⟩:=h;obtain ⟨m,hn,hl⟩:=I.loc;obtain ⟨u,r,l⟩:=hl i x v hN e hv;have fin:EP X pins σ Q u s:=⟨v,H,I,r,h⟩;rcases l with ⟨hk,hm⟩ | ⟨hk,c,O,D⟩
 ·exact wpAny_Name (wpAny_loadName_local I.ok.kind hk hn hm fin) hd
 ·rcases hk with hk | hk
  ·exact wpAny_Name (wpAny_loadName_cell I.ok.kind hk O D fin) hd
  ·exact wpAny_Name (wpAny_loadName_free I.ok.kind hk O D fin J) hd
theorem qf {i j pos}:PE X (.Constant (.int i) j pos) (tC (.int i)):=λ _ _ _ H _ I h=>wpAny_Constant_int ⟨.int i,H,I.tok _,⟨_,rfl⟩,h⟩
theorem q2v {b j pos}:PE X (.Constant (.bool b) j pos) (tC (.bl b)):=λ _ _ _ H _ I h=>Constant_bool ⟨.bl b,H,I,rfl,h⟩
theorem q4t {j pos}:PE X (.Constant .none j pos) (tC .non):=λ _ _ _ H _ I h=>Constant_none ⟨.non,H,I,rfl,h⟩
theorem qys {x j pos}:PE X (.Constant (.str x) j pos) (tC (.str x)):=λ _ _ _ H _ I h=>Calls.Constant_str ⟨.str x,H,I.tok _,⟨_,rfl⟩,h⟩
def Gl (X:Cx) (x:Str):Prop:=X.env.kindOf x=some .globalImplicit
theorem q92 {E:Value ->Shared ->Prop} {pins:List (Addr×Obj)} {s:Shared} {σ:St} {H:Hp} {x:Str} {u:Value} {pos:Pos} {Q:Value ->Shared ->Prop} (I:Inv X pins σ H s) (hg:Gl X x) (hm:X.mg x=some u) (h:Q u s)
  (hd:(x==("__debug__":Str))=false:=by decide):wpAny (model X.prog X.w) X.A (eval (.Name x pos) X.env) Q E s:=
 Calls.Name_function_global I.ok.kind hg (Calls.loadGlobal_global (by rw [I.ok.glob];exact I.mod.glob.keeps I.bk) hm h) hd
theorem qb0 {E:Value ->Shared ->Prop} {pins:List (Addr×Obj)} {s:Shared} {σ:St} {H:Hp} {x:Str} {u:Value} {pos:Pos} {Q:Value ->Shared ->Prop} (I:Inv X pins σ H s) (hg:Gl X x) (hm:X.mg x=none) (hv:bootBuiltins x=some u) (h:Q u s)
  (hn:x≠"__name__":=by decide) (hd:(x==("__debug__":Str))=false:=by decide):wpAny (model X.prog X.w) X.A (eval (.Name x pos) X.env) Q E s:=by
 obtain ⟨mb,h1,h2⟩:=I.mod.blt;exact Calls.Name_function_global I.ok.kind hg (Calls.loadGlobal_builtin (by rw [I.ok.glob];exact I.mod.glob.keeps I.bk) hm (by rw [I.ok.blt];exact h1.keeps I.bk) ((h2 x hn).trans hv) h) hd
theorem qnj {x:Str} {v:V} {u:Value} {pos:Pos} (hg:Gl X x) (hm:X.mg x=some u) (r:RelV v u) (hd:(x==("__debug__":Str))=false:=by decide):PE X (.Name x pos) (tC v):=
 λ _ _ _ H _ I h=>q92 I hg hm ⟨v,H,I,r,h⟩ hd
theorem qwc {x:Str} {v:V} {u:Value} {pos:Pos} (hg:Gl X x) (hm:X.mg x=none) (hv:bootBuiltins x=some u) (r:RelV v u) (hn:x≠"__name__":=by decide) (hd:(x==("__debug__":Str))=false:=by decide):PE X (.Name x pos) (tC v):=
 λ _ _ _ H _ I h=>qb0 I hg hm hv ⟨v,H,I,r,h⟩ hn hd
variable {a b:Expr} {ta tb:TE} {pos:Pos}
def PC (X:Cx) (op:CmpOp) (a b:Expr) (t:TE):Prop:=
 ∀ (pins:List (Addr×Obj)) (s:Shared) (σ:St) (H:Hp) (Q:VK),Inv X pins σ H s ->t σ H Q ->
  wpAny (model X.prog X.w) X.A (eval a X.env) (λ v s₁=>wpAny (model X.prog X.w) X.A (eval b X.env) (λ u s₂=>wpAny (model X.prog X.w) X.A (compareOp op v u) (EP X pins σ Q) X.xe s₂) X.xe s₁) X.xe s
def tB (t:TE):TT:=λ σ H Q=>t σ H λ x H1=>∃ c,x= .bl c/\Q c H1
theorem qel {op:CmpOp} {t:TE} (h:PC X op a b t) (h1:behindInMarks op b=false:=by first | exact nobehind _ (by decide) (by decide) | rfl):PT X (.Compare a [op] [b] pos) (tB t):=by
 intro pins s σ H Q I hw;refine wpAny_isTrue_Compare1 (thn (h pins s σ H _ I hw) λ v s1 h1=>thn h1 λ u s2 h2=>thn h2 λ c s3 D=> ?_) h1;obtain ⟨x,H1,I1,r1,q1⟩:=D;obtain ⟨d,rfl,q⟩:=q1;cases r1
 exact z24 ⟨H1,I1,q⟩
theorem q3g {e:Expr} {t:TE} (h:PE X e t) (he:∀ D,isTrue e X.env D=(do let v <- D;standAt e.pos;holding [v] (truthy v)):=by intro _;rfl):PT X e (tB t):=by
 intro pins s σ H Q I hw;refine isTrue_plain (thn (h pins s σ H _ I hw) λ v s1 J=> ?_) (he _);obtain ⟨x,H1,I1,r1,q1⟩:=J;obtain ⟨d,rfl,q⟩:=q1;cases r1
 exact z24 ⟨H1,I1,q⟩
variable {tA tB':TT} {rest:List Expr}
def tAnd (t u:TT):TT:=λ σ H Q=>t σ H λ c H1=>if c=true then u σ H1 Q else Q false H1
def tOr (t u:TT):TT:=λ σ H Q=>t σ H λ c H1=>if c=true then Q true H1 else u σ H1 Q
def tNot (t:TT):TT:=λ σ H Q=>t σ H λ c H1=>Q (!c) H1
theorem qfv (ha:PT X a tA):PW X (.BoolOp .And [a] pos) tA:=by
 intro wh pins s σ H Q I h;refine isTrue_and (thn (ha pins s σ H Q I h) λ c s1 e=> ?_);cases c with
 | true=>exact isTrue_and_nil e
 | false=>exact e
theorem q7r (ha:PT X a tA):PW X (.BoolOp .Or [a] pos) tA:=by
 intro wh pins s σ H Q I h;refine isTrue_or (thn (ha pins s σ H Q I h) λ c s1 e=> ?_);cases c with
 | false=>exact isTrue_or_nil e
 | true=>exact e
theorem qkf (ha:PT X a tA) (hb:PW X (.BoolOp .And (b::rest) pos) tB'):PW X (.BoolOp .And (a::b::rest) pos) (tAnd tA tB'):=by
 intro wh pins s σ H Q I h;refine isTrue_and (thn (ha pins s σ H _ I h) λ c s1 D=> ?_);obtain ⟨H1,I1,q1⟩:=D;cases c with
 | true=>exact hb wh pins s1 σ H1 Q I1 q1
 | false=>exact ⟨H1,I1,q1⟩
theorem q9n (ha:PT X a tA) (hb:PW X (.BoolOp .Or (b::rest) pos) tB'):PW X (.BoolOp .Or (a::b::rest) pos) (tOr tA tB'):=by
 intro wh pins s σ H Q I h;refine isTrue_or (thn (ha pins s σ H _ I h) λ c s1 D=> ?_);obtain ⟨H1,I1,q1⟩:=D;cases c with
 | true=>exact ⟨H1,I1,q1⟩
 | false=>exact hb wh pins s1 σ H1 Q I1 q1
theorem q2w (ha:PT X a tA):PT X (.UnaryOp .Not a pos) (tNot tA):=by
 intro pins s σ H Q I h;exact isTrue_not (ha pins s σ H (λ c H1=>Q (!c) H1) I h)
def q10u (ta tb:TE):TE:=λ σ H Q=>ta σ H λ x H1=>∃ c,x= .bl c/\if c=true then tb σ H1 Q else Q (.bl false) H1
def tOrV (ta tb:TE):TE:=λ σ H Q=>ta σ H λ x H1=>∃ c,x= .bl c/\if c=true then Q (.bl true) H1 else tb σ H1 Q
def q10v (ta:TE):TE:=λ σ H Q=>ta σ H λ x H1=>∃ c,x= .bl c/\Q (.bl (!c)) H1
theorem q5j {op} {t:TE} (h:PE X a t):PE X (.BoolOp op [a] pos) t:=λ pins s σ H Q I hw=>BoolOp_one (h pins s σ H Q I hw)
theorem q7s (ha:PE X a ta) (hb:PE X (.BoolOp .And (b::rest) pos) tb):PE X (.BoolOp .And (a::b::rest) pos) (q10u ta tb):=by
 intro pins s σ H Q I h;refine BoolOp_and (thn (ha pins s σ H _ I h) λ v s1 D=> ?_);obtain ⟨x,H1,I1,r1,q1⟩:=D;obtain ⟨c,rfl,q1⟩:=q1;cases r1
 refine z24 ?_;cases c with
 | true=>exact hb pins s1 σ H1 Q I1 q1
 | false=>exact ⟨.bl false,H1,I1,rfl,q1⟩
theorem qvg (ha:PE X a ta) (hb:PE X (.BoolOp .Or (b::rest) pos) tb):PE X (.BoolOp .Or (a::b::rest) pos) (tOrV ta tb):=by
 intro pins s σ H Q I h;refine BoolOp_or (thn (ha pins s σ H _ I h) λ v s1 D=> ?_);obtain ⟨x,H1,I1,r1,q1⟩:=D;obtain ⟨c,rfl,q1⟩:=q1;cases r1
 refine z24 ?_;cases c with
 | false=>exact hb pins s1 σ H1 Q I1 q1
 | true=>exact ⟨.bl true,H1,I1,rfl,q1⟩
theorem qyt (ha:PE X a ta):PE X (.UnaryOp .Not a pos) (q10v ta):=by
 intro pins s σ H Q I h;refine UnaryOp_ (thn (ha pins s σ H _ I h) λ v s1 D=> ?_);obtain ⟨x,H1,I1,r1,q1⟩:=D;obtain ⟨c,rfl,q1⟩:=q1;cases r1
 exact not_of (z24 ⟨.bl (!c),H1,I1,zf,q1⟩)
end
def SqL (K:PySem.W.Frag) (H:Hp) (a:Addr) (xs:List V):Prop:=
 Rd H a (.lst xs)\/
  ∃ (o:Obj) (its:Array Value) (n:Nat),K.lookup a=some o/\o.cls= .type "list"/\o.dict=none/\o.data= .seq its n/\its.size<=sizeLine/\Vals xs its.toList
def SqT (K:PySem.W.Frag) (H:Hp) (a:Addr) (xs:List V):Prop:=
 Rd H a (.tup xs)\/
  ∃ (o:Obj) (its:Array Value) (n:Nat),K.lookup a=some o/\o.cls= .type "tuple"/\o.data= .seq its n/\its.size<=sizeLine/\Vals xs its.toList
def absV:Value ->Option V
 | .none=>some .non
 | .bool b=>some (.bl b)
 | .int i _=>some (.int i)
 | .str x _=>some (.str x)
 | .bytes b _=>some (.byt b)
 | .float b _=>some (.flt b)
 | .ref a=>some (.ref a)
 | .type n=>some (.ty n)
 | _=>none
theorem RelV.abs {x:V} {u:Value} (r:RelV x u):absV u=some x:=by
 cases x with
 | non=>cases r;rfl
 | bl _=>cases r;rfl
 | int _=>obtain ⟨t,rfl⟩:=r;rfl
 | str _=>obtain ⟨t,rfl⟩:=r;rfl
 | byt _=>obtain ⟨t,rfl⟩:=r;rfl
 | flt _=>obtain ⟨t,rfl⟩:=r;rfl
 | ref _=>cases r;rfl
 | ty _=>cases r;rfl
theorem RelV.inj {x y:V} {u:Value} (r:RelV x u) (q:RelV y u):x=y:=Option.some.inj (r.abs.symm.trans q.abs)
theorem Vals.inj:∀ {xs ys:List V} {us:List Value},Vals xs us ->Vals ys us ->xs=ys
 | _,_,_,.nil,.nil=>rfl
 | _,_,_,.cons r t,.cons r' t'=>by rw [r.inj r',Vals.inj t t']
section
variable {X:Cx} {pins:List (Addr×Obj)} {σ:St} {H:Hp} {s:Shared} {a:Addr} {xs ys:List V}
theorem SqL.of {K:PySem.W.Frag} (h:H a=some (.lst xs)):SqL K H a xs:= .inl (.inl h)
theorem SqT.of {K:PySem.W.Frag} (h:H a=some (.tup xs)):SqT K H a xs:= .inl (.inl h)
theorem Inv.list (I:Inv X pins σ H s) (h:SqL X.K H a xs):∃ its:List Value,Vals xs its/\PlainL s.heap a its.toArray/\xs.length<=sizeLine:=by
 rcases h with h | ⟨o,its,n,hk,hc,hd,hs,hz,r⟩
 ·obtain ⟨z,its,n,r,e⟩:=h.ok I.hok;exact ⟨its,r,⟨_,n,e,zf,zf,zf⟩,z⟩
 ·refine ⟨its.toList,r,⟨o,n,I.kIn a o hk,hc,hd,by simpa using hs⟩,?_⟩;have e:=r.length;simp only [z19] at e;omega
theorem Inv.tuple (I:Inv X pins σ H s) (h:SqT X.K H a xs):∃ its:List Value,Vals xs its/\IsTup s.heap a its.toArray/\xs.length<=sizeLine:=by
 rcases h with h | ⟨o,its,n,hk,hc,hs,hz,r⟩
 ·obtain ⟨z,its,r,p⟩:=h.ok I.hok;exact ⟨its,r,p,z⟩
 ·refine ⟨its.toList,r,⟨o,I.kIn a o hk,hc,n,by simpa using hs⟩,?_⟩;have e:=r.length;simp only [z19] at e;omega
theorem Inv.qt6 (I:Inv X pins σ H s) (h:SqL X.K H a xs) (h':SqL X.K H a ys):xs=ys:=by
 obtain ⟨its,r,⟨o,n,e,_,_,d⟩,_⟩:=I.list h;obtain ⟨its',r',⟨o',n',e',_,_,d'⟩,_⟩:=I.list h';rw [e] at e';cases e';rw [d] at d';injection d' with d1 _;have:its=its':=by simpa using congrArg Array.toList d1
 subst this;exact r.inj r'
theorem Inv.qqf (I:Inv X pins σ H s) (h:SqT X.K H a xs) (h':SqT X.K H a ys):xs=ys:=by
 obtain ⟨its,r,⟨o,e,_,n,d⟩,_⟩:=I.tuple h;obtain ⟨its',r',⟨o',e',_,n',d'⟩,_⟩:=I.tuple h';rw [e] at e';cases e';rw [d] at d';injection d' with d1 _;have:its=its':=by simpa using congrArg Array.toList d1
 subst this;exact r.inj r'
end
abbrev Cx.wish (X:Cx) (E:Value ->Shared ->Prop):Cx:={X with xe:=E}
abbrev Cx.nox (X:Cx):Cx:=X.wish λ _ _=>False
theorem Cx.Ok.wish {X:Cx} (ok:X.Ok) (E:Value ->Shared ->Prop):(X.wish E).Ok:=
 ⟨ok.mod,ok.kind,ok.glob,ok.blt,ok.above,ok.inj,ok.has,ok.cab,ok.hd,ok.frames,ok.stk,ok.exf,ok.bs,ok.bsz,ok.noex,ok.exfs,ok.funs,ok.frf⟩
theorem Cx.Ok.unwish {X:Cx} {E:Value ->Shared ->Prop} (ok:(X.wish E).Ok):X.Ok:=
 ⟨ok.mod,ok.kind,ok.glob,ok.blt,ok.above,ok.inj,ok.has,ok.cab,ok.hd,ok.frames,ok.stk,ok.exf,ok.bs,ok.bsz,ok.noex,ok.exfs,ok.funs,ok.frf⟩
section
variable {X:Cx} {pins:List (Addr×Obj)} {σ:St} {H:Hp} {s:Shared} {E:Value ->Shared ->Prop}
theorem Inv.wish (I:Inv X pins σ H s) (E:Value ->Shared ->Prop):Inv (X.wish E) pins σ H s:=⟨I.ok.wish E,I.os,I.bare,I.base,I.loc,I.cell,I.free,I.freeC,I.pin,I.hok,I.len⟩
theorem Inv.unwish (I:Inv (X.wish E) pins σ H s):Inv X pins σ H s:=⟨I.ok.unwish,I.os,I.bare,I.base,I.loc,I.cell,I.free,I.freeC,I.pin,I.hok,I.len⟩
theorem SP.unwish {D:Ends} {f:Flow} {s':Shared} (h:SP (X.wish E) pins D f s'):SP X pins D f s':=by
 cases f with
 | next=>obtain ⟨σ',H',I,q⟩:=h;exact ⟨σ',H',I.unwish,q⟩
 | brk=>obtain ⟨σ',H',I,q⟩:=h;exact ⟨σ',H',I.unwish,q⟩
 | cont=>obtain ⟨σ',H',I,q⟩:=h;exact ⟨σ',H',I.unwish,q⟩
 | ret u=>obtain ⟨v,σ',H',I,r,q⟩:=h;exact ⟨v,σ',H',I.unwish,r,q⟩
theorem PSs.nox {st:List Stmt} {t:TS} (h:PSs X.nox st t):PSs X st t:=λ pins s σ H D I hw=>
 z4g (h pins s σ H D (I.wish _) hw) (λ _ _ q=>q.unwish) λ _ _ z=>False.elim z
end
section
variable {X:Cx} {st:Stmt} {rest:List Stmt} {t u:TS} {e:Expr} {te:TE} {pos:Pos}
def q10w:TS:=λ D σ H=>D.nx σ H
def tSeq (t u:TS):TS:=λ D σ H=>t {D with nx:=u D} σ H
theorem q14:PSs X [] q10w:=λ _ _ σ H _ I h=>wpAny_execs_nil ⟨σ,H,I,h⟩
theorem qt (h1:PS X st t) (h2:PSs X rest u):PSs X (st::rest) (tSeq t u):=by
 intro pins s σ H D I h;refine wpAny_execs_cons (thn (h1 pins s σ H {D with nx:=u D} I h) λ f s1 q=> ?_);cases f with
 | next=>
  obtain ⟨σ',H',I',q⟩:=q;exact h2 pins s1 σ' H' D I' q
 | ret v=>exact q
 | brk=>exact q
 | cont=>exact q
theorem qg (h1:PS X st t):PSs X [st] t:=by
 intro pins s σ H D I h;refine wpAny_execs_cons (thn (h1 pins s σ H D I h) λ f s1 q=> ?_);cases f with
 | next=>exact wpAny_execs_nil q
 | ret v=>exact q
 | brk=>exact q
 | cont=>exact q
theorem Inv.quiet {pins:List (Addr×Obj)} {σ:St} {H:Hp} {s:Shared} (I:Inv X pins σ H s):interactive X.env=false:=by simp [interactive,I.ok.kind]
def q10x (te:TE):TS:=λ D σ H=>te σ H λ _ H1=>D.nx σ H1
theorem q2t (he:PE X e te) (hs:swapsWith e none pos.line X.env=pure false:=by rfl):PS X (.Expr e pos) (q10x te):=by
 intro pins s σ H D I h;exact wpAny_Expr_any (thn (he pins s σ H _ I h) λ v s1 ⟨x,H1,I1,r1,q1⟩=>⟨σ,H1,I1,q1⟩) I.quiet hs
def tRet (te:TE):TS:=λ D σ H=>te σ H D.rt
theorem qk (he:PE X e te):PS X (.Return (some e) pos) (tRet te):=by
 intro pins s σ H D I h;exact wpAny_Return_some (thn (he pins s σ H _ I h) λ v s1 ⟨x,H1,I1,r1,q1⟩=>⟨x,σ,H1,I1,r1,q1⟩)
def tIfS (c:TT) (t u:TS):TS:=λ D σ H=>c σ H λ b H1=>if b=true then t D σ H1 else u D σ H1
theorem q1c {c:Expr} {a b:List Stmt} {tc:TT} (hc:PT X c tc) (ha:PSs X a t) (hb:PSs X b u):PS X (.If c a b pos) (tIfS tc t u):=by
 intro pins s σ H D I h;refine wpAny_If (thn (hc pins s σ H _ I h) λ d O J=> ?_);obtain ⟨H1,I1,q1⟩:=J;cases d with
 | true=>exact ha pins O σ H1 D I1 q1
 | false=>exact hb pins O σ H1 D I1 q1
end
abbrev TG:=V ->St ->Hp ->(St ->Hp ->Prop) ->Prop
abbrev TGs:=List V ->St ->Hp ->(St ->Hp ->Prop) ->Prop
def PG (X:Cx) (target:Expr) (t:TG):Prop:=
 ∀ (pins:List (Addr×Obj)) (s:Shared) (σ:St) (H:Hp) (v:V) (u:Value) (Q:St ->Hp ->Prop),Inv X pins σ H s ->RelV v u ->t v σ H Q ->
  wpAny (model X.prog X.w) X.A (assign target X.env u) (λ _ s'=>∃ σ' H',Inv X pins σ' H' s'/\Q σ' H') X.xe s
def PGs (X:Cx) (ts:List Expr) (t:TGs):Prop:=
 ∀ (pins:List (Addr×Obj)) (s:Shared) (σ:St) (H:Hp) (vs:List V) (us:List Value) (Q:St ->Hp ->Prop),Inv X pins σ H s ->Vals vs us ->t vs σ H Q ->
  wpAny (model X.prog X.w) X.A (assignInOrder ((assignEach ts X.env).map (·.2)) us) (λ _ s'=>∃ σ' H',Inv X pins σ' H' s'/\Q σ' H') X.xe s
section
variable {X:Cx} {pos:Pos}
def qoq (i:Nat):TG:=λ v σ H Q=>Q (σ.set i (some v)) H
theorem qx {i:Nat} {x:Str} (hN:X.N.Nodup) (hi:X.N[i]? =some x) (hx:Loc X.env.scope x) (hf:X.fn x=true\/ X.env.scope.names.lookup x=some .local:=by first | exact .inl rfl | exact .inr rfl | assumption):PG X (.Name x pos) (qoq i):=by
 intro pins s σ H v u Q I r h;exact wpAny_assign_Name (qdi I hN hi hx r (λ s' I'=>⟨_,H,I',h⟩) hf)
def gNil:TGs:=λ vs σ H Q=>vs=[]/\Q σ H
def q10y (t:TG) (u:TGs):TGs:=λ vs σ H Q=>∃ v r,vs=v::r/\t v σ H λ σ' H'=>u r σ' H' Q
theorem q93:PGs X [] gNil:=by
 intro pins s σ H vs us Q I r h;obtain ⟨e,h⟩:=h;subst e;cases r
 exact assignInOrder_nil ⟨σ,H,I,h⟩
theorem q35 {e:Expr} {es:List Expr} {t:TG} {u:TGs} (h1:PG X e t) (h2:PGs X es u)
  (hs:(assignEach (e::es) X.env).map (·.2)=assign e X.env::(assignEach es X.env).map (·.2):=by rfl):PGs X (e::es) (q10y t u):=by
 intro pins s σ H vs us Q I r h;obtain ⟨v,vr,e1,h⟩:=h;subst e1;cases r with
 | cons r rr=>
  rw [hs];refine assignInOrder_cons (thn (h1 pins s σ H _ _ _ I r h) λ _ s1 D=> ?_);obtain ⟨σ1,H1,I1,q1⟩:=D;exact h2 pins s1 σ1 H1 _ _ Q I1 rr q1
def gTup (K:PySem.W.Frag) (n:Nat) (t:TGs):TG:=λ v σ H Q=>∃ a xs,v= .ref a/\SqT K H a xs/\xs.length=n/\t xs σ H Q
theorem qb1 {es:List Expr} {k:Nat} {t:TGs} {n:Nat} (hc:X.calm=true) (h:PGs X es t)
  (hn:(assignEach es X.env).length=n:=by rfl) (D:(assignEach es X.env).findIdx? (·.1)=none:=by rfl):PG X (.Tuple es k pos) (gTup X.K n t):=by
 intro pins s σ H v u Q I r hw;obtain ⟨a,xs,e1,hq,hl,hw⟩:=hw;subst e1;cases r
 obtain ⟨its,rv,ht,hz⟩:=I.tuple hq;refine assign_Tuple_tuple (I.ok.hd hc) ht (by simp [hn,<- hl,rv.length]) D λ h' hx=> ?_;have I1:Inv X pins σ H {s with heap:=h'}:=I.kept (t':=s.toks) λ b o e=>hx b o (z40 (z3z e)) e;exact h pins _ σ H xs _ Q I1 (by simpa using rv) hw
def tAsg (te:TE) (g:TG):TS:=λ D σ H=>te σ H λ x H1=>g x σ H1 D.nx
theorem qy {i:Nat} {x:Str} {e:Expr} {te:TE} {pos':Pos} (hN:X.N.Nodup) (hi:X.N[i]? =some x) (hx:Loc X.env.scope x) (he:PE X e te) (hs:swapsWith e (some (.Name x pos')) pos.line X.env=pure false:=by rfl) (hf:X.fn x=true\/ X.env.scope.names.lookup x=some .local:=by first | exact .inl rfl | exact .inr rfl | assumption):
  PS X (.Assign [.Name x pos'] e pos) (tAsg te (qoq i)):=by
 intro pins s σ H D I h;refine wpAny_Assign_Name (thn (he pins s σ H _ I h) λ v s1 J=> ?_) hs;obtain ⟨y,H1,I1,r1,q1⟩:=J;exact qdi I1 hN hi hx r1 (λ s2 I2=>⟨_,H1,I2,q1⟩) hf
end
section
variable {X:Cx} {pos:Pos}
def qyu (c:TT) (tb:TS):TS:=λ D σ H=>∃ W:Nat ->St ->Hp ->Prop,(∃ m,W m σ H)/\∀ m σ H,W m σ H ->
 c σ H λ b H1=>if b=true then ∃ N:St ->Hp ->Prop,(∀ σ' H',N σ' H' ->∃ m',m' < m/\W m' σ' H')/\tb {D with nx:=N,ct:=N,bk:=D.nx} σ H1 else D.nx σ H1
theorem qkg {c:Expr} {body:List Stmt} {tc:TT} {tb:TS} (hp:PassesOwn (model X.prog X.w) X.A X.env X.xe) (hc:PT X c tc) (hb:PSs X body tb):PS X (.While c body [] pos) (qyu tc tb):=by
 intro pins s σ H D I h;obtain ⟨W,⟨m0,w0⟩,turn⟩:=h;refine wpAny_While (codeAny_whileLoop (λ n s'=>∃ σ' H',Inv X pins σ' H' s'/\W n σ' H') ?_ m0 ⟨σ,H,I,w0⟩);rintro n s1 ⟨σ1,H1,I1,w1⟩;refine z2y hp (thn (hc pins s1 σ1 H1 _ I1 (turn n σ1 H1 w1)) λ b s2 a0=> ?_);obtain ⟨H2,I2,q2⟩:=a0;cases b with
 | true=>
  obtain ⟨N,hN,q2⟩:=q2;rw [if_pos rfl];refine z2y hp (thn (hb pins s2 σ1 H2 _ I2 q2) λ f s3 q3=> ?_);cases f with
  | next=>
   obtain ⟨σ3,H3,I3,O⟩:=q3;obtain ⟨J,hm,Z⟩:=hN σ3 H3 O;exact ⟨J,hm,σ3,H3,I3,Z⟩
  | cont=>
   obtain ⟨σ3,H3,I3,O⟩:=q3;obtain ⟨J,hm,Z⟩:=hN σ3 H3 O;exact ⟨J,hm,σ3,H3,I3,Z⟩
  | brk=>exact q3
  | ret v=>exact q3
 | false=>
  rw [if_neg z1l];exact wpAny_execs_nil ⟨σ1,H2,I2,q2⟩
end
structure It where
 go:Nat ->Hp ->Prop
 yld:Nat ->Hp ->V ->Hp ->Prop
 stop:Nat ->Hp ->Prop
def FpOk (X:Cx) (pins:List (Addr×Obj)) (H:Hp) (b:Addr):Prop:=
 H b=none/\b≠X.env.locals/\b∉X.fs/\(b∈X.ex\/ X.s₀.heap.objs.size<=b)/\(∀ x c,X.env.cells.lookup x=some c ->c≠b)/\∀ p∈X.pn++pins,p.1≠b
theorem Inv.fpOk {X:Cx} {pins:List (Addr×Obj)} {σ:St} {H H':Hp} {s:Shared} {b:Addr} (I:Inv X pins σ H s) (D:s.heap.objs.size<=b) (hn:H' b=none):FpOk X pins H' b:=by
 refine ⟨hn,z42 (z1r I.lt D),I.nofs D,.inr (z41 I.sz D),λ x c e z=> ?_,λ p hp z=> ?_⟩
 ·obtain ⟨v,q⟩:=I.cell x c e;exact absurd (z1r q.lt (by rw [z];exact D)) (z3p _)
 ·exact absurd (z1r (z3z (I.pin p hp).1) (by rw [z];exact D)) (z3p _)
structure Turn (P:Program) (w:World) (K:PySem.W.Frag) (tg:Expr) (J:It) (fp:List Addr) (it:Addr) (tn:Nat ->Heap ->Prop):Prop where
 mem:it∈fp
 obj:∀ i h,tn i h ->∀ b∈fp,∃ o,h.get? b=some o/\∀ v,o.data≠ .cell v
 keep:∀ i h h',tn i h ->(∀ b∈fp,∀ o,h.get? b=some o ->h'.get? b=some o) ->tn i h'
 item:∀ (X:Cx),X.prog=P ->X.w=w ->X.K=K ->X.calm=true ->∀ (i:Nat) (pins:List (Addr×Obj)) (s:Shared) (σ:St) (H:Hp) (E:Value ->Shared ->Prop),Inv X pins σ H s ->(∀ b∈fp,FpOk X pins H b) ->tn i s.heap ->J.go i H ->
  wpAny (model P w) X.A (pyNext (.ref it)) (λ r s1=>∃ u,r=some u/\
   wpAny (model P w) X.A (letOwnedTupleGo tg (.ref it) u) (λ _ s2=>∃ x H',Inv X pins σ H' s2/\RelV x u/\J.yld i H x H'/\tn (i+1) s2.heap/\∀ b∈fp,H' b=none) E s1) E s
 done:∀ (X:Cx),X.prog=P ->X.w=w ->X.K=K ->X.calm=true ->∀ (i:Nat) (pins:List (Addr×Obj)) (s:Shared) (σ:St) (H:Hp) (E:Value ->Shared ->Prop),Inv X pins σ H s ->(∀ b∈fp,FpOk X pins H b) ->tn i s.heap ->J.stop i H ->
  wpAny (model P w) X.A (pyNext (.ref it)) (λ r s1=>r=none/\Inv X pins σ H s1) E s
 self:∀ (A:Around) (i:Nat) (s:Shared) (Q:Value ->Shared ->Prop) (E:Value ->Shared ->Prop),tn i s.heap ->Q (.ref it) s ->wpAny (model P w) A (pyIter (.ref it)) Q E s
abbrev TI:=St ->Hp ->(It ->Hp ->Prop) ->Prop
def PIE (X:Cx) (pins:List (Addr×Obj)) (σ:St) (tg:Expr) (R:It ->Hp ->Prop) (itv:Value) (s2:Shared):Prop:=
 ∃ (it:Addr) (fp:List Addr) (tn:Nat ->Heap ->Prop) (J:It) (H':Hp),itv= .ref it/\Inv X pins σ H' s2/\Turn X.prog X.w X.K tg J fp it tn/\tn 0 s2.heap/\(∀ b∈fp,FpOk X pins H' b)/\R J H'
def PI (X:Cx) (tg iter:Expr) (wi:TI):Prop:=
 ∀ (pins:List (Addr×Obj)) (s:Shared) (σ:St) (H:Hp) (R:It ->Hp ->Prop),Inv X pins σ H s ->wi σ H R ->
  wpAny (model X.prog X.w) X.A (eval iter X.env) (λ v s1=>wpAny (model X.prog X.w) X.A (pyIter v) (PIE X pins σ tg R) X.xe s1) X.xe s
theorem qc9 {M:Model} {A:Around} {E:Value ->Shared ->Prop} {s:Shared} {tg:Expr} {it:Addr} {u:Value} {o:Obj} {n:String} {vs:Array Value} {Q:Unit ->Shared ->Prop} (ho:s.heap.get? it=some o) (hc:o.cls= .type n) (hd:o.data= .fields vs)
    (hn: ["enumerate","zip","dict_itemiterator","dict_reverseitemiterator","odict_iterator","itertools.zip_longest","itertools.pairwise"].contains n=false) (D:Q () s):wpAny M A (letOwnedTupleGo tg (.ref it) u) Q E s:=by
  unfold letOwnedTupleGo;cases tg <;> first
    | exact z4e D
    | (cases u <;> first
        | exact z4e D
        | (refine z4f (wpAny_load ho ?_)
           rw [hc,hd];show wpAny M A (if (["enumerate","zip","dict_itemiterator","dict_reverseitemiterator","odict_iterator","itertools.zip_longest","itertools.pairwise"].contains n&&vs[0]? ==some (rawInt _))=true then _ else _) Q E s;rw [if_neg (by intro h;rw [hn,z3e] at h;cases h)];exact z4e D))
def Itl (K:PySem.W.Frag) (a:Addr):It:=
 ⟨λ i H=>∃ xs x,SqL K H a xs/\xs[i]? =some x,λ i H x H'=>H'=H/\∀ xs,SqL K H a xs ->xs[i]? =some x,λ i H=>∃ xs,SqL K H a xs/\xs.length<=i⟩
def Itt (K:PySem.W.Frag) (a:Addr):It:=
 ⟨λ i H=>∃ xs x,SqT K H a xs/\xs[i]? =some x,λ i H x H'=>H'=H/\∀ xs,SqT K H a xs ->xs[i]? =some x,λ i H=>∃ xs,SqT K H a xs/\xs.length<=i⟩
def Itr (lo:Int) (n:Nat):It:=⟨λ i _=>i < n,λ i H x H'=>H'=H/\x= .int (lo+i),λ i _=>n<=i⟩
theorem qqg {P:Program} {w:World} {K:PySem.W.Frag} {tg:Expr} (a it:Addr):Turn P w K tg (Itl K a) [it] it (λ i h=>h.IsListIter it a i) where
 mem:=by simp
 obj:=λ i h st b D=>by
  have e:b=it:=by simpa using D
  subst e;obtain ⟨o,e,c,d⟩:=st;exact ⟨o,e,λ v z=>by rw [d] at z;cases z⟩
 keep:=λ i h h' st k=>st.at λ o e=>k it (by simp) o e
 item:=by
  intro X hP hw hK hc i pins s σ H E I hf st hg;subst hP hw hK;obtain ⟨xs,x,hq,hx⟩:=hg;obtain ⟨its,rv,p,hz⟩:=I.list hq;obtain ⟨u,hu,ru⟩:=rv.get hx;obtain ⟨O,Z,f2,f3,f4,f5⟩:=hf it (by simp);refine wpAny_pyNext_list_item st p.isList (x:=u) (by simpa using hu) λ h' J sb=> ?_;have I1:Inv X pins σ H {s with heap:=h'}:=I.turned (t':=s.toks) (λ b o D e=>(sb.2 b D).trans e) O Z f3 f4 f5;obtain ⟨o,e,c,d⟩:=id J;exact ⟨u,rfl,qc9 (s:={s with heap:=h'}) e c d (by decide) ⟨x,H,I1,ru,⟨rfl,λ ys hy=>by rw [I.qt6 hy hq];exact hx⟩,J,λ b D=>(hf b D).1⟩⟩
 done:=by
  intro X hP hw hK hc i pins s σ H E I hf st hg;subst hP hw hK;obtain ⟨xs,hq,hx⟩:=hg;obtain ⟨its,rv,p,hz⟩:=I.list hq;obtain ⟨O,Z,f2,f3,f4,f5⟩:=hf it (by simp);have hl:=rv.length;exact wpAny_pyNext_list_end (I.ok.hd hc) st p.isList (by simp;omega) λ h' eb=>⟨rfl,I.turned (t':=s.toks) (λ b o D e=>eb b o D e) O Z f3 f4 f5⟩
 self:=λ _ _ _ _ _ st h=>wpAny_pyIter_listiter st h
theorem qor {P:Program} {w:World} {K:PySem.W.Frag} {tg:Expr} (a it:Addr):Turn P w K tg (Itt K a) [it] it (λ i h=>h.IsTupleIter it a i) where
 mem:=by simp
 obj:=λ i h st b D=>by
  have e:b=it:=by simpa using D
  subst e;obtain ⟨o,e,c,d⟩:=st;exact ⟨o,e,λ v z=>by rw [d] at z;cases z⟩
 keep:=λ i h h' st k=>st.at λ o e=>k it (by simp) o e
 item:=by
  intro X hP hw hK hc i pins s σ H E I hf st hg;subst hP hw hK;obtain ⟨xs,x,hq,hx⟩:=hg;obtain ⟨its,rv,p,hz⟩:=I.tuple hq;obtain ⟨u,hu,ru⟩:=rv.get hx;obtain ⟨O,Z,f2,f3,f4,f5⟩:=hf it (by simp);refine wpAny_pyNext_tuple_item st (show s.heap.IsTuple a its.toArray from p) (x:=u) (by simpa using hu) λ h' J sb=> ?_;have I1:Inv X pins σ H {s with heap:=h'}:=I.turned (t':=s.toks) (λ b o D e=>(sb.2 b D).trans e) O Z f3 f4 f5;obtain ⟨o,e,c,d⟩:=id J;exact ⟨u,rfl,qc9 (s:={s with heap:=h'}) e c d (by decide) ⟨x,H,I1,ru,⟨rfl,λ ys hy=>by rw [I.qqf hy hq];exact hx⟩,J,λ b D=>(hf b D).1⟩⟩
 done:=by
  intro X hP hw hK hc i pins s σ H E I hf st hg;subst hP hw hK;obtain ⟨xs,hq,hx⟩:=hg;obtain ⟨its,rv,p,hz⟩:=I.tuple hq;obtain ⟨O,Z,f2,f3,f4,f5⟩:=hf it (by simp);have hl:=rv.length;exact wpAny_pyNext_tuple_end (I.ok.hd hc) st (show s.heap.IsTuple a its.toArray from p) (by simp;omega) λ h' eb=>⟨rfl,I.turned (t':=s.toks) (λ b o D e=>eb b o D e) O Z f3 f4 f5⟩
 self:=λ _ _ _ _ _ st h=>wpAny_pyIter_tupleiter st h
theorem qos {P:Program} {w:World} {K:PySem.W.Frag} {tg:Expr} (it:Addr) (lo:Int) (n:Nat):Turn P w K tg (Itr lo n) [it] it (λ i h=>IsRangeIter h it (lo+(i:Nat)*1) ((n:Int) - (i:Nat)) 1) where
 mem:=by simp
 obj:=λ i h st b D=>by
  have e:b=it:=by simpa using D
  subst e;exact ⟨_,st,λ v z=>by
   have z':Data.fields _=Data.cell v:=z;cases z'⟩
 keep:=λ i h h' st k=>k it (by simp) _ st
 item:=by
  intro X hP hw hK hc i pins s σ H E I hf st hg;subst hP hw hK;obtain ⟨O,Z,f2,f3,f4,f5⟩:=hf it (by simp);have W:=Walks.range (prog:=X.prog) (w:=X.w) (I.ok.hd hc) it lo 1 n;refine W.item i s _ _ hg st λ v h' tk hv J kk=> ?_;obtain ⟨t,rfl⟩:=hv;have I1:Inv X pins σ H {s with heap:=h',toks:=tk}:=I.turned (λ b o D e=>kk b o (by simpa using D) e) O Z f3 f4 f5;refine ⟨_,rfl,qc9 (s:={s with heap:=h',toks:=tk}) (n:="range_iterator") J rfl rfl (by decide) ⟨.int (lo+i),H,I1,⟨t,?_⟩,⟨rfl,rfl⟩,J,λ b D=>(hf b D).1⟩⟩;rw [Int.mul_one]
 done:=by
  intro X hP hw hK hc i pins s σ H E I hf st hg;subst hP hw hK;obtain ⟨O,Z,f2,f3,f4,f5⟩:=hf it (by simp);exact wpAny_pyNext_range_end (I.ok.hd hc) st (by have:n<=i:=hg;omega) λ h' eb=>⟨rfl,I.turned (t':=s.toks) (λ b o D e=>eb b o D e) O Z f3 f4 f5⟩
 self:=λ _ _ _ _ _ st h=>wpAny_pyIter_rangeiter st h
section
variable {X:Cx} {tg:Expr}
def qvh (K:PySem.W.Frag) (tl:TE):TI:=λ σ H R=>tl σ H λ x H1=>∃ a,x= .ref a/\(∃ xs,SqL K H1 a xs)/\R (Itl K a) H1
def iTup (K:PySem.W.Frag) (tl:TE):TI:=λ σ H R=>tl σ H λ x H1=>∃ a,x= .ref a/\(∃ xs,SqT K H1 a xs)/\R (Itt K a) H1
theorem qwd {l:Expr} {tl:TE} (hl:PE X l tl):PI X tg l (qvh X.K tl):=by
 intro pins s σ H R I h;refine thn (hl pins s σ H _ I h) λ v D J=> ?_;obtain ⟨x,H1,I1,r1,q1⟩:=J;obtain ⟨a,e,⟨xs,hq⟩,q⟩:=q1;subst e;cases r1
 obtain ⟨its,rv,p,hz⟩:=I1.list hq;refine z25 p.isList ?_;refine ⟨D.heap.objs.size,[D.heap.objs.size],_,_,H1,zf,I1.kept (t':=D.toks) λ b o e=>z0o _ e,qqg a _,⟨_,z1c _ rfl,zf,zf⟩,λ b hb=> ?_,q⟩;have e:b=D.heap.objs.size:=by simpa using hb
 subst e;exact I1.fpOk (z48 _) (I1.hok.fresh (z48 _))
theorem qyv {l:Expr} {tl:TE} (hl:PE X l tl):PI X tg l (iTup X.K tl):=by
 intro pins s σ H R I h;refine thn (hl pins s σ H _ I h) λ v D J=> ?_;obtain ⟨x,H1,I1,r1,q1⟩:=J;obtain ⟨a,e,⟨xs,hq⟩,q⟩:=q1;subst e;cases r1
 obtain ⟨its,rv,p,hz⟩:=I1.tuple hq;refine wpAny_pyIter_tuple (show D.heap.IsTuple a its.toArray from p) ?_;refine ⟨D.heap.objs.size,[D.heap.objs.size],_,_,H1,zf,I1.kept (t':=D.toks) λ b o e=>z0o _ e,qor a _,⟨_,z1c _ rfl,zf,zf⟩,λ b hb=> ?_,q⟩;have e:b=D.heap.objs.size:=by simpa using hb
 subst e;exact I1.fpOk (z48 _) (I1.hok.fresh (z48 _))
theorem qt7 {pins:List (Addr×Obj)} {σ:St} {H:Hp} {s:Shared} {R:It ->Hp ->Prop} {E:Value ->Shared ->Prop} {lo hi:Int} {t u v:Tok} {tk:Nat} (I:Inv X pins σ H s) (h1: -(2^62)<=lo) (h2:lo < 2^62) (h3: -(2^62)<=hi) (h4:hi < 2^62)
  (q:R (Itr lo (hi - lo).toNat) H):wpAny (model X.prog X.w) X.A (pyIter (.ref s.heap.objs.size)) (PIE X pins σ tg R) E {s with heap:=s.heap.push {cls:= .type "range",data:= .fields #[.int lo t,.int hi u,.int 1 v]},toks:=tk}:=by
 refine wpAny_pyIter_range (IsRange.new ..) (small_one h1 h2 h3 h4) ?_;have I1:Inv X pins σ H {s with heap:=s.heap.push {cls:= .type "range",data:= .fields #[.int lo t,.int hi u,.int 1 v]},toks:=tk}:=I.kept λ b o e=>z0o _ e;refine ⟨(s.heap.push {cls:= .type "range",data:= .fields #[.int lo t,.int hi u,.int 1 v]}).objs.size,[(s.heap.push {cls:= .type "range",data:= .fields #[.int lo t,.int hi u,.int 1 v]}).objs.size],_,_,H,zf,
  I1.kept (t':=tk) λ b o e=>z0o _ e,qos _ lo (hi - lo).toNat,?_,λ b hb=> ?_,q⟩
 ·have e1:lo+((0:Nat):Int)*1=lo:=by simp
  have e2:(((hi - lo).toNat:Nat):Int) - ((0:Nat):Int)=Builtin.Range.rangeSize lo hi 1:=by rw [rangeSize_one];split <;> omega
  show IsRangeIter _ _ (lo+((0:Nat):Int)*1) ((((hi - lo).toNat:Nat):Int) - ((0:Nat):Int)) 1;rw [e1,e2];exact z1c _ rfl
 ·have e:b=(s.heap.push {cls:= .type "range",data:= .fields #[.int lo t,.int hi u,.int 1 v]}).objs.size:=by simpa using hb
  subst e;exact I1.fpOk (z48 _) (I1.hok.fresh (z48 _))
def q10z (ta:TA):TI:=λ σ H R=>ta σ H λ vs H1=>∃ j:Int,vs=[.int j]/\ -(2^62)<=j/\j < 2^62/\R (Itr 0 j.toNat) H1
theorem q8n {a:Expr} {ta:TA} {p pos:Pos} (hg:Gl X "range") (hm:X.mg "range"=none) (ha:PA X [a] ta) (hs:starEach [a] X.env=[(false,eval a X.env)]:=by rfl):PI X tg (.Call (.Name "range" p) [a] [] pos) (q10z ta):=by
 intro pins s σ H R I h;refine Call_ (qb0 I hg hm boot_range (z03 (thn (ha pos pins s σ H _ I h) λ us s1 D=> ?_) hs rfl));obtain ⟨vs,H1,I1,r1,q1⟩:=D;obtain ⟨j,e,q1,q2,q⟩:=q1;subst e;cases r1 with
 | cons r rr=>
  cases rr
  obtain ⟨t,rfl⟩:=r;exact call_range_1 (qt7 I1 (by omega) (by omega) q1 q2 (by simpa using q))
def tFor (wi:TI) (g:TG) (tb:TS):TS:=λ D σ H=>wi σ H λ J H1=>∃ W:Nat ->Nat ->St ->Hp ->Prop,(∃ m,W 0 m σ H1)/\∀ i m σ H,W i m σ H ->
 (J.stop i H/\D.nx σ H)\/ (J.go i H/\∃ N:St ->Hp ->Prop,(∀ σ' H',N σ' H' ->∃ m',m' < m/\W (i+1) m' σ' H')/\∀ x H',J.yld i H x H' ->g x σ H' λ σ2 H2=>tb {D with nx:=N,ct:=N,bk:=D.nx} σ2 H2)
def qb2 (fp:List Addr) (h:Heap):List (Addr×Obj):=fp.filterMap λ b=>(h.get? b).map λ o=>(b,o)
theorem q5k {fp:List Addr} {h:Heap} {b:Addr} {o:Obj} (hb:b∈fp) (e:h.get? b=some o):(b,o)∈qb2 fp h:=List.mem_filterMap.mpr ⟨b,hb,by rw [e];rfl⟩
theorem qqh {fp:List Addr} {h:Heap} {p:Addr×Obj} (hp:p∈qb2 fp h):p.1∈fp/\h.get? p.1=some p.2:=by
 obtain ⟨b,hb,e⟩:=List.mem_filterMap.mp hp;cases q:h.get? b with
 | none=>rw [q] at e;cases e
 | some o=>
  rw [q] at e;have e':(b,o)=p:=Option.some.inj e;subst e';exact ⟨hb,q⟩
theorem Inv.pinned {pins:List (Addr×Obj)} {σ:St} {H:Hp} {s:Shared} {fp:List Addr} (I:Inv X pins σ H s) (hf:∀ b∈fp,FpOk X pins H b) (ho:∀ b∈fp,∃ o,s.heap.get? b=some o/\∀ v,o.data≠ .cell v):Inv X (pins++qb2 fp s.heap) σ H s:=
 I.qni λ p hp=>(z2u.mp hp).elim (λ z=>I.pin p (z0w _ z)) λ z=>by
  obtain ⟨D,e⟩:=qqh z;obtain ⟨f0,f1,f2,_⟩:=hf p.1 D;obtain ⟨o,e',d⟩:=ho p.1 D;rw [e] at e';cases e';exact ⟨e,f0,f1,f2,d⟩
theorem Inv.unpinned {pins pl:List (Addr×Obj)} {σ:St} {H:Hp} {s:Shared} (I:Inv X (pins++pl) σ H s):Inv X pins σ H s:=I.qni λ p hp=>I.pin p (z0w _ (z17 _ hp))
theorem q1m {iter:Expr} {body:List Stmt} {wi:TI} {g:TG} {tb:TS} {pos:Pos} (hp:PassesOwn (model X.prog X.w) X.A X.env X.xe) (hc:X.calm=true) (hi:PI X tg iter wi) (hg:PG X tg g) (hb:PSs X body tb)
  (hs:∀ x,foldedSetIterable iter X.env x=pure x:=by intro _;rfl):PS X (.For tg iter body [] pos) (tFor wi g tb):=by
 intro pins s σ H D I h;refine wpAny_For (thn (hi pins s σ H _ I h) λ v s1 h1=>thn h1 λ itv s2 h2=> ?_) hs;obtain ⟨it,fp,tn,J,H2,e,I2,T,a6,f2,W,⟨m0,w0⟩,turn⟩:=h2;subst e;have a0:∀ {H':Hp},(∀ b∈fp,H' b=none) ->∀ b∈fp,FpOk X pins H' b:=λ hn b hb=>⟨hn b hb,(f2 b hb).2⟩;refine codeAny_forLoop_any (λ n s'=>∃ i σ' H',Inv X pins σ' H' s'/\tn i s'.heap/\(∀ b∈fp,H' b=none)/\W i n σ' H') ?_ m0 ⟨0,σ,H2,I2,a6,λ b hb=>(f2 b hb).1,w0⟩;rintro n s3 ⟨i,σ3,H3,I3,a3,a2,w3⟩;rcases turn i n σ3 H3 w3 with ⟨stop,qn⟩ | ⟨go,N,hN,step⟩
 ·refine z2y hp (thn (T.done X rfl rfl rfl hc i pins s3 σ3 H3 X.xe I3 (a0 a2) a3 stop) λ r s4 O=> ?_);obtain ⟨hr,I4⟩:=O;subst hr;exact wpAny_execs_nil ⟨σ3,H3,I4,qn⟩
 ·refine z2y hp (thn (T.item X rfl rfl rfl hc i pins s3 σ3 H3 X.xe I3 (a0 a2) a3 go) λ r s4 O=> ?_);obtain ⟨u,hr,h4⟩:=O;subst hr;refine z2y hp (thn h4 λ _ s5 O=> ?_);obtain ⟨x,H5,I5,r5,y5,a1,a5⟩:=O;have a4:=I5.pinned (a0 a5) (T.obj _ _ a1);refine z2y hp (thn (hg _ s5 σ3 H5 x u _ a4 r5 (step x H5 y5)) λ _ s6 O=> ?_);obtain ⟨σ6,H6,I6,q6⟩:=O;refine z2y hp (thn (hb _ s6 σ6 H6 _ I6 q6) λ f s7 q7=> ?_);have again:∀ {σ7:St} {Z:Hp},Inv X (pins++qb2 fp s5.heap) σ7 Z s7 ->N σ7 Z ->∃ m,m < n/\∃ i σ' H',Inv X pins σ' H' s7/\tn i s7.heap/\(∀ b∈fp,H' b=none)/\W i m σ' H':=λ {σ7 Z} I7 n7=>by
   obtain ⟨m',hm,w7⟩:=hN σ7 Z n7;refine ⟨m',hm,i+1,σ7,Z,I7.unpinned,T.keep _ _ _ a1 λ b hb o e=>(I7.pin (b,o) (z0w _ (z0w _ (q5k hb e)))).1,λ b hb=> ?_,w7⟩;obtain ⟨o,e,d⟩:=T.obj _ _ a1 b hb;exact (I7.pin (b,o) (z0w _ (z0w _ (q5k hb e)))).2.1
  cases f with
  | next=>obtain ⟨σ7,Z,I7,n7⟩:=q7;exact again I7 n7
  | cont=>obtain ⟨σ7,Z,I7,n7⟩:=q7;exact again I7 n7
  | brk=>obtain ⟨σ7,Z,I7,q7⟩:=q7;exact ⟨σ7,Z,I7.unpinned,q7⟩
  | ret v=>obtain ⟨x7,σ7,Z,I7,r7,q7⟩:=q7;exact ⟨x7,σ7,Z,I7.unpinned,r7,q7⟩
end
theorem q26 {K:PySem.W.Frag} {a:Addr} {xs:List V} {g:TG} {tb:TS} {D:Ends} {σ:St} {H:Hp} (Pv:Nat ->St ->Hp ->Prop) (h0:Pv 0 σ H) (hl:∀ i σ H,i<=xs.length ->Pv i σ H ->SqL K H a xs)
  (hs:∀ i x σ H,xs[i]? =some x ->Pv i σ H ->g x σ H λ σ2 H2=>tb {D with nx:=Pv (i+1),ct:=Pv (i+1),bk:=D.nx} σ2 H2) (hd:∀ σ H,Pv xs.length σ H ->D.nx σ H):
  ∃ W:Nat ->Nat ->St ->Hp ->Prop,(∃ m,W 0 m σ H)/\∀ i m σ H,W i m σ H ->
   ((Itl K a).stop i H/\D.nx σ H)\/ ((Itl K a).go i H/\∃ N:St ->Hp ->Prop,(∀ σ' H',N σ' H' ->∃ O,O < m/\W (i+1) O σ' H')/\∀ x H',(Itl K a).yld i H x H' ->g x σ H' λ σ2 H2=>tb {D with nx:=N,ct:=N,bk:=D.nx} σ2 H2):=by
 refine ⟨λ i m σ H=>m=xs.length - i/\i<=xs.length/\Pv i σ H,⟨xs.length,by simp,z4b _,h0⟩,?_⟩;rintro i m σ H ⟨rfl,hi,p⟩;have q:=hl i σ H hi p;by_cases J:i < xs.length
 ·refine .inr ⟨⟨xs,xs[i],q,by simp [J]⟩,Pv (i+1),λ σ' H' p'=>⟨xs.length - (i+1),by omega,zf,J,p'⟩,λ x H' y=> ?_⟩;obtain ⟨e,y⟩:=y;subst e;exact hs i x σ _ (y xs q) p
 ·have e:i=xs.length:=by omega
  subst e;exact .inl ⟨⟨xs,q,z48 _⟩,hd σ H p⟩
theorem qca {K:PySem.W.Frag} {a:Addr} {xs:List V} {g:TG} {tb:TS} {D:Ends} {σ:St} {H:Hp} (Pv:Nat ->St ->Hp ->Prop) (h0:Pv 0 σ H) (hl:∀ i σ H,i<=xs.length ->Pv i σ H ->SqT K H a xs)
  (hs:∀ i x σ H,xs[i]? =some x ->Pv i σ H ->g x σ H λ σ2 H2=>tb {D with nx:=Pv (i+1),ct:=Pv (i+1),bk:=D.nx} σ2 H2) (hd:∀ σ H,Pv xs.length σ H ->D.nx σ H):
  ∃ W:Nat ->Nat ->St ->Hp ->Prop,(∃ m,W 0 m σ H)/\∀ i m σ H,W i m σ H ->
   ((Itt K a).stop i H/\D.nx σ H)\/ ((Itt K a).go i H/\∃ N:St ->Hp ->Prop,(∀ σ' H',N σ' H' ->∃ O,O < m/\W (i+1) O σ' H')/\∀ x H',(Itt K a).yld i H x H' ->g x σ H' λ σ2 H2=>tb {D with nx:=N,ct:=N,bk:=D.nx} σ2 H2):=by
 refine ⟨λ i m σ H=>m=xs.length - i/\i<=xs.length/\Pv i σ H,⟨xs.length,by simp,z4b _,h0⟩,?_⟩;rintro i m σ H ⟨rfl,hi,p⟩;have q:=hl i σ H hi p;by_cases J:i < xs.length
 ·refine .inr ⟨⟨xs,xs[i],q,by simp [J]⟩,Pv (i+1),λ σ' H' p'=>⟨xs.length - (i+1),by omega,zf,J,p'⟩,λ x H' y=> ?_⟩;obtain ⟨e,y⟩:=y;subst e;exact hs i x σ _ (y xs q) p
 ·have e:i=xs.length:=by omega
  subst e;exact .inl ⟨⟨xs,q,z48 _⟩,hd σ H p⟩
theorem qb3 {lo:Int} {n:Nat} {g:TG} {tb:TS} {D:Ends} {σ:St} {H:Hp} (Pv:Nat ->St ->Hp ->Prop) (h0:Pv 0 σ H)
  (hs:∀ i σ H,i < n ->Pv i σ H ->g (.int (lo+i)) σ H λ σ2 H2=>tb {D with nx:=Pv (i+1),ct:=Pv (i+1),bk:=D.nx} σ2 H2) (hd:∀ σ H,Pv n σ H ->D.nx σ H):
  ∃ W:Nat ->Nat ->St ->Hp ->Prop,(∃ m,W 0 m σ H)/\∀ i m σ H,W i m σ H ->
   ((Itr lo n).stop i H/\D.nx σ H)\/ ((Itr lo n).go i H/\∃ N:St ->Hp ->Prop,(∀ σ' H',N σ' H' ->∃ O,O < m/\W (i+1) O σ' H')/\∀ x H',(Itr lo n).yld i H x H' ->g x σ H' λ σ2 H2=>tb {D with nx:=N,ct:=N,bk:=D.nx} σ2 H2):=by
 refine ⟨λ i m σ H=>m=n - i/\i<=n/\Pv i σ H,⟨n,by simp,z4b _,h0⟩,?_⟩;rintro i m σ H ⟨rfl,hi,p⟩;by_cases J:i < n
 ·refine .inr ⟨J,Pv (i+1),λ σ' H' p'=>⟨n - (i+1),by omega,zf,J,p'⟩,λ x H' y=> ?_⟩;obtain ⟨e,y⟩:=y;subst e y;exact hs i σ _ J p
 ·have e:i=n:=by omega
  subst e;exact .inl ⟨z48 _,hd σ H p⟩
abbrev R2:=V ->V ->Hp ->VK ->Prop
def OpR (X:Cx) (f:Value ->Value ->Sem Value) (r:R2):Prop:=
 ∀ (pins:List (Addr×Obj)) (s:Shared) (σ:St) (H:Hp) (x y:V) (v u:Value) (Q:VK),Inv X pins σ H s ->RelV x v ->RelV y u ->r x y H Q ->
  wpAny (model X.prog X.w) X.A (f v u) (EP X pins σ Q) X.xe s
def q24 (X:Cx) (f:Value) (r:List V ->Hp ->VK ->Prop):Prop:=
 ∀ (pins:List (Addr×Obj)) (s:Shared) (σ:St) (H:Hp) (xs:List V) (us:List Value) (Q:VK),Inv X pins σ H s ->Vals xs us ->r xs H Q ->
  wpAny (model X.prog X.w) X.A (call f us) (EP X pins σ Q) X.xe s
def tOp (r:R2) (ta tb:TE):TE:=λ σ H Q=>ta σ H λ x H1=>tb σ H1 λ y H2=>r x y H2 Q
def rI (C:Int ->Int ->Prop) (g:Int ->Int ->V):R2:=λ x y H Q=>∃ i j,x= .int i/\y= .int j/\C i j/\Q (g i j) H
def rI0 (g:Int ->Int ->V):R2:=λ x y H Q=>∃ i j,x= .int i/\y= .int j/\Q (g i j) H
section
variable {X:Cx} {a b c:Expr} {ta tb tc:TE} {pos:Pos}
theorem binT (ha:PE X a ta) (hb:PE X b tb) {pins:List (Addr×Obj)} {s:Shared} {σ:St} {H:Hp} {R:V ->V ->Hp ->Prop} (I:Inv X pins σ H s)
  (h:ta σ H λ x H1=>tb σ H1 λ y H2=>R x y H2) {Q:Value ->Shared ->Prop} {f:Value ->Value ->Sem Value}
  (hf:∀ v u J x y H2,Inv X pins σ H2 J ->RelV x v ->RelV y u ->R x y H2 ->wpAny (model X.prog X.w) X.A (f v u) Q X.xe J):
  wpAny (model X.prog X.w) X.A (eval a X.env) (λ v s₁=>wpAny (model X.prog X.w) X.A (eval b X.env) (λ u s₂=>wpAny (model X.prog X.w) X.A (f v u) Q X.xe s₂) X.xe s₁) X.xe s:=by
 refine thn (ha pins s σ H _ I h) λ v s1 D=> ?_;obtain ⟨x,H1,I1,r1,q1⟩:=D;refine thn (hb pins s1 σ H1 _ I1 q1) λ u J D=> ?_;obtain ⟨y,H2,I2,r2,q2⟩:=D;exact hf v u J x y H2 I2 r1 r2 q2
theorem qm {op:Operator} {r:R2} (ho:OpR X (binaryOp op) r) (ha:PE X a ta) (hb:PE X b tb):PE X (.BinOp a op b pos) (tOp r ta tb):=by
 intro pins s σ H Q I h;exact wpAny_BinOp (binT ha hb I h λ v u s2 x y H2 I2 rx ry q=>ho pins s2 σ H2 x y v u Q I2 rx ry q)
theorem opI {f:Value ->Value ->Sem Value} {C:Int ->Int ->Prop} {g:Int ->Int ->Int}
  (rule:∀ (i j:Int) (t u:Tok) (s:Shared) (Q:Value ->Shared ->Prop) (E:Value ->Shared ->Prop),C i j ->Q (.int (g i j) s.toks) {s with toks:=s.toks+1} ->wpAny (model X.prog X.w) X.A (f (.int i t) (.int j u)) Q E s):
  OpR X f (rI C λ i j=> .int (g i j)):=by
 intro pins s σ H x y v u Q I rx ry h;obtain ⟨i,j,rfl,rfl,hc,q⟩:=h;obtain ⟨t,rfl⟩:=rx;obtain ⟨t',rfl⟩:=ry;exact rule i j t t' s _ _ hc ⟨.int (g i j),H,I.tok _,⟨_,zf⟩,q⟩
theorem opI0 {f:Value ->Value ->Sem Value} {g:Int ->Int ->Int}
  (rule:∀ (i j:Int) (t u:Tok) (s:Shared) (Q:Value ->Shared ->Prop) (E:Value ->Shared ->Prop),Q (.int (g i j) s.toks) {s with toks:=s.toks+1} ->wpAny (model X.prog X.w) X.A (f (.int i t) (.int j u)) Q E s):
  OpR X f (rI0 λ i j=> .int (g i j)):=by
 intro pins s σ H x y v u Q I rx ry h;obtain ⟨i,j,rfl,rfl,q⟩:=h;obtain ⟨t,rfl⟩:=rx;obtain ⟨t',rfl⟩:=ry;exact rule i j t t' s _ _ ⟨.int (g i j),H,I.tok _,⟨_,zf⟩,q⟩
theorem opB0 {f:Value ->Value ->Sem Value} {g:Int ->Int ->Bool}
  (rule:∀ (i j:Int) (t u:Tok) (s:Shared) (Q:Value ->Shared ->Prop) (E:Value ->Shared ->Prop),Q (.bool (g i j)) s ->wpAny (model X.prog X.w) X.A (f (.int i t) (.int j u)) Q E s):
  OpR X f (rI0 λ i j=> .bl (g i j)):=by
 intro pins s σ H x y v u Q I rx ry h;obtain ⟨i,j,rfl,rfl,q⟩:=h;obtain ⟨t,rfl⟩:=rx;obtain ⟨t',rfl⟩:=ry;exact rule i j t t' s _ _ ⟨.bl (g i j),H,I,zf,q⟩
def CDiv (i j:Int):Prop:=0 < j/\j < 1073741824
def CPow (i j:Int):Prop:=0<=j/\j<=1000000/\i.natAbs < 2^64
def CMul (i j:Int):Prop:=(-(2^64) < i/\i < 2^64)\/ (-(2^64) < j/\j < 2^64)
theorem CMul.ok {i j:Int} (h:CMul i j):IntMulOk i j:=by
 rcases h with ⟨h1,h2⟩ | ⟨h1,h2⟩
 ·exact .of_left (intBits_le_64 h1 h2)
 ·exact .of_right (intBits_le_64 h1 h2)
theorem q1n:OpR X (binaryOp .Add) (rI0 λ i j=> .int (i+j)):=opI0 λ _ _ _ _ _ _ _ q=>add_int q
theorem qqi:OpR X (binaryOp .Sub) (rI0 λ i j=> .int (i - j)):=opI0 λ _ _ _ _ _ _ _ q=>sub_int q
theorem q4u:OpR X (binaryOp .Mult) (rI CMul λ i j=> .int (i*j)):=opI λ _ _ _ _ _ _ _ hc q=>mul_int q hc.ok
theorem q4j:OpR X (binaryOp .FloorDiv) (rI CDiv λ i j=> .int (i / j)):=opI λ i j _ _ _ _ _ D q=>by
 have h1:(0:Int) < j:=D.1;have h2:j < 1073741824:=D.2;exact floordiv_int (by omega) (by rw [Int.fdiv_eq_ediv_of_nonneg i (by omega)];exact q) (.inl (PyProof.noPylong_small (by omega)))
theorem q1f:OpR X (binaryOp .Mod) (rI (λ _ j=>0 < j) λ i j=> .int (i%j)):=opI λ i j _ _ _ _ _ hc q=>by
 have h1:(0:Int) < j:=hc;exact mod_int' (by omega) (by rw [Int.fmod_eq_emod_of_nonneg i (by omega)];exact q)
theorem qkh:OpR X (binaryOp .Pow) (rI CPow λ i j=> .int (i^j.toNat)):=opI λ _ _ _ _ _ _ _ D q=>pow_int_small D.1 D.2.1 D.2.2 q
end
def scal:V ->V ->Bool
 | .non,.non=>true | .non,.int _=>true | .int _,.non=>true | .non,.bl _=>true | .bl _,.non=>true | .non,.str _=>true | .str _,.non=>true
 | .int _,.int _=>true | .bl _,.bl _=>true | .str _,.str _=>true | .byt _,.byt _=>true
 | .int _,.str _=>true | .str _,.int _=>true | .bl _,.str _=>true | .str _,.bl _=>true
 | _,_=>false
def rEq:R2:=λ x y H Q=>scal x y=true/\Q (.bl (decide (x=y))) H
def rNe:R2:=λ x y H Q=>scal x y=true/\Q (.bl (!decide (x=y))) H
theorem qnk {i j:Int}:decide (V.int i=V.int j)=(i==j):=by
 rw [z2z];simp
theorem qqj {i j:Bool}:decide (V.bl i=V.bl j)=(i==j):=by
 rw [z2z];simp
theorem qnl {i j:Str}:decide (V.str i=V.str j)=(i==j):=by
 rw [z2z];simp
theorem qnm {i j:Array UInt8}:decide (V.byt i=V.byt j)=(i.toList==j.toList):=by
 rw [z2z];cases i
 cases j
 simp
section
variable {X:Cx} {a b c:Expr} {ta tb tc:TE} {pos:Pos}
theorem q1a {pins:List (Addr×Obj)} {σ:St} {H:Hp} {s:Shared} {Q:VK} {k k':Bool} (I:Inv X pins σ H s) (q:Q (.bl k) H) (e:k=k'):EP X pins σ Q (.bool k') s:=by
 subst e;exact ⟨.bl k,H,I,zf,q⟩
theorem q25:OpR X (compareOp .Eq) rEq:=by
 intro pins s σ H x y v u Q I rx ry h;obtain ⟨D,q⟩:=h;cases x with
 | non=>
  cases rx
  cases y with
  | non=>cases ry;exact PySem.EqNone.eq_none_none (q1a I q (by simp))
  | bl j=>cases ry;exact PySem.EqNone.eq_none_bool (q1a I q (by simp))
  | int j=>obtain ⟨t',rfl⟩:=ry;exact PySem.EqNone.eq_none_int (q1a I q (by simp))
  | str j=>obtain ⟨t',rfl⟩:=ry;exact PySem.EqNone.eq_none_str (q1a I q (by simp))
  | _=>exact absurd (show false=true from D) z1l
 | bl i=>
  cases rx
  cases y with
  | non=>cases ry;exact PySem.EqNone.eq_bool_none (q1a I q (by simp))
  | bl j=>cases ry;exact eq_bool (q1a I q qqj)
  | str j=>obtain ⟨t',rfl⟩:=ry;exact PySem.EqMixed.eq_bool_str (q1a I q (by simp))
  | _=>exact absurd (show false=true from D) z1l
 | int i=>
  obtain ⟨t,rfl⟩:=rx;cases y with
  | non=>cases ry;exact PySem.EqNone.eq_int_none (q1a I q (by simp))
  | int j=>obtain ⟨t',rfl⟩:=ry;exact eq_int (q1a I q qnk)
  | str j=>obtain ⟨t',rfl⟩:=ry;exact PySem.EqMixed.eq_int_str (q1a I q (by simp))
  | _=>exact absurd (show false=true from D) z1l
 | str i=>
  obtain ⟨t,rfl⟩:=rx;cases y with
  | non=>cases ry;exact PySem.EqNone.eq_str_none (q1a I q (by simp))
  | bl j=>cases ry;exact PySem.EqMixed.eq_str_bool (q1a I q (by simp))
  | int j=>obtain ⟨t',rfl⟩:=ry;exact PySem.EqMixed.eq_str_int (q1a I q (by simp))
  | str j=>obtain ⟨t',rfl⟩:=ry;exact eq_str (q1a I q qnl)
  | _=>exact absurd (show false=true from D) z1l
 | byt i=>
  obtain ⟨t,rfl⟩:=rx;cases y with
  | byt j=>obtain ⟨t',rfl⟩:=ry;exact PySem.W.eq_bytes (q1a I q qnm)
  | _=>exact absurd (show false=true from D) z1l
 | _=>cases y <;> exact absurd (show false=true from D) z1l
theorem qvi:OpR X (compareOp .NotEq) rNe:=by
 intro pins s σ H x y v u Q I rx ry h;obtain ⟨D,q⟩:=h;cases x with
 | non=>
  cases rx
  cases y with
  | non=>cases ry;exact PySem.EqNone.ne_none_none (q1a I q (by simp))
  | bl j=>cases ry;exact PySem.EqNone.ne_none_bool (q1a I q (by simp))
  | int j=>obtain ⟨t',rfl⟩:=ry;exact PySem.EqNone.ne_none_int (q1a I q (by simp))
  | str j=>obtain ⟨t',rfl⟩:=ry;exact PySem.EqNone.ne_none_str (q1a I q (by simp))
  | _=>exact absurd (show false=true from D) z1l
 | bl i=>
  cases rx
  cases y with
  | non=>cases ry;exact PySem.EqNone.ne_bool_none (q1a I q (by simp))
  | bl j=>cases ry;exact ne_bool (q1a I q (congrArg not qqj))
  | str j=>obtain ⟨t',rfl⟩:=ry;exact PySem.EqMixed.ne_bool_str (q1a I q (by simp))
  | _=>exact absurd (show false=true from D) z1l
 | int i=>
  obtain ⟨t,rfl⟩:=rx;cases y with
  | non=>cases ry;exact PySem.EqNone.ne_int_none (q1a I q (by simp))
  | int j=>obtain ⟨t',rfl⟩:=ry;exact ne_int (q1a I q (congrArg not qnk))
  | str j=>obtain ⟨t',rfl⟩:=ry;exact PySem.EqMixed.ne_int_str (q1a I q (by simp))
  | _=>exact absurd (show false=true from D) z1l
 | str i=>
  obtain ⟨t,rfl⟩:=rx;cases y with
  | non=>cases ry;exact PySem.EqNone.ne_str_none (q1a I q (by simp))
  | bl j=>cases ry;exact PySem.EqMixed.ne_str_bool (q1a I q (by simp))
  | int j=>obtain ⟨t',rfl⟩:=ry;exact PySem.EqMixed.ne_str_int (q1a I q (by simp))
  | str j=>obtain ⟨t',rfl⟩:=ry;exact ne_str (q1a I q (congrArg not qnl))
  | _=>exact absurd (show false=true from D) z1l
 | byt i=>
  obtain ⟨t,rfl⟩:=rx;cases y with
  | byt j=>obtain ⟨t',rfl⟩:=ry;exact PySem.W.ne_bytes (q1a I q (congrArg not qnm))
  | _=>exact absurd (show false=true from D) z1l
 | _=>cases y <;> exact absurd (show false=true from D) z1l
theorem qvj:OpR X (compareOp .Lt) (rI0 λ i j=> .bl (decide (i < j))):=opB0 λ _ _ _ _ _ _ _ q=>lt_int q
theorem qjs:OpR X (compareOp .LtE) (rI0 λ i j=> .bl (decide (i<=j))):=opB0 λ _ _ _ _ _ _ _ q=>le_int q
theorem qot:OpR X (compareOp .Gt) (rI0 λ i j=> .bl (decide (j < i))):=opB0 λ _ _ _ _ _ _ _ q=>gt_int q
theorem q110:OpR X (compareOp .GtE) (rI0 λ i j=> .bl (decide (j<=i))):=opB0 λ _ _ _ _ _ _ _ q=>ge_int q
theorem qhh:OpR X (compareOp .In) (λ x y H Q=>∃ i j,x= .str i/\y= .str j/\Q (.bl (!(Builtin.Str.occurrences j i 0 j.length 1).isEmpty)) H):=by
 intro pins s σ H x y v u Q I rx ry h;obtain ⟨i,j,rfl,rfl,q⟩:=h;obtain ⟨t,rfl⟩:=rx;obtain ⟨t',rfl⟩:=ry;exact in_str (q1a I q rfl)
theorem q7t:OpR X (compareOp .Is) (λ x y H Q=>y= .non/\Q (.bl (decide (x= .non))) H):=by
  intro pins s σ H x y v u Q I rx ry h;obtain ⟨rfl,q⟩:=h;cases ry
  refine is_none_gen (q1a I q ?_);cases x <;> first
    | (cases rx;rfl)
    | (obtain ⟨t,rfl⟩:=rx;rfl)
theorem q13 (b:Expr) {op:CmpOp} (h:op≠ .In:=by decide) (h2:op≠ .NotIn:=by decide):behindInMarks op b=false:=by
 have e1:(op==CmpOp.In)=false:=by cases op <;> first | rfl | exact absurd rfl h
 have e2:(op==CmpOp.NotIn)=false:=by cases op <;> first | rfl | exact absurd rfl h2
 cases b <;> simp [behindInMarks,e1,e2]
theorem q3y {op:CmpOp} {r:R2} (ho:OpR X (compareOp op) r) (ha:PE X a ta) (hb:PE X b tb) (hm:behindInMarks op b=false):PE X (.Compare a [op] [b] pos) (tOp r ta tb):=by
 intro pins s σ H Q I h;exact wpAny_Compare1 (binT ha hb I h λ v u s2 x y H2 I2 rx ry q=>ho pins s2 σ H2 x y v u Q I2 rx ry q) hm
def qvk (t:TE):TT:=λ σ H Q=>t σ H λ x H'=>∃ k,x= .bl k/\Q k H'
theorem q12 {op:CmpOp} {r:R2} (ho:OpR X (compareOp op) r) (ha:PE X a ta) (hb:PE X b tb) (hm:behindInMarks op b=false):PT X (.Compare a [op] [b] pos) (qvk (tOp r ta tb)):=by
 intro pins s σ H Q I h;refine wpAny_isTrue_Compare1 (thn (ha pins s σ H _ I h) λ v s1 ⟨x,H1,I1,r1,q1⟩=>thn (hb pins s1 σ H1 _ I1 q1) λ u s2 ⟨y,H2,I2,r2,q2⟩=>
  thn (ho pins s2 σ H2 x y v u _ I2 r1 r2 q2) λ c s3 ⟨z,H3,I3,r3,k,e,q3⟩=> ?_) hm
 subst e;cases r3
 exact z24 ⟨H3,I3,q3⟩
def qqk (r r':R2) (ta tb tc:TE):TE:=λ σ H Q=>ta σ H λ x H1=>tb σ H1 λ y H2=>r x y H2 λ z H3=>∃ k,z= .bl k/\
 (if k=true then tc σ H3 λ w' H4=>r' y w' H4 Q else Q (.bl false) H3)
theorem qt8 {op D:CmpOp} {r O:R2} (ho:OpR X (compareOp op) r) (J:OpR X (compareOp D) O) (ha:PE X a ta) (hb:PE X b tb) (hc:PE X c tc)
  (hm:lastMarks [op,D] [b,c]=false:=by with_unfolding_all rfl):PE X (.Compare a [op,D] [b,c] pos) (qqk r O ta tb tc):=by
 intro pins s σ H Q I h;refine Compare_chain (thn (ha pins s σ H _ I h) λ v s1 ⟨x,H1,I1,r1,q1⟩=>chain_link (thn (hb pins s1 σ H1 _ I1 q1) λ u s2 ⟨y,H2,I2,r2,q2⟩=>
  thn (ho pins s2 σ H2 x y v u _ I2 r1 r2 q2) λ d s3 ⟨z,H3,I3,r3,k,e,q3⟩=> ?_)) hm
 subst e;cases r3
 refine z24 ?_;cases k with
 | false=>exact ite_ff ⟨.bl false,H3,I3,rfl,q3⟩
 | true=>exact ite_tt (chain_last (thn (hc pins s3 σ H3 _ I3 q3) λ w' s4 ⟨z',H4,I4,r4,q4⟩=>J pins s4 σ H4 y z' u w' Q I4 r2 r4 q4))
theorem qt9 {op D:CmpOp} {r Z:R2} (ho:OpR X (compareOp op) r) (J:OpR X (compareOp D) Z) (ha:PE X a ta) (hb:PE X b tb) (hc:PE X c tc)
  (hm:lastMarks [op,D] [b,c]=false:=by with_unfolding_all rfl):PT X (.Compare a [op,D] [b,c] pos) (qvk (qqk r Z ta tb tc)):=by
 intro pins s σ H Q I h;refine isTrue_chain (thn (ha pins s σ H _ I h) λ v s1 ⟨x,H1,I1,r1,q1⟩=>test_link (thn (hb pins s1 σ H1 _ I1 q1) λ u s2 ⟨y,H2,I2,r2,q2⟩=>
  thn (ho pins s2 σ H2 x y v u _ I2 r1 r2 q2) λ d s3 ⟨z,H3,I3,r3,k,e,q3⟩=> ?_)) hm
 subst e;cases r3
 refine z24 ?_;cases k with
 | false=>
  obtain ⟨k',e',q'⟩:=q3;cases e'
  exact ite_ff ⟨H3,I3,q'⟩
 | true=>
  refine ite_tt (test_last (thn (hc pins s3 σ H3 _ I3 q3) λ w' s4 ⟨z',H4,I4,r4,q4⟩=>thn (J pins s4 σ H4 y z' u w' _ I4 r2 r4 q4) λ d' s5 O=> ?_));obtain ⟨z2,H5,I5,r5,k2,e2,q5⟩:=O;subst e2;cases r5
  exact z24 ⟨H5,I5,q5⟩
theorem qki:(sizeLine:Nat) < 2^63:=by rw [sizeLine_eq];decide
theorem qou:OpR X (binaryOp .Add) (λ x y H Q=>∃ i j,x= .str i/\y= .str j/\i.length+j.length<=sizeLine/\Q (.str (i++j)) H):=by
 intro pins s σ H x y v u Q I rx ry h;obtain ⟨i,j,rfl,rfl,hz,q⟩:=h;obtain ⟨t,rfl⟩:=rx;obtain ⟨t',rfl⟩:=ry;exact add_str (λ t' tk=>⟨.str (i++j),H,I.tok _,⟨_,zf⟩,q⟩) hz
theorem q3b {x:V} {us:List Value} (r:Vals [x] us):∃ u,us=[u]/\RelV x u:=by
 cases r with
 | cons r1 r2=>cases r2;exact ⟨_,rfl,r1⟩
theorem qov {x y:V} {us:List Value} (r:Vals [x,y] us):∃ u D,us=[u,D]/\RelV x u/\RelV y D:=by
 cases r with
 | cons r1 r2=>
  cases r2 with
  | cons r3 r4=>cases r4;exact ⟨_,_,rfl,r1,r3⟩
theorem qta:q24 X (.builtin "abs") (λ xs H Q=>∃ i,xs=[.int i]/\Q (.int (if i < 0 then -i else i)) H):=by
 intro pins s σ H xs us Q I r h;obtain ⟨i,rfl,q⟩:=h;obtain ⟨u,rfl,t,rfl⟩:=q3b r;exact call_abs_int λ u tk=>⟨.int (if i < 0 then -i else i),H,I.tok _,⟨_,rfl⟩,q⟩
theorem qql (hc:X.calm=true):q24 X (.builtin "max") (λ xs H Q=>∃ i j,xs=[.int i,.int j]/\Q (.int (if j > i then j else i)) H):=by
 intro pins s σ H xs us Q I r h;obtain ⟨i,j,rfl,q⟩:=h;obtain ⟨u,w',rfl,⟨t,rfl⟩,⟨t',rfl⟩⟩:=qov r;refine max_two_ints (I.ok.hd hc) λ h' tk k=>⟨_,H,I.kept k,?_,q⟩;by_cases D:j > i
 ·rw [if_pos D,if_pos D];exact ⟨_,rfl⟩
 ·rw [if_neg D,if_neg D];exact ⟨_,rfl⟩
theorem qb4 (hc:X.calm=true):q24 X (.builtin "min") (λ xs H Q=>∃ i j,xs=[.int i,.int j]/\Q (.int (if j < i then j else i)) H):=by
 intro pins s σ H xs us Q I r h;obtain ⟨i,j,rfl,q⟩:=h;obtain ⟨u,w',rfl,⟨t,rfl⟩,⟨t',rfl⟩⟩:=qov r;refine min_two_ints (I.ok.hd hc) λ h' tk k=>⟨_,H,I.kept k,?_,q⟩;by_cases D:j < i
 ·rw [if_pos D,if_pos D];exact ⟨_,rfl⟩
 ·rw [if_neg D,if_neg D];exact ⟨_,rfl⟩
def LenV (K:PySem.W.Frag) (x:V) (H:Hp) (n:Nat):Prop:=
 match x with
 | .str y=>y.length<=sizeLine/\n=y.length
 | .byt y=>y.size<=sizeLine/\n=y.size
 | .ref p=>(∃ xs,SqL K H p xs/\n=xs.length)\/ ∃ xs,SqT K H p xs/\n=xs.length
 | _=>False
theorem qtb:q24 X (.builtin "len") (λ xs H Q=>∃ x n,xs=[x]/\LenV X.K x H n/\Q (.int n) H):=by
 intro pins s σ H xs us Q I r h;obtain ⟨x,n,rfl,e,q⟩:=h;obtain ⟨u,rfl,rx⟩:=q3b r;have hl:=qki;have hs:sizeLine=16777216:=sizeLine_eq;cases x with
 | str y=>
  obtain ⟨t,rfl⟩:=rx;obtain ⟨hy,e'⟩:y.length<=sizeLine/\n=y.length:=e;subst e';exact len_str (by omega) ⟨.int _,H,I.tok _,⟨_,zf⟩,q⟩
 | byt y=>
  obtain ⟨t,rfl⟩:=rx;obtain ⟨hy,e'⟩:y.size<=sizeLine/\n=y.size:=e;subst e';exact PySem.W.len_bytes (by omega) ⟨.int _,H,I.tok _,⟨_,zf⟩,q⟩
 | ref p=>
  cases rx
  have e':(∃ xs,SqL X.K H p xs/\n=xs.length)\/ ∃ xs,SqT X.K H p xs/\n=xs.length:=e;rcases e' with ⟨xs,hx,e'⟩ | ⟨xs,hx,e'⟩
  ·subst e';obtain ⟨its,J,pl,hz⟩:=I.list hx;have D:=J.length;exact Calls.call_len_list pl.isList (by simp only [z23];omega) ⟨.int xs.length,H,I.tok _,⟨_,by simp only [z23];rw [D]⟩,q⟩
  ·subst e';obtain ⟨its,J,pl,hz⟩:=I.tuple hx;have D:=J.length;exact len_tuple pl (by simp only [z23];omega) ⟨.int xs.length,H,I.tok _,⟨_,by simp only [z23];rw [D]⟩,q⟩
 | _=>exact (show False from e).elim
end
structure ObjM (h:Heap) (x dx C:Addr) (mA:Str ->Option Value):Prop where
 obj:h.get? x=some (PySem.W.instObj C dx)
 ns:h.Ns1 dx mA
 ne:dx≠x
theorem qqm {h:Heap} {dx:Addr} {mA:Str ->Option Value} (n:h.Ns1 dx mA):∃ J,h.get? dx=some J/\∀ name,PySem.W.lookIn name J=some (mA name):=by
 obtain ⟨o,es,ep,ho,hd,hk,_,hm⟩:=n;refine ⟨o,ho,λ name=> ?_⟩;have e:=hm name;unfold nsFind findBy at e;rw [<- Array.find?_toList] at e;unfold PySem.W.lookIn;rw [hd]
 dsimp only
 split
 ·rename_i y q;rw [q] at e;exact congrArg some e
 ·rename_i q;rw [q] at e;have a:es.toList.any (·.refKey)=false:=by
   rw [List.any_eq_false];intro y hy;obtain ⟨z,t,D⟩:=hk y (Array.mem_toList_iff.mp hy);simp [DictEntry.refKey,D]
  have a':¬ es.toList.any (·.refKey)=true:=by rw [a];exact z1l
  rw [if_neg a'];exact congrArg some e
theorem ObjM.look {h:Heap} {x dx C:Addr} {mA:Str ->Option Value} (I:ObjM h x dx C mA):∃ D,PySem.W.InstAt h x (PySem.W.instObj C dx) C (some D)/\∀ name,PySem.W.lookIn name D=some (mA name):=
 let ⟨D,ho,hl⟩:=qqm I.ns
 ⟨D,⟨I.obj,rfl,rfl,ho⟩,hl⟩
section
variable {prog:Program} {w:World} {A:Around} {E:Value ->Shared ->Prop} {s:Shared} {K:PySem.W.Frag} {x dx C f:Addr} {mA:Str ->Option Value} {name:Str} {v:Value}
theorem qwe {D:Bool} {Q:Value ->Shared ->Prop} (X:K.In s.heap) (I:ObjM s.heap x dx C mA) (hg:PySem.W.plainGet K C name=true) (hh:PySem.W.hasDictIn K C=true)
  (ha:PySem.W.findIn K (.ref C) name=some none) (hv:mA name=some v) (O:PySem.W.handedIn v=true) (h:Q v {s with toks:=s.toks+1}):
  wpAny (model prog w) A (getAttr (.ref x) name D) Q E s:=by
 obtain ⟨od,J,hl⟩:=I.look;exact PySem.W.get_value X J (PySem.W.plainGet_of hg).1 (PySem.W.findObj_own hh ha rfl (by rw [hl,hv])) O h
theorem qtc {pl:Sem Bool} {Q:Value×List Value ->Shared ->Prop} (X:K.In s.heap) (I:ObjM s.heap x dx C mA) (D:PySem.W.plainGet K C name=true)
  (hf:PySem.W.findIn K (.ref C) name=some (some (.ref f))) (ht:PySem.W.isFn K (.ref f)=true) (hv:mA name=none) (h:Q (.ref f,[.ref x]) s):
  wpAny (model prog w) A (getMethod (.ref x) name pl) Q E s:=by
 obtain ⟨od,J,hl⟩:=I.look;exact PySem.W.method_fn X J (PySem.W.plainGet_of D).1 (PySem.W.plainGet_of D).2 hf (beq_iff_eq.mp ht) (by show (PySem.W.lookIn name od).map (·.isSome)=some false;rw [hl,hv];rfl) h
theorem qwf {ns:List Str} {Q:Unit ->Shared ->Prop} (X:K.In s.heap) (I:ObjM s.heap x dx C mA)
  (hs:PySem.W.findIn K (.ref C) "__setattr__"=some (some (.builtin "object.__setattr__"))) (hp:PySem.W.plainOver K C=true) (ht:PySem.W.takerIn K C name=some none) (hh:PySem.W.hasDictIn K C=true)
  (hw:PySem.Within mA ns) (hsz:ns.length<=sizeLine)
  (h:∀ h',ObjM h' x dx C (λ y=>if y=name then some v else mA y) ->Heap.SameBut dx s.heap h' ->Q () {s with heap:=h',toks:=s.toks+2}):
  wpAny (model prog w) A (setAttr (.ref x) name v) Q E s:=by
 obtain ⟨od,J,hl⟩:=I.look;refine PySem.W.set_plain X J hs (PySem.W.osa_open (s:={s with toks:=s.toks+1}) (r:=none) X J hp ht λ b=> ?_);obtain ⟨cd,hc,a0⟩:=PySem.W.any_some hh;have hx:s.heap.get? x=some ⟨.ref C,some dx,.plain,#[]⟩:=I.obj;refine z4f (z4e (z4f (z4f (wpAny_loadPart hx (z4f (PySem.W.Looks.here (s:={s with toks:=s.toks+1}) (PySem.W.looks_clsIn X hc) ?_))))));rw [a0];refine z4e (a:=some dx) (z4f (z4e (z4f ?_)));refine wpAny_nsSet1 (s:={s with toks:=s.toks+1}) I.ns λ h' D O=> ?_;obtain ⟨oD,esD,epD,a2,a1,Z⟩:=D.count (PySem.Within.cons name v hw);refine z4f (wpAny_lookBehind a2 (by rw [a1];exact pastItsLine_dict (z41 Z (by rw [z2i];omega))) ?_);exact z4e (h _ ⟨(O.2 _ (Ne.symm I.ne)).trans I.obj,D,I.ne⟩ O)
theorem qtd {R:Result ->Shared ->Prop} {vs:List Value} {D:List (Str×Value)} (X:K.In s.heap) (hm:PySem.W.makesIn K C=true)
  (hi:PySem.W.findIn K (.ref C) "__init__"=some (some (.ref f))) (hf:PySem.W.typeIn K (.ref f)=some (.type "function"))
  (h:codeAny (model prog w) (A.under (.builtin "type.__call__" ⟨.ref C::vs,D⟩)) (.call (.ref f) ⟨.ref (s.heap.objs.size+1)::vs,D⟩) (PySem.W.InitBack (s.heap.objs.size+1) R)
   {s with heap:=(s.heap.push PySem.W.emptyDict).push (PySem.W.instObj C s.heap.objs.size)}):
  codeAny (model prog w) A (.call (.ref C) ⟨vs,D⟩) R s:=by
 obtain ⟨hh,g,d,t,os⟩:=s;exact PySem.W.make_core (PySem.W.makes_of X hm) (PySem.W.looks_findIn X hi) (λ self=>PySem.W.bind_fn X self hf) (.inl rfl) h
theorem qqn {R:Result ->Shared ->Prop} (X:K.In s.heap) (hm:PySem.W.makesIn K C=true)
  (hi:PySem.W.findIn K (.ref C) "__init__"=some (some (.builtin "object.__init__")))
  (hb:∀ self,PySem.W.Looks (model prog w) s.heap (bindSpecial (.builtin "object.__init__") self) (.builtin "object.__init__",[self]))
  (h:codeAny (model prog w) (A.under (.builtin "type.__call__" ⟨[.ref C],[]⟩)) (.call (.builtin "object.__init__") ⟨[.ref (s.heap.objs.size+1)],[]⟩) (PySem.W.InitBack (s.heap.objs.size+1) R)
   {s with heap:=(s.heap.push PySem.W.emptyDict).push (PySem.W.instObj C s.heap.objs.size)}):
  codeAny (model prog w) A (.call (.ref C) ⟨[],[]⟩) R s:=by
 obtain ⟨hh,g,d,t,os⟩:=s;exact PySem.W.make_core (PySem.W.makes_of X hm) (PySem.W.looks_findIn X hi) hb (.inr ⟨zf,zf⟩) h
end
def putF (f:Str) (v:V):List (Str×V) ->List (Str×V)
 | []=>[(f,v)]
 | (g,x)::r=>if g=f then (g,v)::r else (g,x)::putF f v r
theorem qcw (f g:Str) (v:V):∀ fs:List (Str×V),(putF f v fs).lookup g=if g=f then some v else fs.lookup g
  | []=>by
    show List.lookup g [(f,v)]=_;by_cases h:g=f
    · have D:(g==f)=true:=beq_iff_eq.mpr h
      simp only [List.lookup,D,if_pos h]
    · have D:(g==f)=false:=beq_eq_false_iff_ne.mpr h
      simp only [List.lookup,D,if_neg h]
  | (k,x)::r=>by
    have ih:=qcw f g v r;rw [show putF f v ((k,x)::r)=(if k=f then (k,v)::r else (k,x)::putF f v r) from rfl];by_cases hk:k=f
    · rw [if_pos hk]
      by_cases h:g=k
      · have D:(g==k)=true:=beq_iff_eq.mpr h
        simp only [List.lookup,D,if_pos (h.trans hk)]
      · have D:(g==k)=false:=beq_eq_false_iff_ne.mpr h
        simp only [List.lookup,D,if_neg (λ e:g=f=>h (e.trans hk.symm))]
    · rw [if_neg hk]
      by_cases h:g=k
      · have D:(g==k)=true:=beq_iff_eq.mpr h
        simp only [List.lookup,D,if_neg (λ e:g=f=>hk (h.symm.trans e))]
      · have D:(g==k)=false:=beq_eq_false_iff_ne.mpr h
        simp only [List.lookup,D];exact ih
theorem qb5 (f:Str) (v:V):∀ fs:List (Str×V),f∈(putF f v fs).map (·.1)/\∀ g,g∈fs.map (·.1) ->g∈(putF f v fs).map (·.1)
  | []=>⟨by simp [putF],λ g h=>by simp at h⟩
  | (k,x)::r=>by
    obtain ⟨i1,i2⟩:=qb5 f v r;rw [show putF f v ((k,x)::r)=(if k=f then (k,v)::r else (k,x)::putF f v r) from rfl];by_cases hk:k=f
    · rw [if_pos hk]
      subst hk;exact ⟨by simp,λ g h=>by simpa using h⟩
    · rw [if_neg hk]
      refine ⟨?_,λ g h=> ?_⟩
      · rw [z3l]
        exact z16 _ i1
      · rw [z3l] at h ⊢
        rcases z3n.mp h with e | e
        · exact z3n.mpr (.inl e)
        · exact z16 _ (i2 g e)
theorem qcx (f:Str) (v:V):∀ fs:List (Str×V),(putF f v fs).length<=fs.length+1
  | []=>by simp [putF]
  | (k,x)::r=>by
    have ih:=qcx f v r;rw [show putF f v ((k,x)::r)=(if k=f then (k,v)::r else (k,x)::putF f v r) from rfl];by_cases hk:k=f
    · rw [if_pos hk,z2i,z2i];omega
    · rw [if_neg hk,z2i,z2i];omega
theorem RelO.qfw {v:V} {o:Option Value} (r:RelO (some v) o):∃ u,o=some u/\RelV v u:=by
 cases o with
 | none=>exact (show False from r).elim
 | some u=>exact ⟨u,rfl,r⟩
theorem RelO.qwg {o:Option Value} (r:RelO none o):o=none:=by
 cases o with
 | none=>rfl
 | some u=>exact (show False from r).elim
theorem qqo {v:V} {u:Value} (r:RelV v u):PySem.W.handedIn u=true:=by
 cases v with
 | non=>cases (show u=Value.none from r);rfl
 | bl b=>cases (show u=Value.bool b from r);rfl
 | int i=>obtain ⟨t,e⟩:=(show ∃ t,u=Value.int i t from r);cases e;rfl
 | str x=>obtain ⟨t,e⟩:=(show ∃ t,u=Value.str x t from r);cases e;rfl
 | byt b=>obtain ⟨t,e⟩:=(show ∃ t,u=Value.bytes b t from r);cases e;rfl
 | flt b=>obtain ⟨t,e⟩:=(show ∃ t,u=Value.float b t from r);cases e;rfl
 | ref a=>cases (show u=Value.ref a from r);rfl
 | ty n=>cases (show u=Value.type n from r);rfl
section
variable {P:Program} {w:World} {H H':Hp} {h h':Heap} {a C dx:Addr} {fs fs':List (Str×V)}
theorem qfx (hok:HOk P w H h) (e:H a=some (.ins C dx fs)):∃ mA,ObjM h a dx C mA/\(∀ f,RelO (fs.lookup f) (mA f))/\PySem.Within mA (fs.map (·.1))/\fs.length<=1000/\H dx=some (.own a):=by
 obtain ⟨d,z,ne,ob,mA,n,r,q⟩:=(show ObjOk P w H h a (.ins C dx fs) from hok a _ e);exact ⟨mA,⟨ob,n,ne⟩,r,q,z,d⟩
end
structure Cls (K:PySem.W.Frag) (C:Addr):Prop where
 pg:PySem.W.plainGet K C Str.empty=true
 hd:PySem.W.hasDictIn K C=true
 po:PySem.W.plainOver K C=true
 sa:PySem.W.findIn K (.ref C) "__setattr__"=some (some (.builtin "object.__setattr__"))
theorem Cls.get {K:PySem.W.Frag} {C:Addr} (c:Cls K C) (f:Str):PySem.W.plainGet K C f=true:=c.pg
def NoAttr (K:PySem.W.Frag) (C:Addr) (f:Str):Prop:=PySem.W.findIn K (.ref C) f=some none
theorem NoAttr.taker {K:PySem.W.Frag} {C:Addr} {f:Str} (n:NoAttr K C f):PySem.W.takerIn K C f=some none:=by
 unfold PySem.W.takerIn;rw [show PySem.W.findIn K (.ref C) f=some none from n];rfl
structure Con (K:PySem.W.Frag) (C:Addr) (f:Str) (v:V) (u:Value):Prop where
 at_:PySem.W.findIn K (.ref C) f=some (some u)
 rel:RelV v u
 get:PySem.W.specialIn K u "__get__"=some none
 cp:PySem.W.copiedNames.contains f=false
structure Meth (K:PySem.W.Frag) (C:Addr) (m:Str) (f:Addr):Prop where
 at_:PySem.W.findIn K (.ref C) m=some (some (.ref f))
 fn:PySem.W.isFn K (.ref f)=true
 kp:PySem.W.keepIn K (.ref f)=true
section
variable {X:Cx} {pins:List (Addr×Obj)} {σ:St} {H:Hp} {s:Shared} {a C dx:Addr} {fs:List (Str×V)} {f:Str} {v:V} {A:Around} {E:Value ->Shared ->Prop}
theorem qow {b:Bool} {Q:Value ->Shared ->Prop} (I:Inv X pins σ H s) (e:H a=some (.ins C dx fs)) (c:Cls X.K C) (n:NoAttr X.K C f) (l:fs.lookup f=some v)
  (h:∀ u s',Inv X pins σ H s' ->RelV v u ->Q u s'):wpAny (model X.prog X.w) A (getAttr (.ref a) f b) Q E s:=by
 obtain ⟨mA,O,r,_,_,_⟩:=qfx I.hok e;obtain ⟨u,hu,D⟩:=RelO.qfw (v:=v) (o:=mA f) (by rw [<- l];exact r f);exact qwe I.kIn O (c.get f) c.hd n hu (qqo D) (h u _ (I.tok _) D)
theorem q9o {m:Str} {g:Addr} {pl:Sem Bool} {Q:Value×List Value ->Shared ->Prop} (I:Inv X pins σ H s) (e:H a=some (.ins C dx fs)) (c:Cls X.K C) (k:Meth X.K C m g) (l:fs.lookup m=none)
  (h:Q (.ref g,[.ref a]) s):wpAny (model X.prog X.w) A (getMethod (.ref a) m pl) Q E s:=by
 obtain ⟨mA,O,r,_,_,_⟩:=qfx I.hok e;have hn:mA m=none:=RelO.qwg (by rw [<- l];exact r m);exact qtc I.kIn O (c.get m) k.at_ k.fn hn h
theorem qox {y:V} {u:Value} {Q:Unit ->Shared ->Prop} (I:Inv X pins σ H s) (e:H a=some (.ins C dx fs)) (c:Cls X.K C) (n:NoAttr X.K C f) (hl:fs.length < 1000) (ry:RelV y u)
  (h:∀ s',Inv X pins σ (upd H a (.ins C dx (putF f y fs))) s' ->Q () s'):wpAny (model X.prog X.w) A (setAttr (.ref a) f u) Q E s:=by
 obtain ⟨mA,O,r,wi,_,ho⟩:=qfx I.hok e;have hz:(fs.map (·.1)).length<=sizeLine:=by rw [z30,sizeLine_eq];omega
 refine qwf I.kIn O c.sa c.po n.taker c.hd wi hz λ h' D sb=>h _ ?_;have hd:∃ o,h'.get? dx=some o:=let ⟨o,_,_,e',_⟩:=D.ns;⟨o,e'⟩
 refine I.write (x:=a) (e:=dx) (by rw [e];exact True.intro) (.inr ho) (λ b q hb z=>(sb.2 b hb).trans z) hd ?_;refine ⟨by rw [qh O.ne];exact ho,?_,O.ne,D.obj,_,D.ns,λ g=> ?_,λ g hg=> ?_⟩
 ·have:=qcx f y fs;omega
 ·show RelO ((putF f y fs).lookup g) (if g=f then some u else mA g);rw [qcw];by_cases q:g=f
  ·rw [if_pos q,if_pos q];exact ry
  ·rw [if_neg q,if_neg q];exact r g
 ·by_cases q:g=f
  ·rw [q];exact (qb5 f y fs).1
  ·refine (qb5 f y fs).2 g (wi g λ z=>hg ?_);show (if g=f then some u else mA g)=none;rw [if_neg q];exact z
theorem Inv.made (I:Inv X pins σ H s):Inv X pins σ (upd (upd H s.heap.objs.size (.own (s.heap.objs.size+1))) (s.heap.objs.size+1) (.ins C s.heap.objs.size []))
  {s with heap:=(s.heap.push PySem.W.emptyDict).push (PySem.W.instObj C s.heap.objs.size)}:=by
 have e1:(s.heap.push PySem.W.emptyDict).get? s.heap.objs.size=some PySem.W.emptyDict:=z1c s.heap rfl;have e2:((s.heap.push PySem.W.emptyDict).push (PySem.W.instObj C s.heap.objs.size)).get? (s.heap.objs.size+1)=some (PySem.W.instObj C s.heap.objs.size):=by
  have:=z1c (s.heap.push PySem.W.emptyDict) (o:=PySem.W.instObj C s.heap.objs.size) rfl
  rwa [z3f] at this
 have e3:(s.heap.push PySem.W.emptyDict).Ns s.heap.objs.size (λ _=>none):=⟨PySem.W.emptyDict,#[],_,e1,rfl,(λ e he=>absurd he (by simp)),λ _=>rfl⟩;have I1:=I.laid (a:=s.heap.objs.size) (o:= .own (s.heap.objs.size+1)) (h':=s.heap.push PySem.W.emptyDict) (t':=s.toks) (λ b u q=>z0o _ q) (z48 _) ⟨_,e1⟩;refine I1.laid (a:=s.heap.objs.size+1) (o:= .ins C s.heap.objs.size []) (t':=s.toks) (λ b u q=>z0o _ q) (Nat.le_of_eq (z3f _ _)) ?_;have ne:s.heap.objs.size≠s.heap.objs.size+1:=z40 (z2l _);refine ⟨by rw [qh ne,qb],z4b _,ne,e2,λ _=>none,(Heap.Ns1.of_empty e3).at λ o q=>z0o _ q,λ _=>True.intro,λ y hy=>absurd rfl hy⟩
theorem qwh {prog:Program} {w:World} {env:Env} {e:Expr} {f:Str} {pos:Pos} {s:Shared} {Q:Value ->Shared ->Prop} (hb:attributeBase e f env (eval e env)=eval e env)
  (h:wpAny (model prog w) A (eval e env) (λ o s₁=>wpAny (model prog w) A (getAttr o f true) Q E s₁) E s):wpAny (model prog w) A (eval (.Attribute e f pos) env) Q E s:=
 Attribute_any_ h (by rw [arm_eval_Attribute,hb])
end
def tFld (K:PySem.W.Frag) (ta:TE) (f:Str):TE:=λ σ H Q=>ta σ H λ x H1=>∃ a C dx fs v,x= .ref a/\H1 a=some (.ins C dx fs)/\Cls K C/\NoAttr K C f/\fs.lookup f=some v/\Q v H1
def sFld (K:PySem.W.Frag) (ta tv:TE) (f:Str):TS:=λ D σ H=>tv σ H λ y H1=>ta σ H1 λ x H2=>∃ a C dx fs,x= .ref a/\H2 a=some (.ins C dx fs)/\Cls K C/\NoAttr K C f/\fs.length < 1000/\
 D.nx σ (upd H2 a (.ins C dx (putF f y fs)))
section
variable {X:Cx} {o e value:Expr} {f:Str} {pos pos' tpos:Pos} {ta tv:TE}
theorem qb6 (he:PE X e ta) (hb:attributeBase e f X.env (eval e X.env)=eval e X.env):PE X (.Attribute e f pos) (tFld X.K ta f):=by
 intro pins s σ H Q I h;refine qwh hb (thn (he pins s σ H _ I h) λ u s1 D=> ?_);obtain ⟨x,H1,I1,rx,a,C,dx,fs,v,ex,ea,c,n,l,q⟩:=D;subst ex;obtain rfl:u=Value.ref a:=rx;exact qow I1 ea c n l λ u' s2 I2 ru=>⟨v,H1,I2,ru,q⟩
theorem qqp (ha:PE X o ta) (hv:PE X value tv) (hs:swapsWith value (some (.Attribute o f pos')) pos.line X.env=pure false):PS X (.Assign [.Attribute o f pos'] value pos) (sFld X.K ta tv f):=by
 intro pins s σ H D I h;refine plainObj_wpAny_Assign_Attribute (thn (hv pins s σ H _ I h) λ u s1 ⟨y,H1,I1,ry,q⟩=>thn (ha pins s1 σ H1 _ I1 q) λ ov s2 J=> ?_) hs;obtain ⟨x,H2,I2,rx,a,C,dx,fs,ex,ea,c,n,l,q2⟩:=J;subst ex;obtain rfl:ov=Value.ref a:=rx;exact qox I2 ea c n l ry λ s3 I3=>⟨σ,_,I3,q2⟩
end
section
variable {X:Cx} {pins:List (Addr×Obj)} {σ:St} {H:Hp} {s:Shared} {A:Around} {E:Value ->Shared ->Prop} {Q:Value ->Shared ->Prop} {c:Value} {b:Bool}
inductive TyOf (K:PySem.W.Frag) (H:Hp):V ->Value ->Prop where
 | non:TyOf K H .non (.type "NoneType")
 | bl (x:Bool):TyOf K H (.bl x) (.type "bool")
 | int (i:Int):TyOf K H (.int i) (.type "int")
 | str (x:Str):TyOf K H (.str x) (.type "str")
 | flt (x:UInt64):TyOf K H (.flt x) (.type "float")
 | lst {a:Addr} {xs:List V} (e:H a=some (.lst xs)):TyOf K H (.ref a) (.type "list")
 | frz {a:Addr} {o:Obj} {xs:List V} (e:H a=some (.frz o (.lst xs))):TyOf K H (.ref a) (.type "list")
 | tup {a:Addr} {xs:List V} (e:H a=some (.tup xs)):TyOf K H (.ref a) (.type "tuple")
 | dK {a:Addr} {kvs:List (Key×V)} (e:H a=some (.dK kvs)):TyOf K H (.ref a) (.type "dict")
 | dT {a:Addr} {kvs:List (List Key×V)} (e:H a=some (.dT kvs)):TyOf K H (.ref a) (.type "dict")
 | ins {a C dx:Addr} {fs:List (Str×V)} (e:H a=some (.ins C dx fs)) (cl:Cls K C) (ha:PySem.W.findIn K (.ref C) "__class__"=some (some (.builtin "object.__class__")))
   (hn:PySem.W.specialIn K (.builtin "object.__class__") "__get__"=some (some (.builtin "getset_descriptor.__get__"))) (htk:PySem.W.takesIn K (.builtin "object.__class__")=some true)
   (hm:PySem.W.mroIn K C (.type "object")=some true):TyOf K H (.ref a) (.ref C)
end
structure Room (k:Nat) (A:Around):Prop where
 hd:A.handled=none
 dp:A.depth+3*k+5 < recursionLimit
 un:A.units+16*k+200 < cLine
theorem Room.mono {j k:Nat} {A:Around} (r:Room k A) (h:j<=k):Room j A:=⟨r.hd,by have:=r.dp;omega,by have:=r.un;omega⟩
theorem Room.deeper {k:Nat} {A:Around} (r:Room (k+1) A) (env:Env):Room k (A.deeper env):=
 ⟨r.hd,by have:=r.dp;show A.depth+1+3*k+5 < _;omega,by have:=r.un;show A.units+3+16*k+200 < _;omega⟩
theorem qoy {A:Around} {C:Addr} {us:List Value} {kw:List (Str×Value)}:(A.under (.builtin "type.__call__" ⟨.ref C::us,kw⟩)).depth=A.depth+1:=by
 first | rfl | simp [Around.under,Code.weight,Code.isCreation,Code.isGuard,Code.isCaller,Code.frames,Code.isFrame,guardIds]
theorem qoz {A:Around} {C:Addr} {us:List Value} {kw:List (Str×Value)}:(A.under (.builtin "type.__call__" ⟨.ref C::us,kw⟩)).units=A.units+1:=by
 first | rfl | simp [Around.under,Code.cUnits,Code.frames,Code.isFrame]
theorem Room.make {k:Nat} {A:Around} (r:Room (k+1) A) (C:Addr) (us:List Value) (kw:List (Str×Value)):Room k (A.under (.builtin "type.__call__" ⟨.ref C::us,kw⟩)):=
 ⟨r.hd,by have:=r.dp;rw [qoy];omega,by have:=r.un;rw [qoz];omega⟩
theorem Room.depth {k:Nat} {A:Around} (r:Room k A):A.depth < recursionLimit:=by have:=r.dp;omega
theorem Room.units {k:Nat} {A:Around} (r:Room k A):A.units+64 < cLine:=by have:=r.un;omega
def tNil:TA:=λ _ H Q=>Q [] H
def q2x (ta:TE) (tr:TA):TA:=λ σ H Q=>ta σ H λ x H1=>tr σ H1 λ xs H2=>Q (x::xs) H2
section
variable {X:Cx} {e:Expr} {es:List Expr} {te:TE} {t:TA} {pos:Pos}
theorem q2d:PA X [] tNil:=λ _ _ _ _ H Q I h=>Calls.spliced_nil ⟨[],H,I,.nil,h⟩
theorem qwi (ha:PE X e te) (hr:PA X es t) (hs:starEach (e::es) X.env=(false,eval e X.env)::starEach es X.env:=by rfl):PA X (e::es) (q2x te t):=by
 intro pos pins s σ H Q I h;rw [hs];show wpAny _ _ (spliced ((false,eval e X.env)::backTo pos (starEach es X.env))) _ _ s;refine Calls.spliced_cons (thn (ha pins s σ H _ I h) λ u s1 D=> ?_);obtain ⟨x,H1,I1,r1,q1⟩:=D;exact thn (hr pos pins s1 σ H1 _ I1 q1) λ us s2 ⟨xs,H2,I2,r2,q2⟩=>⟨x::xs,H2,I2,.cons r1 r2,q2⟩
def tTup (t:TA):TE:=λ σ H Q=>t σ H λ xs H1=>xs.length<=sizeLine/\∀ p,H1 p=none ->Q (.ref p) (upd H1 p (.tup xs))
def tLst (t:TA):TE:=λ σ H Q=>t σ H λ xs H1=>xs.length<=sizeLine/\∀ p,H1 p=none ->Q (.ref p) (upd H1 p (.lst xs))
theorem q6q {x1} (h:PA X es t):PE X (.Tuple es x1 pos) (tTup t):=by
 intro pins s σ H Q I hq;refine wpAny_Tuple_spliced (thn (h pos pins s σ H _ I hq) λ us D ⟨xs,H1,I1,r,z,q⟩=>⟨by rw [<- r.length];exact z,?_⟩);have hf:H1 D.heap.objs.size=none:=I1.hok.fresh (z48 _);refine ⟨.ref D.heap.objs.size,upd H1 D.heap.objs.size (.tup xs),I1.laid (t':=D.toks) (λ b u e=>z0o _ e) (z48 _) ?_,zf,q _ hf⟩;exact ⟨z,us,r,⟨_,z1c _ rfl,zf,_,zf⟩⟩
theorem q20 (h:PA X es t):PE X (.List es pos) (tLst t):=by
 intro pins s σ H Q I hq;refine wpAny_List_spliced (thn (h pos pins s σ H _ I hq) λ us D ⟨xs,H1,I1,r,z,q⟩=>⟨by rw [<- r.length];exact z,?_⟩);have hf:H1 D.heap.objs.size=none:=I1.hok.fresh (z48 _);refine ⟨.ref D.heap.objs.size,upd H1 D.heap.objs.size (.lst xs),I1.laid (t':=D.toks) (λ b u e=>z0o _ e) (z48 _) ?_,zf,q _ hf⟩;exact ⟨z,us,0,r,z1c _ rfl⟩
end
abbrev Sp:=List V ->Hp ->VK ->XK ->Prop
abbrev CXT:=List Env ->Hp ->Shared ->XK ->Value ->Shared ->Prop
structure Env0 (P:Program) (w:World) (K:PySem.W.Frag) (mg:Str ->Option Value) (base:Heap) (A:Around) (outer:List Env) (s:Shared) (H:Hp):Prop where
 frames:A.frames=some outer
 mod:Mod K mg base
 bs:∀ b o,base.get? b=some o ->s.heap.get? b=some o/\H b=none
 bsz:base.objs.size<=s.heap.objs.size
 funs:s.heap.FunFrames base outer
 frf:∀ b∈frs outer,H b=none
 hok:HOk P w H s.heap
 bare:AllBare s.gens
def CE (outer:List Env) (P:Program) (w:World) (H:Hp) (s:Shared) (Q:VK) (u:Value) (s':Shared):Prop:=
 ∃ v H',s'.os=s.os/\AllBare s'.gens/\Un (frs outer) [] H H' s.heap s'.heap/\HOk P w H' s'.heap/\RelV v u/\Q v H'
def CR (CX:CXT) (outer:List Env) (P:Program) (w:World) (H:Hp) (s:Shared) (Q:VK) (E:XK) (r:Result) (s':Shared):Prop:=
 match r with
 | .ok (.ret u)=>CE outer P w H s Q u s'
 | .ok _=>False
 | .error e=>CX outer H s E e s'
structure FnOk (P:Program) (w:World) (K:PySem.W.Frag) (mg:Str ->Option Value) (base:Heap) (CX:CXT) (k:Nat) (f:Addr) (fd:FuncData) (ps:List Str) (sp:Sp):Prop where
 len:∀ vs H Q E,sp vs H Q E ->vs.length=ps.length
 run:∀ (A:Around) (outer:List Env) (s:Shared) (H:Hp) (args:Args) (us:List Value) (vs:List V) (Q:VK) (E:XK),Room k A ->Env0 P w K mg base A outer s H ->BindsTo s fd args (ps.zip us) ->Vals vs us ->sp vs H Q E ->
  codeAny (model P w) A (.call (.ref f) args) (CR CX outer P w H s Q E) s
theorem FnOk.mono {P:Program} {w:World} {K:PySem.W.Frag} {mg:Str ->Option Value} {base:Heap} {CX:CXT} {j k:Nat} {f:Addr} {fd:FuncData} {ps:List Str} {sp:Sp} (F:FnOk P w K mg base CX j f fd ps sp) (h:j<=k):
  FnOk P w K mg base CX k f fd ps sp:=⟨F.len,λ A outer s H args us vs Q E hr=>F.run A outer s H args us vs Q E (hr.mono h)⟩
theorem FnOk.imp {P:Program} {w:World} {K:PySem.W.Frag} {mg:Str ->Option Value} {base:Heap} {CX:CXT} {k:Nat} {f:Addr} {fd:FuncData} {ps:List Str} {sp D:Sp} (F:FnOk P w K mg base CX k f fd ps sp)
  (h:∀ vs H Q E,D vs H Q E ->sp vs H Q E):FnOk P w K mg base CX k f fd ps D:=
 ⟨λ vs H Q E q=>F.len vs H Q E (h _ _ _ _ q),λ A outer s H args us vs Q E hr he hb hv hs=>F.run A outer s H args us vs Q E hr he hb hv (h _ _ _ _ hs)⟩
theorem Env0.make {P:Program} {w:World} {K:PySem.W.Frag} {mg:Str ->Option Value} {base:Heap} {A:Around} {outer:List Env} {s:Shared} {H:Hp} (e:Env0 P w K mg base A outer s H) (C:Addr) (us:List Value) (kw:List (Str×Value)):
  Env0 P w K mg base (A.under (.builtin "type.__call__" ⟨.ref C::us,kw⟩)) outer s H:=⟨by first | exact e.frames | (simpa [Around.under,Code.envs,Code.isFrame,pushEnvs] using e.frames),e.mod,e.bs,e.bsz,e.funs,e.frf,e.hok,e.bare⟩
section
variable {X:Cx} {pins:List (Addr×Obj)} {σ:St} {H:Hp} {s s':Shared}
theorem Inv.env0 (I:Inv X pins σ H s):Env0 X.prog X.w X.K X.mg X.base X.A X.stack s H:=
 ⟨I.ok.frames,I.ok.mod,I.bs,z41 I.ok.bsz I.sz,I.stack,I.stkFree,I.hok,I.bare⟩
theorem Inv.after {Q:VK} {u:Value} (I:Inv X pins σ H s) (h:CE X.stack X.prog X.w H s Q u s'):EP X pins σ Q u s':=by
 obtain ⟨v,H',os,bare,un,hok,r,q⟩:=h;obtain ⟨hh,g,d,t,D⟩:=s';obtain rfl:D=s.os:=os;exact ⟨v,H',I.call (h':=hh) (g':=g) (d':=d) (t':=t) (ch:=[]) un hok bare (λ b z=>absurd z (by simp)),r,q⟩
end
def qvl (sp:Sp) (dvs:List V) (E:XK) (t:TA):TE:=λ σ H Q=>t σ H λ vs H1=>sp (vs++dvs) H1 Q E
def qvm (C:Addr) (m:Str) (sp:Sp) (dvs:List V) (E:XK) (ta:TE) (t:TA):TE:=λ σ H Q=>ta σ H λ x H1=>∃ a dx fs,x= .ref a/\H1 a=some (.ins C dx fs)/\fs.lookup m=none/\
 t σ H1 λ vs H2=>sp (x::(vs++dvs)) H2 Q E
def qjt (C:Addr) (sp:Sp) (dvs:List V) (E:XK) (t:TA):TE:=λ σ H Q=>t σ H λ vs H1=>∀ x dx,H1 x=none ->H1 dx=none ->dx≠x ->
 sp (.ref x::(vs++dvs)) (upd (upd H1 dx (.own x)) x (.ins C dx [])) (λ v H2=>v= .non/\Q (.ref x) H2) E
def Binds (K:PySem.W.Frag) (fd:FuncData) (ps:List Str) (ds:List Value):Prop:=
 ∀ (s:Shared) (us:List Value),K.In s.heap ->(us++ds).length=ps.length ->BindsTo s fd ⟨us,[]⟩ (ps.zip (us++ds))
theorem Binds.all {K:PySem.W.Frag} {fd:FuncData} {ps:List Str} (h:∀ us:List Value,us.length=ps.length ->bindArgs fd ⟨us,[]⟩=pure (ps.zip us)):Binds K fd ps []:=λ s us _ hl=>by
 rw [z31] at hl ⊢;exact .of_eq (h us hl)
def q7u (CX:CXT) (X:Cx) (E:XK):Prop:=∀ (pins:List (Addr×Obj)) (σ:St) (H:Hp) (s:Shared) (e:Value) (s':Shared),Inv X pins σ H s ->CX X.stack H s E e s' ->X.xe e s'
section
variable {X:Cx} {CX:CXT} {k:Nat} {f C:Addr} {fd:FuncData} {ps:List Str} {sp:Sp} {dvs:List V} {ds:List Value} {E:XK} {x m:Str} {p pos apos:Pos} {e o:Expr} {es:List Expr} {ta:TE} {t:TA}
theorem qem {pins:List (Addr×Obj)} {σ:St} {H:Hp} {s:Shared} {Q:VK} {us:List Value} {vs:List V} (F:FnOk X.prog X.w X.K X.mg X.base CX k f fd ps sp) (hr:Room k X.A) (hb:Binds X.K fd ps ds) (hd:Vals dvs ds) (hx:q7u CX X E)
  (I:Inv X pins σ H s) (r:Vals vs us) (h:sp (vs++dvs) H Q E):wpAny (model X.prog X.w) X.A (call (.ref f) us) (EP X pins σ Q) X.xe s:=by
 have r2:Vals (vs++dvs) (us++ds):=r.append hd;have hl:(us++ds).length=ps.length:=by rw [<- r2.length];exact F.len _ _ _ _ h
 refine wpAny_call (z43 (F.run X.A X.stack s H ⟨us,[]⟩ (us++ds) (vs++dvs) Q E hr I.env0 (hb s us I.kIn hl) r2 h) λ r s' hq=> ?_);cases r with
 | error e=>exact hx pins σ H s e s' I hq
 | ok fl=>
  cases fl with
  | ret u=>exact I.after hq
  | next=>exact False.elim hq
  | brk=>exact False.elim hq
  | cont=>exact False.elim hq
theorem qwj (F:FnOk X.prog X.w X.K X.mg X.base CX k f fd ps sp) (hr:Room k X.A) (hg:Gl X x) (hm:X.mg x=some (.ref f)) (hk:PySem.W.keepIn X.K (.ref f)=true) (hb:Binds X.K fd ps ds) (hd:Vals dvs ds) (hx:q7u CX X E)
  (ha:PA X (e::es) t) (D:(x==("__debug__":Str))=false:=by decide) (he:starEach (e::es) X.env=(false,eval e X.env)::starEach es X.env:=by rfl) (J:(backTo pos (starEach es X.env)).any (·.1)=false:=by rfl):
  PE X (.Call (.Name x p) (e::es) [] pos) (qvl sp dvs E t):=by
 intro pins s σ H Q I h;refine z1s (q92 I hg hm ?_ D);refine PySem.W.callWith_K (h₀:=X.base) I.ok.mod.kin hk (thn (ha pos pins s σ H _ I h) λ us s1 ⟨vs,H1,I1,r,q⟩=>⟨I1.kIn,?_⟩) he J;exact qem F hr hb hd hx I1 r q
theorem qwk {pl:Sem Bool} (he:PE X o ta) (c:Cls X.K C) (hm:Meth X.K C m f) (F:FnOk X.prog X.w X.K X.mg X.base CX k f fd ps sp) (hr:Room k X.A) (hb:Binds X.K fd ps ds) (hd:Vals dvs ds) (hx:q7u CX X E) (ha:PA X (e::es) t)
  (J:starEach (e::es) X.env=(false,eval e X.env)::starEach es X.env:=by rfl) (D:(backTo pos (starEach es X.env)).any (·.1)=false:=by rfl)
  (ht:eval (.Call (.Attribute o m apos) (e::es) [] pos) X.env=(do
   let ov <- eval o X.env
   standAt apos.atName
   let (f,first) <- holding [ov] (getMethod ov m pl)
   callWith pos f first (backTo pos (starEach (e::es) X.env)) (backToKw pos (keywordEach [] X.env))):=by rfl):
  PE X (.Call (.Attribute o m apos) (e::es) [] pos) (qvm C m sp dvs E ta t):=by
 intro pins s σ H Q I h;refine PySem.W.methodCall_KW (pl:=pl) (thn (he pins s σ H _ I h) λ u s1 O=> ?_) ht;obtain ⟨x,H1,I1,rx,a,dx,fs,ex,ea,l,q⟩:=O;subst ex;obtain rfl:u=Value.ref a:=rx;refine q9o I1 ea c hm l ?_;refine PySem.W.callWith_K (first:=[.ref a]) (h₀:=X.base) I.ok.mod.kin hm.kp (thn (ha pos pins s1 σ H1 _ I1 q) λ us s2 ⟨vs,H2,I2,r,q2⟩=>⟨I2.kIn,?_⟩) J D;exact qem (us:= .ref a::us) (vs:= .ref a::vs) F hr hb hd hx I2 (.cons rfl r) q2
structure Mk (K:PySem.W.Frag) (C f:Addr):Prop where
 makes:PySem.W.makesIn K C=true
 init:PySem.W.findIn K (.ref C) "__init__"=some (some (.ref f))
 fn:PySem.W.isFn K (.ref f)=true
 kp:PySem.W.keepIn K (.ref C)=true
theorem qkj {pins:List (Addr×Obj)} {σ:St} {H:Hp} {s:Shared} {Q:VK} {us:List Value} {vs:List V} (M:Mk X.K C f) (F:FnOk X.prog X.w X.K X.mg X.base CX k f fd ps sp) (hr:Room (k+1) X.A) (hb:Binds X.K fd ps ds) (hd:Vals dvs ds)
  (hx:q7u CX X E) (I:Inv X pins σ H s) (r:Vals vs us)
  (h:∀ x dx,H x=none ->H dx=none ->dx≠x ->sp (.ref x::(vs++dvs)) (upd (upd H dx (.own x)) x (.ins C dx [])) (λ v H2=>v= .non/\Q (.ref x) H2) E):
  wpAny (model X.prog X.w) X.A (call (.ref C) us) (EP X pins σ Q) X.xe s:=by
 have hq:=h (s.heap.objs.size+1) s.heap.objs.size (I.hok.fresh (Nat.le_succ _)) (I.hok.fresh (z48 _)) (z40 (z2l _));have I2:=Inv.made (C:=C) I;have r2:Vals (V.ref (s.heap.objs.size+1)::(vs++dvs)) (Value.ref (s.heap.objs.size+1)::(us++ds)):= .cons rfl (r.append hd);have hl:(Value.ref (s.heap.objs.size+1)::us++ds).length=ps.length:=by
  have e:=r2.length;rw [F.len _ _ _ _ hq] at e;exact e.symm
 refine wpAny_call (qtd (f:=f) I.kIn M.makes M.init (beq_iff_eq.mp M.fn) (z43 (F.run _ X.stack _ _ ⟨Value.ref (s.heap.objs.size+1)::us,[]⟩ (Value.ref (s.heap.objs.size+1)::(us++ds)) _ _ E (hr.make C us [])
  (I2.env0.make C us []) (hb _ (Value.ref (s.heap.objs.size+1)::us) I2.kIn hl) r2 hq) λ r s' D=> ?_))
 cases r with
 | error e=>exact hx pins σ _ _ e s' I2 D
 | ok fl=>
  cases fl with
  | ret u=>
   obtain ⟨v,H',I3,rv,ev,q3⟩:=I2.after D;subst ev;exact ⟨rv,⟨V.ref (s.heap.objs.size+1),H',I3,zf,q3⟩⟩
  | next=>exact False.elim D
  | brk=>exact False.elim D
  | cont=>exact False.elim D
theorem qwl (M:Mk X.K C f) (F:FnOk X.prog X.w X.K X.mg X.base CX k f fd ps sp) (hr:Room (k+1) X.A) (hg:Gl X x) (hm:X.mg x=some (.ref C)) (hb:Binds X.K fd ps ds) (hd:Vals dvs ds) (hx:q7u CX X E)
  (ha:PA X (e::es) t) (D:(x==("__debug__":Str))=false:=by decide) (he:starEach (e::es) X.env=(false,eval e X.env)::starEach es X.env:=by rfl) (J:(backTo pos (starEach es X.env)).any (·.1)=false:=by rfl):
  PE X (.Call (.Name x p) (e::es) [] pos) (qjt C sp dvs E t):=by
 intro pins s σ H Q I h;refine z1s (q92 I hg hm ?_ D);refine PySem.W.callWith_K (h₀:=X.base) I.ok.mod.kin M.kp (thn (ha pos pins s σ H _ I h) λ us s1 ⟨vs,H1,I1,r,q⟩=>⟨I1.kIn,?_⟩) he J;exact qkj M F hr hb hd hx I1 r q
theorem qte (M:Mk X.K C f) (F:FnOk X.prog X.w X.K X.mg X.base CX k f fd ps sp) (hr:Room (k+1) X.A) (hg:Gl X x) (hm:X.mg x=some (.ref C)) (hb:Binds X.K fd ps ds) (hd:Vals dvs ds) (hx:q7u CX X E)
  (D:(x==("__debug__":Str))=false:=by decide):PE X (.Call (.Name x p) [] [] pos) (qjt C sp dvs E tNil):=by
 intro pins s σ H Q I h;refine z1s (q92 I hg hm ?_ D);exact PySem.W.callWith_K0 I.kIn M.kp (qkj (us:=[]) M F hr hb hd hx I .nil h)
end
section
variable {X:Cx} {CX:CXT} {k:Nat} {f C:Addr} {fd:FuncData} {ps ks:List Str} {sp:Sp} {E:XK} {x m:Str} {p pos apos kpos:Pos} {e o:Expr} {es:List Expr} {kws:List Keyword} {te ta:TE} {t tk:TA} {nm:Option Str}
structure KBinds (K:PySem.W.Frag) (fd:FuncData) (ps ks:List Str) (g:List Value ->List Value ->List Value) (gV:List V ->List V ->List V):Prop where
 to:∀ (s:Shared) (us ws:List Value),K.In s.heap ->(g us ws).length=ps.length ->BindsTo s fd ⟨us,ks.zip ws⟩ (ps.zip (g us ws))
 rel:∀ {vs:List V} {us:List Value} {zs:List V} {ws:List Value},Vals vs us ->Vals zs ws ->Vals (gV vs zs) (g us ws)
variable {g:List Value ->List Value ->List Value} {gV:List V ->List V ->List V}
end
structure FnScope (N P:List Str) (sc:Scope):Prop where
 kind:sc.kind= .function
 co:sc.isCoroutine=false
 gen:sc.isGenerator=false
 nd:N.Nodup
 pre:N.take P.length=P
 par:∀ x∈P,sc.names.lookup x=some .local\/ sc.names.lookup x=some .cell
 nofree:∀ y∈sc.names,y.2≠ .free
theorem qhi {kindOf:Str ->Option NameKind} {x:Str}:∀ {D:List (Str×Value)} {m:Str ->Option Value},(∀ v,(x,v)∉D) ->bindL kindOf D m x=m x
  | [],_,_=>rfl
  | (n,v)::r,m,h=>by
    unfold bindL;rw [qhi λ w hw=>h w (z16 _ hw)];split
    · have:x≠n:=by rintro rfl;exact h v z1p
      simp [this]
    · rfl
theorem qhj {kindOf:Str ->Option NameKind} {x:Str}:∀ {D:List (Str×Value)} {m:Str ->Option Value},(∀ v,(x,v)∉D) ->bindC kindOf D m x=m x
  | [],_,_=>rfl
  | (n,v)::r,m,h=>by
    unfold bindC;rw [qhj λ w hw=>h w (z16 _ hw)];split
    · rfl
    · have:x≠n:=by rintro rfl;exact h v z1p
      simp [this]
theorem qhk {kindOf:Str ->Option NameKind} {x:Str} {v:Value}:∀ {P:List Str} {vs:List Value} {i:Nat} {m:Str ->Option Value},P.Nodup ->P[i]? =some x ->vs[i]? =some v ->kindOf x=some .local ->
  bindL kindOf (P.zip vs) m x=some v
 | [],_,_,_,_,h,_,_=>by simp at h
 | _::_,[],_,_,_,_,h,_=>by simp at h
 | p::P,w::vs,0,m,nd,h1,h2,hk=>by
  simp at h1 h2;subst h1;subst h2
  show bindL kindOf ((p,w)::P.zip vs) m p=_;unfold bindL;rw [qhi λ v hv=>(z32.mp nd).1 (List.of_mem_zip hv).1,if_pos hk];simp
 | p::P,w::vs,i+1,m,nd,h1,h2,hk=>by
  show bindL kindOf ((p,w)::P.zip vs) m x=_;unfold bindL;exact qhk (i:=i) (z32.mp nd).2 (by simpa using h1) (by simpa using h2) hk
theorem qhl {kindOf:Str ->Option NameKind} {x:Str} {v:Value}:∀ {P:List Str} {vs:List Value} {i:Nat} {m:Str ->Option Value},P.Nodup ->P[i]? =some x ->vs[i]? =some v ->kindOf x≠some .local ->
  bindC kindOf (P.zip vs) m x=some v
 | [],_,_,_,_,h,_,_=>by simp at h
 | _::_,[],_,_,_,_,h,_=>by simp at h
 | p::P,w::vs,0,m,nd,h1,h2,hk=>by
  simp at h1 h2;subst h1;subst h2
  show bindC kindOf ((p,w)::P.zip vs) m p=_;unfold bindC;rw [qhj λ v hv=>(z32.mp nd).1 (List.of_mem_zip hv).1,if_neg hk];simp
 | p::P,w::vs,i+1,m,nd,h1,h2,hk=>by
  show bindC kindOf ((p,w)::P.zip vs) m x=_;unfold bindC;exact qhl (i:=i) (z32.mp nd).2 (by simpa using h1) (by simpa using h2) hk
def start (N:List Str) (vs:List V):St:=vs.map some++List.replicate (N.length - vs.length) none
def cxOf (CX:CXT) (P:Program) (w:World) (K:PySem.W.Frag) (mg:Str ->Option Value) (base:Heap) (N:List Str) (qual:Str) (scope:Scope) (f:Addr) (cd:Value) (A:Around) (outer:List Env) (s:Shared) (H:Hp) (E:XK):Cx where
 prog:=P
 w:=w
 K:=K
 mg:=mg
 base:=base
 A:=A.deeper (envOfC qual scope s.heap.objs.size f cd)
 N:=N
 s₀:=s
 H₀:=H
 env:=envOfC qual scope s.heap.objs.size f cd
 outer:=outer
 stack:=envOfC qual scope s.heap.objs.size f cd::outer
 ex:=[]
 calm:=true
 fn:=λ _=>true
 pn:=[]
 xe:=λ e s'=>wpAny (model P w) (A.deeper (envOfC qual scope s.heap.objs.size f cd)) (leaving (envOfC qual scope s.heap.objs.size f cd) e) (λ _ s''=>CX outer H s E e s'') (λ e' s''=>CX outer H s E e' s'') s'
theorem qkk {D:Scope} {n:Nat} {x:Str} (h:D.names.lookup x=some .cell):∃ c,(cellsFrom n D.names []).lookup x=some c:=by
 have q:=PySem.W.cellsFrom_some D.names n [] (.inl h);exact Option.isSome_iff_exists.mp q
theorem qqq {CX:CXT} {P:Program} {w:World} {K:PySem.W.Frag} {mg:Str ->Option Value} {base:Heap} {N ps:List Str} {qual:Str} {scope:Scope} {f:Addr} {cd:Value} {A:Around} {outer:List Env} {s s1:Shared} {H:Hp} {E:XK} {us:List Value} {vs:List V}
    (S:FnScope N ps scope) (hd:A.handled=none) (D:Env0 P w K mg base A outer s H) (hl:vs.length=ps.length) (r:Vals vs us)
    (x:InCallC s s.heap.objs.size (bindL (envOfC qual scope s.heap.objs.size f cd).kindOf (ps.zip us) λ _=>none) (cellsFrom (s.heap.objs.size+1) scope.names []) (bindC (envOfC qual scope s.heap.objs.size f cd).kindOf (ps.zip us) λ _=>none) s1):
    Inv (cxOf CX P w K mg base N qual scope f cd A outer s H E) [] (start N vs) H s1:=by
  have hpl:ps.length<=N.length:=by have:=congrArg List.length S.pre;rw [z2g] at this;omega
  obtain ⟨h1,tk,rfl,hk⟩:=x.done;have J:∀ b:Addr,b∉(cxOf CX P w K mg base N qual scope f cd A outer s H E).ex:=λ b z=>absurd (show b∈([]:List Addr) from z) (by simp);refine ⟨⟨D.mod,S.kind,zf,zf,z48 _,λ y z c h1 h2=> ?_,λ y hy=> ?_,λ y c _ h=> ?_,λ _=>hd,Around.frames_deeper D.frames,.inr ⟨zf,zf⟩,λ b z=>absurd z (J b),D.bs,D.bsz,λ b _ _=>J b,λ b z=>absurd z (J b),D.funs,D.frf⟩,
    rfl,D.bare,Un.kept hk,⟨_,x.toInCall.ns,λ i y v h1 h2 h3=> ?_⟩,λ y c h=>⟨_,x.cell y c h⟩,D.hok.fresh (z48 _),λ y c h=> ?_,λ p O=>absurd (show p∈([]:List (Addr×Obj)) from O) (by simp),D.hok.kept hk,?_⟩
  · exact name_of_addr x.apart (z1d h1) (z1d h2)
  · have hy:scope.names.lookup y=some .cell\/ scope.names.lookup y=some .free:=hy
    rcases hy with hy | hy
    · exact qkk hy
    · exact absurd rfl (S.nofree _ (z1d hy))
  · exact z3y (x.above y c (z1d h))
  · have hi:i < vs.length:=by
      unfold start at h2;by_cases hi:i < vs.length
      · exact hi
      · rw [z05 (by simpa using hi)] at h2
        rw [List.getElem?_replicate] at h2;split at h2 <;> cases h2
    have ha:vs[i]? =some v:=by
      unfold start at h2;rw [List.getElem?_append_left (by simpa using hi),z22] at h2;cases e:vs[i]? with
      | none=>rw [e] at h2;cases h2
      | some a=>rw [e] at h2;cases h2;rfl
    obtain ⟨u,hu,rv⟩:=r.get ha;have O:ps[i]? =some y:=by
      rw [<- S.pre,List.getElem?_take_of_lt (by omega)];exact h1
    have Z:ps.Nodup:=by rw [<- S.pre];exact S.nd.sublist (List.take_sublist _ _)
    refine ⟨u,rv,?_⟩;rcases S.par y (z18 O) with k | k
    · exact .inl ⟨k,qhk Z O hu k⟩
    · obtain ⟨c,e⟩:=qkk (n:=s.heap.objs.size+1) k
      refine .inr ⟨.inl k,c,e,?_⟩;have q:=x.cell y c e;rw [qhl Z O hu (by show scope.names.lookup y≠_;rw [k];decide)] at q;exact q
  · exact D.hok.fresh (z3y (x.above y c (z1d h)))
  · unfold start
    show _=N.length;rw [z1o,z30,List.length_replicate];omega
theorem qvn {CX:CXT} {P:Program} {w:World} {K:PySem.W.Frag} {mg:Str ->Option Value} {base:Heap} {k:Nat} {f:Addr} {name qual:Str} {params:Arguments} {body:List Stmt} {scope:Scope} {dV kV a0 pm D ct oc:Value} {an od:Option Addr}
  {a4:Array (Option Value)} {N ps:List Str} {sp:Sp} (lk:K.lookup f=some ⟨oc,od,.func (PySem.W.fnOf name qual params body scope dV kV a0 pm an D ct),a4⟩) (a2:PySem.W.codeIn K D qual=true) (S:FnScope N ps scope)
  (len:∀ vs H Q E,sp vs H Q E ->vs.length=ps.length)
  (O:∀ (A:Around) (outer:List Env) (s:Shared) (H:Hp) (vs:List V) (Q:VK) (E:XK),Room k (A.deeper (envOfC qual scope s.heap.objs.size f D)) ->sp vs H Q E ->
   ∃ t,PSs (cxOf CX P w K mg base N qual scope f D A outer s H E) body t/\t {nx:=λ _ H'=>Q .non H',rt:=Q} (start N vs) H):
  FnOk P w K mg base CX (k+1) f (PySem.W.fnOf name qual params body scope dV kV a0 pm an D ct) ps sp:=by
 refine ⟨len,λ A outer s H args us vs Q E hr e0 hb r a1=> ?_⟩;have hl:=len _ _ _ _ a1;have KX:K.In s.heap:=e0.mod.kin.keeps λ b o e=>(e0.bs b o e).1;have a3:s.heap.NoLimit:=e0.mod.nolimit.keeps λ b o e=>(e0.bs b o e).1;have Z:∀ y∈ps.zip us,scope.names.lookup y.1=some .local\/ (scope.names.lookup y.1=some .cell/\((cellsFrom (s.heap.objs.size+1) scope.names []).lookup y.1).isSome=true):=λ ⟨n,v⟩ hy=>by
  rcases S.par n (List.of_mem_zip hy).1 with q | q
  ·exact .inl q
  ·exact .inr ⟨q,PySem.W.cellsFrom_some _ _ _ (.inl q)⟩
 refine codeAny_call_function hr.depth (KX _ _ lk) rfl S.co S.gen rfl (PySem.W.codeRec_of KX a2) (hb _ _ _ _ ?_);refine wpAny_newFunctionEnv_cells S.kind Z λ env he s1 x=> ?_;subst he;refine ⟨a3.keeps x.toInCall.keep,codeAny_func ?_⟩;obtain ⟨t,ht,hq⟩:=O A outer s H vs Q E (hr.deeper _) a1;have I:Inv (cxOf CX P w K mg base N qual scope f D A outer s H E) [] (start N vs) H s1:=qqq S hr.hd e0 hl r x;refine z4g (ht [] s1 (start N vs) H _ I hq) (λ fl s' hs=> ?_) λ e s' hs=>hs;have fin:∀ {σ':St} {H':Hp} {v:V} {u:Value},Inv (cxOf CX P w K mg base N qual scope f D A outer s H E) [] σ' H' s' ->RelV v u ->Q v H' ->CE outer P w H s Q u s':=
  λ {σ' H' v u} J rv q=>⟨v,H',J.os,J.bare,J.base,J.hok,rv,q⟩
 cases fl with
 | ret u=>
  obtain ⟨v,σ',H',J,rv,q⟩:=hs;exact fin J rv q
 | next=>
  obtain ⟨σ',H',J,q⟩:=hs;exact fin (v:=V.non) (u:=Value.none) J rfl q
 | brk=>
  obtain ⟨_,_,_,q⟩:=hs;exact False.elim q
 | cont=>
  obtain ⟨_,_,_,q⟩:=hs;exact False.elim q
section
variable {X:Cx} {x:Str} {p pos:Pos} {e:Expr} {es:List Expr} {t:TA} {id T:String} {r:List V ->Hp ->VK ->Prop}
def tCB (r:List V ->Hp ->VK ->Prop) (t:TA):TE:=λ σ H Q=>t σ H λ vs H1=>r vs H1 Q
theorem qq (hc:q24 X (.builtin id) r) (hg:Gl X x) (hm:X.mg x=none) (hv:bootBuiltins x=some (.builtin id)) (ha:PA X (e::es) t) (hn:x≠"__name__":=by decide) (D:(x==("__debug__":Str))=false:=by decide)
  (he:starEach (e::es) X.env=(false,eval e X.env)::starEach es X.env:=by rfl) (J:(backTo pos (starEach es X.env)).any (·.1)=false:=by rfl):PE X (.Call (.Name x p) (e::es) [] pos) (tCB r t):=by
 intro pins s σ H Q I h;refine z1s (qb0 I hg hm hv ?_ hn D);exact PyProof.Rows.callWith_builtin1 (thn (ha pos pins s σ H _ I h) λ us s1 ⟨vs,H1,I1,r1,q1⟩=>hc pins s1 σ H1 vs us Q I1 r1 q1) he J
theorem q27 (hc:q24 X (.type T) r) (hg:Gl X x) (hm:X.mg x=none) (hv:bootBuiltins x=some (.type T)) (ha:PA X (e::es) t) (hn:x≠"__name__":=by decide) (D:(x==("__debug__":Str))=false:=by decide)
  (he:starEach (e::es) X.env=(false,eval e X.env)::starEach es X.env:=by rfl) (J:(backTo pos (starEach es X.env)).any (·.1)=false:=by rfl):PE X (.Call (.Name x p) (e::es) [] pos) (tCB r t):=by
 intro pins s σ H Q I h;refine z1s (qb0 I hg hm hv ?_ hn D);exact z03 (thn (ha pos pins s σ H _ I h) λ us s1 ⟨vs,H1,I1,r1,q1⟩=>hc pins s1 σ H1 vs us Q I1 r1 q1) he J
end
end L2
namespace HT
open PySem PyProof.Rows
section
open PySem.SeqAt
open PySem.AutoSeq1 (wpAny_loadPart')
open PySem.MeetsSeq PySem.MeetsSeq2 PySem.MeetsSeq3
end
section
variable {prog:Program} {w:World} {A:Around} {E:Value ->Shared ->Prop} {s:Shared}
theorem cat_tup {t b:Addr} {vs ws:List Value} {Q:Value ->Shared ->Prop} (ht:IsTup s.heap t vs.toArray) (hb:IsTup s.heap b ws.toArray) (hv:vs≠ [])
  (h1:ws=[] ->Q (.ref t) s) (h2:ws≠ [] ->Q (.ref s.heap.objs.size) {s with heap:=s.heap.push {cls:= .type "tuple",data:= .seq (vs++ws).toArray}})
  (hsz:vs.length+ws.length<=sizeLine):wpAny (model prog w) A (binaryOp .Add (.ref t) (.ref b)) Q E s:=by
 obtain ⟨⟨cls,dd,data,sl⟩,ho,hc,n,hd⟩:=id ht;obtain ⟨⟨a2,J,a1,a0⟩,D,O,n2,Z⟩:=id hb;simp only at hc hd O Z;subst hc hd O Z;have e:vs.toArray++ws.toArray=(vs++ws).toArray:=by simp
 by_cases hw:ws=[]
 ·exact concat_meets ⟨_,ho,zf⟩ ⟨_,D,zf⟩ noFill_tuple_add seq_tuple_add PySem.F.slot_tuple_add PySem.F.entry_tuple_add (PySem.F.args_tuple_add_2 _ _)
   (tuple_addW1 t b vs.toArray ws.toArray n n2 dd J sl a0 (by simpa using hv) (by simp [hw])) ⟨ho,D,h1 hw⟩
 ·refine concat_meets ⟨_,ho,zf⟩ ⟨_,D,zf⟩ noFill_tuple_add seq_tuple_add PySem.F.slot_tuple_add PySem.F.entry_tuple_add (PySem.F.args_tuple_add_2 _ _)
   (tuple_addW2 t b vs.toArray ws.toArray n n2 dd J sl a0 (by simpa using hv) (by simpa using hw) (by rw [z23,z23];exact hsz)) ⟨ho,D,?_⟩
  rw [e];exact h2 hw
def sIx (n d:Nat):Option Int ->Nat
 | none=>d
 | some v=>if v < 0 then (v+(n:Int)).toNat else min v.toNat n
theorem sIx_none (n d:Nat):sIx n d none=d:=rfl
theorem sIx_nat (n d k:Nat):sIx n d (some (k:Int))=min k n:=by
 show (if (k:Int) < 0 then ((k:Int)+(n:Int)).toNat else min (k:Int).toNat n)=min k n;rw [if_neg (by omega),z26]
theorem sIx_le (n d:Nat) (hd:d<=n) (o:Option Int):sIx n d o<=n:=by
 cases o with
 | none=>exact hd
 | some v=>
  show (if v < 0 then (v+(n:Int)).toNat else min v.toNat n)<=n;by_cases D:v < 0
  ·rw [if_pos D];omega
  ·rw [if_neg D];exact Nat.min_le_right _ _
theorem clip_eq (v:Int) (n d:Nat):(if v < 0 then max (v+(n:Int)) 0 else min v (n:Int))=((sIx n d (some v):Nat):Int):=by
 show (if v < 0 then max (v+(n:Int)) 0 else min v (n:Int))=(((if v < 0 then (v+(n:Int)).toNat else min v.toNat n):Nat):Int);by_cases D:v < 0
 ·simp only [if_pos D];omega
 ·simp only [if_neg D];omega
end
end HT
namespace L2
open PySem PySem.Spec PyProof.Rows
abbrev TO:=St ->Hp ->(Option Int ->Hp ->Prop) ->Prop
def PO (X:Cx) (e:Option Expr) (t:TO):Prop:=
 ∀ (pins:List (Addr×Obj)) (s:Shared) (σ:St) (H:Hp) (Q:Option Int ->Hp ->Prop),Inv X pins σ H s ->t σ H Q ->
  wpAny (model X.prog X.w) X.A (evalPart e X.env) (λ u s'=>∃ o H',Inv X pins σ H' s'/\IsPart u o/\Q o H') X.xe s
def qwm:TO:=λ _ H Q=>Q none H
def q111 (t:TE):TO:=λ σ H Q=>t σ H λ x H1=>∃ i,x= .int i/\Q (some i) H1
section
variable {X:Cx} {e:Expr} {te:TE} {lo hi:Option Expr} {tl th:TO} {pos p2:Pos}
theorem q7k:PO X none qwm:=by
 intro pins s σ H Q I h;rw [evalPart_none];exact z4e ⟨none,H,I,.none,h⟩
theorem q3z (h:PE X e te):PO X (some e) (q111 te):=by
 intro pins s σ H Q I hw;rw [evalPart_some];refine thn (h pins s σ H _ I hw) λ u s1 D=> ?_;obtain ⟨x,H1,I1,r1,q1⟩:=D;obtain ⟨i,rfl,q⟩:=q1;obtain ⟨t,rfl⟩:=r1;exact ⟨some i,H1,I1,.int i t,q⟩
def SlR (X:Cx) (r:V ->Option Int ->Option Int ->Hp ->VK ->Prop):Prop:=
 ∀ (pins:List (Addr×Obj)) (s:Shared) (σ:St) (H:Hp) (x:V) (v vl vu:Value) (lo hi:Option Int) (sl:Addr) (Q:VK),Inv X pins σ H s ->RelV x v ->s.heap.IsSliceOf sl vl vu .none ->IsPart vl lo ->IsPart vu hi ->r x lo hi H Q ->
  ∃ T id,typeLookup (.type T) "__getitem__"=pure (some (.builtin id))/\s.TypeIs v T/\wpAny (model X.prog X.w) X.A (getItem v (.ref sl)) (EP X pins σ Q) X.xe s
def tSl (r:V ->Option Int ->Option Int ->Hp ->VK ->Prop) (te:TE) (tl th:TO):TE:=λ σ H Q=>te σ H λ x H1=>tl σ H1 λ l H2=>th σ H2 λ u H3=>r x l u H3 Q
theorem q45 {r:V ->Option Int ->Option Int ->Hp ->VK ->Prop} (hr:SlR X r) (he:PE X e te) (hl:PO X lo tl) (hu:PO X hi th):PE X (.Subscript e (.Slice lo hi none p2) pos) (tSl r te tl th):=by
 intro pins s σ H Q I h;refine Subscript_ (thn (he pins s σ H _ I h) λ v s1 D=> ?_);obtain ⟨x,H1,I1,r1,q1⟩:=D;refine wpAny_Slice (thn (hl pins s1 σ H1 _ I1 q1) λ J s2 ⟨l,H2,I2,pl,q2⟩=>thn (hu pins s2 σ H2 _ I2 q2) λ O s3 D=> ?_);obtain ⟨u,H3,I3,pu,q3⟩:=D;rw [evalPart_none];refine z4e ?_;have I4:Inv X pins σ H3 {s3 with heap:=s3.heap.push {cls:= .type "slice",data:= .fields #[J,O,.none]}}:=I3.kept (t':=s3.toks) λ b ob q=>z0o _ q;obtain ⟨T,id,hT,ht,hg⟩:=hr pins {s3 with heap:=s3.heap.push {cls:= .type "slice",data:= .fields #[J,O,.none]}} σ H3 x v J O l u s3.heap.objs.size Q I4 r1 (Heap.IsSliceOf.new ..) pl pu q3;show wpAny (model X.prog X.w) X.A (subscriptTail e (.Slice lo hi none p2) v (.ref s3.heap.objs.size)) (EP X pins σ Q) X.xe {s3 with heap:=s3.heap.push {cls:= .type "slice",data:= .fields #[J,O,.none]}};exact tail_any (ops:=[.ref s3.heap.objs.size,v]) ht hT hg (by with_unfolding_all rfl)
def cutV (xs:List V) (lo hi:Option Int):List V:=(xs.drop (HT.sIx xs.length 0 lo)).take (HT.sIx xs.length xs.length hi - HT.sIx xs.length 0 lo)
theorem qmq (xs:List V) (lo hi:Option Int):(cutV xs lo hi).length<=xs.length:=by
 unfold cutV;rw [z2g,z2h];omega
def q112 (K:PySem.W.Frag):R2:=λ x y H Q=>∃ a b xs ys,x= .ref a/\y= .ref b/\SqT K H a xs/\SqT K H b ys/\xs≠ []/\xs.length+ys.length<=sizeLine/\
 (ys=[] ->Q (.ref a) H)/\(ys≠ [] ->∀ p,H p=none ->Q (.ref p) (upd H p (.tup (xs++ys))))
theorem Vals.qcb {xs:List V} {us:List Value} (r:Vals xs us):us=[]↔xs=[]:=by
 cases r with
 | nil=>simp
 | cons _ _=>simp
theorem qwn:OpR X (binaryOp .Add) (q112 X.K):=by
 intro pins s σ H x y v u Q I rx ry h;obtain ⟨a,b,xs,ys,rfl,rfl,ha,hb,hx,hz,q1,q2⟩:=h;cases rx
 cases ry
 obtain ⟨its,r1,p1,_⟩:=I.tuple ha;obtain ⟨D,r2,p2,_⟩:=I.tuple hb;refine HT.cat_tup p1 p2 (λ z=>hx (r1.qcb.mp z)) (λ z=>⟨.ref a,H,I,rfl,q1 (r2.qcb.mp z)⟩) (λ z=> ?_) (by rw [<- r1.length,<- r2.length];exact hz);refine ⟨.ref s.heap.objs.size,_,I.laid (t':=s.toks) (o:= .tup (xs++ys)) (λ b ob q=>z0o _ q) (z48 _) ?_,zf,q2 (λ w=>z (r2.qcb.mpr w)) _ (I.hok.fresh (z48 _))⟩;exact ⟨by rw [z1o];exact hz,_,r1.append r2,IsTup.new _ _⟩
end
def ixN (n:Nat) (i:Int):Option Nat:=if 0<=i then (if i < n then some i.toNat else none) else if -(n:Int)<=i then some (i+n).toNat else none
def atI {α:Type} (xs:List α) (i:Int):Option α:=(ixN xs.length i).bind λ j=>xs[j]?
theorem qwo {n:Nat} {i:Int} {j:Nat} (h:ixN n i=some j):seqIndex? i n=some j/\j < n/\ -(n:Int)<=i/\i < n:=by
 unfold ixN at h;by_cases h0:0<=i
 ·rw [if_pos h0] at h;by_cases h1:i < n
  ·rw [if_pos h1] at h;have e:i.toNat=j:=Option.some.inj h;exact ⟨by rw [seqIndex_of h0 h1,e],by omega,by omega,h1⟩
  ·rw [if_neg h1] at h;cases h
 ·rw [if_neg h0] at h;by_cases h1: -(n:Int)<=i
  ·rw [if_pos h1] at h;have e:(i+n).toNat=j:=Option.some.inj h;exact ⟨by rw [seqIndex_neg (by omega) h1,e],by omega,h1,by omega⟩
  ·rw [if_neg h1] at h;cases h
theorem qnn {α:Type} {xs:List α} {i:Int} {v:α} (h:atI xs i=some v):∃ j,seqIndex? i xs.length=some j/\xs[j]? =some v/\j < xs.length/\ -(xs.length:Int)<=i/\i < xs.length:=by
 unfold atI at h;cases e:ixN xs.length i with
 | none=>rw [e] at h;cases h
 | some j=>
  rw [e] at h;obtain ⟨h1,h2,h3,h4⟩:=qwo e;exact ⟨j,h1,h,h2,h3,h4⟩
theorem q4k {α:Type} {xs:List α} {j:Nat} {v:α} (h:xs[j]? =some v):atI xs (j:Int)=some v:=by
 have hj:j < xs.length:=(z07.mp h).1;have e:ixN xs.length (j:Int)=some j:=by
  unfold ixN;rw [if_pos (by omega),if_pos (by omega)];simp
 unfold atI;rw [e];exact h
def qwp (b:Expr):Prop:=∀ o i,subscripted b false o i=operate [o,i] (getItem o i)
def IxR (X:Cx) (r:R2):Prop:=
 ∀ (value slice:Expr) (pins:List (Addr×Obj)) (s:Shared) (σ:St) (H:Hp) (x y:V) (v u:Value) (Q:VK),Inv X pins σ H s ->RelV x v ->RelV y u ->r x y H Q ->
  subscripted slice false v u=operate [v,u] (getItem v u) ->wpAny (model X.prog X.w) X.A (subscriptTail value slice v u) (EP X pins σ Q) X.xe s
def MtR (X:Cx) (id:String) (r:V ->List V ->Hp ->VK ->Prop):Prop:=
 ∀ (pins:List (Addr×Obj)) (s:Shared) (σ:St) (H:Hp) (x:V) (xs:List V) (v:Value) (us:List Value) (Q:VK),Inv X pins σ H s ->RelV x v ->Vals xs us ->r x xs H Q ->
  wpAny (model X.prog X.w) X.A (call (.builtin id) (v::us)) (EP X pins σ Q) X.xe s
section
variable {X:Cx} {a b:Expr} {ta tb:TE} {pos:Pos}
theorem q1g {r:R2} (hr:IxR X r) (ha:PE X a ta) (hb:PE X b tb) (hs:qwp b):PE X (.Subscript a b pos) (tOp r ta tb):=by
 intro pins s σ H Q I h;exact Subscript_ (binT ha hb I h λ v u s2 x y H2 I2 rx ry q=>hr a b pins s2 σ H2 x y v u Q I2 rx ry q (hs _ _))
def rIxL (K:PySem.W.Frag):R2:=λ x y H Q=>∃ p xs i v,x= .ref p/\y= .int i/\SqL K H p xs/\atI xs i=some v/\Q v H
def rIxS:R2:=λ x y H Q=>∃ z i c,x= .str z/\y= .int i/\z.length<=sizeLine/\atI z.cps.toList i=some c/\Q (.str ⟨#[c]⟩) H
theorem qwq:IxR X (rIxL X.K):=by
  intro value O pins s σ H x y v u Q I rx ry h hs;obtain ⟨p,xs,i,z,rfl,rfl,hq,he,q⟩:=h;cases rx
  obtain ⟨t,rfl⟩:=ry;obtain ⟨its,r,pl,hz⟩:=I.list hq;obtain ⟨j,h1,h2,h3,h4,h5⟩:=qnn he;obtain ⟨w,Z,J⟩:=r.get h2;have hl:=r.length;have hn:=qki;have fin:EP X pins σ Q w s:=⟨z,H,I,J,q⟩;by_cases h0:0<=i
  · have D:i.toNat=j:=by
      rw [seqIndex_of h0 h5] at h1;exact Option.some.inj h1
    exact item_listR pl.isList h0 (by omega) (by rw [D];simpa using Z) fin hs
  · have D:(i+(its.toArray.size:Int)).toNat=j:=by
      rw [seqIndex_neg (by omega) h4] at h1;rw [z23,<- hl];exact Option.some.inj h1
    exact subscriptTail_builtinR (x:=w) pl.isList.typeIs slot_list_getitem.lookup
      (wpAny_getItem_list_neg (Q:=λ r s'=>r=w/\EP X pins σ Q r s') pl.isList (by omega) (by rw [z23] <;> omega) (by omega) (by rw [D];simpa using Z) ⟨rfl,fin⟩) hs
theorem qkl:IxR X rIxS:=by
 intro value D pins s σ H x y v u Q I rx ry h hs;obtain ⟨z,i,c,rfl,rfl,hz,he,q⟩:=h;obtain ⟨t,rfl⟩:=rx;obtain ⟨t',rfl⟩:=ry;obtain ⟨j,h1,h2,h3,h4,h5⟩:=qnn he;have hl:z.cps.toList.length=z.length:=by simp [Str.length]
 rw [hl] at h1 h4 h5;have hn:=qki;exact tail_any (typeIs_str s z t) slot_str_getitem.lookup (getItem_str (c:=c) (by
  have e1:decide (i < -(2^63:Int))=false:=z2w (by omega);have e2:decide (i >=2^63)=false:=z2w (by omega);rw [e1,e2,Bool.or_false]) (by rw [h1];simpa using h2) ⟨.str ⟨#[c]⟩,H,I.tok _,⟨_,rfl⟩,q⟩) hs
theorem qkm (lo hi:Option Int) (n:Nat):(sliceBounds lo hi none n).1=((HT.sIx n 0 lo:Nat):Int)/\(sliceBounds lo hi none n).2.1=((HT.sIx n n hi:Nat):Int)/\(sliceBounds lo hi none n).2.2=1:=by
 refine ⟨?_,?_,zf⟩
 ·cases lo with
  | none=>simp [sliceBounds,HT.sIx]
  | some i=>
   simp only [sliceBounds,HT.sIx,Option.getD_none,show (1:Int) > 0 by decide,if_true];by_cases h:i < 0
   ·simp only [h,if_true] <;> omega
   ·simp only [h,if_false] <;> omega
 ·cases hi with
  | none=>simp [sliceBounds,HT.sIx]
  | some i=>
   simp only [sliceBounds,HT.sIx,Option.getD_none,show (1:Int) > 0 by decide,if_true];by_cases h:i < 0
   ·simp only [h,if_true] <;> omega
   ·simp only [h,if_false] <;> omega
theorem qih (its:List Value) (lo hi:Option Int):slicePick its.toArray lo hi none=((its.drop (HT.sIx its.length 0 lo)).take (HT.sIx its.length its.length hi - HT.sIx its.length 0 lo)).toArray:=by
 obtain ⟨h1,h2,h3⟩:=qkm lo hi its.toArray.size;unfold slicePick;rw [h1,h2,h3];simp only [sliceRange_one,pick_run,z23] <;> rfl
def rSlL (K:PySem.W.Frag):V ->Option Int ->Option Int ->Hp ->VK ->Prop:=λ x lo hi H Q=>∃ a xs,x= .ref a/\SqL K H a xs/\∀ p,H p=none ->Q (.ref p) (upd H p (.lst (cutV xs lo hi)))
theorem qwr:SlR X (rSlL X.K):=by
 intro pins s σ H x v vl vu lo hi sl Q I rx hs pl pu h;obtain ⟨a,xs,rfl,hx,q⟩:=h;cases rx
 obtain ⟨its,r,J,hz⟩:=I.list hx;have D:=r.length;refine ⟨"list",_,slot_list_getitem.lookup,J.isList.typeIs,?_⟩;refine wpAny_getItem_list_slice J.isList hs pl pu .none (by simp) ?_ (by rw [z23] <;> omega);rw [qih,<- D];refine ⟨.ref s.heap.objs.size,_,I.laid (t':=s.toks) (o:= .lst (cutV xs lo hi)) (λ b ob q=>z0o _ q) (z48 _) ?_,zf,q _ (I.hok.fresh (z48 _))⟩;exact ⟨z41 (qmq xs lo hi) hz,_,0,(r.drop (HT.sIx xs.length 0 lo)).take (HT.sIx xs.length xs.length hi - HT.sIx xs.length 0 lo),z1c _ rfl⟩
def q7h:V ->Bool
 | .non=>true
 | .bl _=>true
 | .int _=>true
 | .str _=>true
 | _=>false
def eqV:V ->V ->Bool
 | .non,.non=>true
 | .bl a,.bl b=>a==b
 | .bl a,.int b=>(if a then 1 else 0)==b
 | .int a,.bl b=>a==(if b then 1 else 0)
 | .int a,.int b=>a==b
 | .str a,.str b=>a==b
 | _,_=>false
theorem qyw {A:Around} {s:Shared} {y x:V} {u v:Value} (ry:RelV y u) (rx:RelV x v) (fy:q7h y=true) (D:q7h x=true):SeqAt.EqAt A s u v (eqV y x):=by
 cases y with
 | non=>
  cases ry
  cases x with
  | non=>cases rx;exact SeqAt.EqAt.same _
  | bl b=>cases rx;exact SeqAt.EqAt.none_bool b
  | int b=>obtain ⟨t,rfl⟩:=rx;exact SeqAt.EqAt.none_int b t
  | str b=>obtain ⟨t,rfl⟩:=rx;exact SeqAt.EqAt.none_str b t
  | _=>exact absurd (show false=true from D) z1l
 | bl a=>
  cases ry
  cases x with
  | non=>cases rx;exact SeqAt.EqAt.bool_none a
  | bl b=>cases rx;exact SeqAt.EqAt.bool_bool a b
  | int b=>obtain ⟨t,rfl⟩:=rx;exact SeqAt.EqAt.bool_int a b t
  | str b=>obtain ⟨t,rfl⟩:=rx;exact SeqAt.EqAt.bool_str a b t
  | _=>exact absurd (show false=true from D) z1l
 | int a=>
  obtain ⟨t',rfl⟩:=ry;cases x with
  | non=>cases rx;exact SeqAt.EqAt.int_none a t'
  | bl b=>cases rx;exact SeqAt.EqAt.int_bool a t' b
  | int b=>obtain ⟨t,rfl⟩:=rx;exact SeqAt.EqAt.int_int a t' b t
  | str b=>obtain ⟨t,rfl⟩:=rx;exact SeqAt.EqAt.int_str a t' b t
  | _=>exact absurd (show false=true from D) z1l
 | str a=>
  obtain ⟨t',rfl⟩:=ry;cases x with
  | non=>cases rx;exact SeqAt.EqAt.str_none a t'
  | bl b=>cases rx;exact SeqAt.EqAt.str_bool a t' b
  | int b=>obtain ⟨t,rfl⟩:=rx;exact SeqAt.EqAt.str_int a t' b t
  | str b=>obtain ⟨t,rfl⟩:=rx;exact SeqAt.EqAt.str_str a t' b t
  | _=>exact absurd (show false=true from D) z1l
 | _=>exact absurd (show false=true from fy) z1l
def eqU (x:V) (u:Value):Bool:=match u with
 | .none=>eqV .non x
 | .bool b=>eqV (.bl b) x
 | .int i _=>eqV (.int i) x
 | .str z _=>eqV (.str z) x
 | _=>false
theorem qqr {x y:V} {u:Value} (r:RelV y u) (f:q7h y=true):eqU x u=eqV y x:=by
 cases y with
 | non=>cases r;rfl
 | bl b=>cases r;rfl
 | int i=>obtain ⟨t,rfl⟩:=r;rfl
 | str z=>obtain ⟨t,rfl⟩:=r;rfl
 | _=>exact absurd (show false=true from f) z1l
theorem q94 {x:V}:∀ {xs:List V} {us:List Value},Vals xs us ->xs.all q7h=true ->us.any (eqU x)=xs.any λ y=>eqV y x
 | _,_,.nil,_=>rfl
 | y::xs,u::us,.cons r t,f=>by
  rw [List.all_cons,z2m] at f;rw [z3q,z3q,qqr r f.1,q94 t f.2]
theorem q7v {A:Around} {s:Shared} {x:V} {v:Value} (rx:RelV x v) (J:q7h x=true):∀ {xs:List V} {us:List Value},Vals xs us ->xs.all q7h=true ->∀ u∈us,SeqAt.EqAt A s u v (eqU x u)
 | _,_,.nil,_=>λ u D=>by cases D
 | y::xs,u::us,.cons r t,f=>λ u' D=>by
  rw [List.all_cons,z2m] at f;rcases z3n.mp D with rfl | D
  ·rw [qqr r f.1];exact qyw r rx f.1 J
  ·exact q7v rx J t f.2 u' D
def inV (x:V) (xs:List V):Bool:=xs.any λ y=>eqV y x
def rIn (K:PySem.W.Frag) (neg:Bool):R2:=λ x y H Q=>∃ p xs,y= .ref p/\(SqL K H p xs\/ SqT K H p xs)/\q7h x=true/\xs.all q7h=true/\Q (.bl (if neg then !inV x xs else inV x xs)) H
theorem qqs:OpR X (compareOp .In) (rIn X.K false):=by
 intro pins s σ H x y v u Q I rx ry h;obtain ⟨p,xs,rfl,hq,D,fs,q⟩:=h;cases ry
 rcases hq with hq | hq
 ·obtain ⟨its,r,pl,hz⟩:=I.list hq;refine SeqAt.in_listAt (eqU x) pl.isList (λ w hw=>q7v rx D r fs w (by simpa using hw)) ⟨.bl _,H,I,zf,?_⟩;rw [show its.toArray.any (eqU x)=its.any (eqU x) by simp,q94 r fs];exact q
 ·obtain ⟨its,r,pl,hz⟩:=I.tuple hq;refine SeqAt.in_tupleAt (eqU x) pl (λ w hw=>q7v rx D r fs w (by simpa using hw)) ⟨.bl _,H,I,zf,?_⟩;rw [show its.toArray.any (eqU x)=its.any (eqU x) by simp,q94 r fs];exact q
theorem qkn:OpR X (compareOp .NotIn) (rIn X.K true):=by
 intro pins s σ H x y v u Q I rx ry h;obtain ⟨p,xs,rfl,hq,D,fs,q⟩:=h;cases ry
 rcases hq with hq | hq
 ·obtain ⟨its,r,pl,hz⟩:=I.list hq;refine SeqAt.notIn_listAt (eqU x) pl.isList (λ w hw=>q7v rx D r fs w (by simpa using hw)) ⟨.bl _,H,I,zf,?_⟩;rw [show its.toArray.any (eqU x)=its.any (eqU x) by simp,q94 r fs];exact q
 ·obtain ⟨its,r,pl,hz⟩:=I.tuple hq;refine SeqAt.notIn_tupleAt (eqU x) pl (λ w hw=>q7v rx D r fs w (by simpa using hw)) ⟨.bl _,H,I,zf,?_⟩;rw [show its.toArray.any (eqU x)=its.any (eqU x) by simp,q94 r fs];exact q
theorem qko:q24 X (.type "list") (λ xs H Q=>∃ p ys,xs=[.ref p]/\(SqL X.K H p ys\/ SqT X.K H p ys)/\∀ l,H l=none ->Q (.ref l) (upd H l (.lst ys))):=by
 intro pins s σ H xs us Q I r h;obtain ⟨p,ys,rfl,hq,q⟩:=h;obtain ⟨u,rfl,rx⟩:=q3b r;cases rx
 have fin:∀ (its:List Value),Vals ys its ->ys.length<=sizeLine ->∀ (h':Heap) (D:Nat),(∀ b o',s.heap.get? b=some o' ->h'.get? b=some o') ->
   h'.get? s.heap.objs.size=some {cls:= .type "list",dict:=none,data:= .seq its.toArray D,slots:=#[]} ->EP X pins σ Q (.ref s.heap.objs.size) {s with heap:=h'}:=λ its J hz h' D kp e=>
  ⟨.ref s.heap.objs.size,_,I.laid (t':=s.toks) kp (z48 _) (show ObjOk X.prog X.w _ h' _ (.lst ys) from ⟨hz,its,D,J,e⟩),rfl,q _ (I.hok.fresh (z48 _))⟩
 rcases hq with hq | hq
 ·obtain ⟨its,J,pl,hz⟩:=I.list hq;have O:=J.length;obtain ⟨o,ho,Z,n,hd⟩:=pl.isList;exact call_list_seq p (.inl rfl) ho Z hd (λ h' D kp e=>fin its J hz h' D kp e) (by simp only [z23] <;> omega)
 ·obtain ⟨its,J,pl,hz⟩:=I.tuple hq;have O:=J.length;obtain ⟨o,ho,Z,n,hd⟩:=pl;exact call_list_seq p (.inr rfl) ho Z hd (λ h' D kp e=>fin its J hz h' D kp e) (by simp only [z23] <;> omega)
theorem qii:q24 X (.type "tuple") (λ xs H Q=>∃ p ys,xs=[.ref p]/\((SqL X.K H p ys/\∀ l,H l=none ->Q (.ref l) (upd H l (.tup ys)))\/ (SqT X.K H p ys/\Q (.ref p) H))):=by
 intro pins s σ H xs us Q I r h;obtain ⟨p,ys,rfl,h⟩:=h;obtain ⟨u,rfl,rx⟩:=q3b r;cases rx
 rcases h with ⟨hq,q⟩ | ⟨hq,q⟩
 ·obtain ⟨its,D,pl,hz⟩:=I.list hq;have J:=D.length;refine call_tuple_list pl.isList (λ h' kp=> ?_) (by simp only [z23] <;> omega);have I1:Inv X pins σ H {s with heap:=h'}:=I.kept (t':=s.toks) kp;have I2:Inv X pins σ (upd H h'.objs.size (.tup ys)) {s with heap:=h'.push {cls:= .type "tuple",data:= .seq its.toArray}}:=
   I1.laid (t':=s.toks) (λ b o e=>z0o _ e) (z48 _) (show ObjOk X.prog X.w _ _ _ (.tup ys) from ⟨hz,its,D,IsTup.new _ _⟩)
  exact ⟨.ref h'.objs.size,_,I2,zf,q _ (I1.hok.fresh (z48 _))⟩
 ·obtain ⟨its,D,pl,hz⟩:=I.tuple hq;exact call_tuple_same pl ⟨.ref p,H,I,zf,q⟩
def tyV (K:PySem.W.Frag) (T:String) (x:V) (H:Hp):Prop:=match x with
 | .str _=>T="str"
 | .int _=>T="int"
 | .ref p=>(T="list"/\∃ xs,SqL K H p xs)\/ (T="tuple"/\∃ o,K.lookup p=some o/\o.cls= .type "tuple"/\o.dict=none)\/
   (T="dict"/\((∃ kvs,H p=some (.dK kvs))\/ ∃ kvs,H p=some (.dT kvs)))\/ (T="set"/\∃ S n,H p=some (.set S n))
 | _=>False
theorem qqt {pins:List (Addr×Obj)} {σ:St} {H:Hp} {s:Shared} {T:String} {x:V} {v:Value} (I:Inv X pins σ H s) (r:RelV x v) (ty:tyV X.K T x H):
    s.TypeIs v T/\∀ a,v= .ref a ->∃ D,s.heap.get? a=some D/\D.dict=none:=by
  cases x with
  | str z=>
    obtain ⟨t,rfl⟩:=r;cases (show T="str" from ty)
    exact ⟨typeIs_str s z t,λ _ e=>nomatch e⟩
  | int i=>
    obtain ⟨t,rfl⟩:=r;cases (show T="int" from ty)
    exact ⟨typeIs_int s i t,λ _ e=>nomatch e⟩
  | ref p=>
    cases r
    rcases ty with ⟨rfl,xs,hq⟩ | ⟨rfl,o,hk,hc,hd⟩ | ⟨rfl,hk⟩ | ⟨rfl,S,n,hk⟩
    · obtain ⟨its,_,pl,_⟩:=I.list hq
      refine ⟨pl.isList.typeIs,λ a e=> ?_⟩;cases e
      obtain ⟨o,n,e,c,hd,_⟩:=pl;exact ⟨o,e,hd⟩
    · refine ⟨⟨o,I.kIn p o hk,hc⟩,λ a e=> ?_⟩
      cases e
      exact ⟨o,I.kIn _ o hk,hd⟩
    · have z:∃ o,s.heap.get? p=some o/\o.ExactDict:=by
        rcases hk with ⟨kvs,hk⟩ | ⟨kvs,hk⟩
        · obtain ⟨_,_,_,_,o,_,_,e,ex,_⟩:=I.hok p _ hk
          exact ⟨o,e,ex⟩
        · obtain ⟨_,_,_,_,o,_,_,e,ex,_⟩:=I.hok p _ hk
          exact ⟨o,e,ex⟩
      obtain ⟨o,e,ex⟩:=z;refine ⟨⟨o,e,ex.1⟩,λ a e2=> ?_⟩;cases e2
      exact ⟨o,e,ex.2.1⟩
    · obtain ⟨o,_,_,_,e,ex,_⟩:=I.hok p _ hk
      refine ⟨⟨o,e,ex.1⟩,λ a e2=> ?_⟩;cases e2
      exact ⟨o,e,ex.2.1⟩
  | _=>exact False.elim ty
def tBM0 (K:PySem.W.Frag) (T:String) (r:V ->List V ->Hp ->VK ->Prop) (to:TE):TE:=λ σ H Q=>to σ H λ x H1=>tyV K T x H1/\r x [] H1 Q
def tBM (K:PySem.W.Frag) (T:String) (r:V ->List V ->Hp ->VK ->Prop) (to:TE) (t:TA):TE:=λ σ H Q=>to σ H λ x H1=>tyV K T x H1/\t σ H1 λ xs H2=>r x xs H2 Q
variable {o e:Expr} {es:List Expr} {to:TE} {t:TA} {name:Str} {apos cpos:Pos} {T id:String} {r:V ->List V ->Hp ->VK ->Prop}
theorem qyx (pa:PlainAttrs T) (slot:Slot T name id) (O:typeOf (.builtin id)=pure (.type "method_descriptor")) (hm:MtR X id r) (ho:PE X o to)
  (D:attributeBase o name X.env (eval o X.env)=eval o X.env:=by rfl) (J:(apos.endLine==cpos.line)=true:=by rfl):PE X (.Call (.Attribute o name apos) [] [] cpos) (tBM0 X.K T r to):=by
 intro pins s σ H Q I h;refine wpAny_Call_method0_late D J (thn (ho pins s σ H _ I h) λ v s1 Z=> ?_);obtain ⟨x,H1,I1,r1,ty,q1⟩:=Z;obtain ⟨h1,h2⟩:=qqt I1 r1 ty;exact ⟨T,id,pa,slot,O,h1,h2,Calls.callWith_builtin rfl (PySem.evalArgs_none (hm pins s1 σ H1 x [] v [] Q I1 r1 .nil q1))⟩
theorem q8o (pa:PlainAttrs T) (slot:Slot T name id) (a0:typeOf (.builtin id)=pure (.type "method_descriptor")) (hm:MtR X id r) (ho:PE X o to) (ha:PA X (e::es) t)
  (J:attributeBase o name X.env (eval o X.env)=eval o X.env:=by rfl)
  (Z:((backTo cpos (starEach (e::es) X.env)).all (λ x=> !x.1)&&(backToKw cpos (keywordEach [] X.env)).all (λ x=>x.1.isSome)
   &&decide ((e::es).length+([]:List Keyword).length+(if ([]:List Keyword).isEmpty then 0 else 1) < 30))=true:=by rfl)
  (O:(apos.endLine==cpos.line)=true:=by rfl) (hs:starEach (e::es) X.env=(false,eval e X.env)::starEach es X.env:=by rfl) (D:(backTo cpos (starEach es X.env)).any (·.1)=false:=by rfl):
  PE X (.Call (.Attribute o name apos) (e::es) [] cpos) (tBM X.K T r to t):=by
 intro pins s σ H Q I h;refine wpAny_Call_method_late J Z O rfl (thn (ho pins s σ H _ I h) λ v s1 a1=> ?_);obtain ⟨x,H1,I1,r1,ty,q1⟩:=a1;obtain ⟨h1,h2⟩:=qqt I1 r1 ty;refine ⟨T,id,pa,slot,a0,h1,h2,?_⟩;have hA:=ha cpos pins s1 σ H1 _ I1 q1;rw [hs] at hA ⊢;refine Calls.callWith_builtin (by show (false || (backTo cpos (starEach es X.env)).any (·.1))=false;rw [D] <;> rfl) (Calls.evalArgs_plain ?_);exact thn hA λ us s2 ⟨vs,H2,I2,r2,q2⟩=>hm pins s2 σ H2 x vs v us Q I2 r1 r2 q2
/- xs.append(e),list.index on a module's tuple .. are MtR facts of 06m -/
end
def MtM (X:Cx) (id:String) (r:V ->List V ->Hp ->VK ->Prop):Prop:=
 ∀ (pins:List (Addr×Obj)) (s:Shared) (σ:St) (H:Hp) (x:V) (xs:List V) (v:Value) (us:List Value) (Q:VK),Inv X pins σ H s ->RelV x v ->Vals xs us ->r x xs H Q ->
  wpAny (model X.prog X.w) X.A (call (.builtin id) (v::us)) (EP X pins σ Q) X.xe s
theorem Vals.one:∀ {x:V} {us:List Value},Vals [x] us ->∃ u,us=[u]/\RelV x u
 | _,_,.cons r .nil=>⟨_,rfl,r⟩
theorem Vals.zero:∀ {us:List Value},Vals [] us ->us=[]
 | _,.nil=>rfl
theorem Vals.dropLast {xs:List V} {us:List Value} (h:Vals xs us):Vals xs.dropLast us.dropLast:=by
 induction h with
 | nil=>exact .nil
 | cons r t ih=>
  cases t with
  | nil=>exact .nil
  | cons q t'=>exact .cons r ih
theorem Vals.rep {xs:List V} {us:List Value} (h:Vals xs us):∀ k:Nat,Vals (List.replicate k xs).flatten (List.replicate k us).flatten
 | 0=> .nil
 | k+1=>by
  rw [z1e,z1e,z27,z27];exact Vals.append h (Vals.rep h k)
theorem qp0 {α:Type} (l:List α):l.eraseIdx (l.length - 1)=l.dropLast:=by
 induction l with
 | nil=>rfl
 | cons a r ih=>
  cases r with
  | nil=>rfl
  | cons b r=>
   have e:(a::b::r).length - 1=((b::r).length - 1)+1:=by
    have h1:(a::b::r).length=r.length+2:=rfl;have h2:(b::r).length=r.length+1:=rfl;omega
   rw [e,List.eraseIdx_cons_succ,ih]
   all_goals rfl
theorem qhm (its:List Value):∀ (k:Nat) (acc:List Value),
  List.foldl (λ x1 x2=>x1++x2) acc.toArray (List.replicate k its.toArray)=(acc++(List.replicate k its).flatten).toArray
 | 0,acc=>by simp
 | k+1,acc=>by
  have e:acc.toArray++its.toArray=(acc++its).toArray:=by simp
  have e2:(acc++its)++(List.replicate k its).flatten=acc++(List.replicate (k+1) its).flatten:=by
   rw [z1e,z27,z1y]
  rw [<- e2,<- qhm its k (acc++its),<- e,z1e,List.foldl_cons]
section
variable {X:Cx} {pins:List (Addr×Obj)} {σ:St} {H:Hp} {s:Shared} {l b:Addr} {xs ys zs:List V}
theorem Inv.lset {its its':List Value} {n:Nat} {f:Array Value ->Array Value} {t':Nat} (I:Inv X pins σ H s) (hH:H l=some (.lst xs))
  (e:s.heap.get? l=some {cls:= .type "list",data:= .seq its.toArray n}) (hf:f its.toArray=its'.toArray) (hv:Vals ys its') (hz:ys.length<=sizeLine):
  Inv X pins σ (upd H l (.lst ys)) {s with heap:=s.heap.update l (Obj.mapSeq f),toks:=t'}:=by
 have q:=PySem.IsL.update e f;rw [hf] at q;refine I.write (x:=l) (e:=l) (by rw [hH];exact trivial) (.inl rfl) (λ b' u hb hu=>(z0p s.heap (Obj.mapSeq f) (Ne.symm hb)).trans hu) ⟨_,q⟩ ?_;exact ⟨hz,its',_,hv,q⟩
theorem Inv.lnew {its:List Value} {t':Nat} (I:Inv X pins σ H s) (hv:Vals ys its) (hz:ys.length<=sizeLine):
  Inv X pins σ (upd H s.heap.objs.size (.lst ys)) {s with heap:=s.heap.push {cls:= .type "list",data:= .seq its.toArray},toks:=t'}:=
 I.laid (λ _ _ q=>z0o _ q) (z48 _) ⟨hz,its,0,hv,z1c _ rfl⟩
theorem Inv.fresh (I:Inv X pins σ H s):H s.heap.objs.size=none:=I.hok.fresh (z48 _)
theorem Inv.lstM (I:Inv X pins σ H s) (hH:H l=some (.lst xs)):xs.length<=sizeLine/\∃ (its:List Value) (n:Nat),Vals xs its/\xs.length=its.length/\s.heap.get? l=some {cls:= .type "list",data:= .seq its.toArray n}:=by
 obtain ⟨z,its,n,r,e⟩:=I.hok l _ hH;exact ⟨z,its,n,r,r.length,e⟩
theorem qkp {n:Nat} (h:n<=sizeLine):Builtin.List.listTooLong n=false:=by
 unfold Builtin.List.listTooLong;exact z2w (by omega)
end
section
variable {X:Cx}
def qws:V ->List V ->Hp ->VK ->Prop:=λ x vs H Q=>∃ l xs y,x= .ref l/\vs=[y]/\H l=some (.lst xs)/\xs.length < sizeLine/\Q .non (upd H l (.lst (xs++ [y])))
theorem q6r:MtM X "list.append" qws:=by
 intro pins s σ H x vs v us Q I rx rv h;obtain ⟨l,xs,y,rfl,rfl,D,hz,q⟩:=h;cases rx
 obtain ⟨u,rfl,ru⟩:=rv.one;obtain ⟨z,its,n,r,hl,e⟩:=I.lstM D;refine call_meets F.slot_list_append ⟨_,e,rfl⟩ F.entry_list_append (F.args_list_append_2 _ _) (PySem.list_append l its.toArray n u (by rw [z23];omega)) ⟨e,?_⟩;refine ⟨.non,_,I.lset (its':=its++ [u]) D e (by simp) (r.append (.cons ru .nil)) ?_,zf,q⟩;rw [z1o,z0y];omega
def qwt:V ->List V ->Hp ->VK ->Prop:=λ x vs H Q=>∃ l b xs zs,x= .ref l/\vs=[.ref b]/\H l=some (.lst xs)/\H b=some (.lst zs)/\xs.length+zs.length<=sizeLine/\Q .non (upd H l (.lst (xs++zs)))
theorem q8p:MtM X "list.extend" qwt:=by
 intro pins s σ H x vs v us Q I rx rv h;obtain ⟨l,b,xs,zs,rfl,rfl,O,hB,hz,q⟩:=h;cases rx
 obtain ⟨u,rfl,ru⟩:=rv.one;cases ru
 obtain ⟨z,its,n,r,hl,e⟩:=I.lstM O;obtain ⟨z2,D,n2,r2,hl2,e2⟩:=I.lstM hB;have hsz:its.toArray.size+D.toArray.size<=sizeLine:=by rw [z23,z23];omega
 have J:¬ (!its.toArray.isEmpty&&Builtin.List.listTooLong (its.toArray.size+D.toArray.size))=true:=by
  rw [qkp hsz,Bool.and_false];exact z1l
 refine call_meets F.slot_list_extend ⟨_,e,zf⟩ F.entry_list_extend (F.args_list_extend_2 _ _)
  (AutoSeq1.list_extend_list_list_0 l its.toArray n b D.toArray n2 J (by rw [z23];omega) (by omega)) ⟨e,e2,?_⟩
 refine ⟨.non,_,I.lset (its':=its++D) O e (by simp) (r.append r2) ?_,zf,q⟩;rw [z1o];omega
def rPop:V ->List V ->Hp ->VK ->Prop:=λ x vs H Q=>∃ l xs y,x= .ref l/\vs=[]/\H l=some (.lst xs)/\xs[xs.length - 1]? =some y/\Q y (upd H l (.lst xs.dropLast))
theorem qyy:MtM X "list.pop" rPop:=by
 intro pins s σ H x vs v us Q I rx rv h;obtain ⟨l,xs,y,rfl,rfl,O,hy,q⟩:=h;cases rx
 have D:=rv.zero;subst D;obtain ⟨z,its,n,r,hl,e⟩:=I.lstM O;obtain ⟨u,hu,ru⟩:=r.get hy;have J:its.toArray[its.toArray.size - 1]? =some u:=by
  show its.toArray[its.length - 1]? =some u;rw [<- z0x,<- hl];exact hu
 refine call_meets F.slot_list_pop ⟨_,e,rfl⟩ F.entry_list_pop (F.args_list_pop_1 _) (MeetsSeq.list_pop_last l its.toArray n u J (by rw [z23];omega)) ⟨e,?_⟩;refine ⟨y,_,I.lset (its':=its.dropLast) O e ?_ r.dropLast ?_,ru,q⟩
 ·show its.toArray.eraseIdxIfInBounds (its.toArray.size - 1)=its.dropLast.toArray;rw [z23,List.eraseIdxIfInBounds_toArray,qp0]
 ·rw [List.length_dropLast];omega
def rCat:R2:=λ x y H Q=>∃ l b xs zs,x= .ref l/\y= .ref b/\H l=some (.lst xs)/\H b=some (.lst zs)/\xs.length+zs.length<=sizeLine/\∀ p,H p=none ->Q (.ref p) (upd H p (.lst (xs++zs)))
theorem qen:OpR X (binaryOp .Add) rCat:=by
 intro pins s σ H x y v u Q I rx ry h;obtain ⟨l,b,xs,zs,rfl,rfl,hH,hB,hz,q⟩:=h;cases rx
 cases ry
 obtain ⟨z,its,n,r,hl,e⟩:=I.lstM hH;obtain ⟨z2,D,n2,r2,hl2,e2⟩:=I.lstM hB;refine PySem.P.add_list e e2 ?_ (by rw [z23,z23];omega);have ea:its.toArray++D.toArray=(its++D).toArray:=by simp
 rw [ea];exact ⟨.ref _,_,I.lnew (t':=s.toks) (r.append r2) (by rw [z1o];omega),rfl,q _ I.fresh⟩
def rRep:R2:=λ x y H Q=>∃ l k xs,x= .ref l/\y= .int k/\H l=some (.lst xs)/\ -(2^63)<=k/\k < 2^63/\xs.length*k.toNat<=sizeLine/\
 ∀ p,H p=none ->Q (.ref p) (upd H p (.lst (List.replicate k.toNat xs).flatten))
theorem qwu {α:Type} (xs:List α) (k:Nat):(List.replicate k xs).flatten.length=k*xs.length:=by
 induction k with
 | zero=>simp
 | succ k ih=>rw [z1e,z27,z1o,ih,Nat.succ_mul,Nat.add_comm]
theorem qyz:OpR X (binaryOp .Mult) rRep:=by
 intro pins s σ H x y v u Q I rx ry h;obtain ⟨l,k,xs,rfl,rfl,hH,h1,h2,hz,q⟩:=h;cases rx
 obtain ⟨t,rfl⟩:=ry;obtain ⟨z,its,n,r,hl,e⟩:=I.lstM hH;have Z:its.toArray.size*k.toNat<=sizeLine:=by rw [z23,<- hl];exact hz
 have J:¬ its.toArray.size*k.toNat > (2^63 - 1) / 8:=by
  have:(sizeLine:Nat)<=(2^63 - 1) / 8:=by decide
  omega
 have O:¬ (!Builtin.List.listFitsIndex k)=true:=by
  rw [fitsIndex_both h1 h2];exact z1l
 have D:¬ Builtin.List.listTooLong (its.toArray.size*k.toNat)=true:=by
  rw [qkp Z];exact z1l
 have a0:List.foldl (λ x1 x2=>x1++x2) #[] (List.replicate (if its.toArray.isEmpty=true then 0 else k.toNat) its.toArray)=(List.replicate k.toNat its).flatten.toArray:=by
  have f0:∀ m:Nat,List.foldl (λ x1 x2=>x1++x2) #[] (List.replicate m its.toArray)=(List.replicate m its).flatten.toArray:=λ m=>by
   have:=qhm its m [];rw [List.nil_append] at this;exact this
  rw [f0];cases its with
  | nil=>simp
  | cons a r'=>rw [if_neg (by simp)]
 refine wpAny_binaryOp_repeat_ref (T:="list") (U:="int") (by decide) ⟨_,e,zf⟩ (λ s'=>typeIs_int s' k t) noFill_list_mul F.fills_int_mul F.slot_int_rmul repeat_list F.slot_int_index.lookup
  (call_meets F.slot_int_rmul (typeIs_int s k t) F.entry_int_rmul (F.args_int_rmul_2 _ _) (int___rmul___int_list k t l its.toArray n)
   ⟨e,rfl,⟨_,e,rfl⟩,call_meets F.slot_list_mul ⟨_,e,rfl⟩ F.entry_list_mul (F.args_list_mul_2 _ _) (AutoListH.list___mul___list_int_3 l its.toArray n k t O J D) ⟨e,?_⟩⟩)
 rw [a0];exact ⟨.ref _,_,I.lnew (t':=s.toks) (r.rep k.toNat) (by rw [qwu,Nat.mul_comm];exact hz),rfl,q _ I.fresh⟩
end
section
variable {prog:Program} {w:World} {A:Around} {E:Value ->Shared ->Prop} {s:Shared}
end
section
variable {X:Cx}
end
section
variable {κ:Type} [DecidableEq κ]
def valV (kvs:List (κ×V)) (k:κ):Option V:=(kvs.find? λ kv=>decide (kv.1=k)).map (·.2)
def putK (kvs:List (κ×V)) (k:κ) (v:V):List (κ×V):=
 if (kvs.any λ kv=>decide (kv.1=k))=true then kvs.map (λ kv=>if kv.1=k then (kv.1,v) else kv) else kvs++ [(k,v)]
theorem q2n {p:κ×V} {r:List (κ×V)} {k:κ} (e:p.1=k):valV (p::r) k=some p.2:=by simp [valV,z33,e]
theorem q2o {p:κ×V} {r:List (κ×V)} {k:κ} (e:¬ p.1=k):valV (p::r) k=valV r k:=by simp [valV,z33,e]
theorem q7w (k:κ):∀ kvs:List (κ×V),(kvs.any λ kv=>decide (kv.1=k))=(valV kvs k).isSome
 | []=>rfl
 | p::r=>by
  rw [z3q];by_cases e:p.1=k
  ·simp only [q2n e,z3c e,Bool.true_or,Option.isSome_some]
  ·rw [q2o e,z2w e,Bool.false_or];exact q7w k r
theorem qkq (k j:κ) (y:V):∀ kvs:List (κ×V),valV (kvs.map λ D=>if D.1=k then (D.1,y) else D) j=(valV kvs j).map λ x=>if j=k then y else x
 | []=>rfl
 | p::r=>by
  have J:=qkq k j y r;rw [z3l];by_cases h:p.1=k
  ·rw [if_pos h];by_cases e:p.1=j
   ·rw [q2n (p:=(p.1,y)) e,q2n e,Option.map_some,if_pos (e.symm.trans h)]
   ·rw [q2o (p:=(p.1,y)) e,q2o e,J]
  ·rw [if_neg h];by_cases e:p.1=j
   ·rw [q2n (p:=p) e,q2n e,Option.map_some,if_neg (λ z=>h (e.trans z))]
   ·rw [q2o (p:=p) e,q2o e,J]
theorem qhn (k j:κ) (y:V):∀ kvs:List (κ×V),valV kvs k=none ->valV (kvs++ [(k,y)]) j=if j=k then some y else valV kvs j
 | [],_=>by
  by_cases e:k=j
  ·rw [if_pos e.symm];exact q2n (p:=(k,y)) e
  ·rw [if_neg (λ z=>e z.symm)];exact q2o (p:=(k,y)) e
 | p::r,hn=>by
  rw [List.cons_append];have hk:¬ p.1=k:=λ z=>by rw [q2n z] at hn;cases hn
  rw [q2o hk] at hn;have ih:=qhn k j y r hn;by_cases e:p.1=j
  ·rw [q2n e,q2n e,if_neg (λ z=>hk (e.trans z))]
  ·rw [q2o e,q2o e,ih]
theorem q53 (kvs:List (κ×V)) (k j:κ) (y:V):valV (putK kvs k y) j=if j=k then some y else valV kvs j:=by
 unfold putK;by_cases a:(kvs.any λ kv=>decide (kv.1=k))=true
 ·rw [if_pos a,qkq];rw [q7w] at a;by_cases e:j=k
  ·obtain ⟨x,hx⟩:=Option.isSome_iff_exists.mp a;rw [if_pos e,e,hx,Option.map_some,if_pos rfl]
  ·rw [if_neg e];cases valV kvs j with
   | none=>rfl
   | some x=>rw [Option.map_some,if_neg e]
 ·rw [if_neg a];refine qhn k j y kvs ?_;rw [q7w] at a;cases q:valV kvs k with
  | none=>rfl
  | some x=>rw [q] at a;exact (a rfl).elim
theorem q4v (kvs:List (κ×V)) (k:κ) (v:V):(putK kvs k v).length<=kvs.length+1:=by
 unfold putK;split
 ·rw [z30];omega
 ·rw [z1o,z2i,z34];omega
theorem qtf {kvs:List (κ×V)} {k:κ} (v:V) (h:valV kvs k=none):putK kvs k v=kvs++ [(k,v)]:=by
 unfold putK;rw [q7w,h];exact if_neg (by decide)
theorem RelO.q6s {o:Option V} {u:Option Value} (r:RelO o u):o.isSome=u.isSome:=by
 cases o with
 | none=>cases u with
  | none=>rfl
  | some _=>exact (show False from r).elim
 | some _=>cases u with
  | none=>exact (show False from r).elim
  | some _=>rfl
theorem RelO.getD {o:Option V} {u:Option Value} {d:V} {d':Value} (r:RelO o u) (rd:RelV d d'):RelV (o.getD d) (u.getD d'):=by
 cases o with
 | none=>cases u with
  | none=>exact rd
  | some _=>exact (show False from r).elim
 | some _=>cases u with
  | none=>exact (show False from r).elim
  | some _=>exact r
theorem KV.val {kvs:List (κ×V)} {vs:List (κ×Value)} (r:KV kvs vs) (k:κ):RelO (valV kvs k) (valueAt vs k):=by
 unfold KV at r
 induction r with
 | nil=>exact True.intro
 | @cons p q ps D h t ih=>
  obtain ⟨h1,h2⟩:=h;by_cases e:p.1=k
  ·have e':q.1=k:=h1.symm.trans e;have b:valueAt (q::D) k=some q.2:=by simp [valueAt,z33,e']
   rw [q2n e,b];exact h2
  ·have e':¬ q.1=k:=λ z=>e (h1.trans z);have b:valueAt (q::D) k=valueAt D k:=by simp [valueAt,z33,e']
   rw [q2o e,b];exact ih
theorem KV.any {kvs:List (κ×V)} {vs:List (κ×Value)} (r:KV kvs vs) (k:κ):(kvs.any λ D=>decide (D.1=k))=vs.any λ D=>decide (D.1=k):=by
 unfold KV at r
 induction r with
 | nil=>rfl
 | cons h t ih=>rw [z3q,z3q,ih,h.1]
theorem KV.repl {kvs:List (κ×V)} {vs:List (κ×Value)} (r:KV kvs vs) (k:κ) {y:V} {u:Value} (ry:RelV y u):
  KV (kvs.map λ D=>if D.1=k then (D.1,y) else D) (vs.map λ D=>if D.1=k then (D.1,u) else D):=by
 unfold KV at r ⊢
 induction r with
 | nil=>exact .nil
 | @cons p q ps qs h t ih=>
  rw [z3l,z3l];refine .cons ?_ ih;obtain ⟨h1,h2⟩:=h;by_cases e:p.1=k
  ·rw [if_pos e,if_pos (h1.symm.trans e)];exact ⟨h1,ry⟩
  ·rw [if_neg e,if_neg (λ z=>e (h1.trans z))];exact ⟨h1,h2⟩
theorem KV.put {kvs:List (κ×V)} {vs:List (κ×Value)} (r:KV kvs vs) (k:κ) {y:V} {u:Value} (ry:RelV y u):KV (putK kvs k y) (stored vs k u):=by
 unfold putK stored;rw [r.any k];by_cases e:(vs.any λ kv=>decide (kv.1=k))=true
 ·rw [if_pos e,if_pos e];exact r.repl k ry
 ·rw [if_neg e,if_neg e];exact Paired.snoc r ⟨rfl,ry⟩
theorem KV.length {kvs:List (κ×V)} {vs:List (κ×Value)} (r:KV kvs vs):kvs.length=vs.length:=Paired.length r
end
theorem q9p {P:Program} {w:World} {k:Key} {u:Value} (r:RelV (kV k) u):(q16 P w).is k u=true:=by
 cases k with
 | inl i=>obtain ⟨t,e⟩:=(show ∃ t,u=Value.int i t from r);subst e;exact qmp P w i t
 | inr x=>obtain ⟨t,e⟩:=(show ∃ t,u=Value.str x t from r);subst e;exact qcv P w x t
theorem qho {P:Program} {w:World}:∀ {ks:List Key} {us:List Value},Vals (ks.map kV) us ->ItemsAre (q16 P w) ks us
 | [],_,r=>by rw [z44] at r;cases r;exact .nil
 | k::ks,_,r=>by
  rw [z3l] at r;cases r with
  | cons h t=>exact .cons (q9p h) (qho t)
abbrev KT (H:Hp):List (List Key×V) ->List (List Key×Addr×Value) ->Prop:=Paired λ p q=>p.1=q.1/\H q.2.1=some (.tup (p.1.map kV))/\RelV p.2 q.2.2
theorem KT.val {H:Hp} {kvs:List (List Key×V)} {xs:List (List Key×Addr×Value)} (r:KT H kvs xs) (k:List Key):RelO (valV kvs k) ((atKey xs k).map (·.2)):=by
 induction r with
 | nil=>exact True.intro
 | @cons p q ps D h t ih=>
  obtain ⟨h1,_,h2⟩:=h;by_cases e:p.1=k
  ·have e':q.1=k:=h1.symm.trans e;have b:atKey (q::D) k=some q.2:=by simp [atKey,z33,e']
   rw [q2n e,b];exact h2
  ·have e':¬ q.1=k:=λ z=>e (h1.trans z);have b:atKey (q::D) k=atKey D k:=by simp [atKey,z33,e']
   rw [q2o e,b];exact ih
theorem KT.repl {H:Hp} {kvs:List (List Key×V)} {xs:List (List Key×Addr×Value)} (r:KT H kvs xs) (k:List Key) {y:V} {u:Value} (ry:RelV y u):
  KT H (kvs.map λ D=>if D.1=k then (D.1,y) else D) (xs.map (putAt k u)):=by
 induction r with
 | nil=>exact .nil
 | @cons p q ps qs h t ih=>
  rw [z3l,z3l];refine .cons ?_ ih;obtain ⟨h1,h2,h3⟩:=h;unfold putAt;by_cases e:p.1=k
  ·rw [if_pos e,if_pos (h1.symm.trans e)];exact ⟨h1,h2,ry⟩
  ·rw [if_neg e,if_neg (λ z=>e (h1.trans z))];exact ⟨h1,h2,h3⟩
theorem KT.put {H:Hp} {kvs:List (List Key×V)} {xs:List (List Key×Addr×Value)} (r:KT H kvs xs) (k:List Key) {b:Addr} {y:V} {u:Value} (hb:H b=some (.tup (k.map kV))) (ry:RelV y u):
  KT H (putK kvs k y) (storedH xs k b u):=by
 have e:(kvs.any λ kv=>decide (kv.1=k))=(atKey xs k).isSome:=by
  rw [q7w,(r.val k).q6s,Option.isSome_map]
 unfold putK storedH;rw [e];by_cases q:(atKey xs k).isSome=true
 ·rw [if_pos q,if_pos q];exact r.repl k ry
 ·rw [if_neg q,if_neg q];exact Paired.snoc r ⟨rfl,hb,ry⟩
theorem KT.keeps {H H':Hp} {kvs:List (List Key×V)} {xs:List (List Key×Addr×Value)} (r:KT H kvs xs) (ht:∀ b ys,H b=some (.tup ys) ->H' b=some (.tup ys)):KT H' kvs xs:=
 Paired.mapP r λ _ _ z=>⟨z.1,ht _ _ z.2.1,z.2.2⟩
section
variable {P:Program} {w:World} {H:Hp} {h:Heap} {a:Addr}
theorem qvo {u:HO} (ok:HOk P w H h) (e:Rd H a u):ObjOk P w H h a u:=e.ok ok
theorem q8q {kvs:List (Key×V)} (ok:HOk P w H h) (e:Rd H a (.dK kvs)):kvs.length<=sizeLine/\(a==sysModules)=false/\∃ vs,KV kvs vs/\h.DictOf (q16 P w) a vs:=
 show ObjOk P w H h a (.dK kvs) from qvo ok e
theorem qvp {kvs:List (Key×V)} (ok:HOk P w H h) (e:H a=some (.dK kvs)):kvs.length<=sizeLine/\(a==sysModules)=false/\∃ vs,KV kvs vs/\h.DictOf (q16 P w) a vs:=q8q ok (.inl e)
theorem q95 {ks:List Key} (ok:HOk P w H h) (e:H a=some (.tup (ks.map kV))):(tupleKind (q16 P w)).is h ks a:=by
 obtain ⟨_,its,r,o,h1,h2,n,h3⟩:=(show ObjOk P w H h a (.tup (ks.map kV)) from ok a _ e);exact ⟨o,its.toArray,n,h1,h2,h3,by simpa using qho r⟩
theorem q9q {kvs:List (List Key×V)} (ok:HOk P w H h) (e:Rd H a (.dT kvs)):kvs.length<=sizeLine/\(a==sysModules)=false/\
  ∃ xs,KT H kvs xs/\h.DictOfH (tupleKind (q16 P w)) a xs:=by
 obtain ⟨z,y,xs,r,o,es,ep,h1,h2,h3,h4,h5⟩:=(show ObjOk P w H h a (.dT kvs) from qvo ok e);refine ⟨z,y,xs,r,o,es,ep,h1,h2,h3,h4,λ x hx=> ?_,h5⟩;have all:∀ {l:List (List Key×V)} {m:List (List Key×Addr×Value)},KT H l m ->∀ x∈m,(tupleKind (q16 P w)).is h x.1 x.2.1:=by
  intro l m q
  induction q with
  | nil=>intro x hx;exact nomatch hx
  | @cons p q ps qs hq t ih=>
   intro x hx;rcases z3n.mp hx with e | hx
   ·subst e;exact q95 ok (by rw [<- hq.1];exact hq.2.1)
   ·exact ih x hx
 exact all r x hx
theorem q113 {kvs:List (List Key×V)} (ok:HOk P w H h) (e:H a=some (.dT kvs)):kvs.length<=sizeLine/\(a==sysModules)=false/\
  ∃ xs,KT H kvs xs/\h.DictOfH (tupleKind (q16 P w)) a xs:=q9q ok (.inl e)
end
def DGet (H:Hp) (a:Addr) (y:V) (r:Option V):Prop:=
 (∃ kvs k,Rd H a (.dK kvs)/\y=kV k/\r=valV kvs k)\/ ∃ kvs k b,Rd H a (.dT kvs)/\y= .ref b/\H b=some (.tup (k.map kV))/\r=valV kvs k
def DPut (H:Hp) (a:Addr) (y v:V) (H':Hp):Prop:=
 (∃ kvs k,H a=some (.dK kvs)/\y=kV k/\kvs.length < sizeLine/\H'=upd H a (.dK (putK kvs k v)))\/
 ∃ kvs k b,H a=some (.dT kvs)/\y= .ref b/\H b=some (.tup (k.map kV))/\kvs.length < sizeLine/\H'=upd H a (.dT (putK kvs k v))
theorem DGet.k {H:Hp} {a:Addr} {kvs:List (Key×V)} {k:Key} (e:H a=some (.dK kvs)):DGet H a (kV k) (valV kvs k):= .inl ⟨kvs,k,.inl e,rfl,rfl⟩
theorem DGet.t {H:Hp} {a b:Addr} {kvs:List (List Key×V)} {k:List Key} (e:H a=some (.dT kvs)) (eb:H b=some (.tup (k.map kV))):DGet H a (.ref b) (valV kvs k):= .inr ⟨kvs,k,b,.inl e,rfl,eb,rfl⟩
theorem DPut.k {H:Hp} {a:Addr} {kvs:List (Key×V)} {k:Key} {v:V} (e:H a=some (.dK kvs)) (hl:kvs.length < sizeLine):DPut H a (kV k) v (upd H a (.dK (putK kvs k v))):= .inl ⟨kvs,k,e,rfl,hl,rfl⟩
theorem DPut.t {H:Hp} {a b:Addr} {kvs:List (List Key×V)} {k:List Key} {v:V} (e:H a=some (.dT kvs)) (eb:H b=some (.tup (k.map kV))) (hl:kvs.length < sizeLine):
  DPut H a (.ref b) v (upd H a (.dT (putK kvs k v))):= .inr ⟨kvs,k,b,e,rfl,eb,hl,rfl⟩
section
variable {X:Cx} {pins:List (Addr×Obj)} {σ:St} {H:Hp} {s:Shared} {a:Addr} {y v:V} {u r:Value} {o:Option V} {A:Around} {E:Value ->Shared ->Prop}
theorem Inv.big (I:Inv X pins σ H s):sysModules < s.heap.objs.size:=by
 have h:mainGlobals < s.heap.objs.size:=(I.mod.glob.keeps I.bk).lt;exact Nat.lt_trans (by decide) h
theorem qqu {Q:Value ->Shared ->Prop} (hu:A.units+1 < cLine) (I:Inv X pins σ H s) (g:DGet H a y (some v)) (ry:RelV y u) (h:∀ J s',Inv X pins σ H s' ->RelV v J ->Q J s'):
  wpAny (model X.prog X.w) A (getItem (.ref a) u) Q E s:=by
 rcases g with ⟨kvs,k,e,ey,l⟩ | ⟨kvs,k,b,e,ey,eb,l⟩
 ·subst ey;obtain ⟨z,hd,vs,rel,O⟩:=q8q I.hok e;obtain ⟨J,hw,D⟩:=RelO.qfw (v:=v) (o:=valueAt vs k) (by rw [l];exact rel.val k);exact wpAny_getItem_of (q9p ry) O.mapOf hw (h J _ (I.tok _) D)
 ·subst ey;cases (show u=Value.ref b from ry)
  obtain ⟨z,hd,xs,rel,O⟩:=q9q I.hok e;obtain ⟨J,hw,D⟩:=RelO.qfw (v:=v) (o:=(atKey xs k).map (·.2)) (by rw [l];exact rel.val k);obtain ⟨p,hp,Z⟩:=z0q.mp hw;refine wpAny_getItem_heap (tupleKind_room_in1 hu) (q95 I.hok eb) O hp ?_;rw [Z];exact h J _ (I.tok _) D
theorem d_in {Q:Value ->Shared ->Prop} (hu:A.units+1 < cLine) (I:Inv X pins σ H s) (g:DGet H a y o) (ry:RelV y u) (h:∀ s',Inv X pins σ H s' ->Q (.bool o.isSome) s'):
  wpAny (model X.prog X.w) A (compareOp .In u (.ref a)) Q E s:=by
 rcases g with ⟨kvs,k,e,ey,l⟩ | ⟨kvs,k,b,e,ey,eb,l⟩
 ·subst ey;obtain ⟨z,hd,vs,rel,D⟩:=q8q I.hok e;refine wpAny_in_of (q9p ry) hd D.mapOf ?_;rw [<- (rel.val k).q6s,<- l];exact h _ (I.tok _)
 ·subst ey;cases (show u=Value.ref b from ry)
  obtain ⟨z,hd,xs,rel,D⟩:=q9q I.hok e;refine wpAny_in_heap (tupleKind_room_in1 hu) (q95 I.hok eb) hd D ?_;have q:=(rel.val k).q6s;rw [Option.isSome_map] at q;rw [<- q,<- l];exact h _ (I.tok _)
theorem qwv {Q:Value ->Shared ->Prop} (hu:A.units+1 < cLine) (I:Inv X pins σ H s) (g:DGet H a y o) (ry:RelV y u) (h:∀ s',Inv X pins σ H s' ->Q (.bool (!o.isSome)) s'):
  wpAny (model X.prog X.w) A (compareOp .NotIn u (.ref a)) Q E s:=by
 rcases g with ⟨kvs,k,e,ey,l⟩ | ⟨kvs,k,b,e,ey,eb,l⟩
 ·subst ey;obtain ⟨z,hd,vs,rel,D⟩:=q8q I.hok e;refine wpAny_notIn_of (q9p ry) hd D.mapOf ?_;rw [<- (rel.val k).q6s,<- l];exact h _ (I.tok _)
 ·subst ey;cases (show u=Value.ref b from ry)
  obtain ⟨z,hd,xs,rel,D⟩:=q9q I.hok e;refine wpAny_notIn_heap (tupleKind_room_in1 hu) (q95 I.hok eb) hd D ?_;have q:=(rel.val k).q6s;rw [Option.isSome_map] at q;rw [<- q,<- l];exact h _ (I.tok _)
theorem qfy {h':Heap} {t':Nat} {D:HO} (I:Inv X pins σ H s) (mu:Mut (H a)) (hs:Heap.SameBut a s.heap h') (he:∃ q,h'.get? a=some q) (new:ObjOk X.prog X.w (upd H a D) h' a D):
  Inv X pins σ (upd H a D) {s with heap:=h',toks:=t'}:=
 I.write (x:=a) (e:=a) mu (.inl rfl) (λ b q hb z=>(hs.2 b hb).trans z) he new
theorem qqv {P:Program} {w:World} {H':Hp} {h':Heap} {kvs:List (Key×V)} {vs:List (Key×Value)} (z:kvs.length<=sizeLine) (hd:(a==sysModules)=false) (rel:KV kvs vs) (dd:h'.DictOf (q16 P w) a vs):
  ObjOk P w H' h' a (.dK kvs):=⟨z,hd,vs,rel,dd⟩
theorem qqw {H':Hp} {Q:Unit ->Shared ->Prop} (hu:A.units+1 < cLine) (I:Inv X pins σ H s) (g:DPut H a y v H') (ry:RelV y u) (rv:RelV v r) (h:∀ s',Inv X pins σ H' s' ->Q () s'):
  wpAny (model X.prog X.w) A (setItem (.ref a) u r) Q E s:=by
 rcases g with ⟨kvs,k,e,ey,l,eH⟩ | ⟨kvs,k,b,e,ey,Z,l,eH⟩
 ·subst ey eH;obtain ⟨z,hd,vs,rel,J⟩:=qvp I.hok e;have hz:vs.length<=sizeLine:=by rw [<- rel.length];exact z
  have hl:(putK kvs k v).length<=sizeLine:=by have:=q4v kvs k v;omega
  refine wpAny_setItem_pairs (hsz:=hz) (q9p ry) J λ h' D O=>h _ ?_;have he:∃ q,h'.get? a=some q:=let ⟨q,_,_,hq,_⟩:=D;⟨q,hq⟩
  exact qfy I (by rw [e];exact True.intro) O he (qqv hl hd (rel.put k rv) D)
 ·subst ey eH;cases (show u=Value.ref b from ry)
  obtain ⟨z,hd,xs,rel,J⟩:=q113 I.hok e;have hz:xs.length<=sizeLine:=by rw [<- Paired.length rel];exact z
  have hl:(putK kvs k v).length<=sizeLine:=by have:=q4v kvs k v;omega
  refine wpAny_setItem_heap (hsz:=hz) (tupleKind_room_in1 hu) (q95 I.hok Z) J λ h' D O=>h _ ?_;obtain ⟨q,es,ep,hq,h2,h3,h4,_,h5⟩:=D;refine qfy I (by rw [e];exact True.intro) O ⟨q,hq⟩ ⟨hl,hd,_,(rel.put k Z rv).keeps λ c ys ec=> ?_,q,es,ep,hq,h2,h3,h4,h5⟩;rw [qh (q10t ec e (λ z=>nomatch z))];exact ec
end
section
variable {X:Cx} {pins:List (Addr×Obj)} {σ:St} {H:Hp} {s:Shared} {a:Addr} {kvs:List (Key×V)} {k:Key} {u:Value} {A:Around} {E:Value ->Shared ->Prop}
theorem q114 {Q:Value ->Shared ->Prop} (I:Inv X pins σ H s) (e:Rd H a (.dK kvs)) (h:∀ t s',Inv X pins σ H s' ->Q (.int kvs.length t) s'):wpAny (model X.prog X.w) A (call (.builtin "len") [.ref a]) Q E s:=by
 obtain ⟨z,hd,vs,rel,dd⟩:=q8q I.hok e;refine call_len_dict hd dd (by rw [<- rel.length];rw [sizeLine_eq] at z;omega) ?_;rw [<- rel.length];exact h _ _ (I.tok _)
end
def NoSl (i:Expr):Prop:=∀ ov iv,subscripted i false ov iv=operate [ov,iv] (getItem ov iv)
theorem qww {prog:Program} {w:World} {A:Around} {E:Value ->Shared ->Prop} {s:Shared} {env:Env} {value D:Expr} {pos:Pos} {T id:String} {Q:Value ->Shared ->Prop}
    (hl:typeLookup (.type T) "__getitem__"=pure (some (.builtin id))) (hs:NoSl D)
    (h:wpAny (model prog w) A (eval value env) (λ o s₁=>wpAny (model prog w) A (eval D env) (λ i J=>J.TypeIs o T/\wpAny (model prog w) A (getItem o i) Q E J) E s₁) E s):
    wpAny (model prog w) A (eval (.Subscript value D pos) env) Q E s:=by
  refine Subscript_ (z4g h (λ o s₁ h₁=>z4g h₁ (λ i J O=> ?_) λ _ _ x=>x) λ _ _ x=>x);obtain ⟨Z,O⟩:=O;unfold subscriptTail;refine z4f ?_;rw [getitemInPython_of_ne Z.not_modules];refine z4f (wpAny_specialOf Z hl ?_);have fin:wpAny (model prog w) A (subscripted D false o i) (λ r s₃=>wpAny (model prog w) A (letTemporaryGo value o r >>=λ _=>pure r) Q E s₃) E J:=by
    rw [hs o i];exact wpAny_operating (z4g O (λ r s₃ h₃=>z4f (wpAny_letTemporaryGo (z4e h₃))) λ _ _ x=>x)
  first
    | exact z4e (z4f fin)
    | exact z4f (z4e (z4f fin))
    | exact z4f fin
theorem qmr {X:Cx} {pins:List (Addr×Obj)} {σ:St} {H:Hp} {s:Shared} {a:Addr} {y:V} {o:Option V} (I:Inv X pins σ H s) (g:DGet H a y o):s.TypeIs (.ref a) "dict":=by
 rcases g with ⟨kvs,k,e,_,_⟩ | ⟨kvs,k,b,e,_,_,_⟩
 ·obtain ⟨_,_,vs,_,D⟩:=q8q I.hok e;exact D.typeIs
 ·obtain ⟨_,_,xs,_,D⟩:=q9q I.hok e;exact D.typeIs
def q115 (td ty:TE):TE:=λ σ H Q=>td σ H λ x H1=>ty σ H1 λ y H2=>∃ a v,x= .ref a/\DGet H2 a y (some v)/\Q v H2
def tDIn (ty td:TE):TE:=λ σ H Q=>ty σ H λ y H1=>td σ H1 λ x H2=>∃ a o,x= .ref a/\DGet H2 a y o/\Q (.bl o.isSome) H2
def qwx (ty td:TE):TE:=λ σ H Q=>ty σ H λ y H1=>td σ H1 λ x H2=>∃ a o,x= .ref a/\DGet H2 a y o/\Q (.bl (!o.isSome)) H2
def q116 (td ty tv:TE):TS:=λ D σ H=>tv σ H λ v H1=>td σ H1 λ x H2=>ty σ H2 λ y H3=>∃ a H4,x= .ref a/\DPut H3 a y v H4/\D.nx σ H4
section
variable {X:Cx} {o i e value:Expr} {pos pos' tpos:Pos} {td ty tv:TE}
theorem q4l (hu:X.A.units+1 < cLine) (ho:PE X o td) (hi:PE X i ty) (hs:NoSl i):PE X (.Subscript o i pos) (q115 td ty):=by
 intro pins s σ H Q I h;refine qww PySem.F.slot_dict_getitem.lookup hs (thn (ho pins s σ H _ I h) λ u s1 ⟨x,H1,I1,rx,q1⟩=>thn (hi pins s1 σ H1 _ I1 q1) λ iv s2 J=> ?_);obtain ⟨y,H2,I2,ry,a,v,ex,g,q2⟩:=J;subst ex;obtain rfl:u=Value.ref a:=rx;exact ⟨qmr I2 g,qqu hu I2 g ry λ w' s3 I3 D=>⟨v,H2,I3,D,q2⟩⟩
theorem qkr (hu:X.A.units+1 < cLine) (hi:PE X i ty) (ho:PE X o td):PC X .In i o (tDIn ty td):=by
 intro pins s σ H Q I h;refine thn (hi pins s σ H _ I h) λ iv s1 ⟨y,H1,I1,ry,q1⟩=>thn (ho pins s1 σ H1 _ I1 q1) λ u s2 D=> ?_;obtain ⟨x,H2,I2,rx,a,ov,ex,g,q2⟩:=D;subst ex;obtain rfl:u=Value.ref a:=rx;exact d_in hu I2 g ry λ s3 I3=>⟨.bl ov.isSome,H2,I3,zf,q2⟩
theorem qqx (hu:X.A.units+1 < cLine) (hi:PE X i ty) (ho:PE X o td):PC X .NotIn i o (qwx ty td):=by
 intro pins s σ H Q I h;refine thn (hi pins s σ H _ I h) λ iv s1 ⟨y,H1,I1,ry,q1⟩=>thn (ho pins s1 σ H1 _ I1 q1) λ u s2 D=> ?_;obtain ⟨x,H2,I2,rx,a,ov,ex,g,q2⟩:=D;subst ex;obtain rfl:u=Value.ref a:=rx;exact qwv hu I2 g ry λ s3 I3=>⟨.bl (!ov.isSome),H2,I3,zf,q2⟩
theorem q7l (hu:X.A.units+1 < cLine) (ho:PE X o td) (hi:PE X i ty) (hv:PE X value tv) (hs:swapsWith value (some (.Subscript o i pos')) pos.line X.env=pure false):
  PS X (.Assign [.Subscript o i pos'] value pos) (q116 td ty tv):=by
 intro pins s σ H D I h;refine wpAny_Assign_Subscript (thn (hv pins s σ H _ I h) λ r s1 ⟨v,H1,I1,rv,q1⟩=>thn (ho pins s1 σ H1 _ I1 q1) λ u s2 ⟨x,H2,I2,rx,q2⟩=>thn (hi pins s2 σ H2 _ I2 q2) λ iv s3 J=> ?_) hs;obtain ⟨y,H3,I3,ry,a,H4,ex,g,q3⟩:=J;subst ex;obtain rfl:u=Value.ref a:=rx;exact qqw hu I3 g ry rv λ s4 I4=>⟨σ,H4,I4,q3⟩
end
theorem qtg {P:Program} {w:World} {H:Hp} (h:Heap) (hb:sysModules < h.objs.size):ObjOk P w H (h.push {cls:= .type "dict",data:= .dict #[]}) h.objs.size (.dK []):=
 ⟨z4b _,beq_eq_false_iff_ne.mpr (Ne.symm (z40 hb)),[],.nil,Heap.DictOf.new h⟩
theorem qth {P:Program} {w:World} {H:Hp} (h:Heap) (hb:sysModules < h.objs.size):ObjOk P w H (h.push {cls:= .type "dict",data:= .dict #[]}) h.objs.size (.dT []):=
 ⟨z4b _,beq_eq_false_iff_ne.mpr (Ne.symm (z40 hb)),[],.nil,_,#[],0,z1c _ rfl,⟨rfl,rfl,rfl⟩,rfl,rfl,z3g⟩
def qz0:TE:=λ _ H Q=>∀ p,H p=none ->Q (.ref p) (upd H p (.dK []))
def qz1:TE:=λ _ H Q=>∀ p,H p=none ->Q (.ref p) (upd H p (.dT []))
section
variable {X:Cx} {pos:Pos}
theorem q54:PE X (.Dict [] [] pos) qz0:=λ pins s σ H Q I h=>
 wpAny_Dict_empty ⟨.ref s.heap.objs.size,_,I.laid (a:=s.heap.objs.size) (o:= .dK []) (t':=s.toks) (λ _ _ q=>z0o _ q) (z48 _) (qtg s.heap I.big),rfl,h _ (I.hok.fresh (z48 _))⟩
theorem q9r:PE X (.Dict [] [] pos) qz1:=λ pins s σ H Q I h=>
 wpAny_Dict_empty ⟨.ref s.heap.objs.size,_,I.laid (a:=s.heap.objs.size) (o:= .dT []) (t':=s.toks) (λ _ _ q=>z0o _ q) (z48 _) (qth s.heap I.big),rfl,h _ (I.hok.fresh (z48 _))⟩
end
structure M1 (X:Cx) (o:Expr) (m:Str) (apos:Pos) (e:Expr) (cpos:Pos):Prop where
 base:attributeBase o m X.env (eval o X.env)=eval o X.env
 few:((backTo cpos (starEach [e] X.env)).all (λ x=> !x.1)&&(backToKw cpos (keywordEach [] X.env)).all (λ x=>x.1.isSome)
  &&decide (([e]:List Expr).length+([]:List Keyword).length+(if ([]:List Keyword).isEmpty then 0 else 1) < 30))=true
 line:(apos.endLine==cpos.line)=true
 trees:backTo cpos (starEach [e] X.env)=[(false,eval e X.env)]
structure M2 (X:Cx) (o:Expr) (m:Str) (apos:Pos) (e f:Expr) (cpos:Pos):Prop where
 base:attributeBase o m X.env (eval o X.env)=eval o X.env
 few:((backTo cpos (starEach [e,f] X.env)).all (λ x=> !x.1)&&(backToKw cpos (keywordEach [] X.env)).all (λ x=>x.1.isSome)
  &&decide (([e,f]:List Expr).length+([]:List Keyword).length+(if ([]:List Keyword).isEmpty then 0 else 1) < 30))=true
 line:(apos.endLine==cpos.line)=true
 trees:backTo cpos (starEach [e,f] X.env)=[(false,eval e X.env),(false,eval f X.env)]
def IsD (H:Hp) (a:Addr):Prop:=(∃ kvs,Rd H a (.dK kvs))\/ ∃ kvs,Rd H a (.dT kvs)
theorem qqy {X:Cx} {pins:List (Addr×Obj)} {σ:St} {H:Hp} {s:Shared} {a:Addr} (I:Inv X pins σ H s) (d:IsD H a):
  s.TypeIs (.ref a) "dict"/\(∀ b,Value.ref a= .ref b ->∃ D,s.heap.get? b=some D/\D.dict=none)/\(a==sysModules)=false:=by
 rcases d with ⟨kvs,e⟩ | ⟨kvs,e⟩
 ·obtain ⟨_,hd,vs,_,J⟩:=q8q I.hok e;refine ⟨J.typeIs,λ b q=> ?_,hd⟩;cases q
  obtain ⟨D,_,_,h1,h2,_⟩:=J;exact ⟨D,h1,h2.2.1⟩
 ·obtain ⟨_,hd,xs,_,J⟩:=q9q I.hok e;refine ⟨J.typeIs,λ b q=> ?_,hd⟩;cases q
  obtain ⟨D,_,_,h1,h2,_⟩:=J;exact ⟨D,h1,h2.2.1⟩
section
variable {X:Cx} {pins:List (Addr×Obj)} {σ:St} {H:Hp} {s:Shared} {a:Addr} {y d:V} {u r:Value} {o:Option V} {A:Around} {E:Value ->Shared ->Prop}
theorem qz2 {Q:Value ->Shared ->Prop} (hu:A.units+1 < cLine) (I:Inv X pins σ H s) (g:DGet H a y o) (ry:RelV y u) (J:RelV d r) (h:∀ O s',Inv X pins σ H s' ->RelV (o.getD d) O ->Q O s'):
  wpAny (model X.prog X.w) A (call (.builtin "dict.get") [.ref a,u,r]) Q E s:=by
 rcases g with ⟨kvs,k,e,ey,l⟩ | ⟨kvs,k,b,e,ey,eb,l⟩
 ·subst ey;obtain ⟨z,hd,vs,rel,D⟩:=q8q I.hok e;refine call_meetsIn PySem.F.slot_dict_get D.typeIs PySem.F.entry_dict_get (PySem.F.args_dict_get_3 _ _ _) (meets_dict_get_default (q16 X.prog X.w) a (q9p ry) hd r) ⟨_,D.mapOf,h _ _ (I.tok _) ?_⟩;rw [l];exact (rel.val k).getD J
 ·subst ey;cases (show u=Value.ref b from ry)
  obtain ⟨z,hd,xs,rel,D⟩:=q9q I.hok e;refine call_meetsIn PySem.F.slot_dict_get D.typeIs PySem.F.entry_dict_get (PySem.F.args_dict_get_3 _ _ _) (meetsH_dict_get_default (tupleKind (q16 X.prog X.w)) a b hd r) ⟨tupleKind_room_in1 hu,k,xs,q95 I.hok eb,D,h _ _ (I.tok _) ?_⟩;rw [l];exact (rel.val k).getD J
end
def qz3 (td ty tx:TE):TE:=λ σ H Q=>td σ H λ x H1=>∃ a,x= .ref a/\IsD H1 a/\ty σ H1 λ y H2=>tx σ H2 λ z H3=>∃ o,DGet H3 a y o/\Q (o.getD z) H3
section
variable {X:Cx} {o e f:Expr} {apos cpos:Pos} {td ty tx:TE}
theorem qti (hu:X.A.units+1 < cLine) (ho:PE X o td) (he:PE X e ty) (hf:PE X f tx) (m:M2 X o "get" apos e f cpos):PE X (.Call (.Attribute o "get" apos) [e,f] [] cpos) (qz3 td ty tx):=by
 intro pins s σ H Q I h;refine wpAny_Call_method m.base m.few m.line PySem.F.plainAttrs_dict PySem.F.slot_dict_get PySem.F.type_dict_get (thn (ho pins s σ H _ I h) λ u s1 J=> ?_);obtain ⟨x,H1,I1,rx,a,ex,d,q1⟩:=J;subst ex;obtain rfl:u=Value.ref a:=rx;obtain ⟨t1,t2,_⟩:=qqy I1 d;refine ⟨t1,t2,?_⟩;rw [m.trees];refine Calls.callWith_builtin rfl (Calls.evalArgs_plain (Calls.spliced_cons (thn (he pins s1 σ H1 _ I1 q1) λ iv s2 ⟨y,H2,I2,ry,q2⟩=>
  Calls.spliced_cons (thn (hf pins s2 σ H2 _ I2 q2) λ fv s3 ⟨z,H3,I3,rz,ov,g,q3⟩=>Calls.spliced_nil ?_))))
 exact qz2 hu I3 g ry rz λ w' s4 I4 D=>⟨_,H3,I4,D,q3⟩
end
section
variable {X:Cx} {pins:List (Addr×Obj)} {σ:St} {H:Hp} {s:Shared} {a:Addr} {kvs:List (Key×V)} {A:Around} {E:Value ->Shared ->Prop}
end
section
variable {X:Cx} {pins:List (Addr×Obj)} {σ:St} {H:Hp} {s:Shared} {a:Addr} {y:V} {u:Value} {A:Around} {E:Value ->Shared ->Prop}
end
end L2
namespace Att
open PySem PySem.W PySem.Calls PyProof.Rows
theorem qeo {P:Params} {h:Heap}:∀ (ns:List Int) (vs:List Value),WellAll P h vs (ns.map WData.int) ->IntsAre vs ns:=by
 intro ns
 induction ns with
 | nil=>
  intro vs w;rw [z44] at w;cases w
  exact .nil
 | cons n ns ih=>
  intro vs w;rw [z3l] at w;cases w with
  | cons a b=>
   cases a
   exact .cons _ _ (ih _ b)
theorem qqz {l:OpenLaw} {n:Nat} (hn:l.most=some n) {P:Params} {h:Heap} {args:List WData} {J:List Value}
    (D:l.row.toRowW.claim.pre args=true) (a1:WellAll P h J args):
    ∃ a vs ns,J=[Value.ref a]/\args=[WData.list (ns.map WData.int)]/\h.get? a=some {cls:= .type "list",data:= .seq vs.toArray}/\IntsAre vs ns/\ns.length<=n:=by
  have a0:WShape.hasAll [] args [.list .int]=true:=(pre_splitW D).1;have hc:l.pre.holds [] {args:=args}=true:=(pre_splitW D).2;obtain ⟨d,r,rfl,h1,h2⟩:=hasAllW_cons a0;obtain rfl:=hasAllW_nil h2;obtain ⟨xs,rfl,h3⟩:=hasW_list h1;obtain ⟨ns,rfl⟩:=items_int h3;have Z:ns.length<=n:=by
    unfold OpenLaw.pre at hc;have h4:(WTm.not (.lt (.lit (.int (n:Int))) (.len (.arg 0)))).holds [] {args:=[.list (ns.map .int)]}=true:=by
      have h4:=(holds_andW hc).1;rw [hn] at h4;exact h4
    have h5:=condW_of h4 (w_not (w_lt w_lit (w_len_list (w_arg rfl))));rw [z30] at h5;refine Nat.le_of_not_lt λ q=> ?_;have q':(n:Int) < ((ns.length:Nat):Int):=by omega
    first
      | (rw [z3c q'] at h5;exact absurd h5 (by decide))
      | (simp at h5;omega)
  cases a1 with
  | cons w1 w2=>
    cases w2
    cases w1 with
    | list ho O=>exact ⟨_,_,ns,rfl,rfl,ho,qeo ns _ O,Z⟩
theorem qr0 (l:OpenLaw) (args:List WData):l.row.toRowW.claim.post args (.bool true) args=true:=
 postW_of (r:=l.row.toRowW) (X:=(true==true))
  (show WShape.has [] (.bool true) .bool=true by first | rfl | decide | simp [WShape.has,WShape.arms,WShape.armsAll])
  (show (WTm.eq .res (.lit (.bool true))).value [] {args:=args,res:=some (.bool true),after:=args}=some (.bool (true==true)) from w_eq_bool (w_res rfl) w_lit) rfl
theorem qms {l:OpenLaw} {n:Nat} {q:Program} {D:List Str} {XP:(Str ->Option Value) ->Heap ->Prop} {YP:World ->Heap ->Prop} {d:DefRec}
  (hn:l.most=some n) (a4:d.params.defaults=[])
  (call:∀ (w:World) (s₀ J:Shared) (mg mb:Str ->Option Value) (fa:Addr) (o:Obj) (pm cd O:Value) (a:Addr) (vs:List Value) (ns:List Int),
   Ground q D [] XP w s₀ mg mb J.heap ->YP w J.heap ->
   J.heap.get? fa=some o ->o.data= .func (docDef d.name d.params d.body d.scope pm cd O) ->J.heap.CodeRec cd d.name ->mg d.name=some (.ref fa) ->
   J.heap.get? a=some {cls:= .type "list",data:= .seq vs.toArray} ->IntsAre vs ns ->ns.length<=n ->J.gens=#[] ->
   codeAny (model l.prog w) callerA (.call (.ref fa) ⟨[.ref a],[]⟩) (λ r s'=>r= .ok (.ret (.bool true))/\OldK J.heap s'.heap/\s'.os=J.os/\AllBare s'.gens) J):
  WalkO q D XP YP l.row.toRowW d [] (λ f vs=>PySem.call f vs):=by
 intro w s₀ J mg mb G Y fa o pm cd O dV kV ho hd a3 hD a5 hg args a8 as a2 a7 hrd a6 hlo;obtain rfl:dV= .none:=Dflts.none hD a4;obtain rfl:kV= .none:=Dflts.noKw hD;obtain ⟨a,vs,ns,rfl,rfl,a1,Z,a0⟩:=qqz hn a2 a6;refine enter_call (z43 (call w s₀ J mg mb fa o pm cd O a vs ns G Y ho (fd_plain hd) a3 a5 a1 Z a0 hg) λ r s' hq=> ?_);obtain ⟨rfl,h2,h3,h4⟩:=hq;exact ⟨.inl ⟨.bool true,.bool true,[],rfl,λ _=>rfl,.bool true,qr0 l _,λ _=>⟨List.Pairwise.nil,λ _ hm=>(nomatch hm)⟩⟩,h2,h3,h4⟩
section
variable {prog:Program} {w:World} {A:Around} {E:Value ->Shared ->Prop} {s:Shared} {K:Frag}
end
end Att
namespace L2
open PySem PySem.Spec PyProof.Rows
theorem qhp:∀ {vs:List Value} {ns:List Int},IntsAre vs ns ->Vals (ns.map V.int) vs
 | _,_,.nil=> .nil
 | _,_,.cons n t h=> .cons ⟨t,rfl⟩ (qhp h)
def Only (H:Hp):Prop:=∀ b,H b=none\/ ∃ o xs,H b=some (.frz o (.lst xs))
theorem qtj {P:Program} {w:World} {K:PySem.W.Frag} {mg mb:Str ->Option Value} {CX:CXT} {k:Nat} {fa a:Addr} {fd:FuncData} {x:Str} {sp:Sp} {D:Shared} {vs:List Value} {ns:List Int}
  (KX:K.In D.heap) (a4:D.heap.Ns mainGlobals mg) (O:D.heap.Ns builtinsNs mb) (a8:∀ x:Str,x≠"__name__" ->mb x=bootBuiltins x) (a3:D.heap.NoLimit) (hg:D.gens=#[])
  (ha:D.heap.get? a=some {cls:= .type "list",data:= .seq vs.toArray}) (hi:IntsAre vs ns) (hl:ns.length<=sizeLine) (hr:Room k callerA)
  (F:∀ base:Heap,K.In base ->base.Ns mainGlobals mg ->FnOk P w K mg base CX k fa fd [x] sp) (a1:∀ (s:Shared) (u:Value),BindsTo s fd ⟨[u],[]⟩ [(x,u)])
  (a9:∀ H:Hp,Only H ->SqL K H a (ns.map V.int) ->sp [.ref a] H (λ v _=>v= .bl true) λ _ _ _=>False)
  (a7:∀ H e s',CX [] H D (λ _ _ _=>False) e s' ->False):
  codeAny (model P w) callerA (.call (.ref fa) ⟨[.ref a],[]⟩) (λ r s'=>r= .ok (.ret (.bool true))/\OldK D.heap s'.heap/\s'.os=D.os/\AllBare s'.gens) D:=by
 have rv:=qhp hi;have a6:=hi.length;have a0:∀ H:Hp,Only H ->SqL K H a (ns.map V.int) ->HOk P w H D.heap ->(∀ b,H b≠none ->b=a) ->(H a≠none ->K.lookup a=none) ->
   codeAny (model P w) callerA (.call (.ref fa) ⟨[.ref a],[]⟩) (λ r s'=>r= .ok (.ret (.bool true))/\OldK D.heap s'.heap/\s'.os=D.os/\AllBare s'.gens) D:=by
  intro H hO hS hok hA hK;have J:∀ {b:Addr} {o:Obj},D.heap.get? b=some o ->H b=none ->(hidT D.heap H).get? b=some o:=λ e n=>qt5 e n;have b2:∀ {b:Addr} {o:Obj} {es:Array DictEntry} {ep:Nat},D.heap.get? b=some o ->o.data= .dict es ep ->H b=none:=λ {b o es ep} e d=>by
   cases q:H b with
   | none=>rfl
   | some u=>
    have e':b=a:=hA b (by rw [q];simp);subst e';rw [ha] at e;cases e;have d':Data.seq vs.toArray _=Data.dict es ep:=d;cases d'
  have Z:∀ {b:Addr} {m:Str ->Option Value},D.heap.Ns b m ->(hidT D.heap H).Ns b m:=λ {b m} ⟨o,es,ep,e,d,r⟩=>⟨o,es,ep,J e (b2 e d),d,r⟩;have a2:K.In (hidT D.heap H):=λ b o e=>J (KX b o e) (by
   cases q:H b with
   | none=>rfl
   | some u=>
    have e':b=a:=hA b (by rw [q];simp);subst e';rw [hK (by rw [q];simp)] at e;cases e)
  have hM:Mod K mg (hidT D.heap H):=⟨a2,Z a4,⟨mb,Z O,a8⟩,let ⟨mc,h1,h2⟩:=a3;⟨mc,Z h1,h2⟩⟩;have e0:Env0 P w K mg (hidT D.heap H) callerA [] D H:=⟨rfl,hM,λ b o e=>qwb e,Nat.le_of_eq (qqd _ _),trivial,λ b O=>absurd (show b∈([]:List Addr) from O) (by simp),hok,.of_eq hg⟩;refine z43 ((F _ a2 (Z a4)).run callerA [] D H ⟨[.ref a],[]⟩ [.ref a] [.ref a] _ _ hr e0 (a1 D (.ref a)) (.cons rfl .nil) (a9 H hO hS)) λ r s' h=> ?_;cases r with
  | error e=>exact (a7 H e s' h).elim
  | ok fl=>
   cases fl with
   | next=>exact False.elim h
   | brk=>exact False.elim h
   | cont=>exact False.elim h
   | ret u=>
    obtain ⟨v,H',os,bare,un,a5,r',q⟩:=h;have q':v= .bl true:=q;subst q';obtain rfl:u=Value.bool true:=r';refine ⟨zf,OldK.of_keep λ b o e=> ?_,os,bare⟩;cases q:H b with
    | none=>exact un.keep b o e q (by intro z;exact absurd (show b∈([]:List Addr) from z) (by simp)) (by simp)
    | some u=>
     rcases hO b with z | ⟨ob,xs,z⟩
     ·rw [q] at z;cases z
     ·have z2:=un.frzs b ob _ z;obtain ⟨e1,_⟩:=hok b _ z;obtain ⟨e2,_⟩:=a5 b _ z2;rw [e] at e1;cases e1;exact e2
 cases hk:K.lookup a with
 | some o=>
  have e:=KX a o hk;rw [ha] at e;cases e
  refine a0 (λ _=>none) (λ _=> .inl rfl) (.inr ⟨_,vs.toArray,_,hk,rfl,rfl,rfl,by rw [z23,a6];exact hl,by simpa using rv⟩) (λ b u z=>by have z':(none:Option HO)=some u:=z;cases z') (λ b z=>absurd rfl z) λ z=>absurd rfl z
 | none=>
  refine a0 (λ b=>if b=a then some (.frz {cls:= .type "list",data:= .seq vs.toArray} (.lst (ns.map V.int))) else none) (λ b=> ?_) (.inl (.inr ⟨{cls:= .type "list",data:= .seq vs.toArray},if_pos rfl⟩)) (λ b u z=> ?_) (λ b z=> ?_) λ _=>hk
  ·by_cases O:b=a
   ·exact .inr ⟨_,_,if_pos O⟩
   ·exact .inl (if_neg O)
  ·by_cases O:b=a
   ·have z':=(if_pos O).symm.trans z;cases z'
    subst O;exact ⟨ha,by rw [z30];exact hl,vs,_,rv,ha⟩
   ·have z':=(if_neg O).symm.trans z;cases z'
  ·by_cases O:b=a
   ·exact O
   ·exact absurd (if_neg O) z
abbrev KOf {K:PySem.W.Frag} {h:Heap} (_:K.In h):PySem.W.Frag:=K
theorem qno {l:PySem.W.OpenLaw} {n k:Nat} {q:Program} {O:List Str} {XP:(Str ->Option Value) ->Heap ->Prop} {YP:World ->Heap ->Prop} {d:DefRec} {K:Params ->PySem.W.Frag} {CX:World ->CXT} {sp:World ->Sp} {x:Str}
  (hn:l.most=some n) (a3:n<=sizeLine) (a1:d.params.defaults=[]) (hr:Room k callerA)
  (hY:∀ (w:World) (h:Heap),YP w h ->(K w.params).In h)
  (F:∀ (w:World) (mg:Str ->Option Value) (fa:Addr) (h:Heap),(K w.params).In h ->h.Ns mainGlobals mg ->mg d.name=some (.ref fa) ->
   ∃ fd:FuncData,(∀ (s:Shared) (u:Value),BindsTo s fd ⟨[u],[]⟩ [(x,u)])/\
    ∀ base:Heap,(K w.params).In base ->base.Ns mainGlobals mg ->FnOk l.prog w (K w.params) mg base (CX w) k fa fd [x] (sp w))
  (a4:∀ (w:World) (H:Hp) (a:Addr) (ns:List Int),ns.length<=n ->Only H ->SqL (K w.params) H a (ns.map V.int) ->sp w [.ref a] H (λ v _=>v= .bl true) λ _ _ _=>False)
  (a0:∀ (w:World) (H:Hp) (s:Shared) (e:Value) (s':Shared),CX w [] H s (λ _ _ _=>False) e s' ->False):
  PySem.W.WalkO q O XP YP l.row.toRowW d [] (λ f vs=>PySem.call f vs):=by
 refine Att.qms hn a1 λ w s₀ s₁ mg mb fa o pm cd doc a vs ns G Y ho hd hcd a2 Z J D hg=> ?_;have KX:=hY w _ Y;obtain ⟨fd,hb,hF⟩:=F w mg fa _ KX G.T.g a2;exact qtj KX G.T.g G.T.b G.T.builtins G.T.nolimit hg Z J (z41 D a3) hr hF hb (λ H hO hS=>a4 w H a ns D hO hS) λ H e s'=>a0 w H s₁ e s'
theorem qtk {l:PySem.W.OpenLaw} {n k:Nat} {q:Program} {D:List Str} {XP:(Str ->Option Value) ->Heap ->Prop} {YP:World ->Heap ->Prop} {d:DefRec} {K:Params ->PySem.W.Frag} {CX:CXT} {sp:PySem.W.Frag ->Sp} {x:Str}
  (hn:l.most=some n) (Z:n<=sizeLine) (O:d.params.defaults=[]) (hr:Room k callerA)
  (hY:∀ (w:World) (h:Heap),YP w h ->(K w.params).In h)
  (F:∀ (w:World) (mg:Str ->Option Value) (fa:Addr) (h:Heap),(K w.params).In h ->h.Ns mainGlobals mg ->mg d.name=some (.ref fa) ->
   ∃ fd:FuncData,(∀ (s:Shared) (u:Value),BindsTo s fd ⟨[u],[]⟩ [(x,u)])/\
    ∀ base:Heap,(K w.params).In base ->base.Ns mainGlobals mg ->FnOk l.prog w (K w.params) mg base CX k fa fd [x] (sp (K w.params)))
  (a0:∀ (K:PySem.W.Frag) (H:Hp) (a:Addr) (ns:List Int),ns.length<=n ->Only H ->SqL K H a (ns.map V.int) ->sp K [.ref a] H (λ v _=>v= .bl true) λ _ _ _=>False)
  (J:∀ (H:Hp) (s:Shared) (e:Value) (s':Shared),CX [] H s (λ _ _ _=>False) e s' ->False):
  PySem.W.WalkO q D XP YP l.row.toRowW d [] (λ f vs=>PySem.call f vs):=
 qno (K:=K) (CX:=λ _=>CX) (sp:=λ w=>sp (K w.params)) hn Z O hr hY F (λ w H a ns h1 h2 h3=>a0 (K w.params) H a ns h1 h2 h3) λ _ H s e s'=>J H s e s'
end L2
/- THE LAST THEOREM (shape;LID,My.*are yours):
   My.Adr:a structure of the addresses that your layer names (classes,functions);My.Txt K t:a structure (Prop) of the equations over K;
   My.qm3:{K} {implicit addresses ..} (e1:nsIn K mainGlobals "law"=some (some (.ref f))) (e2:K.lookup f=some ⟨oc,od,.func (fnOf "law" "law" params body scope dV kV doc pm an cdv ct),sl⟩) (e3:codeIn K cdv "law"=true) .. :∃ t,My.Txt K t
set_option maxRecDepth 100000 in
set_option maxHeartbeats 0 in
theorem PySem.Challenge.cw_LID_holds : PySem.Challenge.rw_LID.Holds := by
 w_on;o_law;k_head;(case hw=>w_witness2)
 k_fill
 refine L2.qno (l:=PySem.Challenge.rw_LID) (n:=63) (k:=40) (x:="script") (CX:=λ w=> ..) (sp:=λ _=>My.sp_law) rfl (by decide) rfl ⟨zf,by decide,by decide⟩ (λ w h Y=>PySem.W.kIn_of Y) ?F ?S ?C
 case F=>
  intro w mg fa h KX G hmg;have T:∃ t,My.Txt (L2.KOf KX) t:=by
   dsimp only [L2.KOf] -- K must stand as «<heap const> w.params» for k_is
   refine' My.qm3 ?e1 ?e2 ?e3 ..
   (case e1=>PySem.W.k_is) -- in the order:a name ->its address ->its object ->its parts
   (case e2=>PySem.W.k_is)
   ..
  obtain ⟨t,T⟩:=T;have e0:=hmg.symm.trans (z3r KX G T.law);cases e0 -- fa is the law's own address
  exact ⟨_,λ s u=> .of_eq rfl,λ base kb nb=>My.law_fn T kb nb⟩ -- if «.of_eq rfl» comes too early:refine' ⟨_,?b,λ base kb nb=>My.law_fn T kb nb⟩;exact λ s u=> .of_eq rfl
 case S=>exact λ w H a ns hl hO hS=> ..
 case C=>exact ..
(the tactic k_is has no namespace:write k_is) -/
namespace L2
open PySem PySem.Spec PyProof.Rows
def q11 (s:Stmt) (j:Nat):Stmt:=match s with
 | .ClassDef _ _ _ body _ _ _ _ _ _ _=>body.getD j (.Pass ⟨0,0,0,0⟩)
 | _=> .Pass ⟨0,0,0,0⟩
def q1l (s:Stmt):Arguments:=match s with
 | .FunctionDef _ a _ _ _ _ _ _ _ _=>a
 | _=>{posonlyargs:=[],args:=[],vararg:=none,kwonlyargs:=[],kw_defaults:=[],kwarg:=none,defaults:=[]}
def q1d (s:Stmt):List Stmt:=match s with
 | .FunctionDef _ _ b _ _ _ _ _ _ _=>b
 | _=>[]
def qc (s:Stmt):Scope:=match s with
 | .FunctionDef _ _ _ _ _ _ sc _ _ _=>sc
 | _=>{kind:= .function,names:=[],isGenerator:=false,isCoroutine:=false}
abbrev CX0:CXT:=λ _ _ _ _ _ _=>False
abbrev E0:XK:=λ _ _ _=>False
theorem qcc {X:Cx}:q7u CX0 X E0:=λ _ _ _ _ _ _ _ h=>h.elim
structure Fun (K:PySem.W.Frag) (x qual:Str) (st:Stmt) (f:Addr) (fd:FuncData):Prop where
 ex:∃ (oc:Value) (od:Option Addr) (kV doc pm:Value) (an:Option Addr) (cdv ct:Value) (osl:Array (Option Value)),
  fd=PySem.W.fnOf x qual (q1l st) (q1d st) (qc st) .none kV doc pm an cdv ct/\K.lookup f=some ⟨oc,od,.func fd,osl⟩/\PySem.W.codeIn K cdv qual=true
 kp:PySem.W.keepIn K (.ref f)=true
section
variable {P:Program} {w:World} {K:PySem.W.Frag} {mg:Str ->Option Value} {base:Heap}
theorem Fun.ok {x qual:Str} {st:Stmt} {f:Addr} {fd:FuncData} {N ps:List Str} {k:Nat} {sp:Sp} (F:Fun K x qual st f fd) (S:FnScope N ps (qc st)) (len:∀ vs H Q E,sp vs H Q E ->vs.length=ps.length)
  (J:∀ (D:Value) (A:Around) (outer:List Env) (s:Shared) (H:Hp) (vs:List V) (Q:VK) (E:XK),Room k (A.deeper (envOfC qual (qc st) s.heap.objs.size f D)) ->sp vs H Q E ->
   ∃ t,PSs (cxOf CX0 P w K mg base N qual (qc st) f D A outer s H E).nox (q1d st) t/\t {nx:=λ _ H'=>Q .non H',rt:=Q} (start N vs) H):FnOk P w K mg base CX0 (k+1) f fd ps sp:=by
 obtain ⟨oc,od,kV,doc,pm,an,D,ct,osl,rfl,lk,O⟩:=F.ex;refine qvn lk O S len λ A outer s H vs Q E hr Z=> ?_;obtain ⟨t,h,q⟩:=J D A outer s H vs Q E hr Z;exact ⟨t,h.nox,q⟩
theorem qr1 {x qual:Str} {st:Stmt} {f:Addr} {oc:Value} {od Z:Option Addr} {O:Array (Option Value)} {kV J pm D ct:Value} (l:K.lookup f=some ⟨oc,od,.func (PySem.W.fnOf x qual (q1l st) (q1d st) (qc st) .none kV J pm Z D ct),O⟩)
  (c:PySem.W.codeIn K D qual=true) (k:PySem.W.keepIn K (.ref f)=true):Fun K x qual st f (PySem.W.fnOf x qual (q1l st) (q1d st) (qc st) .none kV J pm Z D ct):=⟨⟨oc,od,kV,J,pm,Z,D,ct,O,rfl,l,c⟩,k⟩
end
theorem q2h {A:Around} {k:Nat} (hr:Room k A):A.units+1 < cLine:=Nat.lt_of_le_of_lt (Nat.add_le_add_left (by decide:1<=64) _) hr.units
theorem q1v {n:Nat} (h:n<=1000):n < sizeLine:=Nat.lt_of_le_of_lt h (by decide)
section
variable {X:Cx}
theorem pv (i:Nat) {x:Str} {pos:Pos} (hN:X.N[i]? =some x:=by rfl) (hv:Vis X.env.scope x:=by first | exact Or.inl rfl | exact Or.inr (Or.inl rfl) | exact Or.inr (Or.inr rfl)) (hd:(x==("__debug__":Str))=false:=by decide)
  (D:(x==("__classdict__":Str))=false:=by decide):PE X (.Name x pos) (tVar i):=qyr hN hv hd D
end
theorem iteF {A B:Prop} (h:B):if false=true then A else B:=by
 rw [if_neg z1l];exact h
theorem iteT {A B:Prop} (h:A):if true=true then A else B:=by
 rw [if_pos rfl];exact h
theorem ite2 {c A B:Prop} [Decidable c] (h1:c ->A) (h2:¬ c ->B):if c then A else B:=by
 by_cases h:c
 ·rw [if_pos h];exact h1 h
 ·rw [if_neg h];exact h2 h
def Same (H H':Hp):Prop:=∀ b o,H b=some o ->H' b=some o
theorem Same.refl (H:Hp):Same H H:=λ _ _ h=>h
theorem Same.trans {H H1 H2:Hp} (a:Same H H1) (b:Same H1 H2):Same H H2:=λ c o h=>b c o (a c o h)
theorem Same.free {H H':Hp} (e:Same H H') {l:Addr} (h:H' l=Option.none):H l=Option.none:=by
 cases q:H l with
 | none=>rfl
 | some o=>
  rw [e l o q] at h;cases h
theorem Same.seq {K:PySem.W.Frag} {H H':Hp} {a:Addr} {xs:List V} (e:Same H H') (h:SqL K H a xs):SqL K H' a xs:=by
 rcases h with (h | ⟨o,h⟩) | h
 ·exact .inl (.inl (e _ _ h))
 ·exact .inl (.inr ⟨o,e _ _ h⟩)
 ·exact .inr h
section
variable {X:Cx}
theorem qhq:q24 X (.builtin "len") (λ xs H Q=>∃ a kvs,xs=[V.ref a]/\H a=some (.dK kvs)/\Q (.int kvs.length) H):=by
 intro pins s σ H xs us Q I r h;obtain ⟨a,kvs,rfl,ha,q⟩:=h;obtain ⟨u,rfl,ru⟩:=q3b r;cases ru
 exact q114 I (.inl ha) λ t s' I'=>⟨.int kvs.length,H,I',⟨t,zf⟩,q⟩
end
section
variable {κ:Type} [DecidableEq κ]
theorem qfz:∀ {l:List κ} {k:κ},l.Nodup ->¬ k∈l ->(l++ [k]).Nodup
 | [],k,_,_=>by simp
 | a::r,k,h,hk=>by
  obtain ⟨h1,h2⟩:=z32.mp h;show (a::(r++ [k])).Nodup;refine z32.mpr ⟨λ m=> ?_,qfz h2 λ m=>hk (z3n.mpr (Or.inr m))⟩;rcases z2u.mp m with q | q
  ·exact h1 q
  ·exact hk (z3n.mpr (Or.inl (z1m.mp q).symm))
end
theorem qg0 {β:Type} {x n:Str} {b c:β} {l:List (Str×β)} (h:((n,b)::l).lookup x=some c):(x=n/\b=c)\/ l.lookup x=some c:=by
 rw [List.lookup_cons] at h;cases e:x==n with
 | true=>
  rw [e] at h;exact .inl ⟨eq_of_beq e,Option.some.inj h⟩
 | false=>
  rw [e] at h;exact .inr h
theorem qdj {β:Type} {x n:Str} {b:β} {l:List (Str×β)} (h:x=n\/ ∃ c,l.lookup x=some c):∃ c,((n,b)::l).lookup x=some c:=by
 rw [List.lookup_cons];cases e:x==n with
 | true=>exact ⟨b,rfl⟩
 | false=>
  rcases h with h | h
  ·subst h;simp at e
  ·exact h
theorem q9s {env:Env}:∀ (names:List (Str×NameKind)) (acc:List (Str×Addr)),(∀ y∈names,y.2= .free ->∃ c,env.cells.lookup y.1=some c) ->
    (∀ x c,acc.lookup x=some c ->env.cells.lookup x=some c) ->
    ∃ cl,(forIn names acc (λ x r=>if (x.2==NameKind.free)=true then (cellOf env x.1 >>=λ c=>pure (ForInStep.yield ((x.1,c)::r))) else pure (ForInStep.yield r)):Sem (List (Str×Addr)))=pure cl/\
      (∀ x c,cl.lookup x=some c ->env.cells.lookup x=some c)/\(∀ y∈names,y.2= .free ->∃ c,cl.lookup y.1=some c)/\(∀ x c,acc.lookup x=some c ->∃ D,cl.lookup x=some D)
  | [],acc,_,h=>⟨acc,rfl,h,(λ _ z=>nomatch z),λ x c e=>⟨c,e⟩⟩
  | (n,k)::r,acc,hn,h=>by
    rw [List.forIn_cons];by_cases hk:k= .free
    · subst hk
      obtain ⟨c,Z⟩:=hn (n,.free) z1p rfl;have e1:(cellOf env n:Sem Addr)=pure c:=by
        have O:env.cells.lookup n=some c:=Z;unfold cellOf;rw [O]
      obtain ⟨cl,e,h1,h2,J⟩:=q9s r ((n,c)::acc) (λ y hy=>hn y (z16 _ hy)) (λ x D e=>by
        rcases qg0 e with ⟨e1,e2⟩ | e
        · subst e1;subst e2;exact Z
        · exact h x D e)
      refine ⟨cl,?_,h1,?_,λ x D e=> ?_⟩
      · show ((if ((n,NameKind.free).2==NameKind.free)=true then (cellOf env n >>=λ c=>pure (ForInStep.yield ((n,c)::acc))) else pure (ForInStep.yield acc)) >>=_)=_
        rw [if_pos (show ((n,NameKind.free).2==NameKind.free)=true from rfl),e1];exact e
      · intro y hy hf
        rcases z3n.mp hy with rfl | hy
        · exact J n c (by simp)
        · exact h2 y hy hf
      · obtain ⟨c2,e2⟩:=qdj (n:=n) (b:=c) (.inr ⟨D,e⟩)
        exact J x c2 e2
    · obtain ⟨cl,e,h1,h2,J⟩:=q9s r acc (λ y hy=>hn y (z16 _ hy)) h
      refine ⟨cl,?_,h1,?_,J⟩
      · show ((if ((n,k).2==NameKind.free)=true then (cellOf env n >>=λ c=>pure (ForInStep.yield ((n,c)::acc))) else pure (ForInStep.yield acc)) >>=_)=_
        rw [if_neg (by simpa using hk)];exact e
      · intro y hy hf
        rcases z3n.mp hy with rfl | hy
        · exact absurd hf hk
        · exact h2 y hy hf
theorem qnp {scope:Scope} {env:Env} (h:∀ y∈scope.names,y.2= .free ->∃ c,env.cells.lookup y.1=some c):
  ∃ cl,closureFor scope env=pure cl/\(∀ x c,cl.lookup x=some c ->env.cells.lookup x=some c)/\(∀ y∈scope.names,y.2= .free ->∃ c,cl.lookup y.1=some c):=by
 obtain ⟨cl,e,h1,h2,_⟩:=q9s scope.names [] h (λ x c e=>by simp at e);refine ⟨cl,?_,h1,h2⟩;unfold closureFor;show ((forIn scope.names [] (λ x r=>if (x.2==NameKind.free)=true then (cellOf env x.1 >>=λ c=>pure (ForInStep.yield ((x.1,c)::r))) else pure (ForInStep.yield r)):Sem (List (Str×Addr))) >>=λ r=>pure r)=_;rw [e];rfl
def relK (env:Env) (x:Str) (k:NameKind):NameKind:=if (k== .free&&env.scope.kind== .function&&env.kindOf x==some .cell)=true then .cell else k
theorem q96 {env:Env} {x:Str}:∀ (names:List (Str×NameKind)),
    (names.map λ (n,k)=>if (k==NameKind.free&&env.scope.kind== .function&&env.kindOf n==some .cell)=true then (n,NameKind.cell) else (n,k)).lookup x=(names.lookup x).map (relK env x)
  | []=>rfl
  | (n,k)::r=>by
    have ih:=q96 (env:=env) (x:=x) r;have e:(if (k==NameKind.free&&env.scope.kind== .function&&env.kindOf n==some .cell)=true then (n,NameKind.cell) else (n,k))=(n,relK env n k):=by
      unfold relK;split <;> rfl
    show List.lookup x ((if (k==NameKind.free&&env.scope.kind== .function&&env.kindOf n==some .cell)=true then (n,NameKind.cell) else (n,k))::_)=_;rw [e,List.lookup_cons,List.lookup_cons];cases hx:x==n with
    | true=>
      have:=eq_of_beq hx;subst this;rfl
    | false=>exact ih
theorem qcy {scope:Scope} {cl:List (Str×Addr)} {C:Addr} {env:Env} {x:Str}:(compEnvC scope cl C env).kindOf x=(scope.names.lookup x).map (relK env x):=q96 (env:=env) (x:=x) scope.names
theorem qr2 {env:Env} {x:Str}:relK env x .free= .cell\/ relK env x .free= .free:=by
 unfold relK;split
 ·exact .inl rfl
 ·exact .inr rfl
theorem qwy {env:Env} {x:Str} {k:NameKind} (h:relK env x k= .cell\/ relK env x k= .free):k= .cell\/ k= .free:=by
 unfold relK at h;split at h
 ·rename_i z;simp only [z2m,beq_iff_eq] at z;exact .inr z.1.1
 ·exact h
def capt (caps:List (Option Nat)) (σ:St):St:=caps.map λ o=>match o with
 | none=>none
 | some j=>(σ[j]?).join
def qep (oN:List Str) (osc:Scope) (N:List Str) (caps:List (Option Nat)) (sc:Scope):Bool:=
 (sc.kind== .function)&&decide N.Nodup&&(N.length==caps.length)&&sc.names.all (λ y=> !(y.2== .cell))&&
 sc.names.all (λ y=> !(y.2== .local) || sc.names.lookup y.1==some .local)&&
 sc.names.all (λ y=> !(y.2== .free) || (osc.names.lookup y.1==some .cell || osc.names.lookup y.1==some .free))&&
 (N.zip caps).all (λ p=>match p.2 with
  | none=>true
  | some j=>oN[j]? ==some p.1&&sc.names.lookup p.1==some .free)
structure CompOk (oN:List Str) (osc:Scope) (N:List Str) (caps:List (Option Nat)) (sc:Scope):Prop where
 kind:sc.kind= .function
 nd:N.Nodup
 len:N.length=caps.length
 nocell:∀ y∈sc.names,y.2≠ .cell
 loc:∀ y∈sc.names,y.2= .local ->sc.names.lookup y.1=some .local
 fr:∀ y∈sc.names,y.2= .free ->osc.names.lookup y.1=some .cell\/ osc.names.lookup y.1=some .free
 cap:∀ (i j:Nat) (x:Str),N[i]? =some x ->caps[i]? =some (some j) ->oN[j]? =some x/\sc.names.lookup x=some .free
theorem qhr {J:List Str} {D:Scope} {N:List Str} {caps:List (Option Nat)} {O:Scope} (h:qep J D N caps O=true):CompOk J D N caps O:=by
  unfold qep at h;simp only [z2m,z2n,decide_eq_true_eq,beq_iff_eq,Bool.or_eq_true,Bool.not_eq_true',beq_eq_false_iff_ne,ne_eq] at h;obtain ⟨⟨⟨⟨⟨⟨h1,h2⟩,h3⟩,h4⟩,h5⟩,h6⟩,h7⟩:=h;refine ⟨h1,h2,h3,h4,λ y hy e=> ?_,λ y hy e=> ?_,λ i j x hi hj=> ?_⟩
  · rcases h5 y hy with z | z
    · exact absurd e z
    · exact z
  · rcases h6 y hy with z | z
    · exact absurd e z
    · exact z
  · have hm:(x,some j)∈N.zip caps:=by
      refine z18 (i:=i) ?_;rw [List.getElem?_zip_eq_some];exact ⟨hi,hj⟩
    have:=h7 _ hm
    simpa using this
def q3u (X:Cx) (N:List Str) (scope:Scope) (cl:List (Str×Addr)) (C:Addr) (fp:List Addr) (s:Shared) (H:Hp):Cx:=
 {X with N:=N,s₀:=s,H₀:=H,env:=compEnvC scope cl C X.env,outer:=X.stack,ex:=fp,fn:=λ _=>false,pn:=[],xe:=λ _ _=>False}
section
variable {X:Cx} {pins:List (Addr×Obj)} {σ:St} {H:Hp} {s:Shared} {N:List Str} {caps:List (Option Nat)} {scope:Scope} {cl:List (Str×Addr)} {fp:List Addr}
theorem qtl (I:Inv X pins σ H s) (hf:∀ b∈fp,FpOk X pins H b) (ho:∀ b∈fp,∃ o,s.heap.get? b=some o) (S:CompOk X.N X.env.scope N caps scope)
    (c1:∀ x c,cl.lookup x=some c ->X.env.cells.lookup x=some c) (c2:∀ y∈scope.names,y.2= .free ->∃ c,cl.lookup y.1=some c)
    {h':Heap} {m:Str ->Option Value} {tk:Nat} (hn:h'.Ns s.heap.objs.size m) (hk:∀ b u,s.heap.get? b=some u ->h'.get? b=some u):
    Inv (q3u X N scope cl s.heap.objs.size fp s H) [] (capt caps σ) H {s with heap:=h',toks:=tk}:=by
  have a2:∀ b∈fp,b∉frs X.stack:=λ b hb z=>by
    obtain ⟨_,f1,f2,_⟩:=hf b hb;rcases z3n.mp (I.stkSub b z) with e | e
    · exact f1 e
    · exact f2 e
  have O:∀ x,scope.names.lookup x=some .free ->∃ c,cl.lookup x=some c:=λ x e=>c2 (x,.free) (z1d e) rfl;refine ⟨⟨I.ok.mod,S.kind,I.ok.glob,I.ok.blt,z48 _,λ x y c e1 e2=>I.ok.inj x y c (c1 x c e1) (c1 y c e2),λ x hx=> ?_,λ x c z _=>absurd (show false=true from z) (by decide),I.ok.hd,I.ok.frames,.inl rfl,
    λ b hb=>⟨?_,λ x c e=>(hf b hb).2.2.2.2.1 x c (c1 x c e)⟩,I.bs,z41 I.ok.bsz I.sz,λ b o e hb=> ?_,a2,I.stack,I.stkFree⟩,
    rfl,I.bare,Un.kept hk,⟨m,hn,λ i x v e1 e2 e3=> ?_⟩,λ x c e=> ?_,I.hok.fresh (z48 _),λ x c e=>I.freeC x c (c1 x c e),λ p hp=>absurd (show p∈([]:List (Addr×Obj)) from hp) (by simp),I.hok.kept hk,?_⟩
  · have D:(scope.names.lookup x).map (relK X.env x)=some .cell\/ (scope.names.lookup x).map (relK X.env x)=some .free:=by
      rw [<- qcy (cl:=cl) (C:=s.heap.objs.size)];exact hx
    cases e:scope.names.lookup x with
    | none=>
      rw [e] at D;rcases D with z | z <;> cases z
    | some k=>
      rw [e] at D;have z:relK X.env x k= .cell\/ relK X.env x k= .free:=by
        rcases D with z | z
        · exact .inl (Option.some.inj z)
        · exact .inr (Option.some.inj z)
      rcases qwy z with z | z
      · subst z
        exact absurd rfl (S.nocell _ (z1d e))
      · subst z
        exact O x e
  · obtain ⟨o,e⟩:=ho b hb
    exact z40 (z3z e)
  · obtain ⟨_,_,_,f3,_⟩:=hf b hb
    rcases f3 with z | z
    · exact I.ok.noex b o e z
    · exact absurd (z1r (z3z e) (z41 I.ok.bsz z)) (z3p _)
  · have hi:i < caps.length:=by
      unfold capt at e2;obtain ⟨h1,_⟩:=z07.mp e2
      simpa using h1
    have J:(capt caps σ)[i]? =(caps[i]?).map λ o=>match o with
        | none=>none
        | some j=>(σ[j]?).join:=by
      unfold capt;rw [z22]
    rw [e2] at J;cases q:caps[i]? with
    | none=>
      rw [q] at J;cases J
    | some o=>
      rw [q] at J;cases o with
      | none=>
        cases (Option.some.inj J)
      | some j=>
        have ej:σ[j]? =some (some v):=by
          have z:some v=(σ[j]?).join:=Option.some.inj J;cases q2:σ[j]? with
          | none=>rw [q2] at z;cases z
          | some w=>rw [q2] at z;exact congrArg some z.symm
        obtain ⟨n1,n2⟩:=S.cap i j x e1 q;have a1:X.env.kindOf x=some .cell\/ X.env.kindOf x=some .free:=S.fr (x,.free) (z1d n2) rfl;obtain ⟨m0,_,hl⟩:=I.loc;obtain ⟨u,r,l⟩:=hl j x v n1 ej (.inr a1);refine ⟨u,r,?_⟩;rcases l with ⟨k,_⟩ | ⟨_,c,J,z⟩
        · rw [k] at a1
          rcases a1 with z | z <;> cases z
        · obtain ⟨c',e'⟩:=O x n2
          have:c'=c:=Option.some.inj ((c1 x c' e').symm.trans J);subst this;refine .inr ⟨?_,c',e',?_⟩
          · have kk:(compEnvC scope cl s.heap.objs.size X.env).kindOf x=some (relK X.env x .free):=by rw [qcy,n2];rfl
            rcases qr2 (env:=X.env) (x:=x) with z | z
            · rw [z] at kk;exact .inl kk
            · rw [z] at kk;exact .inr kk
          · obtain ⟨o,Z,a0⟩:=z
            exact ⟨o,hk _ _ Z,a0⟩
  · obtain ⟨v,o,Z,a0⟩:=I.cell x c (c1 x c e)
    exact ⟨v,o,hk _ _ Z,a0⟩
  · show (capt caps σ).length=N.length
    unfold capt;rw [z30];exact S.len.symm
end
def PF (X:Cx) (ifs:List Expr) (t:TT):Prop:=
 ∀ (pins:List (Addr×Obj)) (s:Shared) (σ:St) (H:Hp) (Q:Bool ->Hp ->Prop),Inv X pins σ H s ->t σ H Q ->
  wpAny (model X.prog X.w) X.A (forIn ifs true λ c r=>if r=true then do let ok <- isTrue c X.env (eval c X.env);pure (ForInStep.yield ok) else pure (ForInStep.yield r)) (TP X pins σ Q) X.xe s
def tYes:TT:=λ _ H Q=>Q true H
section
variable {X:Cx}
theorem q3v:PF X [] tYes:=λ _ _ _ H _ I h=>z4e ⟨H,I,h⟩
theorem q97 {c:Expr} {t:TT} (hc:PT X c t):PF X [c] t:=by
 intro pins s σ H Q I h;rw [List.forIn_cons];refine z4f ?_;rw [if_pos rfl];refine z4f (thn (hc pins s σ H Q I h) λ ok s1 q=>z4e ?_);exact z4e q
end
theorem qks {prog:Program} {w:World} {A:Around} {R:Result ->Shared ->Prop} {s:Shared} {elt D iter:Expr} {ifs:List Expr} {scope:Scope} {pos:Pos} {it acc:Value} {env:Env} (I:Nat ->Shared ->Prop)
  (turn:∀ n s,I n s ->wpAny (model prog w) A (pyNext it) (λ r Z=>match r with
   | none=>R (.ok .next) Z
   | some v=>wpAny (model prog w) A (letOwnedTupleGo D it v) (λ _ J=>wpAny (model prog w) A (assign D env v) (λ _ s₂=>
     wpAny (model prog w) A (forIn ifs true λ c r=>if r=true then do let ok <- isTrue c env (eval c env);pure (ForInStep.yield ok) else pure (ForInStep.yield r)) (λ ok s₃=>
      if ok=true then wpAny (model prog w) A (eval elt env) (λ x s₄=>
       wpAny (model prog w) A (call (.builtin "list.append") [acc,x]) (λ _ s₅=>∃ m,m < n/\I m s₅) (λ _ _=>False) s₄) (λ _ _=>False) s₃
      else ∃ m,m < n/\I m s₃) (λ _ _=>False) s₂) (λ _ _=>False) J) (λ _ _=>False) Z) (λ _ _=>False) s)
  (n:Nat) (h:I n s):
  codeAny (model prog w) A (.compLoop (.ListComp elt [⟨D,iter,ifs,0⟩] scope pos) 0 it acc env) R s:=by
 refine codeAny_loop rfl I (λ n s hI=> ?_) n h;show wpAny _ A ((compTurn (.ListComp elt [⟨D,iter,ifs,0⟩] scope pos) 0 it acc env).onRaise (λ x=>do noteFrame x env;theTreesLotGoes x)) _ _ s;refine wpAny_noted ?_;rw [compTurn_list];refine z4f (wpAny_standAt (z4f (z4g (turn n s hI) (λ r Z h₁=> ?_) λ _ _ z=>False.elim z)));cases r with
 | none=>exact z4e h₁
 | some v=>
  refine z4f (z4g h₁ (λ _ J O=> ?_) λ _ _ z=>False.elim z);refine z4f (z4g O (λ _ s₂ h₂=>z4f (z4g h₂ (λ ok s₃ h₃=> ?_) λ _ _ z=>False.elim z)) λ _ _ z=>False.elim z);cases ok with
  | false=>exact z4e ⟨rfl,h₃⟩
  | true=>
   exact z4f (z4f (z4g h₃ (λ x s₄ h₄=>z4f (z4g h₄ (λ _ s₅ h₅=>z4e (z4e ⟨zf,h₅⟩)) λ _ _ z=>False.elim z)) λ _ _ z=>False.elim z))
def qvq (J:It) (g:TG) (tf:TT) (te:TE) (D:Addr) (QE:Hp ->Prop) (W:Nat ->Nat ->St ->Hp ->Prop):Prop:=∀ i m σ H,W i m σ H ->
 (J.stop i H/\QE H)\/ (J.go i H/\∃ N:St ->Hp ->Prop,(∀ σ' H',N σ' H' ->∃ m',m' < m/\W (i+1) m' σ' H')/\∀ x H',J.yld i H x H' ->g x σ H' λ σ2 H2=>tf σ2 H2 λ b H3=>
  if b=true then te σ2 H3 λ v H4=>∃ xs,H4 D=some (.lst xs)/\xs.length < sizeLine/\N σ2 (upd H4 D (.lst (xs++ [v]))) else N σ2 H3)
def qp1 (caps:List (Option Nat)) (wi:TI) (g:TG) (tf:TT) (te:TE):TE:=λ σ H Q=>wi σ H λ J H1=>∀ D,H1 D=none ->
 ∃ W:Nat ->Nat ->St ->Hp ->Prop,(∃ m,W 0 m (capt caps σ) (upd H1 D (.lst [])))/\qvq J g tf te D (λ H'=>Q (.ref D) H') W
section
variable {X:Cx} {pins:List (Addr×Obj)} {σ:St} {H:Hp} {s:Shared} {N:List Str} {caps:List (Option Nat)} {scope:Scope} {elt tg iter:Expr} {ifs:List Expr} {wi:TI} {g:TG} {tf:TT} {te:TE} {pos:Pos}
theorem qhs {RR:Value ->Addr ->Result ->Shared ->Prop} {cl:List (Str×Addr)} {Q:VK} (hc:X.calm=true) (S:CompOk X.N X.env.scope N caps scope) (hi:PI X tg iter wi)
  (hg:∀ cl C fp s H,PG (q3u X N scope cl C fp s H) tg g) (hf:∀ cl C fp s H,PF (q3u X N scope cl C fp s H) ifs tf) (he:∀ cl C fp s H,PE (q3u X N scope cl C fp s H) elt te)
  (c1:∀ x c,cl.lookup x=some c ->X.env.cells.lookup x=some c) (c2:∀ y∈scope.names,y.2= .free ->∃ c,cl.lookup y.1=some c)
  (I:Inv X pins σ H s) (h:qp1 caps wi g tf te σ H Q)
  (fin:∀ (D C:Addr) (m:Str ->Option Value) (H5:Hp) (s5:Shared),Inv X pins σ H5 s5 ->s5.heap.Ns C m ->FpOk X pins H5 C ->Q (.ref D) H5 ->RR (.ref D) C (.ok .next) s5):
  wpAny (model X.prog X.w) X.A (eval iter X.env) (λ x s₁=>wpAny (model X.prog X.w) X.A (pyIter x) (λ it s₂=>wpAny (model X.prog X.w) X.A (newList []) (λ acc s₃=>
   wpAny (model X.prog X.w) X.A (newFunctionEnv scope X.env.globals cl [] X.env.qual none .none (some X.env)) (λ a2 s₄=>
    codeAny (model X.prog X.w) X.A (.compStart (.ListComp elt [⟨tg,iter,ifs,0⟩] scope pos) 0 it acc {a2 with scope:=relabel scope X.env}) (RR acc a2.locals) s₄) X.xe s₃) X.xe s₂) X.xe s₁) X.xe s:=by
 refine thn (hi pins s σ H _ I h) λ v s1 h1=>thn h1 λ itv s2 h2=> ?_;obtain ⟨it,fp,tn,J,H2,e,I2,T,a9,f2,q⟩:=h2;subst e;have nD:H2 s2.heap.objs.size=none:=I2.hok.fresh (z48 _);obtain ⟨W,⟨m0,w0⟩,turn⟩:=q s2.heap.objs.size nD;refine z28 ?_;have I3:Inv X pins σ (upd H2 s2.heap.objs.size (.lst [])) {s2 with heap:=s2.heap.push {cls:= .type "list",data:= .seq ([]:List Value).toArray}}:=
  I2.laid (t':=s2.toks) (o:= .lst []) (λ b ob e=>z0o _ e) (z48 _) ⟨z4b _,[],0,.nil,z1c _ rfl⟩
 have a8:∀ b∈fp,∃ o,s2.heap.get? b=some o:=λ b Z=>let ⟨o,e,_⟩:=T.obj 0 s2.heap a9 b Z;⟨o,e⟩
 have b9:∀ b∈fp,b≠s2.heap.objs.size:=λ b Z=>let ⟨o,e⟩:=a8 b Z;z40 (z3z e)
 generalize b8:({s2 with heap:=s2.heap.push {cls:= .type "list",data:= .seq ([]:List Value).toArray}}:Shared)=s3 at I3;have eh:s3.heap=s2.heap.push {cls:= .type "list",data:= .seq ([]:List Value).toArray}:=by rw [<- b8]
 generalize hD:s2.heap.objs.size=D at*;generalize b6:upd H2 D (.lst [])=H3 at I3 w0;have f3:∀ b∈fp,FpOk X pins H3 b:=λ b Z=>⟨by rw [<- b6,qh (b9 b Z)];exact (f2 b Z).1,(f2 b Z).2⟩;have c0:∀ b∈fp,∃ o,s3.heap.get? b=some o:=λ b Z=>let ⟨o,e⟩:=a8 b Z;⟨o,by rw [eh];exact z0o _ e⟩
 have c4:tn 0 s3.heap:=T.keep 0 _ _ a9 λ b Z o e=>by rw [eh];exact z0o _ e
 show wpAny (model X.prog X.w) X.A (newFunctionEnv scope X.env.globals cl [] X.env.qual none .none (some X.env)) _ X.xe s3;refine wpAny_newFunctionEnv S.nocell (by intro y hy;simp at hy) (λ h₁ a6 a7=> ?_) S.kind;have k1:∀ b u,s3.heap.get? b=some u ->h₁.get? b=some u:=λ b u e=>a7.extBut b u (z40 (z3z e)) (z0o _ e);have J0:=qtl (tk:=s3.toks+([]:List (Str×Value)).length) I3 f3 c0 S c1 c2 a6 k1;generalize hC:s3.heap.objs.size=C at*;generalize O:q3u X N scope cl C fp s3 H3=X' at J0;have a0:tn 0 h₁:=T.keep 0 _ _ c4 λ b Z o e=>k1 b o e;have a1:∀ {H':Hp},(∀ b∈fp,H' b=none) ->∀ b∈fp,FpOk X' [] H' b:=λ {H'} hn b Z=>by
  subst O;exact ⟨hn b Z,(J0.ok.exf b Z).1,J0.ok.exfs b Z,.inl Z,(J0.ok.exf b Z).2,λ p hp=>absurd (show p∈([]:List (Addr×Obj)) from hp) (by simp)⟩
 have loop:∀ s4:Shared,s4={s3 with heap:=h₁,toks:=s3.toks+([]:List (Str×Value)).length} ->
   codeAny (model X.prog X.w) X.A (.compLoop (.ListComp elt [⟨tg,iter,ifs,0⟩] scope pos) 0 (.ref it) (.ref D) (compEnvC scope cl C X.env)) (RR (.ref D) C) s4:=by
  rintro s4 rfl;refine qks (λ n s'=>∃ i σ' H',Inv X' [] σ' H' s'/\tn i s'.heap/\(∀ b∈fp,H' b=none)/\W i n σ' H') ?_ m0 ⟨0,_,H3,J0,a0,λ b Z=>(f3 b Z).1,w0⟩;rintro n s4 ⟨i,σ4,H4,J4,a0,a5,w4⟩;rcases turn i n σ4 H4 w4 with ⟨stop,qn⟩ | ⟨go,Nn,b7,step⟩
  ·have d:=T.done X' (by subst O;rfl) (by subst O;rfl) (by subst O;rfl) (by subst O;exact hc) i [] s4 σ4 H4 (λ _ _=>False) J4 (a1 a5) a0 stop;have eA:X'.A=X.A:=by subst O;rfl
   rw [eA] at d;refine z4g d (λ r s5 hr=> ?_) λ _ _ z=>z;obtain ⟨hr,J5⟩:=hr;subst hr;have I5:Inv X pins σ H4 s5:=by
    subst O;exact I3.call' J5.os J5.base J5.hok J5.bare λ b Z=>⟨(f3 b Z).2.2.2.1,(f3 b Z).2.1,(f3 b Z).2.2.2.2.1,(f3 b Z).2.2.2.2.2⟩
   obtain ⟨m,hn,_⟩:=J5.loc;have fr:=J5.free;subst O;exact fin D C m H4 s5 I5 hn (I3.fpOk (b:=C) (Nat.le_of_eq hC) fr) qn
  ·have d:=T.item X' (by subst O;rfl) (by subst O;rfl) (by subst O;rfl) (by subst O;exact hc) i [] s4 σ4 H4 (λ _ _=>False) J4 (a1 a5) a0 go;have eA:X'.A=X.A:=by subst O;rfl
   rw [eA] at d;refine z4g d (λ r s5 hr=> ?_) λ _ _ z=>z;obtain ⟨u,hr,h5⟩:=hr;subst hr;refine z4g h5 (λ _ s6 q6=> ?_) λ _ _ z=>z;obtain ⟨x,H6,J6,r6,y6,a4,b4⟩:=q6;have b3:=J6.pinned (a1 b4) (T.obj _ _ a4);have again:∀ {H9:Hp} {s9:Shared} {σ9:St},Inv X' ([]++qb2 fp s6.heap) σ9 H9 s9 ->Nn σ9 H9 ->∃ m,m < n/\∃ i σ' H',Inv X' [] σ' H' s9/\tn i s9.heap/\(∀ b∈fp,H' b=none)/\W i m σ' H':=λ {H9 s9 σ9} J9 q9=>by
    obtain ⟨m',hm,w9⟩:=b7 σ9 H9 q9;refine ⟨m',hm,i+1,σ9,H9,J9.unpinned,T.keep _ _ _ a4 λ b Z o e=>(J9.pin (b,o) (z0w _ (z0w _ (q5k Z e)))).1,λ b Z=> ?_,w9⟩;obtain ⟨o,e,d⟩:=T.obj _ _ a4 b Z;exact (J9.pin (b,o) (z0w _ (z0w _ (q5k Z e)))).2.1
   subst O;refine z4g (hg cl C fp s3 H3 _ s6 σ4 H6 x u _ b3 r6 (step x H6 y6)) (λ _ s7 q7=> ?_) λ _ _ z=>z;obtain ⟨σ7,H7,J7,q7⟩:=q7;refine z4g (hf cl C fp s3 H3 _ s7 σ7 H7 _ J7 q7) (λ ok s8 q8=> ?_) λ _ _ z=>z;obtain ⟨H8,J8,q8⟩:=q8;cases ok with
   | false=>
    rw [if_neg (by decide)] at q8;rw [if_neg (by decide)];exact again J8 q8
   | true=>
    rw [if_pos rfl] at q8;rw [if_pos rfl];refine z4g (he cl C fp s3 H3 _ s8 σ7 H8 _ J8 q8) (λ v9 s9 q9=> ?_) λ _ _ z=>z;obtain ⟨y,H9,J9,r9,xs,b5,hz,q9⟩:=q9;refine z4g (q6r (X:=q3u X N scope cl C fp s3 H3) _ s9 σ7 H9 (.ref D) [y] (.ref D) [v9] (λ _ H'=>Nn σ7 H') J9 rfl (.cons r9 .nil) ⟨D,xs,y,zf,zf,b5,hz,q9⟩) (λ _ s10 a3=> ?_) λ _ _ z=>z;obtain ⟨_,H10,b2,_,a3⟩:=a3;exact again b2 a3
 exact codeAny_compStart_list (loop _ rfl) (T.self _ 0 _ _ _ a0 (loop _ rfl))
theorem q29 (hc:X.calm=true) (ho:qep X.N X.env.scope N caps scope=true) (hi:PI X tg iter wi)
  (hg:∀ cl C fp s H,PG (q3u X N scope cl C fp s H) tg g) (hf:∀ cl C fp s H,PF (q3u X N scope cl C fp s H) ifs tf) (he:∀ cl C fp s H,PE (q3u X N scope cl C fp s H) elt te)
  (hs:∀ x,foldedSetIterable iter X.env x=pure x:=by intro _;rfl):PE X (.ListComp elt [⟨tg,iter,ifs,0⟩] scope pos) (qp1 caps wi g tf te):=by
 intro pins s σ H Q I h;have S:=qhr ho;obtain ⟨cl,O,c1,c2⟩:=qnp (scope:=scope) (env:=X.env) (λ y hy e=>I.ok.has y.1 (S.fr y hy e));rw [eval_ListComp];refine wpAny_comprehension_free (use:=none) rfl hs O S.kind S.loc (qhs (RR:=λ acc C=>compPost (model X.prog X.w) X.A X.xe none (EP X pins σ Q) acc C) hc S hi hg hf he c1 c2 I h ?_);intro D C m H5 s5 I5 hn J q;exact ⟨m,hn,λ h' sb=>⟨.ref D,H5,I5.turned (t':=s5.toks) (λ b o hb e=>(sb.2 b hb).trans e) J.1 J.2.1 J.2.2.2.1 J.2.2.2.2.1 J.2.2.2.2.2,zf,q⟩⟩
theorem q9t {i:Nat} {x:Str} {px J:Pos} (hN:X.N.Nodup) (a3:X.N[i]? =some x) (hx:X.env.scope.names.lookup x=some .local) (hc:X.calm=true) (ho:qep X.N X.env.scope N caps scope=true) (hi:PI X tg iter wi)
  (hg:∀ cl C fp s H,PG (q3u X N scope cl C fp s H) tg g) (hf:∀ cl C fp s H,PF (q3u X N scope cl C fp s H) ifs tf) (he:∀ cl C fp s H,PE (q3u X N scope cl C fp s H) elt te)
  (a4:swapsWith (.ListComp elt [⟨tg,iter,ifs,0⟩] scope pos) (some (.Name x px)) J.line X.env=pure true:=by rfl)
  (hs:∀ x,foldedSetIterable iter X.env x=pure x:=by intro _;rfl):PS X (.Assign [.Name x px] (.ListComp elt [⟨tg,iter,ifs,0⟩] scope pos) J) (tAsg (qp1 caps wi g tf te) (qoq i)):=by
 intro pins s σ H D I h;have S:=qhr ho;obtain ⟨cl,a2,c1,c2⟩:=qnp (scope:=scope) (env:=X.env) (λ y hy e=>I.ok.has y.1 (S.fr y hy e));rw [exec_Assign_Name_used _ _ _ _ a4];refine z4f (wpAny_standAt (z4f ?_));show wpAny _ X.A (do let _ <- comprehension (.ListComp elt [⟨tg,iter,ifs,0⟩] scope pos) scope X.env _ (newList []) false (eval iter X.env) (some (assign (.Name x px) X.env))) _ _ s;refine z4f (z4g (wpAny_comprehension_free (use:=some (assign (.Name x px) X.env)) (Q:=λ _ s'=>SP X pins D .next s') rfl hs a2 S.kind S.loc
  (qhs (RR:=λ acc C=>compPost (model X.prog X.w) X.A X.xe (some (assign (.Name x px) X.env)) (λ _ s'=>SP X pins D .next s') acc C) hc S hi hg hf he c1 c2 I h ?_)) (λ _ s' hq=>z4e (z4e hq)) λ _ _ e=>e)
 intro Da C m H5 s5 I5 hn Z q;obtain ⟨oC,es,ep,a0,hd,O⟩:=id hn;have a1:=I5.pinned (fp:=[C]) (λ b hb=>by
  have e:b=C:=by simpa using hb
  subst e;exact Z) (λ b hb=>by
  have e:b=C:=by simpa using hb
  subst e;exact ⟨oC,a0,λ v z=>by rw [hd] at z;cases z⟩)
 show wpAny _ X.A (assign (.Name x px) X.env (.ref Da)) _ _ _;refine wpAny_assign_Name (qdi a1 hN a3 (.inl hx) (v:= .ref Da) rfl (λ s6 I6=> ?_) (.inr hx));have pC:=I6.pin (C,oC) (z0w _ (z0w _ (q5k (by simp) a0)));refine ⟨m,⟨oC,es,ep,pC.1,hd,O⟩,λ h' sb=> ?_⟩;exact ⟨_,H5,I6.unpinned.turned (t':=s6.toks) (λ b o hb e=>(sb.2 b hb).trans e) Z.1 Z.2.1 Z.2.2.2.1 Z.2.2.2.2.1 Z.2.2.2.2.2,q⟩
end
theorem q1x {J:It} {g:TG} {tf:TT} {te:TE} {D:Addr} {QE:Hp ->Prop} {σ:St} {H:Hp} (n:Nat) (Pv:Nat ->St ->Hp ->Prop) (h0:Pv 0 σ H) (Z:∀ i σ H,i < n ->Pv i σ H ->J.go i H) (a0:∀ σ H,Pv n σ H ->J.stop n H/\QE H)
  (hs:∀ i σ H,i < n ->Pv i σ H ->∀ x H',J.yld i H x H' ->g x σ H' λ σ2 H2=>tf σ2 H2 λ b H3=>if b=true then te σ2 H3 λ v H4=>∃ xs,H4 D=some (.lst xs)/\xs.length < sizeLine/\Pv (i+1) σ2 (upd H4 D (.lst (xs++ [v]))) else Pv (i+1) σ2 H3):
  ∃ W:Nat ->Nat ->St ->Hp ->Prop,(∃ m,W 0 m σ H)/\qvq J g tf te D QE W:=by
 refine ⟨λ i m σ H=>m=n - i/\i<=n/\Pv i σ H,⟨n,by simp,z4b _,h0⟩,?_⟩;rintro i m σ H ⟨rfl,hi,p⟩;by_cases O:i < n
 ·exact .inr ⟨Z i σ H O p,Pv (i+1),λ σ' H' p'=>⟨n - (i+1),by omega,zf,O,p'⟩,hs i σ H O p⟩
 ·have e:i=n:=by omega
  subst e;exact .inl (a0 σ H p)
theorem qz4 {J:It} {g:TG} {tb:TS} {D:Ends} {σ:St} {H:Hp} (n:Nat) (Pv:Nat ->St ->Hp ->Prop) (h0:Pv 0 σ H) (Z:∀ i σ H,i < n ->Pv i σ H ->J.go i H) (a0:∀ σ H,Pv n σ H ->J.stop n H/\D.nx σ H)
  (hs:∀ i σ H,i < n ->Pv i σ H ->∀ x H',J.yld i H x H' ->g x σ H' λ σ2 H2=>tb {D with nx:=Pv (i+1),ct:=Pv (i+1),bk:=D.nx} σ2 H2):
  ∃ W:Nat ->Nat ->St ->Hp ->Prop,(∃ m,W 0 m σ H)/\∀ i m σ H,W i m σ H ->
   (J.stop i H/\D.nx σ H)\/ (J.go i H/\∃ N:St ->Hp ->Prop,(∀ σ' H',N σ' H' ->∃ m',m' < m/\W (i+1) m' σ' H')/\∀ x H',J.yld i H x H' ->g x σ H' λ σ2 H2=>tb {D with nx:=N,ct:=N,bk:=D.nx} σ2 H2):=by
 refine ⟨λ i m σ H=>m=n - i/\i<=n/\Pv i σ H,⟨n,by simp,z4b _,h0⟩,?_⟩;rintro i m σ H ⟨rfl,hi,p⟩;by_cases O:i < n
 ·exact .inr ⟨Z i σ H O p,Pv (i+1),λ σ' H' p'=>⟨n - (i+1),by omega,zf,O,p'⟩,hs i σ H O p⟩
 ·have e:i=n:=by omega
  subst e;exact .inl (a0 σ H p)
def Its (z:Str):It:=⟨λ i _=>i < z.cps.size,λ i H x H'=>H'=H/\∃ c,z.cps[i]? =some c/\x= .str ⟨#[c]⟩,λ i _=>i=z.cps.size⟩
theorem qz5 {M:Model} {A:Around} {E:Value ->Shared ->Prop} {s:Shared} {tg:Expr} {it:Addr} {x:Str} {t:Tok} {Q:Unit ->Shared ->Prop} (hQ:Q () s):wpAny M A (letOwnedTupleGo tg (.ref it) (.str x t)) Q E s:=by
 unfold letOwnedTupleGo;cases tg <;> exact z4e hQ
theorem qtm {P:Program} {w:World} {K:PySem.W.Frag} {tg:Expr} (it:Addr) (z:Str) (t:Tok) (ty:String) (J:ty="str_ascii_iterator"\/ ty="str_iterator"):
  Turn P w K tg (Its z) [it] it (λ i h=>h.IsStrIter it ty z t i) where
 mem:=by simp
 obj:=λ i h st b D=>by
  have e:b=it:=by simpa using D
  subst e;obtain ⟨o,e,c,d⟩:=st;exact ⟨o,e,λ v z=>by rw [d] at z;cases z⟩
 keep:=λ i h h' st k=>let ⟨o,ho,r⟩:=st;⟨o,k it (by simp) o ho,r⟩
 item:=by
  intro X hP hw hK O i pins s σ H E I hf st hg;subst hP hw hK;obtain ⟨Z,f1,f2,f3,f4,f5⟩:=hf it (by simp);have W:Walks X.prog X.w X.A it [it] [it] z.cps.size (SignAt z) (λ i h=>h.IsStrIter it ty z t i):=by
   rcases J with rfl | rfl
   ·exact Walks.strAscii (I.ok.hd O) it z t
   ·exact Walks.strWide (I.ok.hd O) it z t
  refine W.item i s _ _ hg st λ v h' tk hv a0 kk=> ?_;obtain ⟨c,u,hx,rfl⟩:=hv;have I1:Inv X pins σ H {s with heap:=h',toks:=tk}:=I.turned (λ b o D e=>kk b o (by simpa using D) e) Z f1 f3 f4 f5;exact ⟨_,zf,qz5 ⟨.str ⟨#[c]⟩,H,I1,⟨u,zf⟩,⟨zf,c,hx,zf⟩,a0,λ b D=>(hf b D).1⟩⟩
 done:=by
  intro X hP hw hK O i pins s σ H E I hf st hg;subst hP hw hK;obtain ⟨Z,f1,f2,f3,f4,f5⟩:=hf it (by simp);have W:Walks X.prog X.w X.A it [it] [it] z.cps.size (SignAt z) (λ i h=>h.IsStrIter it ty z t i):=by
   rcases J with rfl | rfl
   ·exact Walks.strAscii (I.ok.hd O) it z t
   ·exact Walks.strWide (I.ok.hd O) it z t
  have e:i=z.cps.size:=hg;subst e;exact W.done s _ _ st λ h' tk kk=>⟨zf,I.turned (λ b o D e=>kk b o (by simpa using D) e) Z f1 f3 f4 f5⟩
 self:=λ _ _ _ _ _ st h=>by
  rcases J with rfl | rfl
  ·exact wpAny_pyIter_striter_ascii st h
  ·exact wpAny_pyIter_striter_wide st h
section
variable {X:Cx} {tg:Expr}
def iStr (tl:TE):TI:=λ σ H R=>tl σ H λ x H1=>∃ z,x= .str z/\R (Its z) H1
theorem qz6 {l:Expr} {tl:TE} (hl:PE X l tl):PI X tg l (iStr tl):=by
 intro pins s σ H R I h;refine thn (hl pins s σ H _ I h) λ v D O=> ?_;obtain ⟨x,H1,I1,r1,q1⟩:=O;obtain ⟨z,e,q⟩:=q1;subst e;obtain ⟨t,rfl⟩:=r1;have fin:∀ ty,(ty="str_ascii_iterator"\/ ty="str_iterator") ->PIE X pins σ tg R (.ref D.heap.objs.size) {D with heap:=D.heap.push {cls:= .type ty,data:= .fields #[.str z t,.int 0 0]}}:=λ ty J=>by
  refine ⟨D.heap.objs.size,[D.heap.objs.size],_,_,H1,zf,I1.kept (t':=D.toks) λ b o e=>z0o _ e,qtm _ z t ty J,⟨_,z1c _ rfl,zf,zf⟩,λ b hb=> ?_,q⟩;have e:b=D.heap.objs.size:=by simpa using hb
  subst e;exact I1.fpOk (z48 _) (I1.hok.fresh (z48 _))
 cases ha:z.cps.all (· < 128)
 ·exact wpAny_pyIter_wide ha (fin _ (.inr rfl))
 ·exact wpAny_pyIter_ascii ha (fin _ (.inl rfl))
end
def cutS (z:Str) (lo hi:Option Int):Str:=⟨((z.cps.toList.drop (HT.sIx z.length 0 lo)).take (HT.sIx z.length z.length hi - HT.sIx z.length 0 lo)).toArray⟩
theorem qij (lo hi:Option Int) (n:Nat):Builtin.Str.strSliceIndices lo hi 1 n=(List.range (HT.sIx n n hi - HT.sIx n 0 lo)).map (HT.sIx n 0 lo+ ·):=by
 have h:Builtin.Str.strSliceIndices lo hi 1 n=sliceRange ((HT.sIx n 0 lo:Nat):Int) ((HT.sIx n n hi:Nat):Int) 1:=by
  unfold Builtin.Str.strSliceIndices;simp only [show (1:Int) > 0 by decide,if_true]
  congr 1
  ·cases lo with
   | none=>rfl
   | some i=>
    rw [<- HT.clip_eq i n 0];show max 0 (min (if i < 0 then i+(n:Int) else i) (n:Int))=_;split <;> omega
  ·cases hi with
   | none=>rfl
   | some i=>
    rw [<- HT.clip_eq i n n];show max 0 (min (if i < 0 then i+(n:Int) else i) (n:Int))=_;split <;> omega
 rw [h];unfold sliceRange;simp only [show (1:Int) > 0 by decide,if_true];have e2:(if ((HT.sIx n 0 lo:Nat):Int) < ((HT.sIx n n hi:Nat):Int) then (((HT.sIx n n hi:Nat):Int) - ((HT.sIx n 0 lo:Nat):Int)+1 - 1) / 1 else 0).toNat=HT.sIx n n hi - HT.sIx n 0 lo:=by
  split
  ·rw [Int.ediv_one];omega
  ·omega
 rw [e2]
 apply z1f
 intro k _;omega
theorem qp2 (xs:Array Nat) (i k:Nat):(((List.range k).map (i+ ·)).filterMap (xs[·]?))=(xs.toList.drop i).take k:=by
 induction k with
 | zero=>simp
 | succ k ih=>
  rw [z35,z36,List.filterMap_append,ih,z3h]
  congr 1
  simp only [z3l,z44,List.getElem?_drop,z0x];cases h:xs[i+k]? <;> simp [h]
theorem qmt (z:Str) (lo hi:Option Int):(cutS z lo hi).length<=z.length:=by
 show ((z.cps.toList.drop _).take _).toArray.size<=z.length;rw [z23,z2g,z2h];have:z.cps.toList.length=z.length:=by simp [Str.length]
 omega
section
variable {X:Cx}
def rSlS:V ->Option Int ->Option Int ->Hp ->VK ->Prop:=λ x lo hi H Q=>∃ z,x= .str z/\z.length<=sizeLine/\Q (.str (cutS z lo hi)) H
theorem qz7:SlR X rSlS:=by
  intro pins s σ H x v vl vu lo hi sl Q I rx hs pl pu h;obtain ⟨z,rfl,O,q⟩:=h;obtain ⟨t,rfl⟩:=rx;refine ⟨"str",_,F.slot_str_getitem.lookup,typeIs_str s z t,?_⟩;obtain ⟨l,rfl,el⟩:∃ l:Option (Int×Tok),vl=partValue l/\l.map (·.1)=lo:=by
    cases pl with
    | none=>exact ⟨none,rfl,rfl⟩
    | int i t=>exact ⟨some (i,t),rfl,rfl⟩
  obtain ⟨u,rfl,eu⟩:∃ u:Option (Int×Tok),vu=partValue u/\u.map (·.1)=hi:=by
    cases pu with
    | none=>exact ⟨none,rfl,rfl⟩
    | int i t=>exact ⟨some (i,t),rfl,rfl⟩
  refine wpAny_getItem_str_slice (l:=l) (u:=u) (st:=none) hs rfl ?_;have ep:slicePicked z l u none=(List.range (HT.sIx z.length z.length hi - HT.sIx z.length 0 lo)).map (HT.sIx z.length 0 lo+ ·):=by
    unfold slicePicked;rw [el,eu];exact qij lo hi z.length
  have ec:(slicePicked z l u none).filterMap (z.cps[·]?)=(z.cps.toList.drop (HT.sIx z.length 0 lo)).take (HT.sIx z.length z.length hi - HT.sIx z.length 0 lo):=by
    rw [ep,qp2]
  unfold sliceMade;split
  · rename_i hw
    have D:(slicePicked z l u none).length=z.length:=by simpa using hw
    have e:cutS z lo hi=z:=by
      have hl:z.cps.toList.length=z.length:=by simp [Str.length]
      rw [ep,z30,z29] at D;have h1:=HT.sIx_le z.length z.length (z48 _) hi;have J:HT.sIx z.length 0 lo=0\/ z.length=0:=by omega
      unfold cutS;rcases J with J | J
      · rw [D,J,List.drop_zero,z0n (by omega)]
      · have Z:z.cps.toList=[]:=List.eq_nil_of_length_eq_zero (by omega)
        rw [Z,List.drop_nil,List.take_nil];cases z with
        | mk cps=>
          congr 1
          exact (Array.toList_inj.mp Z).symm
    rw [e] at q;exact ⟨.str z,H,I,⟨t,zf⟩,q⟩
  · have e:(⟨((slicePicked z l u none).filterMap (z.cps[·]?)).toArray⟩:Str)=cutS z lo hi:=by
      unfold cutS;rw [ec]
    rw [e];exact ⟨z41 (qmt z lo hi) O,.str (cutS z lo hi),H,I.tok _,⟨_,zf⟩,q⟩
end
theorem qr3 (bs:List Bool):(List.range bs.length).all (λ i=>(bs[i]?).getD true)=bs.all id:=by
 rw [z2z,z2n,z2n]
 constructor
 ·intro h b hb;obtain ⟨i,hi,e⟩:=z12.mp hb;have:=h i (z3d.mpr hi);rw [z0d hi,e] at this;exact this
 ·intro h i hi;have D:=z3d.mp hi;rw [z0d D];exact h _ (z2k D)
theorem qnq {bs:List Bool} {us:List Value} (r:Vals (bs.map V.bl) us) {i:Nat} {v:Value} (h:us[i]? =some v):∃ b,bs[i]? =some b/\v= .bool b:=by
 have hl:=r.length;obtain ⟨hi,_⟩:=z07.mp h;rw [<- hl,z30] at hi;have e:(bs.map V.bl)[i]? =some (V.bl bs[i]):=by rw [z22,z0d hi];rfl
 obtain ⟨u,D,ru⟩:=r.get e;rw [h] at D;cases D
 exact ⟨bs[i],z0d hi,ru⟩
section
variable {X:Cx}
theorem q8r (hc:X.calm=true) (K:PySem.W.Frag) (hK:X.K=K:=by rfl):q24 X (.builtin "all") (λ xs H Q=>∃ (p:Addr) (bs:List Bool),xs=[.ref p]/\SqL K H p (bs.map V.bl)/\Q (.bl (bs.all id)) H):=by
 subst hK;intro pins s σ H xs us Q I r h;obtain ⟨p,bs,rfl,hp,q⟩:=h;obtain ⟨u,rfl,ru⟩:=q3b r;cases ru
 obtain ⟨its,rv,pl,hz⟩:=I.list hp;have hl:its.toArray.size=bs.length:=by
  have:=rv.length;rw [z30] at this;rw [z23];exact this.symm
 have hh:X.A.in1.handled=none:=I.ok.hd hc;have J:p≠s.heap.objs.size:=λ e=>by
  obtain ⟨o,n,e1,_⟩:=pl;exact absurd (z3z e1) (by rw [e];exact z3p _)
 refine call_all_walk (z25 pl.isList ?_);refine ⟨s.heap.objs.size,_,_,_,_,_,λ i=>(bs[i]?).getD true,zf,Walks.list hh _ p J its.toArray,⟨⟨_,z1c _ rfl,zf,zf⟩,pl.isList.at λ o e=>z0o _ e⟩,?_,λ h' tk kk=> ?_⟩
 ·intro i v s' Q' E' hv hq;have O:its[i]? =some v:=by simpa using hv
  obtain ⟨b,e,rfl⟩:=qnq rv O;have D:Q' ((bs[i]?).getD true) s':=hq;rw [e] at D;exact z24 D
 ·rw [hl,qr3];exact ⟨.bl _,H,I.kept λ b o e=>kk b o (by simp;exact z40 (z3z e)) (z0o _ e),rfl,q⟩
def tyTs:List String:=["NoneType","bool","int","str","list","tuple","dict"]
def tyNs:List String:=["bool","int","str","list","tuple","dict"]
def tyIs (T n:String):Bool:=T==n || (T=="bool"&&n=="int")
theorem qwz:∀ T∈tyTs,∀ n∈tyNs,PySem.W.kitMeta n=true/\(PySem.fastBuiltinMro T).map (·.contains (Value.type n))=some (tyIs T n):=by decide+kernel
theorem qx0 {K:PySem.W.Frag} {T n:String} (hT:T∈tyTs) (hn:n∈tyNs):PySem.W.kitOne K (.type T) (.type n)=some (tyIs T n):=by
 obtain ⟨h1,h2⟩:=qwz T hT n hn;unfold PySem.W.kitOne;split
 ·rename_i e;have e':=eq_of_beq e;injection e' with D;subst D;simp [tyIs]
 ·unfold PySem.W.kitCls;show (if PySem.W.kitMeta n=true then PySem.W.subIn K (.type T) (.type n) else none)=_;rw [if_pos h1];exact h2
theorem q117 {x:Str} {i:Int} {pos:Pos} (hg:Gl X x) (hm:∃ t,X.mg x=some (.int i t)) (hd:(x==("__debug__":Str))=false:=by decide):PE X (.Name x pos) (tC (.int i)):=by
 obtain ⟨t,e⟩:=hm;exact qnj hg e ⟨t,zf⟩ hd
theorem qju {x z:Str} {pos:Pos} (hg:Gl X x) (hm:∃ t,X.mg x=some (.str z t)) (hd:(x==("__debug__":Str))=false:=by decide):PE X (.Name x pos) (tC (.str z)):=by
 obtain ⟨t,e⟩:=hm;exact qnj hg e ⟨t,zf⟩ hd
theorem q5l {x:Str} {n:String} {pos:Pos} (hg:Gl X x) (hm:X.mg x=none) (hv:bootBuiltins x=some (.type n)) (hn:x≠"__name__":=by decide) (hd:(x==("__debug__":Str))=false:=by decide):PE X (.Name x pos) (tC (.ty n)):=
 qwc hg hm hv rfl hn hd
end
structure Top (K:PySem.W.Frag) (mg:Str ->Option Value) (x:Str) (st:Stmt) (ps:List Str):Prop where
 ex:∃ f fd,Fun K x x st f fd/\mg x=some (.ref f)/\∀ us:List Value,us.length=ps.length ->bindArgs fd ⟨us,[]⟩=pure (ps.zip us)
theorem qz8 {K:PySem.W.Frag} {h:Heap} {mg:Str ->Option Value} {x:Str} {st:Stmt} {ps:List Str} {f:Addr} {oc:Value} {od O:Option Addr} {a0:Array (Option Value)} {kV J Z D ct:Value} (X:K.In h) (G:h.Ns mainGlobals mg)
  (b:∀ (kV J Z:Value) (O:Option Addr) (D ct:Value) (us:List Value),us.length=ps.length ->bindArgs (PySem.W.fnOf x x (q1l st) (q1d st) (qc st) .none kV J Z O D ct) ⟨us,[]⟩=pure (ps.zip us))
  (a:PySem.W.nsIn K mainGlobals x=some (some (.ref f)))
  (l:K.lookup f=some ⟨oc,od,.func (PySem.W.fnOf x x (q1l st) (q1d st) (qc st) .none kV J Z O D ct),a0⟩) (c:PySem.W.codeIn K D x=true) (k:PySem.W.keepIn K (.ref f)=true):Top K mg x st ps:=by
 have F:=qr1 (st:=st) l c k;exact ⟨f,_,F,z3r X G a,b kV J Z O D ct⟩
structure Def (P:Program) (w:World) (K:PySem.W.Frag) (mg:Str ->Option Value) (base:Heap) (k:Nat) (x:Str) (ps:List Str) (sp:Sp):Prop where
 ex:∃ f fd,FnOk P w K mg base CX0 k f fd ps sp/\mg x=some (.ref f)/\PySem.W.keepIn K (.ref f)=true/\Binds K fd ps []
theorem Top.ok {P:Program} {w:World} {K:PySem.W.Frag} {mg:Str ->Option Value} {base:Heap} {x:Str} {st:Stmt} {N ps:List Str} {k:Nat} {sp:Sp} (T:Top K mg x st ps) (S:FnScope N ps (qc st)) (len:∀ vs H Q E,sp vs H Q E ->vs.length=ps.length)
  (D:∀ (f:Addr) (J:Value) (A:Around) (outer:List Env) (s:Shared) (H:Hp) (vs:List V) (Q:VK) (E:XK),Room k (A.deeper (envOfC x (qc st) s.heap.objs.size f J)) ->sp vs H Q E ->
   ∃ t,PSs (cxOf CX0 P w K mg base N x (qc st) f J A outer s H E).nox (q1d st) t/\t {nx:=λ _ H'=>Q .non H',rt:=Q} (start N vs) H):Def P w K mg base (k+1) x ps sp:=by
 obtain ⟨f,fd,F,hm,hb⟩:=T.ex;exact ⟨f,fd,F.ok S len (D f),hm,F.kp,Binds.all hb⟩
theorem Top.fin {l:PySem.W.OpenLaw} {w:World} {K:PySem.W.Frag} {mg:Str ->Option Value} {O:Addr} {x:Str} {st:Stmt} {N:List Str} {k:Nat} {sp:Sp} (T:Top K mg "law" st [x]) (Z:mg "law"=some (.ref O)) (S:FnScope N [x] (qc st))
  (len:∀ vs H Q E,sp vs H Q E ->vs.length=[x].length)
  (D:∀ (base:Heap) (f:Addr) (J:Value) (A:Around) (outer:List Env) (s:Shared) (H:Hp) (vs:List V) (Q:VK) (E:XK),Room k (A.deeper (envOfC "law" (qc st) s.heap.objs.size f J)) ->sp vs H Q E ->
   ∃ t,PSs (cxOf CX0 l.prog w K mg base N "law" (qc st) f J A outer s H E).nox (q1d st) t/\t {nx:=λ _ H'=>Q .non H',rt:=Q} (start N vs) H):
  ∃ fd:FuncData,(∀ (s:Shared) (v:Value),BindsTo s fd ⟨[v],[]⟩ [(x,v)])/\∀ base:Heap,K.In base ->base.Ns mainGlobals mg ->FnOk l.prog w K mg base CX0 (k+1) O fd [x] sp:=by
 obtain ⟨f,fd,F,hm,hb⟩:=T.ex;have e:=Z.symm.trans hm;injection e with e;injection e with e;subst e;exact ⟨fd,λ s v=> .of_eq (hb [v] rfl),λ base _ _=>F.ok S len (D base O)⟩
section
variable {X:Cx} {k k':Nat} {x:Str} {ps:List Str} {sp:Sp} {p pos:Pos} {e:Expr} {es:List Expr} {t:TA}
theorem qp (D:Def X.prog X.w X.K X.mg X.base k x ps sp) (hr:Room k' X.A) (hg:Gl X x) (ha:PA X (e::es) t) (O:k<=k':=by decide)
  (J:(x==("__debug__":Str))=false:=by decide) (he:starEach (e::es) X.env=(false,eval e X.env)::starEach es X.env:=by rfl) (Z:(backTo pos (starEach es X.env)).any (·.1)=false:=by rfl):
  PE X (.Call (.Name x p) (e::es) [] pos) (qvl sp [] E0 t):=by
 obtain ⟨f,fd,F,hm,hk,hb⟩:=D.ex;exact qwj F (hr.mono O) hg hm hk hb .nil qcc ha J he Z
end
section
variable {X:Cx} {tg:Expr}
theorem q2y (K:PySem.W.Frag) (hK:X.K=K:=by rfl):q24 X (.builtin "len") (λ xs H Q=>∃ x n,xs=[x]/\LenV K x H n/\Q (.int n) H):=by subst hK;exact qtb
theorem q17 (K:PySem.W.Frag) (hK:X.K=K:=by rfl):IxR X (rIxL K):=by subst hK;exact qwq
theorem q55 (K:PySem.W.Frag) (hK:X.K=K:=by rfl):SlR X (rSlL K):=by subst hK;exact qwr
theorem q19 (K:PySem.W.Frag) {l:Expr} {tl:TE} (hl:PE X l tl) (hK:X.K=K:=by rfl):PI X tg l (qvh K tl):=by subst hK;exact qwd hl
theorem q7m (K:PySem.W.Frag) {l:Expr} {tl:TE} (hl:PE X l tl) (hK:X.K=K:=by rfl):PI X tg l (iTup K tl):=by subst hK;exact qyv hl
theorem qz9 (K:PySem.W.Frag) (hK:X.K=K:=by rfl):OpR X (compareOp .In) (rIn K false):=by subst hK;exact qqs
theorem qr4 (K:PySem.W.Frag) (hK:X.K=K:=by rfl):OpR X (compareOp .NotIn) (rIn K true):=by subst hK;exact qkn
theorem q4m (K:PySem.W.Frag) (hK:X.K=K:=by rfl):q24 X (.type "list") (λ xs H Q=>∃ p ys,xs=[.ref p]/\(SqL K H p ys\/ SqT K H p ys)/\∀ l,H l=none ->Q (.ref l) (upd H l (.lst ys))):=by subst hK;exact qko
theorem q6l (K:PySem.W.Frag) (hK:X.K=K:=by rfl):q24 X (.type "tuple") (λ xs H Q=>∃ p ys,xs=[.ref p]/\((SqL K H p ys/\∀ l,H l=none ->Q (.ref l) (upd H l (.tup ys)))\/ (SqT K H p ys/\Q (.ref p) H))):=by subst hK;exact qii
end
theorem qr5 {α:Type} {xs:List α} {i:Int} (h0:0<=i) (h1:i < xs.length):∃ v,atI xs i=some v/\v∈xs:=by
 have D:i.toNat < xs.length:=by omega
 refine ⟨xs[i.toNat],?_,z2k D⟩;unfold atI ixN;rw [if_pos h0,if_pos h1];show xs[i.toNat]? =_;exact z0d D
theorem qza {α:Type} {xs:List α} {i:Int} (h0:0<=i) (h1:i < xs.length):atI xs i=xs[i.toNat]? :=by
 unfold atI ixN;rw [if_pos h0,if_pos h1];rfl
theorem qd {H:Hp} {a:Addr} {o:HO} (h:H a=none):Same H (upd H a o):=λ b u e=>by
 rw [qh (qr e h)];exact e
theorem Same.set {H H':Hp} {a:Addr} {o:HO} (h:Same H H') (n:H a=none):Same H (upd H' a o):=λ b u e=>by
 rw [qh (qr e n)];exact h b u e
theorem Same.seqT {K:PySem.W.Frag} {H H':Hp} {a:Addr} {xs:List V} (e:Same H H') (h:SqT K H a xs):SqT K H' a xs:=by
 rcases h with (h | ⟨o,h⟩) | h
 ·exact .inl (.inl (e _ _ h))
 ·exact .inl (.inr ⟨o,e _ _ h⟩)
 ·exact .inr h
def q21:Expr ->Bool
 | .Starred _ _=>false
 | _=>true
theorem qik {e:Expr} {es:List Expr} {env:Env} (h:q21 e=true):starEach (e::es) env=(false,eval e env)::starEach es env:=by
 cases e <;> first
  | rfl
  | cases h
theorem q2p {X:Cx} {e:Expr} {es:List Expr} {te:TE} {t:TA} (ha:PE X e te) (hr:PA X es t) (hs:q21 e=true:=by rfl):PA X (e::es) (q2x te t):=qwi ha hr (qik hs)
theorem q46:bootBuiltins "len"=some (.builtin "len"):=by decide+kernel
theorem q1i:bootBuiltins "isinstance"=some (.builtin "isinstance"):=by decide+kernel
theorem qeq:bootBuiltins "all"=some (.builtin "all"):=by decide+kernel
theorem qzb:bootBuiltins "any"=some (.builtin "any"):=by decide+kernel
theorem q22:bootBuiltins "sorted"=some (.builtin "sorted"):=by decide+kernel
theorem qkt:bootBuiltins "min"=some (.builtin "min"):=by decide+kernel
theorem qzc:bootBuiltins "max"=some (.builtin "max"):=by decide+kernel
theorem qzd:bootBuiltins "str"=some (.type "str"):=by decide+kernel
theorem qze:bootBuiltins "int"=some (.type "int"):=by decide+kernel
theorem qcd:bootBuiltins "bool"=some (.type "bool"):=by decide+kernel
theorem q40:bootBuiltins "list"=some (.type "list"):=by decide+kernel
theorem q7x:bootBuiltins "tuple"=some (.type "tuple"):=by decide+kernel
theorem qx1:bootBuiltins "dict"=some (.type "dict"):=by decide+kernel
theorem qnr {α:Type} {l:List α} {i:Nat} {d:α} (h:i < l.length):l.getD i d=l[i]:=by
 rw [z06,z0d h];rfl
theorem qx2 {α:Type} {l:List α} {i:Nat} {d:α} (h:l.length<=i):l.getD i d=d:=by
 rw [z06,List.getElem?_eq_none_iff.mpr h];rfl
theorem pa_1 {X:Cx} {D:Expr} {O:TE} (h0:PE X D O) (J:q21 D=true:=by rfl):PA X [D] (q2x O tNil):=(q2p h0 q2d J)
theorem pa_2 {X:Cx} {D e1:Expr} {Z t1:TE} (h0:PE X D Z) (h1:PE X e1 t1) (J:q21 D=true:=by rfl) (O:q21 e1=true:=by rfl):PA X [D,e1] (q2x Z (q2x t1 tNil)):=(q2p h0 (q2p h1 q2d O) J)
theorem pa_3 {X:Cx} {D e1 e2:Expr} {t0 t1 t2:TE} (h0:PE X D t0) (h1:PE X e1 t1) (h2:PE X e2 t2) (J:q21 D=true:=by rfl) (O:q21 e1=true:=by rfl) (Z:q21 e2=true:=by rfl):PA X [D,e1,e2] (q2x t0 (q2x t1 (q2x t2 tNil))):=(q2p h0 (q2p h1 (q2p h2 q2d Z) O) J)
theorem pa_4 {X:Cx} {D e1 e2 e3:Expr} {t0 t1 t2 t3:TE} (h0:PE X D t0) (h1:PE X e1 t1) (h2:PE X e2 t2) (h3:PE X e3 t3) (J:q21 D=true:=by rfl) (O:q21 e1=true:=by rfl) (Z:q21 e2=true:=by rfl) (a0:q21 e3=true:=by rfl):PA X [D,e1,e2,e3] (q2x t0 (q2x t1 (q2x t2 (q2x t3 tNil)))):=(q2p h0 (q2p h1 (q2p h2 (q2p h3 q2d a0) Z) O) J)
theorem pa_5 {X:Cx} {D e1 e2 e3 J:Expr} {t0 t1 t2 t3 t4:TE} (h0:PE X D t0) (h1:PE X e1 t1) (h2:PE X e2 t2) (h3:PE X e3 t3) (h4:PE X J t4) (O:q21 D=true:=by rfl) (Z:q21 e1=true:=by rfl) (a0:q21 e2=true:=by rfl) (a1:q21 e3=true:=by rfl) (a2:q21 J=true:=by rfl):PA X [D,e1,e2,e3,J] (q2x t0 (q2x t1 (q2x t2 (q2x t3 (q2x t4 tNil))))):=(q2p h0 (q2p h1 (q2p h2 (q2p h3 (q2p h4 q2d a2) a1) a0) Z) O)
theorem q2z {X:Cx} {D J:Stmt} {O t1:TS} (h0:PS X D O) (h1:PS X J t1):PSs X [D,J] (tSeq O t1):=(qt h0 (qg h1))
theorem q3c {X:Cx} {D J O:Stmt} {Z t1 t2:TS} (h0:PS X D Z) (h1:PS X J t1) (h2:PS X O t2):PSs X [D,J,O] (tSeq Z (tSeq t1 t2)):=(qt h0 (qt h1 (qg h2)))
theorem qp3 {X:Cx} {D J O s3:Stmt} {Z t1 t2 t3:TS} (h0:PS X D Z) (h1:PS X J t1) (h2:PS X O t2) (h3:PS X s3 t3):PSs X [D,J,O,s3] (tSeq Z (tSeq t1 (tSeq t2 t3))):=(qt h0 (qt h1 (qt h2 (qg h3))))
theorem qvr {X:Cx} {D J O s3 Z:Stmt} {t0 t1 t2 t3 t4:TS} (h0:PS X D t0) (h1:PS X J t1) (h2:PS X O t2) (h3:PS X s3 t3) (h4:PS X Z t4):PSs X [D,J,O,s3,Z] (tSeq t0 (tSeq t1 (tSeq t2 (tSeq t3 t4)))):=(qt h0 (qt h1 (qt h2 (qt h3 (qg h4)))))
theorem q118 {X:Cx} {D J O s3 Z s5:Stmt} {t0 t1 t2 t3 t4 t5:TS} (h0:PS X D t0) (h1:PS X J t1) (h2:PS X O t2) (h3:PS X s3 t3) (h4:PS X Z t4) (h5:PS X s5 t5):PSs X [D,J,O,s3,Z,s5] (tSeq t0 (tSeq t1 (tSeq t2 (tSeq t3 (tSeq t4 t5))))):=(qt h0 (qt h1 (qt h2 (qt h3 (qt h4 (qg h5))))))
theorem qvs {X:Cx} {D J O s3 Z s5 s6:Stmt} {t0 t1 t2 t3 t4 t5 t6:TS} (h0:PS X D t0) (h1:PS X J t1) (h2:PS X O t2) (h3:PS X s3 t3) (h4:PS X Z t4) (h5:PS X s5 t5) (h6:PS X s6 t6):PSs X [D,J,O,s3,Z,s5,s6] (tSeq t0 (tSeq t1 (tSeq t2 (tSeq t3 (tSeq t4 (tSeq t5 t6)))))):=(qt h0 (qt h1 (qt h2 (qt h3 (qt h4 (qt h5 (qg h6)))))))
theorem q119 {X:Cx} {D J O s3 Z s5 s6 s7:Stmt} {t0 t1 t2 t3 t4 t5 t6 t7:TS} (h0:PS X D t0) (h1:PS X J t1) (h2:PS X O t2) (h3:PS X s3 t3) (h4:PS X Z t4) (h5:PS X s5 t5) (h6:PS X s6 t6) (h7:PS X s7 t7):PSs X [D,J,O,s3,Z,s5,s6,s7] (tSeq t0 (tSeq t1 (tSeq t2 (tSeq t3 (tSeq t4 (tSeq t5 (tSeq t6 t7))))))):=(qt h0 (qt h1 (qt h2 (qt h3 (qt h4 (qt h5 (qt h6 (qg h7))))))))
theorem q11a {X:Cx} {D J O:Stmt} {Z:List Stmt} {t0 t1 t2 u:TS} (h0:PS X D t0) (h1:PS X J t1) (h2:PS X O t2) (hu:PSs X Z u):PSs X (D::J::O::Z) (tSeq t0 (tSeq t1 (tSeq t2 u))):=(qt h0 (qt h1 (qt h2 hu)))
theorem qzf {X:Cx} {D J O s3 Z s5 s6 s7 s8 s9:Stmt} {ss:List Stmt} {t0 t1 t2 t3 t4 t5 t6 t7 t8 t9 u:TS} (h0:PS X D t0) (h1:PS X J t1) (h2:PS X O t2) (h3:PS X s3 t3) (h4:PS X Z t4) (h5:PS X s5 t5) (h6:PS X s6 t6) (h7:PS X s7 t7) (h8:PS X s8 t8) (h9:PS X s9 t9) (hu:PSs X ss u):PSs X (D::J::O::s3::Z::s5::s6::s7::s8::s9::ss) (tSeq t0 (tSeq t1 (tSeq t2 (tSeq t3 (tSeq t4 (tSeq t5 (tSeq t6 (tSeq t7 (tSeq t8 (tSeq t9 u)))))))))):=(qt h0 (qt h1 (qt h2 (qt h3 (qt h4 (qt h5 (qt h6 (qt h7 (qt h8 (qt h9 hu))))))))))
theorem qns {X:Cx} {body:List Stmt} {D:Ends} {σ:St} {H:Hp} (n:Nat) (C:St ->Hp ->Prop) (rest:∃ u,PSs X (body.drop n) u/\∀ σ H,C σ H ->u D σ H)
  (first:∀ u,PSs X (body.drop n) u ->(∀ σ H,C σ H ->u D σ H) ->∃ t,PSs X body t/\t D σ H):∃ t,PSs X body t/\t D σ H:=
 let ⟨u,h1,h2⟩:=rest
 first u h1 h2
mutual
inductive Dat (K:PySem.W.Frag) (H:Hp):PyData ->V ->Prop
 | non:Dat K H .none .non
 | bl (b:Bool):Dat K H (.bool b) (.bl b)
 | int (i:Int):Dat K H (.int i) (.int i)
 | str (x:Str) (h:PyData.strOk x=true):Dat K H (.str x) (.str x)
 | lst {a:Addr} {xs:List V} {ds:List PyData}:SqL K H a xs ->Dats K H ds xs ->Dat K H (.list ds) (.ref a)
 | tup {a:Addr} {xs:List V} {ds:List PyData}:SqT K H a xs ->Dats K H ds xs ->Dat K H (.tuple ds) (.ref a)
inductive Dats (K:PySem.W.Frag) (H:Hp):List PyData ->List V ->Prop
 | nil:Dats K H [] []
 | cons {d:PyData} {x:V} {ds:List PyData} {xs:List V}:Dat K H d x ->Dats K H ds xs ->Dats K H (d::ds) (x::xs)
end
section
variable {K:PySem.W.Frag} {H H':Hp}
mutual
theorem Dat.same (s:Same H H'):∀ (d:PyData) (x:V),Dat K H d x ->Dat K H' d x
 | _,_,.non=> .non
 | _,_,.bl b=> .bl b
 | _,_,.int i=> .int i
 | _,_,.str x h=> .str x h
 | _,_,.lst h r=> .lst (s.seq h) (Dats.same s _ _ r)
 | _,_,.tup h r=> .tup (s.seqT h) (Dats.same s _ _ r)
theorem Dats.same (s:Same H H'):∀ (ds:List PyData) (xs:List V),Dats K H ds xs ->Dats K H' ds xs
 | _,_,.nil=> .nil
 | _,_,.cons a b=> .cons (Dat.same s _ _ a) (Dats.same s _ _ b)
end
mutual
theorem Dat.lay:∀ (d:PyData) (x:V),Dat K H d x ->d.canLay0=true
 | _,_,.non=>rfl
 | _,_,.bl _=>rfl
 | _,_,.int _=>rfl
 | _,_,.str _ h=>h
 | _,_,.lst _ r=>Dats.lay _ _ r
 | _,_,.tup _ r=>Dats.lay _ _ r
theorem Dats.lay:∀ (ds:List PyData) (xs:List V),Dats K H ds xs ->PyData.canLayAll0 ds=true
 | _,_,.nil=>rfl
 | _,_,.cons a b=>by rw [PyData.canLayAll0,Dat.lay _ _ a,Dats.lay _ _ b];rfl
end
end
section
variable {X:Cx} {pins:List (Addr×Obj)} {σ:St} {H:Hp} {s:Shared}
mutual
theorem Dat.reads (I:Inv X pins σ H s):∀ (d:PyData) (x:V) (u:Value),Dat X.K H d x ->RelV x u ->∃ as,Reads s.heap u d as
 | _,_,_,.non,r=>by cases r;exact ⟨_,.none⟩
 | _,_,_,.bl b,r=>by cases r;exact ⟨_,.bool b⟩
 | _,_,_,.int i,r=>by obtain ⟨t,rfl⟩:=r;exact ⟨_,.int i t⟩
 | _,_,_,.str x _,r=>by obtain ⟨t,rfl⟩:=r;exact ⟨_,.str x t⟩
 | _,_,_,.lst h q,r=>by
  cases r
  obtain ⟨its,rv,⟨o,n,e,c,_,d⟩,_⟩:=I.list h;obtain ⟨as,D⟩:=Dats.reads I _ _ _ q rv;exact ⟨_,.list e c d (by simpa using D)⟩
 | _,_,_,.tup h q,r=>by
  cases r
  obtain ⟨its,rv,⟨o,e,c,n,d⟩,_⟩:=I.tuple h;obtain ⟨as,D⟩:=Dats.reads I _ _ _ q rv;exact ⟨_,.tuple e c d (by simpa using D)⟩
theorem Dats.reads (I:Inv X pins σ H s):∀ (ds:List PyData) (xs:List V) (us:List Value),Dats X.K H ds xs ->Vals xs us ->∃ as,ReadsAll s.heap us ds as
 | _,_,_,.nil,r=>by cases r;exact ⟨_,.nil⟩
 | _,_,_,.cons a b,r=>by
  cases r with
  | cons r1 r2=>
   obtain ⟨as,h1⟩:=Dat.reads I _ _ _ a r1;obtain ⟨bs,h2⟩:=Dats.reads I _ _ _ b r2;exact ⟨_,.cons h1 h2⟩
end
end
section
variable {X:Cx}
theorem qtn {u d e:Nat} (hu:u+64 < cLine) (hd:d<=60):u+min d e < cLine:=by
 have:min d e<=d:=Nat.min_le_left _ _;omega
def rEqD (K:PySem.W.Frag):R2:=λ x y H Q=>∃ d e,Dat K H d x/\Dat K H e y/\d.depth<=60/\Q (.bl (PyData.eqv d e)) H
theorem qku (hu:X.A.units+64 < cLine) (K:PySem.W.Frag) (hK:X.K=K:=by rfl):OpR X (compareOp .Eq) (rEqD K):=by
 subst hK;intro pins s σ H x y v u Q I rx ry h;obtain ⟨d,e,hd,D,hz,q⟩:=h;obtain ⟨as,ra⟩:=Dat.reads I _ _ _ hd rx;obtain ⟨bs,rb⟩:=Dat.reads I _ _ _ D ry;exact SeqAt.rcAt_reads ra rb (Dat.lay _ _ hd) (Dat.lay _ _ D) (qtn hu hz) X.prog X.w X.xe _ (q1a I q rfl)
end
def LtAt (A:Around) (s:Shared) (u v:Value) (r:Bool):Prop:=
 ∀ (prog:Program) (w:World) (E:Value ->Shared ->Prop) (Q:Value ->Shared ->Prop),Q (.bool r) s ->wpAny (model prog w) A (richCompare .Lt u v) Q E s
inductive LexAt (A:Around) (s:Shared):List Value ->List Value ->Bool ->Prop
 | nn:LexAt A s [] [] false
 | nc {v:Value} {vs:List Value}:LexAt A s [] (v::vs) true
 | cn {u:Value} {us:List Value}:LexAt A s (u::us) [] false
 | eq {u v:Value} {us vs:List Value} {r:Bool}:SeqAt.EqAt A s u v true ->LexAt A s us vs r ->LexAt A s (u::us) (v::vs) r
 | lt {u v:Value} {us vs:List Value} {r:Bool}:SeqAt.EqAt A s u v false ->LtAt A s u v r ->LexAt A s (u::us) (v::vs) r
section
open PySem.SeqAt
open PySem.AutoSeq1 (wpAny_loadPart')
open PySem.MeetsSeq PySem.MeetsSeq2 PySem.MeetsSeq3
theorem qb7 (l b:Addr) (J D:Array Value) (n n2:Nat) (dd a3:Option Addr) (sl a5:Array (Option Value)) (r:Bool):
  Meets (Builtin.«tuple.__lt__» ⟨[.ref l,.ref b],[]⟩)
   (λ A R s=>s.heap.get? l=some {cls:= .type "tuple",dict:=dd,data:= .seq J n,slots:=sl}/\s.heap.get? b=some {cls:= .type "tuple",dict:=a3,data:= .seq D n2,slots:=a5}/\
    LexAt A.in1 s J.toList D.toList r/\R (.ok (.ret (.bool r))) s):=
 .of_wp λ prog w A R s h=>by
  obtain ⟨hp,g,d,tk,os⟩:=s;obtain ⟨hl,hb,hx,h⟩:=h;have f2:=AutoSeq1.sub_tuple_tuple
  wp_walk using wpAny_loadPart' hl,wpAny_loadPart' hb,wpAny_forIn_list _ (λ rest b s'=>b.1=none/\s'=⟨hp,g,d,tk,os⟩/\∃ (vs ws:List Value),rest=vs.zip ws/\
   LexAt A.in1 ⟨hp,g,d,tk,os⟩ vs ws r/\vs.length+D.size=ws.length+J.size) _
  case turn=>
   rintro ⟨y,x⟩ rest b s' ⟨a0,rfl,vs,ws,hz,a1,O⟩;cases a1 with
   | nn=>rw [List.zip_nil_left] at hz;cases hz
   | nc=>rw [List.zip_nil_left] at hz;cases hz
   | cn=>rw [List.zip_nil_right] at hz;cases hz
   | eq he hr=>
    rw [z1t] at hz;injection hz with a2 Z;injection a2 with hy hx;subst hy hx;simp only [z2i] at O;refine z4f (he prog w _ _ ?_)
    wp_walk
    exact ⟨zf,zf,_,_,Z,hr,by omega⟩
   | lt he hr=>
    rw [z1t] at hz;injection hz with a2 Z;injection a2 with hy hx;subst hy hx;refine z4f (he prog w _ _ ?_);have a4:=hr prog w
    wp_walk using a4
    exact ⟨_,zf,by simpa using h⟩
  case fin=>
   rintro ⟨b1,b2⟩ s' ⟨a0,rfl,vs,ws,hz,a1,O⟩;simp only at a0;subst a0;have hv:r=decide (J.size < D.size):=by
    cases a1 with
    | nn=>
     simp only [z34] at O;exact (z2w (by omega)).symm
    | nc=>
     simp only [z34,z2i] at O;exact (z3c (by omega)).symm
    | cn=>
     simp only [z34,z2i] at O;exact (z2w (by omega)).symm
    | eq _ _=>rw [z1t] at hz;cases hz
    | lt _ _=>rw [z1t] at hz;cases hz
   rw [hv] at h
   wp_walk
   exact ⟨_,zf,by simpa [Builtin.Tuple.tupleCompareSizes] using h⟩
  case h=>
   exact ⟨rfl,rfl,J.toList,D.toList,rfl,hx,by simp;omega⟩
end
theorem qkv {A:Around} {s:Shared} {l b:Addr} {J D:Array Value} {r:Bool} (hl:IsTup s.heap l J) (hb:IsTup s.heap b D) (hx:LexAt A.in1 s J.toList D.toList r) (hu:A.units < cLine):LtAt A s (.ref l) (.ref b) r:=by
 intro prog w E Q h;obtain ⟨⟨cls,dd,data,sl⟩,ho,hc,n,hd⟩:=id hl;obtain ⟨⟨a4,a2,a1,a3⟩,a0,O,n2,Z⟩:=id hb;simp only at hc hd O Z;subst hc hd O Z;exact richCompare_meets_room (op:= .Lt) ⟨_,ho,zf⟩ ⟨_,a0,zf⟩ PySem.F.slot_tuple_lt PySem.F.entry_tuple_lt (PySem.F.args_tuple_lt_2 _ _) (qb7 l b J D n n2 dd a2 sl a3 r)
  ⟨ho,a0,hx,show Value.bool r≠Value.notImplemented/\Q (.bool r) s from ⟨(λ x=>nomatch x),h⟩⟩ hu
mutual
def ltD? :PyData ->PyData ->Option Bool
 | .int a,.int b=>some (decide (a < b))
 | .str a,.str b=>some (decide (a.cps.toList < b.cps.toList))
 | .tuple as,.tuple bs=>lexD? as bs
 | _,_=>none
def lexD? :List PyData ->List PyData ->Option Bool
 | [],[]=>some false
 | [],_::_=>some true
 | _::_,[]=>some false
 | a::as,b::bs=>if PyData.eqv a b=true then lexD? as bs else ltD? a b
end
mutual
theorem qp4:∀ (Z D:PyData) (A:Around) (s:Shared) (a b:Value) (as bs:List Addr) (r:Bool),Reads s.heap a Z as ->Reads s.heap b D bs ->Z.canLay0=true ->D.canLay0=true ->
    A.units+min Z.depth D.depth < cLine ->ltD? Z D=some r ->LtAt A s a b r
  | .int x,D,A,s,_,_,_,_,r,J,O,ha,hb,hu,e=>by
    cases J
    cases O <;> first
      | (cases e;intro prog w E Q h;exact (lt_int h:wpAny (model prog w) A (compareOp .Lt _ _) Q E s))
      | (exact nomatch e)
  | .str x,D,A,s,_,_,_,_,r,J,O,ha,hb,hu,e=>by
    cases J
    cases O <;> first
      | (cases e;intro prog w E Q h;exact (lt_str h:wpAny (model prog w) A (compareOp .Lt _ _) Q E s))
      | (exact nomatch e)
  | .tuple xs,D,A,s,_,_,_,_,r,J,O,ha,hb,hu,e=>by
    cases J with
    | tuple h1 h2 h3 h4=>
      cases O with
      | tuple k1 k2 k3 k4=>
        exact qkv ⟨_,h1,h2,_,h3⟩ ⟨_,k1,k2,_,k3⟩ (qcz xs _ A.in1 s _ _ _ _ r h4 k4 ha hb (SeqAt.room_in hu) e) (SeqAt.room_here hu)
      | none=>exact nomatch e
      | bool=>exact nomatch e
      | int=>exact nomatch e
      | str=>exact nomatch e
      | list=>exact nomatch e
      | dict=>exact nomatch hb
  | .none,_,_,_,_,_,_,_,_,_,_,_,_,_,e=>by simp [ltD?] at e
  | .bool _,_,_,_,_,_,_,_,_,_,_,_,_,_,e=>by simp [ltD?] at e
  | .list _,_,_,_,_,_,_,_,_,_,_,_,_,_,e=>by simp [ltD?] at e
  | .dict _,_,_,_,_,_,_,_,_,_,_,ha,_,_,_=>nomatch ha
theorem qcz:∀ (xs ys:List PyData) (A:Around) (s:Shared) (vs ws:List Value) (as bs:List Addr) (r:Bool),ReadsAll s.heap vs xs as ->ReadsAll s.heap ws ys bs ->PyData.canLayAll0 xs=true ->PyData.canLayAll0 ys=true ->
  A.units+min (PyData.depthAll xs) (PyData.depthAll ys) < cLine ->lexD? xs ys=some r ->LexAt A s vs ws r
 | [],[],_,_,_,_,_,_,r,O,Z,_,_,_,e=>by cases O;cases Z;cases e;exact .nn
 | [],_::_,_,_,_,_,_,_,r,O,Z,_,_,_,e=>by cases O;cases Z;cases e;exact .nc
 | _::_,[],_,_,_,_,_,_,r,O,Z,_,_,_,e=>by cases O;cases Z;cases e;exact .cn
 | x::xs,y::ys,A,s,_,_,_,_,r,O,Z,ha,hb,hu,e=>by
  have D:x.canLay0=true/\PyData.canLayAll0 xs=true:=by simpa [PyData.canLayAll0] using ha
  have J:y.canLay0=true/\PyData.canLayAll0 ys=true:=by simpa [PyData.canLayAll0] using hb
  cases O with
  | cons r1 rs=>
   cases Z with
   | cons a0 a1=>
    have eq:=SeqAt.eqAt_reads x y A s _ _ _ _ r1 a0 D.1 J.1 (SeqAt.room_head hu);rw [lexD?] at e;cases q:PyData.eqv x y with
    | true=>
     rw [q] at eq;rw [if_pos q] at e;exact .eq eq (qcz xs ys A s _ _ _ _ r rs a1 D.2 J.2 (SeqAt.room_tail hu) e)
    | false=>
     rw [q] at eq;rw [if_neg (by rw [q];exact z1l)] at e;exact .lt eq (qp4 x y A s _ _ _ _ r r1 a0 D.1 J.1 (SeqAt.room_head hu) e)
end
section
variable {X:Cx}
end
def tyD:PyData ->String
 | .none=>"NoneType"
 | .bool _=>"bool"
 | .int _=>"int"
 | .str _=>"str"
 | .list _=>"list"
 | .tuple _=>"tuple"
 | .dict _=>"dict"
theorem qzg (d:PyData):tyD d∈tyTs:=by
 cases d <;> simp [tyD,tyTs]
section
variable {X:Cx}
theorem q2e (K:PySem.W.Frag) (hK:X.K=K:=by rfl):q24 X (.builtin "isinstance") (λ xs H Q=>∃ x n d,xs=[x,.ty n]/\Dat K H d x/\n∈tyNs/\Q (.bl (tyIs (tyD d) n)) H):=by
 subst hK;intro pins s σ H xs us Q I r h;obtain ⟨x,n,d,rfl,hd,hn,q⟩:=h;obtain ⟨u,c,rfl,D,rc⟩:=qov r;cases rc
 have e:=qx0 (K:=X.K) (qzg d) hn;have fin:∀ tk,EP X pins σ Q (.bool (tyIs (tyD d) n)) {s with toks:=tk}:=λ tk=>⟨.bl _,H,I.tok tk,rfl,q⟩;cases hd with
 | non=>cases D;exact z37 PySem.W.kitx_none I.kIn True.intro e (λ z=>nomatch z) fin
 | bl b=>cases D;exact z37 PySem.W.kitx_bool I.kIn True.intro e (λ z=>nomatch z) fin
 | int i=>obtain ⟨t,rfl⟩:=D;exact z37 PySem.W.kitx_int I.kIn True.intro e (λ z=>nomatch z) fin
 | str z h=>obtain ⟨t,rfl⟩:=D;exact z37 PySem.W.kitx_str I.kIn True.intro e (λ z=>nomatch z) fin
 | lst hq _=>
  cases D
  obtain ⟨its,_,⟨o,m,e1,c,_,_⟩,_⟩:=I.list hq;exact z37 PySem.W.kitx_list I.kIn ⟨o,e1,c⟩ e (λ z=>nomatch z) fin
 | tup hq _=>
  cases D
  obtain ⟨its,_,⟨o,e1,c,_⟩,_⟩:=I.tuple hq;exact z37 PySem.W.kitx_tuple I.kIn ⟨o,e1,c⟩ e (λ z=>nomatch z) fin
end
end L2
namespace L2
open PySem PySem.Spec PyProof.Rows PySem.W
def RawD (h:Heap) (d:Addr) (es:Array DictEntry) (ep:Nat):Prop:=∃ o,h.get? d=some o/\o.ExactDict/\o.data= .dict es ep
theorem RawD.lt {h:Heap} {d:Addr} {es:Array DictEntry} {ep:Nat} (x:RawD h d es ep):d < h.objs.size:=let ⟨_,e,_⟩:=x;z3z e
theorem RawD.ty {s:Shared} {d:Addr} {es:Array DictEntry} {ep:Nat} (x:RawD s.heap d es ep):s.TypeIs (.ref d) "dict":=let ⟨o,e,c,_⟩:=x;⟨o,e,c.1⟩
theorem RawD.at {h h':Heap} {d:Addr} {es:Array DictEntry} {ep:Nat} (x:RawD h d es ep) (k:∀ o,h.get? d=some o ->h'.get? d=some o):RawD h' d es ep:=let ⟨o,e,r⟩:=x;⟨o,k o e,r⟩
section
variable {prog:Program} {w:World} {A:Around} {E:Value ->Shared ->Prop} {s:Shared} {d it:Addr} {es:Array DictEntry} {ep i:Nat}
theorem qdk {Q:Value ->Shared ->Prop} (hd:(d==sysModules)=false) (x:RawD s.heap d es ep)
  (q:Q (.ref s.heap.objs.size) {s with heap:=s.heap.push {cls:= .type "dict_keyiterator",data:= .fields #[.ref d,.int 0 0,.int es.size 0,.int ep 0]}}):wpAny (model prog w) A (pyIter (.ref d)) Q E s:=by
 obtain ⟨o,ho,hc,D⟩:=id x;refine wpAny_pyIter_slot x.ty PySem.F.slot_dict_iter (z2o PySem.F.slot_dict_iter x.ty PySem.F.entry_dict_iter ?_ (PySem.F.args_dict_iter_1 _));unfold Builtin.«dict.__iter__» Builtin.Dict.dictSlotNone;refine z4f (z4f (wpAny_notOrdered_dict x.ty ?_));show wpAny _ _ (pure (Value.ref d)) _ _ s;refine z4e ?_;show wpAny _ _ (Builtin.Dict.showsAll d >>=_) _ _ s;unfold Builtin.Dict.showsAll;rw [if_neg (by rw [hd];exact z1l)];refine z4f (z4e (z4f (z2a ho D (z4f (z38 ho D ?_)))));refine z4f (z28 (z4e ⟨_,zf,"dict_keyiterator",_,⟨_,z1c _ rfl,zf⟩,z00.lookup,?_⟩))
 simpa [rawInt] using q
theorem qdl {e:DictEntry} {Q:Option Value ->Shared ->Prop} (D:s.heap.IsKeyIter it d i es.size ep) (x:RawD s.heap d es ep) (hx:es[i]? =some e)
  (q:∀ h',h'.IsKeyIter it d (i+1) es.size ep ->Heap.SameBut it s.heap h' ->Q (some e.key) {s with heap:=h'}):wpAny (model prog w) A (pyNext (.ref it)) Q E s:=by
 obtain ⟨o,ho,hc,hd⟩:=id D;obtain ⟨od,Z,hcd,O⟩:=id x;unfold pyNext;refine z4f (z3m (wpAny_callSpecial?_slot (name:=Str.ofString "__next__") D.typeIs z00
  (z2o z00 D.typeIs PySem.F.entry_dict_keyiterator_next ?_ (PySem.F.args_dict_keyiterator_next_1 _))))
 refine z4f (z4e (z4f (z4f ?_)));refine z4f (z01 D.typeIs (z4e ?_));refine z4f (wpAny_fieldsOf ho hd ?_);simp only [show Builtin.Dict_items.ownsTuple "dict_keyiterator"=false by decide,z1k,if_false];show wpAny _ _ (if (Value.ref d==Value.none)=true then _ else _) _ _ s;rw [if_neg (show ¬ ((Value.ref d==Value.none)=true) from z1l)];refine z4f (z4e (z4f (z2a Z O ?_)));rw [if_neg (by simp)];refine z4f (z4e (z4f (z38 Z O ?_)));rw [if_neg (by simp)];refine z4e ?_;simp only [show ¬ ((i:Int) < 0) from by omega,if_false,z26,hx];refine z4f ?_;refine z4f (z01 D.typeIs (z4e ?_));refine z4f (wpAny_isOneOf_keyiter D.typeIs ?_);show wpAny _ _ (setField (.ref it) 1 (rawInt ((i:Int)+1)) >>=_) _ _ s;refine z4f (z3i ho hd (by simp) ?_);have J:(s.heap.update it (Obj.mapFields (·.setIfInBounds 1 (rawInt ((i:Int)+1))))).IsKeyIter it d (i+1) es.size ep:=
  ⟨_,z0z _ ho (Obj.isFreed_of_fields (Obj.data_mapFields hd _)),(Obj.cls_mapFields ..).trans hc,by rw [Obj.data_mapFields hd];simp [rawInt]⟩
 refine z4f (z3o ?_);refine z4f (wpAny_isOneOf_keyiter (s:={s with heap:=s.heap.update it (Obj.mapFields (·.setIfInBounds 1 (rawInt ((i:Int)+1))))}) J.typeIs ?_);show wpAny _ _ (pure e.key) _ _ _;exact z4e (z4e ⟨_,zf,z4e (q _ J (z1b ..))⟩)
theorem qg1 {Q:Option Value ->Shared ->Prop} (hh:A.handled=none) (D:s.heap.IsKeyIter it d i es.size ep) (x:RawD s.heap d es ep) (hx:es.size<=i)
  (q:∀ h',Heap.ExtBut it s.heap h' ->Q none {s with heap:=h'}):wpAny (model prog w) A (pyNext (.ref it)) Q E s:=by
 obtain ⟨o,ho,hc,hd⟩:=id D;obtain ⟨od,O,hcd,J⟩:=id x;unfold pyNext;refine z4f (z3m (wpAny_callSpecial?_slot (name:=Str.ofString "__next__") D.typeIs z00
  (z2o z00 D.typeIs PySem.F.entry_dict_keyiterator_next ?_ (PySem.F.args_dict_keyiterator_next_1 _))))
 refine z4f (z4e (z4f (z4f ?_)));refine z4f (z01 D.typeIs (z4e ?_));refine z4f (wpAny_fieldsOf ho hd ?_);simp only [show Builtin.Dict_items.ownsTuple "dict_keyiterator"=false by decide,z1k,if_false];show wpAny _ _ (if (Value.ref d==Value.none)=true then _ else _) _ _ s;rw [if_neg (show ¬ ((Value.ref d==Value.none)=true) from z1l)];refine z4f (z4e (z4f (z2a O J ?_)));rw [if_neg (by simp)];refine z4f (z4e (z4f (z38 O J ?_)));rw [if_neg (by simp)];refine z4e ?_;simp only [show ¬ ((i:Int) < 0) from by omega,if_false,z26,z0r hx];refine z4f ?_;refine z4f (z01 D.typeIs (z4e ?_));show wpAny _ _ (setField (.ref it) 0 .none >>=_) _ _ s;refine z4f (z3i ho hd (by simp) ?_);show wpAny _ _ (newExc (.type "StopIteration") [] >>=_) _ _ _;refine z4f ?_;simp only [newExc,newTuple];refine z4f (z28 ?_ (by size_fits));refine z4f (m:=firstArgMember _ _) (wpAny_of_eq (a:=Value.none) (by first | rfl | (simp only [firstArgMember];rfl)) ?_);refine z28 ?_ (by size_fits);simp only [raiseNew];refine z4f (wpAny_handled ?_);rw [show A.in1.handled=none from hh];refine z4f (z4e (wpAny_throw ?_));refine z4f (wpAny_isInstance (T:="StopIteration") (b:=true) ⟨_,z1c _ rfl,zf⟩ isSubtype_stop ?_);exact z4e (q _ (((z1b ..).extBut.push _).push _))
theorem qr6 (hh:A.handled=none) (I d:Addr) (a1:d≠I) (es:Array DictEntry) (ep:Nat):
  Walks prog w A I [I,d] [I] es.size (λ i v=>∃ e,es[i]? =some e/\v=e.key) (λ i h=>h.IsKeyIter I d i es.size ep/\RawD h d es ep) where
 sub:=λ b D=>by simp at D;simp [D]
 frame:=λ _ _ _ st hk=>⟨st.1.at λ o e=>hk I (by simp) o e,st.2.at λ o e=>hk d (by simp) o e⟩
 item:=λ i s Q E hi st J=>by
  have hx:es[i]? =some es[i]:=z0b hi;refine qdl st.1 st.2 hx λ h' O Z=> ?_;exact J es[i].key h' s.toks ⟨es[i],hx,zf⟩ ⟨O,st.2.at λ o e=>Z.extBut d o a1 e⟩ λ b o D e=>Z.extBut b o (λ h=>D (by simp [h])) e
 done:=λ s Q E st J=>qg1 hh st.1 st.2 (z48 _) λ h' a0=>J h' s.toks λ b o D e=>a0 b o (λ h=>D (by simp [h])) e
 self:=λ _ _ _ _ st J=>wpAny_pyIter_keyiter st.1 J
theorem qx3 (lo:(d==sysModules)=false):KdlSrc prog w "dict" d d es.size (λ i v=>∃ e,es[i]? =some e/\v=e.key) (λ h=>RawD h d es ep) where
 type:=λ _ hm=>hm.ty
 there:=λ _ hm=>⟨hm.lt,hm.lt⟩
 keep:=λ _ _ hm hk=>hm.at λ o e=>hk d (.inl rfl) o e
 notList:=by decide
 notTuple:=by decide
 hint:=λ _ _ _ _ hm hq=>kdl_hint_dict hm.ty hq
 iter:=λ _ _ hh hm=>⟨_,_,(λ _ _ hq=>qdk lo hm hq),qr6 hh _ d (z40 hm.lt) es ep,⟨⟨_,z1c _ rfl,rfl,rfl⟩,hm.at λ o e=>z0o _ e⟩⟩
theorem q8x {R:List Value ->Shared ->Prop} (hh:A.handled=none) (lo:(d==sysModules)=false) (x:RawD s.heap d es ep) (hn:es.size<=sizeLine)
  (h:∀ (h':Heap) (tk:Nat),(∀ b o,s.heap.get? b=some o ->h'.get? b=some o) ->s.heap.objs.size<=h'.objs.size ->R (es.toList.map (·.key)) {s with heap:=h',toks:=tk}):wpAny (model prog w) A (collect (.ref d)) R E s:=by
 have fin:∀ (acc:Array Value),ItemsOf (λ i v=>∃ e,es[i]? =some e/\v=e.key) acc es.size ->acc.toList=es.toList.map (·.key):=λ acc ha=>by
  apply z21
  intro j;rw [z22,z0x,z0x];cases e:acc[j]? with
  | some v=>
   obtain ⟨e',he,rfl⟩:=ha.2 j v e;rw [he];rfl
  | none=>
   have:acc.size<=j:=by simpa using e
   rw [ha.1] at this;rw [z0r this];rfl
 unfold collect;refine z4f (wpAny_runValue (z39 entry_proto_collect' ?_));rw [Around.under_plainId PySem.F.plain_proto_collect _];show wpAny _ A.in1 (newList [] >>=λ l=>again (.builtin "list.__iadd__" ⟨[l,.ref d],[]⟩)) _ _ s;refine z4f (z28 ?_);refine z4e ⟨plainId_quiet z0j _,z39 entry_list_iadd' ?_⟩;rw [Around.under_plainId z0j _];have hS:(s.heap.push {cls:= .type "list",data:= .seq ([]:List Value).toArray}).get? s.heap.objs.size=some {cls:= .type "list",data:= .seq #[]}:=z1c _ rfl;show wpAny _ A.in1 (Builtin.List.listExtendWith (.ref s.heap.objs.size) (.ref d) (.ref s.heap.objs.size)) _ _ _;have key:=kdl_extend (A:=A) (s:={s with heap:=s.heap.push {cls:= .type "list",data:= .seq ([]:List Value).toArray}}) (qx3 (prog:=prog) (w:=w) (es:=es) (ep:=ep) lo) hh (x.at λ o e=>z0o _ e) s.heap.objs.size
  (z42 x.lt) (z42 x.lt) (.ref s.heap.objs.size) 0 hS
  (R:=λ (q:Result) (s':Shared)=>∃ (h':Heap) (tk:Nat) (D:Array Value) (O:Nat),q= .ok (.ret (.ref s.heap.objs.size))/\s'={s with heap:=h',toks:=tk}/\(∀ b o,s.heap.get? b=some o ->h'.get? b=some o)/\
   h'.get? s.heap.objs.size=some {cls:= .type "list",dict:=none,data:= .seq D O,slots:=#[]}/\D.toList=es.toList.map (·.key))
  (λ h' tk D O hk J Z=>⟨h',tk,D,O,rfl,rfl,λ b o e=>hk b o (z40 (z3z e)) (z0o _ e),J,fin D Z⟩) hn
 refine z4g key (λ f s' y=> ?_) λ e s' y=> ?_
 ·cases f with
  | done f=>
   obtain ⟨h',tk,D,O,e,rfl,hk,J,ha⟩:=y;cases e
   show wpAny _ A (load s.heap.objs.size >>=_) _ _ _;refine z4f (wpAny_load J (z4e ?_));show R D.toList _;rw [ha];exact h h' tk hk (z3y (z3z J))
  | again c=>
   refine ⟨y.1,z43 y.2 λ q s2 z=> ?_⟩;obtain ⟨h',tk,D,O,rfl,rfl,hk,J,ha⟩:=z;show wpAny _ A (load s.heap.objs.size >>=_) _ _ _;refine z4f (wpAny_load J (z4e ?_));show R D.toList _;rw [ha];exact h h' tk hk (z3y (z3z J))
 ·obtain ⟨_,_,_,_,e',_⟩:=y;cases e'
theorem q9u {T:String} {o:Obj} {D:Array Value} {n:Nat} {l:Addr} {R:List Value ->Shared ->Prop} (hT:T="list"\/ T="tuple") (ho:s.heap.get? l=some o) (hc:o.cls= .type T) (hd:o.data= .seq D n) (hz:D.size<=sizeLine)
  (h:∀ (h':Heap) (tk:Nat),(∀ b o,s.heap.get? b=some o ->h'.get? b=some o) ->s.heap.objs.size<=h'.objs.size ->R D.toList {s with heap:=h',toks:=tk}):wpAny (model prog w) A (collect (.ref l)) R E s:=by
 unfold collect;refine z4f (wpAny_runValue (z39 entry_proto_collect' ?_));show wpAny _ _ (do again (.builtin "list.__iadd__" ⟨[<- newList [],.ref l],[]⟩)) _ _ s;refine z4f (wpAny_newList (z4e ⟨Code.quiet_builtin _ (by decide+kernel),z39 entry_list_iadd' ?_⟩));show wpAny _ _ (Builtin.List.listExtendWith (.ref s.heap.objs.size) (.ref l) (.ref s.heap.objs.size)) _ _ {s with heap:=s.heap.push (seqObj "list" #[] 0)};unfold Builtin.List.listExtendWith;have J:(s.heap.push (seqObj "list" #[] 0)).get? l=some o:=z0o _ ho;refine z4f (wpAny_typeOf (T:=T) ⟨o,J,hc⟩ ?_);have ht:((Value.type T==Value.type "list") || (Value.type T==Value.type "tuple"))=true:=by rcases hT with rfl | rfl <;> rfl
 rw [if_pos (by rw [Bool.or_assoc,ht];simp)];refine z4f (listItems_at J hd ?_);refine z4f (listItems_at (xs:=#[]) (n:=0) (z1c _ rfl) rfl ?_);rw [if_neg (by simp)];refine z4f (listUpdate_at (xs:=#[]) (n:=0) (z1c _ rfl) rfl ?_ (z4b _) (by rw [Array.size_append];simp;omega));refine z4e ?_;show wpAny (model prog w) A (load s.heap.objs.size >>=λ o=>match o.data with
   | .seq xs _=>pure xs.toList
   | _=>unsupported "internal:collect") R E {s with heap:=(s.heap.push (seqObj "list" #[] 0)).update s.heap.objs.size (Obj.mapSeq (· ++D))}
 refine z4f (wpAny_load (get?_update_seq (z1c _ rfl) _) ?_);show wpAny _ _ (pure ((#[]:Array Value)++D).toList) R E _;rw [show ((#[]:Array Value)++D).toList=D.toList by simp];refine z4e (h _ s.toks (λ b o e=> ?_) (by rw [Heap.size_update,size_push'];omega));exact (z0p _ _ (z42 (z3z e))).trans (z0o _ e)
theorem q4n {x:Value} {vs:List Value} {rk:Value ->Int} {Q:Value ->Shared ->Prop} (hz:vs.length<=sizeLine)
  (hc:∀ (O:Around) (E':Value ->Shared ->Prop) (R:List Value ->Shared ->Prop),O.handled=A.handled ->(∀ h' tk,(∀ b o,s.heap.get? b=some o ->h'.get? b=some o) ->s.heap.objs.size<=h'.objs.size ->R vs {s with heap:=h',toks:=tk}) ->wpAny (model prog w) O (collect x) R E' s)
  (hk:∀ (O:Around) (s':Shared) (a:Addr),O.units<=A.units+4 ->s.heap.objs.size<=a ->(∀ b o,s.heap.get? b=some o ->s'.heap.get? b=some o) ->Tim.Keys prog w O s' a vs rk)
  (h:∀ (out:Array Value) (l:Addr) (n:Nat) (h':Heap) (tk:Nat),Tim.Sorted rk vs out.toList ->(∀ b o,s.heap.get? b=some o ->h'.get? b=some o) ->s.heap.objs.size<=l ->h'.get? l=some (seqObj "list" out n) ->Q (.ref l) {s with heap:=h',toks:=tk}):
  wpAny (model prog w) A (call (.builtin "sorted") [x]) Q E s:=by
 refine Calls.call_function_entry kind_sorted plain_sorted entry_sorted (args_sorted1 _) ?_;unfold Builtin.«sorted»;refine z4f (m:=checkCount "sorted" 1 1 _) (z4e ?_);refine z4f (hc _ _ _ rfl λ h1 tk keep hsz=> ?_);refine z4f (wpAny_newList ?_ hz);have J:(h1.push (seqObj "list" vs.toArray 0)).get? h1.objs.size=some (seqObj "list" vs.toArray 0):=z1c _ rfl;show wpAny _ _ _ _ _ {s with heap:=h1.push (seqObj "list" vs.toArray 0),toks:=tk};have D:∀ b o,s.heap.get? b=some o ->(h1.push (seqObj "list" vs.toArray 0)).get? b=some o:=λ b o e=>z0o _ (keep b o e);refine z4f (z3o (z2o slot_list_sort ⟨_,J,zf⟩ entry_list_sort (Tim.qal J hz (hk _ _ _ ?_ hsz D) λ out so=>⟨_,zf,?_⟩) (args_list_sort _)))
 ·show A.units+2<=A.units+4;omega
 ·have Z:∀ b o,s.heap.get? b=some o ->b≠h1.objs.size:=λ b o e=>z40 (z1r (z3z e) hsz);have u1:=z1b (h1.push (seqObj "list" vs.toArray 0)) h1.objs.size (Obj.mapSeq λ _=>(#[]:Array Value));obtain ⟨e1,g1⟩:∃ e1,((h1.push (seqObj "list" vs.toArray 0)).update h1.objs.size (Obj.mapSeq λ _=>(#[]:Array Value))).get? h1.objs.size=some (seqObj "list" #[] e1):=⟨_,get?_update_seq J λ _=>#[]⟩;have g2:=z0o (seqObj "list" #[] 0) (z0o (seqObj "tuple" vs.toArray 0) g1);have g3:=get?_update_seq g2 λ _=>out;have u4:=z1b (((((h1.push (seqObj "list" vs.toArray 0)).update h1.objs.size (Obj.mapSeq λ _=>(#[]:Array Value))).push (seqObj "tuple" vs.toArray 0)).push (seqObj "list" #[] 0))) h1.objs.size (Obj.mapSeq λ _=>out);refine z4e ⟨_,zf,h out h1.objs.size _ _ tk so (λ b o e=> ?_) hsz g3⟩;refine (u4.2 b (Z b o e)).trans (z0o _ (z0o _ ((u1.2 b (Z b o e)).trans (D b o e))))
end
end L2
namespace Tim
section
variable {α:Type}
def srt (lt:α ->α ->Bool) (l:List α):List α:=l.mergeSort λ a b=> !lt b a
theorem qo (lt:α ->α ->Bool) (l:List α):(srt lt l).Perm l:=List.mergeSort_perm _ _
theorem q1r {lt:α ->α ->Bool} (h:STO lt) (l:List α):(srt lt l).Pairwise λ a b=>lt b a=false:=by
 have:=List.pairwise_mergeSort (le:=λ a b=> !lt b a) (λ a b c h1 h2=>by
  cases e:lt c a with
  | false=>rfl
  | true=>
   rcases h.nt b e with q | q
   ·rw [q] at h2;cases h2
   ·rw [q] at h1;cases h1) (λ a b=>by
  cases e:lt b a with
  | false=>rfl
  | true=>
   rw [h.asym e];rfl) l
 exact List.Pairwise.imp (λ {a b} (z:(!lt b a)=true)=>by simpa using z) this
theorem q98 {lt:α ->α ->Bool} (h:STO lt) {l k:List α} (p:k.Perm l) (a:k.Pairwise λ a b=>lt b a=false):k=srt lt l:=h.uniq (p.trans (qo lt l).symm) a (q1r h l)
end
section
open PySem
theorem q36 {α:Type} {lt:α ->α ->Bool} (h:STO lt) (D:Value ->α) {vs out:List Value} (J:Sorted (λ v=>rank lt (vs.map D) (D v)) vs out):out.map D=srt lt (vs.map D):=by
 refine q98 h (J.perm.map D) ?_;rw [List.pairwise_map];refine List.Pairwise.imp_of_mem (λ {x y} hx hy hr=> ?_) J.asc;have mx:D x∈vs.map D:=z45.mpr ⟨x,J.perm.mem_iff.mp hx,rfl⟩;have my:D y∈vs.map D:=z45.mpr ⟨y,J.perm.mem_iff.mp hy,rfl⟩;rw [qng (λ a _=>h.irr a) (λ a _ b _ c _=>h.tr a b c) (λ a _ b _ c _ z=>h.nt b z) my mx];exact z2w (by omega)
theorem qdm {α:Type} {lt:α ->α ->Bool} (h:STO lt) (D:Value ->α) {vs:List Value} {x y:Value} (hx:x∈vs) (hy:y∈vs):lt (D x) (D y)=decide (rank lt (vs.map D) (D x) < rank lt (vs.map D) (D y)):=
 qng (λ a _=>h.irr a) (λ a _ b _ c _=>h.tr a b c) (λ a _ b _ c _ z=>h.nt b z) (z45.mpr ⟨x,hx,rfl⟩) (z45.mpr ⟨y,hy,rfl⟩)
end
end Tim
namespace L2
open PySem PySem.Spec PyProof.Rows PySem.W
def ql (x y:Str):Bool:=decide (x.cps.toList < y.cps.toList)
theorem q1j:Tim.STO ql:=by
 have h:=(Tim.qw9.lex).map (λ z:Str=>z.cps.toList) (λ a b e=>by
  cases a
  cases b
  congr
  exact Array.toList_inj.mp e)
 have e:ql=λ a b:Str=>Tim.lexB (λ x y:Nat=>decide (x < y)) a.cps.toList b.cps.toList:=by
  funext a b
  exact Tim.qnh _ _
 rw [e];exact h
def qz (a b:List Str):Bool:=Tim.lexB ql a b
theorem q2a:Tim.STO qz:=q1j.lex
def sOf:Value ->Str
 | .str x _=>x
 | _=>""
theorem q64 {ws:List Str}:∀ {us:List Value},Vals (ws.map V.str) us ->us.map sOf=ws/\(∀ u∈us,∃ x t,u= .str x t)/\StrsAre us ws:=by
 induction ws with
 | nil=>
  intro us r;cases r
  exact ⟨rfl,(λ _ z=>nomatch z),.nil⟩
 | cons x ws ih=>
  intro us r;cases r with
  | cons r1 rr=>
   obtain ⟨t,rfl⟩:=r1;obtain ⟨a,b,c⟩:=ih rr;refine ⟨by rw [z3l,a];rfl,λ u D=> ?_,.cons x t c⟩;rcases z3n.mp D with rfl | D
   ·exact ⟨x,t,zf⟩
   ·exact b u D
theorem q47:∀ {us:List Value},(∀ u∈us,∃ x t,u= .str x t) ->Vals ((us.map sOf).map V.str) us
 | [],_=> .nil
 | u::us,h=>by
  obtain ⟨x,t,rfl⟩:=h u (z1p ..);exact .cons ⟨t,zf⟩ (q47 λ v hv=>h v (z16 _ hv))
section
variable {prog:Program} {w:World} {A:Around} {s:Shared} {a:Addr}
theorem qb8 {ws:List Str} {vs:List Value} (r:Vals (ws.map V.str) vs):Tim.Keys prog w A s a vs (λ v=>Tim.rank ql (vs.map sOf) (sOf v)):=by
 intro h2 s' _;obtain ⟨e1,e2,e3⟩:=q64 r;refine ⟨oneType',λ E Q q=> ?_,λ x hx y hy E Q q=> ?_⟩
 ·match vs,h2,e3 with
  | v1::v2::vr,_,e3=>
   rw [keyKind_strs e3];exact z4e q
 ·rw [<- Tim.qdm q1j sOf hx hy] at q;obtain ⟨x',t,rfl⟩:=e2 x hx;obtain ⟨y',u,rfl⟩:=e2 y hy;rw [keyLt'_oneType];exact oneLt_str q
end
section
variable {X:Cx}
theorem Inv.q37 {pins:List (Addr×Obj)} {σ:St} {H:Hp} {s:Shared} {xs:List V} {out:Array Value} {l:Addr} {n tk:Nat} {h':Heap} {Q:VK} (I:Inv X pins σ H s) (rv:Vals xs out.toList) (hz:xs.length<=sizeLine)
  (keep:∀ b o,s.heap.get? b=some o ->h'.get? b=some o) (hl:s.heap.objs.size<=l) (hg:h'.get? l=some (seqObj "list" out n)) (q:Q (.ref l) (upd H l (.lst xs))):EP X pins σ Q (.ref l) {s with heap:=h',toks:=tk}:=by
 refine ⟨.ref l,_,I.laid (a:=l) (o:= .lst xs) (t':=tk) keep hl ⟨hz,out.toList,n,rv,?_⟩,zf,q⟩;rw [Array.toArray_toList];exact hg
theorem q7y (K:PySem.W.Frag) (hK:X.K=K:=by rfl):q24 X (.builtin "sorted") (λ xs H Q=>∃ p ws,xs=[.ref p]/\(SqL K H p (ws.map V.str)\/ SqT K H p (ws.map V.str))/\∀ l,H l=none ->Q (.ref l) (upd H l (.lst ((Tim.srt ql ws).map V.str)))):=by
 subst hK;intro pins s σ H xs us Q I r h;obtain ⟨p,ws,rfl,J,q⟩:=h;obtain ⟨u,rfl,ru⟩:=q3b r;cases ru
 obtain ⟨T,o,its,n,hT,ho,hc,hd,rv,hz⟩:∃ (T:String) (o:Obj) (its:List Value) (n:Nat),(T="list"\/ T="tuple")/\s.heap.get? p=some o/\o.cls= .type T/\o.data= .seq its.toArray n/\Vals (ws.map V.str) its/\(ws.map V.str).length<=sizeLine:=by
  rcases J with J | J
  ·obtain ⟨its,rv,⟨o,n,e,c,_,d⟩,z⟩:=I.list J;exact ⟨"list",o,its,n,.inl rfl,e,c,d,rv,z⟩
  ·obtain ⟨its,rv,⟨o,e,c,n,d⟩,z⟩:=I.tuple J;exact ⟨"tuple",o,its,n,.inr rfl,e,c,d,rv,z⟩
 have hl:its.length<=sizeLine:=by rw [<- rv.length];exact hz
 obtain ⟨e1,e2,_⟩:=q64 rv;refine q4n (vs:=its) (rk:=λ v=>Tim.rank ql (its.map sOf) (sOf v)) hl (λ A' E' R _ k=>q9u hT ho hc hd (by rw [z23];exact hl) (by rw [z1g];exact k)) (λ A' s' a _ _ _=>qb8 rv) λ out l n h' tk so keep D hg=> ?_;have Z:∀ u∈out.toList,∃ x t,u= .str x t:=λ u hu=>e2 u (so.perm.mem_iff.mp hu);have ed:=Tim.q36 q1j sOf so;rw [e1] at ed;have O:=q47 Z;rw [ed] at O;exact I.q37 O (by rw [z30,(Tim.qo ql ws).length_eq];rw [z30] at hz;exact hz) keep D hg (q l (I.hok.fresh D))
end
def TupAt (h:Heap) (v:Value) (p:List Str):Prop:=∃ (b:Addr) (o:Obj) (its:Array Value) (n:Nat),v= .ref b/\h.get? b=some o/\o.cls= .type "tuple"/\o.data= .seq its n/\Vals (p.map V.str) its.toList
section
variable {prog:Program} {w:World} {A:Around} {E:Value ->Shared ->Prop} {s:Shared} {a:Addr}
theorem qkw (x y:Str) (t u:Tok):SeqAt.EqAt A s (.str x t) (.str y u) (decide (x=y)):=λ prog w E Q h=>wpAny_eqBool_str h
theorem qd0 (x y:Str) (p q:List Str):qz (x::p) (y::q)=if x=y then qz p q else ql x y:=rfl
theorem q9v:∀ (p q:List Str) (us vs:List Value),Vals (p.map V.str) us ->Vals (q.map V.str) vs ->LexAt A s us vs (qz p q)
 | [],[],_,_,r1,r2=>by cases r1;cases r2;exact .nn
 | [],_::_,_,_,r1,r2=>by cases r1;cases r2;exact .nc
 | _::_,[],_,_,r1,r2=>by cases r1;cases r2;exact .cn
 | x::p,y::q,_,_,r1,r2=>by
  cases r1 with
  | cons a1 r1=>
   cases r2 with
   | cons a2 r2=>
    obtain ⟨t,rfl⟩:=a1;obtain ⟨u,rfl⟩:=a2;have D:=qkw (A:=A) (s:=s) x y t u;rw [qd0];by_cases h:x=y
    ·rw [if_pos h];rw [z3c h] at D;exact .eq D (q9v p q _ _ r1 r2)
    ·rw [if_neg h];rw [z2w h] at D;exact .lt D λ prog w E Q k=>(lt_str k:wpAny (model prog w) A (compareOp .Lt _ _) Q E s)
theorem qp5 (c:Bool) (x y:Str) (t u:Tok) {Q:Bool ->Shared ->Prop} (h:Q (ql x y) s):wpAny (model prog w) A (oneLt' c (.str x t) (.str y u)) Q E s:=by
 cases c with
 | true=>exact oneLt_str h
 | false=>exact kat_one _ _ (lt_str h)
theorem qd1 {c fin:Bool} {Q:Bool ->Shared ->Prop}:∀ (p q:List Str) (us vs:List Value) (i:Nat),Vals (p.map V.str) us ->Vals (q.map V.str) vs ->fin=decide (us.length < vs.length) ->Q (qz p q) s ->KatLex prog w A c fin Q (us.zip vs) i s
 | [],[],_,_,i,r1,r2,hf,h=>by
  cases r1
  cases r2
  rw [List.zip_nil_left,hf];exact h
 | [],_::_,_,_,i,r1,r2,hf,h=>by
  cases r1
  cases r2
  rw [List.zip_nil_left,hf];refine kat_nil ?_;rw [z3c (by simp)];exact h
 | _::_,[],_,_,i,r1,r2,hf,h=>by
  cases r1
  cases r2
  rw [List.zip_nil_right,hf];refine kat_nil ?_;rw [z2w (by simp)];exact h
 | x::p,y::q,_,_,i,r1,r2,hf,h=>by
  cases r1 with
  | cons a1 r1=>
   cases r2 with
   | cons a2 r2=>
    obtain ⟨t,rfl⟩:=a1;obtain ⟨u,rfl⟩:=a2;rw [z1t];rw [qd0] at h;refine kat_cons (qkw x y t u prog w _ _ ?_);by_cases e:x=y
    ·rw [if_pos e] at h;rw [z3c e];exact kat_yes (qd1 p q _ _ (i+1) r1 r2 (by rw [hf];simp) h)
    ·rw [if_neg e] at h;rw [z2w e];exact kat_no (qp5 _ x y t u h)
theorem qp6 {x y:Value} {p q:List Str} (hx:TupAt s.heap x p) (hy:TupAt s.heap y q) (c:Bool):Tim.KLt prog w A s (tuples' c) x y (qz p q):=by
 obtain ⟨b,o,its,n,rfl,e1,_,d1,r1⟩:=hx;obtain ⟨b',o',its',n',rfl,e2,_,d2,r2⟩:=hy;intro E Q k;exact kat_lt e1 d1 e2 d2 (qd1 p q _ _ 0 r1 r2 (by rw [z19,z19]) k)
theorem qx4 {x y:Value} {p q:List Str} (hx:TupAt s.heap x p) (hy:TupAt s.heap y q) (hu:A.units < cLine):LtAt A s x y (qz p q):=by
 obtain ⟨b,o,its,n,rfl,e1,c1,d1,r1⟩:=hx;obtain ⟨b',o',its',n',rfl,e2,c2,d2,r2⟩:=hy;exact qkv ⟨o,e1,c1,n,d1⟩ ⟨o',e2,c2,n',d2⟩ (q9v p q _ _ r1 r2) hu
theorem qmu {x y:Value} {p q:List Str} (hx:TupAt s.heap x p) (hy:TupAt s.heap y q) (hu:A.units < cLine):Tim.KLt prog w A s general' x y (qz p q):=by
 intro E Q k;exact kat_one x y (qx4 hx hy hu prog w E _ k)
theorem qx5 {x y:Value} {p q:List Str} (hx:TupAt s.heap x p) (hy:TupAt s.heap y q) (hu:A.units < cLine):Tim.KLt prog w A s oneType' x y (qz p q):=by
 obtain ⟨b,⟨cls,dd,data,sl⟩,its,n,rfl,e1,Z,d1,r1⟩:=hx;obtain ⟨b',⟨a0,J,D,O⟩,its',n',rfl,e2,c2,d2,r2⟩:=hy;simp only at Z d1 c2 d2;subst Z d1 c2 d2;intro E Q k;rw [keyLt'_oneType,oneLt'_eq];simp only [if_true];refine z4f (wpAny_cRoomFor hu ?_);refine z4f (wpAny_callSpecialIfBound?_slot ⟨_,e1,zf⟩ PySem.F.slot_tuple_lt (call_meets PySem.F.slot_tuple_lt ⟨_,e1,zf⟩ PySem.F.entry_tuple_lt (PySem.F.args_tuple_lt_2 _ _) (qb7 b b' its its' n n' dd J sl O (qz p q)) ⟨e1,e2,q9v p q _ _ r1 r2,?_⟩));exact z24 k
theorem TupAt.keep {h h':Heap} {v:Value} {p:List Str} (x:TupAt h v p) (k:∀ b o,v= .ref b ->h.get? b=some o ->h'.get? b=some o):TupAt h' v p:=
 let ⟨b,o,its,n,e,g,r⟩:=x
 ⟨b,o,its,n,e,k b o e g,r⟩
theorem qd2:∀ (vs:List Value) (ps:List (List Str)),Paired (TupAt s.heap) vs ps ->∃ fs:List (Option Value),(∀ (M:Model) (A:Around) (E:Value ->Shared ->Prop) (Q:List (Option Value) ->Shared ->Prop),Q fs s ->wpAny M A (vs.mapM firstOfTuple') Q E s)/\fs.length=vs.length/\
  ∀ f∈fs,∀ v,f=some v ->∃ x t,v= .str x t
 | [],[],_=>⟨[],λ M A E Q q=>by rw [List.mapM_nil];exact z4e q,rfl,λ _ z=>nomatch z⟩
 | v::vs,p::ps,.cons h hr=>by
  obtain ⟨fs,g1,g2,g3⟩:=qd2 vs ps hr;obtain ⟨b,o,its,n,rfl,ho,hc,hd,r⟩:=h;refine ⟨its[0]? ::fs,λ M A E Q q=> ?_,by rw [z2i,g2,z2i],λ f hf v e=> ?_⟩
  ·rw [List.mapM_cons];refine z4f ?_;rw [kas_first_eq];refine z4f (Looks.here (show Looks M s.heap (typeOf (.ref b)) o.cls from (Looks.ld ho).andThen .now) ?_);rw [hc,if_neg (by decide)];refine z4f (listItems_at ho hd (z4e ?_));exact z4f (g1 M A E (λ bs s'=>wpAny M A (pure (its[0]? ::bs)) Q E s') (z4e q))
  ·rcases z3n.mp hf with rfl | hf
   ·obtain ⟨_,h2,_⟩:=q64 r;exact h2 v (by rw [<- z0x] at e;exact z18 e)
   ·exact g3 f hf v e
theorem qd3:∀ (vs:List Value),(∀ v∈vs,∃ x t,v= .str x t) ->vs.mapM typeOf=pure (vs.map λ _=>Value.type "str")
 | [],_=>by simp
 | v::vs,h=>by
  obtain ⟨x,t,rfl⟩:=h v (z1p ..);rw [List.mapM_cons,qd3 vs λ u hu=>h u (z16 _ hu)];show (pure (Value.type "str") >>=λ b=>pure _ >>=λ bs=>pure (b::bs))=_;simp
theorem qr7 {vs:List Value} {ps:List (List Str)} (h:Paired (TupAt s.heap) vs ps) (h2:2<=vs.length):∃ kd:SortKind,(kd=tuples' true\/ kd=general'\/ kd=oneType')/\∀ (M:Model) (A:Around) (E:Value ->Shared ->Prop) (Q:SortKind ->Shared ->Prop),Q kd s ->wpAny M A (keyKind' vs.toArray) Q E s:=by
 obtain ⟨fs,g1,g2,g3⟩:=qd2 vs ps h;by_cases D:(fs.toArray.all λ x=>x.isSome)=true
 ·refine ⟨tuples' true,.inl rfl,λ M A E Q q=> ?_⟩;rw [kat_kind_eq,z2b,map_eq_pure_bind];refine z4f (z4f (g1 M A E _ (z4e ?_)));rw [if_pos D];refine z4f (z4d ?_);obtain ⟨Z,fr,e⟩:∃ Z fr,fs=Z::fr:=by
   cases e:fs with
   | nil=>rw [e] at g2;simp at g2;omega
   | cons Z fr=>exact ⟨Z,fr,rfl⟩
  have hs:∀ v∈fs.filterMap id,∃ x t,v= .str x t:=λ v O=>by
   obtain ⟨f,hf,e⟩:=List.mem_filterMap.mp O;exact g3 f hf v e
  have a0:fs.toArray.filterMap id=(fs.filterMap id).toArray:=by simp
  rw [a0,oneTypeOnly'_eq,z2b,qd3 _ hs];simp only [map_pure,pure_bind];have h0:∃ v J,fs.filterMap id=v::J:=by
   rw [e] at D ⊢;cases Z with
   | none=>simp at D
   | some v=>exact ⟨v,fr.filterMap id,rfl⟩
  obtain ⟨v,J,ev⟩:=h0;rw [ev];have ha:((List.map (λ _=>Value.type "str") (v::J)).toArray.all λ x=>x==Value.type "str")=true:=by
   simp only [List.all_toArray,z46,z2n];intro _ _;rfl
  have hz:(List.map (λ _=>Value.type "str") (v::J)).toArray[0]? =some (Value.type "str"):=by simp
  rw [hz];simp only [ha,if_true,pure_bind];exact z4e q
 ·by_cases hf:(fs.toArray[0]?.bind id).isSome=true
  ·refine ⟨general',.inr (.inl rfl),λ M A E Q q=> ?_⟩;rw [kat_kind_eq,z2b,map_eq_pure_bind];refine z4f (z4f (g1 M A E _ (z4e ?_)));rw [if_neg D,if_pos hf];exact z4e q
  ·refine ⟨oneType',.inr (.inr rfl),λ M A E Q q=> ?_⟩;rw [kat_kind_eq,z2b,map_eq_pure_bind];refine z4f (z4f (g1 M A E _ (z4e ?_)));rw [if_neg D,if_neg hf,oneTypeOnly'_eq,z2b,map_eq_pure_bind];have a1:∀ v∈vs,Looks M s.heap (typeOf v) (.type "tuple"):=λ v O=>by
    obtain ⟨p,b,o,its,n,rfl,ho,hc,_⟩:∃ p,TupAt s.heap v p:=by
     clear g1 g2 g3 D hf h2 q
     induction h with
     | nil=>cases O
     | cons a r ih=>
      rcases z3n.mp O with e | O
      ·rw [e];exact ⟨_,a⟩
      ·exact ih O
    rw [<- hc];exact (Looks.ld ho).andThen .now
   refine z4f (z4f (z4f (kas_mapM (r:=Value.type "tuple") _ (λ v O Q' hq=>(a1 v O).here hq) (z4e ?_))));obtain ⟨v,J,ev⟩:∃ v J,vs=v::J:=by
    cases e:vs with
    | nil=>rw [e] at h2;simp at h2
    | cons v J=>exact ⟨v,J,rfl⟩
   rw [ev];have ha:((List.map (λ _=>Value.type "tuple") (v::J)).toArray.all λ x=>x==Value.type "tuple")=true:=by
    simp only [List.all_toArray,z46,z2n];intro _ _;rfl
   have hz:(List.map (λ _=>Value.type "tuple") (v::J)).toArray[0]? =some (Value.type "tuple"):=by simp
   rw [hz];simp only [ha,if_true];exact z4e (z4e q)
theorem q4o {α β:Type} {F:α ->β ->Prop} {f:α ->β}:∀ {l:List α} {k:List β},Paired F l k ->(∀ x y,F x y ->f x=y) ->l.map f=k/\∀ x∈l,F x (f x)
 | _,_,.nil,_=>⟨rfl,λ _ z=>nomatch z⟩
 | _,_,.cons a r,h=>by
  obtain ⟨e,m⟩:=q4o r h;have e1:=h _ _ a;refine ⟨by rw [z3l,e,e1],λ x hx=> ?_⟩;rcases z3n.mp hx with rfl | hx
  ·rw [e1];exact a
  ·exact m x hx
theorem qht {vs:List Value} {ps:List (List Str)} (D:Value ->List Str) (h:Paired (λ v p=>TupAt s.heap v p/\D v=p) vs ps) (ha:s.heap.objs.size<=a) {s1:Shared} (hk:∀ b o,s.heap.get? b=some o ->s1.heap.get? b=some o) (Z:A.units < cLine):
  Tim.Keys prog w A s1 a vs (λ v=>Tim.rank qz (vs.map D) (D v)):=by
 intro h2 s' keep;have up:∀ v p,TupAt s.heap v p ->TupAt s'.heap v p:=λ v p x=>x.keep λ b o _ e=>keep b o (z40 (z1r (z3z e) ha)) (hk b o e);obtain ⟨_,hm⟩:=q4o h λ _ _ z=>z.2;obtain ⟨kd,O,J⟩:=qr7 (s:=s') (Paired.mapP h λ v p z=>up v p z.1) h2;refine ⟨kd,λ E Q q=>J _ A E Q q,λ x hx y hy=> ?_⟩;rw [<- Tim.qdm q2a D hx hy];have tx:=up x _ (hm x hx).1;have ty:=up y _ (hm y hy).1;rcases O with rfl | rfl | rfl
 ·exact qp6 tx ty true
 ·exact qmu tx ty Z
 ·exact qx5 tx ty Z
end
theorem q65 (p:List Str):(p.map (Sum.inr:Str ->Key)).map kV=p.map V.str:=by
 rw [z47];rfl
def decT (H:Hp):Value ->List Str
 | .ref a=>match H a with
  | some (.tup xs)=>xs.map λ x=>match x with | .str z=>z | _=>""
  | _=>[]
 | _=>[]
theorem qce {H:Hp} {a:Addr} {p:List Str} (h:H a=some (.tup (p.map V.str))):decT H (.ref a)=p:=by
 simp only [decT,h];rw [z47];exact (z1f λ _ _=>rfl).trans (z4c p)
section
variable {X:Cx}
def qjv (H:Hp) (vs:List Value) (ps:List (List Str)):Prop:=Paired (λ v p=>∃ b,v=Value.ref b/\H b=some (.tup (p.map V.str))) vs ps
theorem qb9 (hu:X.A.units+64 < cLine) (hc:X.calm=true) (K:PySem.W.Frag) (hK:X.K=K:=by rfl):q24 X (.builtin "sorted") (λ xs H Q=>∃ (d:Addr) (kvs:List (List Str×V)),xs=[.ref d]/\H d=some (.dT (kvs.map λ kv=>(kv.1.map Sum.inr,kv.2)))/\
  ∀ l zs,H l=none ->Paired (λ x p=>∃ b,x=V.ref b/\H b=some (.tup (p.map V.str))) zs (Tim.srt qz (kvs.map (·.1))) ->Q (.ref l) (upd H l (.lst zs))):=by
 subst hK;intro pins s σ H xs us Q I r h;obtain ⟨d,kvs,rfl,hd,q⟩:=h;obtain ⟨u,rfl,ru⟩:=q3b r;cases ru
 obtain ⟨hz,a5,es0,rel,o,es,ep,ho,hx,O,a0,a4⟩:=I.hok d _ hd;have Z:es.size=kvs.length:=by
  rw [<- z19,a0,z30,<- rel.length,z30]
 have D:qjv H (es.toList.map (·.key)) (kvs.map (·.1)):=by
  rw [a0,z47];clear hz a0 O Z ho q hd a4;unfold qjv;revert rel;generalize hk:(kvs.map λ kv=>(kv.1.map (Sum.inr:Str ->Key),kv.2))=ks;intro rel
  induction rel generalizing kvs with
  | nil=>
   have:kvs=[]:=by simpa using hk
   subst this;exact .nil
  | cons a rr ih=>
   cases kvs with
   | nil=>simp at hk
   | cons kv kvs=>
    rw [z3l,z2v] at hk;obtain ⟨rfl,hk⟩:=hk;refine .cons ⟨_,zf,?_⟩ (ih kvs hk);obtain ⟨_,a2,_⟩:=a;rw [q65] at a2;exact a2
 have a1:∀ v p,(∃ b,v=Value.ref b/\H b=some (.tup (p.map V.str))) ->TupAt s.heap v p:=λ v p ⟨b,e,hb⟩=>by
  obtain ⟨_,its,rv,o,e1,c,n,dd⟩:=I.hok b _ hb;exact ⟨b,o,its.toArray,n,e,e1,c,dd,by rw [z1g];exact rv⟩
 have J:Paired (λ v p=>TupAt s.heap v p/\decT H v=p) (es.toList.map (·.key)) (kvs.map (·.1)):=Paired.mapP D λ v p z=>⟨a1 v p z,by
  obtain ⟨b,rfl,hb⟩:=z;exact qce hb⟩
 have ev:(es.toList.map (·.key)).map (decT H)=kvs.map (·.1):=(q4o J λ _ _ z=>z.2).1;have mem:∀ v∈es.toList.map (·.key),∃ b,v=Value.ref b/\H b=some (.tup ((decT H v).map V.str)):=(q4o (f:=decT H) D λ v p ⟨b,e,hb⟩=>by
  rw [e];exact qce hb).2
 have hl:(es.toList.map (·.key)).length<=sizeLine:=by
  rw [z30,z19,Z];rw [z30] at hz;exact hz
 refine q4n (vs:=es.toList.map (·.key)) (rk:=λ v=>Tim.rank qz ((es.toList.map (·.key)).map (decT H)) (decT H v)) hl
  (λ A' E' R hh k=>q8x (hh.trans (I.ok.hd hc)) a5 ⟨o,ho,hx,O⟩ (by rw [z30,z19] at hl;exact hl) k)
  (λ A' s' a hu' ha keep=>qht (s:=s) (decT H) J ha keep (by omega)) λ out l n h' tk so keep a3 hg=> ?_
 have ed:=Tim.q36 q2a (decT H) so;rw [ev] at ed;have mo:∀ v∈out.toList,∃ b,v=Value.ref b/\H b=some (.tup ((decT H v).map V.str)):=λ v hv=>mem v (so.perm.mem_iff.mp hv);obtain ⟨zs,rv,hp⟩:∃ zs:List V,Vals zs out.toList/\Paired (λ x p=>∃ b,x=V.ref b/\H b=some (.tup (p.map V.str))) zs (out.toList.map (decT H)):=by
  revert mo;generalize out.toList=os;intro mo
  induction os with
  | nil=>exact ⟨[],.nil,.nil⟩
  | cons v os ih=>
   obtain ⟨zs,r1,r2⟩:=ih λ u hu=>mo u (z16 _ hu);obtain ⟨b,e,hb⟩:=mo v (z1p ..);exact ⟨.ref b::zs,.cons e r1,.cons ⟨b,zf,hb⟩ r2⟩
 rw [ed] at hp;refine I.q37 rv ?_ keep a3 hg (q l zs (I.hok.fresh a3) hp);rw [rv.length,so.perm.length_eq];exact hl
end
end L2
namespace L2
open PySem PySem.Spec PyProof.Rows
section
variable {X:Cx}
end
section
variable {X:Cx} {e:Expr} {lo hi:Option Expr} {se:Expr} {te:TE} {tl th ts:TO} {p2 pos:Pos}
end
theorem qnt {k:Int} {n:Nat} (h1:0<=k) (h2:k < 2^n):Builtin.Int.intBits k<=n+1:=by
  unfold Builtin.Int.intBits;split
  · exact z4b _
  · have hn:k.natAbs < 2^n:=by
      have:((k.natAbs:Nat):Int) < ((2^n:Nat):Int):=by
        rw [Int.natAbs_of_nonneg h1]
        push_cast
        exact h2
      exact Int.ofNat_lt.mp this
    have:k.natAbs.log2<=n:=by
      rcases Nat.eq_zero_or_pos k.natAbs with h0 | hp
      · rw [h0]
        show 0<=n;exact z4b _
      · exact z3y ((Nat.log2_lt (z42 hp)).mpr hn)
    omega
def qvt (i j:Int):Prop:=(0<=i/\i < 2^600)/\(0<=j/\j < 2^600)
section
variable {X:Cx}
theorem qg2:OpR X (binaryOp .Mult) (rI qvt λ i j=> .int (i*j)):=opI λ _ _ _ _ _ _ _ D q=>mul_int q (IntMulOk.of_bits (z41 (qnt D.1.1 D.1.2) (by decide)) (z41 (qnt D.2.1 D.2.2) (by decide)))
def q11b (K:PySem.W.Frag):R2:=λ x y H Q=>∃ a b xs ys,x= .ref a/\y= .ref b/\SqT K H a xs/\SqT K H b ys/\xs.length+ys.length<=sizeLine/\∀ p H',Same H H' ->SqT K H' p (xs++ys) ->Q (.ref p) H'
theorem qnu (K:PySem.W.Frag) (hK:X.K=K:=by rfl):OpR X (binaryOp .Add) (q11b K):=by
 subst hK;intro pins s σ H x y v u Q I rx ry h;obtain ⟨a,b,xs,ys,rfl,rfl,ha,hb,hz,q⟩:=h;by_cases hx:xs=[]
 ·subst hx;cases rx
  cases ry
  obtain ⟨its,r1,p1,_⟩:=I.tuple ha;obtain ⟨Z,r2,p2,_⟩:=I.tuple hb;have e0:its=[]:=r1.qcb.mpr rfl;subst e0;obtain ⟨⟨cls,dd,data,sl⟩,ho,hc,n,hd⟩:=id p1;obtain ⟨⟨a3,a1,a0,a2⟩,O,D,n2,J⟩:=id p2;simp only at hc hd D J;subst hc hd D J;exact concat_meets ⟨_,ho,zf⟩ ⟨_,O,zf⟩ noFill_tuple_add seq_tuple_add PySem.F.slot_tuple_add PySem.F.entry_tuple_add (PySem.F.args_tuple_add_2 _ _)
   (tuple_addW0 a b #[] Z.toArray n n2 dd a1 sl a2 rfl) ⟨ho,O,⟨.ref b,H,I,rfl,q b H (Same.refl _) hb⟩⟩
 ·refine qwn pins s σ H _ _ v u Q I rx ry ⟨a,b,xs,ys,zf,zf,ha,hb,hx,hz,λ e=> ?_,λ _ p hp=>q p _ (qd hp) (SqT.of qb)⟩;subst e;exact q a H (Same.refl _) (by rw [z31];exact ha)
end
theorem qr8 (bs:List Bool):(List.range bs.length).any (λ i=>(bs[i]?).getD true)=bs.any id:=by
 rw [z2z,z2p,z2p]
 constructor
 ·rintro ⟨i,hi,h⟩;have D:=z3d.mp hi;rw [z0d D] at h;exact ⟨_,z2k D,h⟩
 ·rintro ⟨b,hb,h⟩;obtain ⟨i,hi,e⟩:=z12.mp hb;refine ⟨i,z3d.mpr hi,?_⟩;rw [z0d hi,e];exact h
section
variable {X:Cx}
theorem qr9 (hc:X.calm=true) (K:PySem.W.Frag) (hK:X.K=K:=by rfl):q24 X (.builtin "any") (λ xs H Q=>∃ (p:Addr) (bs:List Bool),xs=[.ref p]/\SqL K H p (bs.map V.bl)/\Q (.bl (bs.any id)) H):=by
 subst hK;intro pins s σ H xs us Q I r h;obtain ⟨p,bs,rfl,hp,q⟩:=h;obtain ⟨u,rfl,ru⟩:=q3b r;cases ru
 obtain ⟨its,rv,pl,hz⟩:=I.list hp;have hl:its.toArray.size=bs.length:=by
  have:=rv.length;rw [z30] at this;rw [z23];exact this.symm
 have hh:X.A.in1.handled=none:=I.ok.hd hc;have J:p≠s.heap.objs.size:=λ e=>by
  obtain ⟨o,n,e1,_⟩:=pl;exact absurd (z3z e1) (by rw [e];exact z3p _)
 refine call_any_walk (z25 pl.isList ?_);refine ⟨s.heap.objs.size,_,_,_,_,_,λ i=>(bs[i]?).getD true,zf,Walks.list hh _ p J its.toArray,⟨⟨_,z1c _ rfl,zf,zf⟩,pl.isList.at λ o e=>z0o _ e⟩,?_,λ h' tk kk=> ?_⟩
 ·intro i v s' Q' E' hv hq;have O:its[i]? =some v:=by simpa using hv
  obtain ⟨b,e,rfl⟩:=qnq rv O;have D:Q' ((bs[i]?).getD true) s':=hq;rw [e] at D;exact z24 D
 ·rw [hl,qr8];exact ⟨.bl _,H,I.kept λ b o e=>kk b o (by simp;exact z40 (z3z e)) (z0o _ e),rfl,q⟩
theorem qp7 {P:Program} {w:World} {es:List DictEntry} {vs:List (Key×Value)} (p:Pairs (q16 P w) es vs):∀ {kvs:List (Key×V)} {ws:List Str},KV kvs vs ->kvs.map (·.1)=ws.map Sum.inr ->Vals (ws.map V.str) (es.map (·.key)):=by
 induction p with
 | nil=>
  intro kvs ws r h;cases r
  have:ws=[]:=by simpa using h.symm
  subst this;exact .nil
 | cons a b c ih=>
  intro kvs ws r h;cases r with
  | cons d f=>
   cases ws with
   | nil=>simp at h
   | cons x ws=>
    rw [z3l,z3l,z2v] at h;rw [<- d.1,h.1] at a;refine .cons ?_ (ih f h.2);rcases q1q (show q8m (Sum.inr x) _=true from a) with ⟨i,t,e1,_⟩ | ⟨x',t,e1,e2⟩
    ·cases e1
    ·cases e1
     exact ⟨t,e2⟩
theorem qil (hc:X.calm=true) (K:PySem.W.Frag) (hK:X.K=K:=by rfl):q24 X (.builtin "sorted") (λ xs H Q=>∃ (d:Addr) (kvs:List (Key×V)) (ws:List Str),xs=[.ref d]/\H d=some (.dK kvs)/\kvs.map (·.1)=ws.map Sum.inr/\
  ∀ l,H l=none ->Q (.ref l) (upd H l (.lst ((Tim.srt ql ws).map V.str)))):=by
 subst hK;intro pins s σ H xs us Q I r h;obtain ⟨d,kvs,ws,rfl,hd,hk,q⟩:=h;obtain ⟨u,rfl,ru⟩:=q3b r;cases ru
 obtain ⟨hz,a0,vs,rel,o,es,ep,ho,hx,D,_,Z,hnd⟩:=I.hok d _ hd;have rv:Vals (ws.map V.str) (es.toList.map (·.key)):=qp7 Z rel hk;have wl:ws.length=kvs.length:=by
  have:=congrArg List.length hk;rw [z30,z30] at this;exact this.symm
 have hl:(es.toList.map (·.key)).length<=sizeLine:=by
  rw [<- rv.length,z30,wl];exact hz
 obtain ⟨e1,e2,_⟩:=q64 rv;refine q4n (vs:=es.toList.map (·.key)) (rk:=λ v=>Tim.rank ql ((es.toList.map (·.key)).map sOf) (sOf v)) hl (λ A' E' R hh k=>q8x (hh.trans (I.ok.hd hc)) a0 ⟨o,ho,hx,D⟩ (by rw [z30,z19] at hl;exact hl) k)
  (λ A' s' a _ _ _=>qb8 rv) λ out l n h' tk so keep J hg=> ?_
 have a1:∀ u∈out.toList,∃ x t,u= .str x t:=λ u hu=>e2 u (so.perm.mem_iff.mp hu);have ed:=Tim.q36 q1j sOf so;rw [e1] at ed;have O:=q47 a1;rw [ed] at O;exact I.q37 O (by rw [z30,(Tim.qo ql ws).length_eq,wl];exact hz) keep J hg (q l (I.hok.fresh J))
end
section
variable {prog:Program} {w:World} {A:Around} {R:Result ->Shared ->Prop} {I:Addr} {fp wr:List Addr} {n:Nat} {P:Nat ->Value ->Prop} {St:Nat ->Heap ->Prop}
end
section
variable {X:Cx} {e d:Expr} {t tk:TA} {p pos kpos:Pos}
end
theorem qhu:entryFor table "dict.update.loop"=some Builtin.«dict.update.loop»:=entryFor_of_tree (by kernel_rfl)
theorem q8s:plainId "dict.update.loop"=true:=by decide+kernel
theorem qg3:typeLookup (.type "list") "keys"=pure none:=by rw [typeLookup_type,builtinLookup_eq_fast];kernel_rfl
section
variable {prog:Program} {w:World} {A:Around} {E:Value ->Shared ->Prop} {s:Shared}
theorem qx6 {a:Addr} {o:Obj} {xs:Array Value} {k:Nat} {Q:Option Value ->Shared ->Prop} (hx:s.heap.get? a=some o) (hc:o.cls= .type "list") (D:o.data= .seq xs k) (hd:o.dict=none) (hA:A.handled=none)
  (h:∀ h' tk,(∀ b o,s.heap.get? b=some o ->h'.get? b=some o) ->Q none {s with heap:=h',toks:=tk}):wpAny (model prog w) A (getAttr? (.ref a) "keys") Q E s:=by
 obtain ⟨c,dct,dat,sl⟩:=o;simp only at hc D hd;subst hc D hd;obtain ⟨hp,g,d,tk,os⟩:=s;have Z:∀ J,(⟨hp,g,d,J,os⟩:Shared).TypeIs (.ref a) "list":=λ _=>⟨_,hx,rfl⟩;have f1:=sub_AttributeError;have f3:=PySem.F.slot_list_getattribute.lookup;have f4:=PySem.F.slot_list_getattribute.bind (.ref a);have f5:=am_list_getattr_none;unfold getAttr? getAttrBy? getAttrBy
 repeat (any_goals (first | assumption | exact Z _ | ((with_reducible show wpAny _ _ (call (Value.builtin "list.__getattribute__") _ _) _ _ _);refine call_meets PySem.F.slot_list_getattribute (Z _) am_entry_list_getattribute (PySem.F.args_list_getattribute_2 _ _) (meets_getattribute_miss_list a xs k sl "keys" _ qg3 (by decide+kernel) (by show 4+100<=sizeLine;decide)) ⟨hx,hA,λ h' J e O=> ?_⟩) | wp_step))
 obtain ⟨t',u',he⟩:=O.there;show wpAny _ _ (getattributeRaised _ _ _ _ _ _ _) _ _ _;unfold getattributeRaised
 repeat (any_goals (first | assumption | wp_step))
 exact h h' J O.of.keeps
end
def qer (f:Nat ->Str×Value):Nat ->Nat ->List (Key×Value) ->List (Key×Value)
 | 0,_,kvs=>kvs
 | k+1,i,kvs=>qer f k (i+1) (stored kvs (Sum.inr (f i).1) (f i).2)
theorem qp8 {kvs:List (Key×Value)} {k:Key} {v:Value}:(stored kvs k v).length<=kvs.length+1:=by
 unfold stored;split
 ·rw [z30];omega
 ·rw [z1o];exact z48 _
section
variable {prog:Program} {w:World} {A:Around} {R:Result ->Shared ->Prop} {I:Addr} {fp wr:List Addr} {n:Nat} {P:Nat ->Value ->Prop} {St:Nat ->Heap ->Prop}
theorem qkx {h0:Heap} (W:Walks prog w A.in1 I fp wr n P St) (d:Addr) (J:d∉fp) (a1:h0.get? d=none) (a0:∀ b∈wr,h0.get? b=none) (hn:n<=sizeLine) (f:Nat ->Str×Value) (hf:∀ i v,P i v ->∃ q t,v= .ref q/\IsTup h0 q #[.str (f i).1 t,(f i).2]):
  ∀ (k i:Nat) (s:Shared) (kvs:List (Key×Value)) (j:Int) (ti:Tok),i+k=n ->St i s.heap ->s.heap.DictOf (q16 prog w) d kvs ->kvs.length<=i ->(∀ b o,h0.get? b=some o ->s.heap.get? b=some o) ->
  (∀ h' tk,h'.DictOf (q16 prog w) d (qer f k i kvs) ->(∀ b o,h0.get? b=some o ->h'.get? b=some o) ->R (.ok (.ret .none)) {s with heap:=h',toks:=tk}) ->
  codeAny (model prog w) A (.builtin "dict.update.loop" ⟨[.ref d,.ref I,.int j ti,.none],[]⟩) R s
 | 0,i,s,kvs,j,ti,hk,Z,hm,hl,kp,hR=>by
  have hi:i=n:=by omega
  subst hi;have O:d∉wr:=λ h=>J (W.sub _ h);refine z39 qhu ?_;rw [Around.under_plainId q8s _];refine z4f (m:=pyNext (.ref I)) (W.done s _ _ Z λ h' tk D=> ?_);show wpAny _ _ (Builtin.Dict.addKeywords d [] >>=λ _=>ret .none) _ _ _;obtain ⟨o,es,ep,ho,r⟩:=hm;exact z4f (z4e (z4e (hR h' tk ⟨o,es,ep,D d o O ho,r⟩ λ b o e=>D b o (λ hb=>by rw [a0 b hb] at e;cases e) (kp b o e))))
 | k+1,i,s,kvs,j,ti,hk,Z,hm,hl,kp,hR=>by
  have a7:i < n:=by omega
  have O:d∉wr:=λ h=>J (W.sub _ h);refine z39 qhu ?_;rw [Around.under_plainId q8s _];refine z4f (m:=pyNext (.ref I)) (W.item i s _ _ a7 Z λ v h' tk hP a4 D=> ?_);obtain ⟨q,t,rfl,oq,hq,hc,nq,a6⟩:=hf i v hP;have a5:∀ b o,h0.get? b=some o ->h'.get? b=some o:=λ b o e=>D b o (λ hb=>by rw [a0 b hb] at e;cases e) (kp b o e);have a8:h'.DictOf (q16 prog w) d kvs:=by
   obtain ⟨o,es,ep,ho,r⟩:=hm;exact ⟨o,es,ep,D d o O ho,r⟩
  have a2:=a5 q _ hq;refine z4f (z3o (z4f (wpAny_tryCatch ?_)));unfold Builtin.Dict.pairItems;refine z4f (wpAny_typeOf (T:="tuple") ⟨oq,a2,hc⟩ ?_);rw [if_pos (by decide)];refine z4f (wpAny_seqItems a2 a6 (z4e ?_));show wpAny _ _ (holding [.str (f i).1 t,(f i).2] (dictSet d (.str (f i).1 t) (f i).2)) _ _ _;refine z3o (wpAny_dictSet_pairs (knd:=q16 prog w) (k:=Sum.inr (f i).1) (qcv _ _ _ _) a8 (λ h2 a9 a3=> ?_) (by omega));have b3:∀ b o,h0.get? b=some o ->h2.get? b=some o:=λ b o e=>(a3.2 b (λ z=>by rw [z,a1] at e;cases e)).trans (a5 b o e);refine z4e ⟨plainId_quiet q8s _,qkx W d J a1 a0 hn f hf k (i+1) _ _ (j+1) _ (by omega) (W.frame _ _ _ a4 λ b hb o e=>(a3.2 b (λ z=>J (z ▸ hb))).trans e) a9 (z41 qp8 (z2q hl)) b3 λ h3 b5 b2 b4=> ?_⟩;exact hR h3 b5 b2 b4
end
def q44 (ps:List (Str×V)) (m:List (Key×V)):List (Key×V):=ps.foldl (λ m kv=>putK m (Sum.inr kv.1) kv.2) m
theorem qba:∀ (ps:List (Str×V)) (m:List (Key×V)),(q44 ps m).length<=m.length+ps.length
 | [],m=>z48 _
 | p::ps,m=>by
  have h:(putK m (Sum.inr p.1) p.2).length<=m.length+1:=by
   unfold putK;split
   ·rw [z30];omega
   ·rw [z1o];exact z48 _
  have:=qba ps (putK m (Sum.inr p.1) p.2);show (q44 ps (putK m (Sum.inr p.1) p.2)).length<=m.length+(ps.length+1);omega
def PRel (p:Str×V) (q:Str×Value):Prop:=p.1=q.1/\RelV p.2 q.2
theorem qnv:∀ {ps:List (Str×V)} {us:List (Str×Value)} (_:Paired PRel ps us) (i:Nat) (hi:i < ps.length),PRel ps[i] (us.getD i ("",.none))
 | _,_,.nil,i,hi=>absurd hi (Nat.not_lt_zero _)
 | _,_,.cons a b,0,hi=>a
 | _,_,.cons a b,i+1,hi=>qnv b i (Nat.lt_of_succ_lt_succ hi)
theorem qes {ps:List (Str×V)} {us:List (Str×Value)} (r:Paired PRel ps us):∀ (k i:Nat) (m:List (Key×V)) (vs:List (Key×Value)),i+k=us.length ->KV m vs ->KV (q44 (ps.drop i) m) (qer (λ i=>us.getD i ("",.none)) k i vs)
 | 0,i,m,vs,h,D=>by
  have hl:=Paired.length r;rw [List.drop_eq_nil_of_le (by omega)];exact D
 | k+1,i,m,vs,h,D=>by
  have hl:=Paired.length r;have hi:i < ps.length:=by omega
  rw [z09 hi];show KV (q44 (ps.drop (i+1)) (putK m (Sum.inr ps[i].1) ps[i].2)) (qer _ k (i+1) (stored vs (Sum.inr (us.getD i ("",.none)).1) (us.getD i ("",.none)).2));have J:=qnv r i hi;rw [<- J.1];exact qes r k (i+1) _ _ (by omega) (D.put _ J.2)
section
variable {X:Cx}
def qp9 (K:PySem.W.Frag) (H:Hp) (y:V) (kv:Str×V):Prop:=∃ q,y=V.ref q/\SqT K H q [.str kv.1,kv.2]
theorem qra {pins:List (Addr×Obj)} {σ:St} {H:Hp} {s:Shared} (I:Inv X pins σ H s) {ys:List V} {ps:List (Str×V)} (h:Paired (qp9 X.K H) ys ps):∀ {its:List Value},Vals ys its ->∃ us:List (Str×Value),Paired PRel ps us/\∀ i v,its[i]? =some v ->∃ q t,v= .ref q/\IsTup s.heap q #[.str (us.getD i ("",.none)).1 t,(us.getD i ("",.none)).2]:=by
 induction h with
 | nil=>
  intro its r;cases r
  exact ⟨[],.nil,λ i v e=>by simp at e⟩
 | cons a b ih=>
  intro its r;cases r with
  | cons r1 rr=>
   obtain ⟨us,h1,h2⟩:=ih rr;obtain ⟨q,rfl,hq⟩:=a;cases r1
   obtain ⟨it2,rv,tp,_⟩:=I.tuple hq;cases rv with
   | cons c1 c2=>
    cases c2 with
    | cons c3 c4=>
     cases c4
     obtain ⟨t,rfl⟩:=c1;refine ⟨(_,_)::us,.cons ⟨zf,c3⟩ h1,λ i v e=> ?_⟩;cases i with
     | zero=>
      have:v=Value.ref q:=by simpa using e.symm
      subst this;exact ⟨q,t,zf,tp⟩
     | succ i=>exact h2 i v (by simpa using e)
theorem qpa (hc:X.calm=true) (K:PySem.W.Frag) (hK:X.K=K:=by rfl):q24 X (.type "dict") (λ xs H Q=>∃ (p:Addr) (ys:List V) (ps:List (Str×V)),xs=[.ref p]/\SqL K H p ys/\Paired (qp9 K H) ys ps/\∀ d,H d=none ->Q (.ref d) (upd H d (.dK (q44 ps [])))):=by
 subst hK;intro pins s σ H xs vs Q I r h;obtain ⟨p,ys,ps,rfl,hp,hy,q⟩:=h;obtain ⟨u,rfl,ru⟩:=q3b r;cases ru
 obtain ⟨its,rv,⟨ol,nl,a4,O,a2,J⟩,hz⟩:=I.list hp;obtain ⟨us,a5,b3⟩:=qra I hy rv;have a6:us.length=its.length:=by rw [<- Paired.length a5,<- Paired.length hy,rv.length]
 have a3:p < s.heap.objs.size:=z3z a4;have hh:X.A.in1.in1.handled=none:=I.ok.hd hc;refine callType_codes (Q₁:=λ ob s1=>ob= .ref s.heap.objs.size/\s1={s with heap:=s.heap.push {cls:= .type "dict",data:= .dict #[]}}) PySem.F.kt_called_dict (PySem.F.kt_typeCall_dict_1 _) PySem.F.entry_dict_init (kt_code_dict_new _ ⟨rfl,rfl⟩) ?_;rintro ob s1 ⟨rfl,rfl⟩;have d0:(s.heap.push {cls:= .type "dict",data:= .dict #[]}).DictOf (q16 X.prog X.w) s.heap.objs.size []:=Heap.DictOf.new s.heap;have l0:(s.heap.push {cls:= .type "dict",data:= .dict #[]}).get? p=some ol:=z0o _ a4;refine ⟨d0.typeIs,PySem.F.args_dict_init_2 _ _,?_⟩;unfold Builtin.«dict.__init__»;refine z4f ?_;unfold Builtin.Dict.selfAndRest;refine z4f (wpAny_notOrdered_dict d0.typeIs (z4e ?_));show wpAny _ _ (Builtin.Dict.updateFrom "dict.__init__" s.heap.objs.size (.ref p) [] .none) _ _ _;unfold Builtin.Dict.updateFrom;refine z4f (wpAny_typeOf (T:="list") ⟨ol,l0,O⟩ ?_);rw [if_pos (by decide)];refine z4f (qx6 l0 O J a2 hh λ h1 tk1 Z=> ?_);rw [if_pos (by rfl)];refine z4f (z4d ?_);have a7:PlainL h1 p its.toArray:=⟨ol,nl,Z _ _ l0,O,a2,J⟩;obtain ⟨od,a8,a9,b2,rd⟩:=d0;have a1:=Z _ _ b2;have a0:s.heap.objs.size < h1.objs.size:=z3z a1;refine z4f (z25 a7.isList ?_);have D:∀ b,s.heap.objs.size<=b ->s.heap.get? b=none:=λ b hb=>by
  cases e:s.heap.get? b with
  | none=>rfl
  | some o=>exact absurd (z3z e) (Nat.not_lt_of_le hb)
 have hsz:us.length=its.toArray.size:=by rw [z23];exact a6
 have W0:Walks X.prog X.w X.A.in1.in1 h1.objs.size [h1.objs.size,p] [h1.objs.size] us.length (λ i v=>its.toArray[i]? =some v) (λ i h=>h.IsListIter h1.objs.size p i/\h.IsList p its.toArray):=by
  rw [hsz];exact Walks.list hh h1.objs.size p (z40 (Nat.lt_trans a3 a0)) its.toArray
 refine z4e ⟨plainId_quiet q8s _,qkx (h0:=s.heap) (n:=us.length) (A:=X.A.in1) W0 s.heap.objs.size ?_ (D _ (z48 _)) ?_ (by rw [a6,<- rv.length];exact hz) (λ i=>us.getD i ("",.none)) ?_ us.length 0 _ [] 0 _ (z3x _) ⟨⟨_,z1c _ rfl,rfl,rfl⟩,a7.isList.at λ o e=>z0o _ e⟩ ⟨od,a8,a9,z0o _ a1,rd⟩ (z48 _) (λ b o e=>z0o _ (Z _ _ (z0o _ e))) λ h' tk hm keep=> ?_⟩
 ·intro hb;simp only [z3n,z2r,or_false] at hb;rcases hb with e | e
  ·exact absurd e (z40 a0)
  ·exact absurd e.symm (z40 a3)
 ·intro b hb;rw [z1m.mp hb];exact D _ (z3y a0)
 ·intro i v hv;exact b3 i v (by simpa using hv)
 ·have rel:=qes a5 us.length 0 [] [] (z3x _) .nil;rw [List.drop_zero] at rel;refine ⟨zf,.ref s.heap.objs.size,_,I.laid (a:=s.heap.objs.size) (o:= .dK (q44 ps [])) (t':=tk) keep (z48 _) ⟨?_,beq_eq_false_iff_ne.mpr (Ne.symm (z40 I.big)),_,rel,hm⟩,zf,q _ (I.hok.fresh (z48 _))⟩;have h1:=qba ps [];rw [z34,z3x] at h1;rw [<- Paired.length hy] at h1;exact z41 h1 hz
end
def Itd (a:Addr) (o:Obj) (kvs:List (Key×V)):It:=
 ⟨λ i H=>H a=some (.frz o (.dK kvs))/\i < kvs.length,λ i H x H'=>H'=H/\∃ kv,kvs[i]? =some kv/\x=kV kv.1,λ i H=>H a=some (.frz o (.dK kvs))/\kvs.length<=i⟩
theorem qto {P:Program} {w:World} {es:List DictEntry} {vs:List (Key×Value)} (p:Pairs (q16 P w) es vs):∀ {kvs:List (Key×V)} {i:Nat} {D:Key×V},KV kvs vs ->kvs[i]? =some D ->∃ e,es[i]? =some e/\RelV (kV D.1) e.key:=by
 induction p with
 | nil=>
  intro kvs i D r h;cases r
  simp at h
 | cons a b c ih=>
  intro kvs i D r h;cases r with
  | cons d f=>
   cases i with
   | zero=>
    simp at h
    subst h;refine ⟨_,zf,?_⟩;rw [<- d.1] at a;rcases q1q a with ⟨i,t,e1,e2⟩ | ⟨x',t,e1,e2⟩
    ·rw [e1];exact ⟨t,e2⟩
    ·rw [e1];exact ⟨t,e2⟩
   | succ i=>simpa using ih f (by simpa using h)
section
variable {X:Cx} {tg:Expr}
theorem Inv.freeze {pins:List (Addr×Obj)} {σ:St} {H:Hp} {s:Shared} {a:Addr} {o:Obj} {kvs:List (Key×V)} (I:Inv X pins σ H s) (e:H a=some (.dK kvs)) (ho:s.heap.get? a=some o):Inv X pins σ (upd H a (.frz o (.dK kvs))) s:=by
 have u:Un X.fs [] H (upd H a (.frz o (.dK kvs))) s.heap s.heap:=by
  refine ⟨λ b o q _ _ _=>q,λ b o q _ _ _=>⟨o.slots,q⟩,λ b D q n _=> ?_,λ b D q _=>⟨D,q⟩,λ b xs q=> ?_,λ b D u q=> ?_,λ b ps q=>⟨#[],?_⟩⟩
  ·rw [qh (λ z=>by rw [z,e] at n;cases n)];exact n
  ·rw [qh (λ z=>by rw [z,e] at q;cases q)];exact q
  ·rw [qh (λ z=>by rw [z,e] at q;cases q)];exact q
  ·rw [qh (λ z=>by rw [z,e] at q;cases q),q];simp
 have hok:HOk X.prog X.w (upd H a (.frz o (.dK kvs))) s.heap:=λ b D q=>by
  by_cases z:b=a
  ·subst z;rw [qb] at q;cases q
   have:=I.hok b _ e;exact ⟨ho,this⟩
  ·rw [qh z] at q;have hb:=I.hok b D q;exact hb.stay (λ c u _ g=>g) (λ c g=>by rw [qh (λ z=>by rw [z,e] at g;cases g)];exact g) λ c xs g=>by rw [qh (λ z=>by rw [z,e] at g;cases g)];exact g
 have:=I.un (t':=s.toks) u hok;exact this
theorem qrb {P:Program} {w:World} {K:PySem.W.Frag} (a it:Addr) (o:Obj) (es:Array DictEntry) (ep:Nat) (kvs:List (Key×V)) (ho:o.ExactDict) (D:o.data= .dict es ep):Turn P w K tg (Itd a o kvs) [it] it (λ i h=>h.IsKeyIter it a i es.size ep) where
 mem:=by simp
 obj:=λ i h st b hb=>by
  have e:b=it:=by simpa using hb
  subst e;obtain ⟨o,e,c,d⟩:=st;exact ⟨o,e,λ v z=>by rw [d] at z;cases z⟩
 keep:=λ i h h' st k=>by
  obtain ⟨o,e,r⟩:=st;exact ⟨o,k it (by simp) o e,r⟩
 item:=by
  intro X hP hw hK hc i pins s σ H E I hf st hg;subst hP hw hK;obtain ⟨ha,hi⟩:=hg;obtain ⟨Z,hz,a5,vs,rel,o2,a3,a2,O,a6,J,_,a0,a4⟩:=I.hok a _ ha;rw [Z] at O;cases O
  rw [D] at J;cases J
  obtain ⟨e,he,ru⟩:=qto a0 rel (z0d hi);obtain ⟨f0,f1,f2,f3,f4,f5⟩:=hf it (by simp);refine qdl st ⟨o,Z,ho,D⟩ (e:=e) (by simpa using he) λ h' a1 sb=> ?_;have I1:Inv X pins σ H {s with heap:=h'}:=I.turned (t':=s.toks) (λ b o hb e=>(sb.2 b hb).trans e) f0 f1 f3 f4 f5;obtain ⟨oi,ei,ci,di⟩:=id a1;exact ⟨_,rfl,qc9 (s:={s with heap:=h'}) ei ci di (by decide) ⟨kV kvs[i].1,H,I1,ru,⟨rfl,_,z0d hi,rfl⟩,a1,λ b hb=>(hf b hb).1⟩⟩
 done:=by
  intro X hP hw hK hc i pins s σ H E I hf st hg;subst hP hw hK;obtain ⟨ha,hi⟩:=hg;obtain ⟨Z,hz,a5,vs,rel,o2,a3,a2,O,a6,J,_,a0,a4⟩:=I.hok a _ ha;rw [Z] at O;cases O
  rw [D] at J;cases J
  have hl:es.size=kvs.length:=by
   have h1:=a0.length;have h2:kvs.length=vs.length:=Paired.length rel;rw [z19] at h1;omega
  obtain ⟨f0,f1,f2,f3,f4,f5⟩:=hf it (by simp);exact qg1 (I.ok.hd hc) st ⟨o,Z,ho,D⟩ (by omega) λ h' eb=>⟨zf,I.turned (t':=s.toks) (λ b o hb e=>eb b o hb e) f0 f1 f3 f4 f5⟩
 self:=by
  intro A i s Q E st h;exact wpAny_pyIter_keyiter st h
def iDct (tl:TE):TI:=λ σ H R=>tl σ H λ x H1=>∃ a kvs,x= .ref a/\((H1 a=some (.dK kvs)/\∀ o,R (Itd a o kvs) (upd H1 a (.frz o (.dK kvs))))\/ ∃ o,H1 a=some (.frz o (.dK kvs))/\R (Itd a o kvs) H1)
theorem qky {l:Expr} {tl:TE} (hl:PE X l tl):PI X tg l (iDct tl):=by
 intro pins s σ H R I h;refine thn (hl pins s σ H _ I h) λ v s1 a1=> ?_;obtain ⟨x,H1,I1,r1,q1⟩:=a1;obtain ⟨a,kvs,e,q⟩:=q1;subst e;cases r1
 obtain ⟨H2,o,I2,ha,q2⟩:∃ H2 o,Inv X pins σ H2 s1/\H2 a=some (.frz o (.dK kvs))/\R (Itd a o kvs) H2:=by
  rcases q with ⟨e,q⟩ | ⟨o,e,q⟩
  ·obtain ⟨hz,J,vs,rel,o,es,ep,ho,r⟩:=I1.hok a _ e;exact ⟨_,o,I1.freeze e ho,qb,q o⟩
  ·exact ⟨H1,o,I1,e,q⟩
 obtain ⟨Z,hz,J,vs,rel,o2,es,ep,O,a0,D,_,hp2,hnd⟩:=I2.hok a _ ha;rw [Z] at O;cases O
 refine qdk J ⟨o,Z,a0,D⟩ ?_;refine ⟨s1.heap.objs.size,[s1.heap.objs.size],_,_,H2,zf,I2.kept (t':=s1.toks) λ b o e=>z0o _ e,qrb a _ o es ep kvs a0 D,⟨_,z1c _ rfl,zf,zf⟩,λ b hb=> ?_,q2⟩;have e:b=s1.heap.objs.size:=by simpa using hb
 subst e;exact I2.fpOk (z48 _) (I2.hok.fresh (z48 _))
end
section
variable {X:Cx} {e:Expr} {lo hi:Option Expr} {se:Expr} {te:TE} {tl th ts:TO} {p2 pos:Pos}
end
section
variable {prog:Program} {w:World} {A:Around} {E:Value ->Shared ->Prop} {s:Shared}
theorem qx7 {nm:String} {a b:Addr} {oa ob:Obj} {D eb:Array DictEntry} {pa pb:Nat} {Q:Bool ->Shared ->Prop} (na:(a==sysModules)=false) (nb:(b==sysModules)=false) (O:s.heap.get? a=some oa) (J:oa.data= .dict D pa)
  (a0:s.heap.get? b=some ob) (Z:ob.data= .dict eb pb) (a3:KeysOf (q16 prog w) eb) (hsz:D.size=eb.size)
  (a2:∀ (i:Nat) (e:DictEntry),D[i]? =some e ->∃ k j f,(q16 prog w).is k e.key=true/\e.hash=(q16 prog w).hash k/\(eb.findIdx? λ g=>(q16 prog w).is k g.key)=some j/\eb[j]? =some f/\SeqAt.EqAt A s e.val f.val true)
  (q:Q true s):wpAny (model prog w) A (Builtin.Dict.samePairs nm a b) Q E s:=by
 unfold Builtin.Dict.samePairs Builtin.Dict.showsAll;rw [if_neg (by rw [na];exact z1l),if_neg (by rw [nb];exact z1l)];refine z4f (z4e ?_);refine z4f (z4e ?_);refine z4f (z2a O J ?_);refine z4f (z2a a0 Z ?_);rw [if_neg (by simp [hsz])];refine z4f (z38 O J ?_);refine z4f ?_;rw [Std.Legacy.Range.forIn_eq_forIn_range'];simp only [Std.Legacy.Range.size,Nat.sub_zero,Nat.add_sub_cancel,Nat.div_one];refine wpAny_forIn_list _ (λ rest x s'=>s'=s/\x=(none,())/\∃ i,i<=D.size/\rest=List.range' i (D.size - i)) _ ?_ ?_ _ _ ⟨rfl,rfl,0,z4b _,by simp⟩
 ·rintro x rest st s' ⟨rfl,rfl,i,hi,hr⟩;have lt:i < D.size:=by
   rcases Nat.lt_or_ge i D.size with h | h
   ·exact h
   ·rw [Nat.sub_eq_zero_of_le h] at hr;cases hr
  have e2:D.size - i=(D.size - (i+1))+1:=by omega
  rw [e2,List.range'_succ,z2v] at hr;obtain ⟨rfl,hr⟩:=hr;refine z4f (z2a O J ?_);have ge:=z0b lt;obtain ⟨k,j,f,h1,h2,h3,h4,h5⟩:=a2 x _ ge;rw [ge];have a1:wpAny (model prog w) A (holding [D[x].key,D[x].val] (do
     let __x <- dictFind b D[x].key D[x].hash
     match __x with
      | some j=>do
       let __do_lift <- dictEntries b
       match __do_lift[j]? with
        | some f=>holding [f.val] (eqBool D[x].val f.val)
        | x=>unsupported "internal:dict-equal"
      | x=>pure false)) (λ v s2=>v=true/\s2=s') E s':=by
   refine z3o (z4f ?_);rw [h2];refine wpAny_dictFind_of h1 a0 Z a3 ?_;rw [h3];refine z4f (z2a a0 Z ?_);rw [h4];exact z3o (h5 prog w _ _ ⟨zf,zf⟩)
  refine z4f (z4g a1 (λ v s2 hv=> ?_) λ _ _ z=>z);obtain ⟨rfl,rfl⟩:=hv;rw [if_neg (by decide)];refine z4f (z38 O J ?_);rw [if_neg (by simp)];exact z4e ⟨zf,zf,x+1,lt,hr⟩
 ·rintro st s' ⟨rfl,rfl,i,hi,hr⟩;exact z4e q
end
theorem qbb {P:Program} {w:World} {es:List DictEntry} {vs:List (Key×Value)} (p:Pairs (q16 P w) es vs):∀ {i:Nat} {e:DictEntry},es[i]? =some e ->∃ D,vs[i]? =some D/\(q16 P w).is D.1 e.key=true/\e.val=D.2:=by
 induction p with
 | nil=>
  intro i e h;simp at h
 | cons a b c ih=>
  intro i e h;cases i with
  | zero=>
   simp at h
   subst h;exact ⟨_,zf,a,b⟩
  | succ i=>simpa using ih (by simpa using h)
theorem qrc {P:Program} {w:World} {es:List DictEntry} {vs:List (Key×Value)} (p:Pairs (q16 P w) es vs) {i:Nat} {kv:Key×Value} (h:vs[i]? =some kv):∃ e,es[i]? =some e:=by
 have hl:=p.length;have hi:=(z07.mp h).1;exact ⟨_,z0d (by omega)⟩
theorem qrd {kvs:List (Key×V)} {vs:List (Key×Value)} (r:KV kvs vs):∀ {i:Nat} {q:Key×Value},vs[i]? =some q ->∃ p,kvs[i]? =some p/\p.1=q.1/\RelV p.2 q.2:=by
 induction r with
 | nil=>
  intro i q h;simp at h
 | cons a b ih=>
  intro i q h;cases i with
  | zero=>
   simp at h
   subst h;exact ⟨_,zf,a⟩
  | succ i=>simpa using ih (by simpa using h)
theorem qzh {kvs:List (Key×V)} {vs:List (Key×Value)} (r:KV kvs vs) {i:Nat} {p:Key×V} (h:kvs[i]? =some p):∃ q,vs[i]? =some q/\p.1=q.1/\RelV p.2 q.2:=by
 have hl:kvs.length=vs.length:=Paired.length r;have hi:=(z07.mp h).1;obtain ⟨p',h',e⟩:=qrd r (z0d (show i < vs.length by omega));rw [h] at h';cases h'
 exact ⟨_,z0d (show i < vs.length by omega),e⟩
theorem qx8 {F:(Key×V) ->(Key×V) ->Prop} {D J:List (Key×V)} (h:Paired F D J):∀ {i:Nat} {p:Key×V},D[i]? =some p ->∃ q,J[i]? =some q/\F p q:=by
 induction h with
 | nil=>
  intro i p h;simp at h
 | cons a b ih=>
  intro i p h;cases i with
  | zero=>
   simp at h
   subst h;exact ⟨_,zf,a⟩
  | succ i=>simpa using ih (by simpa using h)
section
variable {X:Cx}
def DatP (K:PySem.W.Frag) (H:Hp) (p q:Key×V):Prop:=p.1=q.1/\∃ d,Dat K H d p.2/\Dat K H d q.2/\d.depth<=60
end
theorem qzi:bootBuiltins "abs"=some (.builtin "abs"):=by decide+kernel
def cA (mg:Str ->Option Value) (x:Str):Addr:=match mg x with
 | some (.ref a)=>a
 | _=>0
theorem q8t {mg:Str ->Option Value} {x:Str} {C:Addr} (h:mg x=some (.ref C)):cA mg x=C:=by
 unfold cA;rw [h]
structure MTop (K:PySem.W.Frag) (C:Addr) (m qual:Str) (st:Stmt) (ps:List Str):Prop where
 ex:∃ f fd,Fun K m qual st f fd/\Meth K C m f/\∀ us:List Value,us.length=ps.length ->bindArgs fd ⟨us,[]⟩=pure (ps.zip us)
theorem qx9 {K:PySem.W.Frag} {C:Addr} {m qual:Str} {st:Stmt} {ps:List Str} {f:Addr} {oc:Value} {od O:Option Addr} {a0:Array (Option Value)} {kV J Z D ct:Value}
  (b:∀ (kV J Z:Value) (O:Option Addr) (D ct:Value) (us:List Value),us.length=ps.length ->bindArgs (PySem.W.fnOf m qual (q1l st) (q1d st) (qc st) .none kV J Z O D ct) ⟨us,[]⟩=pure (ps.zip us))
  (a:PySem.W.findIn K (.ref C) m=some (some (.ref f))) (i:PySem.W.isFn K (.ref f)=true)
  (l:K.lookup f=some ⟨oc,od,.func (PySem.W.fnOf m qual (q1l st) (q1d st) (qc st) .none kV J Z O D ct),a0⟩) (c:PySem.W.codeIn K D qual=true) (k:PySem.W.keepIn K (.ref f)=true):MTop K C m qual st ps:=
 ⟨f,_,qr1 (st:=st) l c k,⟨a,i,k⟩,b kV J Z O D ct⟩
structure MDef (P:Program) (w:World) (K:PySem.W.Frag) (mg:Str ->Option Value) (base:Heap) (k:Nat) (C:Addr) (m:Str) (ps:List Str) (sp:Sp):Prop where
 ex:∃ f fd,FnOk P w K mg base CX0 k f fd ps sp/\Meth K C m f/\Binds K fd ps []
theorem MTop.ok {P:Program} {w:World} {K:PySem.W.Frag} {mg:Str ->Option Value} {base:Heap} {C:Addr} {m qual:Str} {st:Stmt} {N ps:List Str} {k:Nat} {sp:Sp} (T:MTop K C m qual st ps) (S:FnScope N ps (qc st)) (len:∀ vs H Q E,sp vs H Q E ->vs.length=ps.length)
  (D:∀ (f:Addr) (J:Value) (A:Around) (outer:List Env) (s:Shared) (H:Hp) (vs:List V) (Q:VK) (E:XK),Room k (A.deeper (envOfC qual (qc st) s.heap.objs.size f J)) ->sp vs H Q E ->
   ∃ t,PSs (cxOf CX0 P w K mg base N qual (qc st) f J A outer s H E).nox (q1d st) t/\t {nx:=λ _ H'=>Q .non H',rt:=Q} (start N vs) H):MDef P w K mg base (k+1) C m ps sp:=by
 obtain ⟨f,fd,F,hm,hb⟩:=T.ex;exact ⟨f,fd,F.ok S len (D f),hm,Binds.all hb⟩
section
variable {X:Cx} {k k':Nat} {C:Addr} {ps ks:List Str} {sp:Sp} {x m:Str} {p pos apos:Pos} {e o:Expr} {es:List Expr} {ta:TE} {t tk:TA} {kws:List Keyword}
theorem qg4 {pl:Sem Bool} (D:MDef X.prog X.w X.K X.mg X.base k C m ps sp) (c:Cls X.K C) (hr:Room k' X.A) (he:PE X o ta) (ha:PA X (e::es) t) (J:k<=k':=by decide)
  (Z:starEach (e::es) X.env=(false,eval e X.env)::starEach es X.env:=by rfl) (O:(backTo pos (starEach es X.env)).any (·.1)=false:=by rfl)
  (ht:eval (.Call (.Attribute o m apos) (e::es) [] pos) X.env=(do
   let ov <- eval o X.env
   standAt apos.atName
   let (f,first) <- holding [ov] (getMethod ov m pl)
   callWith pos f first (backTo pos (starEach (e::es) X.env)) (backToKw pos (keywordEach [] X.env))):=by rfl):
  PE X (.Call (.Attribute o m apos) (e::es) [] pos) (qvm C m sp [] E0 ta t):=by
 obtain ⟨f,fd,F,hm,hb⟩:=D.ex;exact qwk he c hm F (hr.mono J) hb .nil qcc ha Z O ht
def qzj (C:Addr):TE:=λ _ H Q=>∀ x dx,H x=none ->H dx=none ->dx≠x ->Q (.ref x) (upd (upd H dx (.own x)) x (.ins C dx []))
theorem qre {pins:List (Addr×Obj)} {σ:St} {H:Hp} {s:Shared} {Q:VK} (hm:PySem.W.makesIn X.K C=true) (hi:PySem.W.findIn X.K (.ref C) "__init__"=some (some (.builtin "object.__init__"))) (I:Inv X pins σ H s)
  (h:∀ x dx,H x=none ->H dx=none ->dx≠x ->Q (.ref x) (upd (upd H dx (.own x)) x (.ins C dx []))):wpAny (model X.prog X.w) X.A (call (.ref C) []) (EP X pins σ Q) X.xe s:=by
 have hq:=h (s.heap.objs.size+1) s.heap.objs.size (I.hok.fresh (Nat.le_succ _)) (I.hok.fresh (z48 _)) (z40 (z2l _));have I2:=Inv.made (C:=C) I;have Y:=PySem.W.makes_of (M:=model X.prog X.w) I.kIn hm;refine wpAny_call (qqn I.kIn hm hi (λ self=>PySem.W.Looks.of_pure (PySem.W.oi_bind self)) ?_);have g2:((s.heap.push PySem.W.emptyDict).push (PySem.W.instObj C s.heap.objs.size)).get? (s.heap.objs.size+1)=some (PySem.W.instObj C s.heap.objs.size):=by
  have:=z1c (s.heap.push PySem.W.emptyDict) (o:=PySem.W.instObj C s.heap.objs.size) rfl
  rwa [z3f] at this
 have t1:PySem.W.Looks (model X.prog X.w) ((s.heap.push PySem.W.emptyDict).push (PySem.W.instObj C s.heap.objs.size)) (typeOf (.ref (s.heap.objs.size+1))) (.ref C):=(PySem.W.Looks.ld g2).andThen .now;have t2:PySem.W.Looks (model X.prog X.w) ((s.heap.push PySem.W.emptyDict).push (PySem.W.instObj C s.heap.objs.size)) (isInstance (.ref (s.heap.objs.size+1)) (.type "object")) true:=t1.andThen (Y.top.keeps λ b o e=>z0o _ (z0o _ e));refine codeAny_call_builtin PySem.W.oi_plain PySem.W.entry_oi (@PySem.W.check_slot (model X.prog X.w) _ _ _ "object.__init__" "object" "__init__" (.ref (s.heap.objs.size+1)) [] [] _ PySem.W.oi_kind PySem.W.oi_split t2 (PySem.W.oi_args _) ?_);rw [PySem.W.oi_run];exact z4e ⟨zf,V.ref (s.heap.objs.size+1),_,I2,zf,hq⟩
theorem q9w (hk:PySem.W.makesIn X.K C=true) (hi:PySem.W.findIn X.K (.ref C) "__init__"=some (some (.builtin "object.__init__"))) (kp:PySem.W.keepIn X.K (.ref C)=true) (hg:Gl X x) (hm:X.mg x=some (.ref C))
  (D:(x==("__debug__":Str))=false:=by decide):PE X (.Call (.Name x p) [] [] pos) (qzj C):=by
 intro pins s σ H Q I h;refine z1s (q92 I hg hm ?_ D);exact PySem.W.callWith_K0 I.kIn kp (qre hk hi I h)
structure FunD (K:PySem.W.Frag) (x qual:Str) (st:Stmt) (f:Addr) (fd:FuncData):Prop where
 ex:∃ (oc:Value) (od:Option Addr) (dV kV doc pm:Value) (an:Option Addr) (cdv ct:Value) (osl:Array (Option Value)),
  fd=PySem.W.fnOf x qual (q1l st) (q1d st) (qc st) dV kV doc pm an cdv ct/\K.lookup f=some ⟨oc,od,.func fd,osl⟩/\PySem.W.codeIn K cdv qual=true
theorem FunD.ok {P:Program} {w:World} {K:PySem.W.Frag} {mg:Str ->Option Value} {base:Heap} {x qual:Str} {st:Stmt} {f:Addr} {fd:FuncData} {N ps:List Str} {k:Nat} {sp:Sp} (F:FunD K x qual st f fd) (S:FnScope N ps (qc st)) (len:∀ vs H Q E,sp vs H Q E ->vs.length=ps.length)
  (J:∀ (D:Value) (A:Around) (outer:List Env) (s:Shared) (H:Hp) (vs:List V) (Q:VK) (E:XK),Room k (A.deeper (envOfC qual (qc st) s.heap.objs.size f D)) ->sp vs H Q E ->
   ∃ t,PSs (cxOf CX0 P w K mg base N qual (qc st) f D A outer s H E).nox (q1d st) t/\t {nx:=λ _ H'=>Q .non H',rt:=Q} (start N vs) H):FnOk P w K mg base CX0 (k+1) f fd ps sp:=by
 obtain ⟨oc,od,dV,kV,doc,pm,an,D,ct,osl,rfl,lk,O⟩:=F.ex;refine qvn lk O S len λ A outer s H vs Q E hr Z=> ?_;obtain ⟨t,h,q⟩:=J D A outer s H vs Q E hr Z;exact ⟨t,h.nox,q⟩
structure InitB (K:PySem.W.Frag) (fd:FuncData) (y:Str) (dv:V):Prop where
 b0:∃ u,RelV dv u/\Binds K fd ["self",y] [u]
 b1:Binds K fd ["self",y] []
 bk:∀ (s:Shared) (v z:Value),K.In s.heap ->BindsTo s fd ⟨[v],[(y,z)]⟩ [("self",v),(y,z)]
structure ITop (K:PySem.W.Frag) (C:Addr) (qual y:Str) (st:Stmt) (dv:V):Prop where
 ex:∃ f fd,FunD K "__init__" qual st f fd/\PySem.W.findIn K (.ref C) "__init__"=some (some (.ref f))/\PySem.W.isFn K (.ref f)=true/\InitB K fd y dv
theorem qnw {K:PySem.W.Frag} {C:Addr} {qual y:Str} {st:Stmt} {dv:V} {u:Value} {f:Addr} {oc:Value} {od Z:Option Addr} {a0:Array (Option Value)} {dV kV J pm D ct:Value}
    (a:PySem.W.findIn K (.ref C) "__init__"=some (some (.ref f))) (i:PySem.W.isFn K (.ref f)=true)
    (l:K.lookup f=some ⟨oc,od,.func (PySem.W.fnOf "__init__" qual (q1l st) (q1d st) (qc st) dV kV J pm Z D ct),a0⟩) (c:PySem.W.codeIn K D qual=true) (ru:RelV dv u)
    (h0:∀ (s:Shared) (v:Value),K.In s.heap ->BindsTo s (PySem.W.fnOf "__init__" qual (q1l st) (q1d st) (qc st) dV kV J pm Z D ct) ⟨[v],[]⟩ [("self",v),(y,u)])
    (h1:∀ (s:Shared) (v z:Value),K.In s.heap ->BindsTo s (PySem.W.fnOf "__init__" qual (q1l st) (q1d st) (qc st) dV kV J pm Z D ct) ⟨[v,z],[]⟩ [("self",v),(y,z)])
    (hk:∀ (s:Shared) (v z:Value),K.In s.heap ->BindsTo s (PySem.W.fnOf "__init__" qual (q1l st) (q1d st) (qc st) dV kV J pm Z D ct) ⟨[v],[(y,z)]⟩ [("self",v),(y,z)]):ITop K C qual y st dv:=by
  refine ⟨f,_,⟨oc,od,dV,kV,J,pm,Z,D,ct,a0,zf,l,c⟩,a,i,⟨u,ru,λ s us X hl=> ?_⟩,λ s us X hl=> ?_,hk⟩
  · have O:us.length=1:=by
      rw [z1o] at hl;exact Nat.succ.inj hl
    match us,O with
    | [v],_=>exact h0 s v X
  · have O:us.length=2:=by
      rw [z31] at hl;exact hl
    match us,O with
    | [v,z],_=>exact h1 s v z X
structure IDef (P:Program) (w:World) (K:PySem.W.Frag) (mg:Str ->Option Value) (base:Heap) (k:Nat) (C:Addr) (y:Str) (dv:V) (sp:Sp):Prop where
 ex:∃ f fd,FnOk P w K mg base CX0 k f fd ["self",y] sp/\PySem.W.findIn K (.ref C) "__init__"=some (some (.ref f))/\PySem.W.isFn K (.ref f)=true/\InitB K fd y dv
theorem ITop.ok {P:Program} {w:World} {K:PySem.W.Frag} {mg:Str ->Option Value} {base:Heap} {C:Addr} {qual y:Str} {st:Stmt} {dv:V} {N:List Str} {k:Nat} {sp:Sp} (T:ITop K C qual y st dv) (S:FnScope N ["self",y] (qc st)) (len:∀ vs H Q E,sp vs H Q E ->vs.length=(["self",y]:List Str).length)
  (D:∀ (f:Addr) (J:Value) (A:Around) (outer:List Env) (s:Shared) (H:Hp) (vs:List V) (Q:VK) (E:XK),Room k (A.deeper (envOfC qual (qc st) s.heap.objs.size f J)) ->sp vs H Q E ->
   ∃ t,PSs (cxOf CX0 P w K mg base N qual (qc st) f J A outer s H E).nox (q1d st) t/\t {nx:=λ _ H'=>Q .non H',rt:=Q} (start N vs) H):IDef P w K mg base (k+1) C y dv sp:=by
 obtain ⟨f,fd,F,h1,h2,h3⟩:=T.ex;exact ⟨f,fd,F.ok S len (D f),h1,h2,h3⟩
variable {y:Str} {dv:V}
theorem qrf (D:IDef X.prog X.w X.K X.mg X.base k C y dv sp) (hk:PySem.W.makesIn X.K C=true) (kp:PySem.W.keepIn X.K (.ref C)=true) (hr:Room k' X.A) (hg:Gl X x) (hm:X.mg x=some (.ref C)) (O:k+1<=k':=by decide)
  (J:(x==("__debug__":Str))=false:=by decide):PE X (.Call (.Name x p) [] [] pos) (qjt C sp [dv] E0 tNil):=by
 obtain ⟨f,fd,F,h1,h2,h3⟩:=D.ex;obtain ⟨u,ru,hb⟩:=h3.b0;exact qte ⟨hk,h1,h2,kp⟩ F (hr.mono O) hg hm hb (.cons ru .nil) qcc J
theorem qrg (D:IDef X.prog X.w X.K X.mg X.base k C y dv sp) (hk:PySem.W.makesIn X.K C=true) (kp:PySem.W.keepIn X.K (.ref C)=true) (hr:Room k' X.A) (hg:Gl X x) (hm:X.mg x=some (.ref C)) (ha:PA X (e::es) t) (O:k+1<=k':=by decide)
  (J:(x==("__debug__":Str))=false:=by decide) (he:starEach (e::es) X.env=(false,eval e X.env)::starEach es X.env:=by rfl) (Z:(backTo pos (starEach es X.env)).any (·.1)=false:=by rfl):PE X (.Call (.Name x p) (e::es) [] pos) (qjt C sp [] E0 t):=by
 obtain ⟨f,fd,F,h1,h2,h3⟩:=D.ex;exact qwl ⟨hk,h1,h2,kp⟩ F (hr.mono O) hg hm h3.b1 .nil qcc ha J he Z
end
end L2
namespace L2
open PySem PySem.Spec PyProof.Rows PySem.W
def q18 (x y:Int):Bool:=decide (x < y)
theorem q1u:Tim.STO q18:=Tim.qwa
def iOf:Value ->Int
 | .int x _=>x
 | _=>0
theorem qdn {ws:List Int}:∀ {us:List Value},Vals (ws.map V.int) us ->us.map iOf=ws/\(∀ u∈us,∃ x t,u= .int x t)/\IntsAre us ws:=by
 induction ws with
 | nil=>
  intro us r;cases r
  exact ⟨rfl,(λ _ z=>nomatch z),.nil⟩
 | cons x ws ih=>
  intro us r;cases r with
  | cons r1 rr=>
   obtain ⟨t,rfl⟩:=r1;obtain ⟨a,b,c⟩:=ih rr;refine ⟨by rw [z3l,a];rfl,λ u D=> ?_,.cons x t c⟩;rcases z3n.mp D with rfl | D
   ·exact ⟨x,t,zf⟩
   ·exact b u D
theorem q6v:∀ {us:List Value},(∀ u∈us,∃ x t,u= .int x t) ->Vals ((us.map iOf).map V.int) us
 | [],_=> .nil
 | u::us,h=>by
  obtain ⟨x,t,rfl⟩:=h u (z1p ..);exact .cons ⟨t,zf⟩ (q6v λ v hv=>h v (z16 _ hv))
section
variable {prog:Program} {w:World} {A:Around} {s:Shared} {a:Addr}
theorem qhv {ws:List Int} {vs:List Value} (r:Vals (ws.map V.int) vs):Tim.Keys prog w A s a vs (λ v=>Tim.rank q18 (vs.map iOf) (iOf v)):=by
 intro h2 s' _;obtain ⟨e1,e2,e3⟩:=qdn r;refine ⟨oneType',λ E Q q=> ?_,λ x hx y hy E Q q=> ?_⟩
 ·match vs,h2,e3 with
  | v1::v2::vr,_,e3=>
   rw [keyKind_ints e3];exact z4e q
 ·rw [<- Tim.qdm q1u iOf hx hy] at q;obtain ⟨x',t,rfl⟩:=e2 x hx;obtain ⟨y',u,rfl⟩:=e2 y hy;rw [keyLt'_oneType];exact oneLt_int q
end
section
variable {X:Cx}
theorem q7z (K:PySem.W.Frag) (hK:X.K=K:=by rfl):q24 X (.builtin "sorted") (λ xs H Q=>∃ p ws,xs=[.ref p]/\(SqL K H p (ws.map V.int)\/ SqT K H p (ws.map V.int))/\∀ l,H l=none ->Q (.ref l) (upd H l (.lst ((Tim.srt q18 ws).map V.int)))):=by
 subst hK;intro pins s σ H xs us Q I r h;obtain ⟨p,ws,rfl,J,q⟩:=h;obtain ⟨u,rfl,ru⟩:=q3b r;cases ru
 obtain ⟨T,o,its,n,hT,ho,hc,hd,rv,hz⟩:∃ (T:String) (o:Obj) (its:List Value) (n:Nat),(T="list"\/ T="tuple")/\s.heap.get? p=some o/\o.cls= .type T/\o.data= .seq its.toArray n/\Vals (ws.map V.int) its/\(ws.map V.int).length<=sizeLine:=by
  rcases J with J | J
  ·obtain ⟨its,rv,⟨o,n,e,c,_,d⟩,z⟩:=I.list J;exact ⟨"list",o,its,n,.inl rfl,e,c,d,rv,z⟩
  ·obtain ⟨its,rv,⟨o,e,c,n,d⟩,z⟩:=I.tuple J;exact ⟨"tuple",o,its,n,.inr rfl,e,c,d,rv,z⟩
 have hl:its.length<=sizeLine:=by rw [<- rv.length];exact hz
 obtain ⟨e1,e2,_⟩:=qdn rv;refine q4n (vs:=its) (rk:=λ v=>Tim.rank q18 (its.map iOf) (iOf v)) hl (λ A' E' R _ k=>q9u hT ho hc hd (by rw [z23];exact hl) (by rw [z1g];exact k)) (λ A' s' a _ _ _=>qhv rv) λ out l n h' tk so keep D hg=> ?_;have Z:∀ u∈out.toList,∃ x t,u= .int x t:=λ u hu=>e2 u (so.perm.mem_iff.mp hu);have ed:=Tim.q36 q1u iOf so;rw [e1] at ed;have O:=q6v Z;rw [ed] at O;exact I.q37 O (by rw [z30,(Tim.qo q18 ws).length_eq];rw [z30] at hz;exact hz) keep D hg (q l (I.hok.fresh D))
end
end L2
namespace L2
open PySem PySem.Spec PyProof.Rows
section
variable {X:Cx} {pins:List (Addr×Obj)} {σ:St} {H:Hp} {s:Shared} {a:Addr} {kvs:List (Key×V)} {k:Key} {z:V} {u r:Value} {A:Around} {E:Value ->Shared ->Prop}
theorem qzk {Q:Value ->Shared ->Prop} (I:Inv X pins σ H s) (e:H a=some (.dK kvs)) (hl:kvs.length < sizeLine) (ry:RelV (kV k) u) (rz:RelV z r)
  (h1:∀ v O s',valV kvs k=some v ->Inv X pins σ H s' ->RelV v O ->Q O s') (h2:valV kvs k=none ->∀ s',Inv X pins σ (upd H a (.dK (putK kvs k z))) s' ->Q r s'):
  wpAny (model X.prog X.w) A (call (.builtin "dict.setdefault") [.ref a,u,r]) Q E s:=by
 obtain ⟨zl,hd,vs,rel,Z⟩:=qvp I.hok e;have rv:=rel.val k;refine call_meetsIn PySem.F.slot_dict_setdefault Z.typeIs PySem.F.entry_dict_setdefault (PySem.F.args_dict_setdefault_3 _ _ _) (kt_meets_setdefault (q16 X.prog X.w) a (q9p ry) hd r) ⟨vs,Z,by rw [<- rel.length];exact zl,λ O hw=> ?_,λ hn h' D hs=> ?_⟩
 ·cases J:valV kvs k with
  | none=>
   rw [J,hw] at rv;exact rv.elim
  | some v=>
   rw [J,hw] at rv;exact h1 v O _ J (I.tok _) rv
 ·have hp:(putK kvs k z).length<=sizeLine:=by have:=q4v kvs k z;omega
  have he:∃ q,h'.get? a=some q:=let ⟨q,_,_,hq,_⟩:=D;⟨q,hq⟩
  refine h2 ?_ _ (qfy I (by rw [e];exact True.intro) hs he (qqv hp hd (rel.put k rz) D));cases J:valV kvs k with
  | none=>rfl
  | some v=>
   rw [J,hn] at rv;exact rv.elim
end
def qzl (td ty tx:TE):TE:=λ σ H Q=>td σ H λ x H1=>∃ a,x= .ref a/\IsD H1 a/\ty σ H1 λ y H2=>tx σ H2 λ z H3=>∃ kvs k,H3 a=some (.dK kvs)/\y=kV k/\kvs.length < sizeLine/\
 (∀ v,valV kvs k=some v ->Q v H3)/\(valV kvs k=none ->Q z (upd H3 a (.dK (putK kvs k z))))
section
variable {X:Cx} {o e f:Expr} {apos cpos:Pos} {td ty tx:TE}
theorem qkz (ho:PE X o td) (he:PE X e ty) (hf:PE X f tx) (m:M2 X o "setdefault" apos e f cpos):PE X (.Call (.Attribute o "setdefault" apos) [e,f] [] cpos) (qzl td ty tx):=by
 intro pins s σ H Q I h;refine wpAny_Call_method m.base m.few m.line PySem.F.plainAttrs_dict PySem.F.slot_dict_setdefault PySem.F.type_dict_setdefault (thn (ho pins s σ H _ I h) λ u s1 J=> ?_);obtain ⟨x,H1,I1,rx,a,ex,d,q1⟩:=J;subst ex;obtain rfl:u=Value.ref a:=rx;obtain ⟨t1,t2,_⟩:=qqy I1 d;refine ⟨t1,t2,?_⟩;rw [m.trees];refine Calls.callWith_builtin rfl (Calls.evalArgs_plain (Calls.spliced_cons (thn (he pins s1 σ H1 _ I1 q1) λ iv s2 ⟨y,H2,I2,ry,q2⟩=>
  Calls.spliced_cons (thn (hf pins s2 σ H2 _ I2 q2) λ fv s3 ⟨z,H3,I3,rz,kvs,k,eH,ey,hl,q3,q4⟩=>Calls.spliced_nil ?_))))
 subst ey;exact qzk I3 eH hl ry rz (λ v w' s4 ev I4 D=>⟨_,H3,I4,D,q3 v ev⟩) λ en s4 I4=>⟨z,_,I4,rz,q4 en⟩
end
end L2
namespace L2
open PySem PySem.Spec PyProof.Rows PySem.W
def q1h (w:World):Bool:=w.params.followText "set-order"
def TxS (P:Program) (w:World) (h:Heap) (a:Addr) (xs:List Str):Prop:=
 ∃ o es ep t,h.get? a=some o/\o.ExactSet/\o.data= .set es ep t/\ElemsOf (strKind P w) es.toList/\es.toList.map (λ e=>sOf e.2)=xs/\xs.Nodup/\es.size < scanBound/\t.fits es.size=true/\t.led= !q1h w/\(0 < es.size ->t.plain=false)
theorem qxa (t:SetTable) (j:Nat):(t.put j).1.led=t.led/\(t.put j).1.plain=t.plain:=⟨rfl,rfl⟩
theorem qmv (t:SetTable) (n:Nat):(t.orStandIn n).led=t.led:=by
 unfold SetTable.orStandIn SetTable.standIn;split <;> rfl
theorem qpb (t:SetTable) (es:Array (Int×Value)) (h:Int) (x:Value):(layNew t es h x).2.1.led=t.led:=by
 unfold layNew;split
 ·dsimp only
  rw [qmv];exact (qxa _ _).1
 ·rfl
theorem qmw (t:SetTable) (es:Array (Int×Value)) (n:Nat):(relayAll t es n).2.1.led=t.led/\(t.plain=false ->(relayAll t es n).2.1.plain=false):=by
 unfold relayAll;split
 ·rename_i t' order e;have e2:t'.led=t.led/\t'.plain=t.plain:=by
   unfold SetTable.relaid SetTable.laid at e;cases q:SetTable.layClean (SetTable.sizeAbove n - 1) (es.map (·.1)) with
   | none=>
    rw [q] at e;cases e
   | some ow=>
    rw [q] at e;cases e
    exact ⟨zf,zf⟩
  dsimp only
  split
  ·exact ⟨e2.1,λ z=>e2.2.trans z⟩
  ·exact ⟨zf,λ _=>rfl⟩
 ·exact ⟨zf,λ _=>rfl⟩
section
variable {P:Program} {w:World} {A:Around} {E:Value ->Shared ->Prop} {s:Shared} {a:Addr} {xs:List Str}
theorem qbc {x:Str} {v:Value} (h:(strKind P w).is x v=true):sOf v=x/\∃ t,v= .str x t:=by
 obtain ⟨t,rfl⟩:=Value.isStrOf_shape (x:=x) (v:=v) h;exact ⟨zf,t,zf⟩
theorem ql0 {es:List (Int×Value)} (h:ElemsOf (strKind P w) es) (x:Str):x∈es.map (λ e=>sOf e.2)↔∃ e∈es,(strKind P w).is x e.2=true:=by
 constructor
 ·intro hx;obtain ⟨e,D,rfl⟩:=z45.mp hx;obtain ⟨⟨k,hk,_⟩,_⟩:=h e D;exact ⟨e,D,by rw [(qbc hk).1];exact hk⟩
 ·rintro ⟨e,D,hk⟩;exact z45.mpr ⟨e,D,(qbc hk).1⟩
theorem qhw {h:Heap} {o:Obj} {es:Array (Int×Value)} {ep:Nat} {t:SetTable} (ho:h.get? a=some o) (O:o.ExactSet) (hd:o.data= .set es ep t)
  {D:Array (Int×Value)} {t':SetTable} (J:ElemsOf (strKind P w) D.toList) (Z:(D.toList.map λ e=>sOf e.2).Nodup) (hb:D.size < scanBound) (hf:t'.fits D.size=true) (hl:t'.led= !q1h w) (hp:t'.plain=false):
  (h.update a (Obj.putSet D t')).get? a=some {o with data:= .set D (ep+1) t'}/\TxS P w (h.update a (Obj.putSet D t')) a (D.toList.map λ e=>sOf e.2):=by
 have hg:(h.update a (Obj.putSet D t')).get? a=some {o with data:= .set D (ep+1) t'}:=by
  have:=z0z (Obj.putSet D t') ho (by rw [putSet_of D t' hd];rfl);rw [putSet_of D t' hd] at this;exact this
 exact ⟨hg,_,D,ep+1,t',hg,O,zf,J,zf,Z,hb,hf,hl,λ _=>hp⟩
theorem qtp {x:Str} {t0:Tok} {Q:Bool ->Shared ->Prop} (hS:TxS P w s.heap a xs) (b6:xs.length+1 < scanBound)
  (h:∀ b h' ys,Heap.SameBut a s.heap h' ->TxS P w h' a ys ->(if x∈xs then ys=xs else ys.Perm (xs++ [x])) ->Q b {s with heap:=h'}):
  wpAny (model P w) A (setAddHashed a (.str x t0) ((strKind P w).hash x)) Q E s:=by
 obtain ⟨o,es,ep,t,ho,c0,hd,a1,a3,d3,hb,hf,a8,hpl⟩:=id hS;have a7:(strKind P w).is x (.str x t0)=true:=strKind_is P w x t0;have b7:(Value.str x t0).scannable=true:=rfl;have hn:es.size=xs.length:=by rw [<- a3,z30,z19]
 have d1:es.size+1 < scanBound:=by rw [hn];exact b6
 unfold setAddHashed setAddHashedIn;refine z3o (z4f (z2c ho hd hf ?_))
 dsimp only
 rw [byScan_of b7 hb a1];simp only [↓reduceIte];unfold setAddByScan;refine z4f ?_;refine z4f (z4d ?_);refine z4f (wpAny_setScan_of a7 ho hd hf a1 ?_);cases hr:List.findIdx? (λ e=>(strKind P w).is x e.2) es.toList with
 | some j=>
  dsimp only
  obtain ⟨hj,d4,_⟩:=List.findIdx?_eq_some_iff_getElem.mp hr;have hm:x∈xs:=by rw [<- a3];exact (ql0 a1 x).mpr ⟨_,z2k hj,d4⟩
  refine z4e (z4e ?_);have e:s={s with heap:=s.heap}:=by cases s;rfl
  have:=h false s.heap xs (Heap.SameBut.refl a s.heap) hS (by rw [if_pos hm]);rw [e];exact this
 | none=>
  dsimp only
  have hm:¬ x∈xs:=λ hx=>by
   rw [<- a3] at hx;obtain ⟨e,he,hp⟩:=(ql0 a1 x).mp hx;have:=List.findIdx?_eq_none_iff.mp hr e he;rw [hp] at this;cases this
  have c4:∀ (b:Bool) {s₁:Shared} {Q':Unit ->Shared ->Prop},Q' () s₁ ->wpAny (model P w) A (match b with | true=>rule "set.scan.the-table-gave-way" | false=>pure ()) Q' E s₁:=
   λ b s₁ Q' hq=>by cases b <;> first | exact z4e hq | exact z4d hq
  have J:=layNew_perm t es ((strKind P w).hash x) (.str x t0);have O:=layNew_fits t es ((strKind P w).hash x) (.str x t0);have a5:=qpb t es ((strKind P w).hash x) (.str x t0);generalize hL:layNew t es ((strKind P w).hash x) (.str x t0)=L at J O a5 ⊢;obtain ⟨D,t1,Z,d5⟩:=L
  dsimp only at J O a5 ⊢
  rw [z20] at J;have a6:ElemsOf (strKind P w) D.toList:=(a1.push a7 b7).perm J;have b5:(D.toList.map λ e=>sOf e.2).Perm (xs++ [x]):=by
   have:=J.map λ e:Int×Value=>sOf e.2;rw [z36,a3] at this;exact this
  have a9:(xs++ [x]).Nodup:=z2d.mpr ⟨d3,by simp,λ u hu v hv e=>hm (by rw [z1m.mp hv] at e;exact e ▸ hu)⟩;have a0:D.size < scanBound:=by rw [<- z19,J.length_eq,z1o,z19];simpa using d1
  refine z4f (c4 _ ?_);have tail:∀ t2:SetTable,t2.fits D.size=true ->t2.led=t1.led ->t2.plain=false ->wpAny (model P w) A (do
    storeSet a D t2
    if (!Z&&t2.tooFull)=true then do
      (match (relayAll t2 D (SetTable.grown D.size)).2.2 with | true=>rule "set.scan.the-table-gave-way" | false=>pure ())
      storeSet a (relayAll t2 D (SetTable.grown D.size)).1 (relayAll t2 D (SetTable.grown D.size)).2.1
      pure (some true)
     else pure (some true)) (λ r s'=>∃ h' ys,r=some true/\s'={s with heap:=h'}/\Heap.SameBut a s.heap h'/\TxS P w h' a ys/\ys.Perm (xs++ [x])) E s:=λ t2 d2 c5 c6=>by
   refine z4f (wpAny_storeSet_of ho hd ?_ (fits_of_scanBound a0));obtain ⟨c1,c9⟩:=qhw (P:=P) (w:=w) ho c0 hd a6 (b5.nodup_iff.mpr a9) a0 d2 (by rw [c5,a5,a8]) c6;have b3:=z1b s.heap a (Obj.putSet D t2);split
   ·have hp:=relayAll_perm t2 D (SetTable.grown D.size);have b4:=relayAll_fits t2 D (SetTable.grown D.size);have a4:=qmw t2 D (SetTable.grown D.size);generalize hRl:relayAll t2 D (SetTable.grown D.size)=Rl at hp b4 a4 ⊢;obtain ⟨a2,t3,c8⟩:=Rl
    dsimp only at hp b4 a4 ⊢
    have b9:ElemsOf (strKind P w) a2.toList:=a6.perm hp;have hsz:a2.size=D.size:=by rw [<- z19,hp.length_eq,z19]
    have b8:a2.size < scanBound:=by rw [hsz];exact a0
    have c7:(a2.toList.map λ e=>sOf e.2).Perm (xs++ [x]):=(hp.map _).trans b5;refine z4f (c4 _ ?_);refine z4f (wpAny_storeSet_of c1 rfl ?_ (fits_of_scanBound b8));obtain ⟨_,d0⟩:=qhw (P:=P) (w:=w) c1 c0 rfl b9 (c7.nodup_iff.mpr a9) b8 b4 (by rw [a4.1,c5,a5,a8]) (a4.2 c6);exact z4e ⟨_,_,zf,zf,b3.trans (z1b _ a _),d0,c7⟩
   ·exact z4e ⟨_,_,zf,zf,b3,c9,b5⟩
  split
  ·rename_i b2;refine z4f ?_;rw [hashByValue_scannable 8 b7];refine z4e ?_;refine z4g (tail _ (SetTable.fits_plain_off O) rfl rfl) (λ r s' z=> ?_) λ e s' z=>z;obtain ⟨h',ys,rfl,rfl,h1,h2,h3⟩:=z;exact z4e (h true h' ys h1 h2 (by rw [if_neg hm];exact h3))
  ·rename_i b2;refine z4f (z4e ?_);simp only [↓reduceIte];refine z4g (tail t1 O rfl (by simpa using b2)) (λ r s' z=> ?_) λ e s' z=>z;obtain ⟨h',ys,rfl,rfl,h1,h2,h3⟩:=z;exact z4e (h true h' ys h1 h2 (by rw [if_neg hm];exact h3))
end
theorem TxS.keep {P:Program} {w:World} {h h':Heap} {a:Addr} {xs:List Str} (x:TxS P w h a xs) (k:∀ o,h.get? a=some o ->h'.get? a=some o):TxS P w h' a xs:=by
 obtain ⟨o,es,ep,t,ho,r⟩:=x;exact ⟨o,es,ep,t,k o ho,r⟩
section
variable {prog:Program} {w:World} {A:Around} {R:Result ->Shared ->Prop} {I:Addr} {fp wr:List Addr} {G:Array GenState ->Array GenState ->Prop} {n:Nat} {P:Nat ->Value ->Prop} {St:Nat ->Shared ->Prop}
def InS (val:Nat ->Str) (i:Nat) (ys:List Str):Prop:=(∀ x,x∈ys↔∃ j,j < i/\val j=x)/\ys.length<=i
theorem InS.next {val:Nat ->Str} {i:Nat} {ys zs:List Str} (h:InS val i ys) (e:if val i∈ys then zs=ys else zs.Perm (ys++ [val i])):InS val (i+1) zs:=by
 have step:∀ x,(∃ j,j < i+1/\val j=x)↔(∃ j,j < i/\val j=x)\/ x=val i:=λ x=>by
  constructor
  ·rintro ⟨j,hj,rfl⟩;rcases Nat.lt_or_ge j i with h1 | h1
   ·exact .inl ⟨j,h1,zf⟩
   ·exact .inr (by rw [show j=i by omega])
  ·rintro (⟨j,hj,rfl⟩ | rfl)
   ·exact ⟨j,by omega,zf⟩
   ·exact ⟨i,z2l _,zf⟩
 by_cases c:val i∈ys
 ·rw [if_pos c] at e;subst e;refine ⟨λ x=> ?_,Nat.le_succ_of_le h.2⟩;rw [step,<- h.1 x];exact ⟨.inl,λ z=>z.elim id λ q=>q ▸ c⟩
 ·rw [if_neg c] at e;refine ⟨λ x=> ?_,?_⟩
  ·rw [step,e.mem_iff,z2u,z1m,h.1 x]
  ·rw [e.length_eq,z1o];exact z2q h.2
theorem ql1 (W:WalksS prog w A.in1 I fp wr G n P St) (S:Addr) (a1:S∉fp) (val:Nat ->Str) (a7:∀ i v,P i v ->∃ t,v= .str (val i) t) (Z:n+1 < scanBound):
  ∀ (k i:Nat) (s:Shared) (ys:List Str),n - i=k ->i<=n ->St i s ->TxS prog w s.heap S ys ->InS val i ys ->
   (∀ s' zs,Moved (S::wr) G s s' ->TxS prog w s'.heap S zs ->InS val n zs ->R (.ok (.ret .none)) s') ->
   codeAny (model prog w) A (.builtin "set.update.loop" ⟨[.ref S,.ref I],[]⟩) R s:=by
 have a2:S∉wr:=λ h=>a1 (W.sub _ h);have J:∀ b∈wr,b∈S::wr:=λ b Z=>z16 _ Z;intro k
 induction k with
 | zero=>
  intro i s ys hk hi O hS D hR;have e:i=n:=by omega
  subst e;refine z39 F.entry_set_update_loop ?_;rw [Around.under_plainId F.plain_set_update_loop _];show wpAny _ A.in1 (pyNext (.ref I) >>=_) _ _ s;refine z4f (W.done s _ _ O λ s' hm=> ?_);show wpAny _ A.in1 (ret Value.none) _ _ s';exact z4e (hR s' ys (hm.mono J) (hS.keep λ o e=>hm.heap S o a2 e) D)
 | succ k ih=>
  intro i s ys hk hi O hS D hR;have a3:i < n:=by omega
  refine z39 F.entry_set_update_loop ?_;rw [Around.under_plainId F.plain_set_update_loop _];show wpAny _ A.in1 (pyNext (.ref I) >>=_) _ _ s;refine z4f (W.item i s _ _ a3 O λ v s' hP a6 hm=> ?_);obtain ⟨t,rfl⟩:=a7 i v hP;have a8:TxS prog w s'.heap S ys:=hS.keep λ o e=>hm.heap S o a2 e;show wpAny _ A.in1 (holding [Value.str (val i) t] (setAdd S (.str (val i) t)) >>=_) _ _ s';refine z4f (z3o ?_);unfold setAdd;refine z3o ?_;refine z4f ((strKind prog w).pyHash (k:=val i) (strKind_is _ _ _ _) ?_);refine qtp (s:={s' with toks:=s'.toks+1}) a8 (by have:=D.2;omega) λ b h' zs a5 a9 hz=> ?_;refine z4e ⟨plainId_quiet F.plain_set_update_loop _,ih (i+1) _ zs (by omega) a3 (W.frame _ s' _ _ a6 (Nat.le_succ _) λ b Z o e=> ?_) a9 (D.next hz) λ b2 us a4 a0 hu=> ?_⟩
  ·rw [a5.2 b (λ h:b=S=>a1 (by rw [<- h];exact Z))];exact e
  ·refine hR b2 us (Moved.trans W.gtrans ((hm.mono J).then_heap (Nat.le_succ _) λ b o Z e=> ?_) a4) a0 hu;rw [a5.2 b (λ h:b=S=>Z (by rw [h];exact z1p))];exact e
end
theorem qam {prog:Program} {w:World} {A:Around} {E:Value ->Shared ->Prop} {s:Shared} (a:Value) {Q₁:Value ->Shared ->Prop}
  (h:Q₁ (.ref s.heap.objs.size) {s with heap:=s.heap.push {cls:= .type "set",dict:=none,data:= .set #[] 0 (.fresh 0 0 (!q1h w))}}):
  codeAny (model prog w) A (.call (.builtin "set.__new__") ⟨[.type "set",a],[]⟩) (wants Q₁ E) s:=by
 refine codeAny_of_tree ?_;show wpAny _ A.in1 (do checkBuiltinCall "set.__new__" ⟨[.type "set",a],[]⟩;again (.builtin "set.__new__" ⟨[.type "set",a],[]⟩)) _ _ s;refine z4f (wpAny_of_eq (PySem.F.newCall_set_1 a) (z4e ⟨plainId_quiet F.plain_set_new _,z39 F.entry_set_new ?_⟩));rw [Around.under_plainId F.plain_set_new _];unfold Builtin.«set.__new__» Builtin.Frozenset.newClass;have D:=sub_set_self;obtain ⟨hp,g,d,tk,os⟩:=s
 dsimp only
 wp_walk
 refine z2s (z4e ?_)
 dsimp only
 simp only [newObj];refine z4f (wpAny_alloc (z4e ?_));exact z4e h
theorem qhx {P:Program} {w:World} {h:Heap} {a:Addr} (e:h.get? a=some {cls:= .type "set",dict:=none,data:= .set #[] 0 (.fresh 0 0 (!q1h w))}):TxS P w h a []:=
 ⟨_,#[],0,_,e,⟨rfl,rfl,rfl⟩,rfl,λ e he=>by simp at he,rfl,z3g,by decide,by rfl,rfl,λ z=>absurd z (by decide)⟩
theorem qrh {vs:List Value} {ws:List Str} (h:StrsAre vs ws) (i:Nat) (v:Value) (e:vs[i]? =some v):∃ t,v= .str (ws.getD i "") t:=by
 induction h generalizing i with
 | nil=>simp at e
 | cons x t hr ih=>
  cases i with
  | zero=>
   simp at e
   exact ⟨t,e.symm⟩
  | succ i=>exact ih i (by simpa using e)
theorem sub_list_set':isSubtype (.type "list") (.type "set")=pure false:=by rw [isSubtype_type];kernel_rfl
theorem sub_list_frozenset':isSubtype (.type "list") (.type "frozenset")=pure false:=by rw [isSubtype_type];kernel_rfl
section
variable {prog:Program} {w:World} {A:Around} {E:Value ->Shared ->Prop} {s:Shared}
set_option maxHeartbeats 3200000 in
theorem qri {l:Addr} {D:Array Value} {ws:List Str} {Q:Value ->Shared ->Prop} (hh:A.handled=none) (hl:s.heap.IsList l D) (hi:StrsAre D.toList ws) (hb:D.size+1 < scanBound)
  (h:∀ (h':Heap) (tk:Nat) (ys:List Str),TxS prog w h' s.heap.objs.size ys ->InS (λ i=>ws.getD i "") D.size ys ->(∀ b o,b < s.heap.objs.size ->s.heap.get? b=some o ->h'.get? b=some o) ->Q (.ref s.heap.objs.size) {s with heap:=h',toks:=tk}):
  wpAny (model prog w) A (call (.type "set") [.ref l]) Q E s:=by
 obtain ⟨c,tl,c4⟩:=PySem.F.called_set.mro;have b8:=PySem.F.called_set.made;have c7:=PySem.F.called_set.sub;refine wpAny_call (codeAny_of_tree ?_);show wpAny _ _ (callAny (.type "set") _) _ _ _;refine z4e ⟨Code.quiet_builtin _ (by decide+kernel),z39 PySem.F.entry_type_call ?_⟩;rw [Around.under_plain (weight_type_call_type "set" [.ref l] []) rfl];have h1:=PySem.F.called_set.notType;have h2:=PySem.F.called_set.canCreate;have hct:=PySem.F.typeCall_set_1 (.ref l)
 repeat (any_goals (first | assumption | wp_step))
 refine z43 (qam (.ref l) (E:=E) (Q₁:=λ obj s₁=>obj= .ref s.heap.objs.size/\s₁={s with heap:=s.heap.push {cls:= .type "set",dict:=none,data:= .set #[] 0 (.fresh 0 0 (!q1h w))}}) ⟨rfl,rfl⟩) λ r s₁ hr=> ?_;cases r with
 | error e=>exact hr
 | ok fl=>
  cases fl with
  | ret obj=>
   obtain ⟨rfl,rfl⟩:=hr;have hS:(s.heap.push {cls:= .type "set",dict:=none,data:= .set #[] 0 (.fresh 0 0 (!q1h w))}).get? s.heap.objs.size=some {cls:= .type "set",dict:=none,data:= .set #[] 0 (.fresh 0 0 (!q1h w))}:=z1c _ rfl;have hT:Shared.TypeIs {s with heap:=s.heap.push {cls:= .type "set",dict:=none,data:= .set #[] 0 (.fresh 0 0 (!q1h w))}} (.ref s.heap.objs.size) "set":=⟨_,hS,rfl⟩;have hli:=PySem.F.called_set.init.lookup;have hbi:=PySem.F.called_set.init.bind (.ref s.heap.objs.size)
   repeat (any_goals (first | assumption | wp_step))
   refine z43 (codeAny_call_builtin (R:=wants (λ r s₂=>r= .none/\∃ h' tk ys,s₂={s with heap:=h',toks:=tk}/\TxS prog w h' s.heap.objs.size ys/\InS (λ i=>ws.getD i "") D.size ys/\
     (∀ b o,b < s.heap.objs.size ->s.heap.get? b=some o ->h'.get? b=some o)) E) PySem.F.called_set.init.plain PySem.F.entry_set_init (check_set_init_1 hT ?_)) λ r₂ s₂ Z=> ?_
   ·obtain ⟨ol,a6,a1,nl,a2⟩:=hl;obtain ⟨c8,a0,b9,J⟩:=ol;simp only at a1 a2;subst a1;subst a2;have a7:(s.heap.push {cls:= .type "set",dict:=none,data:= .set #[] 0 (.fresh 0 0 (!q1h w))}).get? l=some {cls:= .type "list",dict:=a0,data:= .seq D nl,slots:=J}:=z0o _ a6;have c6:=sub_list_set';have c5:=sub_list_frozenset';have hne:(Value.type "list"==Value.type "dict")=false:=by decide
    have a3:(s.heap.push {cls:= .type "set",dict:=none,data:= .set #[] 0 (.fresh 0 0 (!q1h w))}).IsList l D:=⟨_,a7,rfl,nl,rfl⟩;unfold Builtin.«set.__init__» noKeywords Builtin.Frozenset.updateFrom;generalize b2:pyIter=PI
    wp_walk
    subst b2;refine z25 a3 ?_;refine z4f (wpAny_runValue ?_);have a4:l < s.heap.objs.size:=z3z a6;have b6:A.in1.in1.in1.handled=none:=by simp [hh]
    have a5:l≠(s.heap.push {cls:= .type "set",dict:=none,data:= .set #[] 0 (.fresh 0 0 (!q1h w))}).objs.size:=by
     rw [z3f];exact z40 (z2e a4)
    have b3:s.heap.objs.size∉ [(s.heap.push {cls:= .type "set",dict:=none,data:= .set #[] 0 (.fresh 0 0 (!q1h w))}).objs.size,l]:=by
     rw [z3f];simp only [z3n,z1m,z2r,or_false,not_or];exact ⟨z40 (z2l _),z42 a4⟩
    have a8:∀ (i:Nat) (v:Value),D[i]? =some v ->∃ t,v= .str ((λ i=>ws.getD i "") i) t:=λ i v hv=>qrh hi i v (by rw [z0x];exact hv);refine ql1 ((Walks.list b6 _ l a5 D).toS) s.heap.objs.size b3 (λ i=>ws.getD i "") a8 hb (D.size - 0) 0 _ [] (by omega) (z4b _)
     ⟨⟨_,z1c _ rfl,rfl,rfl⟩,(a3.push _)⟩ (qhx (z0o _ hS)) ⟨λ x=>⟨(λ z=>nomatch z),λ ⟨j,z,_⟩=>absurd z (Nat.not_lt_zero _)⟩,z48 _⟩ ?hR
    case hR=>
     intro s' zs hm O hz;obtain ⟨h',g',d',c1,c0⟩:=s';have eg:g'=s.gens:=hm.gens;have ed:d'=s.drawn:=hm.drawn;have eo:c0=s.os:=hm.os;subst eg;subst ed;subst eo;show wpAny _ _ _ _ _ _;refine z4e ?_;show wpAny _ _ (ret Value.none) _ _ _;refine z4e ⟨zf,h',c1,zs,zf,O,hz,λ b o hb e=> ?_⟩;have b4:b≠s.heap.objs.size:=z40 hb;have b5:b≠(s.heap.push {cls:= .type "set",dict:=none,data:= .set #[] 0 (.fresh 0 0 (!q1h w))}).objs.size:=by
      rw [z3f];exact z40 (z2e hb)
     exact hm.heap b o (by simp only [z3n,z1m,z2r,or_false,not_or];exact ⟨b4,b5⟩) (z0o _ (z0o _ e))
   ·cases r₂ with
    | error e=>exact Z
    | ok a9=>
     cases a9 with
     | ret r=>
      obtain ⟨rfl,h',tk,ys,rfl,O,hz,b7⟩:=Z
      repeat (any_goals (first | assumption | wp_step))
      exact h _ _ _ O hz b7
     | _=>exact Z.elim
  | _=>exact hr.elim
end
theorem sub_tuple_set':isSubtype (.type "tuple") (.type "set")=pure false:=by rw [isSubtype_type];kernel_rfl
theorem sub_tuple_frozenset':isSubtype (.type "tuple") (.type "frozenset")=pure false:=by rw [isSubtype_type];kernel_rfl
section
variable {prog:Program} {w:World} {A:Around} {E:Value ->Shared ->Prop} {s:Shared}
set_option maxHeartbeats 3200000 in
theorem qpc {l:Addr} {D:Array Value} {ws:List Str} {Q:Value ->Shared ->Prop} (hh:A.handled=none) (hl:s.heap.IsTuple l D) (hi:StrsAre D.toList ws) (hb:D.size+1 < scanBound)
  (h:∀ (h':Heap) (tk:Nat) (ys:List Str),TxS prog w h' s.heap.objs.size ys ->InS (λ i=>ws.getD i "") D.size ys ->(∀ b o,b < s.heap.objs.size ->s.heap.get? b=some o ->h'.get? b=some o) ->Q (.ref s.heap.objs.size) {s with heap:=h',toks:=tk}):
  wpAny (model prog w) A (call (.type "set") [.ref l]) Q E s:=by
 obtain ⟨c,tl,c4⟩:=PySem.F.called_set.mro;have b8:=PySem.F.called_set.made;have c7:=PySem.F.called_set.sub;refine wpAny_call (codeAny_of_tree ?_);show wpAny _ _ (callAny (.type "set") _) _ _ _;refine z4e ⟨Code.quiet_builtin _ (by decide+kernel),z39 PySem.F.entry_type_call ?_⟩;rw [Around.under_plain (weight_type_call_type "set" [.ref l] []) rfl];have h1:=PySem.F.called_set.notType;have h2:=PySem.F.called_set.canCreate;have hct:=PySem.F.typeCall_set_1 (.ref l)
 repeat (any_goals (first | assumption | wp_step))
 refine z43 (qam (.ref l) (E:=E) (Q₁:=λ obj s₁=>obj= .ref s.heap.objs.size/\s₁={s with heap:=s.heap.push {cls:= .type "set",dict:=none,data:= .set #[] 0 (.fresh 0 0 (!q1h w))}}) ⟨rfl,rfl⟩) λ r s₁ hr=> ?_;cases r with
 | error e=>exact hr
 | ok fl=>
  cases fl with
  | ret obj=>
   obtain ⟨rfl,rfl⟩:=hr;have hS:(s.heap.push {cls:= .type "set",dict:=none,data:= .set #[] 0 (.fresh 0 0 (!q1h w))}).get? s.heap.objs.size=some {cls:= .type "set",dict:=none,data:= .set #[] 0 (.fresh 0 0 (!q1h w))}:=z1c _ rfl;have hT:Shared.TypeIs {s with heap:=s.heap.push {cls:= .type "set",dict:=none,data:= .set #[] 0 (.fresh 0 0 (!q1h w))}} (.ref s.heap.objs.size) "set":=⟨_,hS,rfl⟩;have hli:=PySem.F.called_set.init.lookup;have hbi:=PySem.F.called_set.init.bind (.ref s.heap.objs.size)
   repeat (any_goals (first | assumption | wp_step))
   refine z43 (codeAny_call_builtin (R:=wants (λ r s₂=>r= .none/\∃ h' tk ys,s₂={s with heap:=h',toks:=tk}/\TxS prog w h' s.heap.objs.size ys/\InS (λ i=>ws.getD i "") D.size ys/\
     (∀ b o,b < s.heap.objs.size ->s.heap.get? b=some o ->h'.get? b=some o)) E) PySem.F.called_set.init.plain PySem.F.entry_set_init (check_set_init_1 hT ?_)) λ r₂ s₂ Z=> ?_
   ·obtain ⟨ol,a6,a1,nl,a2⟩:=hl;obtain ⟨c8,a0,b9,J⟩:=ol;simp only at a1 a2;subst a1;subst a2;have a7:(s.heap.push {cls:= .type "set",dict:=none,data:= .set #[] 0 (.fresh 0 0 (!q1h w))}).get? l=some {cls:= .type "tuple",dict:=a0,data:= .seq D nl,slots:=J}:=z0o _ a6;have c6:=sub_tuple_set';have c5:=sub_tuple_frozenset';have hne:(Value.type "tuple"==Value.type "dict")=false:=by decide
    have a3:(s.heap.push {cls:= .type "set",dict:=none,data:= .set #[] 0 (.fresh 0 0 (!q1h w))}).IsTuple l D:=⟨_,a7,rfl,nl,rfl⟩;unfold Builtin.«set.__init__» noKeywords Builtin.Frozenset.updateFrom;generalize b2:pyIter=PI
    wp_walk
    subst b2;refine wpAny_pyIter_tuple a3 ?_;refine z4f (wpAny_runValue ?_);have a4:l < s.heap.objs.size:=z3z a6;have b6:A.in1.in1.in1.handled=none:=by simp [hh]
    have a5:l≠(s.heap.push {cls:= .type "set",dict:=none,data:= .set #[] 0 (.fresh 0 0 (!q1h w))}).objs.size:=by
     rw [z3f];exact z40 (z2e a4)
    have b3:s.heap.objs.size∉ [(s.heap.push {cls:= .type "set",dict:=none,data:= .set #[] 0 (.fresh 0 0 (!q1h w))}).objs.size,l]:=by
     rw [z3f];simp only [z3n,z1m,z2r,or_false,not_or];exact ⟨z40 (z2l _),z42 a4⟩
    have a8:∀ (i:Nat) (v:Value),D[i]? =some v ->∃ t,v= .str ((λ i=>ws.getD i "") i) t:=λ i v hv=>qrh hi i v (by rw [z0x];exact hv);refine ql1 ((Walks.tuple b6 _ l a5 D).toS) s.heap.objs.size b3 (λ i=>ws.getD i "") a8 hb (D.size - 0) 0 _ [] (by omega) (z4b _)
     ⟨⟨_,z1c _ rfl,rfl,rfl⟩,(a3.push _)⟩ (qhx (z0o _ hS)) ⟨λ x=>⟨(λ z=>nomatch z),λ ⟨j,z,_⟩=>absurd z (Nat.not_lt_zero _)⟩,z48 _⟩ ?hR
    case hR=>
     intro s' zs hm O hz;obtain ⟨h',g',d',c1,c0⟩:=s';have eg:g'=s.gens:=hm.gens;have ed:d'=s.drawn:=hm.drawn;have eo:c0=s.os:=hm.os;subst eg;subst ed;subst eo;show wpAny _ _ _ _ _ _;refine z4e ?_;show wpAny _ _ (ret Value.none) _ _ _;refine z4e ⟨zf,h',c1,zs,zf,O,hz,λ b o hb e=> ?_⟩;have b4:b≠s.heap.objs.size:=z40 hb;have b5:b≠(s.heap.push {cls:= .type "set",dict:=none,data:= .set #[] 0 (.fresh 0 0 (!q1h w))}).objs.size:=by
      rw [z3f];exact z40 (z2e hb)
     exact hm.heap b o (by simp only [z3n,z1m,z2r,or_false,not_or];exact ⟨b4,b5⟩) (z0o _ (z0o _ e))
   ·cases r₂ with
    | error e=>exact Z
    | ok a9=>
     cases a9 with
     | ret r=>
      obtain ⟨rfl,h',tk,ys,rfl,O,hz,b7⟩:=Z
      repeat (any_goals (first | assumption | wp_step))
      exact h _ _ _ O hz b7
     | _=>exact Z.elim
  | _=>exact hr.elim
end
theorem q9x {α:Type}:∀ (l:List α) (i:Nat) (h:i < l.length),(l[i]::l.eraseIdx i).Perm l
 | x::r,0,_=> .refl _
 | x::r,i+1,h=>(List.Perm.swap x _ _).trans (List.Perm.cons x (q9x r i (Nat.lt_of_succ_lt_succ h)))
section
variable {M:Model} {A:Around} {E:Value ->Shared ->Prop}
theorem qpd {s:Shared} {D:Source} {n:Nat} {Q:Nat ->Shared ->Prop} (hn:n≠0) (h:∀ i d,i < n ->Q i {s with drawn:=d}):wpAny M A (choose D n) Q E s:=
 λ _ _ _=>⟨hn,h _ _ (Nat.mod_lt _ (Nat.pos_of_ne_zero hn))⟩
theorem ql2 {α:Type}:∀ (n:Nat) (xs:List α) (s:Shared) (Q:List α ->Shared ->Prop),n=xs.length ->(∀ ys d,ys.Perm xs ->Q ys {s with drawn:=d}) ->wpAny M A (drawOrder n xs) Q E s
 | 0,xs,s,Q,e,h=>by
  have:xs=[]:=z0k.mp e.symm;subst this;exact z4e (h [] s.drawn (.refl _))
 | n+1,[],s,Q,e,h=>by cases e
 | n+1,x::r,s,Q,e,h=>by
  unfold drawOrder;refine z4f (qpd (by simp) λ i d hi=> ?_);have hx:(x::r)[i]? =some (x::r)[i]:=z0d hi;rw [hx]
  dsimp only
  refine z4f (ql2 n _ _ _ (by rw [List.length_eraseIdx,if_pos hi];exact (Nat.succ.inj e)) λ ys d2 hp=>z4e ?_);exact h _ d2 ((List.Perm.cons _ hp).trans (q9x _ _ hi))
end
theorem qnx {α:Type} (next:Nat ->Nat):∀ (n k:Nat) (left:List α) (out:Array α),n=left.length ->(pickOrder.go next n k left out).toList.Perm (out.toList++left)
 | 0,k,left,out,e=>by
  have:left=[]:=z0k.mp e.symm;subst this;unfold pickOrder.go;rw [z31]
 | n+1,k,left,out,e=>by
  unfold pickOrder.go;have hi:next k%left.length < left.length:=Nat.mod_lt _ (by omega);rw [z0d hi]
  dsimp only
  refine (qnx next n (k+1) _ _ (by rw [List.length_eraseIdx,if_pos hi];omega)).trans ?_;rw [z20,z1y];exact List.Perm.append_left _ (q9x _ _ hi)
theorem q8u {α:Type} (next:Nat ->Nat) (xs:Array α):(pickOrder next xs).toList.Perm xs.toList:=by
 unfold pickOrder;have:=qnx next xs.size 0 xs.toList #[] (by simp)
 simpa using this
section
variable {prog:Program} {w:World} {A:Around} {E:Value ->Shared ->Prop} {s:Shared} {a:Addr}
theorem qmx {o:Obj} {es:Array (Int×Value)} {ep:Nat} {t:SetTable} {Q:Bool ->Shared ->Prop} (ho:s.heap.get? a=some o) (hd:o.data= .set es ep t) (hf:t.fits es.size=true) (h:Q (!q1h w&&(!t.plain&&decide (es.size > 1))) s):
  wpAny (model prog w) A (setDrawn a) Q E s:=by
 unfold setDrawn setsByText;refine z4f (z2c ho hd hf ?_);exact z4f (z4f (z2s (z4e (z4e h))))
end
theorem q2f:Slot "set_iterator" "__next__" "set_iterator.__next__":=
 .of (owner:="set_iterator") (n:="__next__") (by rw [typeLookup_type,builtinLookup_eq_fast];kernel_rfl) (by decide+kernel) (by decide+kernel) (by decide+kernel)
  (by first | exact .inl (by decide+kernel) | exact .inr (by decide+kernel)) (by rw [isSubtype_type];kernel_rfl)
theorem q6w:entryFor table "set_iterator.__next__"=some Builtin.«set_iterator.__next__»:=entryFor_of_tree (by kernel_rfl)
theorem ql3:Manifest.owners.lookup (String.ofList ['r','o','t','a','r','e','t','i','_','t','e','s'].reverse)=some Manifest.sig_set_iterator:=by kernel_rfl
theorem q80 (a:Value):argsOk "set_iterator.__next__" ⟨[a],[]⟩:=by
 unfold argsOk;rw [signature?_of (id:="set_iterator.__next__") (n:=['_','_','t','x','e','n','_','_']) (o:=['r','o','t','a','r','e','t','i','_','t','e','s']) (by kernel_rfl) ql3]
 kernel_rfl
theorem qg5:entryFor table "set.__iter__"=some Builtin.«frozenset.__iter__»:=entryFor_alias (id':="frozenset.__iter__") (by kernel_rfl) rfl (by decide+kernel) (by kernel_rfl)
section
variable {prog:Program} {w:World} {A:Around} {E:Value ->Shared ->Prop} {s:Shared} {a I:Addr} {es:Array (Int×Value)} {ep:Nat} {t:SetTable}
def q2i (first:Value) (i:Nat) (a:Addr) (n ep:Nat):Obj:={cls:= .type "set_iterator",data:= .fields #[first,.int i 0,.ref a,.int n 0,.int ep 0]}
def q6m (ps:List Nat):Obj:={cls:= .type "tuple",data:= .seq (ps.map λ (i:Nat)=>rawInt i).toArray}
theorem qtq {o:Obj} {Q:Value ->Shared ->Prop} (ho:s.heap.get? a=some o) (J:o.ExactSet) (hd:o.data= .set es ep t) (hf:t.fits es.size=true) (hsz:es.size<=sizeLine)
  (h1:(!q1h w&&(!t.plain&&decide (es.size > 1)))=true ->∀ (ps:List Nat) (d:Drawn),ps.Perm (List.range es.size) ->Q (.ref (s.heap.objs.size+1)) {s with heap:=(s.heap.push (q6m ps)).push (q2i (.ref s.heap.objs.size) 0 a es.size ep),drawn:=d})
  (h0:(!q1h w&&(!t.plain&&decide (es.size > 1)))=false ->Q (.ref s.heap.objs.size) {s with heap:=s.heap.push (q2i (.int 0 0) 0 a es.size ep)}):wpAny (model prog w) A (pyIter (.ref a)) Q E s:=by
 have ty:s.TypeIs (.ref a) "set":=⟨o,ho,J.1⟩;refine wpAny_pyIter_slot ty PySem.F.slot_set_iter (z2o PySem.F.slot_set_iter ty qg5 ?_ (PySem.F.args_set_iter_1 _));unfold Builtin.«frozenset.__iter__» Builtin.Frozenset.slot0 Builtin.Frozenset.sizeOf;refine z4f (z4f ?_);show wpAny _ _ (pure (Value.ref a,([]:List Value))) _ _ s;refine z4e ?_;refine z4e ?_;refine z4f (z4f (z1h ho hd hf (z4e ?_)));refine z4f (qmx ho hd hf ?_);have fin:∀ (first:Value) (D:Shared),(∀ O,s.heap.get? a=some O ->D.heap.get? a=some O) ->Q (.ref D.heap.objs.size) {D with heap:=D.heap.push (q2i first 0 a es.size ep)} ->
   wpAny (model prog w) A.in1 (do ret (<- newFields "set_iterator" [first,rawInt 0,.ref a,rawInt es.size,rawInt (<- setEpoch a)])) (λ fin s'=>∃ v,fin=Fin.done (Flow.ret v)/\∃ Z r,s'.TypeIs v Z/\typeLookup (.type Z) "__next__"=pure (some r)/\Q v s') E D:=λ first D hk hq=>by
  refine z4f (wpAny_setEpoch_of (hk _ ho) hd hf ?_);refine z4f (z28 (z4e ⟨_,zf,"set_iterator",_,⟨_,z1c _ rfl,zf⟩,q2f.lookup,?_⟩))
  simpa [rawInt,q2i] using hq
 cases hc:(!q1h w&&(!t.plain&&decide (es.size > 1))) with
 | true=>
  simp only [if_true];refine z4f (ql2 es.size _ _ _ (by simp) λ ps d hp=> ?_);simp only [newTuple];refine z4f (z28 ?_ ?_)
  ·refine fin _ _ (λ O e=>z0o _ e) ?_;have:=h1 hc ps d hp;show Q (.ref (s.heap.push (q6m ps)).objs.size) {s with heap:=(s.heap.push (q6m ps)).push (q2i (.ref s.heap.objs.size) 0 a es.size ep),drawn:=d};rw [z3f];exact this
  ·show (List.map (λ (i:Nat)=>rawInt i) ps).toArray.size<=sizeLine;rw [z23,z30,hp.length_eq,z29];exact hsz
 | false=>
  simp only [z1k,if_false];refine z4f (z4e ?_);exact fin _ s (λ _ e=>e) (h0 hc)
end
section
variable {prog:Program} {w:World} {A:Around} {E:Value ->Shared ->Prop} {s:Shared} {a I T:Addr} {es:Array (Int×Value)} {ep i:Nat} {t:SetTable} {o:Obj}
theorem qim {ps:List Nat} {p:Nat} {h:Int} {x:Value} {Q:Option Value ->Shared ->Prop} (D:s.heap.get? I=some (q2i (.ref T) i a es.size ep)) (hT:s.heap.get? T=some (q6m ps)) (ho:s.heap.get? a=some o) (hd:o.data= .set es ep t) (hf:t.fits es.size=true)
  (hp:ps[i]? =some p) (hx:es[p]? =some (h,x))
  (q:∀ h',h'.get? I=some (q2i (.ref T) (i+1) a es.size ep) ->Heap.SameBut I s.heap h' ->Q (some x) {s with heap:=h'}):wpAny (model prog w) A (pyNext (.ref I)) Q E s:=by
 have ty:s.TypeIs (.ref I) "set_iterator":=⟨_,D,rfl⟩;unfold pyNext;refine z4f (z3m (wpAny_callSpecial?_slot (name:=Str.ofString "__next__") ty q2f (z2o q2f ty q6w ?_ (q80 _))));unfold Builtin.«set_iterator.__next__»;refine z4f (z4e ?_);refine z4f (wpAny_fieldsOf D rfl ?_)
 dsimp only [z1g]
 refine z4f (z1h ho hd hf ?_);rw [if_neg (by simp)];have J:((ps.map λ (i:Nat)=>rawInt i).toArray)[i]? =some (rawInt p):=by
  rw [List.getElem?_toArray,z22,hp];rfl
 refine z4f (wpAny_seqItems hT rfl ?_)
 dsimp only
 rw [z26,J];show wpAny _ _ (setNextDrawn a ((p:Int)).toNat ((ep:Int)).toNat >>=_) _ _ s;rw [z26,z26];unfold setNextDrawn;refine z4f (z4f (z2c ho hd hf ?_))
 dsimp only
 rw [if_neg (by simp),hx];refine z4e ?_;refine z4f (z3i D rfl (by simp) ?_);refine z4e ⟨_,zf,z4e (q _ ?_ (z1b ..))⟩;have:=z0z (Obj.mapFields (·.setIfInBounds 1 (rawInt ((i:Int)+1)))) D rfl;exact this
theorem qet {Q:Option Value ->Shared ->Prop} (hh:A.handled=none) (q:∀ h',(∀ b o,s.heap.get? b=some o ->h'.get? b=some o) ->Q none {s with heap:=h'}):
  wpAny (model prog w) A.in1 (newExc (.type "StopIteration") [] >>=raiseNew (α:=Fin)) (λ fin s'=>∃ v,fin=Fin.done (Flow.ret v)/\wpAny (model prog w) A (pure (some v)) Q E s')
   (λ e s'=>wpAny (model prog w) A (do let d <- isInstance e (.type "StopIteration");if d=true then pure none else throw e) Q E s') s:=by
 refine z4f ?_;simp only [newExc,newTuple];refine z4f (z28 ?_ (by size_fits));refine z4f (m:=firstArgMember _ _) (wpAny_of_eq (a:=Value.none) (by first | rfl | (simp only [firstArgMember];rfl)) ?_);refine z28 ?_ (by size_fits);simp only [raiseNew];refine z4f (wpAny_handled ?_);rw [show A.in1.handled=none from hh];refine z4f (z4e (wpAny_throw ?_));refine z4f (wpAny_isInstance (T:="StopIteration") (b:=true) ⟨_,z1c _ rfl,zf⟩ isSubtype_stop ?_);exact z4e (q _ λ b o e=>z0o _ (z0o _ e))
theorem ql4 {ps:List Nat} {Q:Option Value ->Shared ->Prop} (hh:A.handled=none) (D:s.heap.get? I=some (q2i (.ref T) i a es.size ep)) (hT:s.heap.get? T=some (q6m ps)) (ho:s.heap.get? a=some o) (hd:o.data= .set es ep t) (hf:t.fits es.size=true)
  (hp:ps[i]? =none) (q:∀ h',(∀ b o,b≠I ->s.heap.get? b=some o ->h'.get? b=some o) ->Q none {s with heap:=h'}):wpAny (model prog w) A (pyNext (.ref I)) Q E s:=by
 have ty:s.TypeIs (.ref I) "set_iterator":=⟨_,D,rfl⟩;unfold pyNext;refine z4f (z3m (wpAny_callSpecial?_slot (name:=Str.ofString "__next__") ty q2f (z2o q2f ty q6w ?_ (q80 _))));unfold Builtin.«set_iterator.__next__»;refine z4f (z4e ?_);refine z4f (wpAny_fieldsOf D rfl ?_)
 dsimp only [z1g]
 refine z4f (z1h ho hd hf ?_);rw [if_neg (by simp)];have J:((ps.map λ (i:Nat)=>rawInt i).toArray)[i]? =none:=by
  rw [List.getElem?_toArray,z22,hp];rfl
 refine z4f (wpAny_seqItems hT rfl ?_)
 dsimp only
 rw [z26,J]
 dsimp only
 have g1:=z0z (Obj.mapFields (·.setIfInBounds 0 (rawInt 0))) D rfl;refine z4f (z3i D rfl (by simp) ?_);refine z4f (z3i g1 rfl (by simp) ?_);refine qet hh λ h' k=>q h' λ b o hb e=>k b o ?_;exact (((z1b ..).trans (z1b ..)).2 b hb).trans e
def qzm (w:World) (a:Addr) (es:Array (Int×Value)) (ep:Nat) (t:SetTable) (k i:Nat) (nx:Option (Value×Nat)):Prop:=
 (q1h w=true/\nx=((pickOrder (w.params.setOrder a ep) es)[i]?).map λ e=>(e.2,k))\/
 (q1h w=false/\(!t.plain&&decide (es.size > 1))=false/\(!t.led&& !es.isEmpty)=false/\nx=match es[SetTable.below t.place k]?,t.place[SetTable.below t.place k]? with
  | some (_,x),some j=>some (x,j+1)
  | _,_=>none)
theorem q9y {k:Nat} {nx:Option (Value×Nat)} {Q:Option Value ->Shared ->Prop} (hh:A.handled=none) (hI:s.heap.get? I=some (q2i (.int k 0) i a es.size ep)) (ho:s.heap.get? a=some o) (hd:o.data= .set es ep t) (hf:t.fits es.size=true) (hn:qzm w a es ep t k i nx)
  (q1:∀ x j h',nx=some (x,j) ->h'.get? I=some (q2i (.int j 0) (i+1) a es.size ep) ->Heap.SameBut I s.heap h' ->Q (some x) {s with heap:=h'})
  (q0:nx=none ->∀ h',(∀ b o,b≠I ->s.heap.get? b=some o ->h'.get? b=some o) ->Q none {s with heap:=h'}):wpAny (model prog w) A (pyNext (.ref I)) Q E s:=by
 have ty:s.TypeIs (.ref I) "set_iterator":=⟨_,hI,rfl⟩;unfold pyNext;refine z4f (z3m (wpAny_callSpecial?_slot (name:=Str.ofString "__next__") ty q2f (z2o q2f ty q6w ?_ (q80 _))));unfold Builtin.«set_iterator.__next__»;refine z4f (z4e ?_);refine z4f (wpAny_fieldsOf hI rfl ?_)
 dsimp only [z1g]
 refine z4f (z1h ho hd hf ?_);rw [if_neg (by simp)];refine z4f ?_;have O:∀ x (j:Nat),nx=some (x,j) ->wpAny (model prog w) A.in1 (do
     setField (Value.ref I) 0 (rawInt j)
     setField (Value.ref I) 1 (rawInt ((i:Int)+1))
     ret x) (λ fin s'=>∃ v,fin=Fin.done (Flow.ret v)/\wpAny (model prog w) A (pure (some v)) Q E s')
    (λ e s'=>wpAny (model prog w) A (do let d <- isInstance e (.type "StopIteration");if d=true then pure none else throw e) Q E s') s:=λ x j en=>by
  have g1:=z0z (Obj.mapFields (·.setIfInBounds 0 (rawInt j))) hI rfl;have g2:=z0z (Obj.mapFields (·.setIfInBounds 1 (rawInt ((i:Int)+1)))) g1 rfl;refine z4f (z3i hI rfl (by simp) ?_);refine z4f (z3i g1 rfl (by simp) ?_);exact z4e ⟨_,zf,z4e (q1 x j _ en g2 ((z1b ..).trans (z1b ..)))⟩
 have J:nx=none ->wpAny (model prog w) A.in1 (do
     setField (Value.ref I) 2 Value.none
     let d <- newExc (Value.type "StopIteration") []
     raiseNew d) (λ fin s'=>∃ v,fin=Fin.done (Flow.ret v)/\wpAny (model prog w) A (pure (some v)) Q E s')
    (λ e s'=>wpAny (model prog w) A (do let d <- isInstance e (.type "StopIteration");if d=true then pure none else throw e) Q E s') s:=λ en=>by
  refine z4f (z3i hI rfl (by simp) ?_);refine qet hh λ h' k=>q0 en h' λ b o Z e=>k b o ?_;exact ((z1b ..).2 b Z).trans e
 unfold setNext;refine z4f (z2c ho hd hf ?_);unfold setsByText;refine z4f (z4f (z2s (z4e ?_)));rcases hn with ⟨Z,D⟩ | ⟨Z,h1,h2,D⟩
 ·rw [if_pos (show ({program:=(model prog w).prog,params:=(model prog w).w.params}:Setting).params.followText "set-order"=true from Z)]
  dsimp only
  rw [if_neg (by simp)];unfold setWalk;refine z4f (z4f (z2c ho hd hf ?_));unfold setsByText;refine z4f (z4f (z2s (z4e ?_)));rw [if_pos (show ({program:=(model prog w).prog,params:=(model prog w).w.params}:Setting).params.followText "set-order"=true from Z)];refine z4f (z2s (z4e (z4e ?_)))
  dsimp only
  have e':(pickOrder ((model prog w).w.params.setOrder a ep) es)[(i:Int).toNat]? =(pickOrder (w.params.setOrder a ep) es)[i]? :=by
   rw [z26];rfl
  rw [e'];cases e:(pickOrder (w.params.setOrder a ep) es)[i]? with
  | none=>
   rw [e] at D;exact J D
  | some y=>
   rw [e] at D;exact O y.2 _ D
 ·rw [if_neg (show ¬ ({program:=(model prog w).prog,params:=(model prog w).w.params}:Setting).params.followText "set-order"=true from by rw [show ({program:=(model prog w).prog,params:=(model prog w).w.params}:Setting).params.followText "set-order"=false from Z];exact z1l)]
  dsimp only
  show wpAny _ _ (if (!t.plain&&decide (es.size > 1))=true then _ else _) _ _ s;rw [if_neg (by rw [h1];exact z1l)];show wpAny _ _ ((if (!t.led&& !es.isEmpty)=true then unsupported _ else pure ()) >>=_) _ _ s;rw [if_neg (by rw [h2];exact z1l)];refine z4f (z4e (z4e ?_));rw [z26];cases e1:es[SetTable.below t.place k]? with
  | none=>
   rw [e1] at D;exact J D
  | some y=>
   cases e2:t.place[SetTable.below t.place k]? with
   | none=>
    rw [e1,e2] at D;exact J D
   | some j=>
    rw [e1,e2] at D;exact O y.2 _ D
end
theorem qbd:Slot "set_iterator" "__iter__" "set_iterator.__iter__":=
 .of (owner:="set_iterator") (n:="__iter__") (by rw [typeLookup_type,builtinLookup_eq_fast];kernel_rfl) (by decide+kernel) (by decide+kernel) (by decide+kernel)
  (by first | exact .inl (by decide+kernel) | exact .inr (by decide+kernel)) (by rw [isSubtype_type];kernel_rfl)
theorem qin:entryFor table "set_iterator.__iter__"=some Builtin.«dict_keyiterator.__iter__»:=entryFor_alias (id':="dict_keyiterator.__iter__") (by kernel_rfl) rfl (by decide+kernel) (by kernel_rfl)
theorem ql5 (a:Value):argsOk "set_iterator.__iter__" ⟨[a],[]⟩:=by
 unfold argsOk;rw [signature?_of (id:="set_iterator.__iter__") (n:=['_','_','r','e','t','i','_','_']) (o:=['r','o','t','a','r','e','t','i','_','t','e','s']) (by kernel_rfl) ql3]
 kernel_rfl
section
variable {prog:Program} {w:World} {A:Around} {E:Value ->Shared ->Prop} {s:Shared} {a I T:Addr} {es:Array (Int×Value)} {ep:Nat} {t:SetTable} {o:Obj}
theorem qg6 {first:Value} {i n:Nat} {Q:Value ->Shared ->Prop} (hI:s.heap.get? I=some (q2i first i a n ep)) (h:Q (.ref I) s):wpAny (model prog w) A (pyIter (.ref I)) Q E s:=by
 have ty:s.TypeIs (.ref I) "set_iterator":=⟨_,hI,rfl⟩;refine wpAny_pyIter_slot ty qbd (z2o qbd ty qin ?_ (ql5 _));show wpAny _ _ (ret (.ref I)) _ _ s;exact z4e ⟨_,zf,"set_iterator",_,ty,q2f.lookup,h⟩
theorem qmy {ps:List Nat} (hh:A.handled=none) (hT:T≠I) (ha:a≠I) (hd:o.data= .set es ep t) (hf:t.fits es.size=true) (O:ps.Perm (List.range es.size)):
  Walks prog w A I [I,T,a] [I] es.size (λ i v=>∃ p h,ps[i]? =some p/\es[p]? =some (h,v)) (λ i h=>h.get? I=some (q2i (.ref T) i a es.size ep)/\h.get? T=some (q6m ps)/\h.get? a=some o) where
 sub:=λ b D=>by simp at D;simp [D]
 frame:=λ _ _ _ st hk=>⟨hk I (by simp) _ st.1,hk T (by simp) _ st.2.1,hk a (by simp) _ st.2.2⟩
 item:=λ i s Q E hi st J=>by
  have pl:ps.length=es.size:=by rw [O.length_eq,z29]
  have h1:ps[i]? =some (ps[i]'(by omega)):=z0d (by omega);have hm:ps[i]'(by omega) < es.size:=z3d.mp (O.mem_iff.mp (z2k (by omega)));generalize ps[i]'(by omega)=p at h1 hm;have h2:es[p]? =some es[p]:=z0b hm;refine qim (h:=es[p].1) (x:=es[p].2) st.1 st.2.1 st.2.2 hd hf h1 h2 λ h' g Z=> ?_;exact J _ h' s.toks ⟨p,es[p].1,h1,h2⟩ ⟨g,(Z.2 T hT).trans st.2.1,(Z.2 a ha).trans st.2.2⟩ λ b o D e=>(Z.2 b (λ z=>D (by simp [z]))).trans e
 done:=λ s Q E st J=>by
  have pl:ps.length=es.size:=by rw [O.length_eq,z29]
  exact ql4 hh st.1 st.2.1 st.2.2 hd hf (List.getElem?_eq_none (by omega)) λ h' k=>J h' s.toks λ b o D e=>k b o (λ z=>D (by simp [z])) e
 self:=λ _ _ _ _ st J=>qg6 st.1 J
theorem qpe (hh:A.handled=none) (ha:a≠I) (hd:o.data= .set es ep t) (hf:t.fits es.size=true) (J:q1h w=true):
  Walks prog w A I [I,a] [I] es.size (λ i v=>∃ e,(pickOrder (w.params.setOrder a ep) es)[i]? =some e/\v=e.2) (λ i h=>h.get? I=some (q2i (.int 0 0) i a es.size ep)/\h.get? a=some o) where
 sub:=λ b J=>by simp at J;simp [J]
 frame:=λ _ _ _ st hk=>⟨hk I (by simp) _ st.1,hk a (by simp) _ st.2⟩
 item:=λ i s Q E hi st O=>by
  have pl:(pickOrder (w.params.setOrder a ep) es).size=es.size:=by rw [<- z19,(q8u _ _).length_eq,z19]
  have h1:(pickOrder (w.params.setOrder a ep) es)[i]? =some ((pickOrder (w.params.setOrder a ep) es)[i]'(by omega)):=z0b (by omega);refine q9y (k:=0) hh st.1 st.2 hd hf (.inl ⟨J,zf⟩) (λ x j h' D g Z=> ?_) λ D=> ?_
  ·rw [h1] at D;cases D
   exact O _ h' s.toks ⟨_,h1,zf⟩ ⟨g,(Z.2 a ha).trans st.2⟩ λ b o J e=>(Z.2 b (λ z=>J (by simp [z]))).trans e
  ·rw [h1] at D;cases D
 done:=λ s Q E st O=>by
  have pl:(pickOrder (w.params.setOrder a ep) es).size=es.size:=by rw [<- z19,(q8u _ _).length_eq,z19]
  have h1:(pickOrder (w.params.setOrder a ep) es)[es.size]? =none:=z0r (by omega);refine q9y (k:=0) hh st.1 st.2 hd hf (.inl ⟨J,zf⟩) (λ x j h' D g Z=> ?_) λ D h' k=>O h' s.toks λ b o J e=>k b o (λ z=>J (by simp [z])) e;rw [h1] at D;cases D
 self:=λ _ _ _ _ st O=>qg6 st.1 O
theorem qrj (hh:A.handled=none) (ha:a≠I) (hd:o.data= .set es ep t) (hf:t.fits es.size=true) (J:q1h w=false) (hl:t.led=true) (h1:es.size<=1):
  Walks prog w A I [I,a] [I] es.size (λ i v=>∃ e,es[i]? =some e/\v=e.2) (λ i h=>h.get? I=some (q2i (.int (((if i=0 then 0 else t.place.getD 0 0+1):Nat):Int) 0) i a es.size ep)/\h.get? a=some o) where
 sub:=λ b J=>by simp at J;simp [J]
 frame:=λ _ _ _ st hk=>⟨hk I (by simp) _ st.1,hk a (by simp) _ st.2⟩
 item:=λ i s Q E hi st O=>by
  have i0:i=0:=by omega
  subst i0;have ps:t.place.size=es.size:=by
   unfold SetTable.fits at hf;simp at hf
   exact hf.1
  have e1:es[0]? =some (es[0]'(by omega)):=z0b (by omega);have e2:t.place[0]? =some (t.place.getD 0 0):=by
   rw [z0b (by omega)];simp [Array.getD,show 0 < t.place.size by omega]
  have eb:SetTable.below t.place 0=0:=by
   unfold SetTable.below;rw [show t.place.size=1 by omega];simp [SetTable.below.go]
  refine q9y (k:=0) hh st.1 st.2 hd hf (.inr ⟨J,by simp;omega,by rw [hl];rfl,rfl⟩) (λ x j h' D g Z=> ?_) λ D=> ?_
  ·rw [eb,e1,e2] at D;cases D
   exact O _ h' s.toks ⟨_,e1,zf⟩ ⟨g,(Z.2 a ha).trans st.2⟩ λ b o J e=>(Z.2 b (λ z=>J (by simp [z]))).trans e
  ·rw [eb,e1,e2] at D;cases D
 done:=λ s Q E st O=>by
  have ps:t.place.size=es.size:=by
   unfold SetTable.fits at hf;simp at hf
   exact hf.1
  refine q9y hh st.1 st.2 hd hf (.inr ⟨J,by simp;omega,by rw [hl];rfl,rfl⟩) (λ x j h' D g Z=> ?_) λ D h' k=>O h' s.toks λ b o J e=>k b o (λ z=>J (by simp [z])) e;have e0:es[SetTable.below t.place (if es.size=0 then 0 else t.place.getD 0 0+1)]? =none:=by
   by_cases z:es.size=0
   ·exact z0r (by omega)
   ·rw [if_neg z];have:SetTable.below t.place (t.place.getD 0 0+1)=1:=by
     unfold SetTable.below;rw [show t.place.size=1 by omega];simp [SetTable.below.go,Array.getD,show 0 < t.place.size by omega]
    rw [this];exact z0r (by omega)
  rw [e0] at D;cases D
 self:=λ _ _ _ _ st O=>qg6 st.1 O
end
section
variable {prog:Program} {w:World} {A:Around} {E:Value ->Shared ->Prop} {s:Shared} {a:Addr} {xs:List Str}
theorem qtr {Q:Bool ->Shared ->Prop} (O:s.TypeIs (.ref a) "set") (h:Q false s):wpAny (model prog w) A (Builtin.List.listLengthHint (.ref a)) Q E s:=by
 unfold Builtin.List.listLengthHint;refine z4f (wpAny_specialOf O PySem.F.slot_set_len.lookup ?_);generalize J:("set.__len__":String)=Z
 wp_delta
 rw [show splitId Z=some ("set","__len__") from by subst J;decide+kernel];subst J;refine z4f (wpAny_isInstance (T:="set") (b:=true) O (by rw [isSubtype_type];kernel_rfl) ?_);refine wpAny_ite_split (λ D=>absurd D (by decide)) (λ _=> ?_);refine wpAny_ite_split (λ _=> ?_) (λ D=>absurd (by decide+kernel) D);refine z4f (wpAny_typeOf O ?_);exact z4e h
theorem qbe {α:Type} {L:List α} {f:α ->Value} {P:Nat ->Value ->Prop} {acc:Array Value} {n:Nat} (hn:n=L.length) (hP:∀ i v,P i v ->∃ e,L[i]? =some e/\v=f e) (ha:ItemsOf P acc n):acc.toList=L.map f:=by
 apply z21
 intro j;rw [z22,z0x];cases e:acc[j]? with
 | some v=>
  obtain ⟨e',he,rfl⟩:=hP j v (ha.2 j v e);rw [he];rfl
 | none=>
  have:acc.size<=j:=by simpa using e
  rw [ha.1] at this;rw [List.getElem?_eq_none (by omega)];rfl
def qi (prog:Program) (w:World) (A:Around) (s:Shared) (S:Addr) (xs:List Str) (it:Value) (s1:Shared):Prop:=
 ∃ (J:Addr) (fp:List Addr) (n:Nat) (P:Nat ->Value ->Prop) (St:Nat ->Heap ->Prop) (h1:Heap) (d:Drawn),it= .ref J/\s1={s with heap:=h1,drawn:=d}/\(∀ b o,s.heap.get? b=some o ->h1.get? b=some o)/\
  Walks prog w A J fp [J] n P St/\St 0 h1/\S∉fp/\s.heap.objs.size<=J/\n<=sizeLine/\∀ acc,ItemsOf P acc n ->(acc.toList.map sOf).Perm xs/\∀ v∈acc.toList,∃ x t,v= .str x t
theorem qts (hh:A.handled=none) (x:TxS prog w s.heap a xs) {S:Addr} (hS:S < s.heap.objs.size) (a0:S≠a):wpAny (model prog w) A (pyIter (.ref a)) (qi prog w A s S xs) E s:=by
 obtain ⟨o,es,ep,t,ho,a4,hd,a3,a2,hnd,hb,hf,a1,a5⟩:=x;have al:a < s.heap.objs.size:=z3z ho;have hsz:es.size<=sizeLine:=fits_of_scanBound hb;have O:∀ v∈es.toList.map (λ e=>e.2),∃ x t,v=Value.str x t:=λ v hv=>by
  obtain ⟨e,he,rfl⟩:=z45.mp hv;obtain ⟨⟨k,hk,_⟩,_⟩:=a3 e he;obtain ⟨_,t,ht⟩:=qbc hk;exact ⟨k,t,ht⟩
 have good:∀ l:List Value,l.Perm (es.toList.map λ e=>e.2) ->(l.map sOf).Perm xs/\∀ v∈l,∃ x t,v=Value.str x t:=λ l Z=>by
  refine ⟨?_,λ v hv=>O v (Z.mem_iff.mp hv)⟩;have:=Z.map sOf;rw [z47] at this;rw [<- a2];exact this
 refine qtq ho a4 hd hf hsz (λ hdr ps d Z=> ?_) (λ D=> ?_)
 ·have hT:((s.heap.push (q6m ps)).push (q2i (.ref s.heap.objs.size) 0 a es.size ep)).get? s.heap.objs.size=some (q6m ps):=z0o _ (z1c _ rfl);have hI:((s.heap.push (q6m ps)).push (q2i (.ref s.heap.objs.size) 0 a es.size ep)).get? (s.heap.objs.size+1)=some (q2i (.ref s.heap.objs.size) 0 a es.size ep):=by
   have:=z1c (s.heap.push (q6m ps)) (o:=q2i (.ref s.heap.objs.size) 0 a es.size ep) rfl
   rwa [z3f] at this
  refine ⟨_,_,_,_,_,_,d,zf,zf,λ b o e=>z0o _ (z0o _ e),qmy hh (z40 (z2l _)) (z40 (z2e al)) hd hf Z,⟨hI,hT,z0o _ (z0o _ ho)⟩,?_,Nat.le_succ _,hsz,λ acc ha=> ?_⟩
  ·simp only [z3n,z2r,or_false,not_or];exact ⟨z40 (z2e hS),z40 hS,a0⟩
  ·have e:=qbe (L:=ps) (f:=λ p=>((es[p]?).map (·.2)).getD .none) (by rw [Z.length_eq,z29]) (λ i v ⟨p,h,h1,h2⟩=>⟨p,h1,by rw [h2];rfl⟩) ha;refine good _ ?_;rw [e];refine (Z.map _).trans ?_;refine List.Perm.of_eq ?_
   apply z21
   intro j;have e2:es.toList[j]? =es[j]? :=z0x;rw [z22,z22,e2];by_cases hj:j < es.size
   ·rw [List.getElem?_range hj,z0b hj];simp [hj]
   ·rw [List.getElem?_eq_none (l:=List.range es.size) (by rw [z29];omega),z0r (by omega)];rfl
 ·have hI:(s.heap.push (q2i (.int 0 0) 0 a es.size ep)).get? s.heap.objs.size=some (q2i (.int 0 0) 0 a es.size ep):=z1c _ rfl;have sf:S∉ [s.heap.objs.size,a]:=by
   simp only [z3n,z2r,or_false,not_or];exact ⟨z40 hS,a0⟩
  cases J:q1h w with
  | true=>
   refine ⟨_,_,_,_,_,_,s.drawn,zf,zf,λ b o e=>z0o _ e,qpe hh (z40 al) hd hf J,⟨hI,z0o _ ho⟩,sf,z48 _,hsz,λ acc ha=> ?_⟩;have e:=qbe (L:=(pickOrder (w.params.setOrder a ep) es).toList) (f:=λ e=>e.2) (by rw [(q8u _ _).length_eq,z19]) (λ i v ⟨e,h1,h2⟩=>⟨e,by rw [z0x];exact h1,h2⟩) ha;refine good _ ?_;rw [e];exact (q8u _ _).map _
  | false=>
   have h1:es.size<=1:=by
    rw [J] at D;by_cases z:es.size<=1
    ·exact z
    ·have:=a5 (by omega);rw [this] at D;simp at D
     omega
   refine ⟨_,_,_,_,_,_,s.drawn,rfl,rfl,λ b o e=>z0o _ e,qrj hh (z40 al) hd hf J (by rw [a1,J];rfl) h1,⟨hI,z0o _ ho⟩,sf,z48 _,hsz,λ acc ha=> ?_⟩;have e:=qbe (L:=es.toList) (f:=λ e=>e.2) (by rw [z19]) (λ i v ⟨e,h1,h2⟩=>⟨e,by rw [z0x];exact h1,h2⟩) ha;refine good _ ?_;rw [e]
end
section
variable {prog:Program} {w:World} {A:Around} {E:Value ->Shared ->Prop} {s:Shared} {a:Addr} {xs:List Str}
def qeu (xs:List Str) (vs:List Value):Prop:=(vs.map sOf).Perm xs/\∀ v∈vs,∃ x t,v= .str x t
theorem qpf {R:Result ->Shared ->Prop} (hh:A.handled=none) (x:TxS prog w s.heap a xs) (S:Addr) (a0:S≠a) (res:Value) (c₀:Nat) (hS:s.heap.get? S=some {cls:= .type "list",data:= .seq #[] c₀})
  (hR:∀ h' tk d D c',(∀ b o,b≠S ->s.heap.get? b=some o ->h'.get? b=some o) ->h'.get? S=some {cls:= .type "list",dict:=none,data:= .seq D c',slots:=#[]} ->qeu xs D.toList ->R (.ok (.ret res)) {s with heap:=h',toks:=tk,drawn:=d}):
  wpAny (model prog w) A.in1 (Builtin.List.listExtendWith (.ref S) (.ref a) res)
   (λ fin s'=>match fin with | .done f=>R (.ok f) s' | .again c'=>c'.quiet=true/\codeAny (model prog w) A c' R s') (λ e s'=>R (.error e) s') s:=by
 obtain ⟨o,es,ep,t,ho,a5,rest⟩:=id x;have ty:s.TypeIs (.ref a) "set":=⟨o,ho,a5.1⟩;unfold Builtin.List.listExtendWith;refine z4f (wpAny_typeOf (T:="set") ty ?_);have h1:Builtin.List.listSameRef (.ref S) (.ref a)=false:=by simp [Builtin.List.listSameRef,a0]
 simp only [h1,show (Value.type "set"==Value.type "list")=false by decide,show (Value.type "set"==Value.type "tuple")=false by decide,Bool.or_false,z1k,if_false];refine z4f (z4g (qts (A:=A.in1) (E:=λ e s'=>R (.error e) s') hh x (z3z hS) a0) (λ it s1 good=> ?_) λ e s' z=>z);obtain ⟨J,fp,n,P,St,h2,d,rfl,rfl,keep,W,st,a1,hJ,hn,a3⟩:=good;have O:=keep _ _ hS;have hSJ:S≠J:=z40 (z1r (z3z hS) hJ);have key:∀ (h:Heap) (c₁ tk:Nat),St 0 h ->(∀ b o,b≠S ->h2.get? b=some o ->h.get? b=some o) ->
   h.get? S=some {cls:= .type "list",data:= .seq #[] c₁} ->codeAny (model prog w) A (.builtin "list.extend.loop" ⟨[.ref S,.ref J,res],[]⟩) R {s with heap:=h,toks:=tk,drawn:=d}:=by
  intro h c₁ tk a8 hk O;refine codeAny_extend_loopS W.toS hn S a1 res n 0 _ #[] c₁ rfl (z4b _) a8 O (ItemsOf.nil _) λ s' D c' hm a6 ha=> ?_;rw [Moved.eq_with hm];refine hR s'.heap s'.toks d D c' (λ b o hb e=>hm.heap b o (λ Z=> ?_) (hk b o hb (keep b o e))) a6 (a3 D ha);rcases z3n.mp Z with e' | Z
  ·exact hb e'
  ·have z:=z1m.mp Z;exact absurd (z3z e) (by rw [z];exact Nat.not_lt.mpr hJ)
 refine z4f (z3o (qtr ⟨o,keep _ _ ho,a5.1⟩ ?_));refine wpAny_ite_split (λ _=> ?_) (λ _=>z4e ⟨plainId_quiet PySem.F.plain_extend_loop _,key _ c₀ _ st (λ b o _ e=>e) O⟩);refine z4f (z4d ?_);refine z4f ?_;show wpAny _ _ (updateSeq S (·.push .none) >>=λ _=>updateSeq S (·.pop)) _ _ _;refine z4f (wpAny_updateSeq O rfl ?_);have a2:=z0z (Obj.mapSeq (·.push Value.none)) O rfl;refine wpAny_updateSeq (hz:=by seq_fits) a2 rfl ?_;have a7:=z0z (Obj.mapSeq (·.pop)) a2 rfl;refine z4e ⟨plainId_quiet PySem.F.plain_extend_loop _,key _ _ _ ?_ (λ b o hb e=> ?_) a7⟩
 ·refine W.frame 0 _ _ st λ b hb o e=> ?_;have a4:b≠S:=λ h=>a1 (h ▸ hb);exact (z0p _ _ (Ne.symm a4)).trans ((z0p _ _ (Ne.symm a4)).trans e)
 ·exact (z0p _ _ (Ne.symm hb)).trans ((z0p _ _ (Ne.symm hb)).trans e)
theorem qmz {R:List Value ->Shared ->Prop} (hh:A.handled=none) (x:TxS prog w s.heap a xs)
  (h:∀ (vs:List Value) (h':Heap) (tk:Nat) (d:Drawn),qeu xs vs ->(∀ b o,s.heap.get? b=some o ->h'.get? b=some o) ->s.heap.objs.size<=h'.objs.size ->R vs {s with heap:=h',toks:=tk,drawn:=d}):wpAny (model prog w) A (collect (.ref a)) R E s:=by
 have al:a < s.heap.objs.size:=by
  obtain ⟨_,_,_,_,e,_⟩:=x;exact z3z e
 unfold collect;refine z4f (wpAny_runValue (z39 entry_proto_collect' ?_));rw [Around.under_plainId PySem.F.plain_proto_collect _];show wpAny _ A.in1 (newList [] >>=λ l=>again (.builtin "list.__iadd__" ⟨[l,.ref a],[]⟩)) _ _ s;refine z4f (z28 ?_);refine z4e ⟨plainId_quiet z0j _,z39 entry_list_iadd' ?_⟩;rw [Around.under_plainId z0j _];have hS:(s.heap.push {cls:= .type "list",data:= .seq ([]:List Value).toArray}).get? s.heap.objs.size=some {cls:= .type "list",data:= .seq #[]}:=z1c _ rfl;show wpAny _ A.in1 (Builtin.List.listExtendWith (.ref s.heap.objs.size) (.ref a) (.ref s.heap.objs.size)) _ _ _;have key:=qpf (A:=A) (prog:=prog) (w:=w) (xs:=xs) (a:=a) (s:={s with heap:=s.heap.push {cls:= .type "list",data:= .seq ([]:List Value).toArray}}) hh (x.keep λ o e=>z0o _ e) s.heap.objs.size
  (z42 al) (.ref s.heap.objs.size) 0 hS
  (R:=λ (q:Result) (s':Shared)=>∃ (h':Heap) (tk:Nat) (d:Drawn) (D:Array Value) (O:Nat),q= .ok (.ret (.ref s.heap.objs.size))/\s'={s with heap:=h',toks:=tk,drawn:=d}/\(∀ b o,s.heap.get? b=some o ->h'.get? b=some o)/\
   h'.get? s.heap.objs.size=some {cls:= .type "list",dict:=none,data:= .seq D O,slots:=#[]}/\qeu xs D.toList)
  (λ h' tk d D O hk J Z=>⟨h',tk,d,D,O,rfl,rfl,λ b o e=>hk b o (z40 (z3z e)) (z0o _ e),J,Z⟩)
 refine z4g key (λ f s' y=> ?_) λ e s' y=> ?_
 ·cases f with
  | done f=>
   obtain ⟨h',tk,d,D,O,e,rfl,hk,J,ha⟩:=y;cases e
   show wpAny _ A (load s.heap.objs.size >>=_) _ _ _;refine z4f (wpAny_load J (z4e ?_));exact h D.toList h' tk d ha hk (z3y (z3z J))
  | again c=>
   refine ⟨y.1,z43 y.2 λ q s2 z=> ?_⟩;obtain ⟨h',tk,d,D,O,rfl,rfl,hk,J,ha⟩:=z;show wpAny _ A (load s.heap.objs.size >>=_) _ _ _;refine z4f (wpAny_load J (z4e ?_));exact h D.toList h' tk d ha hk (z3y (z3z J))
 ·obtain ⟨_,_,_,_,_,e',_⟩:=y;cases e'
theorem qn0 {x:Value} {Pv:List Value ->Prop} {rk:List Value ->Value ->Int} {Q:Value ->Shared ->Prop} (hz:∀ vs,Pv vs ->vs.length<=sizeLine)
  (hc:∀ (O:Around) (E':Value ->Shared ->Prop) (R:List Value ->Shared ->Prop),O.handled=A.handled ->(∀ vs h' tk d,Pv vs ->(∀ b o,s.heap.get? b=some o ->h'.get? b=some o) ->s.heap.objs.size<=h'.objs.size ->R vs {s with heap:=h',toks:=tk,drawn:=d}) ->wpAny (model prog w) O (collect x) R E' s)
  (hk:∀ (vs:List Value) (O:Around) (s':Shared) (a:Addr),Pv vs ->O.units<=A.units+4 ->s.heap.objs.size<=a ->(∀ b o,s.heap.get? b=some o ->s'.heap.get? b=some o) ->Tim.Keys prog w O s' a vs (rk vs))
  (h:∀ (vs:List Value) (out:Array Value) (l:Addr) (n:Nat) (h':Heap) (tk:Nat) (d:Drawn),Pv vs ->Tim.Sorted (rk vs) vs out.toList ->(∀ b o,s.heap.get? b=some o ->h'.get? b=some o) ->s.heap.objs.size<=l ->h'.get? l=some (seqObj "list" out n) ->Q (.ref l) {s with heap:=h',toks:=tk,drawn:=d}):
  wpAny (model prog w) A (call (.builtin "sorted") [x]) Q E s:=by
 refine Calls.call_function_entry kind_sorted plain_sorted entry_sorted (args_sorted1 _) ?_;unfold Builtin.«sorted»;refine z4f (m:=checkCount "sorted" 1 1 _) (z4e ?_);refine z4f (hc _ _ _ rfl λ vs h1 tk d pv keep hsz=> ?_);have hz:=hz vs pv;refine z4f (wpAny_newList ?_ hz);have J:(h1.push (seqObj "list" vs.toArray 0)).get? h1.objs.size=some (seqObj "list" vs.toArray 0):=z1c _ rfl;show wpAny _ _ _ _ _ {s with heap:=h1.push (seqObj "list" vs.toArray 0),toks:=tk,drawn:=d};have D:∀ b o,s.heap.get? b=some o ->(h1.push (seqObj "list" vs.toArray 0)).get? b=some o:=λ b o e=>z0o _ (keep b o e);refine z4f (z3o (z2o slot_list_sort ⟨_,J,zf⟩ entry_list_sort (Tim.qal J hz (hk vs _ _ _ pv ?_ hsz D) λ out so=>⟨_,zf,?_⟩) (args_list_sort _)))
 ·show A.units+2<=A.units+4;omega
 ·have Z:∀ b o,s.heap.get? b=some o ->b≠h1.objs.size:=λ b o e=>z40 (z1r (z3z e) hsz);have u1:=z1b (h1.push (seqObj "list" vs.toArray 0)) h1.objs.size (Obj.mapSeq λ _=>(#[]:Array Value));obtain ⟨e1,g1⟩:∃ e1,((h1.push (seqObj "list" vs.toArray 0)).update h1.objs.size (Obj.mapSeq λ _=>(#[]:Array Value))).get? h1.objs.size=some (seqObj "list" #[] e1):=⟨_,get?_update_seq J λ _=>#[]⟩;have g2:=z0o (seqObj "list" #[] 0) (z0o (seqObj "tuple" vs.toArray 0) g1);have g3:=get?_update_seq g2 λ _=>out;have u4:=z1b (((((h1.push (seqObj "list" vs.toArray 0)).update h1.objs.size (Obj.mapSeq λ _=>(#[]:Array Value))).push (seqObj "tuple" vs.toArray 0)).push (seqObj "list" #[] 0))) h1.objs.size (Obj.mapSeq λ _=>out);refine z4e ⟨_,zf,h vs out h1.objs.size _ _ tk d pv so (λ b o e=> ?_) hsz g3⟩;refine (u4.2 b (Z b o e)).trans (z0o _ (z0o _ ((u1.2 b (Z b o e)).trans (D b o e))))
end
def SetH (P:Program) (w:World) (a:Addr) (ys:List Str):HO:= .ext λ h=>TxS P w h a ys
def uniq (ws:List Str):List Str:=Tim.srt ql ws.eraseDups
theorem q56 (ws:List Str) (x:Str):x∈uniq ws↔x∈ws:=by
 unfold uniq;rw [(Tim.qo ql _).mem_iff];exact List.mem_eraseDups
section
variable {X:Cx} {pins:List (Addr×Obj)} {σ:St} {H:Hp} {s:Shared}
theorem Inv.drew {d:Drawn} (I:Inv X pins σ H s):Inv X pins σ H {s with drawn:=d}:=
 I.step (h':=s.heap) (g':=s.gens) (d':=d) (t':=s.toks) (ch:=[]) (λ _ z=>nomatch z) (λ _ _ _ _ _ e _=>e) (λ b o _ _ _ e _=>⟨o.slots,e⟩) (λ _ _ _ _ n=>n) (λ b o _ e=>⟨o,e⟩) (λ _ _ e=>e) (λ _ _ _ e=>e) (λ b ps e=>⟨#[],by rw [e];simp⟩) (λ _ e=>e) I.hok I.bare
theorem qrk (hc:X.calm=true) (P:Program) (w:World) (K:PySem.W.Frag) (hK:X.K=K:=by rfl) (hP:X.prog=P:=by rfl) (hw:X.w=w:=by rfl):q24 X (.type "set") (λ xs H Q=>∃ (p:Addr) (ws:List Str),xs=[.ref p]/\(SqL K H p (ws.map V.str)\/ SqT K H p (ws.map V.str))/\ws.length<=4000/\
  ∀ (l:Addr) (ys:List Str),H l=none ->ys.Nodup ->(∀ x,x∈ys↔x∈ws) ->Q (.ref l) (upd H l (SetH P w l ys))):=by
 subst hK hP hw;intro pins s σ H xs us Q I r h;obtain ⟨p,ws,rfl,hp,hl,q⟩:=h;obtain ⟨u,rfl,ru⟩:=q3b r;cases ru
 have fin:∀ (its:List Value),its.length=ws.length ->∀ (h':Heap) (tk:Nat) (ys:List Str),TxS X.prog X.w h' s.heap.objs.size ys ->InS (λ i=>ws.getD i "") its.toArray.size ys ->(∀ b o,b < s.heap.objs.size ->s.heap.get? b=some o ->h'.get? b=some o) ->EP X pins σ Q (.ref s.heap.objs.size) {s with heap:=h',toks:=tk}:=λ its J h' tk ys hS a1 keep=>by
  have O:∀ b o,s.heap.get? b=some o ->h'.get? b=some o:=λ b o e=>keep b o (z3z e) e;have D:ys.Nodup:=by
   obtain ⟨_,_,_,_,_,_,_,_,_,D,_⟩:=hS;exact D
  have a0:∃ o,h'.get? s.heap.objs.size=some o:=by
   obtain ⟨o,_,_,_,e,_⟩:=hS;exact ⟨o,e⟩
  refine ⟨.ref _,_,I.laid (a:=s.heap.objs.size) (o:=SetH X.prog X.w s.heap.objs.size ys) (t':=tk) O (z48 _) ⟨hS,a0,λ h1 h2 z k=>z.keep k⟩,zf,q _ ys I.fresh D λ x=> ?_⟩;rw [a1.1 x,z23,J]
  constructor
  ·rintro ⟨j,Z,rfl⟩;show ws.getD j ""∈ws;rw [z06,z0d Z];exact z2k Z
  ·intro hx;obtain ⟨j,Z,e⟩:=z1i hx;refine ⟨j,Z,?_⟩;show ws.getD j ""=x;rw [z06,z0d Z];exact e
 have hh:=I.ok.hd hc;rcases hp with hp | hp
 ·obtain ⟨its,rv,⟨o,n,e,c,_,d⟩,z⟩:=I.list hp;have J:its.length=ws.length:=by rw [<- rv.length,z30]
  obtain ⟨_,_,e3⟩:=q64 rv;exact qri hh ⟨o,e,c,n,d⟩ (by rw [z1g];exact e3) (by rw [z23,J];unfold scanBound;omega) (fin its J)
 ·obtain ⟨its,rv,⟨o,e,c,n,d⟩,z⟩:=I.tuple hp;have J:its.length=ws.length:=by rw [<- rv.length,z30]
  obtain ⟨_,_,e3⟩:=q64 rv;exact qpc hh ⟨o,e,c,n,d⟩ (by rw [z1g];exact e3) (by rw [z23,J];unfold scanBound;omega) (fin its J)
theorem q9z:∀ (n:Nat) (l:List Str),l.length<=n ->l.eraseDups.Nodup
 | 0,l,h=>by
  have:l=[]:=z0k.mp (by omega);subst this;exact z3g
 | n+1,[],_=>z3g
 | n+1,x::l,h=>by
  rw [List.eraseDups_cons];refine z32.mpr ⟨λ hx=> ?_,q9z n _ (z41 (z10 _ _) (Nat.le_of_succ_le_succ h))⟩;have:=z2x.mp (List.mem_eraseDups.mp hx);simp at this
theorem qtt {ws ys:List Str} (hn:ys.Nodup) (hm:∀ x,x∈ys↔x∈ws):Tim.srt ql ys=uniq ws:=by
 unfold uniq;refine Tim.q98 q1j ((Tim.qo ql ys).trans ?_) (Tim.q1r q1j ys);refine (List.perm_ext_iff_of_nodup hn (q9z _ _ (z48 _))).mpr λ x=> ?_;rw [hm x,List.mem_eraseDups]
theorem ql6 (hc:X.calm=true) (P:Program) (w:World) (hP:X.prog=P:=by rfl) (hw:X.w=w:=by rfl):q24 X (.builtin "sorted") (λ xs H Q=>∃ (p:Addr) (ys:List Str),xs=[.ref p]/\H p=some (SetH P w p ys)/\∀ l,H l=none ->Q (.ref l) (upd H l (.lst ((Tim.srt ql ys).map V.str)))):=by
 subst hP hw;intro pins s σ H xs us Q I r h;obtain ⟨p,ys,rfl,hp,q⟩:=h;obtain ⟨u,rfl,ru⟩:=q3b r;cases ru
 obtain ⟨Z,_,_⟩:ObjOk X.prog X.w H s.heap p (SetH X.prog X.w p ys):=I.hok p _ hp;have yl:ys.length<=sizeLine:=by
  obtain ⟨_,es,_,_,_,_,_,_,e,_,hb,_⟩:=id Z;rw [<- e,z30,z19];exact fits_of_scanBound hb
 have hh:=I.ok.hd hc;have O:∀ vs,qeu ys vs ->Vals ((vs.map sOf).map V.str) vs:=λ vs z=>q47 z.2;refine qn0 (Pv:=qeu ys) (rk:=λ vs v=>Tim.rank ql (vs.map sOf) (sOf v)) (λ vs z=>by rw [show vs.length=ys.length by rw [<- z.1.length_eq,z30]];exact yl)
  (λ A' E' R e k=>qmz (by rw [e];exact hh) Z λ vs h' tk d z=>k vs h' tk d z) (λ vs A' s' a z _ _ _=>qb8 (O vs z)) λ vs out l n h' tk d z so keep hl hg=> ?_
 have ed:=Tim.q36 q1j sOf so;have J:∀ u∈out.toList,∃ x t,u= .str x t:=λ u hu=>z.2 u (so.perm.mem_iff.mp hu);have D:=q47 J;have es:Tim.srt ql (vs.map sOf)=Tim.srt ql ys:=Tim.q98 q1j ((Tim.qo ql _).trans z.1) (Tim.q1r q1j _);rw [ed,es] at D;exact Inv.q37 (s:={s with drawn:=d}) I.drew D (by rw [z30,(Tim.qo ql ys).length_eq];exact yl) keep hl hg (q l (I.hok.fresh hl))
end
section
variable {X:Cx}
theorem Inv.thaw {pins:List (Addr×Obj)} {σ:St} {H:Hp} {s:Shared} {a:Addr} {o:Obj} {kvs:List (Key×V)} (I:Inv X pins σ H s) (e:H a=some (.frz o (.dK kvs))) (h0:∀ o u,X.H₀ a≠some (.frz o u)):Inv X pins σ (upd H a (.dK kvs)) s where
 ok:=I.ok
 os:=I.os
 bare:=I.bare
 base:=by
  refine ⟨I.base.keep,I.base.slot,λ b D q n hx=> ?_,I.base.there,λ b xs q=> ?_,λ b D u q=> ?_,λ b ps q=> ?_⟩
  ·have:=I.base.free b D q n hx;rw [qh (λ z=>by rw [z,e] at this;cases this)];exact this
  ·have:=I.base.tups b xs q;rw [qh (λ z=>by rw [z,e] at this;cases this)];exact this
  ·rw [qh (show b≠a from λ z=>h0 D u (by rw [<- z];exact q))];exact I.base.frzs b D u q
  ·obtain ⟨more,this⟩:=I.base.tbls b ps q;exact ⟨more,by rw [qh (λ z=>by rw [z,e] at this;cases this)];exact this⟩
 loc:=I.loc
 cell:=I.cell
 free:=by rw [qh (qr e I.free).symm];exact I.free
 freeC:=λ x c h=>by rw [qh (qr e (I.freeC x c h)).symm];exact I.freeC x c h
 pin:=λ p hp=>by
  obtain ⟨h1,h2,h3⟩:=I.pin p hp;exact ⟨h1,by rw [qh (qr e h2).symm];exact h2,h3⟩
 len:=I.len
 hok:=λ b D q=>by
  by_cases z:b=a
  ·subst z;rw [qb] at q;cases q
   obtain ⟨_,this⟩:=I.hok b _ e;exact this.stay (λ c u _ g=>g) (λ c g=>by rw [qh (λ z=>by rw [z,e] at g;cases g)];exact g) λ c xs g=>by rw [qh (λ z=>by rw [z,e] at g;cases g)];exact g
  ·rw [qh z] at q;have hb:=I.hok b D q;exact hb.stay (λ c u _ g=>g) (λ c g=>by rw [qh (λ z=>by rw [z,e] at g;cases g)];exact g) λ c xs g=>by rw [qh (λ z=>by rw [z,e] at g;cases g)];exact g
def q11c (H0:Hp) (te:TE):TE:=λ σ H Q=>te σ H λ v H1=>Q v H1\/ ∃ a o kvs,H1 a=some (.frz o (.dK kvs))/\(∀ o u,H0 a≠some (.frz o u))/\Q v (upd H1 a (.dK kvs))
theorem qny {e:Expr} {te:TE} (he:PE X e te):PE X e (q11c X.H₀ te):=by
 intro pins s σ H Q I h;refine thn (he pins s σ H _ I h) λ v s1 D=> ?_;obtain ⟨x,H1,I1,r1,q1⟩:=D;rcases q1 with q | ⟨a,o,kvs,e1,h0,q⟩
 ·exact ⟨x,H1,I1,r1,q⟩
 ·exact ⟨x,_,I1.thaw e1 h0,r1,q⟩
end
def q1s (H:Hp) (zs:List V) (ps:List (List Str)):Prop:=Paired (λ x p=>∃ b,x=V.ref b/\H b=some (.tup (p.map V.str))) zs ps
theorem qrl {H:Hp}:∀ {zs:List V} {ps:List (List Str)} {its:List Value},q1s H zs ps ->Vals zs its ->qjv H its ps
 | _,_,_,.nil,.nil=> .nil
 | _,_,_,.cons ⟨b,e,hb⟩ r,.cons rv rr=>by
  subst e;exact .cons ⟨b,rv,hb⟩ (qrl r rr)
section
variable {X:Cx}
theorem qan (hu:X.A.units+64 < cLine) (K:PySem.W.Frag) (hK:X.K=K:=by rfl):q24 X (.builtin "sorted") (λ xs H Q=>∃ (p:Addr) (zs:List V) (ps:List (List Str)),xs=[.ref p]/\SqL K H p zs/\q1s H zs ps/\
  ∀ (l:Addr) (us:List V),H l=none ->q1s H us (Tim.srt qz ps) ->Q (.ref l) (upd H l (.lst us))):=by
 subst hK;intro pins s σ H xs us Q I r h;obtain ⟨p,zs0,ps,rfl,hp,ht,q⟩:=h;obtain ⟨u,rfl,ru⟩:=q3b r;cases ru
 obtain ⟨its,a1,⟨o,n,e,c,_,d⟩,z⟩:=I.list hp;have D:qjv H its ps:=qrl ht a1;have Z:∀ v p,(∃ b,v=Value.ref b/\H b=some (.tup (p.map V.str))) ->TupAt s.heap v p:=λ v p ⟨b,e,O⟩=>by
  obtain ⟨_,its,rv,o,e1,c,n,dd⟩:=I.hok b _ O;exact ⟨b,o,its.toArray,n,e,e1,c,dd,by rw [z1g];exact rv⟩
 have J:Paired (λ v p=>TupAt s.heap v p/\decT H v=p) its ps:=Paired.mapP D λ v p z=>⟨Z v p z,by
  obtain ⟨b,rfl,O⟩:=z;exact qce O⟩
 have ev:its.map (decT H)=ps:=(q4o J λ _ _ z=>z.2).1;have mem:∀ v∈its,∃ b,v=Value.ref b/\H b=some (.tup ((decT H v).map V.str)):=(q4o (f:=decT H) D λ v p ⟨b,e,O⟩=>by
  rw [e];exact qce O).2
 have hl:its.length<=sizeLine:=by
  rw [<- a1.length];exact z
 refine q4n (vs:=its) (rk:=λ v=>Tim.rank qz (its.map (decT H)) (decT H v)) hl
  (λ A' E' R _ k=>q9u (.inl rfl) e c d (by rw [z23];exact hl) (by rw [z1g];exact k))
  (λ A' s' a hu' ha keep=>qht (s:=s) (decT H) J ha keep (by omega)) λ out l n h' tk so keep a0 hg=> ?_
 have ed:=Tim.q36 q2a (decT H) so;rw [ev] at ed;have mo:∀ v∈out.toList,∃ b,v=Value.ref b/\H b=some (.tup ((decT H v).map V.str)):=λ v hv=>mem v (so.perm.mem_iff.mp hv);obtain ⟨zs,rv,hp⟩:∃ zs:List V,Vals zs out.toList/\q1s H zs (out.toList.map (decT H)):=by
  revert mo;generalize out.toList=os;intro mo
  induction os with
  | nil=>exact ⟨[],.nil,.nil⟩
  | cons v os ih=>
   obtain ⟨zs,r1,r2⟩:=ih λ u hu=>mo u (z16 _ hu);obtain ⟨b,e,O⟩:=mo v (z1p ..);exact ⟨.ref b::zs,.cons e r1,.cons ⟨b,zf,O⟩ r2⟩
 rw [ed] at hp;refine I.q37 rv ?_ keep a0 hg (q l zs (I.hok.fresh a0) hp);rw [rv.length,so.perm.length_eq];exact hl
end
theorem qpg {P:Program} {w:World} {es:List DictEntry} {vs:List (Key×Value)} (p:Pairs (q16 P w) es vs):∀ {kvs:List (Key×V)} {ws:List Int},KV kvs vs ->kvs.map (·.1)=ws.map Sum.inl ->Vals (ws.map V.int) (es.map (·.key)):=by
 induction p with
 | nil=>
  intro kvs ws r h;cases r
  have:ws=[]:=by simpa using h.symm
  subst this;exact .nil
 | cons a b c ih=>
  intro kvs ws r h;cases r with
  | cons d f=>
   cases ws with
   | nil=>simp at h
   | cons x ws=>
    rw [z3l,z3l,z2v] at h;rw [<- d.1,h.1] at a;refine .cons ?_ (ih f h.2);rcases q1q (show q8m (Sum.inl x) _=true from a) with ⟨i,t,e1,e2⟩ | ⟨x',t,e1,_⟩
    ·cases e1
     exact ⟨t,e2⟩
    ·cases e1
section
variable {X:Cx}
theorem qio (hc:X.calm=true) (K:PySem.W.Frag) (hK:X.K=K:=by rfl):q24 X (.builtin "sorted") (λ xs H Q=>∃ (d:Addr) (kvs:List (Key×V)) (ws:List Int),xs=[.ref d]/\H d=some (.dK kvs)/\kvs.map (·.1)=ws.map Sum.inl/\
  ∀ l,H l=none ->Q (.ref l) (upd H l (.lst ((Tim.srt q18 ws).map V.int)))):=by
 subst hK;intro pins s σ H xs us Q I r h;obtain ⟨d,kvs,ws,rfl,hd,hk,q⟩:=h;obtain ⟨u,rfl,ru⟩:=q3b r;cases ru
 obtain ⟨hz,a0,vs,rel,o,es,ep,ho,hx,D,_,Z,hnd⟩:=I.hok d _ hd;have rv:Vals (ws.map V.int) (es.toList.map (·.key)):=qpg Z rel hk;have wl:ws.length=kvs.length:=by
  have:=congrArg List.length hk;rw [z30,z30] at this;exact this.symm
 have hl:(es.toList.map (·.key)).length<=sizeLine:=by
  rw [<- rv.length,z30,wl];exact hz
 obtain ⟨e1,e2,_⟩:=qdn rv;refine q4n (vs:=es.toList.map (·.key)) (rk:=λ v=>Tim.rank q18 ((es.toList.map (·.key)).map iOf) (iOf v)) hl (λ A' E' R hh k=>q8x (hh.trans (I.ok.hd hc)) a0 ⟨o,ho,hx,D⟩ (by rw [z30,z19] at hl;exact hl) k)
  (λ A' s' a _ _ _=>qhv rv) λ out l n h' tk so keep J hg=> ?_
 have a1:∀ u∈out.toList,∃ x t,u= .int x t:=λ u hu=>e2 u (so.perm.mem_iff.mp hu);have ed:=Tim.q36 q1u iOf so;rw [e1] at ed;have O:=q6v a1;rw [ed] at O;exact I.q37 O (by rw [z30,(Tim.qo q18 ws).length_eq,wl];exact hz) keep J hg (q l (I.hok.fresh J))
end
def ItdT (a:Addr) (o:Obj) (kvs:List (List Key×V)):It:=
 ⟨λ i H=>H a=some (.frz o (.dT kvs))/\i < kvs.length,λ i H x H'=>H'=H/\∃ kv b,kvs[i]? =some kv/\x= .ref b/\H b=some (.tup (kv.1.map kV)),λ i H=>H a=some (.frz o (.dT kvs))/\kvs.length<=i⟩
section
variable {X:Cx} {tg:Expr}
theorem Inv.freezeT {pins:List (Addr×Obj)} {σ:St} {H:Hp} {s:Shared} {a:Addr} {o:Obj} {kvs:List (List Key×V)} (I:Inv X pins σ H s) (e:H a=some (.dT kvs)) (ho:s.heap.get? a=some o):Inv X pins σ (upd H a (.frz o (.dT kvs))) s:=by
 have u:Un X.fs [] H (upd H a (.frz o (.dT kvs))) s.heap s.heap:=by
  refine ⟨λ b o q _ _ _=>q,λ b o q _ _ _=>⟨o.slots,q⟩,λ b D q n _=> ?_,λ b D q _=>⟨D,q⟩,λ b xs q=> ?_,λ b D u q=> ?_,λ b ps q=>⟨#[],?_⟩⟩
  ·rw [qh (λ z=>by rw [z,e] at n;cases n)];exact n
  ·rw [qh (λ z=>by rw [z,e] at q;cases q)];exact q
  ·rw [qh (λ z=>by rw [z,e] at q;cases q)];exact q
  ·rw [qh (λ z=>by rw [z,e] at q;cases q),q];simp
 have st:∀ b D,ObjOk X.prog X.w H s.heap b D ->ObjOk X.prog X.w (upd H a (.frz o (.dT kvs))) s.heap b D:=λ b D hb=>hb.stay (λ c u _ g=>g) (λ c g=>by rw [qh (λ z=>by rw [z,e] at g;cases g)];exact g) λ c xs g=>by rw [qh (λ z=>by rw [z,e] at g;cases g)];exact g
 have hok:HOk X.prog X.w (upd H a (.frz o (.dT kvs))) s.heap:=λ b D q=>by
  by_cases z:b=a
  ·subst z;rw [qb] at q;cases q
   exact ⟨ho,st b _ (I.hok b _ e)⟩
  ·rw [qh z] at q;exact st b D (I.hok b D q)
 have:=I.un (t':=s.toks) u hok;exact this
theorem ql7 {P:Program} {w:World} {H:Hp}:∀ {kvs:List (List Key×V)} {xs:List (List Key×Addr×Value)} {i:Nat} {D:List Key×V},Paired (λ (p:List Key×V) (q:List Key×Addr×Value)=>p.1=q.1/\H q.2.1=some (.tup (p.1.map kV))/\RelV p.2 q.2.2) kvs xs ->kvs[i]? =some D ->
  ∃ b e,(xs.map (entryOfKey (tupleKind (q16 P w))))[i]? =some e/\e.key= .ref b/\H b=some (.tup (D.1.map kV))
 | _,_,i,D,.nil,h=>by simp at h
 | _,_,0,D,.cons a r,h=>by
  simp at h
  subst h;exact ⟨_,_,zf,zf,a.2.1⟩
 | _,_,i+1,D,.cons a r,h=>by
  obtain ⟨b,e,h1,h2⟩:=ql7 (P:=P) (w:=w) (i:=i) r (by simpa using h);exact ⟨b,e,by simpa using h1,h2⟩
theorem qph {P:Program} {w:World} {K:PySem.W.Frag} (a it:Addr) (o:Obj) (es:Array DictEntry) (ep:Nat) (kvs:List (List Key×V)) (ho:o.ExactDict) (D:o.data= .dict es ep):Turn P w K tg (ItdT a o kvs) [it] it (λ i h=>h.IsKeyIter it a i es.size ep) where
 mem:=by simp
 obj:=λ i h st b hb=>by
  have e:b=it:=by simpa using hb
  subst e;obtain ⟨o,e,c,d⟩:=st;exact ⟨o,e,λ v z=>by rw [d] at z;cases z⟩
 keep:=λ i h h' st k=>by
  obtain ⟨o,e,r⟩:=st;exact ⟨o,k it (by simp) o e,r⟩
 item:=by
  intro X hP hw hK hc i pins s σ H E I hf st hg;subst hP hw hK;obtain ⟨ha,hi⟩:=hg;obtain ⟨Z,hz,a5,xs,rel,o2,a3,a2,O,a6,J,a0,a4⟩:=I.hok a _ ha;rw [Z] at O;cases O
  rw [D] at J;cases J
  obtain ⟨b,e,he,ek,hb⟩:=ql7 (P:=X.prog) (w:=X.w) rel (z0d hi);rw [<- a0] at he;obtain ⟨f0,f1,f2,f3,f4,f5⟩:=hf it (by simp);refine qdl st ⟨o,Z,ho,D⟩ (e:=e) (by simpa using he) λ h' a1 sb=> ?_;have I1:Inv X pins σ H {s with heap:=h'}:=I.turned (t':=s.toks) (λ b o hb e=>(sb.2 b hb).trans e) f0 f1 f3 f4 f5;obtain ⟨oi,ei,ci,di⟩:=id a1;rw [ek];exact ⟨_,rfl,qc9 (s:={s with heap:=h'}) ei ci di (by decide) ⟨.ref b,H,I1,rfl,⟨rfl,_,b,z0d hi,rfl,hb⟩,a1,λ b hb=>(hf b hb).1⟩⟩
 done:=by
  intro X hP hw hK hc i pins s σ H E I hf st hg;subst hP hw hK;obtain ⟨ha,hi⟩:=hg;obtain ⟨Z,hz,a5,xs,rel,o2,a3,a2,O,a6,J,a0,a4⟩:=I.hok a _ ha;rw [Z] at O;cases O
  rw [D] at J;cases J
  have hl:es.size=kvs.length:=by
   rw [<- z19,a0,z30];exact (Paired.length rel).symm
  obtain ⟨f0,f1,f2,f3,f4,f5⟩:=hf it (by simp);exact qg1 (I.ok.hd hc) st ⟨o,Z,ho,D⟩ (by omega) λ h' eb=>⟨zf,I.turned (t':=s.toks) (λ b o hb e=>eb b o hb e) f0 f1 f3 f4 f5⟩
 self:=by
  intro A i s Q E st h;exact wpAny_pyIter_keyiter st h
def q11d (tl:TE):TI:=λ σ H R=>tl σ H λ x H1=>∃ a kvs,x= .ref a/\((H1 a=some (.dT kvs)/\∀ o,R (ItdT a o kvs) (upd H1 a (.frz o (.dT kvs))))\/ ∃ o,H1 a=some (.frz o (.dT kvs))/\R (ItdT a o kvs) H1)
theorem qtu {l:Expr} {tl:TE} (hl:PE X l tl):PI X tg l (q11d tl):=by
 intro pins s σ H R I h;refine thn (hl pins s σ H _ I h) λ v s1 a1=> ?_;obtain ⟨x,H1,I1,r1,q1⟩:=a1;obtain ⟨a,kvs,e,q⟩:=q1;subst e;cases r1
 obtain ⟨H2,o,I2,ha,q2⟩:∃ H2 o,Inv X pins σ H2 s1/\H2 a=some (.frz o (.dT kvs))/\R (ItdT a o kvs) H2:=by
  rcases q with ⟨e,q⟩ | ⟨o,e,q⟩
  ·obtain ⟨hz,J,xs,rel,o,es,ep,ho,r⟩:=I1.hok a _ e;exact ⟨_,o,I1.freezeT e ho,qb,q o⟩
  ·exact ⟨H1,o,I1,e,q⟩
 obtain ⟨Z,hz,J,xs,rel,o2,es,ep,O,a0,D,hes,hnd⟩:=I2.hok a _ ha;rw [Z] at O;cases O
 refine qdk J ⟨o,Z,a0,D⟩ ?_;refine ⟨s1.heap.objs.size,[s1.heap.objs.size],_,_,H2,zf,I2.kept (t':=s1.toks) λ b o e=>z0o _ e,qph a _ o es ep kvs a0 D,⟨_,z1c _ rfl,zf,zf⟩,λ b hb=> ?_,q2⟩;have e:b=s1.heap.objs.size:=by simpa using hb
 subst e;exact I2.fpOk (z48 _) (I2.hok.fresh (z48 _))
end
theorem qrm {a:Addr} {o:Obj} {kvs:List (List Key×V)} {g:TG} {tb:TS} {D:Ends} {σ:St} {H:Hp} (Pv:Nat ->St ->Hp ->Prop) (h0:Pv 0 σ H) (hl:∀ i σ H,i<=kvs.length ->Pv i σ H ->H a=some (.frz o (.dT kvs)))
  (hs:∀ i J b σ H,kvs[i]? =some J ->H b=some (.tup (J.1.map kV)) ->Pv i σ H ->g (.ref b) σ H λ σ2 H2=>tb {D with nx:=Pv (i+1),ct:=Pv (i+1),bk:=D.nx} σ2 H2) (he:∀ σ H,Pv kvs.length σ H ->D.nx σ H):
  ∃ W:Nat ->Nat ->St ->Hp ->Prop,(∃ m,W 0 m σ H)/\∀ i m σ H,W i m σ H ->((ItdT a o kvs).stop i H/\D.nx σ H)\/ ((ItdT a o kvs).go i H/\∃ N:St ->Hp ->Prop,(∀ σ' H',N σ' H' ->∃ O,O < m/\W (i+1) O σ' H')/\∀ x H',(ItdT a o kvs).yld i H x H' ->g x σ H' λ σ2 H2=>tb {D with nx:=N,ct:=N,bk:=D.nx} σ2 H2):=by
 refine qz4 kvs.length Pv h0 (λ i σ H hi p=>⟨hl i σ H (z3y hi) p,hi⟩) (λ σ H p=>⟨⟨hl _ σ H (z48 _) p,z48 _⟩,he σ H p⟩) λ i σ H hi p x H' y=> ?_;obtain ⟨rfl,J,b,hk,rfl,hb⟩:=y;exact hs i J b σ H' hk hb p
end L2
namespace L2
open PySem PySem.Spec PyProof.Rows
section
variable {X:Cx}
def qzn (K:PySem.W.Frag):R2:=λ x y H Q=>∃ a b k1 k2,x= .ref a/\y= .ref b/\Rd H a (.dK k1)/\Rd H b (.dK k2)/\Paired (DatP K H) k1 k2/\Q (.bl true) H
theorem qtv (hu:X.A.units+64 < cLine) (K:PySem.W.Frag) (hK:X.K=K:=by rfl):OpR X (compareOp .Eq) (qzn K):=by
  subst hK;intro pins s σ H x y v u Q I rx ry h;obtain ⟨a,b,k1,k2,rfl,rfl,ra,rb,hp,q⟩:=h;cases rx
  cases ry
  obtain ⟨hz1,c7,v1,a9,o1,e1,p1,J,a3,b5,c4,a7,d2⟩:=ra.ok I.hok;obtain ⟨hz2,c8,v2,b3,o2,e2,p2,a1,a8,b6,c5,O,a6⟩:=rb.ok I.hok;have l0:k1.length=k2.length:=Paired.length hp;have l1:k1.length=v1.length:=Paired.length a9;have l2:k2.length=v2.length:=Paired.length b3;have l3:=a7.length;have l4:=O.length;rw [z19] at l3 l4;show wpAny _ _ (richCompare .Eq (.ref a) (.ref b)) _ _ s;refine wpAny_richCompare_same_room (T:="dict") ⟨o1,J,a3.1⟩ ⟨o2,a1,a8.1⟩ PySem.F.slot_dict_eq (z2o PySem.F.slot_dict_eq ⟨o1,J,a3.1⟩ PySem.F.entry_dict_eq ?_ (PySem.F.args_dict_eq_2 _ _)) (by omega);unfold Builtin.«dict.__eq__»;have T1:s.TypeIs (.ref a) "dict":=⟨o1,J,a3.1⟩;have T2:s.TypeIs (.ref b) "dict":=⟨o2,a1,a8.1⟩;have same:∀ nm (Q2:Bool ->Shared ->Prop) (E2:Value ->Shared ->Prop),Q2 true s ->wpAny (model X.prog X.w) X.A.in1 (Builtin.Dict.samePairs nm a b) Q2 E2 s:=λ nm Q2 E2 q2=>by
    refine qx7 c7 c8 J b5 a1 b6 c5 (by omega) (λ i e he=> ?_) q2;have b7:e1.toList[i]? =some e:=by simpa using he
    obtain ⟨kv,c6,i1,i2⟩:=qbb a7 b7;obtain ⟨pv,c9,pe,pr⟩:=qrd a9 c6;obtain ⟨qv,d1,qe,d,a0,a4,dz⟩:=qx8 hp c9;obtain ⟨qw,a2,we,wr⟩:=qzh b3 d1;obtain ⟨f,hf⟩:=qrc O a2;obtain ⟨qw2,Z,j1,j2⟩:=qbb O hf;rw [a2] at Z;cases Z
    have ek:kv.1=qw.1:=by rw [<- pe,qe,we]
    obtain ⟨k',c0,b8⟩:=c4 e (Array.mem_of_getElem? he);have b4:k'=kv.1:=(q16 X.prog X.w).inj _ _ _ c0 i1;have D:e2[i]? =some f:=by simpa using hf
    have a5:i < e2.size:=(Array.getElem?_eq_some_iff.mp D).1;refine ⟨kv.1,i,f,i1,by rw [b8,b4],?_,D,?_⟩
    · rw [Array.findIdx?_eq_some_iff_getElem]
      refine ⟨a5,?_,λ j hj=> ?_⟩
      · have:e2[i]=f:=by
          have:=z0b a5;rw [this] at D;exact Option.some.inj D
        rw [this,ek];exact j1
      · intro z
        have b9:j < e2.size:=by omega
        obtain ⟨qj,d0,z1,_⟩:=qbb O (i:=j) (e:=e2[j]) (by simp [b9]);have ej:kv.1=qj.1:=(q16 X.prog X.w).inj _ _ _ z z1;have m1:(v2.map (·.1))[j]? =some qw.1:=by rw [z22,d0];show some qj.1=_;rw [<- ej,ek]
        have m2:(v2.map (·.1))[i]? =some qw.1:=by rw [z22,a2];rfl
        obtain ⟨b1,c1⟩:=z07.mp m1;obtain ⟨b2,c2⟩:=z07.mp m2;have:=(z08.mp a6) j i b1 b2 hj;exact this (c1.trans c2.symm)
    · rw [i2,j2]
      obtain ⟨as,r1⟩:=Dat.reads I _ _ _ a0 pr;obtain ⟨bs,r2⟩:=Dat.reads I _ _ _ a4 wr;have hq:=SeqAt.eqAt_reads d d X.A.in1 s _ _ as bs r1 r2 (Dat.lay _ _ a0) (Dat.lay _ _ a4) (by
        have:X.A.in1.units=X.A.units+1:=rfl;rw [this];have:min d.depth d.depth<=d.depth:=Nat.min_le_left _ _;omega)
      rw [SeqAt.eqv_refl _ (Dat.lay _ _ a0)] at hq;exact hq
  refine z4f (m:=Builtin.Dict.dictSlotArgs "__eq__" ⟨[.ref a,.ref b],[]⟩) ?_;unfold Builtin.Dict.dictSlotArgs;refine z4f (wpAny_notOrdered_dict T1 ?_);refine z4e ?_;refine z4f (wpAny_isInstance T2 isSubtype_dict_dict ?_);rw [if_neg (by decide)];refine z4f (m:=Builtin.Dict.addrOf (Value.ref a)) (z4e ?_);refine z4f (m:=Builtin.Dict.addrOf (Value.ref b)) (z4e ?_);refine z4f (same _ _ _ ?_);exact z4e ⟨_,rfl,(λ z=>nomatch z),q1a I q rfl⟩
end
section
variable {prog:Program} {w:World} {A:Around} {E:Value ->Shared ->Prop} {s:Shared}
end
section
variable {X:Cx}
end
section
variable {X:Cx}
end
section
variable {prog:Program} {w:World} {A:Around} {E:Value ->Shared ->Prop} {s:Shared}
structure ZAp (z TI TO i1 i2:Addr) (f1 f2:List Addr):Prop where
 TIz:TI≠z
 TOz:TO≠z
 i1z:i1≠z
 i2z:i2≠z
 TITO:TI≠TO
 TIi1:TI≠i1
 TIi2:TI≠i2
 TOi1:TO≠i1
 TOi2:TO≠i2
 i12:i1≠i2
 z1:z∉f1
 TO1:TO∉f1
 i21:i2∉f1
 z2:z∉f2
 TO2:TO∉f2
 i1f:i1∉f2
end
section
variable {X:Cx} {pins:List (Addr×Obj)} {σ:St} {H:Hp} {s:Shared} {h':Heap}
end
section
variable {prog:Program} {w:World} {A:Around} {E:Value ->Shared ->Prop} {s:Shared}
end
section
variable {X:Cx} {elts:List Expr} {pt:Pos}
end
section
variable {X:Cx}
end
theorem MDef.imp {P:Program} {w:World} {K:PySem.W.Frag} {mg:Str ->Option Value} {base:Heap} {k:Nat} {C:Addr} {m:Str} {ps:List Str} {sp J:Sp} (D:MDef P w K mg base k C m ps sp) (h:∀ vs H Q E,J vs H Q E ->sp vs H Q E):MDef P w K mg base k C m ps J:=by
 obtain ⟨f,fd,F,hm,hb⟩:=D.ex;exact ⟨f,fd,F.imp h,hm,hb⟩
theorem MDef.mono {P:Program} {w:World} {K:PySem.W.Frag} {mg:Str ->Option Value} {base:Heap} {j k:Nat} {C:Addr} {m:Str} {ps:List Str} {sp:Sp} (D:MDef P w K mg base j C m ps sp) (h:j<=k):MDef P w K mg base k C m ps sp:=by
 obtain ⟨f,fd,F,hm,hb⟩:=D.ex;exact ⟨f,fd,F.mono h,hm,hb⟩
def qrn {ι:Type} (cls:ι ->Addr) (m:Str) (sp:ι ->Sp) (ta:TE) (t:TA):TE:=λ σ H Q=>ta σ H λ x H1=>∃ i a dx fs,x= .ref a/\H1 a=some (.ins (cls i) dx fs)/\fs.lookup m=none/\
 t σ H1 λ vs H2=>sp i (x::vs) H2 Q E0
section
variable {X:Cx} {k k':Nat} {ι:Type} {cls:ι ->Addr} {ps:List Str} {sp:ι ->Sp} {x m:Str} {p pos apos:Pos} {e o:Expr} {es:List Expr} {ta:TE} {t:TA}
theorem q38 {pl:Sem Bool} (D:∀ i,MDef X.prog X.w X.K X.mg X.base k (cls i) m ps (sp i)) (c:∀ i,Cls X.K (cls i)) (hr:Room k' X.A) (he:PE X o ta) (ha:PA X (e::es) t) (J:k<=k':=by decide)
  (Z:starEach (e::es) X.env=(false,eval e X.env)::starEach es X.env:=by rfl) (O:(backTo pos (starEach es X.env)).any (·.1)=false:=by rfl)
  (ht:eval (.Call (.Attribute o m apos) (e::es) [] pos) X.env=(do
   let ov <- eval o X.env
   standAt apos.atName
   let (f,first) <- holding [ov] (getMethod ov m pl)
   callWith pos f first (backTo pos (starEach (e::es) X.env)) (backToKw pos (keywordEach [] X.env))):=by rfl):
  PE X (.Call (.Attribute o m apos) (e::es) [] pos) (qrn cls m sp ta t):=by
 intro pins s σ H Q I h;refine PySem.W.methodCall_KW (pl:=pl) (thn (he pins s σ H _ I h) λ u s1 a0=> ?_) ht;obtain ⟨x,H1,I1,rx,i,a,dx,fs,ex,ea,l,q⟩:=a0;obtain ⟨f,fd,F,hm,hb⟩:=(D i).ex;subst ex;obtain rfl:u=Value.ref a:=rx;refine q9o I1 ea (c i) hm l ?_;refine PySem.W.callWith_K (first:=[.ref a]) (h₀:=X.base) I.ok.mod.kin hm.kp (thn (ha pos pins s1 σ H1 _ I1 q) λ us s2 ⟨vs,H2,I2,r,q2⟩=>⟨I2.kIn,?_⟩) Z O;exact qem (us:= .ref a::us) (vs:= .ref a::vs) F (hr.mono J) hb .nil qcc I2 (.cons rfl r) (by rw [z31];exact q2)
theorem q3l {pl:Sem Bool} (D:∀ i,MDef X.prog X.w X.K X.mg X.base k (cls i) m ps (sp i)) (c:∀ i,Cls X.K (cls i)) (hr:Room k' X.A) (he:PE X o ta) (J:k<=k':=by decide)
  (ht:eval (.Call (.Attribute o m apos) [] [] pos) X.env=(do
   let ov <- eval o X.env
   standAt apos.atName
   let (f,first) <- holding [ov] (getMethod ov m pl)
   callWith pos f first (backTo pos (starEach [] X.env)) (backToKw pos (keywordEach [] X.env))):=by rfl):
  PE X (.Call (.Attribute o m apos) [] [] pos) (qrn cls m sp ta tNil):=by
 intro pins s σ H Q I h;refine PySem.W.methodCall_KW (pl:=pl) (thn (he pins s σ H _ I h) λ u s1 O=> ?_) ht;obtain ⟨x,H1,I1,rx,i,a,dx,fs,ex,ea,l,q⟩:=O;obtain ⟨f,fd,F,hm,hb⟩:=(D i).ex;subst ex;obtain rfl:u=Value.ref a:=rx;refine q9o I1 ea (c i) hm l ?_;exact PySem.W.callWith_K0 (first:=[.ref a]) I1.kIn hm.kp (qem (us:=[.ref a]) (vs:=[.ref a]) F (hr.mono J) hb .nil qcc I1 (.cons rfl .nil) q)
structure IsiC (K:PySem.W.Frag) (C R:Addr):Prop where
 ha:PySem.W.findIn K (.ref C) "__class__"=some (some (.builtin "object.__class__"))
 hn:PySem.W.specialIn K (.builtin "object.__class__") "__get__"=some (some (.builtin "getset_descriptor.__get__"))
 htk:PySem.W.takesIn K (.builtin "object.__class__")=some true
 hm:PySem.W.mroIn K C (.type "object")=some true
 e:PySem.W.kitOne K (.ref C) (.ref R)=some true
end
section
open PySem.AutoSeq1
end
section
variable {X:Cx}
end
section
variable {prog:Program} {w:World} {A:Around} {E:Value ->Shared ->Prop} {s:Shared}
end
section
variable {X:Cx} {elts:List Expr} {pt:Pos}
end
section
variable {X:Cx}
end
end L2
namespace L2
open PySem PySem.Spec PyProof.Rows PySem.W
section
variable {prog:Program} {w:World} {A:Around} {E:Value ->Shared ->Prop} {s:Shared}
end
section
variable {X:Cx}
section
variable {pins:List (Addr×Obj)} {σ:St} {H:Hp} {s:Shared} {a kS:Addr} {vs ks:List Value} {rk:Value ->Int} {e e1:Nat} {P:PySem.Fin ->Shared ->Prop} {E:Value ->Shared ->Prop} {A:Around}
end
end
section
variable {X:Cx} {k k':Nat} {x p1:Str} {sp:Sp} {e:Expr} {t:TA} {p pos kpos xp:Pos}
end
end L2
namespace L2
open PySem PySem.Spec PyProof.Rows
section
variable {X:Cx}
end
section
variable {prog:Program} {w:World} {A:Around} {E:Value ->Shared ->Prop} {s:Shared}
end
section
variable {X:Cx} {elts:List Expr} {pt:Pos}
end
section
variable {prog:Program} {w:World} {A:Around} {E:Value ->Shared ->Prop} {s:Shared}
end
section
variable {X:Cx} {elts:List Expr} {pt:Pos}
end
section
variable {X:Cx} {k k':Nat} {C:Addr} {ps:List Str} {sp:Sp} {x:Str} {p pos:Pos} {e:Expr} {es:List Expr} {t:TA}
end
end L2
namespace PySem
section
variable {prog:Program} {w:World} {K:Type} [DecidableEq K] {knd:HeapKind prog w K} {A:Around} {E:Value ->Shared ->Prop} {s:Shared} {d a:Addr} {k:K} {xs:List (K×Addr×Value)}
end
end PySem
namespace L2
open PySem PySem.Spec PyProof.Rows
section
variable {X:Cx} {pins:List (Addr×Obj)} {σ:St} {H:Hp} {s:Shared} {a b:Addr} {kvs:List (List Key×V)} {k:List Key} {z:V} {r:Value} {A:Around} {E:Value ->Shared ->Prop}
end
section
variable {X:Cx} {o e f:Expr} {apos cpos:Pos} {td ty tx:TE}
end
end L2
namespace L2
open PySem PySem.Spec PyProof.Rows PySem.W
section
variable {X:Cx} {tg:Expr}
theorem q11e {st:Stmt}:PS X st (λ _ _ _=>False):=λ _ _ _ _ _ _ h=>h.elim
def q11f (_ j:Int):Prop:=0 < j/\j.natAbs.log2 < 9000
theorem qtw:OpR X (binaryOp .FloorDiv) (rI q11f λ i j=> .int (i / j)):=opI λ i j _ _ _ _ _ D q=>by
 have h1:(0:Int) < j:=D.1;exact floordiv_int (by omega) (by rw [Int.fdiv_eq_ediv_of_nonneg i (by omega)];exact q) (.inl (PyProof.noPylong_of_log2 D.2))
def Itr3 (lo c:Int) (n:Nat):It:=⟨λ i _=>i < n,λ i H x H'=>H'=H/\x= .int (lo+i*c),λ i _=>n<=i⟩
theorem qn1 {P:Program} {w:World} {K:PySem.W.Frag} {tg:Expr} (it:Addr) (lo c:Int) (n:Nat):Turn P w K tg (Itr3 lo c n) [it] it (λ i h=>IsRangeIter h it (lo+(i:Nat)*c) ((n:Int) - (i:Nat)) c) where
 mem:=by simp
 obj:=λ i h st b D=>by
  have e:b=it:=by simpa using D
  subst e;exact ⟨_,st,λ v z=>by
   have z':Data.fields _=Data.cell v:=z;cases z'⟩
 keep:=λ i h h' st k=>k it (by simp) _ st
 item:=by
  intro X hP hw hK hc i pins s σ H E I hf st hg;subst hP hw hK;obtain ⟨O,Z,f2,f3,f4,f5⟩:=hf it (by simp);have W:=Walks.range (prog:=X.prog) (w:=X.w) (I.ok.hd hc) it lo c n;refine W.item i s _ _ hg st λ v h' tk hv J kk=> ?_;obtain ⟨t,rfl⟩:=hv;have I1:Inv X pins σ H {s with heap:=h',toks:=tk}:=I.turned (λ b o D e=>kk b o (by simpa using D) e) O Z f3 f4 f5;exact ⟨_,rfl,qc9 (s:={s with heap:=h',toks:=tk}) (n:="range_iterator") J rfl rfl (by decide) ⟨.int (lo+i*c),H,I1,⟨t,rfl⟩,⟨rfl,rfl⟩,J,λ b D=>(hf b D).1⟩⟩
 done:=by
  intro X hP hw hK hc i pins s σ H E I hf st hg;subst hP hw hK;obtain ⟨O,Z,f2,f3,f4,f5⟩:=hf it (by simp);exact wpAny_pyNext_range_end (I.ok.hd hc) st (by have:n<=i:=hg;omega) λ h' eb=>⟨rfl,I.turned (t':=s.toks) (λ b o D e=>eb b o D e) O Z f3 f4 f5⟩
 self:=λ _ _ _ _ _ st h=>wpAny_pyIter_rangeiter st h
def cnt3 (lo hi c:Int):Nat:=(Builtin.Range.rangeSize lo hi c).toNat
theorem qro {pins:List (Addr×Obj)} {σ:St} {H:Hp} {s:Shared} {R:It ->Hp ->Prop} {E:Value ->Shared ->Prop} {lo hi c:Int} {t u v:Tok} {tk:Nat} (I:Inv X pins σ H s) (D:Builtin.Range.small lo hi c=true) (h0:0<=Builtin.Range.rangeSize lo hi c)
  (q:R (Itr3 lo c (cnt3 lo hi c)) H):wpAny (model X.prog X.w) X.A (pyIter (.ref s.heap.objs.size)) (PIE X pins σ tg R) E {s with heap:=s.heap.push {cls:= .type "range",data:= .fields #[.int lo t,.int hi u,.int c v]},toks:=tk}:=by
 refine wpAny_pyIter_range (IsRange.new ..) D ?_;have I1:Inv X pins σ H {s with heap:=s.heap.push {cls:= .type "range",data:= .fields #[.int lo t,.int hi u,.int c v]},toks:=tk}:=I.kept λ b o e=>z0o _ e;refine ⟨(s.heap.push {cls:= .type "range",data:= .fields #[.int lo t,.int hi u,.int c v]}).objs.size,[(s.heap.push {cls:= .type "range",data:= .fields #[.int lo t,.int hi u,.int c v]}).objs.size],_,_,H,zf,
  I1.kept (t':=tk) λ b o e=>z0o _ e,qn1 _ lo c (cnt3 lo hi c),?_,λ b hb=> ?_,q⟩
 ·have e1:lo+((0:Nat):Int)*c=lo:=by simp
  have e2:((cnt3 lo hi c:Nat):Int) - ((0:Nat):Int)=Builtin.Range.rangeSize lo hi c:=by unfold cnt3;omega
  show IsRangeIter _ _ (lo+((0:Nat):Int)*c) (((cnt3 lo hi c:Nat):Int) - ((0:Nat):Int)) c;rw [e1,e2];exact z1c _ rfl
 ·have e:b=(s.heap.push {cls:= .type "range",data:= .fields #[.int lo t,.int hi u,.int c v]}).objs.size:=by simpa using hb
  subst e;exact I1.fpOk (z48 _) (I1.hok.fresh (z48 _))
def q11g (ta:TA):TI:=λ σ H R=>ta σ H λ vs H1=>∃ i j c:Int,vs=[.int i,.int j,.int c]/\(0 < c/\c < 1073741824)/\Builtin.Range.small i j c=true/\0<=Builtin.Range.rangeSize i j c/\R (Itr3 i c (cnt3 i j c)) H1
theorem qrp {a b c:Expr} {ta:TA} {p pos:Pos} (hg:Gl X "range") (hm:X.mg "range"=none) (ha:PA X [a,b,c] ta) (hs:starEach [a,b,c] X.env=[(false,eval a X.env),(false,eval b X.env),(false,eval c X.env)]:=by rfl) (D:starEach [b,c] X.env=[(false,eval b X.env),(false,eval c X.env)]:=by rfl):
  PI X tg (.Call (.Name "range" p) [a,b,c] [] pos) (q11g ta):=by
 intro pins s σ H R I h;refine Call_ (qb0 I hg hm boot_range (z03 (thn (ha pos pins s σ H _ I h) λ us s1 Z=> ?_) (by rw [hs,D]) (by rw [D];rfl)));obtain ⟨vs,H1,I1,r1,q1⟩:=Z;obtain ⟨i,j,k,e,⟨q1,q2⟩,q3,q4,q⟩:=q1;subst e;cases r1 with
 | cons r J=>
  cases J with
  | cons r' J=>
   cases J with
   | cons O J=>
    cases J
    obtain ⟨t,rfl⟩:=r;obtain ⟨t',rfl⟩:=r';obtain ⟨t'',rfl⟩:=O;exact call_range_3 (by omega) (qro I1 q3 q4 q) (.inl (PyProof.noPylong_small (by omega)))
theorem qpi {lo c:Int} {n:Nat} {g:TG} {tb:TS} {D:Ends} {σ:St} {H:Hp} (Pv:Nat ->St ->Hp ->Prop) (h0:Pv 0 σ H)
  (hs:∀ i σ H,i < n ->Pv i σ H ->g (.int (lo+i*c)) σ H λ σ2 H2=>tb {D with nx:=Pv (i+1),ct:=Pv (i+1),bk:=D.nx} σ2 H2) (hd:∀ σ H,Pv n σ H ->D.nx σ H):
  ∃ W:Nat ->Nat ->St ->Hp ->Prop,(∃ m,W 0 m σ H)/\∀ i m σ H,W i m σ H ->
   ((Itr3 lo c n).stop i H/\D.nx σ H)\/ ((Itr3 lo c n).go i H/\∃ N:St ->Hp ->Prop,(∀ σ' H',N σ' H' ->∃ O,O < m/\W (i+1) O σ' H')/\∀ x H',(Itr3 lo c n).yld i H x H' ->g x σ H' λ σ2 H2=>tb {D with nx:=N,ct:=N,bk:=D.nx} σ2 H2):=by
 refine ⟨λ i m σ H=>m=n - i/\i<=n/\Pv i σ H,⟨n,by simp,z4b _,h0⟩,?_⟩;rintro i m σ H ⟨rfl,hi,p⟩;by_cases J:i < n
 ·refine .inr ⟨J,Pv (i+1),λ σ' H' p'=>⟨n - (i+1),by omega,zf,J,p'⟩,λ x H' y=> ?_⟩;obtain ⟨e,y⟩:=y;subst e y;exact hs i σ _ J p
 ·have e:i=n:=by omega
  subst e;exact .inl ⟨z48 _,hd σ H p⟩
end
end L2
open PySem PySem.W PyProof.Rows
namespace L2
theorem us0 {p:List Value ->Prop} (h:p []):∀ us:List Value,us.length=0 ->p us:=λ _ e=>(z0k.mp e).symm ▸ h
theorem us1 {p:List Value ->Prop} (h:∀ a:Value,p [a]):∀ us:List Value,us.length=1 ->p us
 | [],e=>absurd e (by decide)
 | a::t,e=>us0 (p:=λ us=>p (a::us)) (h a) t (Nat.succ.inj e)
theorem us2 {p:List Value ->Prop} (h:∀ a b:Value,p [a,b]):∀ us:List Value,us.length=2 ->p us
 | [],e=>absurd e (by decide)
 | a::t,e=>us1 (p:=λ us=>p (a::us)) (h a) t (Nat.succ.inj e)
theorem us3 {p:List Value ->Prop} (h:∀ a b c:Value,p [a,b,c]):∀ us:List Value,us.length=3 ->p us
 | [],e=>absurd e (by decide)
 | a::t,e=>us2 (p:=λ us=>p (a::us)) (h a) t (Nat.succ.inj e)
theorem us4 {p:List Value ->Prop} (h:∀ a b c d:Value,p [a,b,c,d]):∀ us:List Value,us.length=4 ->p us
 | [],e=>absurd e (by decide)
 | a::t,e=>us3 (p:=λ us=>p (a::us)) (h a) t (Nat.succ.inj e)
theorem us5 {p:List Value ->Prop} (h:∀ a b c d e:Value,p [a,b,c,d,e]):∀ us:List Value,us.length=5 ->p us
 | [],e=>absurd e (by decide)
 | a::t,e=>us4 (p:=λ us=>p (a::us)) (h a) t (Nat.succ.inj e)
structure FiK (K:PySem.W.Frag) (x:Str) (st:Stmt):Prop where
 ex:∃ (f:Addr) (oc:Value) (od an:Option Addr) (osl:Array (Option Value)) (kV doc pm cdv ct:Value),PySem.W.nsIn K mainGlobals x=some (some (.ref f))/\
  K.lookup f=some ⟨oc,od,.func (PySem.W.fnOf x x (q1l st) (q1d st) (qc st) .none kV doc pm an cdv ct),osl⟩/\PySem.W.codeIn K cdv x=true/\PySem.W.keepIn K (.ref f)=true
theorem fiK {K:PySem.W.Frag} {x:Str} {st:Stmt} {f:Addr} {oc:Value} {od Z:Option Addr} {O:Array (Option Value)} {kV J pm D ct:Value} (a:PySem.W.nsIn K mainGlobals x=some (some (.ref f)))
  (l:K.lookup f=some ⟨oc,od,.func (PySem.W.fnOf x x (q1l st) (q1d st) (qc st) .none kV J pm Z D ct),O⟩) (c:PySem.W.codeIn K D x=true) (k:PySem.W.keepIn K (.ref f)=true):FiK K x st:=
 ⟨f,oc,od,Z,O,kV,J,pm,D,ct,a,l,c,k⟩
theorem FiK.top {K:PySem.W.Frag} {h:Heap} {mg:Str ->Option Value} {x:Str} {st:Stmt} {ps:List Str} (F:FiK K x st) (X:K.In h) (G:h.Ns mainGlobals mg)
  (b:∀ (kV J Z:Value) (O:Option Addr) (D ct:Value) (us:List Value),us.length=ps.length ->bindArgs (PySem.W.fnOf x x (q1l st) (q1d st) (qc st) .none kV J Z O D ct) ⟨us,[]⟩=pure (ps.zip us)):Top K mg x st ps:=by
 obtain ⟨f,oc,od,O,osl,kV,J,Z,D,ct,a,l,c,k⟩:=F.ex;exact qz8 X G b a l c k
structure MiK (K:PySem.W.Frag) (x m qual:Str) (st:Stmt):Prop where
 ex:∃ (C f:Addr) (oc:Value) (od an:Option Addr) (osl:Array (Option Value)) (kV doc pm cdv ct:Value),PySem.W.nsIn K mainGlobals x=some (some (.ref C))/\PySem.W.findIn K (.ref C) m=some (some (.ref f))/\PySem.W.isFn K (.ref f)=true/\
  K.lookup f=some ⟨oc,od,.func (PySem.W.fnOf m qual (q1l st) (q1d st) (qc st) .none kV doc pm an cdv ct),osl⟩/\PySem.W.codeIn K cdv qual=true/\PySem.W.keepIn K (.ref f)=true
theorem miK {K:PySem.W.Frag} {x m qual:Str} {st:Stmt} {C f:Addr} {oc:Value} {od Z:Option Addr} {O:Array (Option Value)} {kV J pm D ct:Value} (n:PySem.W.nsIn K mainGlobals x=some (some (.ref C)))
  (a:PySem.W.findIn K (.ref C) m=some (some (.ref f))) (i:PySem.W.isFn K (.ref f)=true)
  (l:K.lookup f=some ⟨oc,od,.func (PySem.W.fnOf m qual (q1l st) (q1d st) (qc st) .none kV J pm Z D ct),O⟩) (c:PySem.W.codeIn K D qual=true) (k:PySem.W.keepIn K (.ref f)=true):MiK K x m qual st:=
 ⟨C,f,oc,od,Z,O,kV,J,pm,D,ct,n,a,i,l,c,k⟩
theorem MiK.top {K:PySem.W.Frag} {h:Heap} {mg:Str ->Option Value} {x m qual:Str} {st:Stmt} {ps:List Str} (F:MiK K x m qual st) (X:K.In h) (G:h.Ns mainGlobals mg)
  (b:∀ (kV J Z:Value) (O:Option Addr) (D ct:Value) (us:List Value),us.length=ps.length ->bindArgs (PySem.W.fnOf m qual (q1l st) (q1d st) (qc st) .none kV J Z O D ct) ⟨us,[]⟩=pure (ps.zip us)):MTop K (cA mg x) m qual st ps:=by
 obtain ⟨C,f,oc,od,O,osl,kV,J,Z,D,ct,n,a,i,l,c,k⟩:=F.ex;rw [q8t (z3r X G n)];exact qx9 b a i l c k
structure CiK (K:PySem.W.Frag) (x:Str):Prop where
 ex:∃ C:Addr,PySem.W.nsIn K mainGlobals x=some (some (.ref C))/\PySem.W.plainGet K C Str.empty=true/\PySem.W.hasDictIn K C=true/\PySem.W.plainOver K C=true/\
  PySem.W.findIn K (.ref C) "__setattr__"=some (some (.builtin "object.__setattr__"))/\PySem.W.makesIn K C=true/\PySem.W.keepIn K (.ref C)=true
theorem ciK {K:PySem.W.Frag} {x:Str} {C:Addr} (n:PySem.W.nsIn K mainGlobals x=some (some (.ref C))) (pg:PySem.W.plainGet K C Str.empty=true) (hd:PySem.W.hasDictIn K C=true) (po:PySem.W.plainOver K C=true)
  (sa:PySem.W.findIn K (.ref C) "__setattr__"=some (some (.builtin "object.__setattr__"))) (mk:PySem.W.makesIn K C=true) (kc:PySem.W.keepIn K (.ref C)=true):CiK K x:=⟨C,n,pg,hd,po,sa,mk,kc⟩
section
variable {K:PySem.W.Frag} {h:Heap} {mg:Str ->Option Value} {x a:Str} {v:Option (Option Value)}
theorem CiK.g (F:CiK K x) (X:K.In h) (G:h.Ns mainGlobals mg):mg x=some (.ref (cA mg x)):=by
 obtain ⟨C,n,_⟩:=F.ex;rw [q8t (z3r X G n)];exact z3r X G n
theorem CiK.cl (F:CiK K x) (X:K.In h) (G:h.Ns mainGlobals mg):Cls K (cA mg x):=by
 obtain ⟨C,n,pg,hd,po,sa,_⟩:=F.ex;rw [q8t (z3r X G n)];exact ⟨pg,hd,po,sa⟩
theorem CiK.mk' (F:CiK K x) (X:K.In h) (G:h.Ns mainGlobals mg):PySem.W.makesIn K (cA mg x)=true:=by
 obtain ⟨C,n,_,_,_,_,mk,_⟩:=F.ex;rw [q8t (z3r X G n)];exact mk
theorem CiK.kp (F:CiK K x) (X:K.In h) (G:h.Ns mainGlobals mg):PySem.W.keepIn K (.ref (cA mg x))=true:=by
 obtain ⟨C,n,_,_,_,_,_,kc⟩:=F.ex;rw [q8t (z3r X G n)];exact kc
structure AiK (K:PySem.W.Frag) (x a:Str) (v:Option (Option Value)):Prop where
 ex:∃ C:Addr,PySem.W.nsIn K mainGlobals x=some (some (.ref C))/\PySem.W.findIn K (.ref C) a=v
theorem aiK {C:Addr} (n:PySem.W.nsIn K mainGlobals x=some (some (.ref C))) (f:PySem.W.findIn K (.ref C) a=v):AiK K x a v:=⟨C,n,f⟩
theorem AiK.at' (F:AiK K x a v) (X:K.In h) (G:h.Ns mainGlobals mg):PySem.W.findIn K (.ref (cA mg x)) a=v:=by
 obtain ⟨C,n,f⟩:=F.ex;rw [q8t (z3r X G n)];exact f
end
end L2
namespace L2
open PySem PySem.Spec PyProof.Rows PySem.Builtin.Str
section
variable {X:Cx}
variable {v1 v2 v3 e:Expr} {t1 t2 t3 te:TE} {pos:Pos}
end
end L2
namespace L2
open PySem PySem.Spec PyProof.Rows PySem.Builtin.Str PySem.StrLaws PySem.NumText
end L2
set_option maxHeartbeats 4000000
namespace Wy
open PySem L2
def top (i:Nat):Stmt:=PySem.Challenge.pw_whyrows_k31_whole_sums_and_products_reck.main.body.getD i (.Pass ⟨0,0,0,0⟩)
abbrev qa0:Stmt:=top 7
abbrev q48:Stmt:=top 8
abbrev qbf:Stmt:=top 9
abbrev qbg:Stmt:=top 11
abbrev qa1:Stmt:=top 12
abbrev q6x:Stmt:=top 13
abbrev qa2:Stmt:=top 14
abbrev ql8:Stmt:=top 15
abbrev qg7:Stmt:=top 16
abbrev qa3:Stmt:=top 18
abbrev q81:Stmt:=top 20
abbrev q49:Stmt:=top 21
abbrev qa4:Stmt:=top 22
abbrev q41:Stmt:=top 25
abbrev q8y:Stmt:=top 26
abbrev qa5:Stmt:=top 27
abbrev q6y:Stmt:=top 28
abbrev q57:Stmt:=top 29
abbrev q66:Stmt:=top 30
abbrev qbh:Stmt:=top 31
abbrev qdo:Stmt:=top 32
abbrev q5m:Stmt:=q11 (top 34) 0
abbrev q6z:Stmt:=q11 (top 35) 0
abbrev q5n:Stmt:=q11 (top 35) 1
abbrev q70:Stmt:=q11 (top 35) 2
abbrev q5o:Stmt:=q11 (top 35) 3
abbrev q71:Stmt:=q11 (top 35) 4
abbrev q4q:Stmt:=q11 (top 35) 5
abbrev q82:Stmt:=q11 (top 36) 0
abbrev q67:Stmt:=q11 (top 36) 1
abbrev q83:Stmt:=q11 (top 36) 2
abbrev q68:Stmt:=q11 (top 36) 3
abbrev q84:Stmt:=q11 (top 36) 4
abbrev q58:Stmt:=q11 (top 34) 0
abbrev q4a:Stmt:=q11 (top 37) 0
abbrev q4b:Stmt:=q11 (top 37) 1
abbrev q85:Stmt:=q11 (top 37) 2
abbrev q69:Stmt:=q11 (top 37) 3
abbrev q86:Stmt:=q11 (top 37) 4
abbrev q6a:Stmt:=q11 (top 37) 5
abbrev q87:Stmt:=q11 (top 37) 6
abbrev q59:Stmt:=q11 (top 37) 7
abbrev q3w:Stmt:=q11 (top 38) 0
abbrev q72:Stmt:=q11 (top 38) 1
abbrev q5p:Stmt:=q11 (top 38) 2
abbrev q73:Stmt:=q11 (top 38) 3
abbrev q5q:Stmt:=q11 (top 38) 4
abbrev q74:Stmt:=q11 (top 38) 5
abbrev q4r:Stmt:=q11 (top 34) 0
abbrev q75:Stmt:=q11 (top 39) 0
abbrev q5r:Stmt:=q11 (top 39) 1
abbrev q76:Stmt:=q11 (top 39) 2
abbrev q5s:Stmt:=q11 (top 39) 3
abbrev q77:Stmt:=q11 (top 39) 4
abbrev q4s:Stmt:=q11 (top 34) 0
abbrev q88:Stmt:=q11 (top 40) 0
abbrev q6b:Stmt:=q11 (top 40) 1
abbrev q89:Stmt:=q11 (top 40) 2
abbrev q6c:Stmt:=q11 (top 40) 3
abbrev q8a:Stmt:=q11 (top 40) 4
abbrev q5a:Stmt:=q11 (top 34) 0
abbrev q6d:Stmt:=top 42
abbrev qa6:Stmt:=top 43
abbrev q8z:Stmt:=top 44
abbrev q8b:Stmt:=top 45
abbrev q78:Stmt:=top 46
abbrev q79:Stmt:=top 47
abbrev q7a:Stmt:=top 48
abbrev qbi:Stmt:=top 49
abbrev q8c:Stmt:=top 50
abbrev q4c:Stmt:=top 51
abbrev q8d:Stmt:=top 52
abbrev qpj:Stmt:=top 53
local macro_rules | `(tactic| k_updF)=>`(tactic| exact ⟨rfl,rfl,rfl,by decide+kernel,rfl,by decide+kernel,by decide+kernel⟩)
theorem qn2:FnScope ["thing"] ["thing"] (qc qa0):=by k_updF
theorem qaq:FnScope ["thing","first_signs"] ["thing","first_signs"] (qc q48):=by k_updF
theorem qpk:FnScope ["thing"] ["thing"] (qc qbf):=by k_updF
theorem qpl:FnScope ["name"] ["name"] (qc qbg):=by k_updF
theorem qd4:FnScope ["ways_by_product","names","ways","product"] ["ways_by_product","names","ways"] (qc qa1):=by k_updF
theorem qg8:FnScope ["ways_by_product"] ["ways_by_product"] (qc q6x):=by k_updF
theorem q6n:FnScope ["pairs","ways_by_product","names","ways"] ["pairs"] (qc qa2):=by k_updF
theorem qxb:FnScope ["one","other"] ["one","other"] (qc ql8):=by k_updF
theorem q6e:FnScope ["one","other","ways_by_product","names","ways","more_names","more_ways"] ["one","other"] (qc qg7):=by k_updF
theorem q4w:FnScope ["why","found","product","ways","name"] ["why"] (qc qa3):=by k_updF
theorem qao:FnScope ["names","by","worths","name"] ["names","by","worths"] (qc q81):=by k_updF
theorem q2q:FnScope ["product","by","worths","worth","name"] ["product","by","worths"] (qc q49):=by k_updF
theorem q4x:FnScope ["why","by","worths","worth","product","ways"] ["why","by","worths"] (qc qa4):=by k_updF
theorem qa7:FnScope ["thing"] ["thing"] (qc q41):=by k_updF
theorem ql9:FnScope ["thing"] ["thing"] (qc q8y):=by k_updF
theorem q6o:FnScope ["tree","words","node","word"] ["tree","words"] (qc qa5):=by k_updF
theorem qg9:FnScope ["node","members"] ["node","members"] (qc q6y):=by k_updF
theorem q3d:FnScope ["tree","words","members","nodes","node"] ["tree","words"] (qc q57):=by k_updF
theorem q30:FnScope ["sets","once","words","by_size"] ["sets"] (qc q66):=by k_updF
theorem q3q:FnScope ["sets","by_size","smaller","kept","size","least_here","words"] ["sets"] (qc qbh):=by k_updF
theorem qbj:FnScope ["one","other","together","words"] ["one","other"] (qc qdo):=by k_updF
theorem qga:FnScope ["self","thing"] ["self","thing"] (qc q6z):=by k_updF
theorem qdp:FnScope ["self"] ["self"] (qc q5n):=by k_updF
theorem qgb:FnScope ["self"] ["self"] (qc q70):=by k_updF
theorem qdq:FnScope ["self","one","other"] ["self","one","other"] (qc q5o):=by k_updF
theorem qgc:FnScope ["self","one","other"] ["self","one","other"] (qc q71):=by k_updF
theorem qbk:FnScope ["self","worth","many"] ["self","worth","many"] (qc q4q):=by k_updF
theorem qip:FnScope ["self","thing"] ["self","thing"] (qc q82):=by k_updF
theorem qev:FnScope ["self"] ["self"] (qc q67):=by k_updF
theorem qiq:FnScope ["self"] ["self"] (qc q83):=by k_updF
theorem qew:FnScope ["self","one","other"] ["self","one","other"] (qc q68):=by k_updF
theorem qir:FnScope ["self","one","other"] ["self","one","other"] (qc q84):=by k_updF
theorem qcl:FnScope ["self","worth","many"] ["self","worth","many"] (qc q58):=by k_updF
theorem qis:FnScope ["self","many"] ["self","many"] (qc q4a):=by k_updF
theorem qar:FnScope ["self","numbers"] ["self","numbers"] (qc q4b):=by k_updF
theorem qit:FnScope ["self","thing"] ["self","thing"] (qc q85):=by k_updF
theorem qex:FnScope ["self"] ["self"] (qc q69):=by k_updF
theorem qiu:FnScope ["self"] ["self"] (qc q86):=by k_updF
theorem qey:FnScope ["self","one","other"] ["self","one","other"] (qc q6a):=by k_updF
theorem q7b:FnScope ["self","one","other","sums","number"] ["self","one","other"] (qc q87):=by k_updF
theorem qcm:FnScope ["self","worth","many"] ["self","worth","many"] (qc q59):=by k_updF
theorem qgd:FnScope ["self","top"] ["self","top"] (qc q3w):=by k_updF
theorem qge:FnScope ["self","thing"] ["self","thing"] (qc q72):=by k_updF
theorem qdr:FnScope ["self"] ["self"] (qc q5p):=by k_updF
theorem qgf:FnScope ["self"] ["self"] (qc q73):=by k_updF
theorem qds:FnScope ["self","one","other"] ["self","one","other"] (qc q5q):=by k_updF
theorem qgg:FnScope ["self","one","other"] ["self","one","other"] (qc q74):=by k_updF
theorem qbl:FnScope ["self","worth","many"] ["self","worth","many"] (qc q4r):=by k_updF
theorem qgh:FnScope ["self","thing"] ["self","thing"] (qc q75):=by k_updF
theorem qdt:FnScope ["self"] ["self"] (qc q5r):=by k_updF
theorem qgi:FnScope ["self"] ["self"] (qc q76):=by k_updF
theorem qdu:FnScope ["self","one","other"] ["self","one","other"] (qc q5s):=by k_updF
theorem qgj:FnScope ["self","one","other"] ["self","one","other"] (qc q77):=by k_updF
theorem qbm:FnScope ["self","worth","many"] ["self","worth","many"] (qc q4s):=by k_updF
theorem qiv:FnScope ["self","thing"] ["self","thing"] (qc q88):=by k_updF
theorem qez:FnScope ["self"] ["self"] (qc q6b):=by k_updF
theorem qiw:FnScope ["self"] ["self"] (qc q89):=by k_updF
theorem qf0:FnScope ["self","one","other"] ["self","one","other"] (qc q6c):=by k_updF
theorem qix:FnScope ["self","one","other"] ["self","one","other"] (qc q8a):=by k_updF
theorem qcn:FnScope ["self","worth","many"] ["self","worth","many"] (qc q5a):=by k_updF
theorem qf1:FnScope ["_law_script","_law_k"] ["_law_script","_law_k"] (qc q6d):=by k_updF
theorem q39:FnScope ["_law_cell","_law_many","_law_rest","_law_found","_law_k","_law_one","_law_other"] ["_law_cell","_law_many"] (qc qa6):=by k_updF
theorem q2g:FnScope ["_law_x","_law_later","_law_rest","_law_word_here","_law_k"] ["_law_x"] (qc q8z):=by k_updF
theorem q51:FnScope ["_law_cell","_law_many","_law_found","_law_x"] ["_law_cell","_law_many"] (qc q8b):=by k_updF
theorem q4p:FnScope ["_law_row_here","_law_words_here","_law_ways","_law_k","_law_product"] ["_law_row_here","_law_words_here"] (qc q78):=by k_updF
theorem q99:FnScope ["_law_one","_law_other","_law_word_here"] ["_law_one","_law_other"] (qc q79):=by k_updF
theorem q3h:FnScope ["_law_row_here","_law_words_here","_law_kept","_law_x","_law_one"] ["_law_row_here","_law_words_here"] (qc q7a):=by k_updF
theorem qpm:FnScope ["_law_kind","_law_limit","_law_peak"] ["_law_kind","_law_limit","_law_peak"] (qc qbi):=by k_updF
theorem q52:FnScope ["_law_kind","_law_cell","_law_words_here","_law_limit","_law_peak","_law_row_here","_law_numbers"] ["_law_kind","_law_cell","_law_words_here","_law_limit","_law_peak"] (qc q8c):=by k_updF
theorem q42:FnScope ["_law_kind","_law_script","_law_words_here","_law_limit","_law_peak","_law_found","_law_k"] ["_law_kind","_law_script","_law_words_here","_law_limit","_law_peak"] (qc q4c):=by k_updF
theorem qiy:FnScope ["_law_found","_law_due"] ["_law_found","_law_due"] (qc q8d):=by k_updF
theorem q31:FnScope ["_law_script","_law_way","_law_kind","_law_limit","_law_peak","_law_words_here","_law_one","_law_other","_law_worths","_law_kept","_law_by_here","_law_left","_law_right","_law_name"] ["_law_script"] (qc qpj):=by k_updF
structure Txt (K:PySem.W.Frag) (mg:Str ->Option Value):Prop where
 b_abs:mg "abs"=none
 b_all:mg "all"=none
 b_any:mg "any"=none
 qfm:mg "bool"=none
 q10p:mg "dict"=none
 b_int:mg "int"=none
 q1p:mg "isinstance"=none
 b_len:mg "len"=none
 q50:mg "list"=none
 b_max:mg "max"=none
 b_min:mg "min"=none
 q9k:mg "range"=none
 b_set:mg "set"=none
 q2c:mg "sorted"=none
 b_str:mg "str"=none
 q9j:mg "tuple"=none
 qfr:∃ t,mg "SMALL_LETTERS"=some (.str "abcdefghijklmnopqrstuvwxyz" t)
 qfo:∃ t,mg "FURTHER_SIGNS"=some (.str "abcdefghijklmnopqrstuvwxyz0123456789" t)
 qmh:∃ t,mg "MOST_SIGNS"=some (.int 12 t)
 c_END:∃ t,mg "END"=some (.str "" t)
 qq5:Top K mg "is_whole" qa0 ["thing"]
 qc7:Top K mg "is_text_begun_by" q48 ["thing","first_signs"]
 qsv:Top K mg "is_word" qbf ["thing"]
 qsy:Top K mg "of_fact" qbg ["name"]
 qq2:Top K mg "count_in" qa1 ["ways_by_product","names","ways"]
 qjd:Top K mg "told_as_why" q6x ["ways_by_product"]
 qq4:Top K mg "gathered" qa2 ["pairs"]
 q10o:Top K mg "plus" ql8 ["one","other"]
 qyk:Top K mg "times" qg7 ["one","other"]
 qq1:Top K mg "names_of" qa3 ["why"]
 qm4:Top K mg "ask_worths" q81 ["names","by","worths"]
 qc8:Top K mg "product_reckoned" q49 ["product","by","worths"]
 qq3:Top K mg "reckoned" qa4 ["why","by","worths"]
 qau:Top K mg "is_tuple_of_words" q41 ["thing"]
 qn8:Top K mg "is_accord" q8y ["thing"]
 qq6:Top K mg "put_into" qa5 ["tree","words"]
 qje:Top K mg "kids_within" q6y ["node","members"]
 qeb:Top K mg "has_one_within" q57 ["tree","words"]
 qh6:Top K mg "once_by_size" q66 ["sets"]
 qsw:Top K mg "thinned" qbh ["sets"]
 qv9:Top K mg "agreed" qdo ["one","other"]
 qhb:Top K mg "_law_cell_at" q6d ["_law_script","_law_k"]
 qq0:Top K mg "_law_row" qa6 ["_law_cell","_law_many"]
 qn9:Top K mg "_law_word" q8z ["_law_x"]
 qmi:Top K mg "_law_words" q8b ["_law_cell","_law_many"]
 qjp:Top K mg "_law_why_by" q78 ["_law_row_here","_law_words_here"]
 qjb:Top K mg "_law_within" q79 ["_law_one","_law_other"]
 qjk:Top K mg "_law_accord" q7a ["_law_row_here","_law_words_here"]
 qsr:Top K mg "_law_by" qbi ["_law_kind","_law_limit","_law_peak"]
 qmd:Top K mg "_law_worth" q8c ["_law_kind","_law_cell","_law_words_here","_law_limit","_law_peak"]
 qc6:Top K mg "_law_many_worths" q4c ["_law_kind","_law_script","_law_words_here","_law_limit","_law_peak"]
 qm8:Top K mg "_law_alike" q8d ["_law_found","_law_due"]
 t_law:Top K mg "law" qpj ["_law_script"]
 q10s:mg "Reckoning"=some (.ref (cA mg "Reckoning"))
 q10n:Cls K (cA mg "Reckoning")
 q10r:PySem.W.makesIn K (cA mg "Reckoning")=true
 q10m:PySem.W.keepIn K (.ref (cA mg "Reckoning"))=true
 q10q:PySem.W.findIn K (.ref (cA mg "Reckoning")) "__init__"=some (some (.builtin "object.__init__"))
 qsx:NoAttr K (cA mg "Reckoning") "either"
 qsm:NoAttr K (cA mg "Reckoning") "nought"
 qpz:MTop K (cA mg "Reckoning") "repeated" "Reckoning.repeated" q5m ["self","worth","many"]
 qvb:mg "Counts"=some (.ref (cA mg "Counts"))
 qsz:Cls K (cA mg "Counts")
 qss:PySem.W.makesIn K (cA mg "Counts")=true
 qsp:PySem.W.keepIn K (.ref (cA mg "Counts"))=true
 qsu:PySem.W.findIn K (.ref (cA mg "Counts")) "__init__"=some (some (.builtin "object.__init__"))
 qjm:MTop K (cA mg "Counts") "fits" "Counts.fits" q6z ["self","thing"]
 qfk:MTop K (cA mg "Counts") "nought" "Counts.nought" q5n ["self"]
 qjj:MTop K (cA mg "Counts") "unit" "Counts.unit" q70 ["self"]
 qfp:MTop K (cA mg "Counts") "either" "Counts.either" q5o ["self","one","other"]
 qjn:MTop K (cA mg "Counts") "both" "Counts.both" q71 ["self","one","other"]
 qcu:MTop K (cA mg "Counts") "repeated" "Counts.repeated" q4q ["self","worth","many"]
 qyl:mg "Costs"=some (.ref (cA mg "Costs"))
 qv7:Cls K (cA mg "Costs")
 qv8:PySem.W.makesIn K (cA mg "Costs")=true
 qv6:PySem.W.keepIn K (.ref (cA mg "Costs"))=true
 qve:PySem.W.findIn K (.ref (cA mg "Costs")) "__init__"=some (some (.builtin "object.__init__"))
 qm7:MTop K (cA mg "Costs") "fits" "Costs.fits" q82 ["self","thing"]
 qhc:MTop K (cA mg "Costs") "nought" "Costs.nought" q67 ["self"]
 qm9:MTop K (cA mg "Costs") "unit" "Costs.unit" q83 ["self"]
 qhd:MTop K (cA mg "Costs") "either" "Costs.either" q68 ["self","one","other"]
 qmg:MTop K (cA mg "Costs") "both" "Costs.both" q84 ["self","one","other"]
 qed:MTop K (cA mg "Costs") "repeated" "Reckoning.repeated" q58 ["self","worth","many"]
 qoj:mg "Bests"=some (.ref (cA mg "Bests"))
 q4i:Cls K (cA mg "Bests")
 qmc:PySem.W.makesIn K (cA mg "Bests")=true
 qm5:PySem.W.keepIn K (.ref (cA mg "Bests"))=true
 q60:NoAttr K (cA mg "Bests") "most"
 qml:ITop K (cA mg "Bests") "Bests.__init__" "many" q4a (.int 3)
 qc5:MTop K (cA mg "Bests") "least_ones" "Bests.least_ones" q4b ["self","numbers"]
 qme:MTop K (cA mg "Bests") "fits" "Bests.fits" q85 ["self","thing"]
 qh8:MTop K (cA mg "Bests") "nought" "Bests.nought" q69 ["self"]
 qmj:MTop K (cA mg "Bests") "unit" "Bests.unit" q86 ["self"]
 qha:MTop K (cA mg "Bests") "either" "Bests.either" q6a ["self","one","other"]
 qma:MTop K (cA mg "Bests") "both" "Bests.both" q87 ["self","one","other"]
 qec:MTop K (cA mg "Bests") "repeated" "Bests.repeated" q59 ["self","worth","many"]
 qmf:mg "Trusts"=some (.ref (cA mg "Trusts"))
 q8w:Cls K (cA mg "Trusts")
 qif:PySem.W.makesIn K (cA mg "Trusts")=true
 qig:PySem.W.keepIn K (.ref (cA mg "Trusts"))=true
 q8j:NoAttr K (cA mg "Trusts") "top"
 qjo:ITop K (cA mg "Trusts") "Trusts.__init__" "top" q3w (.int 100)
 qjg:MTop K (cA mg "Trusts") "fits" "Trusts.fits" q72 ["self","thing"]
 qfl:MTop K (cA mg "Trusts") "nought" "Trusts.nought" q5p ["self"]
 qjc:MTop K (cA mg "Trusts") "unit" "Trusts.unit" q73 ["self"]
 qfq:MTop K (cA mg "Trusts") "either" "Trusts.either" q5q ["self","one","other"]
 qjf:MTop K (cA mg "Trusts") "both" "Trusts.both" q74 ["self","one","other"]
 qcs:MTop K (cA mg "Trusts") "repeated" "Reckoning.repeated" q4r ["self","worth","many"]
 qv5:mg "Truths"=some (.ref (cA mg "Truths"))
 qso:Cls K (cA mg "Truths")
 qst:PySem.W.makesIn K (cA mg "Truths")=true
 qsn:PySem.W.keepIn K (.ref (cA mg "Truths"))=true
 qsq:PySem.W.findIn K (.ref (cA mg "Truths")) "__init__"=some (some (.builtin "object.__init__"))
 qjh:MTop K (cA mg "Truths") "fits" "Truths.fits" q75 ["self","thing"]
 qfn:MTop K (cA mg "Truths") "nought" "Truths.nought" q5r ["self"]
 qji:MTop K (cA mg "Truths") "unit" "Truths.unit" q76 ["self"]
 qfs:MTop K (cA mg "Truths") "either" "Truths.either" q5s ["self","one","other"]
 qjl:MTop K (cA mg "Truths") "both" "Truths.both" q77 ["self","one","other"]
 qct:MTop K (cA mg "Truths") "repeated" "Reckoning.repeated" q4s ["self","worth","many"]
 qym:mg "Hands"=some (.ref (cA mg "Hands"))
 qvf:Cls K (cA mg "Hands")
 qva:PySem.W.makesIn K (cA mg "Hands")=true
 qvc:PySem.W.keepIn K (.ref (cA mg "Hands"))=true
 qvd:PySem.W.findIn K (.ref (cA mg "Hands")) "__init__"=some (some (.builtin "object.__init__"))
 qm6:MTop K (cA mg "Hands") "fits" "Hands.fits" q88 ["self","thing"]
 qh7:MTop K (cA mg "Hands") "nought" "Hands.nought" q6b ["self"]
 qmb:MTop K (cA mg "Hands") "unit" "Hands.unit" q89 ["self"]
 qh9:MTop K (cA mg "Hands") "either" "Hands.either" q6c ["self","one","other"]
 qmk:MTop K (cA mg "Hands") "both" "Hands.both" q8a ["self","one","other"]
 qee:MTop K (cA mg "Hands") "repeated" "Reckoning.repeated" q5a ["self","worth","many"]
theorem qu {b:Bool} {A B:Prop} (e:b=false) (h:B):if b=true then A else B:=by
 subst e;exact iteF h
theorem q1w {b:Bool} {A B:Prop} (e:b=true) (h:A):if b=true then A else B:=by
 subst e;exact iteT h
theorem qa8 (z:Str):z.cps.toList.length=z.length:=by simp [Str.length]
theorem qla (a b:Str):(a++b).cps.toList=a.cps.toList++b.cps.toList:=by
 show (a.cps++b.cps).toList=_;rw [z1a]
theorem qxc (a b:Str):(a++b).length=a.length+b.length:=by
 show (a.cps++b.cps).size=a.cps.size+b.cps.size;exact Array.size_append
theorem qtx {z:Str} (h:∀ c∈z.cps.toList,c < 0x110000):PyData.strOk z=true:=by
 unfold PyData.strOk;rw [<- Array.all_toList,z2n];exact λ c hc=>z3c (h c hc)
theorem qa9 {K:PySem.W.Frag} {H:Hp}:∀ {ds:List PyData} {xs:List V} {i:Nat} {x:V},Dats K H ds xs ->xs[i]? =some x ->∃ d,ds[i]? =some d/\Dat K H d x
 | _,_,i,x,.nil,h=>by simp at h
 | _,_,0,x,.cons a b,h=>by
  simp at h
  subst h;exact ⟨_,zf,a⟩
 | _,_,i+1,x,.cons a b,h=>by
  obtain ⟨d,e,r⟩:=qa9 (i:=i) (x:=x) b (by simpa using h);exact ⟨d,by simpa using e,r⟩
theorem qaa {K:PySem.W.Frag} {H:Hp}:∀ {ds:List PyData} {xs:List V},Dats K H ds xs ->ds.length=xs.length
 | _,_,.nil=>rfl
 | _,_,.cons a b=>by rw [z2i,z2i,qaa b]
def SameBut (d:Addr) (H H':Hp):Prop:=∀ b o,b≠d ->H b=some o ->H' b=some o
theorem SameBut.trans {d:Addr} {H H1 H2:Hp} (a:SameBut d H H1) (b:SameBut d H1 H2):SameBut d H H2:=λ c o n e=>b c o n (a c o n e)
theorem Same.but {d:Addr} {H H':Hp} (s:Same H H'):SameBut d H H':=λ b o _ e=>s b o e
theorem SameBut.upd (d:Addr) (H:Hp) (o:HO):SameBut d H (upd H d o):=λ b u n e=>by rw [qh n];exact e
def KeepT (H H':Hp):Prop:=∀ b ys,H b=some (.tup ys) ->H' b=some (.tup ys)
theorem Same.keepT {H H':Hp} (s:Same H H'):KeepT H H':=λ b ys e=>s b _ e
theorem KeepT.trans {H H1 H2:Hp} (a:KeepT H H1) (b:KeepT H1 H2):KeepT H H2:=λ c ys e=>b c ys (a c ys e)
theorem KeepT.upd {H H':Hp} {d:Addr} {xs ys:List V} (k:KeepT H H') (e:H' d=some (.lst xs)):KeepT H (upd H' d (.lst ys)):=λ b zs D=>by
 rw [qh (λ z=>by rw [z] at D;have:=k _ _ D;rw [e] at this;cases this)];exact k b zs D
abbrev Tab:=List (List Str×Int)
def encI (W:Tab):List (List Str×V):=W.map λ kv=>(kv.1,V.int kv.2)
def encD (W:Tab):HO:= .dT ((encI W).map λ kv=>(kv.1.map Sum.inr,kv.2))
def getA (W:Tab) (k:List Str):Option Int:=(W.find? λ kv=>decide (kv.1=k)).map (·.2)
def putA (W:Tab) (k:List Str) (v:Int):Tab:=if (W.any λ kv=>decide (kv.1=k))=true then W.map (λ kv=>if kv.1=k then (kv.1,v) else kv) else W++ [(k,v)]
def addA (W:Tab) (k:List Str) (v:Int):Tab:=putA W k ((getA W k).getD 0+v)
theorem qcf {a b:List Str}:a.map (Sum.inr:Str ->Key)=b.map Sum.inr↔a=b:=by
 constructor
 ·intro h;exact List.map_inj_right (λ x y e=>Sum.inr.inj e) |>.mp h
 ·intro h;rw [h]
theorem qxd (a b:List Str):decide (a.map (Sum.inr:Str ->Key)=b.map Sum.inr)=decide (a=b):=decide_eq_decide.mpr qcf
theorem qdv (W:Tab) (k:List Str):valV ((encI W).map λ D=>(D.1.map (Sum.inr:Str ->Key),D.2)) (k.map Sum.inr)=(getA W k).map V.int:=by
 unfold valV getA encI
 induction W with
 | nil=>rfl
 | cons p W ih=>
  rw [z3l,z3l];by_cases e:p.1=k
  ·rw [z0s (by rw [e];simp),z0s (by simpa using e)];rfl
  ·rw [z0t (by simpa using λ q=>e (qcf.mp q)),z0t (by simpa using e)];exact ih
theorem qlb (W:Tab) (k:List Str) (v:Int):putK ((encI W).map λ D=>(D.1.map (Sum.inr:Str ->Key),D.2)) (k.map Sum.inr) (V.int v)=(encI (putA W k v)).map λ D=>(D.1.map Sum.inr,D.2):=by
 unfold putK putA encI;have e1:((List.map (λ D:List Str×V=>(D.1.map (Sum.inr:Str ->Key),D.2)) (W.map λ D=>(D.1,V.int D.2))).any λ D=>decide (D.1=k.map Sum.inr))=W.any λ D=>decide (D.1=k):=by
  rw [List.any_map,List.any_map]
  congr 1
  funext D
  exact qxd D.1 k
 rw [e1];split
 ·rw [z47,z47,z47,z47];refine z1f λ D _=> ?_;show (if D.1.map (Sum.inr:Str ->Key)=k.map Sum.inr then (D.1.map Sum.inr,V.int v) else (D.1.map Sum.inr,V.int D.2))=_;by_cases h:D.1=k
  ·rw [if_pos (by rw [h])];show _=(((if D.1=k then (D.1,v) else D).1).map Sum.inr,V.int (if D.1=k then (D.1,v) else D).2);rw [if_pos h]
  ·rw [if_neg (λ q=>h (qcf.mp q))];show _=(((if D.1=k then (D.1,v) else D).1).map Sum.inr,V.int (if D.1=k then (D.1,v) else D).2);rw [if_neg h]
 ·rw [z36,z36];rfl
theorem qxe (W:Tab) (k j:List Str) (v:Int):getA (putA W k v) j=if j=k then some v else getA W j:=by
 have h:=q53 (κ:=List Str) (encI W) k j (V.int v);have e:∀ W:Tab,valV (κ:=List Str) (encI W) j=(getA W j).map V.int:=λ W=>by
  unfold valV getA encI
  induction W with
  | nil=>rfl
  | cons p W ih=>
   rw [z3l];by_cases e:p.1=j
   ·rw [z0s (by simpa using e),z0s (by simpa using e)];rfl
   ·rw [z0t (by simpa using e),z0t (by simpa using e)];exact ih
 have e2:putK (encI W) k (V.int v)=encI (putA W k v):=by
  unfold putK putA encI;rw [List.any_map];show (if (W.any λ D=>decide (D.1=k))=true then _ else _)=_;split
  ·rw [z47,z47];refine z1f λ D _=> ?_;show (if D.1=k then (D.1,V.int v) else (D.1,V.int D.2))=((if D.1=k then (D.1,v) else D).1,V.int (if D.1=k then (D.1,v) else D).2);split <;> rfl
  ·rw [z36];rfl
 rw [e2,e,e] at h;by_cases J:j=k
 ·rw [if_pos J] at h ⊢;cases q:getA (putA W k v) j with
  | none=>rw [q] at h;cases h
  | some n=>rw [q] at h;simpa using h
 ·rw [if_neg J] at h ⊢;cases q:getA (putA W k v) j with
  | none=>
   rw [q] at h;cases r:getA W j with
   | none=>rfl
   | some n=>rw [r] at h;cases h
  | some n=>
   rw [q] at h;cases r:getA W j with
   | none=>rw [r] at h;cases h
   | some m=>rw [r] at h;simpa using h
theorem qxf (W:Tab) (k j:List Str) (v:Int):(getA (addA W k v) j).getD 0=(getA W j).getD 0+if j=k then v else 0:=by
 unfold addA;rw [qxe];by_cases h:j=k
 ·subst h;rw [if_pos rfl,if_pos rfl];rfl
 ·rw [if_neg h,if_neg h,Int.add_zero]
theorem qdw (W:Tab) (k:List Str) (v:Int):(putA W k v).map (·.1)=if k∈W.map (·.1) then W.map (·.1) else W.map (·.1)++ [k]:=by
 unfold putA;have e:(W.any λ D=>decide (D.1=k))=decide (k∈W.map (·.1)):=by
  rw [z2z,z2p,decide_eq_true_iff,z45]
  constructor
  ·rintro ⟨p,J,h⟩;exact ⟨p,J,of_decide_eq_true h⟩
  ·rintro ⟨p,J,h⟩;exact ⟨p,J,z3c h⟩
 rw [e];by_cases h:k∈W.map (·.1)
 ·rw [if_pos (z3c h),if_pos h,z47];refine z1f λ D _=> ?_;show (if D.1=k then (D.1,v) else D).1=D.1;split <;> rfl
 ·rw [if_neg (by simpa using h),if_neg h,z36];rfl
theorem qrq {W:Tab} (h:(W.map (·.1)).Nodup) (k:List Str) (v:Int):((putA W k v).map (·.1)).Nodup:=by
 rw [qdw];split
 ·exact h
 ·rename_i hk;exact qfz h hk
theorem qxg {W:Tab} {k:List Str} {v:Int} {j:List Str}:j∈(putA W k v).map (·.1)↔j∈W.map (·.1)\/ j=k:=by
 rw [qdw];split
 ·rename_i hk
  constructor
  ·exact .inl
  ·rintro (h | rfl)
   ·exact h
   ·exact hk
 ·rw [z2u,z1m]
theorem qnz (W:Tab) (k:List Str) (v:Int):(putA W k v).length<=W.length+1:=by
 have:(putA W k v).length=((putA W k v).map (·.1)).length:=by rw [z30]
 rw [this,qdw];split
 ·rw [z30];omega
 ·rw [z1o,z30];exact z48 _
def told (W:Tab):Tab:=((Tim.srt qz (W.map (·.1))).map λ k=>(k,(getA W k).getD 0)).filter λ kv=>decide (0 < kv.2)
theorem q90 {α β:Type} {F:α ->β ->Prop} {x:α} {y:β}:∀ {xs:List α} {ys:List β},Paired F xs ys ->F x y ->Paired F (xs++ [x]) (ys++ [y])
 | _,_,.nil,h=> .cons h .nil
 | _,_,.cons a b,h=> .cons a (q90 b h)
def PlAt (H:Hp) (x:V) (kv:List Str×Int):Prop:=∃ q b,x= .ref q/\H q=some (.tup [.ref b,.int kv.2])/\H b=some (.tup (kv.1.map V.str))
theorem PlAt.keep {H H':Hp} {x:V} {D:List Str×Int} (h:PlAt H x D) (s:KeepT H H'):PlAt H' x D:=by
 obtain ⟨q,b,e,h1,h2⟩:=h;exact ⟨q,b,e,s _ _ h1,s _ _ h2⟩
theorem qcg {H H':Hp} (s:KeepT H H'):∀ {xs:List V} {ps:Tab},Paired (PlAt H) xs ps ->Paired (PlAt H') xs ps
 | _,_,.nil=> .nil
 | _,_,.cons a b=> .cons (a.keep s) (qcg s b)
def gath (ps:Tab):Tab:=ps.foldl (λ W p=>addA W (Tim.srt ql p.1) p.2) []
theorem q2m {ns:List Int} {k:Nat} (h:k < ns.length):atI (ns.map V.int) (k:Int)=some (V.int (ns.getD k 0)):=by
 rw [qnr h];exact q4k (by rw [z22,z0d h];rfl)
theorem qbn {K:PySem.W.Frag} {H:Hp}:∀ ns:List Int,Dats K H (ns.map .int) (ns.map V.int)
 | []=> .nil
 | n::ns=> .cons (.int n) (qbn ns)
theorem qf2 (ns:List Int):PyData.depthAll (ns.map .int)=0:=by
 induction ns with
 | nil=>rfl
 | cons x p ih=>
  show max (PyData.depth (.int x)) (PyData.depthAll (p.map .int))=0;rw [ih];rfl
theorem qty (xs:List V) (n:Nat) (h:n<=xs.length):cutV xs (some (n:Int)) none=xs.drop n:=by
 unfold cutV;rw [HT.sIx_nat,HT.sIx_none,Nat.min_eq_left h,z0n (by rw [z2h];exact z48 _)]
variable {P:Program} {w:World} {K:PySem.W.Frag} {mg:Str ->Option Value} {base:Heap}
def fur:Str:="abcdefghijklmnopqrstuvwxyz0123456789"
theorem qzo:∀ c∈fur.cps.toList,c < 0x110000:=by decide+kernel
def Wz (n:Nat) (z:Str):Prop:=z.length<=n/\∀ c∈z.cps.toList,c∈fur.cps.toList
theorem Wz.ok {n:Nat} {z:Str} (h:Wz n z):PyData.strOk z=true:=qtx λ c hc=>qzo c (h.2 c hc)
theorem qxh (d:Nat):(⟨#[d]⟩:Str).length<=1:=z48 _
theorem qxi (o:Option Int):(o.map V.int).getD (V.int 0)=V.int (o.getD 0):=by cases o <;> rfl
theorem qdx {W:Tab} (h:(W.map (·.1)).Nodup) {k:List Str} (hk:k∈W.map (·.1)):∃ n,getA W k=some n/\(k,n)∈W:=by
 obtain ⟨⟨k',n⟩,hp,e⟩:=z45.mp hk;have e':k'=k:=e;subst e';unfold getA;cases q:W.find? λ kv=>decide (kv.1=k') with
 | none=>
  have:=List.find?_eq_none.mp q _ hp;simp at this
 | some x=>
  have h1:=List.find?_some q;have h2:=z0c q;obtain ⟨x1,x2⟩:=x;have:x1=k':=by simpa using h1
  subst this;exact ⟨x2,zf,h2⟩
theorem q32 {α β:Type} {F:α ->β ->Prop}:∀ {l:List α} {k:List β} {i:Nat} {x:α},Paired F l k ->l[i]? =some x ->∃ y,k[i]? =some y/\F x y
 | _,_,_,_,.nil,h=>by simp at h
 | _,_,0,_,.cons a _,h=>by
  simp at h
  subst h;exact ⟨_,zf,a⟩
 | _,_,i+1,x,.cons _ r,h=>by
  obtain ⟨y,e,f⟩:=q32 (i:=i) (x:=x) r (by simpa using h);exact ⟨y,by simpa using e,f⟩
def PairAt (K:PySem.W.Frag) (H:Hp) (x:V) (p:List Str×Int):Prop:=∃ q b,x=V.ref q/\SqT K H q [.ref b,.int p.2]/\(SqL K H b (p.1.map V.str)\/ SqT K H b (p.1.map V.str))
theorem PairAt.same {K:PySem.W.Frag} {H H':Hp} {x:V} {p:List Str×Int} (h:PairAt K H x p) (s:Same H H'):PairAt K H' x p:=by
 obtain ⟨q,b,e,h1,h2⟩:=h;exact ⟨q,b,e,s.seqT h1,h2.imp s.seq s.seqT⟩
theorem qbo (ps:Tab) (p:List Str×Int):gath (ps++ [p])=addA (gath ps) (Tim.srt ql p.1) p.2:=by
 unfold gath;rw [z2f];rfl
theorem q3r:∀ (n:Nat) (ps:Tab),ps.length=n ->((gath ps).map (·.1)).Nodup/\(gath ps).length<=n/\(∀ k,k∈(gath ps).map (·.1)↔k∈ps.map λ p=>Tim.srt ql p.1)/\
  ∀ k,((getA (gath ps) k).getD 0)=((ps.filter λ p=>decide (Tim.srt ql p.1=k)).map (·.2)).sum
 | 0,ps,h=>by
  have:ps=[]:=List.eq_nil_of_length_eq_zero h;subst this;exact ⟨z3g,z48 _,λ k=>by simp [gath],λ k=>rfl⟩
 | n+1,ps,h=>by
  obtain ⟨D,p,rfl⟩:∃ D p,ps=D++ [p]:=⟨ps.dropLast,ps.getLast (by intro e;rw [e] at h;simp at h),(List.dropLast_concat_getLast _).symm⟩;obtain ⟨h1,h2,h3,h4⟩:=q3r n D (by rw [z1o] at h;simp at h;exact h);rw [qbo];refine ⟨qrq h1 _ _,z41 (qnz _ _ _) (z2q h2),λ k=> ?_,λ k=> ?_⟩
  ·unfold addA;rw [qxg,h3,z36,z2u];simp
  ·rw [qxf,h4,z1u,z36,List.sum_append]
   congr 1
   by_cases e:k=Tim.srt ql p.1
   ·rw [if_pos e];simp [e]
   ·rw [if_neg e];have:¬ Tim.srt ql p.1=k:=λ q=>e q.symm;simp [this]
def qtz (K:PySem.W.Frag):Sp:=λ vs H Q _=>∃ (d a:Addr) (W:Tab) (ws:List Str) (n:Int),vs=[.ref d,.ref a,.int n]/\H d=some (encD W)/\(SqL K H a (ws.map V.str)\/ SqT K H a (ws.map V.str))/\W.length < 100000/\
 ∀ H',SameBut d H H' ->H' d=some (encD (addA W (Tim.srt ql ws) n)) ->Q .non H'
theorem qd5 (T:Txt K mg):Def P w K mg base 1 "count_in" ["ways_by_product","names","ways"] (qtz K):=by
 refine T.qq2.ok qd4 (λ vs H Q E h=> ?_) λ f cdv A outer s H vs Q E hr h=> ?_
 ·obtain ⟨d,a,W,ws,n,rfl,_⟩:=h;rfl
 ·obtain ⟨d,a,W,ws,n,rfl,hd,ha,hl,k⟩:=h;refine ⟨_,(q2z
   (qy (i:=3) qd4.nd rfl (Or.inl rfl) (q27 (q6l K) rfl T.q9j q7x (pa_1 (qq (q7y K) rfl T.q2c q22 (pa_1 (pv 1))))))
   (q7l (q2h hr) (pv 0) (pv 3) (qm q1n (qti (q2h hr) (pv 0) (pv 3) qf ⟨rfl,rfl,rfl,rfl⟩) (pv 2)) rfl)),?_⟩
  refine ⟨_,zf,_,ws,zf,ha,λ l Z=> ?_⟩;have s1:=qd (o:=HO.lst ((Tim.srt ql ws).map V.str)) Z;refine ⟨_,_,zf,.inl ⟨SqL.of qb,λ t ht=> ?_⟩⟩;have s2:=qd (o:=HO.tup ((Tim.srt ql ws).map V.str)) ht;have D:=s2 _ _ (s1 _ _ hd);have O:upd (upd H l (.lst ((Tim.srt ql ws).map V.str))) t (.tup ((Tim.srt ql ws).map V.str)) t=some (.tup (((Tim.srt ql ws).map (Sum.inr:Str ->Key)).map kV)):=by
   rw [qb,q65]
  have J:DGet (upd (upd H l (.lst ((Tim.srt ql ws).map V.str))) t (.tup ((Tim.srt ql ws).map V.str))) d (.ref t) ((getA W (Tim.srt ql ws)).map V.int):=by
   rw [<- qdv];exact DGet.t D O
  refine ⟨_,zf,_,zf,.inr ⟨_,.inl D⟩,_,zf,_,J,_,zf,(getA W (Tim.srt ql ws)).getD 0,n,qxi _,zf,?_⟩;refine ⟨_,rfl,_,rfl,d,_,rfl,DPut.t D O (by rw [z30];unfold encI;rw [z30];exact z1r hl (by decide)),?_⟩;refine k _ ((Same.but (s1.trans s2)).trans (SameBut.upd d _ _)) ?_;rw [qb,qlb];rfl
def qxj (K:PySem.W.Frag):Sp:=λ vs H Q _=>∃ (d:Addr) (W:Tab),vs=[.ref d]/\H d=some (encD W)/\(W.map (·.1)).Nodup/\W.length < 100000/\(∀ kv∈W,∀ x∈kv.1,PyData.strOk x=true)/\
 ∀ l zs H',Same H H' ->H' l=some (.lst zs) ->H l=none ->(∀ H2,KeepT H' H2 ->Paired (PlAt H2) zs (told W)) ->Q (.ref l) H'
theorem q9a (T:Txt K mg):Def P w K mg base 1 "told_as_why" ["ways_by_product"] (qxj K):=by
 refine T.qjd.ok qg8 (λ vs H Q E h=> ?_) λ f cdv A outer s H vs Q E hr h=> ?_
 ·obtain ⟨d,W,rfl,_⟩:=h;rfl
 ·obtain ⟨d,W,rfl,hd,b2,b6,hok,k⟩:=h;refine ⟨_,(qg (qk (q29 (N:=["product","ways_by_product"]) (caps:=[none,some 0]) rfl (by with_unfolding_all rfl) (q19 K (qq (qb9 hr.units rfl K) rfl T.q2c q22 (pa_1 (pv 0)))) (λ _ _ _ _ _=>(qx (i:=0) (show (["product","ways_by_product"]:List Str).Nodup by decide+kernel) rfl (Or.inl rfl))) (λ _ _ _ _ _=>q97 (q12 qot (q4l (q2h hr) (pv 1) (pv 0) (λ _ _=>rfl)) qf (q13 _))) (λ _ _ _ _ _=>(q6q (pa_2 (pv 0) (q4l (q2h hr) (pv 1) (pv 0) (λ _ _=>rfl)))))))),?_⟩;refine ⟨_,zf,d,encI W,zf,hd,λ l zs hl hz=> ?_⟩;have ek:(encI W).map (·.1)=W.map (·.1):=by unfold encI;rw [z47];rfl
  rw [ek] at hz;have s1:=qd (o:=HO.lst zs) hl;refine ⟨l,zf,⟨_,SqL.of qb⟩,λ D hD=> ?_⟩;have b3:zs.length=(Tim.srt qz (W.map (·.1))).length:=Paired.length hz;have hlD:l≠D:=λ e=>by
   rw [e,qb] at hD;cases hD
  have a3:H D=none:=s1.free hD;generalize hS:Tim.srt qz (W.map (·.1))=S at*;have a1:∀ p∈S,p∈W.map (·.1):=λ p hp=>by
   rw [<- hS] at hp;exact (Tim.qo qz _).mem_iff.mp hp
  have a8:S.length<=100000:=by
   rw [<- hS,(Tim.qo qz _).length_eq,z30];omega
  refine q1x zs.length (λ i σ' H'=>(∃ v,σ'=[v,some (.ref d)])/\Same (upd H l (.lst zs)) H'/\∃ ys,H' D=some (.lst ys)/\ys.length<=i/\∀ H2,KeepT H' H2 ->Paired (PlAt H2) ys (((S.take i).map λ k=>(k,(getA W k).getD 0)).filter λ kv=>decide (0 < kv.2))) ⟨⟨_,rfl⟩,qd hD,[],qb,z4b _,λ _ _=> .nil⟩ (λ i σ' H' hi p=> ?_) (λ σ' H' p=>⟨?_,?_⟩) (λ i σ' H' hi p x H2 y=> ?_)
  ·obtain ⟨_,O,_⟩:=p;exact ⟨_,zs[i],SqL.of (O _ _ qb),z0d hi⟩
  ·obtain ⟨_,O,_⟩:=p;exact ⟨_,SqL.of (O _ _ qb),z48 _⟩
  ·obtain ⟨_,O,ys,e,_,hy⟩:=p;refine k D ys H' (s1.trans O) e a3 λ H2 h2=> ?_;have:=hy H2 h2;rw [b3,z2t] at this;unfold told;rw [hS];exact this
  ·obtain ⟨⟨v,rfl⟩,O,ys,e,a7,hy⟩:=p;obtain ⟨rfl,hx⟩:=y;have b5:=hx _ (SqL.of (O _ _ qb));obtain ⟨pr,a5,b,rfl,hb⟩:=q32 hz b5;have a6:pr∈S:=z18 a5;obtain ⟨n,hn,b7⟩:=qdx b2 (a1 pr a6);have a4:=O _ _ (s1 _ _ hb);have Z:∀ {G:Hp},Same H2 G ->DGet G d (.ref b) (some (.int n)):=λ {G} sg=>by
    have e1:(some (V.int n))=valV ((encI W).map λ kv=>(kv.1.map (Sum.inr:Str ->Key),kv.2)) (pr.map Sum.inr):=by rw [qdv,hn];rfl
    rw [e1];exact DGet.t (sg _ _ (O _ _ (s1 _ _ hd))) (by rw [q65];exact sg _ _ a4)
   have J:((S.take (i+1)).map λ k=>(k,(getA W k).getD 0)).filter (λ kv=>decide (0 < kv.2))=((S.take i).map λ k=>(k,(getA W k).getD 0)).filter (λ kv=>decide (0 < kv.2))++(if 0 < n then [(pr,n)] else []):=by
    rw [z3h,a5,z36,z1u]
    congr 1
    show List.filter _ [(pr,(getA W pr).getD 0)]=_;rw [hn];show List.filter _ [(pr,n)]=_;by_cases h:0 < n
    ·rw [if_pos h];simp [h]
    ·rw [if_neg h];simp [h]
   refine ⟨_,zf,_,zf,d,_,zf,Z (Same.refl _),_,_,zf,zf,_,zf,ite2 (λ h1=> ?_) (λ h1=> ?_)⟩
   ·have a0:0 < n:=of_decide_eq_true h1;refine ⟨_,rfl,_,rfl,_,rfl,d,_,rfl,Z (Same.refl _),by show 2<=sizeLine;decide,λ q hq=> ?_⟩;have s3:=qd (o:=HO.tup [.ref b,.int n]) hq;have b4:q≠D:=λ z=>by
     rw [z,e] at hq;cases hq
    refine ⟨_,s3 _ _ e,Nat.lt_of_le_of_lt a7 (z1r (show i < 1000000 by omega) (by decide)),⟨_,rfl⟩,?_,ys++ [.ref q],qb,by rw [z1o];exact z2q a7,λ H4 h4=> ?_⟩
    ·exact (O.trans s3).set hD
    ·rw [J,if_pos a0];have a9:b≠D:=λ z=>by
      rw [z,a3] at hb;cases hb
     exact q90 (hy H4 λ b' o' a2=>h4 b' o' (by rw [qh (λ z=>by rw [z,e] at a2;cases a2)];exact s3 _ _ a2)) ⟨q,b,rfl,h4 q _ (by rw [qh b4,qb]),h4 b _ (by rw [qh a9];exact s3 _ _ a4)⟩
   ·have a0:¬ 0 < n:=λ h=>h1 (z3c h);refine ⟨⟨_,zf⟩,O,ys,e,by omega,λ H4 h4=> ?_⟩;rw [J,if_neg a0,z31];exact hy H4 h4
def qxk (K:PySem.W.Frag):Sp:=λ vs H Q _=>∃ (a:Addr) (xs:List V) (ps:Tab),vs=[.ref a]/\SqL K H a xs/\Paired (PairAt K H) xs ps/\ps.length < 100000/\(∀ p∈ps,∀ x∈p.1,PyData.strOk x=true)/\
 ∀ l zs H',Same H H' ->H' l=some (.lst zs) ->H l=none ->(∀ H2,KeepT H' H2 ->Paired (PlAt H2) zs (told (gath ps))) ->Q (.ref l) H'
theorem qn3 (T:Txt K mg):Def P w K mg base 2 "gathered" ["pairs"] (qxk K):=by
 refine T.qq4.ok q6n (λ vs H Q E h=> ?_) λ f cdv A outer s H vs Q E hr h=> ?_
 ·obtain ⟨a,xs,ps,rfl,_⟩:=h;rfl
 ·obtain ⟨a,xs,ps,rfl,ha,hp,hl,hok,k⟩:=h;refine ⟨_,(q3c
   (qy (i:=1) q6n.nd rfl (Or.inl rfl) q9r)
   (q1m PassesOwn.never rfl (q19 K (pv 0)) (qb1 rfl (q35 (qx (i:=2) q6n.nd rfl (Or.inl rfl)) (q35 (qx (i:=3) q6n.nd rfl (Or.inl rfl)) q93))) (qg (q2t (qp (qd5 T) hr rfl (pa_3 (pv 1) (pv 2) (pv 3))))))
   (qk (qp (q9a T) hr rfl (pa_1 (pv 1))))),?_⟩
  refine λ d hd=> ?_;have s1:=qd (o:=HO.dT []) hd;have a6:xs.length=ps.length:=Paired.length hp;refine ⟨_,zf,a,zf,⟨_,s1.seq ha⟩,q26 (xs:=xs) (λ i σ H'=>Same H H'/\H' d=some (encD (gath (ps.take i)))/\∃ v1 v2,σ=[some (.ref a),some (.ref d),v1,v2]) ⟨s1,qb,_,_,zf⟩ (λ i σ H' _ z=>z.1.seq ha) ?_ ?_⟩
  ·rintro i x σ H' hx ⟨O,D,v1,v2,rfl⟩;obtain ⟨p,J,a4⟩:=q32 hp hx;obtain ⟨q,b,rfl,hq,hb⟩:=a4.same O;have il:i < ps.length:=(z07.mp J).1;obtain ⟨_,gl,_,_⟩:=q3r (ps.take i).length (ps.take i) rfl;rw [z2g] at gl;refine ⟨_,_,zf,hq,zf,_,_,zf,_,_,zf,zf,?_⟩;refine ⟨_,zf,_,zf,_,zf,d,b,_,p.1,p.2,zf,D,hb,by omega,λ H2 s2 a0=> ?_⟩;refine ⟨λ c o Z=>s2 c o (λ z=>by rw [z,hd] at Z;cases Z) (O c o Z),?_,_,_,rfl⟩;rw [z3h,J];show H2 d=some (encD (gath (ps.take i++ [p])));rw [qbo];exact a0
  ·rintro σ H' ⟨O,D,v1,v2,rfl⟩;rw [a6,z2t] at D;obtain ⟨g1,g2,g3,g4⟩:=q3r ps.length ps rfl;have kok:∀ k∈(gath ps).map (·.1),∀ x∈k,PyData.strOk x=true:=λ k' hk x hx=>by
    obtain ⟨p,a5,e⟩:=z45.mp ((g3 k').mp hk);refine hok p a5 x ?_;have:x∈Tim.srt ql p.1:=by rw [show Tim.srt ql p.1=k' from e];exact hx
    exact (Tim.qo ql p.1).mem_iff.mp this
   refine ⟨_,zf,d,gath ps,zf,D,g1,by omega,λ kv a1=>kok _ (z45.mpr ⟨kv,a1,zf⟩),λ l zs H2 s2 a2 a3 hz=>k l zs H2 (O.trans s2) a2 (O.free a3) hz⟩
def Asc (p:List Str):Prop:=p.Pairwise λ a b=>ql b a=false
def Rise (W:Tab):Prop:=(W.map (·.1)).Pairwise λ a b=>qz a b=true
theorem qbp {α:Type} {lt:α ->α ->Bool} (h:Tim.STO lt):∀ {l:List α},l.Pairwise (λ a b=>lt b a=false) ->l.Nodup ->l.Pairwise λ a b=>lt a b=true
 | [],_,_=> .nil
 | a::l,h1,h2=>by
  obtain ⟨a1,a2⟩:=z1q.mp h1;obtain ⟨b1,b2⟩:=z32.mp h2;refine z1q.mpr ⟨λ b D=> ?_,qbp h a2 b2⟩;cases e:lt a b with
  | true=>rfl
  | false=>exact absurd (h.tri a b e (a1 b D)) λ z=>b1 (z ▸ D)
theorem qrr (W:Tab):((told W).map (·.1)).Sublist (Tim.srt qz (W.map (·.1))):=by
 unfold told;have:((Tim.srt qz (W.map (·.1))).map λ k=>(k,(getA W k).getD 0)).map (·.1)=Tim.srt qz (W.map (·.1)):=by
  rw [z47];exact z4c _
 have h2:=(List.filter_sublist (l:=(Tim.srt qz (W.map (·.1))).map λ k=>(k,(getA W k).getD 0)) (p:=λ kv=>decide (0 < kv.2))).map (·.1);rw [this] at h2;exact h2
theorem qu0 (W:Tab):(told W).length<=W.length:=by
 have:=(qrr W).length_le;rw [z30,(Tim.qo qz _).length_eq,z30] at this;exact this
theorem qdy {W:Tab} {D:List Str×Int}:D∈told W↔D.1∈W.map (·.1)/\D.2=(getA W D.1).getD 0/\0 < D.2:=by
 unfold told;rw [z2x,z45]
 constructor
 ·rintro ⟨⟨k,hk,rfl⟩,h⟩;exact ⟨(Tim.qo qz _).mem_iff.mp hk,zf,of_decide_eq_true h⟩
 ·rintro ⟨h1,h2,h3⟩;refine ⟨⟨D.1,(Tim.qo qz _).mem_iff.mpr h1,?_⟩,z3c h3⟩;rw [<- h2]
theorem qu1 {W:Tab} {k:List Str} {v:Int} {D:List Str×Int} (h:D∈putA W k v):D∈W\/ D=(k,v):=by
 unfold putA at h;split at h
 ·obtain ⟨x,hx,e⟩:=z45.mp h;by_cases q:x.1=k
  ·rw [if_pos q] at e;exact .inr (by rw [<- e,q])
  ·rw [if_neg q] at e;exact .inl (e ▸ hx)
 ·rcases z2u.mp h with h | h
  ·exact .inl h
  ·exact .inr (z1m.mp h)
theorem q1t {α β:Type} {F:α ->β ->Prop}:∀ {xs D:List α} {ys J:List β},Paired F xs ys ->Paired F D J ->Paired F (xs++D) (ys++J)
 | _,_,_,_,.nil,h=>h
 | _,_,_,_,.cons a b,h=> .cons a (q1t b h)
theorem qhy {K:PySem.W.Frag} {H:Hp}:∀ {xs:List V} {W:Tab},Paired (PlAt H) xs W ->Paired (PairAt K H) xs W
 | _,_,.nil=> .nil
 | _,_,.cons ⟨q,b,e,h1,h2⟩ r=> .cons ⟨q,b,e,SqT.of h1,.inr (SqT.of h2)⟩ (qhy r)
theorem qrs (D:List Str×Int) (W:Tab) (p:List Str):getA (D::W) p=if D.1=p then some D.2 else getA W p:=by
 unfold getA;by_cases h:D.1=p
 ·rw [z0s (by simpa using h),if_pos h];rfl
 ·rw [z0t (by simpa using h),if_neg h]
def qxl (K:PySem.W.Frag):Sp:=λ vs H Q _=>∃ (a b:Addr) (xs ys:List V) (A B:Tab),vs=[.ref a,.ref b]/\H a=some (.lst xs)/\H b=some (.lst ys)/\Paired (PlAt H) xs A/\Paired (PlAt H) ys B/\A.length<=10000/\B.length<=10000/\(∀ p∈A++B,∀ x∈p.1,PyData.strOk x=true)/\
 ∀ l zs H',Same H H' ->H' l=some (.lst zs) ->H l=none ->(∀ H2,KeepT H' H2 ->Paired (PlAt H2) zs (told (gath (A++B)))) ->Q (.ref l) H'
theorem qxm (T:Txt K mg):Def P w K mg base 3 "plus" ["one","other"] (qxl K):=by
 refine T.q10o.ok qxb (λ vs H Q E h=> ?_) λ f cdv A outer s H vs Q E hr h=> ?_
 ·obtain ⟨a,b,xs,ys,A,B,rfl,_⟩:=h;rfl
 ·obtain ⟨a,b,xs,ys,A,B,rfl,ha,hb,O,Z,la,lb,hok,k⟩:=h;refine ⟨_,(qg (qk (qp (qn3 T) hr rfl (pa_1 (qm qen (pv 0) (pv 1)))))),?_⟩;have l1:=Paired.length O;have l2:=Paired.length Z;refine ⟨_,rfl,_,rfl,_,_,_,_,rfl,rfl,ha,hb,z41 (show xs.length+ys.length<=1000000 by omega) (by decide),λ p hp=> ?_⟩;have J:=qd (o:=HO.lst (xs++ys)) hp;refine ⟨p,_,A++B,rfl,SqL.of qb,qhy (qcg (Same.keepT J) (q1t O Z)),by rw [z1o];omega,hok,λ l zs H' s2 hl D hz=> ?_⟩;exact k l zs H' (J.trans s2) hl (J.free D) hz
def mulP (p q:List Str×Int):List Str×Int:=(p.1++q.1,p.2*q.2)
def prods (A B:Tab):Tab:=A.flatMap λ p=>B.map (mulP p)
theorem qpn {A B:Tab} {i:Nat} {p:List Str×Int} (h:A[i]? =some p):prods (A.take (i+1)) B=prods (A.take i) B++B.map (mulP p):=by
 unfold prods;rw [z3h,h,z1j]
 congr 1
 simp
theorem qbq (A B:Tab):(prods A B).length=A.length*B.length:=by
 induction A with
 | nil=>simp [prods]
 | cons p A ih=>
  have e:prods (p::A) B=B.map (mulP p)++prods A B:=rfl;rw [e,z1o,z30,ih,z2i,Nat.add_mul];omega
theorem q8v {A B:Tab} {r:List Str×Int} (h:r∈prods A B):∃ p∈A,∃ q∈B,r=mulP p q:=by
 obtain ⟨p,hp,h⟩:=List.mem_flatMap.mp h;obtain ⟨q,hq,e⟩:=z45.mp h;exact ⟨p,hp,q,hq,e.symm⟩
def qu2 (K:PySem.W.Frag):Sp:=λ vs H Q _=>∃ (a b:Addr) (xs ys:List V) (A B:Tab),vs=[.ref a,.ref b]/\H a=some (.lst xs)/\H b=some (.lst ys)/\Paired (PlAt H) xs A/\Paired (PlAt H) ys B/\A.length<=200/\B.length<=200/\(∀ p∈A++B,(∀ x∈p.1,PyData.strOk x=true)/\p.1.length<=1000/\0<=p.2/\p.2 < 2^600)/\
 ∀ l zs H',Same H H' ->H' l=some (.lst zs) ->H l=none ->(∀ H2,KeepT H' H2 ->Paired (PlAt H2) zs (told (gath (prods A B)))) ->Q (.ref l) H'
theorem qu3 (T:Txt K mg):Def P w K mg base 2 "times" ["one","other"] (qu2 K):=by
 refine T.qyk.ok q6e (λ vs H Q E h=> ?_) λ f cdv A outer s H vs Q E hr h=> ?_
 ·obtain ⟨a,b,xs,ys,A,B,rfl,_⟩:=h;rfl
 ·obtain ⟨a,b,xs,ys,A,B,rfl,ha,hb,hA,hB,la,lb,hok,k⟩:=h;refine ⟨_,(q3c
   (qy (i:=2) q6e.nd rfl (Or.inl rfl) q9r)
   (q1m PassesOwn.never rfl (q19 K (pv 0)) (qb1 rfl (q35 (qx (i:=3) q6e.nd rfl (Or.inl rfl)) (q35 (qx (i:=4) q6e.nd rfl (Or.inl rfl)) q93))) (qg (q1m PassesOwn.never rfl (q19 K (pv 1)) (qb1 rfl (q35 (qx (i:=5) q6e.nd rfl (Or.inl rfl)) (q35 (qx (i:=6) q6e.nd rfl (Or.inl rfl)) q93))) (qg (q2t (qp (qd5 T) hr rfl (pa_3 (pv 2) (qm (qnu K) (pv 3) (pv 5)) (qm qg2 (pv 4) (pv 6)))))))))
   (qk (qp (q9a T) hr rfl (pa_1 (pv 2))))),?_⟩
  have l1:=Paired.length hA;have l2:=Paired.length hB;have D:∀ i j:Nat,i<=200 ->j<=200 ->i*j<=40000:=λ i j hi hj=>z41 (z3j hi hj) (by decide);refine λ d hd=> ?_;have s1:=qd (o:=HO.dT []) hd;refine ⟨_,zf,a,zf,⟨_,SqL.of (s1 _ _ ha)⟩,q26 (xs:=xs) (λ i σ G=>Same H G/\(∃ v1 v2 v3 v4,σ=[some (.ref a),some (.ref b),some (.ref d),v1,v2,v3,v4])/\G d=some (encD (gath (prods (A.take i) B)))) ⟨s1,⟨_,_,_,_,zf⟩,qb⟩ (λ i σ G _ z=>SqL.of (z.1 _ _ ha)) ?_ ?_⟩
  ·rintro i x σ G hx ⟨sg,⟨v1,v2,v3,v4,rfl⟩,hW⟩;obtain ⟨p,Z,a9⟩:=q32 hA hx;obtain ⟨q,b1,rfl,hq,a3⟩:=a9.keep (Same.keepT sg);have hp:=hok p (z17 _ (z18 Z));have il:i < A.length:=(z07.mp Z).1;refine ⟨_,_,zf,SqT.of hq,zf,_,_,zf,_,_,zf,zf,?_⟩;refine ⟨_,rfl,b,rfl,⟨_,SqL.of (sg _ _ hb)⟩,q26 (xs:=ys) (λ j σ F=>Same H F/\F b1=some (.tup (p.1.map V.str))/\(∃ v3 v4,σ=[some (.ref a),some (.ref b),some (.ref d),some (.ref b1),some (.int p.2),v3,v4])/\F d=some (encD (gath (prods (A.take i) B++(B.take j).map (mulP p))))) ⟨sg,a3,⟨_,_,rfl⟩,by rw [List.take_zero,z44,z31];exact hW⟩ (λ j σ F _ z=>SqL.of (z.1 _ _ hb)) ?_ ?_⟩
   ·rintro j y σ F hy ⟨sf,J,⟨v3,v4,rfl⟩,O⟩;obtain ⟨r,a0,b5⟩:=q32 hB hy;obtain ⟨q2,b2,rfl,b4,a4⟩:=b5.keep (Same.keepT sf);have hr:=hok r (z0w _ (z18 a0));have jl:j < B.length:=(z07.mp a0).1;refine ⟨_,_,zf,SqT.of b4,zf,_,_,zf,_,_,zf,zf,?_⟩;refine ⟨_,zf,_,zf,_,zf,b1,b2,_,_,zf,zf,SqT.of J,SqT.of a4,?_,λ t F2 a1 ht=> ?_⟩
    ·rw [z30,z30];exact z41 (show p.1.length+r.1.length<=1000000 by have:=hp.2.1;have:=hr.2.1;omega) (by decide)
    ·rw [<- z36] at ht;have a2:=a1 _ _ O;obtain ⟨_,gl,_,_⟩:=q3r _ (prods (A.take i) B++(B.take j).map (mulP p)) rfl;rw [z1o,z30,qbq,z2g,z2g] at gl;have g2:=D (min i A.length) B.length (by omega) lb;refine ⟨_,zf,_,zf,_,_,zf,zf,⟨⟨hp.2.2.1,hp.2.2.2⟩,⟨hr.2.2.1,hr.2.2.2⟩⟩,d,t,_,p.1++r.1,p.2*r.2,zf,a2,.inr ht,by omega,λ F3 s3 a5=> ?_⟩;refine ⟨λ c o hc=>s3 c o (λ z=>by rw [z,hd] at hc;cases hc) (a1 _ _ (sf c o hc)),s3 b1 _ (λ z=>by rw [z,O] at J;cases J) (a1 _ _ J),⟨_,_,rfl⟩,?_⟩;rw [z3h,a0,z36,<- z1y];show F3 d=some (encD (gath ((prods (A.take i) B++(B.take j).map (mulP p))++ [mulP p r])));rw [qbo];exact a5
   ·rintro σ F ⟨sf,J,⟨v3,v4,rfl⟩,O⟩;rw [l2,z2t,<- qpn Z] at O;exact ⟨sf,⟨_,_,_,_,zf⟩,O⟩
  ·rintro σ G ⟨sg,⟨v1,v2,v3,v4,rfl⟩,hW⟩;rw [l1,z2t] at hW;obtain ⟨g1,g2,g3,g4⟩:=q3r (prods A B).length (prods A B) rfl;have gl:=qbq A B;have g5:=D A.length B.length la lb;refine ⟨_,zf,d,gath (prods A B),zf,hW,g1,by omega,λ kv a6 x hx=> ?_,λ l zs H2 s2 a7 a8 hz=>k l zs H2 (sg.trans s2) a7 (sg.free a8) hz⟩;obtain ⟨p,b3,e⟩:=z45.mp ((g3 kv.1).mp (z45.mpr ⟨kv,a6,rfl⟩));have b6:x∈p.1:=by
    have:x∈Tim.srt ql p.1:=by rw [show Tim.srt ql p.1=kv.1 from e];exact hx
    exact (Tim.qo ql p.1).mem_iff.mp this
   obtain ⟨p1,h1,p2,h2,rfl⟩:=q8v b3;rcases z2u.mp b6 with h | h
   ·exact (hok p1 (z17 _ h1)).1 x h
   ·exact (hok p2 (z0w _ h2)).1 x h
def tg (ps:Tab):Tab:=told (gath ps)
abbrev NN (ps:Tab):Prop:=∀ p∈ps,0<=p.2
theorem qzp {ps:Tab}:∀ p∈tg ps,1<=p.2:=λ p hp=>(qdy.mp hp).2.2
theorem q11h (ps:Tab):NN (tg ps):=λ p hp=>z3w (by decide) (qzp p hp)
theorem qlc {A B:Tab} (hA:NN A) (hB:NN B):NN (prods A B):=λ r hr=>by
 obtain ⟨p,hp,q,hq,rfl⟩:=q8v hr;exact z3k (hA p hp) (hB q hq)
theorem qzq {A B:Tab} (hA:NN A) (hB:NN B):NN (A++B):=λ r hr=>(z2u.mp hr).elim (hA r) (hB r)
def Bd (n L:Nat) (b:Int) (W:Tab):Prop:=W.length<=n/\∀ p∈W,(∀ x∈p.1,PyData.strOk x=true)/\p.1.length<=L/\0<=p.2/\p.2<=b
theorem Bd.nn {n L:Nat} {b:Int} {W:Tab} (h:Bd n L b W):NN W:=λ p hp=>(h.2 p hp).2.2.1
theorem Bd.le {n L O D:Nat} {b J:Int} {W:Tab} (h:Bd n L b W) (h1:n<=O) (h2:L<=D) (h3:b<=J):Bd O D J W:=
 ⟨z41 h.1 h1,λ p hp=>let ⟨a,b,c,d⟩:=h.2 p hp;⟨a,z41 b h2,c,z3w d h3⟩⟩
theorem qrt {b:Int} (h0:0<=b):∀ {l:List Int},(∀ x∈l,x<=b) ->l.sum<=l.length*b
 | [],_=>by simp
 | x::l,h=>by
  rw [z3s,z2i,Int.natCast_add,Int.add_mul];have h1:=h x (z1p ..);have h2:=qrt h0 λ y hy=>h y (z16 _ hy);have:((1:Nat):Int)*b=b:=Int.one_mul b;omega
theorem Bd.tg {n L:Nat} {b:Int} {W:Tab} (h:Bd n L b W) (h0:0<=b):Bd n L (n*b) (tg W):=by
 obtain ⟨g1,g2,g3,g4⟩:=q3r W.length W rfl;refine ⟨z41 (qu0 _) (z41 g2 h.1),λ p hp=> ?_⟩;obtain ⟨m1,m2,m3⟩:=qdy.mp hp;obtain ⟨q,hq,e⟩:=z45.mp ((g3 p.1).mp m1);have e':Tim.srt ql q.1=p.1:=e;obtain ⟨c1,c2,c3,c4⟩:=h.2 q hq;refine ⟨λ x hx=>c1 x ((Tim.qo ql _).mem_iff.mp (e' ▸ hx)),?_,by omega,?_⟩
 ·rw [<- e',(Tim.qo ql _).length_eq];exact c2
 ·rw [m2,g4];refine z3w (qrt h0 λ x hx=> ?_) (Int.mul_le_mul_of_nonneg_right ?_ h0)
  ·obtain ⟨r,hr,rfl⟩:=z45.mp hx;exact (h.2 r (z2x.mp hr).1).2.2.2
  ·rw [z30];have:=z10 (λ p':List Str×Int=>decide (Tim.srt ql p'.1=p.1)) W;have:=h.1;omega
theorem Bd.app {n m L:Nat} {b:Int} {A B:Tab} (D:Bd n L b A) (J:Bd m L b B):Bd (n+m) L b (A++B):=
 ⟨by rw [z1o];exact Nat.add_le_add D.1 J.1,λ p hp=>(z2u.mp hp).elim (D.2 p) (J.2 p)⟩
theorem Bd.prods {n m L M:Nat} {b c:Int} {A B:Tab} (J:Bd n L b A) (O:Bd m M c B) (h0:0<=b):Bd (n*m) (L+M) (b*c) (prods A B):=
 ⟨by rw [qbq];exact z3j J.1 O.1,λ r hr=>by
  obtain ⟨p,hp,q,hq,rfl⟩:=q8v hr;obtain ⟨a1,a2,a3,a4⟩:=J.2 p hp;obtain ⟨b1,b2,D,b4⟩:=O.2 q hq;refine ⟨λ x hx=>(z2u.mp hx).elim (a1 x) (b1 x),?_,z3k a3 D,Int.mul_le_mul a4 b4 D h0⟩;show (p.1++q.1).length<=_;rw [z1o];exact Nat.add_le_add a2 b2⟩
abbrev BW (W:Tab):Prop:=Bd 200 1000 (2^599) W
def WA (H:Hp) (l:Addr) (W:Tab):Prop:=∃ xs,H l=some (.lst xs)/\Paired (PlAt H) xs W/\BW W
theorem WA.same {H H':Hp} {l:Addr} {W:Tab} (h:WA H l W) (s:Same H H'):WA H' l W:=by
 obtain ⟨xs,h1,h2,h3⟩:=h;exact ⟨xs,s _ _ h1,qcg (Same.keepT s) h2,h3⟩
theorem WA.bd {H:Hp} {l:Addr} {W:Tab} (h:WA H l W):BW W:=by
 obtain ⟨xs,h1,h2,h3⟩:=h;exact h3
noncomputable def WA.xs {H : Hp} {l : Addr} {W : Tab} (h : WA H l W) : List V := Classical.choose h
theorem WA.lst {H:Hp} {l:Addr} {W:Tab} (h:WA H l W):H l=some (.lst h.xs):=(Classical.choose_spec h).1
theorem WA.prd {H:Hp} {l:Addr} {W:Tab} (h:WA H l W):Paired (PlAt H) h.xs W:=(Classical.choose_spec h).2.1
theorem WA.copy {H:Hp} {l q:Addr} {W:Tab} (h:WA H l W) (hq:H q=none):WA (upd H q (.lst h.xs)) q W:=⟨h.xs,qb,qcg (Same.keepT (qd hq)) h.prd,h.bd⟩
theorem WA.ok2 {H G:Hp} {a b:Addr} {A B:Tab} (wa:WA H a A) (wb:WA G b B):∀ p∈A++B,(∀ x∈p.1,PyData.strOk x=true)/\p.1.length<=1000/\0<=p.2/\p.2 < 2^600:=λ p hp=>by
 have h:(∀ x∈p.1,PyData.strOk x=true)/\p.1.length<=1000/\0<=p.2/\p.2<=2^599:=(z2u.mp hp).elim (wa.bd.2 p) (wb.bd.2 p);exact ⟨h.1,h.2.1,h.2.2.1,z1v h.2.2.2 (by decide)⟩
theorem WA.okS {H G:Hp} {a b:Addr} {A B:Tab} (wa:WA H a A) (wb:WA G b B):∀ p∈A++B,∀ x∈p.1,PyData.strOk x=true:=λ p hp=>(WA.ok2 wa wb p hp).1
theorem WA.few {H:Hp} {a:Addr} {A:Tab} (wa:WA H a A):A.length<=10000:=z41 wa.bd.1 (by decide)
theorem WA.res {H:Hp} {l:Addr} {zs:List V} {ps:Tab} (hl:H l=some (.lst zs)) (hz:∀ H2,KeepT H H2 ->Paired (PlAt H2) zs (told (gath ps))) (bd:BW (tg ps)):WA H l (tg ps):=⟨zs,hl,hz H λ _ _ z=>z,bd⟩
def q11i (W:Tab) (ns:List Str):Prop:=(ns.Pairwise λ a b=>ql a b=true)/\∀ x,x∈ns↔∃ kv∈W,x∈kv.1
theorem qu4 {kvs:List (Key×V)} {k:Key} (v:V) (h:k∈kvs.map (·.1)):(putK kvs k v).map (·.1)=kvs.map (·.1):=by
 obtain ⟨p,hp,e⟩:=z45.mp h;unfold putK;rw [if_pos (z2p.mpr ⟨p,hp,z3c e⟩),z47];refine z1f λ D _=> ?_;show (if D.1=k then (D.1,v) else D).1=D.1;split <;> rfl
theorem qru {kvs:List (Key×V)} {k:Key} (v:V) (h:¬ k∈kvs.map (·.1)):(putK kvs k v).map (·.1)=kvs.map (·.1)++ [k]:=by
 unfold putK;rw [if_neg,z36]
 ·rfl
 ·intro z;obtain ⟨p,hp,e⟩:=z2p.mp z;exact h (z45.mpr ⟨p,hp,of_decide_eq_true e⟩)
def qld (H:Hp) (d:Addr) (ws:List Str) (v:V):Prop:=∃ kvs,H d=some (.dK kvs)/\kvs.map (·.1)=ws.map Sum.inr/\ws.Nodup/\∀ kv∈kvs,kv.2=v
theorem qo0 {x:Str} {ws:List Str}:(Sum.inr x:Key)∈ws.map Sum.inr↔x∈ws:=by
 rw [z45]
 constructor
 ·rintro ⟨y,hy,e⟩;cases e
  exact hy
 ·exact λ h=>⟨x,h,zf⟩
theorem qle {kvs:List (Key×V)} {k:Key} {v:V} (h:∀ J∈kvs,J.2=v):∀ J∈putK kvs k v,J.2=v:=λ J D=>by
 unfold putK at D;split at D
 ·obtain ⟨x,hx,e⟩:=z45.mp D;by_cases q:x.1=k
  ·rw [if_pos q] at e;rw [<- e]
  ·rw [if_neg q] at e;exact e ▸ h x hx
 ·rcases z2u.mp D with g | g
  ·exact h J g
  ·rw [z1m.mp g]
theorem qu5 {H:Hp} {d:Addr} {ws:List Str} {v:V} {x:Str} {kvs:List (Key×V)} (h1:kvs.map (·.1)=ws.map Sum.inr) (h2:ws.Nodup) (J:∀ kv∈kvs,kv.2=v):∃ D,qld (upd H d (.dK (putK kvs (Sum.inr x) v))) d D v/\(∀ y,y∈D↔y∈ws\/ y=x)/\D.length<=ws.length+1:=by
 by_cases h:x∈ws
 ·refine ⟨ws,⟨_,qb,?_,h2,qle J⟩,λ y=>⟨.inl,λ z=>z.elim id λ e=>e ▸ h⟩,Nat.le_succ _⟩;rw [qu4 v (by rw [h1];exact qo0.mpr h),h1]
 ·refine ⟨ws++ [x],⟨_,qb,?_,qfz h2 h,qle J⟩,λ y=>by rw [z2u,z1m],by rw [z1o];exact z48 _⟩;rw [qru v (by rw [h1];exact λ z=>h (qo0.mp z)),h1,z36];rfl
def qu6:Sp:=λ vs H Q _=>∃ (l:Addr) (W:Tab),vs=[.ref l]/\WA H l W/\∀ p ns H',Same H H' ->H p=none ->H' p=some (.lst (ns.map V.str)) ->q11i W ns ->ns.length<=200000 ->Q (.ref p) H'
theorem qu7 {W:Tab} {n L:Nat} (h:∀ p∈W,p.1.length<=L) (hn:W.length<=n):(W.flatMap (·.1)).length<=n*L:=by
 have:(W.flatMap (·.1)).length<=W.length*L:=by
  clear hn
  induction W with
  | nil=>simp
  | cons p W ih=>
   rw [List.flatMap_cons,z1o,z2i,Nat.add_mul];have h1:=h p (z1p ..);have h2:=ih λ q hq=>h q (z16 _ hq);omega
 exact z41 this (Nat.mul_le_mul_right _ hn)
theorem qn4 (T:Txt K mg):Def P w K mg base 1 "names_of" ["why"] qu6:=by
 refine T.qq1.ok q4w (λ vs H Q E h=> ?_) λ f cdv A outer s H vs Q E hr h=> ?_
 ·obtain ⟨l,W,rfl,_⟩:=h;rfl
 ·obtain ⟨l,W,rfl,⟨xs,hl,hp,hb⟩,k⟩:=h;refine ⟨_,(q3c
   (qy (i:=1) q4w.nd rfl (Or.inl rfl) q54)
   (q1m PassesOwn.never rfl (q19 K (pv 0)) (qb1 rfl (q35 (qx (i:=2) q4w.nd rfl (Or.inl rfl)) (q35 (qx (i:=3) q4w.nd rfl (Or.inl rfl)) q93))) (qg (q1m PassesOwn.never rfl (q7m K (pv 2)) (qx (i:=4) q4w.nd rfl (Or.inl rfl)) (qg (q7l (q2h hr) (pv 1) (pv 4) q2v rfl)))))
   (qk (qq (qil rfl K) rfl T.q2c q22 (pa_1 (pv 1))))),?_⟩
  refine λ d hd=> ?_;have s1:=qd (o:=HO.dK []) hd;have xl:=Paired.length hp;have fl:∀ i,((W.take i).flatMap (·.1)).length<=200000:=λ i=>qu7 (n:=200) (L:=1000) (λ p hp=>(hb.2 p (z15 hp)).2.1) (z41 (by rw [z2g];omega) hb.1);refine ⟨_,rfl,l,rfl,⟨_,SqL.of (s1 _ _ hl)⟩,q26 (xs:=xs) (λ i σ G=>Same H G/\(∃ v1 v2 v3,σ=[some (.ref l),some (.ref d),v1,v2,v3])/\∃ ws,qld G d ws (.bl true)/\(∀ x,x∈ws↔x∈(W.take i).flatMap (·.1))/\ws.length<=((W.take i).flatMap (·.1)).length) ⟨s1,⟨_,_,_,rfl⟩,[],⟨[],qb,rfl,z3g,λ _ z=>nomatch z⟩,λ x=>by simp,z4b _⟩ (λ i σ G _ z=>SqL.of (z.1 _ _ hl)) ?_ ?_⟩
  ·rintro i x σ G hx ⟨sg,⟨v1,v2,v3,rfl⟩,ws,hk,hm,D⟩;obtain ⟨kv,a4,a5⟩:=q32 hp hx;obtain ⟨q,b,rfl,hq,a1⟩:=a5.keep (Same.keepT sg);refine ⟨_,_,zf,SqT.of hq,zf,_,_,zf,_,_,zf,zf,?_⟩;have Z:(W.take (i+1)).flatMap (·.1)=(W.take i).flatMap (·.1)++kv.1:=by
    rw [z3h,a4,z1j];simp
   have a3:=fl (i+1);rw [Z,z1o] at a3;refine ⟨_,rfl,b,rfl,⟨_,SqT.of a1⟩,qca (xs:=kv.1.map V.str) (λ j σ F=>Same H F/\F b=some (.tup (kv.1.map V.str))/\(∃ v3,σ=[some (.ref l),some (.ref d),some (.ref b),some (.int kv.2),v3])/\∃ ws,qld F d ws (.bl true)/\(∀ x,x∈ws↔x∈(W.take i).flatMap (·.1)\/ x∈kv.1.take j)/\ws.length<=((W.take i).flatMap (·.1)).length+j) ⟨sg,a1,⟨_,rfl⟩,ws,hk,λ x=>by rw [hm x];simp,D⟩ (λ j σ F _ z=>SqT.of z.2.1) ?_ ?_⟩
   ·rintro j y σ F hy ⟨sf,fb,⟨v3,rfl⟩,ws,⟨kvs,J,O,a0,a2⟩,hm,D⟩;rw [z22] at hy;obtain ⟨z,hz,rfl⟩:=z0q.mp hy;have jl:j < kv.1.length:=(z07.mp hz).1;have kl:kvs.length=ws.length:=by
     have:=congrArg List.length O;rw [z30,z30] at this;exact this
    obtain ⟨a6,g1,g2,g3⟩:=qu5 (H:=F) (d:=d) (x:=z) O a0 a2;refine ⟨_,rfl,_,rfl,d,_,rfl,DPut.k (k:=Sum.inr z) J (by rw [kl];exact z1r (show ws.length < 1000000 by omega) (by decide)),?_⟩;refine ⟨λ c o hc=>by rw [qh (λ e=>by rw [e,hd] at hc;cases hc)];exact sf c o hc,by rw [qh (λ e=>by rw [e,J] at fb;cases fb)];exact fb,⟨_,rfl⟩,a6,g1,λ x=> ?_,by omega⟩;rw [g2,hm,z3h,hz,or_assoc];simp
   ·rintro σ F ⟨sf,fb,⟨v3,rfl⟩,ws,hk,hm,D⟩;rw [z30,z2t] at hm;rw [z30] at D;refine ⟨sf,⟨_,_,_,zf⟩,ws,hk,λ x=> ?_,?_⟩
    ·rw [hm,Z,z2u]
    ·rw [Z,z1o];exact D
  ·rintro σ G ⟨sg,⟨v1,v2,v3,rfl⟩,ws,⟨kvs,J,O,a0,a2⟩,hm,D⟩;rw [xl,z2t] at hm;have fl2:=fl xs.length;refine ⟨_,zf,d,kvs,ws,zf,J,O,λ p hp=> ?_⟩;refine k p _ _ (sg.trans (qd hp)) (sg.free hp) qb ⟨qbp q1j (Tim.q1r q1j _) ((Tim.qo ql _).nodup_iff.mpr a0),λ x=> ?_⟩ ?_
   ·rw [(Tim.qo ql _).mem_iff,hm,List.mem_flatMap]
   ·rw [(Tim.qo ql _).length_eq];omega
theorem qxn {H:Hp} {l t D:Addr} {z:Str} (hz:PyData.strOk z=true) (h0:H D=none) (h1:upd H D (.tup [.str z]) t=none) (h2:upd (upd H D (.tup [.str z])) t (.tup [.ref D,.int 1]) l=none):WA (upd (upd (upd H D (.tup [.str z])) t (.tup [.ref D,.int 1])) l (.lst [.ref t])) l [([z],1)]:=by
 refine ⟨_,qb,.cons ⟨t,D,rfl,(qd h2) _ _ qb,(qd h2) _ _ ((qd h1) _ _ qb)⟩ .nil,(by show 1<=200;decide),λ p hp=> ?_⟩;rw [z1m.mp hp];refine ⟨λ x hx=> ?_,by show 1<=1000;decide,?_,?_⟩
 ·rw [z1m.mp hx];exact hz
 ·show (0:Int)<=1;decide
 ·show (1:Int)<=2^599;decide
def qxo:Sp:=λ vs H Q _=>∃ (z:Str),vs=[.str z]/\PyData.strOk z=true/\∀ l H',Same H H' ->H l=none ->WA H' l [([z],1)] ->Q (.ref l) H'
theorem qpo (T:Txt K mg):Def P w K mg base 1 "of_fact" ["name"] qxo:=by
 refine T.qsy.ok qpl (λ vs H Q E h=> ?_) λ f cdv A outer s H vs Q E hr h=> ?_
 ·obtain ⟨z,rfl,_⟩:=h;rfl
 ·obtain ⟨z,rfl,hz,k⟩:=h;refine ⟨_,(qg (qk (q20 (pa_1 (q6q (pa_2 (q6q (pa_1 (pv 0))) qf)))))),?_⟩;refine ⟨_,rfl,by show 1<=sizeLine;decide,λ t0 h0=>⟨by show 2<=sizeLine;decide,λ t h1=>⟨by show 1<=sizeLine;decide,λ l h2=> ?_⟩⟩⟩;have sm:=(qd (o:=HO.tup [.str z]) h0).trans ((qd (o:=HO.tup [.ref t0,.int 1]) h1).trans (qd (o:=HO.lst [.ref t]) h2));exact k l _ sm (((qd h0).trans (qd h1)).free h2) (qxn hz h0 h1 h2)
def qxp (K:PySem.W.Frag):Sp:=λ vs H Q _=>∃ (a:Addr) (ns:List Int) (k:Int),vs=[.ref a,.int k]/\SqL K H a (ns.map V.int)/\0<=k/\Q (.int (ns.getD k.toNat 0)) H
theorem q33 (T:Txt K mg):Def P w K mg base 1 "_law_cell_at" ["_law_script","_law_k"] (qxp K):=by
 refine T.qhb.ok qf1 (λ vs H Q E h=> ?_) λ f cdv A outer s H vs Q E hr h=> ?_
 ·obtain ⟨a,ns,k,rfl,_⟩:=h;rfl
 ·obtain ⟨a,ns,k,rfl,J,h0,q⟩:=h;refine ⟨_,(q2z
   (q1c (q12 qvj (pv 1) (qq (q2y K) rfl T.b_len q46 (pa_1 (pv 0))) (q13 _)) (qg (qk (q1g (q17 K) (pv 0) (pv 1) (λ _ _=>rfl)))) q14)
   (qk qf)),?_⟩
  refine ⟨_,zf,_,zf,_,_,zf,.inl ⟨_,J,zf⟩,_,_,zf,zf,_,zf,?_⟩;rw [z30];refine ite2 (λ h1=> ?_) (λ h1=> ?_)
  ·have D:k < ns.length:=by simpa using h1
   have hk:k.toNat < ns.length:=by omega
   refine ⟨_,zf,_,zf,_,_,_,V.int (ns.getD k.toNat 0),zf,zf,J,?_,q⟩;rw [qza h0 (by rw [z30];exact D),z22,z0d hk,qnr hk];rfl
  ·have D:¬ k < ns.length:=by simpa using h1
   have e:ns.getD k.toNat 0=0:=by
    exact qx2 (by omega)
   rw [e] at q;exact q
def kidV (kvs:List (Key×V)) (w:Str):Option Addr:=match valV kvs (Sum.inr w) with
 | some (.ref b)=>some b
 | _=>none
def q8e (H:Hp) (a:Addr):List (Key×V):=match H a with
 | some (.dK kvs)=>kvs
 | _=>[]
def go (H:Hp):Addr ->List Str ->Option Addr
 | a,[]=>some a
 | a,w::ws=>(kidV (q8e H a) w).bind λ b=>go H b ws
theorem q3i (H:Hp):∀ (x y:List Str) (a:Addr),go H a (x++y)=(go H a x).bind λ b=>go H b y
 | [],y,a=>rfl
 | w::x,y,a=>by
  show (kidV (q8e H a) w).bind (λ b=>go H b (x++y))=((kidV (q8e H a) w).bind λ b=>go H b x).bind λ b=>go H b y;cases kidV (q8e H a) w with
  | none=>rfl
  | some b=>exact q3i H x y b
theorem q1k {H:Hp} {a:Addr} {kvs:List (Key×V)} (e:H a=some (.dK kvs)) (w:Str) (ws:List Str):go H a (w::ws)=(kidV kvs w).bind λ b=>go H b ws:=by
 show (kidV (q8e H a) w).bind (λ b=>go H b ws)=_;rw [show q8e H a=kvs by unfold q8e;rw [e]]
structure Nodes (H:Hp) (r:Addr):Prop where
 node:∀ p a,go H r p=some a ->∃ kvs,H a=some (.dK kvs)
 inj:∀ p q a,go H r p=some a ->go H r q=some a ->p=q
theorem qxq (kvs:List (Key×V)) (w u:Str) (m:Addr):kidV (putK kvs (Sum.inr w) (.ref m)) u=if u=w then some m else kidV kvs u:=by
 unfold kidV;rw [q53];by_cases h:u=w
 ·rw [if_pos h,if_pos (by rw [h])]
 ·rw [if_neg h,if_neg (λ z=>h (by injection z))]
theorem qzr {H:Hp} {r a m:Addr} {p:List Str} {w:Str} {kvs:List (Key×V)} (N:Nodes H r) (ha:go H r p=some a) (hk:H a=some (.dK kvs)) (hn:kidV kvs w=none) (hm:H m=none):
    ∀ (y x:List Str) (b:Addr),go H r x=some b ->go (upd (upd H m (.dK [])) a (.dK (putK kvs (Sum.inr w) (.ref m)))) b y=if x++y=p++ [w] then some m else go H b y:=by
  have a1:a≠m:=qr hk hm;have a2:go H r (p++ [w])=none:=by
    rw [q3i,ha];show go H a [w]=none;rw [q1k hk,hn];rfl
  intro y
  induction y with
  | nil=>
    intro x b J;rw [z31,if_neg (λ z=>by rw [z,a2] at J;cases J)];rfl
  | cons u ys ih=>
    intro x b J;obtain ⟨kb,D⟩:=N.node x b J;have step:∀ c,kidV kb u=some c ->go H r (x++ [u])=some c:=λ c O=>by
      rw [q3i,J];show go H b [u]=some c;rw [q1k D,O];rfl
    by_cases e:b=a
    · subst e
      have ex:x=p:=N.inj x p b J ha;subst ex;rw [hk] at D;cases D
      have e':upd (upd H m (.dK [])) b (.dK (putK kvs (Sum.inr w) (.ref m))) b=some (.dK (putK kvs (Sum.inr w) (.ref m))):=qb;rw [q1k e',qxq,q1k hk];by_cases hu:u=w
      · subst hu
        rw [if_pos rfl,hn];show go _ m ys=_;cases ys with
        | nil=>
          rw [if_pos rfl];rfl
        | cons v vs=>
          have em:upd (upd H m (.dK [])) b (.dK (putK kvs (Sum.inr u) (.ref m))) m=some (.dK []):=by rw [qh a1.symm,qb]
          rw [q1k em,if_neg (λ z=>by
            have:=List.append_cancel_left z;simp at this)]
          rfl
      · rw [if_neg hu]
        cases O:kidV kvs u with
        | none=>
          rw [if_neg (λ z=>by
            have:=List.append_cancel_left z;simp at this
            exact hu this.1)]
          rfl
        | some c=>
          show go _ c ys=if _ then _ else go H c ys
          rw [ih (x++ [u]) c (step c O),z1y];rfl
    · have a0:b≠m:=qr D hm
      have e':upd (upd H m (.dK [])) a (.dK (putK kvs (Sum.inr w) (.ref m))) b=some (.dK kb):=by rw [qh e,qh a0];exact D
      rw [q1k e',q1k D];cases O:kidV kb u with
      | none=>
        rw [if_neg (λ z=> ?_)]
        · rfl
        · have:go H r (x++u::ys)=none:=by
            rw [q3i,J];show go H b (u::ys)=none;rw [q1k D,O];rfl
          have h2:x=p:=by
            have hl:=congrArg List.length z;rw [z1o,z1o,z2i,z0y] at hl;by_cases hy:ys=[]
            · subst hy
              exact (List.append_inj' z rfl).1
            · exfalso
              have Z:x.length < p.length:=by
                have:0 < ys.length:=List.length_pos_iff.mpr hy;omega
              have a3:x++ [u] <+:p:=by
                have h3:x++ [u] <+:p++ [w]:=⟨ys,by rw [z1y];exact z⟩;exact List.prefix_of_prefix_length_le h3 (List.prefix_append _ _) (by rw [z1o];exact Z)
              obtain ⟨t,ht⟩:=a3;rw [<- ht,q3i,q3i,J] at ha;have:go H b [u]=none:=by
                rw [q1k D,O];rfl
              simp [this] at ha
          subst h2;rw [J] at ha;cases ha
          exact e rfl
      | some c=>
        show go _ c ys=if _ then _ else go H c ys
        rw [ih (x++ [u]) c (step c O),z1y];rfl
def Ks (kvs:List (Key×V)) (us:List Str):Prop:=kvs.map (·.1)=us.map Sum.inr/\us.Nodup
theorem qdz (kvs:List (Key×V)) (k:Key):(valV kvs k).isSome=true↔∃ kv∈kvs,kv.1=k:=by
 unfold valV;rw [Option.isSome_map,List.find?_isSome];simp
theorem Ks.mem {kvs:List (Key×V)} {us:List Str} (h:Ks kvs us) (w:Str):w∈us↔(valV kvs (.inr w)).isSome=true:=by
 rw [qdz]
 constructor
 ·intro hw;have:(Sum.inr w:Key)∈kvs.map (·.1):=by
   rw [h.1];exact z45.mpr ⟨w,hw,zf⟩
  obtain ⟨J,hk,e⟩:=z45.mp this;exact ⟨J,hk,e⟩
 ·rintro ⟨J,hk,e⟩;have:(Sum.inr w:Key)∈us.map Sum.inr:=by
   rw [<- h.1,<- e];exact z45.mpr ⟨J,hk,zf⟩
  obtain ⟨u,hu,D⟩:=z45.mp this;injection D with D;rw [<- D];exact hu
theorem Ks.put {kvs:List (Key×V)} {us:List Str} (h:Ks kvs us) (w:Str) (v:V):∃ J,Ks (putK kvs (.inr w) v) J:=by
 unfold putK;split
 ·refine ⟨us,?_,h.2⟩;rw [z47,<- h.1]
  apply z1f
  intro D _;show (if D.1=Sum.inr w then (D.1,v) else D).1=D.1;split <;> rfl
 ·rename_i z;refine ⟨us++ [w],by rw [z36,z36,h.1];rfl,?_⟩;rw [z2d];refine ⟨h.2,by simp,λ a ha b hb e=>z ?_⟩;have eb:b=w:=by simpa using hb
  rw [e,eb,h.mem,qdz] at ha;obtain ⟨D,hk,ek⟩:=ha;exact z2p.mpr ⟨D,hk,z3c ek⟩
theorem Ks.len {kvs:List (Key×V)} {us:List Str} (h:Ks kvs us):us.length=kvs.length:=by
 have:=congrArg List.length h.1;rw [z30,z30] at this;exact this.symm
theorem Ks.get {kvs:List (Key×V)} {us:List Str} (h:Ks kvs us) {i:Nat} {D:Key×V} (e:kvs[i]? =some D):∃ w,us[i]? =some w/\D.1= .inr w:=by
 have:(us.map (Sum.inr:Str ->Key))[i]? =some D.1:=by rw [<- h.1,z22,e];rfl
 rw [z22] at this;obtain ⟨w,hw,e⟩:=z0q.mp this;exact ⟨w,hw,e.symm⟩
structure PathOk (H0 H:Hp) (r:Addr) (S:List Str ->Prop) (n:Nat):Prop where
 nodes:Nodes H r
 dom:∀ p,(∃ a,go H r p=some a)↔S p
 new:∀ p a,go H r p=some a ->H0 a=none
 size:∀ p a kvs,go H r p=some a ->H a=some (.dK kvs) ->kvs.length<=n
 refs:∀ p a kvs w v,go H r p=some a ->H a=some (.dK kvs) ->valV kvs (Sum.inr w)=some v ->∃ b,v= .ref b
 nd:∀ p a kvs,go H r p=some a ->H a=some (.dK kvs) ->∃ us,Ks kvs us
theorem qrv {H:Hp} {r m:Addr} {o:HO} (N:Nodes H r) (hm:H m=none):∀ (y x:List Str) (b:Addr),go H r x=some b ->go (upd H m o) b y=go H b y:=by
 intro y
 induction y with
 | nil=>exact λ _ _ _=>rfl
 | cons u ys ih=>
  intro x b J;obtain ⟨O,D⟩:=N.node x b J;have e':upd H m o b=some (.dK O):=by rw [qh (qr D hm)];exact D
  rw [q1k e',q1k D];cases hc:kidV O u with
  | none=>rfl
  | some c=>
   refine ih (x++ [u]) c ?_;rw [q3i,J];show go H b [u]=some c;rw [q1k D,hc];rfl
theorem PathOk.lay {H0 H:Hp} {r m:Addr} {S:List Str ->Prop} {n:Nat} {o:HO} (T:PathOk H0 H r S n) (hm:H m=none):PathOk H0 (upd H m o) r S n:=by
 have g:∀ x,go (upd H m o) r x=go H r x:=λ x=>qrv T.nodes hm x [] r rfl;have O:∀ x b J,go H r x=some b ->upd H m o b=some (.dK J) ->H b=some (.dK J):=λ x b J D e=>by
  obtain ⟨kc,Z⟩:=T.nodes.node x b D;rw [qh (qr Z hm)] at e;exact e
 refine ⟨⟨λ x b D=> ?_,λ x y b hx hy=> ?_⟩,λ x=> ?_,λ x b D=> ?_,λ x b J D e=> ?_,λ x b J w v D e hv=> ?_,λ x b J D e=> ?_⟩
 ·rw [g] at D;obtain ⟨kc,Z⟩:=T.nodes.node x b D;exact ⟨kc,by rw [qh (qr Z hm)];exact Z⟩
 ·rw [g] at hx hy;exact T.nodes.inj x y b hx hy
 ·rw [g];exact T.dom x
 ·rw [g] at D;exact T.new x b D
 ·rw [g] at D;exact T.size x b J D (O x b J D e)
 ·rw [g] at D;exact T.refs x b J w v D (O x b J D e) hv
 ·rw [g] at D;exact T.nd x b J D (O x b J D e)
theorem qhz {H0 H:Hp} {r a m:Addr} {S:List Str ->Prop} {n:Nat} {p:List Str} {w:Str} {kvs:List (Key×V)} (T:PathOk H0 H r S n) (s0:Same H0 H) (ha:go H r p=some a) (hk:H a=some (.dK kvs)) (hn:kidV kvs w=none) (hm:H m=none):
  PathOk H0 (upd (upd H m (.dK [])) a (.dK (putK kvs (Sum.inr w) (.ref m)))) r (λ x=>S x\/ x=p++ [w]) (n+1)/\go (upd (upd H m (.dK [])) a (.dK (putK kvs (Sum.inr w) (.ref m)))) r (p++ [w])=some m:=by
 have g:∀ x,go (upd (upd H m (.dK [])) a (.dK (putK kvs (Sum.inr w) (.ref m)))) r x=if x=p++ [w] then some m else go H r x:=λ x=>qzr T.nodes ha hk hn hm x [] r rfl
 have a1:a≠m:=qr hk hm;have hM:upd (upd H m (.dK [])) a (.dK (putK kvs (Sum.inr w) (.ref m))) m=some (.dK []):=by rw [qh a1.symm,qb]
 generalize hH:upd (upd H m (.dK [])) a (.dK (putK kvs (Sum.inr w) (.ref m)))=H' at*;have Z:∀ b J,H b=some (.dK J) ->(b=a/\J=kvs/\H' b=some (.dK (putK kvs (Sum.inr w) (.ref m))))\/ H' b=some (.dK J):=λ b J e=>by
  by_cases z:b=a
  ·subst z;rw [hk] at e;cases e
   exact .inl ⟨rfl,rfl,by rw [<- hH,qb]⟩
  ·exact .inr (by rw [<- hH,qh z,qh (qr e hm)];exact e)
 refine ⟨⟨⟨λ x b D=> ?_,λ x y b hx hy=> ?_⟩,λ x=> ?_,λ x b D=> ?_,λ x b J D e=> ?_,λ x b J u v D e hv=> ?_,λ x b J D e=> ?_⟩,by rw [g,if_pos rfl]⟩
 ·rw [g] at D;by_cases z:x=p++ [w]
  ·rw [if_pos z] at D;cases D
   exact ⟨_,hM⟩
  ·rw [if_neg z] at D;obtain ⟨J,e⟩:=T.nodes.node x b D;rcases Z b J e with ⟨_,_,q⟩ | q
   ·exact ⟨_,q⟩
   ·exact ⟨_,q⟩
 ·rw [g] at hx hy;by_cases z1:x=p++ [w]
  ·by_cases z2:y=p++ [w]
   ·rw [z1,z2]
   ·rw [if_pos z1] at hx;rw [if_neg z2] at hy;cases hx
    obtain ⟨J,e⟩:=T.nodes.node y _ hy;rw [hm] at e;cases e
  ·by_cases z2:y=p++ [w]
   ·rw [if_neg z1] at hx;rw [if_pos z2] at hy;cases hy
    obtain ⟨J,e⟩:=T.nodes.node x _ hx;rw [hm] at e;cases e
   ·rw [if_neg z1] at hx;rw [if_neg z2] at hy;exact T.nodes.inj x y b hx hy
 ·rw [g];by_cases z:x=p++ [w]
  ·rw [if_pos z];exact ⟨λ _=> .inr z,λ _=>⟨m,zf⟩⟩
  ·rw [if_neg z,T.dom x];exact ⟨.inl,λ q=>q.elim id λ q=>absurd q z⟩
 ·rw [g] at D;by_cases z:x=p++ [w]
  ·rw [if_pos z] at D;cases D
   exact s0.free hm
  ·rw [if_neg z] at D;exact T.new x b D
 ·rw [g] at D;by_cases z:x=p++ [w]
  ·rw [if_pos z] at D;cases D
   rw [hM] at e;cases e
   exact z4b _
  ·rw [if_neg z] at D;obtain ⟨kc,O⟩:=T.nodes.node x b D;have hs:=T.size x b kc D O;rcases Z b kc O with ⟨_,rfl,q⟩ | q
   ·rw [q] at e;cases e
    have:=q4v kc (Sum.inr w) (V.ref m);omega
   ·rw [q] at e;cases e
    omega
 ·rw [g] at D;by_cases z:x=p++ [w]
  ·rw [if_pos z] at D;cases D
   rw [hM] at e;cases e
   cases hv
  ·rw [if_neg z] at D;obtain ⟨kc,O⟩:=T.nodes.node x b D;rcases Z b kc O with ⟨_,rfl,q⟩ | q
   ·rw [q] at e;cases e
    rw [q53] at hv;by_cases hu:(Sum.inr u:Key)=Sum.inr w
    ·rw [if_pos hu] at hv;cases hv
     exact ⟨m,zf⟩
    ·rw [if_neg hu] at hv;exact T.refs x b _ u v D O hv
   ·rw [q] at e;cases e
    exact T.refs x b _ u v D O hv
 ·rw [g] at D;by_cases z:x=p++ [w]
  ·rw [if_pos z] at D;cases D
   rw [hM] at e;cases e
   exact ⟨[],zf,z3g⟩
  ·rw [if_neg z] at D;obtain ⟨kc,O⟩:=T.nodes.node x b D;obtain ⟨us,a0⟩:=T.nd x b kc D O;rcases Z b kc O with ⟨_,rfl,q⟩ | q
   ·rw [q] at e;cases e
    exact a0.put w (.ref m)
   ·rw [q] at e;cases e
    exact ⟨us,a0⟩
def endW:Str:=""
theorem q15 {n:Nat} (h:n < 1000000):n < sizeLine:=z1r h (by decide)
def qzs:Sp:=λ vs H Q _=>∃ (H0:Hp) (r t:Addr) (ws:List Str) (S:List Str ->Prop) (n:Nat),vs=[.ref r,.ref t]/\H0 t=some (.tup (ws.map V.str))/\Same H0 H/\PathOk H0 H r S n/\n+ws.length<=900000/\¬ S (ws++ [endW])/\
 ∀ H' S',Same H0 H' ->PathOk H0 H' r S' (n+ws.length+1) ->(∀ x,S' x↔S x\/ x <+:ws++ [endW]) ->Q .non H'
theorem qn5 (T:Txt K mg):Def P w K mg base 1 "put_into" ["tree","words"] qzs:=by
  refine T.qq6.ok q6o (λ vs H Q E h=> ?_) λ f cdv A outer s H vs Q E hr h=> ?_
  · obtain ⟨H0,r,t,ws,S,n,rfl,_⟩:=h
    rfl
  · obtain ⟨H0,r,t,ws,S,n,rfl,ht,s0,T0,hn,hS,q⟩:=h
    refine ⟨_,(q3c
      (qy (i:=2) q6o.nd rfl (Or.inl rfl) (pv 0))
      (q1m PassesOwn.never rfl (q7m K (pv 1)) (qx (i:=3) q6o.nd rfl (Or.inl rfl)) (qg (qy (i:=2) q6o.nd rfl (Or.inl rfl) (qkz (pv 2) (pv 3) q54 ⟨rfl,rfl,rfl,rfl⟩))))
      (q7l (q2h hr) (pv 2) (qju rfl T.c_END) q54 rfl)),?_⟩
    refine ⟨_,zf,?_⟩;refine ⟨_,rfl,t,rfl,⟨_,SqT.of (s0 _ _ ht)⟩,qca (xs:=ws.map V.str) (λ i σ H'=>∃ (c:Addr) (v:Option V) (S':List Str ->Prop),σ=[some (.ref r),some (.ref t),some (.ref c),v]/\Same H0 H'/\PathOk H0 H' r S' (n+i)/\(∀ x,S' x↔S x\/ x <+:ws.take i)/\go H' r (ws.take i)=some c)
      ⟨r,none,S,rfl,s0,T0,λ x=>⟨.inl,λ z=>z.elim id λ z=> ?_⟩,rfl⟩ (λ i σ H' _ z=>by obtain ⟨_,_,_,_,z,_⟩:=z;exact SqT.of (z _ _ ht)) ?_ ?_⟩
    · have:x=[]:=by simpa using z
      rw [this];exact (T0.dom []).mp ⟨r,zf⟩
    · rintro i x σ H1 hx ⟨c,v,S',rfl,s1,J,D,Z⟩
      rw [z22] at hx;obtain ⟨u,hu,rfl⟩:=z0q.mp hx;have il:i < ws.length:=(z07.mp hu).1;obtain ⟨kvs,O⟩:=J.nodes.node _ c Z;have et:ws.take (i+1)=ws.take i++ [u]:=by
        rw [z3h,hu];rfl
      have a0:∀ x,x <+:ws.take (i+1)↔x <+:ws.take i\/ x=ws.take i++ [u]:=λ x=>by
        rw [et,List.prefix_concat_iff];exact or_comm
      refine ⟨_,zf,c,zf,.inl ⟨kvs,.inl O⟩,_,zf,λ m hm=> ?_⟩;have sz:=J.size _ c kvs Z O;have a1:c≠m:=qr O hm;refine ⟨kvs,Sum.inr u,by rw [qh a1];exact O,rfl,q15 (by omega),λ v hv=> ?_,λ hv=> ?_⟩
      · obtain ⟨b,rfl⟩:=J.refs _ c kvs u v Z O hv
        have hg:go (upd H1 m (.dK [])) r (ws.take (i+1))=some b:=by
          rw [qrv J.nodes hm _ [] r rfl,et,q3i,Z];show go H1 c [u]=some b;rw [q1k O];unfold kidV;rw [hv];rfl
        have T2:=J.lay (o:=HO.dK []) hm;refine ⟨b,_,S',zf,s1.trans (qd hm),⟨T2.nodes,T2.dom,T2.new,λ p a k h1 h2=>Nat.le_succ_of_le (T2.size p a k h1 h2),T2.refs,T2.nd⟩,λ x=> ?_,hg⟩;have a2:S' (ws.take (i+1)):=(T2.dom _).mp ⟨b,hg⟩;rw [D x,a0]
        constructor
        · rintro (z | z)
          · exact .inl z
          · exact .inr (.inl z)
        · rintro (z | z | z)
          · exact .inl z
          · exact .inr z
          · rw [z,<- et]
            exact (D _).mp a2
      · have hk:kidV kvs u=none:=by
          unfold kidV;rw [hv]
        obtain ⟨T2,hg⟩:=qhz J s1 Z O hk hm;refine ⟨m,_,_,rfl,?_,T2,λ x=> ?_,by rw [et];exact hg⟩
        · exact (s1.trans (qd hm)).set (J.new _ c Z)
        · show S' x\/ x=ws.take i++ [u]↔_
          rw [D x,a0,or_assoc]
    · rintro σ H1 ⟨c,v,S',rfl,s1,J,D,Z⟩
      rw [z30] at J;rw [z30,z2t] at Z;rw [z30,z2t] at D;obtain ⟨kvs,O⟩:=J.nodes.node _ c Z;have sz:=J.size _ c kvs Z O;intro m hm;have a1:c≠m:=qr O hm;have hk:kidV kvs endW=none:=by
        cases e:kidV kvs endW with
        | none=>rfl
        | some b=>
          have:S' (ws++ [endW]):=(J.dom _).mp ⟨b,by
            rw [q3i,Z];show go H1 c [endW]=some b;rw [q1k O,e];rfl⟩
          rcases (D _).mp this with z | z
          · exact absurd z hS
          · have:=z.length_le
            rw [z1o,z0y] at this;omega
      obtain ⟨T2,hg⟩:=qhz J s1 Z O hk hm;refine ⟨_,rfl,c,_,rfl,DPut.k (k:=Sum.inr endW) (by rw [qh a1];exact O) (q15 (by omega)),?_⟩;refine q _ _ ((s1.trans (qd hm)).set (J.new _ c Z)) T2 λ x=> ?_;show S' x\/ x=ws++ [endW]↔_;rw [D x,List.prefix_concat_iff,or_assoc,or_comm (a:=x=ws++ [endW])]
def kidR (kvs:List (Key×V)) (w:Str):V:=(valV kvs (.inr w)).getD .non
def qxr:Sp:=λ vs H Q _=>∃ (a m:Addr) (kvs mvs:List (Key×V)) (us ms:List Str),vs=[.ref a,.ref m]/\a≠m/\H a=some (.dK kvs)/\H m=some (.dK mvs)/\Ks kvs us/\Ks mvs ms/\us.length<=900000/\ms.length<=900000/\
 ∀ p (ws:List Str) H',Same H H' ->H p=none ->H' p=some (.lst (ws.map (kidR kvs))) ->ws.Nodup ->(∀ w,w∈ws↔w∈us/\w∈ms) ->Q (.ref p) H'
theorem qgk {kvs:List (Key×V)} {w:Str} (h:(valV kvs (.inr w)).isSome=true):valV kvs (.inr w)=some (kidR kvs w):=by
 unfold kidR;cases e:valV kvs (.inr w) with
 | none=>rw [e] at h;cases h
 | some v=>rfl
theorem qgl (T:Txt K mg):Def P w K mg base 1 "kids_within" ["node","members"] qxr:=by
 refine T.qje.ok qg9 (λ vs H Q E h=> ?_) λ f cdv A outer s H vs Q E hr h=> ?_
 ·obtain ⟨a,m,kvs,a1,us,ms,rfl,_⟩:=h;rfl
 ·obtain ⟨a,m,kvs,a1,us,ms,rfl,a2,ha,hm,k1,k2,l1,l2,k⟩:=h;have e1:=k1.len;have e2:=k2.len;refine ⟨_,(q2z
   (q1c (q12 qvj (qq qhq rfl T.b_len q46 (pa_1 (pv 0))) (qq qhq rfl T.b_len q46 (pa_1 (pv 1))) (q13 _)) (qg (qk (qny (q29 (N:=["word","node","members"]) (caps:=[none,some 0,some 1]) rfl (by with_unfolding_all rfl) (qky (pv 0)) (λ _ _ _ _ _=>(qx (i:=0) (show (["word","node","members"]:List Str).Nodup by decide+kernel) rfl (Or.inl rfl))) (λ _ _ _ _ _=>q97 (qel (qkr (q2h hr) (pv 0) (pv 2)))) (λ _ _ _ _ _=>(q4l (q2h hr) (pv 1) (pv 0) (λ _ _=>rfl))))))) q14)
   (qk (qny (q29 (N:=["word","node"]) (caps:=[none,some 0]) rfl (by with_unfolding_all rfl) (qky (pv 1)) (λ _ _ _ _ _=>(qx (i:=0) (show (["word","node"]:List Str).Nodup by decide+kernel) rfl (Or.inl rfl))) (λ _ _ _ _ _=>q97 (qel (qkr (q2h hr) (pv 0) (pv 1)))) (λ _ _ _ _ _=>(q4l (q2h hr) (pv 1) (pv 0) (λ _ _=>rfl))))))),?_⟩
  refine ⟨_,zf,a,kvs,zf,ha,_,zf,m,a1,zf,hm,_,_,zf,zf,_,zf,ite2 (λ _=> ?_) (λ _=> ?_)⟩
  ·refine ⟨_,zf,a,kvs,zf,.inl ⟨ha,λ o D hD=> ?_⟩⟩;have O:D≠a:=λ z=>by rw [z,qb] at hD;cases hD
   have Z:H D=none:=by rw [qh O] at hD;exact hD
   refine q1x kvs.length (λ i σ' H'=>(∃ v,σ'=[v,some (.ref a),some (.ref m)])/\(∀ b u,b≠a ->H b=some u ->H' b=some u)/\H' a=some (.frz o (.dK kvs))/\H' D=some (.lst (((us.take i).filter λ w=>decide (w∈ms)).map (kidR kvs)))) ⟨⟨_,rfl⟩,(λ b u hb e=>by rw [qh (qr e Z),qh hb];exact e),by rw [qh O.symm,qb],qb⟩ (λ i σ' H' hi p=>⟨p.2.2.1,hi⟩) (λ σ' H' p=>⟨⟨p.2.2.1,z48 _⟩,?_⟩) (λ i σ' H' hi p x H2 y=> ?_)
   ·obtain ⟨_,sm,ea,eD⟩:=p;refine .inr ⟨a,o,kvs,ea,(λ o u z=>by have z':H a=some (.frz o u):=z;rw [ha] at z';cases z'),?_⟩;rw [<- e1,z2t] at eD;refine k D _ _ (λ b u e=> ?_) Z (by rw [qh O];exact eD) (k1.2.filter _) λ w=>by rw [z2x];simp
    by_cases z:b=a
    ·subst z;rw [ha] at e;cases e
     exact qb
    ·rw [qh z];exact sm b u z e
   ·obtain ⟨⟨v,rfl⟩,sm,ea,eD⟩:=p;obtain ⟨rfl,kv,hk,rfl⟩:=y;obtain ⟨w,hw,ew⟩:=k1.get hk;rw [ew];have J:(us.take (i+1)).filter (λ w=>decide (w∈ms))=(us.take i).filter (λ w=>decide (w∈ms))++(if w∈ms then [w] else []):=by
     rw [z3h,hw,z1u]
     congr 1
     by_cases z:w∈ms
     ·rw [if_pos z];simp [z]
     ·rw [if_neg z];simp [z]
    refine ⟨_,zf,_,zf,m,_,zf,DGet.k (k:=Sum.inr w) (sm m _ a2.symm hm),_,zf,ite2 (λ h1=> ?_) (λ h1=> ?_)⟩
    ·have a0:w∈ms:=(k2.mem w).mpr h1;have hu:w∈us:=z18 hw;refine ⟨_,zf,_,zf,a,kidR kvs w,zf,.inl ⟨kvs,.inr w,.inr ⟨o,ea⟩,zf,(qgk ((k1.mem w).mp hu)).symm⟩,?_⟩;refine ⟨_,eD,?_,⟨_,rfl⟩,(λ b u hb e=>by rw [qh (qr e Z)];exact sm b u hb e),by rw [qh O.symm];exact ea,?_⟩
     ·rw [z30];exact q15 (by have:=z10 (λ w=>decide (w∈ms)) (us.take i);rw [z2g] at this;omega)
     ·rw [qb,J,if_pos a0,z36];rfl
    ·have a0:w∉ms:=λ z=>h1 ((k2.mem w).mp z);exact ⟨⟨_,rfl⟩,sm,ea,by rw [J,if_neg a0,z31];exact eD⟩
  ·refine ⟨_,zf,m,a1,zf,.inl ⟨hm,λ o D hD=> ?_⟩⟩;have O:D≠m:=λ z=>by rw [z,qb] at hD;cases hD
   have Z:H D=none:=by rw [qh O] at hD;exact hD
   refine q1x a1.length (λ i σ' H'=>(∃ v,σ'=[v,some (.ref a)])/\(∀ b u,b≠m ->H b=some u ->H' b=some u)/\H' m=some (.frz o (.dK a1))/\H' D=some (.lst (((ms.take i).filter λ w=>decide (w∈us)).map (kidR kvs)))) ⟨⟨_,rfl⟩,(λ b u hb e=>by rw [qh (qr e Z),qh hb];exact e),by rw [qh O.symm,qb],qb⟩ (λ i σ' H' hi p=>⟨p.2.2.1,hi⟩) (λ σ' H' p=>⟨⟨p.2.2.1,z48 _⟩,?_⟩) (λ i σ' H' hi p x H2 y=> ?_)
   ·obtain ⟨_,sm,ea,eD⟩:=p;refine .inr ⟨m,o,a1,ea,(λ o u z=>by have z':H m=some (.frz o u):=z;rw [hm] at z';cases z'),?_⟩;rw [<- e2,z2t] at eD;refine k D _ _ (λ b u e=> ?_) Z (by rw [qh O];exact eD) (k2.2.filter _) λ w=>by rw [z2x,and_comm];simp
    by_cases z:b=m
    ·subst z;rw [hm] at e;cases e
     exact qb
    ·rw [qh z];exact sm b u z e
   ·obtain ⟨⟨v,rfl⟩,sm,ea,eD⟩:=p;obtain ⟨rfl,kv,hk,rfl⟩:=y;obtain ⟨w,hw,ew⟩:=k2.get hk;rw [ew];have J:(ms.take (i+1)).filter (λ w=>decide (w∈us))=(ms.take i).filter (λ w=>decide (w∈us))++(if w∈us then [w] else []):=by
     rw [z3h,hw,z1u]
     congr 1
     by_cases z:w∈us
     ·rw [if_pos z];simp [z]
     ·rw [if_neg z];simp [z]
    refine ⟨_,zf,_,zf,a,_,zf,DGet.k (k:=Sum.inr w) (sm a _ a2 ha),_,zf,ite2 (λ h1=> ?_) (λ h1=> ?_)⟩
    ·have a0:w∈us:=(k1.mem w).mpr h1;refine ⟨_,zf,_,zf,a,kidR kvs w,zf,?_,?_⟩
     ·rw [<- qgk h1];exact DGet.k (sm a _ a2 ha)
     refine ⟨_,eD,?_,⟨_,rfl⟩,(λ b u hb e=>by rw [qh (qr e Z)];exact sm b u hb e),by rw [qh O.symm];exact ea,?_⟩
     ·rw [z30];exact q15 (by have:=z10 (λ w=>decide (w∈us)) (ms.take i);rw [z2g] at this;omega)
     ·rw [qb,J,if_pos a0,z36];rfl
    ·have a0:w∉us:=λ z=>h1 ((k1.mem w).mp z);exact ⟨⟨_,rfl⟩,sm,ea,by rw [J,if_neg a0,z31];exact eD⟩
def mu (acc:List (List Str)) (p:List Str):Nat:=1+(acc.map λ q=>if p <+:q++ [endW] then q.length+2 - p.length else 0).sum
theorem qlf {α:Type} (f g:α ->Nat):∀ l:List α,(l.map λ x=>f x+g x).sum=(l.map f).sum+(l.map g).sum
 | []=>rfl
 | x::l=>by
  rw [z3l,z3l,z3l,z3s,z3s,z3s,qlf f g l];omega
theorem qbr {α:Type} {f:α ->Nat}:∀ {l:List α},(∀ x∈l,f x=0) ->(l.map f).sum=0
 | [],_=>rfl
 | x::l,h=>by
  rw [z3l,z3s,h x (z1p ..),qbr λ y hy=>h y (z16 _ hy)]
theorem qgm {α:Type} {f g:α ->Nat}:∀ {l:List α},(∀ x∈l,f x<=g x) ->(l.map f).sum<=(l.map g).sum
 | [],_=>z48 _
 | x::l,h=>by
  rw [z3l,z3l,z3s,z3s];exact Nat.add_le_add (h x (z1p ..)) (qgm λ y hy=>h y (z16 _ hy))
theorem qgn {α:Type} {f:α ->Nat}:∀ {l:List α},(∀ x∈l,1<=f x) ->l.length<=(l.map f).sum
 | [],_=>z48 _
 | x::l,h=>by
  rw [z3l,z3s,z2i];have:=h x (z1p ..);have:=qgn λ y hy=>h y (z16 _ hy);omega
theorem qxs {p q:List Str} {w v:Str} (h1:p++ [w] <+:q) (h2:p++ [v] <+:q):w=v:=by
 obtain ⟨s,rfl⟩:=h1;obtain ⟨t,e⟩:=h2;rw [z1y,z1y] at e;have:=List.append_cancel_left e;simp at this
 exact this.1.symm
theorem qo1 (p q:List Str) (c:Nat):∀ {ws:List Str},ws.Nodup ->(ws.map λ w=>if p++ [w] <+:q then c else 0).sum<=if p <+:q then c else 0
 | [],_=>z4b _
 | w::ws,nd=>by
  rw [z3l,z3s];have D:=z32.mp nd;by_cases h:p++ [w] <+:q
  ·have hp:p <+:q:=(List.prefix_append p [w]).trans h;rw [if_pos h,if_pos hp,qbr λ v hv=>if_neg λ z=>D.1 (by rw [qxs h z];exact hv)];omega
  ·rw [if_neg h,z3x];exact qo1 p q c D.2
theorem qlg (p:List Str) {ws:List Str} (nd:ws.Nodup):∀ acc:List (List Str),(ws.map λ w=>(acc.map λ q=>if p++ [w] <+:q++ [endW] then q.length+2 - p.length else 0).sum).sum<=(acc.map λ q=>if p <+:q++ [endW] then q.length+2 - p.length else 0).sum
 | []=>Nat.le_of_eq (qbr λ _ _=>rfl)
 | q::acc=>by
  have e:(ws.map λ w=>((q::acc).map λ q=>if p++ [w] <+:q++ [endW] then q.length+2 - p.length else 0).sum)=ws.map λ w=>(if p++ [w] <+:q++ [endW] then q.length+2 - p.length else 0)+(acc.map λ q=>if p++ [w] <+:q++ [endW] then q.length+2 - p.length else 0).sum:=by
   apply z1f
   intro w _;rw [z3l,z3s]
  rw [e,qlf,z3l,z3s];exact Nat.add_le_add (qo1 p (q++ [endW]) _ nd) (qlg p nd acc)
theorem qrw {p:List Str} {w:Str}:∀ {acc:List (List Str)},(∃ q∈acc,p++ [w] <+:q++ [endW]) ->mu acc (p++ [w])<=(acc.map λ q=>if p++ [w] <+:q++ [endW] then q.length+2 - p.length else 0).sum
 | [],h=>by
  obtain ⟨_,h,_⟩:=h;cases h
 | q::acc,h=>by
  unfold mu;rw [z3l,z3s,z3l,z3s];have all:(acc.map λ q=>if p++ [w] <+:q++ [endW] then q.length+2 - (p++ [w]).length else 0).sum<=(acc.map λ q=>if p++ [w] <+:q++ [endW] then q.length+2 - p.length else 0).sum:=qgm λ q _=>by
   split
   ·rw [z1o];omega
   ·exact z48 _
  by_cases hq:p++ [w] <+:q++ [endW]
  ·rw [if_pos hq,if_pos hq];have hl:=hq.length_le;rw [z1o,z1o,z0y,z0y] at hl;have e1:(p++ [w]).length=p.length+1:=by rw [z1o];rfl
   omega
  ·rw [if_neg hq,if_neg hq];have:∃ q∈acc,p++ [w] <+:q++ [endW]:=by
    obtain ⟨q',h1,h2⟩:=h;rcases z3n.mp h1 with rfl | h1
    ·exact absurd h2 hq
    ·exact ⟨q',h1,h2⟩
   have:=qrw this;unfold mu at this;omega
theorem qxt {acc:List (List Str)} {p ws:List Str} (nd:ws.Nodup) (h:∀ w∈ws,∃ q∈acc,p++ [w] <+:q++ [endW]):((ws.map λ w=>p++ [w]).map (mu acc)).sum < mu acc p:=by
 rw [z47];have h1:(ws.map (mu acc∘λ w=>p++ [w])).sum<=(ws.map λ w=>(acc.map λ q=>if p++ [w] <+:q++ [endW] then q.length+2 - p.length else 0).sum).sum:=qgm λ w hw=>qrw (h w hw);have h2:=qlg p nd acc;show _ < 1+_;omega
theorem qn6 {α β:Type} {F:α ->β ->Prop} {xs:List α} {ps:List β} (h:Paired F xs ps):xs≠ [] ->∃ ys y D p,xs=ys++ [y]/\ps=D++ [p]/\Paired F ys D/\F y p:=by
 induction h with
 | nil=>exact λ z=>absurd rfl z
 | @cons a b as bs h1 h2 ih=>
  intro _;cases as with
  | nil=>
   cases h2
   exact ⟨[],a,[],b,zf,zf,.nil,h1⟩
  | cons c cs=>
   obtain ⟨ys,y,D,p,e1,e2,h3,h4⟩:=ih (by simp);exact ⟨a::ys,y,b::D,p,by rw [e1];rfl,by rw [e2];rfl,.cons h1 h3,h4⟩
theorem qi0 {α β γ:Type} {F:α ->β ->Prop} {f:γ ->α} {g:γ ->β}:∀ {l:List γ},(∀ x∈l,F (f x) (g x)) ->Paired F (l.map f) (l.map g)
 | [],_=> .nil
 | x::l,h=> .cons (h x (z1p ..)) (qi0 λ y hy=>h y (z16 _ hy))
structure Paths (acc:List (List Str)) (S:List Str ->Prop):Prop where
 dom:∀ p,S p↔p=[]\/ ∃ q∈acc,p <+:q++ [endW]
 ne:∀ q∈acc,endW∉q
theorem qo2 {p q:List Str} (h:p++ [endW] <+:q++ [endW]) (hq:endW∉q):p=q:=by
 rcases List.prefix_concat_iff.mp h with e | h
 ·exact List.append_cancel_right e
 ·exact absurd (h.subset (by simp)) hq
theorem qi1 (w:Str):∀ (ws:List Str) (m:List (Key×V)),(valV (q44 (ws.map λ w=>(w,V.bl true)) m) (.inr w)).isSome=true↔w∈ws\/ (valV m (.inr w)).isSome=true
 | [],m=>by simp [q44]
 | x::ws,m=>by
  show (valV (q44 (ws.map λ w=>(w,V.bl true)) (putK m (.inr x) (.bl true))) (.inr w)).isSome=true↔_;rw [qi1 w ws,q53];by_cases e:w=x
  ·subst e;rw [if_pos rfl];simp
  ·rw [if_neg (λ z=>e (by injection z)),z3n];simp [e]
theorem qlh:∀ (ws:List Str) (m:List (Key×V)) {us:List Str},Ks m us ->∃ D,Ks (q44 (ws.map λ w=>(w,V.bl true)) m) D
 | [],m,us,h=>⟨us,h⟩
 | x::ws,m,us,h=>by
  obtain ⟨D,h'⟩:=h.put x (.bl true);exact qlh ws _ h'
def qzt:Sp:=λ vs H Q _=>∃ (H0:Hp) (r t:Addr) (ws:List Str) (acc:List (List Str)) (S:List Str ->Prop) (n:Nat),vs=[.ref r,.ref t]/\H t=some (.tup (ws.map V.str))/\PathOk H0 H r S n/\n<=900000/\ws.length<=1000/\Paths acc S/\mu acc []<=900000/\
 ∀ H',Same H H' ->Q (.bl (decide (∃ q∈acc,∀ w∈q,w∈ws))) H'
theorem qco (T:Txt K mg):Def P w K mg base 2 "has_one_within" ["tree","words"] qzt:=by
  refine T.qeb.ok q3d (λ vs H Q E h=> ?_) λ f cdv A outer s H vs Q E hr h=> ?_
  · obtain ⟨H0,r,t,ws,acc,S,n,rfl,_⟩:=h
    rfl
  · obtain ⟨H0,r,t,ws,acc,S,n,rfl,ht,T0,hn,hl,hP,d1,k⟩:=h
    refine ⟨_,(qp3
      (qy (i:=2) q3d.nd rfl (Or.inl rfl) (q27 (qpa rfl K) rfl T.q10p qx1 (pa_1 (q29 (N:=["word"]) (caps:=[none]) rfl (by with_unfolding_all rfl) (q7m K (pv 1)) (λ _ _ _ _ _=>(qx (i:=0) (show (["word"]:List Str).Nodup by decide+kernel) rfl (Or.inl rfl))) (λ _ _ _ _ _=>q3v) (λ _ _ _ _ _=>(q6q (pa_2 (pv 0) q2v)))))))
      (qy (i:=3) q3d.nd rfl (Or.inl rfl) (q20 (pa_1 (pv 0))))
      (qkg PassesOwn.never (q12 qot (qq (q2y K) rfl T.b_len q46 (pa_1 (pv 3))) qf (q13 _)) (q3c
      (qy (i:=4) q3d.nd rfl (Or.inl rfl) (qyx z0l PySem.F.slot_list_pop PySem.F.type_list_pop qyy (pv 3)))
      (q1c (qel (qkr (q2h hr) (qju rfl T.c_END) (pv 4))) (qg (qk q2v)) q14)
      (q2t (q8o z0l z0e z0f q8p (pv 3) (pa_1 (qp (qgl T) hr rfl (pa_2 (pv 4) (pv 2))))))))
      (qk q2v)),?_⟩
    refine ⟨_,zf,t,zf,⟨_,SqT.of ht⟩,λ D hD=> ?_⟩;refine q1x (ws.map V.str).length (λ i σ' H'=>(∃ v,σ'=[v])/\Same H H'/\∃ ys,H' D=some (.lst ys)/\ys.length=i/\∀ H2,KeepT H' H2 ->Paired (qp9 K H2) ys ((ws.take i).map λ w=>(w,V.bl true))) ⟨⟨_,zf⟩,qd hD,[],qb,zf,λ _ _=> .nil⟩ (λ i σ' H' hi p=> ?_) (λ σ' H' p=>⟨?_,?_⟩) (λ i σ' H' hi p x H2 y=> ?_)
    · obtain ⟨_,sm,_⟩:=p
      exact ⟨_,(ws.map V.str)[i],SqT.of (sm _ _ ht),z0d hi⟩
    · obtain ⟨_,sm,_⟩:=p
      exact ⟨_,SqT.of (sm _ _ ht),z48 _⟩
    · obtain ⟨_,s1,ys,ey,ly,hy⟩:=p
      have c0:=hy H' λ _ _ e=>e;rw [z30,z2t] at c0;refine ⟨D,ys,_,zf,SqL.of ey,c0,λ m hm=> ?_⟩;have s2:=s1.trans (qd (o:=HO.dK (q44 (ws.map λ w=>(w,V.bl true)) [])) hm);have em:=qb (H:=H') (a:=m) (o:=HO.dK (q44 (ws.map λ w=>(w,V.bl true)) []));obtain ⟨ms,b6⟩:=qlh ws [] (us:=[]) ⟨rfl,z3g⟩;have c6:∀ w,w∈ms↔w∈ws:=λ w=>by
        rw [b6.mem,qi1];simp [valV]
      have lms:ms.length<=1000:=by
        rw [b6.len];have:=qba (ws.map λ w=>(w,V.bl true)) [];rw [z30] at this;simp at this
        omega
      have c8:H m=none:=s1.free hm;generalize upd H' m (.dK (q44 (ws.map λ w=>(w,V.bl true)) []))=G at*;generalize q44 (ws.map λ w=>(w,V.bl true)) []=d6 at*;refine ⟨_,rfl,by show 1<=sizeLine;decide,λ q hq=> ?_⟩;have hqH:H q=none:=s2.free hq;refine ⟨λ mm σ H'=>∃ (v:Option V) (xs:List V) (ps:List (List Str)),σ=[some (.ref r),some (.ref t),some (.ref m),some (.ref q),v]/\Same G H'/\H' q=some (.lst xs)/\Paired (λ x p=>∃ b,x=V.ref b/\go H r p=some b) xs ps/\(∀ p∈ps,∀ w∈p,w∈ws)/\(∀ u∈acc,(∀ w∈u,w∈ws) ->∃ p∈ps,p <+:u)/\mm=(ps.map (mu acc)).sum/\mm<=900000,
        ⟨mu acc [],none,[.ref r],[[]],rfl,qd hq,qb,.cons ⟨r,rfl,rfl⟩ .nil,(λ p hp w hw=>by rw [z1m.mp hp] at hw;cases hw),(λ u _ _=>⟨[],by simp,List.nil_prefix⟩),by simp,d1⟩,?_⟩
      rintro mm σ G1 ⟨v,xs,ps,rfl,s3,eq,b5,b4,b2,c9,d7⟩;have lxs:xs.length<=900000:=by
        have h1:=Paired.length b5;have h2:=qgn (f:=mu acc) (l:=ps) λ p _=>by unfold mu;omega
        omega
      refine ⟨_,zf,_,_,zf,.inl ⟨_,SqL.of eq,zf⟩,_,_,zf,zf,_,zf,ite2 (λ h1=> ?_) (λ h1=> ?_)⟩
      · have d2:xs≠ []:=λ z=>by
          rw [z] at h1;exact absurd h1 (by decide)
        obtain ⟨a5,y,qs,p,rfl,rfl,d5,b,rfl,hb⟩:=qn6 b5 d2;refine ⟨λ σ' G'=>∃ m',m' < mm/\∃ (v:Option V) (xs:List V) (ps:List (List Str)),σ'=[some (.ref r),some (.ref t),some (.ref m),some (.ref q),v]/\Same G G'/\G' q=some (.lst xs)/\Paired (λ x p=>∃ b,x=V.ref b/\go H r p=some b) xs ps/\(∀ p∈ps,∀ w∈p,w∈ws)/\(∀ u∈acc,(∀ w∈u,w∈ws) ->∃ p∈ps,p <+:u)/\m'=(ps.map (mu acc)).sum/\m'<=900000,λ _ _ z=>z,?_⟩;obtain ⟨kvs,Z⟩:=T0.nodes.node p b hb;obtain ⟨us,a8⟩:=T0.nd p b kvs hb Z;have sz:=T0.size p b kvs hb Z;refine ⟨_,zf,.inl ⟨zf,_,SqL.of eq⟩,_,_,.ref b,zf,zf,eq,by simp,?_⟩;rw [List.dropLast_concat];have s4:Same G (upd G1 q (.lst a5)):=s3.set hq;have e4:=qb (H:=G1) (a:=q) (o:=HO.lst a5);generalize upd G1 q (.lst a5)=G2 at*;have a9:=s4 _ _ (s2 _ _ Z);have c4:∀ w,(valV kvs (.inr w)).isSome=true ->∃ c,kidR kvs w= .ref c/\go H r (p++ [w])=some c:=λ w hw=>by
          have hv:=qgk hw;obtain ⟨c,ec⟩:=T0.refs p b kvs w _ hb Z hv;refine ⟨c,ec,?_⟩;rw [q3i,hb];show go H b [w]=some c;rw [q1k Z];unfold kidV;rw [hv,ec];rfl
        have b3:∀ w,(valV kvs (.inr w)).isSome=true ->∃ u∈acc,p++ [w] <+:u++ [endW]:=λ w hw=>by
          obtain ⟨c,_,hc⟩:=c4 w hw;rcases (hP.dom _).mp ((T0.dom _).mp ⟨c,hc⟩) with z | z
          · simp at z
          · exact z
        refine ⟨_,zf,b,_,zf,DGet.k (k:=Sum.inr endW) a9,_,zf,ite2 (λ h2=> ?_) (λ h2=> ?_)⟩
        · obtain ⟨u,hu,a0⟩:=b3 endW h2
          have c7:=qo2 a0 (hP.ne u hu);have kk:=k G2 (s2.trans s4);rw [z3c ⟨u,hu,by rw [<- c7];exact b4 p (by simp)⟩] at kk;exact kk
        · refine ⟨_,rfl,.inl ⟨rfl,_,SqL.of e4⟩,_,rfl,_,rfl,b,m,kvs,d6,us,ms,rfl,qr Z c8,a9,s4 _ _ em,a8,b6,by rw [a8.len];omega,by omega,λ c a1 G3 s5 hc ec nd a3=> ?_⟩
          have c1:∀ w∈a1,(valV kvs (.inr w)).isSome=true:=λ w hw=>(a8.mem w).mp ((a3 w).mp hw).1;have hlt:=qxt (acc:=acc) (p:=p) nd λ w hw=>b3 w (c1 w hw);have d0:((qs++a1.map λ w=>p++ [w]).map (mu acc)).sum < mm:=by
            rw [c9,z36,z36,List.sum_append,List.sum_append];simp only [z3l,z44,z3s,List.sum_nil];omega
          have a4:Paired (λ x p=>∃ b,x=V.ref b/\go H r p=some b) (a5++a1.map (kidR kvs)) (qs++a1.map λ w=>p++ [w]):=q1t d5 (qi0 λ w hw=>c4 w (c1 w hw));have c5:(a5++a1.map (kidR kvs)).length<=900000:=by
            have h1:=Paired.length a4;have h2:=qgn (f:=mu acc) (l:=qs++a1.map λ w=>p++ [w]) λ p _=>by unfold mu;omega
            omega
          rw [z1o] at c5;refine ⟨q,c,_,_,zf,zf,s5 _ _ e4,ec,z3y (q15 (by omega)),?_⟩;refine ⟨_,d0,_,_,_,zf,(s4.trans s5).set hq,qb,a4,λ p' J w hw=> ?_,λ u hu a7=> ?_,zf,by omega⟩
          · rcases z2u.mp J with J | J
            · exact b4 p' (z2u.mpr (.inl J)) w hw
            · obtain ⟨w',d4,rfl⟩:=z45.mp J
              rcases z2u.mp hw with hw | hw
              · exact b4 p (by simp) w hw
              · rw [z1m.mp hw]
                exact (c6 w').mp ((a3 w').mp d4).2
          · obtain ⟨p',J,a0⟩:=b2 u hu a7
            rcases z2u.mp J with J | J
            · exact ⟨p',z2u.mpr (.inl J),a0⟩
            · rw [z1m.mp J] at a0
              obtain ⟨tl,a6⟩:=a0;cases tl with
              | nil=>
                rw [z31] at a6;refine absurd ?_ h2;obtain ⟨c',a2⟩:=(T0.dom (p++ [endW])).mpr ((hP.dom _).mpr (.inr ⟨u,hu,by rw [a6];exact List.prefix_refl _⟩));rw [q3i,hb] at a2;have O:go H b [endW]=some c':=a2;rw [q1k Z] at O;cases e:valV kvs (.inr endW) with
                | none=>
                  unfold kidV at O;rw [e] at O;cases O
                | some _=>rfl
              | cons w' tl=>
                have b8:p++ [w'] <+:u:=⟨tl,by rw [<- a6];simp⟩;refine ⟨p++ [w'],z2u.mpr (.inr (z45.mpr ⟨w',(a3 w').mpr ⟨?_,(c6 w').mpr (a7 w' (by rw [<- a6];simp))⟩,rfl⟩)),b8⟩;obtain ⟨c',a2⟩:=(T0.dom (p++ [w'])).mpr ((hP.dom _).mpr (.inr ⟨u,hu,b8.trans (List.prefix_append _ _)⟩));rw [q3i,hb] at a2;have O:go H b [w']=some c':=a2;rw [q1k Z] at O;rw [a8.mem];cases e:valV kvs (.inr w') with
                | none=>
                  unfold kidV at O;rw [e] at O;cases O
                | some _=>rfl
      · have b7:xs=[]:=by
          cases xs with
          | nil=>rfl
          | cons x xs=>exact absurd (by simp) h1
        subst b7;cases b5
        have kk:=k G1 (s2.trans s3);rw [z2w (by
          rintro ⟨u,hu,a7⟩;obtain ⟨p,hp,_⟩:=b2 u hu a7;cases hp)] at kk
        exact kk
    · obtain ⟨⟨v,rfl⟩,sm,ys,ey,ly,hy⟩:=p
      obtain ⟨rfl,hx⟩:=y;have b9:=hx _ (SqT.of (sm _ _ ht));rw [z22] at b9;obtain ⟨z,hz,rfl⟩:=z0q.mp b9;refine ⟨_,rfl,by show 2<=sizeLine;decide,λ p hp=> ?_⟩;have s2:=qd (o:=HO.tup [.str z,.bl true]) hp;have d3:p≠D:=(qr ey hp).symm;refine ⟨_,s2 _ _ ey,by rw [ly];exact q15 (by rw [z30] at hi;omega),⟨_,rfl⟩,(sm.trans s2).set hD,ys++ [.ref p],qb,by rw [z1o,ly];rfl,λ G hG=> ?_⟩;rw [z3h,hz,z36];refine q1t (hy G λ b zs e=>hG b zs ?_) (.cons ⟨p,zf,SqT.of (hG p _ (by rw [qh d3,qb]))⟩ .nil);rw [qh (λ z=>by rw [z,ey] at e;cases e)];exact s2 _ _ e
theorem qzu:bootBuiltins "set"=some (.type "set"):=by decide+kernel
def encB (U:List (List Str)):List (List Key×V):=U.map λ u=>(u.map Sum.inr,V.bl true)
def addU (U:List (List Str)) (u:List Str):List (List Str):=if u∈U then U else U++ [u]
theorem qu8 (U:List (List Str)) (u:List Str):putK (encB U) (u.map Sum.inr) (V.bl true)=encB (addU U u):=by
 have any:((encB U).any λ D=>decide (D.1=u.map Sum.inr))=decide (u∈U):=by
  rw [z2z,z2p,decide_eq_true_iff]
  constructor
  ·rintro ⟨D,hk,e⟩;obtain ⟨v,hv,rfl⟩:=z45.mp hk;have:=qcf.mp (of_decide_eq_true e);rw [<- this];exact hv
  ·intro h;exact ⟨_,z45.mpr ⟨u,h,zf⟩,z3c rfl⟩
 unfold putK addU;rw [any];by_cases h:u∈U
 ·rw [if_pos (z3c h),if_pos h];unfold encB;rw [z47]
  apply z1f
  intro v _;show (if v.map (Sum.inr:Str ->Key)=u.map Sum.inr then (v.map Sum.inr,V.bl true) else (v.map Sum.inr,V.bl true))=_;split <;> rfl
 ·rw [if_neg (by simpa using h),if_neg h];unfold encB;rw [z36];rfl
theorem qu9 {U:List (List Str)} {u v:List Str}:v∈addU U u↔v∈U\/ v=u:=by
 unfold addU;by_cases h:u∈U
 ·rw [if_pos h];exact ⟨.inl,λ z=>z.elim id λ z=>by rw [z];exact h⟩
 ·rw [if_neg h,z2u,z1m]
theorem qxu {U:List (List Str)} {u:List Str} (h:U.Nodup):(addU U u).Nodup:=by
 unfold addU;by_cases D:u∈U
 ·rw [if_pos D];exact h
 ·rw [if_neg D,z2d];exact ⟨h,by simp,λ a ha b hb e=>D (by rw [<- z1m.mp hb,<- e];exact ha)⟩
theorem qua {U:List (List Str)} {u:List Str}:(addU U u).length<=U.length+1:=by
 unfold addU;split
 ·omega
 ·rw [z1o];exact z48 _
def szF (U:List (List Str)) (n:Int):List (List Str):=U.filter λ u=>decide ((u.length:Int)=n)
structure Mid (H0 H:Hp) (kvs:List (Key×V)) (ns:List Int) (U:List (List Str)):Prop where
 keys:kvs.map (·.1)=ns.map Sum.inl
 nd:ns.Nodup
 has:∀ n∈ns,∃ c xs,valV kvs (.inl n)=some (.ref c)/\H c=some (.lst xs)/\q1s H xs (szF U n)/\H0 c=none
 inj:∀ n m c,valV kvs (.inl n)=some (.ref c) ->valV kvs (.inl m)=some (.ref c) ->n=m
 all:∀ u∈U,(u.length:Int)∈ns
theorem qch {kvs:List (Key×V)} {ns:List Int} (h:kvs.map (·.1)=ns.map Sum.inl) (n:Int):n∈ns↔(valV kvs (.inl n)).isSome=true:=by
 rw [qdz]
 constructor
 ·intro hn;have:(Sum.inl n:Key)∈kvs.map (·.1):=by
   rw [h];exact z45.mpr ⟨n,hn,zf⟩
  obtain ⟨J,hk,e⟩:=z45.mp this;exact ⟨J,hk,e⟩
 ·rintro ⟨J,hk,e⟩;have:(Sum.inl n:Key)∈ns.map Sum.inl:=by
   rw [<- h,<- e];exact z45.mpr ⟨J,hk,zf⟩
  obtain ⟨m,hm,D⟩:=z45.mp this;injection D with D;rw [<- D];exact hm
theorem q1o {H H':Hp} (k:KeepT H H'):∀ {zs:List V} {ps:List (List Str)},q1s H zs ps ->q1s H' zs ps
 | _,_,.nil=> .nil
 | _,_,.cons ⟨b,e,hb⟩ h=> .cons ⟨b,e,k _ _ hb⟩ (q1o k h)
theorem Mid.same {D H H':Hp} {kvs:List (Key×V)} {ns:List Int} {U:List (List Str)} (M:Mid D H kvs ns U) (s:Same H H'):Mid D H' kvs ns U:=
 ⟨M.keys,M.nd,λ n hn=>by
  obtain ⟨c,xs,h1,h2,h3,h4⟩:=M.has n hn;exact ⟨c,xs,h1,s _ _ h2,q1o (λ b ys e=>s b _ e) h3,h4⟩,M.inj,M.all⟩
theorem qxv (U:List (List Str)) (u:List Str) (n:Int):szF (U++ [u]) n=szF U n++(if (u.length:Int)=n then [u] else []):=by
 unfold szF;rw [z1u]
 congr 1
 by_cases h:(u.length:Int)=n
 ·rw [if_pos h];simp [h]
 ·rw [if_neg h];simp [h]
theorem Mid.more {H0 H:Hp} {kvs:List (Key×V)} {ns:List Int} {U:List (List Str)} {u:List Str} {c b:Addr} {xs:List V} (M:Mid H0 H kvs ns U) (J:valV kvs (.inl (u.length:Int))=some (.ref c)) (hx:H c=some (.lst xs)) (hb:H b=some (.tup (u.map V.str))):
  Mid H0 (upd H c (.lst (xs++ [.ref b]))) kvs ns (U++ [u]):=by
 have O:KeepT H (upd H c (.lst (xs++ [.ref b]))):=KeepT.upd (λ _ _ e=>e) hx;have hn:(u.length:Int)∈ns:=(qch M.keys _).mpr (by rw [J];rfl);refine ⟨M.keys,M.nd,λ n hn=> ?_,M.inj,λ v D=> ?_⟩
 ·obtain ⟨c',Z,h1,h2,h3,h4⟩:=M.has n hn;rw [qxv];by_cases e:(u.length:Int)=n
  ·subst e;rw [J] at h1;cases h1
   rw [hx] at h2;cases h2
   refine ⟨c,_,J,qb,?_,h4⟩;rw [if_pos rfl];exact q1t (q1o O h3) (.cons ⟨b,zf,O _ _ hb⟩ .nil)
  ·have ne:c'≠c:=λ z=>e (M.inj _ _ c J (by rw [<- z];exact h1));refine ⟨c',Z,h1,by rw [qh ne];exact h2,?_,h4⟩;rw [if_neg e,z31];exact q1o O h3
 ·rcases z2u.mp D with D | D
  ·exact M.all v D
  ·rw [z1m.mp D];exact hn
theorem Mid.new {J H:Hp} {kvs:List (Key×V)} {ns:List Int} {U:List (List Str)} {n:Int} {e:Addr} (M:Mid J H kvs ns U) (hn:valV kvs (.inl n)=none) (he:H e=some (.lst [])) (h0:J e=none) (D:∀ m c,valV kvs (.inl m)=some (.ref c) ->c≠e):
  Mid J H (putK kvs (.inl n) (.ref e)) (ns++ [n]) U:=by
 have nn:n∉ns:=λ z=>by
  have:=(qch M.keys n).mp z;rw [hn] at this;cases this
 refine ⟨?_,?_,λ m hm=> ?_,λ m Z c h1 h2=> ?_,λ v O=>z2u.mpr (.inl (M.all v O))⟩
 ·rw [qtf _ hn,z36,z36,M.keys];rfl
 ·rw [z2d];exact ⟨M.nd,by simp,λ a ha b hb e=>nn (by rw [<- z1m.mp hb,<- e];exact ha)⟩
 ·rw [q53];rcases z2u.mp hm with hm | hm
  ·obtain ⟨c,xs,h1,h2⟩:=M.has m hm;refine ⟨c,xs,?_,h2⟩;rw [if_neg (λ z=>nn (by injection z with z;rw [<- z];exact hm))];exact h1
  ·rw [z1m.mp hm];refine ⟨e,[],if_pos rfl,he,?_,h0⟩;have:szF U n=[]:=by
    unfold szF;rw [List.filter_eq_nil_iff];intro v O z;have:=M.all v O;rw [of_decide_eq_true z] at this;exact nn this
   rw [this];exact .nil
 ·rw [q53] at h1 h2;by_cases e1:(Sum.inl m:Key)=Sum.inl n
  ·by_cases e2:(Sum.inl Z:Key)=Sum.inl n
   ·injection e1 with e1;injection e2 with e2;rw [e1,e2]
   ·rw [if_pos e1] at h1;rw [if_neg e2] at h2;cases h1
    exact absurd rfl (D _ _ h2)
  ·by_cases e2:(Sum.inl Z:Key)=Sum.inl n
   ·rw [if_neg e1] at h1;rw [if_pos e2] at h2;cases h2
    exact absurd rfl (D _ _ h1)
   ·rw [if_neg e1] at h1;rw [if_neg e2] at h2;exact M.inj _ _ c h1 h2
def qf3 (K:PySem.W.Frag) (H:Hp) (xs:List V) (ss:List (List Str)):Prop:=Paired (λ x s=>∃ b,x=V.ref b/\(SqL K H b (s.map V.str)\/ SqT K H b (s.map V.str))) xs ss
theorem qi2 {K:PySem.W.Frag} {H:Hp}:∀ {xs:List V} {D:List (List Str)} {i:Nat} {x:V},qf3 K H xs D ->xs[i]? =some x ->∃ s b,D[i]? =some s/\x=V.ref b/\(SqL K H b (s.map V.str)\/ SqT K H b (s.map V.str))
 | _,_,i,x,.nil,h=>by simp at h
 | _,_,0,x,.cons ⟨b,e,hb⟩ _,h=>by
  simp at h
  subst h;exact ⟨_,b,zf,e,hb⟩
 | _,_,i+1,x,.cons _ r,h=>by
  obtain ⟨s,b,e,q⟩:=qi2 (i:=i) (x:=x) r (by simpa using h);exact ⟨s,b,by simpa using e,q⟩
def qxw (K:PySem.W.Frag):Sp:=λ vs H Q _=>∃ (l:Addr) (xs:List V) (ss:List (List Str)),vs=[.ref l]/\SqL K H l xs/\qf3 K H xs ss/\ss.length<=20000/\(∀ s∈ss,s.length<=4000)/\
 ∀ d kvs ns (U:List (List Str)) H',Same H H' ->H d=none ->H' d=some (.dK kvs) ->Mid H H' kvs ns U ->(∀ u,u∈U↔∃ s∈ss,u=uniq s) ->U.Nodup ->U.length<=ss.length ->Q (.ref d) H'
theorem qf4 (T:Txt K mg):Def P w K mg base 1 "once_by_size" ["sets"] (qxw K):=by
 refine T.qh6.ok q30 (λ vs H Q E h=> ?_) λ f cdv A outer s H vs Q E hr h=> ?_
 ·obtain ⟨l,xs,ss,rfl,_⟩:=h;rfl
 ·obtain ⟨l,xs,ss,rfl,hl,hx,h1,h2,k⟩:=h;have lx:xs.length=ss.length:=Paired.length hx;refine ⟨_,(qvr
   (qy (i:=1) q30.nd rfl (Or.inl rfl) q9r)
   (q1m PassesOwn.never rfl (q19 K (pv 0)) (qx (i:=2) q30.nd rfl (Or.inl rfl)) (qg (q7l (q2h hr) (pv 1) (q27 (q6l K) rfl T.q9j q7x (pa_1 (qq (ql6 rfl P w) rfl T.q2c q22 (pa_1 (q27 (qrk rfl P w K) rfl T.b_set qzu (pa_1 (pv 2))))))) q2v rfl)))
   (qy (i:=3) q30.nd rfl (Or.inl rfl) q54)
   (q1m PassesOwn.never rfl (qtu (pv 1)) (qx (i:=2) q30.nd rfl (Or.inl rfl)) (qg (q2t (q8o z0l z0g z0h q6r (qkz (pv 3) (qq (q2y K) rfl T.b_len q46 (pa_1 (pv 2))) (q20 q2d) ⟨rfl,rfl,rfl,rfl⟩) (pa_1 (pv 2))))))
   (qk (pv 3))),?_⟩
  intro o ho;have t0:=qd (o:=HO.dT []) ho;refine ⟨_,rfl,l,rfl,⟨_,t0.seq hl⟩,q26 (xs:=xs) (λ i σ H'=>∃ (v:Option V) (U:List (List Str)),σ=[some (.ref l),some (.ref o),v,none]/\Same H H'/\H' o=some (.dT (encB U))/\U.Nodup/\U.length<=i/\∀ u,u∈U↔∃ s∈ss.take i,u=uniq s)
   ⟨none,[],rfl,t0,qb,z3g,z48 _,λ u=>by simp⟩ (λ i σ H' _ z=>by obtain ⟨_,_,_,z,_⟩:=z;exact z.seq hl) ?_ ?_⟩
  ·rintro i x σ H1 a6 ⟨v,U,rfl,s1,e1,nd,lu,hU⟩;obtain ⟨st,b,hs,rfl,hb⟩:=qi2 hx a6;have il:i < xs.length:=(z07.mp a6).1;have a8:SqL K H1 b (st.map V.str)\/ SqT K H1 b (st.map V.str):=hb.elim (λ z=> .inl (s1.seq z)) (λ z=> .inr (s1.seqT z));refine ⟨_,zf,_,zf,b,st,zf,a8,h2 st (z18 hs),λ e ys he b6 b5=> ?_⟩;have s2:=qd (o:=SetH P w e ys) he;refine ⟨e,ys,zf,qb,λ g hg=> ?_⟩;rw [qtt b6 b5];have s3:=qd (o:=HO.lst ((uniq st).map V.str)) hg;refine ⟨_,_,zf,.inl ⟨SqL.of qb,λ t ht=> ?_⟩⟩;have D:=qd (o:=HO.tup ((uniq st).map V.str)) ht;refine ⟨o,_,rfl,DPut.t (k:=(uniq st).map Sum.inr) (D _ _ (s3 _ _ (s2 _ _ e1))) (by rw [q65];exact qb) (by unfold encB;rw [z30];exact q15 (by omega)),?_⟩;rw [qu8];refine ⟨_,addU U (uniq st),zf,(s1.trans (s2.trans (s3.trans D))).set ho,qb,qxu nd,z41 qua (by omega),λ u=> ?_⟩;rw [qu9,hU,z3h,hs]
   constructor
   ·rintro (⟨s,h1,h2⟩ | h)
    ·exact ⟨s,z2u.mpr (.inl h1),h2⟩
    ·exact ⟨st,z2u.mpr (.inr (by simp)),h⟩
   ·rintro ⟨s,h1,h2⟩;rcases z2u.mp h1 with h1 | h1
    ·exact .inl ⟨s,h1,h2⟩
    ·have:s=st:=by simpa using h1
     rw [this] at h2;exact .inr h2
  ·rintro σ H1 ⟨v,U,rfl,s1,e1,nd,lu,hU⟩;rw [lx,z2t] at hU;intro d hd;have a2:H d=none:=s1.free hd;have s2:=qd (o:=HO.dK []) hd;have eo:=s2 _ _ e1;have a3:d≠o:=(qr e1 hd).symm;refine ⟨_,rfl,o,_,rfl,.inl ⟨eo,λ ob=>qrm (λ i σ H'=>∃ (v:Option V) (kvs:List (Key×V)) (ns:List Int),σ=[some (.ref l),some (.ref o),v,some (.ref d)]/\Same H H'/\H' o=some (.frz ob (.dT (encB U)))/\H' d=some (.dK kvs)/\kvs.length<=i/\Mid H H' kvs ns (U.take i))
    ⟨v,[],[],rfl,(s1.trans s2).set ho,qb,by rw [qh a3,qb],z48 _,⟨rfl,z3g,(λ _ z=>nomatch z),(λ n m c h _=>nomatch h),λ u hu=>by simp at hu⟩⟩ (λ i σ H' _ z=>by obtain ⟨_,_,_,_,_,z,_⟩:=z;exact z) ?_ ?_⟩⟩
   ·rintro i kv b σ H2 hk hb ⟨v,kvs,ns,rfl,s3,e3,Z,lk,M⟩;have il:i < (encB U).length:=(z07.mp hk).1;have iu:i < U.length:=by unfold encB at il;rw [z30] at il;exact il
    obtain ⟨u,hu,rfl⟩:∃ u,U[i]? =some u/\kv=(u.map Sum.inr,V.bl true):=by
     unfold encB at hk;rw [z22] at hk;obtain ⟨u,h1,h2⟩:=z0q.mp hk;exact ⟨u,h1,h2.symm⟩
    have O:H2 b=some (.tup (u.map V.str)):=by rw [hb,q65]
    have et:U.take (i+1)=U.take i++ [u]:=by rw [z3h,hu];rfl
    refine ⟨_,rfl,d,rfl,.inl ⟨kvs,.inl Z⟩,_,rfl,_,_,rfl,.inr ⟨_,SqT.of O,rfl⟩,by show 0<=sizeLine;decide,λ e he=> ?_⟩;rw [z30];have D:=qd (o:=HO.lst []) he;have a4:H e=none:=s3.free he;have M1:=M.same D;have szs:U.length<=20000:=by omega
    have a7:∀ n,(szF (U.take i) n).length<=20000:=λ n=>by
     have:=z10 (λ u:List Str=>decide ((u.length:Int)=n)) (U.take i);rw [z2g] at this;unfold szF;omega
    refine ⟨kvs,.inl (u.length:Int),D _ _ Z,zf,q15 (by omega),λ v hv=> ?_,λ hv=> ?_⟩
    ·obtain ⟨c,zs,g1,J,g3,g4⟩:=M1.has _ ((qch M1.keys _).mpr (by rw [hv];rfl));rw [hv] at g1;cases g1
     have lz:=Paired.length g3;refine ⟨.inl ⟨rfl,_,SqL.of J⟩,_,rfl,c,_,_,rfl,rfl,J,q15 (by have:=a7 (u.length:Int);omega),?_⟩;have b2:c≠o:=λ z=>by rw [z,D _ _ e3] at J;cases J
     have a1:c≠d:=λ z=>by rw [z,D _ _ Z] at J;cases J
     rw [et];exact ⟨_,kvs,ns,rfl,(s3.trans D).set g4,by rw [qh b2.symm];exact D _ _ e3,by rw [qh a1.symm];exact D _ _ Z,by omega,M1.more hv J (D _ _ O)⟩
    ·have a5:e≠d:=(qr Z he).symm;have b3:e≠o:=(qr e3 he).symm;have M2:=M1.new hv qb a4 λ m c hm z=>by
      obtain ⟨c',xs',q1,q2,_⟩:=M.has m ((qch M.keys m).mpr (by rw [hm];rfl));rw [hm] at q1;cases q1
      rw [z] at q2;rw [q2] at he;cases he
     have M3:Mid H (upd (upd H2 e (.lst [])) d (.dK (putK kvs (.inl (u.length:Int)) (.ref e)))) (putK kvs (.inl (u.length:Int)) (.ref e)) (ns++ [(u.length:Int)]) (U.take i):=by
      refine ⟨M2.keys,M2.nd,λ n hn=> ?_,M2.inj,M2.all⟩;obtain ⟨c,zs,g1,J,g3,g4⟩:=M2.has n hn;have a1:c≠d:=λ z=>by rw [z,D _ _ Z] at J;cases J
      refine ⟨c,zs,g1,by rw [qh a1];exact J,q1o (λ b' ys a0=> ?_) g3,g4⟩;rw [qh (λ z=>by rw [z,D _ _ Z] at a0;cases a0)];exact a0
     have ee:upd (upd H2 e (.lst [])) d (.dK (putK kvs (.inl (u.length:Int)) (.ref e))) e=some (.lst []):=by rw [qh a5,qb]
     have b4:valV (putK kvs (.inl (u.length:Int)) (.ref e)) (.inl (u.length:Int))=some (.ref e):=by rw [q53,if_pos rfl]
     have a9:upd (upd H2 e (.lst [])) d (.dK (putK kvs (.inl (u.length:Int)) (.ref e))) b=some (.tup (u.map V.str)):=by
      rw [qh (λ z=>by rw [z,Z] at O;cases O)];exact D _ _ O
     refine ⟨.inl ⟨rfl,_,SqL.of ee⟩,_,rfl,e,_,_,rfl,rfl,ee,by show 0 < sizeLine;decide,?_⟩;have s5:Same H (upd (upd H2 e (.lst [])) d (.dK (putK kvs (.inl (u.length:Int)) (.ref e)))):=(s3.trans D).set a2;rw [et];refine ⟨_,_,_,zf,s5.set a4,?_,?_,z41 (q4v _ _ _) (by omega),M3.more b4 ee a9⟩
     ·rw [qh b3.symm,qh a3.symm];exact D _ _ e3
     ·rw [qh a5.symm,qb]
   ·rintro σ H2 ⟨v,kvs,ns,rfl,s3,e3,Z,lk,M⟩;have lU:(encB U).length=U.length:=by unfold encB;rw [z30]
    rw [lU,z2t] at M;refine ⟨_,zf,k d kvs ns U H2 s3 a2 Z M hU nd (by omega)⟩
def Up (F:List (List Str)) (x:List Str):Prop:=∃ f∈F,∀ w∈f,w∈x
def Norm (r:List Str):Prop:=r.Pairwise λ a b=>ql a b=true
structure Acc (R:List (List Str)):Prop where
 srt:R.Pairwise λ a b=>qz a b=true
 norm:∀ r∈R,Norm r
 anti:∀ r∈R,∀ q∈R,(∀ w∈r,w∈q) ->r=q
theorem q5e {α:Type} {lt:α ->α ->Bool} (h:Tim.STO lt) {l:List α} (a:l.Pairwise λ a b=>lt b a=false) (n:l.Nodup):l.Pairwise λ a b=>lt a b=true:=
 (List.Pairwise.and a n).imp λ {x y} z=>by
  cases e:lt x y with
  | true=>rfl
  | false=>exact absurd (h.tri x y e z.1) z.2
theorem qf5 {α:Type} {lt:α ->α ->Bool} (h:Tim.STO lt) {l:List α} (a:l.Pairwise λ a b=>lt a b=true):l.Pairwise λ a b=>lt b a=false:=
 a.imp λ {x y} z=>by
  cases e:lt y x with
  | false=>rfl
  | true=>
   have:=h.tr x y x z e;rw [h.irr] at this;cases this
theorem q4d {α:Type} {lt:α ->α ->Bool} (h:Tim.STO lt) {l:List α} (a:l.Pairwise λ a b=>lt a b=true):l.Nodup:=
 a.imp λ {x y} z e=>by
  rw [e,h.irr] at z;cases z
theorem qi3 {α:Type} [DecidableEq α] {lt:α ->α ->Bool} (h:Tim.STO lt) {l k:List α} (a:l.Pairwise λ a b=>lt a b=true) (b:k.Pairwise λ a b=>lt a b=true) (m:∀ x,x∈l↔x∈k):l=k:=
 h.uniq ((List.perm_ext_iff_of_nodup (q4d h a) (q4d h b)).mpr m) (qf5 h a) (qf5 h b)
theorem qgo {r q:List Str} (hr:Norm r) (hq:Norm q) (h1:∀ w∈r,w∈q) (h2:∀ w∈q,w∈r):r=q:=qi3 q1j hr hq λ x=>⟨h1 x,h2 x⟩
theorem q6t (s:List Str):Norm (uniq s):=q5e q1j (Tim.q1r q1j _) ((Tim.qo ql _).nodup_iff.mpr (q9z _ _ (z48 _)))
theorem q5t {α:Type} [DecidableEq α]:∀ {u v:List α},u.Nodup ->(∀ w∈u,w∈v) ->u.length<=v.length
 | [],_,_,_=>z4b _
 | x::u,v,nd,h=>by
  have D:=z32.mp nd;have hx:=h x (z1p ..);have:=q5t (u:=u) (v:=v.erase x) D.2 λ w hw=>(List.mem_erase_of_ne (λ e=>D.1 (by rw [<- e];exact hw))).mpr (h w (z16 _ hw));rw [List.length_erase_of_mem hx] at this;have:=List.length_pos_of_mem hx;rw [z2i];omega
theorem qub (s:List Str):(uniq s).length<=s.length:=q5t (q4d q1j (q6t s)) λ w hw=>(q56 s w).mp hw
theorem qli {r q:List Str} (hr:Norm r) (hq:Norm q) (h1:∀ w∈r,w∈q) (hl:q.length<=r.length):r=q:=by
 refine qgo hr hq h1 λ w hw=> ?_;have nr:=q4d q1j hr
 apply Classical.byContradiction
 intro hn;have:=q5t (u:=w::r) (v:=q) (z32.mpr ⟨hn,nr⟩) λ x hx=>by
  rcases z3n.mp hx with rfl | hx
  ·exact hw
  ·exact h1 x hx
 rw [z2i] at this;omega
theorem qrx {R Q:List (List Str)} (hR:Acc R) (D:Acc Q) (h:∀ x,Up R x↔Up Q x):R=Q:=by
 have one:∀ {A B:List (List Str)},Acc A ->Acc B ->(∀ x,Up A x↔Up B x) ->∀ r∈A,r∈B:=λ {A B} O hB h r hr=>by
  obtain ⟨q,hq,h1⟩:=(h r).mp ⟨r,hr,λ _ z=>z⟩;obtain ⟨r',J,h2⟩:=(h q).mpr ⟨q,hq,λ _ z=>z⟩;have e:=O.anti r' J r hr λ w hw=>h1 w (h2 w hw);subst e;rw [qgo (O.norm _ hr) (hB.norm _ hq) h2 h1];exact hq
 exact qi3 q2a hR.srt D.srt λ x=>⟨one hR D h x,one D hR (λ y=>(h y).symm) x⟩
structure ThI (U:List (List Str)) (szs:List Int) (i:Nat) (acc:List (List Str)):Prop where
 sub:∀ u∈acc,u∈U/\(u.length:Int)∈szs.take i
 cov:∀ u∈U,(u.length:Int)∈szs.take i ->∃ q∈acc,∀ w∈q,w∈u
 anti:∀ u∈acc,∀ q∈acc,(∀ w∈u,w∈q) ->u=q
 nd:acc.Nodup
def lst (U acc:List (List Str)) (n:Int):List (List Str):=(szF U n).filter λ u=> !decide (∃ q∈acc,∀ w∈q,w∈u)
theorem q6f {U acc:List (List Str)} {n:Int} {u:List Str}:u∈lst U acc n↔u∈U/\(u.length:Int)=n/\¬ ∃ q∈acc,∀ w∈q,w∈u:=by
 unfold lst szF;rw [z2x,z2x];simp [and_assoc]
theorem ThI.step {U:List (List Str)} {J:List Int} {i:Nat} {acc:List (List Str)} {n:Int} (T:ThI U J i acc) (hs:J.Pairwise λ a b=>q18 a b=true) (hi:J[i]? =some n) (nU:U.Nodup) (Z:∀ u∈U,Norm u):ThI U J (i+1) (acc++lst U acc n):=by
 have et:J.take (i+1)=J.take i++ [n]:=by rw [z3h,hi];rfl
 have O:∀ m∈J.take i,m < n:=λ m hm=>by
  obtain ⟨j,hj,e⟩:=z1i hm;rw [z2g] at hj;obtain ⟨a0,en⟩:=z07.mp hi;have:=(z08.mp hs) j i (by omega) a0 (by omega);rw [z1z] at e;rw [en,e] at this;exact of_decide_eq_true this
 refine ⟨λ u D=> ?_,λ u D hl=> ?_,λ u D q hq h=> ?_,?_⟩
 ·rw [et];rcases z2u.mp D with D | D
  ·exact ⟨(T.sub u D).1,z2u.mpr (.inl (T.sub u D).2)⟩
  ·obtain ⟨h1,h2,_⟩:=q6f.mp D;exact ⟨h1,z2u.mpr (.inr (by rw [h2];simp))⟩
 ·rw [et] at hl;rcases z2u.mp hl with hl | hl
  ·obtain ⟨q,h1,h2⟩:=T.cov u D hl;exact ⟨q,z2u.mpr (.inl h1),h2⟩
  ·have e:(u.length:Int)=n:=by simpa using hl
   by_cases z:∃ q∈acc,∀ w∈q,w∈u
   ·obtain ⟨q,h1,h2⟩:=z;exact ⟨q,z2u.mpr (.inl h1),h2⟩
   ·exact ⟨u,z2u.mpr (.inr (q6f.mpr ⟨D,e,z⟩)),λ _ z=>z⟩
 ·rcases z2u.mp D with D | D
  ·rcases z2u.mp hq with hq | hq
   ·exact T.anti u D q hq h
   ·exact absurd ⟨u,D,h⟩ (q6f.mp hq).2.2
  ·obtain ⟨u1,u2,_⟩:=q6f.mp D;rcases z2u.mp hq with hq | hq
   ·have l1:=O _ (T.sub q hq).2;have:=q5t (q4d q1j (Z u u1)) h;omega
   ·obtain ⟨q1,q2,_⟩:=q6f.mp hq;exact qli (Z u u1) (Z q q1) h (by omega)
 ·rw [z2d];refine ⟨T.nd,(nU.filter _).filter _,λ a ha b hb e=> ?_⟩;subst e;exact (q6f.mp hb).2.2 ⟨a,ha,λ _ z=>z⟩
theorem qzv {acc:List (List Str)} {B:Nat} (h:∀ q∈acc,q.length<=B):mu acc []<=1+acc.length*(B+2):=by
 unfold mu;have:∀ acc:List (List Str),(∀ q∈acc,q.length<=B) ->(acc.map λ q=>if [] <+:q++ [endW] then q.length+2 - ([]:List Str).length else 0).sum<=acc.length*(B+2):=λ acc=>by
  induction acc with
  | nil=>exact λ _=>z4b _
  | cons q acc ih=>
   intro h;have h1:=h q (z1p ..);have h2:=ih λ x hx=>h x (z16 _ hx);rw [z3l,z3s,if_pos List.nil_prefix,z2i,Nat.succ_mul];have e0:([]:List Str).length=0:=rfl;omega
 have:=this acc h;omega
open Classical in
noncomputable def restT (H : Hp) (r : Addr) : Hp := fun b => if ∃ p, go H r p = some b then none else H b
theorem qry (H:Hp) (r:Addr):Same (restT H r) H:=λ b o e=>by
 unfold restT at e;split at e
 ·cases e
 ·exact e
theorem qrz {H:Hp} {r b:Addr} {p:List Str} (h:go H r p=some b):restT H r b=none:=by
 unfold restT;exact if_pos ⟨p,h⟩
theorem PathOk.other {H0 H:Hp} {r b:Addr} {S:List Str ->Prop} {n:Nat} {o:HO} (T:PathOk H0 H r S n) (h:H b=some o) (hn:∀ kvs,o≠ .dK kvs):restT H r b=some o:=by
 unfold restT;rw [if_neg]
 ·exact h
 ·rintro ⟨p,hp⟩;obtain ⟨kvs,e⟩:=T.nodes.node p b hp;rw [h] at e;exact hn kvs (Option.some.inj e)
theorem PathOk.bas {H0 H:Hp} {r:Addr} {S:List Str ->Prop} {n:Nat} (T:PathOk H0 H r S n):PathOk (restT H r) H r S n:=⟨T.nodes,T.dom,λ _ _ h=>qrz h,T.size,T.refs,T.nd⟩
theorem PathOk.back {H1 H H':Hp} {r:Addr} {S O:List Str ->Prop} {n Z:Nat} (T:PathOk H1 H r S n) (s1:Same H1 H) (s2:Same (restT H r) H') (D:PathOk (restT H r) H' r O Z):PathOk H1 H' r O Z/\Same H1 H':=by
 have J:∀ a o,H1 a=some o ->restT H r a=some o:=λ a o e=>by
  unfold restT;rw [if_neg]
  ·exact s1 _ _ e
  ·rintro ⟨p,hp⟩;rw [T.new p a hp] at e;cases e
 refine ⟨⟨D.nodes,D.dom,λ p a h=> ?_,D.size,D.refs,D.nd⟩,λ a o e=>s2 _ _ (J a o e)⟩;have:=D.new p a h;cases e:H1 a with
 | none=>rfl
 | some o=>
  rw [J a o e] at this;cases this
theorem qxx {H H':Hp} {r:Addr} (N:Nodes H r) (k:∀ b kvs,H b=some (.dK kvs) ->H' b=some (.dK kvs)):∀ (y x:List Str) (b:Addr),go H r x=some b ->go H' b y=go H b y:=by
 intro y
 induction y with
 | nil=>exact λ _ _ _=>rfl
 | cons u ys ih=>
  intro x b J;obtain ⟨kb,D⟩:=N.node x b J;rw [q1k (k _ _ D),q1k D];cases hc:kidV kb u with
  | none=>rfl
  | some c=>
   refine ih (x++ [u]) c ?_;rw [q3i,J];show go H b [u]=some c;rw [q1k D,hc];rfl
theorem PathOk.keep {H0 H H':Hp} {r:Addr} {S:List Str ->Prop} {n:Nat} (T:PathOk H0 H r S n) (k:∀ b kvs,H b=some (.dK kvs) ->H' b=some (.dK kvs)):PathOk H0 H' r S n:=by
 have g:∀ x,go H' r x=go H r x:=λ x=>qxx T.nodes k x [] r rfl;have O:∀ x b J,go H r x=some b ->H' b=some (.dK J) ->H b=some (.dK J):=λ x b J D e=>by
  obtain ⟨kc,Z⟩:=T.nodes.node x b D;rw [k _ _ Z] at e;rw [Z];exact e
 refine ⟨⟨λ x b D=> ?_,λ x y b hx hy=> ?_⟩,λ x=> ?_,λ x b D=> ?_,λ x b J D e=> ?_,λ x b J w v D e hv=> ?_,λ x b J D e=> ?_⟩
 ·rw [g] at D;obtain ⟨kc,Z⟩:=T.nodes.node x b D;exact ⟨kc,k _ _ Z⟩
 ·rw [g] at hx hy;exact T.nodes.inj x y b hx hy
 ·rw [g];exact T.dom x
 ·rw [g] at D;exact T.new x b D
 ·rw [g] at D;exact T.size x b J D (O x b J D e)
 ·rw [g] at D;exact T.refs x b J w v D (O x b J D e) hv
 ·rw [g] at D;exact T.nd x b J D (O x b J D e)
theorem q4e {H:Hp}:∀ {xs:List V} {ps:List (List Str)} {i:Nat} {x:V},q1s H xs ps ->xs[i]? =some x ->∃ p b,ps[i]? =some p/\x=V.ref b/\H b=some (.tup (p.map V.str))
 | _,_,i,x,.nil,h=>by simp at h
 | _,_,0,x,.cons ⟨b,e,hb⟩ _,h=>by
  simp at h
  subst h;exact ⟨_,b,zf,e,hb⟩
 | _,_,i+1,x,.cons _ r,h=>by
  obtain ⟨s,b,e,q⟩:=q4e (i:=i) (x:=x) r (by simpa using h);exact ⟨s,b,by simpa using e,q⟩
def qxy (K:PySem.W.Frag):Sp:=λ vs H Q _=>∃ (l:Addr) (xs:List V) (ss:List (List Str)),vs=[.ref l]/\SqL K H l xs/\qf3 K H xs ss/\ss.length<=20000/\(∀ s∈ss,s.length<=30/\endW∉s)/\
 ∀ p zs (R:List (List Str)) H',Same H H' ->H p=none ->H' p=some (.lst zs) ->q1s H' zs R ->Acc R ->(∀ x,Up R x↔Up ss x) ->Q (.ref p) H'
theorem qab (T:Txt K mg):Def P w K mg base 3 "thinned" ["sets"] (qxy K):=by
 refine T.qsw.ok q3q (λ vs H Q E h=> ?_) λ f cdv A outer s H vs Q E hr h=> ?_
 ·obtain ⟨l,xs,ss,rfl,_⟩:=h;rfl
 ·obtain ⟨l,xs,ss,rfl,hl,hx,l1,l2,k⟩:=h;refine ⟨_,(qvr
   (qy (i:=1) q3q.nd rfl (Or.inl rfl) (qp (qf4 T) hr rfl (pa_1 (pv 0))))
   (qy (i:=2) q3q.nd rfl (Or.inr rfl) q54)
   (qy (i:=3) q3q.nd rfl (Or.inl rfl) (q20 q2d))
   (q1m PassesOwn.never rfl (q19 K (qq (qio rfl K) rfl T.q2c q22 (pa_1 (pv 1)))) (qx (i:=4) q3q.nd rfl (Or.inl rfl)) (q3c
   (q9t (i:=5) q3q.nd rfl rfl (N:=["words","smaller"]) (caps:=[none,some 2]) rfl (by with_unfolding_all rfl) (q19 K (q4l (q2h hr) (pv 1) (pv 4) (λ _ _=>rfl))) (λ _ _ _ _ _=>(qx (i:=0) (show (["words","smaller"]:List Str).Nodup by decide+kernel) rfl (Or.inl rfl))) (λ _ _ _ _ _=>q97 (q2w (q3g (qp (qco T) hr rfl (pa_2 (pv 1) (pv 0)))))) (λ _ _ _ _ _=>(pv 0)))
   (q1m PassesOwn.never rfl (q19 K (pv 5)) (qx (i:=6) q3q.nd rfl (Or.inl rfl)) (qg (q2t (qp (qn5 T) hr rfl (pa_2 (pv 2) (pv 6))))))
   (q2t (q8o z0l z0e z0f q8p (pv 3) (pa_1 (pv 5))))))
   (qk (qq (qan hr.units K) rfl T.q2c q22 (pa_1 (pv 3))))),?_⟩
  refine ⟨_,zf,l,xs,ss,zf,hl,hx,l1,λ s hs=>z41 (l2 s hs).1 (by decide),λ d kvs ns U H1 s1 hd ed M hU nU lU=> ?_⟩;have a3:∀ u∈U,Norm u:=λ u J=>by
   obtain ⟨s,_,rfl⟩:=(hU u).mp J;exact q6t s
  have a2:∀ u∈U,u.length<=30:=λ u J=>by
   obtain ⟨s,hs,rfl⟩:=(hU u).mp J;exact z41 (qub s) (l2 s hs).1
  have d3:∀ u∈U,endW∉u:=λ u J=>by
   obtain ⟨s,hs,rfl⟩:=(hU u).mp J;exact λ z=>(l2 s hs).2 ((q56 s _).mp z)
  intro r b5;have t1:=qd (o:=HO.dK []) b5;refine ⟨by show 0<=sizeLine;decide,λ q hq=> ?_⟩;have t2:=qd (o:=HO.lst []) hq;have hqr:q≠r:=(qr qb hq).symm;have c7:H1 q=none:=t1.free hq;refine ⟨_,zf,d,kvs,ns,zf,t2 _ _ (t1 _ _ ed),M.keys,λ sl a8=> ?_⟩;have t3:=qd (o:=HO.lst ((Tim.srt q18 ns).map V.int)) a8;have d4:sl≠r:=(qr (t2 _ _ qb) a8).symm;have b6:sl≠q:=(qr qb a8).symm;have b8:(Tim.srt q18 ns).Pairwise λ a b=>q18 a b=true:=q5e q1u (Tim.q1r q1u _) ((Tim.qo q18 _).nodup_iff.mpr M.nd);have a6:∀ n,n∈Tim.srt q18 ns↔n∈ns:=λ n=>(Tim.qo q18 ns).mem_iff;have er:upd (upd (upd H1 r (.dK [])) q (.lst [])) sl (.lst ((Tim.srt q18 ns).map V.int)) r=some (.dK []):=(t2.trans t3) _ _ qb;have b9:upd (upd (upd H1 r (.dK [])) q (.lst [])) sl (.lst ((Tim.srt q18 ns).map V.int)) q=some (.lst []):=t3 _ _ qb;have b2:upd (upd (upd H1 r (.dK [])) q (.lst [])) sl (.lst ((Tim.srt q18 ns).map V.int)) sl=some (.lst ((Tim.srt q18 ns).map V.int)):=qb;have s2:Same H1 (upd (upd (upd H1 r (.dK [])) q (.lst [])) sl (.lst ((Tim.srt q18 ns).map V.int))):=t1.trans (t2.trans t3);generalize upd (upd (upd H1 r (.dK [])) q (.lst [])) sl (.lst ((Tim.srt q18 ns).map V.int))=G at*;generalize Tim.srt q18 ns=a4 at*;have P0:PathOk H1 G r (λ p=>p=[]) 0:=by
   have g:∀ p a,go G r p=some a ->p=[]/\a=r:=λ p a h=>by
    cases p with
    | nil=>exact ⟨rfl,(Option.some.inj h).symm⟩
    | cons w ws=>
     rw [q1k er] at h;cases h
   refine ⟨⟨λ p a h=> ?_,λ p q' a h1 h2=> ?_⟩,λ p=>⟨λ ⟨a,h⟩=>(g p a h).1,λ h=>⟨r,by rw [h];rfl⟩⟩,λ p a h=> ?_,λ p a kvs h e=> ?_,λ p a kvs w v h e hv=> ?_,λ p a kvs h e=> ?_⟩
   ·rw [(g p a h).2];exact ⟨[],er⟩
   ·rw [(g p a h1).1,(g q' a h2).1]
   ·rw [(g p a h).2];exact b5
   ·rw [(g p a h).2,er] at e;cases e
    exact z48 _
   ·rw [(g p a h).2,er] at e;cases e
    cases hv
   ·rw [(g p a h).2,er] at e;cases e
    exact ⟨[],zf,z3g⟩
  refine ⟨sl,rfl,⟨_,SqL.of b2⟩,q26 (xs:=a4.map V.int) (λ i σ H'=>∃ (v1 v2 v3:Option V) (zs:List V) (acc:List (List Str)) (S:List Str ->Prop) (n:Nat),σ=[some (.ref l),some (.ref d),some (.ref r),some (.ref q),v1,v2,v3]/\Same H1 H'/\H' q=some (.lst zs)/\H' sl=some (.lst (a4.map V.int))/\q1s H1 zs acc/\PathOk H1 H' r S n/\Paths acc S/\n<=acc.length*31/\ThI U a4 i acc)
   ⟨none,none,none,[],[],λ p=>p=[],0,rfl,s2,b9,b2,.nil,P0,⟨λ p=>by simp,λ _ z=>nomatch z⟩,z4b _,⟨(λ _ z=>nomatch z),(λ u J h=>by simp at h),(λ _ z=>nomatch z),z3g⟩⟩ (λ i σ H' _ z=>by obtain ⟨_,_,_,_,_,_,_,_,_,_,z,_⟩:=z;exact SqL.of z) ?_ ?_⟩
  ·rintro i x σ H2 hx ⟨v1,v2,v3,zs,acc,S,n,rfl,s3,eq,es,hz,T2,hP,hn,TI⟩;rw [z22] at hx;obtain ⟨m,hm,rfl⟩:=z0q.mp hx;have d1:m∈ns:=(a6 m).mp (z18 hm);obtain ⟨c,ys,hv,hc,hy,_⟩:=M.has m d1;have a5:∀ u∈acc,u∈U:=λ u J=>(TI.sub u J).1;have d5:acc.length<=U.length:=q5t TI.nd a5;have a7:=TI.step b8 hm nU a3;have a9:(acc++lst U acc m).length<=U.length:=q5t a7.nd λ u J=>(a7.sub u J).1;rw [z1o] at a9;have c5:mu acc []<=900000:=by
    have:=qzv (acc:=acc) (B:=30) λ u J=>a2 u (a5 u J);omega
   have dg:DGet H2 d (V.int m) (some (.ref c)):=by
    rw [<- hv];exact DGet.k (k:=Sum.inl m) (s3 _ _ ed)
   have ly:=Paired.length hy;refine ⟨_,zf,_,zf,d,_,zf,dg,c,zf,⟨_,SqL.of (s3 _ _ hc)⟩,λ D hD=> ?_⟩;have hD1:H1 D=none:=s3.free hD;have lsz:(szF U m).length<=U.length:=z10 _ _;refine q1x ys.length (λ j σ' H'=>(∃ v,σ'=[v,some (.ref r)])/\Same H2 H'/\∃ ws,H' D=some (.lst ws)/\q1s H1 ws (((szF U m).take j).filter λ u=> !decide (∃ q∈acc,∀ w∈q,w∈u))/\ws.length<=j) ⟨⟨_,rfl⟩,qd hD,[],qb,.nil,z48 _⟩ (λ j σ' H' hj p=> ?_) (λ σ' H' p=>⟨?_,?_⟩) (λ j σ' H' hj p x H3 y=> ?_)
   ·obtain ⟨_,sm,_⟩:=p;exact ⟨_,ys[j],SqL.of (sm _ _ (s3 _ _ hc)),z0d hj⟩
   ·obtain ⟨_,sm,_⟩:=p;exact ⟨_,SqL.of (sm _ _ (s3 _ _ hc)),z48 _⟩
   ·obtain ⟨_,sm,ws,eD,hw,lw⟩:=p;rw [ly,z2t] at hw;have hw:q1s H1 ws (lst U acc m):=hw;have b7:ws.length=(lst U acc m).length:=Paired.length hw;have T3:=T2.keep (H':=H') λ b kb e=>sm _ _ e;refine ⟨_,rfl,D,rfl,⟨_,SqL.of eD⟩,q26 (xs:=ws) (λ j σ G'=>∃ (v:Option V) (S':List Str ->Prop) (n':Nat),σ=[some (.ref l),some (.ref d),some (.ref r),some (.ref q),some (.int m),some (.ref D),v]/\Same H1 G'/\G' q=some (.lst zs)/\G' sl=some (.lst (a4.map V.int))/\G' D=some (.lst ws)/\PathOk H1 G' r S' n'/\Paths (acc++(lst U acc m).take j) S'/\n'<=(acc.length+j)*31)
     ⟨v3,S,n,rfl,s3.trans sm,sm _ _ eq,sm _ _ es,eD,T3,by rw [List.take_zero,z31];exact hP,hn⟩ (λ j σ H' _ z=>by obtain ⟨_,_,_,_,_,_,_,z,_⟩:=z;exact SqL.of z) ?_ ?_⟩
    ·rintro j x σ G1 hx ⟨v,S',n',rfl,g1,gq,gs,gD,T4,Z,b3⟩;obtain ⟨u,b,J,rfl,hb⟩:=q4e hw hx;have jl:j < (lst U acc m).length:=(z07.mp J).1;have c8:u∈lst U acc m:=z18 J;obtain ⟨uU,ul,un⟩:=q6f.mp c8;have lu:=a2 u uU;have c1:=g1 _ _ hb;have et:(lst U acc m).take (j+1)=(lst U acc m).take j++ [u]:=by rw [z3h,J];rfl
     have d2:(lst U acc m).Nodup:=(nU.filter _).filter _;refine ⟨_,rfl,_,rfl,restT G1 r,r,b,u,S',n',rfl,T4.other c1 (λ _ z=>nomatch z),qry _ _,T4.bas,by omega,?_,λ G2 S2 g2 T5 c0=> ?_⟩
     ·intro z;rcases (Z.dom _).mp z with z | ⟨q',a1,b4⟩
      ·simp at z
      ·have e:=qo2 b4 (Z.ne q' a1);subst e;rcases z2u.mp a1 with h | h
       ·exact un ⟨u,h,λ _ z=>z⟩
       ·obtain ⟨j',c4,e'⟩:=z1i h;rw [z2g] at c4;rw [z1z] at e';obtain ⟨_,eu⟩:=z07.mp J;exact (z08.mp d2) j' j (by omega) jl (by omega) (e'.trans eu.symm)
     ·obtain ⟨T6,g3⟩:=T4.back g1 g2 T5;have c6:n'+u.length+1<=(acc.length+(j+1))*31:=by omega
      refine ⟨_,S2,_,rfl,g3,g2 _ _ (T4.other gq (λ _ z=>nomatch z)),g2 _ _ (T4.other gs (λ _ z=>nomatch z)),g2 _ _ (T4.other gD (λ _ z=>nomatch z)),T6,⟨λ p=> ?_,λ q' a1=> ?_⟩,c6⟩
      ·rw [c0,Z.dom,et]
       constructor
       ·rintro ((h | ⟨q',h1,h2⟩) | h)
        ·exact .inl h
        ·refine .inr ⟨q',?_,h2⟩;rw [<- z1y];exact z2u.mpr (.inl h1)
        ·exact .inr ⟨u,by simp,h⟩
       ·rintro (h | ⟨q',h1,h2⟩)
        ·exact .inl (.inl h)
        ·rw [<- z1y] at h1;rcases z2u.mp h1 with h1 | h1
         ·exact .inl (.inr ⟨q',h1,h2⟩)
         ·rw [z1m.mp h1] at h2;exact .inr h2
      ·rw [et,<- z1y] at a1;rcases z2u.mp a1 with h1 | h1
       ·exact Z.ne q' h1
       ·rw [z1m.mp h1];exact d3 u uU
    ·rintro σ G1 ⟨v,S',n',rfl,g1,gq,gs,gD,T4,Z,b3⟩;rw [b7,z2t] at Z;have lz:=Paired.length hz;refine ⟨_,zf,.inl ⟨zf,_,SqL.of gq⟩,_,zf,q,D,_,_,zf,zf,gq,gD,z3y (q15 (by omega)),?_⟩;have kq:∀ b kb,G1 b=some (.dK kb) ->upd G1 q (.lst (zs++ws)) b=some (.dK kb):=λ b kb e=>by
      rw [qh (λ z=>by rw [z,gq] at e;cases e)];exact e
     exact ⟨_,_,_,_,acc++lst U acc m,S',n',rfl,g1.set c7,qb,by rw [qh b6];exact gs,q1t hz hw,T4.keep kq,Z,by rw [z1o,<- b7];exact b3,a7⟩
   ·obtain ⟨⟨v,rfl⟩,sm,ws,eD,hw,lw⟩:=p;obtain ⟨rfl,hx⟩:=y;have d0:=hx _ (SqL.of (sm _ _ (s3 _ _ hc)));obtain ⟨u,b,J,rfl,hb⟩:=q4e hy d0;have uU:u∈U:=(z2x.mp (z18 J)).1;have a0:((szF U m).take (j+1)).filter (λ u=> !decide (∃ q∈acc,∀ w∈q,w∈u))=((szF U m).take j).filter (λ u=> !decide (∃ q∈acc,∀ w∈q,w∈u))++(if (!decide (∃ q∈acc,∀ w∈q,w∈u))=true then [u] else []):=by
     rw [z3h,J,z1u]
     congr 1
     show List.filter _ [u]=_;rw [z2j,List.filter_nil]
    have T3:=T2.keep (H':=H3) λ b kb e=>sm _ _ e;refine ⟨_,zf,_,zf,H1,r,b,u,acc,S,n,zf,sm _ _ (s3 _ _ hb),T3,by omega,z41 (a2 u uU) (by decide),hP,c5,λ H4 s4=>⟨_,zf,ite2 (λ h1=> ?_) (λ h1=> ?_)⟩⟩
    ·refine ⟨_,rfl,_,s4 _ _ eD,q15 (by omega),⟨_,rfl⟩,(sm.trans s4).set hD,_,qb,?_,by rw [z1o];show _+1<=_;omega⟩;rw [a0,if_pos h1];exact q1t hw (.cons ⟨b,zf,hb⟩ .nil)
    ·refine ⟨⟨_,zf⟩,sm.trans s4,ws,s4 _ _ eD,?_,by omega⟩;rw [a0,if_neg h1,z31];exact hw
  ·rintro σ H2 ⟨v1,v2,v3,zs,acc,S,n,rfl,s3,eq,es,hz,T2,hP,hn,TI⟩;rw [z30] at TI;have cov:∀ u∈U,∃ q∈acc,∀ w∈q,w∈u:=λ u J=>TI.cov u J (by rw [z2t,a6];exact M.all u J);refine ⟨_,zf,q,zs,acc,zf,SqL.of eq,q1o (λ b ys e=>s3 b _ e) hz,λ p us hp c9=> ?_⟩;have s4:=qd (o:=HO.lst us) hp;have O:∀ x,x∈Tim.srt qz acc↔x∈acc:=λ x=>(Tim.qo qz acc).mem_iff;refine k p us (Tim.srt qz acc) _ (s1.trans (s3.trans s4)) (s1.free (s3.free hp)) qb (q1o (λ b ys e=>s4 b _ e) c9) ⟨q5e q2a (Tim.q1r q2a _) ((Tim.qo qz _).nodup_iff.mpr TI.nd),λ x hx=>a3 x (TI.sub x ((O x).mp hx)).1,λ x hx y hy h=>TI.anti x ((O x).mp hx) y ((O y).mp hy) h⟩ λ x=> ?_
   constructor
   ·rintro ⟨u,J,h⟩;obtain ⟨s,hs,rfl⟩:=(hU u).mp (TI.sub u ((O u).mp J)).1;exact ⟨s,hs,λ w hw=>h w ((q56 s w).mpr hw)⟩
   ·rintro ⟨s,hs,h⟩;obtain ⟨q',h1,h2⟩:=cov (uniq s) ((hU _).mpr ⟨s,hs,rfl⟩);exact ⟨q',(O q').mpr h1,λ w hw=>h w ((q56 s w).mp (h2 w hw))⟩
def qci (K:PySem.W.Frag) (H:Hp) (zs:List V) (C:List (List Str)):Prop:=Paired (λ x s=>∃ b,x=V.ref b/\SqT K H b (s.map V.str)) zs C
theorem qac {K:PySem.W.Frag} {H H':Hp} (k:∀ b xs,SqT K H b xs ->SqT K H' b xs):∀ {zs:List V} {C:List (List Str)},qci K H zs C ->qci K H' zs C
 | _,_,.nil=> .nil
 | _,_,.cons ⟨b,e,hb⟩ h=> .cons ⟨b,e,k _ _ hb⟩ (qac k h)
theorem qad {K:PySem.W.Frag} {H:Hp}:∀ {zs:List V} {C:List (List Str)},qci K H zs C ->qf3 K H zs C
 | _,_,.nil=> .nil
 | _,_,.cons ⟨b,e,hb⟩ h=> .cons ⟨b,e,.inr hb⟩ (qad h)
theorem qcj {K:PySem.W.Frag} {H:Hp} {t b:Addr} {zs ys xs:List V} (D:H t=some (.lst zs)) (h:SqT K H b xs):SqT K (upd H t (.lst ys)) b xs:=by
 rcases h with (h | ⟨o,h⟩) | h
 ·exact .inl (.inl (by rw [qh (λ z=>by rw [z,D] at h;cases h)];exact h))
 ·exact .inl (.inr ⟨o,by rw [qh (λ z=>by rw [z,D] at h;cases h)];exact h⟩)
 ·exact .inr h
def q5u (A B:List (List Str)):List (List Str):=A.flatMap λ a=>B.map λ b=>a++b
theorem qbs {A B:List (List Str)} {c:List Str}:c∈q5u A B↔∃ a∈A,∃ b∈B,c=a++b:=by
 unfold q5u;rw [List.mem_flatMap]
 constructor
 ·rintro ⟨a,ha,h⟩;obtain ⟨b,D,rfl⟩:=z45.mp h;exact ⟨a,ha,b,D,zf⟩
 ·rintro ⟨a,ha,b,D,rfl⟩;exact ⟨a,ha,z45.mpr ⟨b,D,zf⟩⟩
theorem qi4 (A B:List (List Str)):(q5u A B).length=A.length*B.length:=by
 unfold q5u
 induction A with
 | nil=>simp
 | cons a A ih=>
  rw [List.flatMap_cons,z1o,ih,z30,z2i,Nat.succ_mul];omega
theorem qpp (A B:List (List Str)) (a:List Str):q5u (A++ [a]) B=q5u A B++B.map λ b=>a++b:=by
 unfold q5u;rw [z1j];simp
theorem q2j {A B:List (List Str)} {x:List Str}:Up (q5u A B) x↔Up A x/\Up B x:=by
 constructor
 ·rintro ⟨c,hc,h⟩;obtain ⟨a,ha,b,D,rfl⟩:=qbs.mp hc;exact ⟨⟨a,ha,λ w hw=>h w (z2u.mpr (.inl hw))⟩,b,D,λ w hw=>h w (z2u.mpr (.inr hw))⟩
 ·rintro ⟨⟨a,ha,h1⟩,b,D,h2⟩;exact ⟨a++b,qbs.mpr ⟨a,ha,b,D,zf⟩,λ w hw=>(z2u.mp hw).elim (h1 w) (h2 w)⟩
def qs0 (K:PySem.W.Frag):Sp:=λ vs H Q _=>∃ (a b:Addr) (xs ys:List V) (A B:List (List Str)),vs=[.ref a,.ref b]/\SqL K H a xs/\SqL K H b ys/\q1s H xs A/\q1s H ys B/\A.length*B.length<=20000/\B.length<=20000/\(∀ r∈A,r.length<=15/\endW∉r)/\(∀ r∈B,r.length<=15/\endW∉r)/\
 ∀ p zs (R:List (List Str)) H',Same H H' ->H p=none ->H' p=some (.lst zs) ->q1s H' zs R ->Acc R ->(∀ x,Up R x↔Up A x/\Up B x) ->Q (.ref p) H'
theorem qs1 (T:Txt K mg):Def P w K mg base 4 "agreed" ["one","other"] (qs0 K):=by
 refine T.qv9.ok qbj (λ vs H Q E h=> ?_) λ f cdv A outer s H vs Q E hr h=> ?_
 ·obtain ⟨a,b,xs,ys,A,B,rfl,_⟩:=h;rfl
 ·obtain ⟨a,b,xs,ys,FA,FB,rfl,ha,hb,hA,hB,lA,lB,oA,oB,k⟩:=h;have lx:=Paired.length hA;have ly:=Paired.length hB;refine ⟨_,(q3c
   (qy (i:=2) qbj.nd rfl (Or.inl rfl) (q20 q2d))
   (q1m PassesOwn.never rfl (q19 K (pv 0)) (qx (i:=3) qbj.nd rfl (Or.inr rfl)) (qg (q2t (q8o z0l z0e z0f q8p (pv 2) (pa_1 (q29 (N:=["more_words","words"]) (caps:=[none,some 3]) rfl (by with_unfolding_all rfl) (q19 K (pv 1)) (λ _ _ _ _ _=>(qx (i:=0) (show (["more_words","words"]:List Str).Nodup by decide+kernel) rfl (Or.inl rfl))) (λ _ _ _ _ _=>q3v) (λ _ _ _ _ _=>(qm (qnu K) (pv 1) (pv 0)))))))))
   (qk (qp (qab T) hr rfl (pa_1 (pv 2))))),?_⟩
  refine ⟨by show 0<=sizeLine;decide,λ t ht=> ?_⟩;have s0:=qd (o:=HO.lst []) ht;refine ⟨_,zf,a,zf,⟨_,s0.seq ha⟩,q26 (xs:=xs) (λ i σ H'=>∃ (v:Option V) (zs:List V),σ=[some (.ref a),some (.ref b),some (.ref t),v]/\Same H H'/\H' t=some (.lst zs)/\qci K H' zs (q5u (FA.take i) FB))
   ⟨none,[],rfl,s0,qb,.nil⟩ (λ i σ H' _ z=>by obtain ⟨_,_,_,z,_⟩:=z;exact z.seq ha) ?_ ?_⟩
  ·rintro i x σ H1 hx ⟨v,zs,rfl,O,et,hz⟩;obtain ⟨wa,ba,a0,rfl,a3⟩:=q4e hA hx;have lz:=Paired.length hz;rw [qi4,z2g] at lz;have il:i < FA.length:=(z07.mp a0).1;have lz2:zs.length<=20000:=by rw [lz];exact z41 (z3j (by omega) (z48 _)) lA
   refine ⟨_,zf,.inl ⟨zf,_,SqL.of et⟩,_,zf,b,zf,⟨_,O.seq hb⟩,λ D hD=> ?_⟩;refine q1x ys.length (λ j σ' H'=>(∃ v,σ'=[v,some (.ref ba)])/\Same H1 H'/\∃ us,H' D=some (.lst us)/\(∀ H2,(∀ b xs,SqT K H' b xs ->SqT K H2 b xs) ->qci K H2 us ((FB.take j).map λ b=>wa++b))) ⟨⟨_,zf⟩,qd hD,[],qb,λ _ _=> .nil⟩ (λ j σ' H' hj p=> ?_) (λ σ' H' p=>⟨?_,?_⟩) (λ j σ' H' hj p x H3 y=> ?_)
   ·obtain ⟨_,J,_⟩:=p;exact ⟨_,ys[j],(O.trans J).seq hb,z0d hj⟩
   ·obtain ⟨_,J,_⟩:=p;exact ⟨_,(O.trans J).seq hb,z48 _⟩
   ·obtain ⟨_,J,us,eD,hu⟩:=p;have Z:=hu H' λ _ _ z=>z;have lu:=Paired.length Z;rw [z30,z2g] at lu;rw [ly,z2t] at hu;refine ⟨t,D,_,_,zf,zf,J _ _ et,eD,z3y (q15 (by omega)),?_⟩;have a2:FA.take (i+1)=FA.take i++ [wa]:=by rw [z3h,a0];rfl
    refine ⟨_,zs++us,zf,(O.trans J).set ht,qb,?_⟩;rw [a2,qpp];exact q1t (qac (λ b xs h=>qcj (J _ _ et) (J.seqT h)) hz) (hu _ λ b xs h=>qcj (J _ _ et) h)
   ·obtain ⟨⟨v,rfl⟩,J,us,eD,hu⟩:=p;obtain ⟨rfl,a6⟩:=y;have a5:=a6 _ ((O.trans J).seq hb);obtain ⟨wb,bb,a1,rfl,a4⟩:=q4e hB a5;have Z:=hu H3 λ _ _ z=>z;have lu:=Paired.length Z;rw [z30,z2g] at lu;have o1:=oA wa (z18 a0);have o2:=oB wb (z18 a1);refine ⟨_,rfl,_,rfl,_,_,_,_,rfl,rfl,SqT.of (J _ _ (O _ _ a3)),SqT.of (J _ _ (O _ _ a4)),z3y (q15 (by rw [z30,z30];omega)),λ p H4 s4 hp=> ?_⟩;rw [<- z36] at hp;refine ⟨_,s4 _ _ eD,q15 (by omega),⟨_,zf⟩,(J.trans s4).set hD,us++ [.ref p],qb,λ H5 h5=> ?_⟩;rw [z3h,a1,z36];exact q1t (hu H5 λ b xs h=>h5 b xs (qcj (s4 _ _ eD) (s4.seqT h))) (.cons ⟨p,zf,h5 _ _ (qcj (s4 _ _ eD) hp)⟩ .nil)
  ·rintro σ H1 ⟨v,zs,rfl,O,et,hz⟩;rw [lx,z2t] at hz;have lz:=Paired.length hz;refine ⟨_,rfl,t,zs,q5u FA FB,rfl,SqL.of et,qad hz,by rw [qi4];exact lA,λ c hc=> ?_,λ p us R H2 s2 hp ep hR aR uR=> ?_⟩
   ·obtain ⟨x,hx,y,hy,rfl⟩:=qbs.mp hc;have o1:=oA x hx;have o2:=oB y hy;refine ⟨by rw [z1o];omega,λ z=> ?_⟩;rcases z2u.mp z with z | z
    ·exact o1.2 z
    ·exact o2.2 z
   ·exact k p us R H2 (O.trans s2) (O.free hp) ep hR aR λ x=>by rw [uR,q2j]
theorem qs2 {R A B:List (List Str)} (hR:Acc R) (h:∀ x,Up R x↔Up A x/\Up B x):∀ r∈R,∃ a∈A,∃ b∈B,∀ w∈r,w∈a\/ w∈b:=λ r hr=>by
 obtain ⟨⟨a,ha,h1⟩,b,J,h2⟩:=(h r).mp ⟨r,hr,λ _ z=>z⟩;refine ⟨a,ha,b,J,?_⟩;obtain ⟨q,hq,D⟩:=(h (a++b)).mpr ⟨⟨a,ha,λ w hw=>z2u.mpr (.inl hw)⟩,b,J,λ w hw=>z2u.mpr (.inr hw)⟩;have e:=hR.anti q hq r hr λ w hw=>(z2u.mp (D w hw)).elim (h1 w) (h2 w);subst e;exact λ w hw=>z2u.mp (D w hw)
theorem qgp:∀ (W:List Str) (R:List (List Str)),R.Nodup ->(∀ r∈R,Norm r/\∀ w∈r,w∈W) ->R.length<=2^W.length
 | [],R,nd,h=>by
  have:∀ r∈R,r=[]:=λ r hr=>by
   cases r with
   | nil=>rfl
   | cons w r=>exact absurd ((h _ hr).2 w (z1p ..)) (by simp)
  exact q5t (v:=[[]]) nd λ r hr=>by rw [this r hr];simp
 | x::W,R,nd,h=>by
  have e:R.length=(R.filter λ r=>decide (x∈r)).length+(R.filter λ r=> !decide (x∈r)).length:=by
   induction R with
   | nil=>rfl
   | cons r R ih=>
    have:=ih (z32.mp nd).2 λ q hq=>h q (z16 _ hq);by_cases z:x∈r <;> simp [z] <;> omega
  have h0:(R.filter λ r=> !decide (x∈r)).length<=2^W.length:=qgp W _ (nd.filter _) λ r hr=>by
   obtain ⟨h1,h2⟩:=z2x.mp hr;refine ⟨(h r h1).1,λ w hw=> ?_⟩;rcases z3n.mp ((h r h1).2 w hw) with rfl | z
   ·exact absurd hw (by simpa using h2)
   ·exact z
  have h1:((R.filter λ r=>decide (x∈r)).map λ r=>r.filter λ w=>decide (w≠x)).length<=2^W.length:=by
   refine qgp W _ ?_ λ q hq=> ?_
   ·refine List.pairwise_map.mpr ((nd.filter _).imp_of_mem λ {a b} ha hb J e=>J ?_);obtain ⟨a1,a2⟩:=z2x.mp ha;obtain ⟨b1,b2⟩:=z2x.mp hb;have D:∀ (p q:List Str),x∈q ->(p.filter λ w=>decide (w≠x))=(q.filter λ w=>decide (w≠x)) ->∀ w∈p,w∈q:=λ p q hq e w hw=>by
     by_cases z:w=x
     ·rw [z];exact hq
     ·have:w∈p.filter λ w=>decide (w≠x):=z2x.mpr ⟨hw,z3c z⟩;rw [e] at this;exact (z2x.mp this).1
    exact qgo (h a a1).1 (h b b1).1 (D a b (of_decide_eq_true b2) e) (D b a (of_decide_eq_true a2) e.symm)
   ·obtain ⟨r,hr,rfl⟩:=z45.mp hq;obtain ⟨r1,_⟩:=z2x.mp hr;refine ⟨List.Pairwise.filter _ (h r r1).1,λ w hw=> ?_⟩;obtain ⟨w1,w2⟩:=z2x.mp hw;rcases z3n.mp ((h r r1).2 w w1) with z | z
    ·exact absurd z (of_decide_eq_true w2)
    ·exact z
  rw [z30] at h1;rw [z2i,Nat.pow_succ];omega
structure Of (n:Nat) (W:List Str) (R:List (List Str)):Prop where
 top:n<=10
 few:W.length<=n
 ne:endW∉W
 sub:∀ r∈R,∀ w∈r,w∈W
theorem Of.len {n:Nat} {W:List Str} {R:List (List Str)} (h:Of n W R) {r:List Str} (hr:r∈R) (nr:Norm r):r.length<=10/\endW∉r:=
 ⟨by have:=q5t (q4d q1j nr) (h.sub r hr);have:=h.few;have:=h.top;omega,λ z=>h.ne (h.sub r hr _ z)⟩
theorem Of.card {n:Nat} {W:List Str} {R:List (List Str)} (h:Of n W R) (a:Acc R):R.length<=2^n:=by
 have h1:=qgp W R (q4d q2a a.srt) λ r hr=>⟨a.norm r hr,h.sub r hr⟩;exact z41 h1 (Nat.pow_le_pow_right (by decide) h.few)
theorem Of.cards {n:Nat} {W:List Str} {R:List (List Str)} (h:Of n W R) (a:Acc R):R.length<=1024:=
 z41 (h.card a) (z41 (Nat.pow_le_pow_right (by decide) h.top) (by decide))
theorem qo3 (a b:Str):eqV (.str a) (.str b)=decide (a=b):=by
 show (a==b)=_;by_cases h:a=b <;> simp [h]
theorem qlj (x:Str) (ws:List Str):inV (.str x) (ws.map V.str)=decide (x∈ws):=by
 unfold inV;rw [z2z,z2p,decide_eq_true_iff]
 constructor
 ·rintro ⟨y,hy,h⟩;obtain ⟨z,hz,rfl⟩:=z45.mp hy;rw [qo3] at h;have:=of_decide_eq_true h;exact this ▸ hz
 ·intro h;exact ⟨.str x,z45.mpr ⟨x,h,rfl⟩,by rw [qo3];simp⟩
theorem qi5 (ws:List Str):(ws.map V.str).all q7h=true:=by
 rw [z2n];intro x hx;obtain ⟨z,_,rfl⟩:=z45.mp hx;rfl
def qs3:Sp:=λ vs H Q _=>∃ (a b:Addr) (r q:List Str),vs=[.ref a,.ref b]/\H a=some (.tup (r.map V.str))/\H b=some (.tup (q.map V.str))/\Q (.bl (decide (∀ x∈r,x∈q))) H
theorem q9b (T:Txt K mg):Def P w K mg base 1 "_law_within" ["_law_one","_law_other"] qs3:=by
 refine T.qjb.ok q99 (λ vs H Q E h=> ?_) λ f cdv A outer s H vs Q E hr h=> ?_
 ·obtain ⟨a,b,r,q,rfl,_⟩:=h;rfl
 ·obtain ⟨a,b,r,q,rfl,ha,hb,k⟩:=h;refine ⟨_,(q2z
   (q1m PassesOwn.never rfl (q7m K (pv 0)) (qx (i:=2) q99.nd rfl (Or.inl rfl)) (qg (q1c (q12 (qr4 K) (pv 2) (pv 1) (by with_unfolding_all rfl)) (qg (qk q2v)) q14)))
   (qk q2v)),?_⟩
  refine ⟨_,rfl,a,rfl,⟨_,SqT.of ha⟩,qca (xs:=r.map V.str) (λ i σ H'=>H'=H/\(∃ v,σ=[some (.ref a),some (.ref b),v])/\∀ x∈r.take i,x∈q) ⟨rfl,⟨_,rfl⟩,λ x hx=>by simp at hx⟩ (λ i σ H' _ z=>by rw [z.1];exact SqT.of ha) ?_ ?_⟩
  ·rintro i x σ H1 hx ⟨rfl,⟨v,rfl⟩,D⟩;rw [z22] at hx;obtain ⟨z,hz,rfl⟩:=z0q.mp hx;refine ⟨_,zf,_,zf,b,_,zf,.inr (SqT.of hb),zf,qi5 q,_,zf,?_⟩;rw [qlj];refine ite2 (λ h1=> ?_) (λ h1=> ?_)
   ·have hn:z∉q:=by simpa using h1
    rw [z2w (λ y=>hn (y z (z18 hz)))] at k;exact k
   ·have hn:z∈q:=by simpa using h1
    refine ⟨zf,⟨_,zf⟩,λ y hy=> ?_⟩;rw [z3h,hz] at hy;rcases z2u.mp hy with hy | hy
    ·exact D y hy
    ·rw [show y=z by simpa using hy];exact hn
  ·rintro σ H1 ⟨rfl,⟨v,rfl⟩,D⟩;rw [z30,z2t] at D;rw [z3c D] at k;exact k
theorem q5v {A B:List (List Str)} {x:List Str}:Up (A++B) x↔Up A x\/ Up B x:=by
 constructor
 ·rintro ⟨a,ha,h⟩;rcases z2u.mp ha with ha | ha
  ·exact .inl ⟨a,ha,h⟩
  ·exact .inr ⟨a,ha,h⟩
 ·rintro (⟨a,ha,h⟩ | ⟨a,ha,h⟩)
  ·exact ⟨a,z2u.mpr (.inl ha),h⟩
  ·exact ⟨a,z2u.mpr (.inr ha),h⟩
theorem qf6 {R S:List (List Str)} (hR:Acc R) (h:∀ x,Up R x↔Up S x):∀ r∈R,∃ s∈S,∀ w∈r,w∈s:=λ r hr=>by
 obtain ⟨s,D,h1⟩:=(h r).mp ⟨r,hr,λ _ z=>z⟩;obtain ⟨q,hq,h2⟩:=(h s).mpr ⟨s,D,λ _ z=>z⟩;have e:=hR.anti q hq r hr λ w hw=>h1 w (h2 w hw);subst e;exact ⟨s,D,h2⟩
theorem Of.agr {n:Nat} {W:List Str} {A B C:List (List Str)} (a:Of n W A) (b:Of n W B) (hC:Acc C) (h:∀ x,Up C x↔Up A x/\Up B x):Of n W C:=⟨a.top,a.few,a.ne,λ r hr w hw=>by
 obtain ⟨x,hx,y,hy,z⟩:=qs2 hC h r hr;exact (z w hw).elim (a.sub x hx w) (b.sub y hy w)⟩
theorem Of.thin {n:Nat} {W:List Str} {A B C:List (List Str)} (a:Of n W A) (b:Of n W B) (hC:Acc C) (h:∀ x,Up C x↔Up (A++B) x):Of n W C:=⟨a.top,a.few,a.ne,λ r hr w hw=>by
 obtain ⟨x,hx,z⟩:=qf6 hC h r hr;exact (z2u.mp hx).elim (λ q=>a.sub x q w (z w hw)) (λ q=>b.sub x q w (z w hw))⟩
structure AcV (n:Nat) (W:List Str) (H:Hp) (o:Addr) (zs:List V) (R:List (List Str)):Prop where
 lst:H o=some (.lst zs)
 tup:q1s H zs R
 acc:Acc R
 of:Of n W R
theorem qi6 {K:PySem.W.Frag} {H:Hp}:∀ {zs:List V} {C:List (List Str)},q1s H zs C ->qf3 K H zs C
 | _,_,.nil=> .nil
 | _,_,.cons ⟨b,e,hb⟩ h=> .cons ⟨b,e,.inr (SqT.of hb)⟩ (qi6 h)
def dR (r:List Str):PyData:= .tuple (r.map .str)
theorem qs4 {K:PySem.W.Frag} {H:Hp}:∀ {r:List Str},(∀ w∈r,PyData.strOk w=true) ->Dats K H (r.map .str) (r.map V.str)
 | [],_=> .nil
 | w::r,h=> .cons (.str w (h w (z1p ..))) (qs4 λ x hx=>h x (z16 _ hx))
theorem qlk {K:PySem.W.Frag} {H:Hp}:∀ {zs:List V} {R:List (List Str)},q1s H zs R ->(∀ r∈R,∀ w∈r,PyData.strOk w=true) ->Dats K H (R.map dR) zs
 | _,_,.nil,_=> .nil
 | _,_,.cons ⟨b,e,hb⟩ t,h=>by
  rw [e];exact .cons (.tup (SqT.of hb) (qs4 (h _ (z1p ..)))) (qlk t λ r hr=>h r (z16 _ hr))
theorem qxz (r:List Str):PyData.depthAll (r.map .str)=0:=by
 induction r with
 | nil=>rfl
 | cons x p ih=>
  show max (PyData.depth (.str x)) (PyData.depthAll (p.map .str))=0;rw [ih];rfl
theorem qo4 (R:List (List Str)):PyData.depthAll (R.map dR)<=1:=by
 induction R with
 | nil=>exact z4b _
 | cons r R ih=>
  show max (PyData.depth (dR r)) (PyData.depthAll (R.map dR))<=1;refine Nat.max_le.mpr ⟨?_,ih⟩;show PyData.depthAll (r.map .str)+1<=1;rw [qxz];exact z48 _
def addN:V ->V ->V
 | .int i,.int j=> .int (i+j)
 | _,_=> .non
def minN:V ->V ->V
 | .non,y=>y
 | x,.non=>x
 | .int i,.int j=> .int (if j < i then j else i)
 | x,_=>x
def IsN (x:V):Prop:=x= .non\/ ∃ i,x= .int i
def sp_k (v:V):Sp:=λ vs H Q _=>∃ p:Addr,vs=[.ref p]/\Q v H
def qpq (f:Int ->Int ->Int):Sp:=λ vs H Q _=>∃ (p:Addr) (i j:Int),vs=[.ref p,.int i,.int j]/\Q (.int (f i j)) H
def qzw:Sp:=λ vs H Q _=>∃ (p:Addr) (i j:Int),vs=[.ref p,.int i,.int j]/\qvt i j/\Q (.int (i*j)) H
def qvu (f:V ->V ->V):Sp:=λ vs H Q _=>∃ (p:Addr) (x y:V),vs=[.ref p,x,y]/\IsN x/\IsN y/\Q (f x y) H
def qvv (f:Bool ->Bool ->Bool):Sp:=λ vs H Q _=>∃ (p:Addr) (x y:Bool),vs=[.ref p,.bl x,.bl y]/\Q (.bl (f x y)) H
theorem qe0 (T:Txt K mg):MDef P w K mg base 1 (cA mg "Counts") "nought" ["self"] (sp_k (.int 0)):=by
 refine T.qfk.ok qdp (λ vs H Q E h=> ?_) λ f cdv A outer s H vs Q E hr h=> ?_
 ·obtain ⟨p,rfl,_⟩:=h;rfl
 ·obtain ⟨p,rfl,q⟩:=h;exact ⟨_,(qg (qk qf)),q⟩
theorem qgq (T:Txt K mg):MDef P w K mg base 1 (cA mg "Counts") "unit" ["self"] (sp_k (.int 1)):=by
 refine T.qjj.ok qgb (λ vs H Q E h=> ?_) λ f cdv A outer s H vs Q E hr h=> ?_
 ·obtain ⟨p,rfl,_⟩:=h;rfl
 ·obtain ⟨p,rfl,q⟩:=h;exact ⟨_,(qg (qk qf)),q⟩
theorem qe1 (T:Txt K mg):MDef P w K mg base 1 (cA mg "Counts") "either" ["self","one","other"] (qpq (· + ·)):=by
 refine T.qfp.ok qdq (λ vs H Q E h=> ?_) λ f cdv A outer s H vs Q E hr h=> ?_
 ·obtain ⟨p,i,j,rfl,_⟩:=h;rfl
 ·obtain ⟨p,i,j,rfl,q⟩:=h;exact ⟨_,(qg (qk (qm q1n (pv 1) (pv 2)))),⟨_,zf,_,zf,_,_,zf,zf,q⟩⟩
theorem qgr (T:Txt K mg):MDef P w K mg base 1 (cA mg "Counts") "both" ["self","one","other"] qzw:=by
 refine T.qjn.ok qgc (λ vs H Q E h=> ?_) λ f cdv A outer s H vs Q E hr h=> ?_
 ·obtain ⟨p,i,j,rfl,_⟩:=h;rfl
 ·obtain ⟨p,i,j,rfl,b,q⟩:=h;exact ⟨_,(qg (qk (qm qg2 (pv 1) (pv 2)))),⟨_,zf,_,zf,_,_,zf,zf,b,q⟩⟩
theorem qf7 (T:Txt K mg):MDef P w K mg base 1 (cA mg "Costs") "nought" ["self"] (sp_k .non):=by
 refine T.qhc.ok qev (λ vs H Q E h=> ?_) λ f cdv A outer s H vs Q E hr h=> ?_
 ·obtain ⟨p,rfl,_⟩:=h;rfl
 ·obtain ⟨p,rfl,q⟩:=h;exact ⟨_,(qg (qk q4t)),q⟩
theorem qiz (T:Txt K mg):MDef P w K mg base 1 (cA mg "Costs") "unit" ["self"] (sp_k (.int 0)):=by
 refine T.qm9.ok qiq (λ vs H Q E h=> ?_) λ f cdv A outer s H vs Q E hr h=> ?_
 ·obtain ⟨p,rfl,_⟩:=h;rfl
 ·obtain ⟨p,rfl,q⟩:=h;exact ⟨_,(qg (qk qf)),q⟩
theorem qf8 (T:Txt K mg):MDef P w K mg base 1 (cA mg "Costs") "either" ["self","one","other"] (qvu minN):=by
 refine T.qhd.ok qew (λ vs H Q E h=> ?_) λ f cdv A outer s H vs Q E hr h=> ?_
 ·obtain ⟨p,x,y,rfl,_⟩:=h;rfl
 ·obtain ⟨p,x,y,rfl,hx,hy,q⟩:=h;refine ⟨_,(q3c
   (q1c (q12 q7t (pv 1) q4t (q13 _)) (qg (qk (pv 2))) q14)
   (q1c (q12 q7t (pv 2) q4t (q13 _)) (qg (qk (pv 1))) q14)
   (qk (qq (qb4 rfl) rfl T.b_min qkt (pa_2 (pv 1) (pv 2))))),?_⟩
  rcases hx with rfl | ⟨i,rfl⟩
  ·exact ⟨_,zf,zf,_,zf,q1w rfl ⟨_,zf,q⟩⟩
  ·rcases hy with rfl | ⟨j,rfl⟩
   ·exact ⟨_,zf,zf,_,zf,qu rfl ⟨_,zf,zf,_,zf,q1w rfl ⟨_,zf,q⟩⟩⟩
   ·exact ⟨_,zf,zf,_,zf,qu rfl ⟨_,zf,zf,_,zf,qu rfl ⟨_,zf,_,zf,_,_,zf,q⟩⟩⟩
theorem qj0 (T:Txt K mg):MDef P w K mg base 1 (cA mg "Costs") "both" ["self","one","other"] (qvu addN):=by
 refine T.qmg.ok qir (λ vs H Q E h=> ?_) λ f cdv A outer s H vs Q E hr h=> ?_
 ·obtain ⟨p,x,y,rfl,_⟩:=h;rfl
 ·obtain ⟨p,x,y,rfl,hx,hy,q⟩:=h;refine ⟨_,(q2z
   (q1c (PW.pt (q9n (q12 q7t (pv 1) q4t (q13 _)) (q7r (q12 q7t (pv 2) q4t (q13 _))))) (qg (qk q4t)) q14)
   (qk (qm q1n (pv 1) (pv 2)))),?_⟩
  rcases hx with rfl | ⟨i,rfl⟩
  ·exact ⟨_,zf,zf,_,zf,q1w rfl q⟩
  ·rcases hy with rfl | ⟨j,rfl⟩
   ·exact ⟨_,zf,zf,_,zf,qu rfl ⟨_,zf,zf,_,zf,q1w rfl q⟩⟩
   ·exact ⟨_,zf,zf,_,zf,qu rfl ⟨_,zf,zf,_,zf,qu rfl ⟨_,zf,_,zf,_,_,zf,zf,q⟩⟩⟩
def quc (C:Addr):Sp:=λ vs H Q _=>∃ (p dx:Addr) (v:V),vs=[.ref p,v]/\H p=some (.ins C dx [])/\Q .non (upd H p (.ins C dx [("top",v)]))
theorem q9c (T:Txt K mg):IDef P w K mg base 1 (cA mg "Trusts") "top" (.int 100) (quc (cA mg "Trusts")):=by
 refine T.qjo.ok qgd (λ vs H Q E h=> ?_) λ f cdv A outer s H vs Q E hr h=> ?_
 ·obtain ⟨p,dx,v,rfl,_⟩:=h;rfl
 ·obtain ⟨p,dx,v,rfl,hp,q⟩:=h;exact ⟨_,(qg (qqp (pv 0) (pv 1) rfl)),⟨_,rfl,_,rfl,p,_,dx,_,rfl,hp,T.q8w,T.q8j,(by show 0 < 1000;decide),q⟩⟩
theorem qe2 (T:Txt K mg):MDef P w K mg base 1 (cA mg "Trusts") "nought" ["self"] (sp_k (.int 0)):=by
 refine T.qfl.ok qdr (λ vs H Q E h=> ?_) λ f cdv A outer s H vs Q E hr h=> ?_
 ·obtain ⟨p,rfl,_⟩:=h;rfl
 ·obtain ⟨p,rfl,q⟩:=h;exact ⟨_,(qg (qk qf)),q⟩
def qud (C:Addr):Sp:=λ vs H Q _=>∃ (p dx:Addr) (v:V),vs=[.ref p]/\H p=some (.ins C dx [("top",v)])/\Q v H
theorem qgs (T:Txt K mg):MDef P w K mg base 1 (cA mg "Trusts") "unit" ["self"] (qud (cA mg "Trusts")):=by
 refine T.qjc.ok qgf (λ vs H Q E h=> ?_) λ f cdv A outer s H vs Q E hr h=> ?_
 ·obtain ⟨p,dx,v,rfl,_⟩:=h;rfl
 ·obtain ⟨p,dx,v,rfl,hp,q⟩:=h;exact ⟨_,(qg (qk (qb6 (pv 0) rfl))),⟨_,zf,p,_,dx,_,v,zf,hp,T.q8w,T.q8j,zf,q⟩⟩
theorem qe3 (T:Txt K mg):MDef P w K mg base 1 (cA mg "Trusts") "either" ["self","one","other"] (qpq λ i j=>if j > i then j else i):=by
 refine T.qfq.ok qds (λ vs H Q E h=> ?_) λ f cdv A outer s H vs Q E hr h=> ?_
 ·obtain ⟨p,i,j,rfl,_⟩:=h;rfl
 ·obtain ⟨p,i,j,rfl,q⟩:=h;exact ⟨_,(qg (qk (qq (qql rfl) rfl T.b_max qzc (pa_2 (pv 1) (pv 2))))),⟨_,zf,_,zf,_,_,zf,q⟩⟩
theorem qgt (T:Txt K mg):MDef P w K mg base 1 (cA mg "Trusts") "both" ["self","one","other"] (qpq λ i j=>if j < i then j else i):=by
 refine T.qjf.ok qgg (λ vs H Q E h=> ?_) λ f cdv A outer s H vs Q E hr h=> ?_
 ·obtain ⟨p,i,j,rfl,_⟩:=h;rfl
 ·obtain ⟨p,i,j,rfl,q⟩:=h;exact ⟨_,(qg (qk (qq (qb4 rfl) rfl T.b_min qkt (pa_2 (pv 1) (pv 2))))),⟨_,zf,_,zf,_,_,zf,q⟩⟩
theorem qe4 (T:Txt K mg):MDef P w K mg base 1 (cA mg "Truths") "nought" ["self"] (sp_k (.bl false)):=by
 refine T.qfn.ok qdt (λ vs H Q E h=> ?_) λ f cdv A outer s H vs Q E hr h=> ?_
 ·obtain ⟨p,rfl,_⟩:=h;rfl
 ·obtain ⟨p,rfl,q⟩:=h;exact ⟨_,(qg (qk q2v)),q⟩
theorem qgu (T:Txt K mg):MDef P w K mg base 1 (cA mg "Truths") "unit" ["self"] (sp_k (.bl true)):=by
 refine T.qji.ok qgi (λ vs H Q E h=> ?_) λ f cdv A outer s H vs Q E hr h=> ?_
 ·obtain ⟨p,rfl,_⟩:=h;rfl
 ·obtain ⟨p,rfl,q⟩:=h;exact ⟨_,(qg (qk q2v)),q⟩
theorem qe5 (T:Txt K mg):MDef P w K mg base 1 (cA mg "Truths") "either" ["self","one","other"] (qvv (· || ·)):=by
 refine T.qfs.ok qdu (λ vs H Q E h=> ?_) λ f cdv A outer s H vs Q E hr h=> ?_
 ·obtain ⟨p,i,j,rfl,_⟩:=h;rfl
 ·obtain ⟨p,i,j,rfl,q⟩:=h;refine ⟨_,(qg (qk (qvg (pv 1) (q5j (pv 2))))),⟨_,zf,_,zf,?_⟩⟩;cases i with
  | true=>exact iteT q
  | false=>exact iteF ⟨_,rfl,q⟩
theorem qgv (T:Txt K mg):MDef P w K mg base 1 (cA mg "Truths") "both" ["self","one","other"] (qvv (· && ·)):=by
 refine T.qjl.ok qgj (λ vs H Q E h=> ?_) λ f cdv A outer s H vs Q E hr h=> ?_
 ·obtain ⟨p,i,j,rfl,_⟩:=h;rfl
 ·obtain ⟨p,i,j,rfl,q⟩:=h;refine ⟨_,(qg (qk (q7s (pv 1) (q5j (pv 2))))),⟨_,zf,_,zf,?_⟩⟩;cases i with
  | true=>exact iteT ⟨_,rfl,q⟩
  | false=>exact iteF q
def q1b (m:Int) (ns:List Int):List Int:=(Tim.srt q18 ns).take m.toNat
def sums (a b:List Int):List Int:=a.flatMap λ x=>b.map λ y=>x+y
theorem que (a b:List Int):(sums a b).length=a.length*b.length:=by
 unfold sums
 induction a with
 | nil=>simp
 | cons x a ih=>rw [List.flatMap_cons,z1o,ih,z30,z2i,Nat.succ_mul,Nat.add_comm]
theorem qe6 (xs:List V) {m:Int} (h:0<=m):cutV xs none (some m)=xs.take m.toNat:=by
 obtain ⟨n,rfl⟩:=z0m h;unfold cutV;rw [HT.sIx_nat,HT.sIx_none,List.drop_zero];show xs.take (min n xs.length - 0)=xs.take n;rw [Nat.sub_zero,<- List.take_eq_take_min]
def BeAt (mg:Str ->Option Value) (H:Hp) (p:Addr) (m:Int):Prop:=∃ dx,H p=some (.ins (cA mg "Bests") dx [("most",.int m)])
theorem BeAt.same {mg:Str ->Option Value} {H H':Hp} {p:Addr} {m:Int} (h:BeAt mg H p m) (s:Same H H'):BeAt mg H' p m:=by
 obtain ⟨dx,e⟩:=h;exact ⟨dx,s _ _ e⟩
def quf (C:Addr):Sp:=λ vs H Q _=>∃ (p dx:Addr) (v:V),vs=[.ref p,v]/\H p=some (.ins C dx [])/\Q .non (upd H p (.ins C dx [("most",v)]))
theorem qap (T:Txt K mg):IDef P w K mg base 1 (cA mg "Bests") "many" (.int 3) (quf (cA mg "Bests")):=by
 refine T.qml.ok qis (λ vs H Q E h=> ?_) λ f cdv A outer s H vs Q E hr h=> ?_
 ·obtain ⟨p,dx,v,rfl,_⟩:=h;rfl
 ·obtain ⟨p,dx,v,rfl,hp,q⟩:=h;exact ⟨_,(qg (qqp (pv 0) (pv 1) rfl)),⟨_,rfl,_,rfl,p,_,dx,_,rfl,hp,T.q4i,T.q60,(by show 0 < 1000;decide),q⟩⟩
def qug (mg:Str ->Option Value):Sp:=λ vs H Q _=>∃ (p b:Addr) (m:Int) (ns:List Int),vs=[.ref p,.ref b]/\BeAt mg H p m/\0<=m/\H b=some (.lst (ns.map V.int))/\∀ l H',Same H H' ->H l=none ->H' l=some (.lst ((q1b m ns).map V.int)) ->Q (.ref l) H'
theorem q43 (T:Txt K mg):MDef P w K mg base 1 (cA mg "Bests") "least_ones" ["self","numbers"] (qug mg):=by
 refine T.qc5.ok qar (λ vs H Q E h=> ?_) λ f cdv A outer s H vs Q E hr h=> ?_
 ·obtain ⟨p,b,m,ns,rfl,_⟩:=h;rfl
 ·obtain ⟨p,b,m,ns,rfl,⟨dx,hp⟩,m0,hb,q⟩:=h;refine ⟨_,(qg (qk (q45 (q55 K) (qq (q7z K) rfl T.q2c q22 (pa_1 (pv 1))) q7k (q3z (qb6 (pv 0) rfl))))),?_⟩;refine ⟨_,zf,b,ns,zf,.inl (SqL.of hb),λ l hl=> ?_⟩;have J:=qd (o:=HO.lst ((Tim.srt q18 ns).map V.int)) hl;refine ⟨_,zf,p,_,dx,_,_,zf,J _ _ hp,T.q4i,T.q60,zf,_,zf,_,_,zf,SqL.of qb,λ l2 D=> ?_⟩;rw [qe6 _ m0,<- List.map_take];exact q l2 _ (J.trans (qd D)) (J.free D) qb
def qpr:Sp:=λ vs H Q _=>∃ p:Addr,vs=[.ref p]/\∀ l,H l=none ->Q (.ref l) (upd H l (.lst []))
theorem qf9 (T:Txt K mg):MDef P w K mg base 1 (cA mg "Bests") "nought" ["self"] qpr:=by
 refine T.qh8.ok qex (λ vs H Q E h=> ?_) λ f cdv A outer s H vs Q E hr h=> ?_
 ·obtain ⟨p,rfl,_⟩:=h;rfl
 ·obtain ⟨p,rfl,q⟩:=h;exact ⟨_,(qg (qk (q20 q2d))),⟨by decide,q⟩⟩
def quh:Sp:=λ vs H Q _=>∃ p:Addr,vs=[.ref p]/\∀ l,H l=none ->Q (.ref l) (upd H l (.lst [.int 0]))
theorem qj1 (T:Txt K mg):MDef P w K mg base 1 (cA mg "Bests") "unit" ["self"] quh:=by
 refine T.qmj.ok qiu (λ vs H Q E h=> ?_) λ f cdv A outer s H vs Q E hr h=> ?_
 ·obtain ⟨p,rfl,_⟩:=h;rfl
 ·obtain ⟨p,rfl,q⟩:=h;exact ⟨_,(qg (qk (q20 (pa_1 qf)))),⟨by show 1<=sizeLine;decide,q⟩⟩
def qs5 (mg:Str ->Option Value) (g:List Int ->List Int ->List Int):Sp:=λ vs H Q _=>∃ (p a b:Addr) (m:Int) (xs ys:List Int),vs=[.ref p,.ref a,.ref b]/\BeAt mg H p m/\0<=m/\H a=some (.lst (xs.map V.int))/\H b=some (.lst (ys.map V.int))/\xs.length<=20/\ys.length<=20/\
 ∀ l H',Same H H' ->H l=none ->H' l=some (.lst ((q1b m (g xs ys)).map V.int)) ->Q (.ref l) H'
theorem qfa (T:Txt K mg):MDef P w K mg base 2 (cA mg "Bests") "either" ["self","one","other"] (qs5 mg (· ++ ·)):=by
 refine T.qha.ok qey (λ vs H Q E h=> ?_) λ f cdv A outer s H vs Q E hr h=> ?_
 ·obtain ⟨p,a,b,m,xs,ys,rfl,_⟩:=h;rfl
 ·obtain ⟨p,a,b,m,xs,ys,rfl,O,m0,ha,hb,lx,ly,q⟩:=h;refine ⟨_,(qg (qk (qg4 (q43 T) T.q4i hr (pv 0) (pa_1 (qm qen (pv 1) (pv 2)))))),?_⟩;obtain ⟨dx,D⟩:=id O;refine ⟨_,rfl,p,dx,_,rfl,D,rfl,_,rfl,_,rfl,a,b,_,_,rfl,rfl,ha,hb,by rw [z30,z30];exact z3y (q1v (by omega)),λ c hc=> ?_⟩;have J:=qd (o:=HO.lst (xs.map V.int++ys.map V.int)) hc;exact ⟨p,c,m,xs++ys,zf,O.same J,m0,by rw [qb,z36],λ l H' s' hl e=>q l H' (J.trans s') (J.free hl) e⟩
theorem qj2 (T:Txt K mg):MDef P w K mg base 2 (cA mg "Bests") "both" ["self","one","other"] (qs5 mg sums):=by
 refine T.qma.ok q7b (λ vs H Q E h=> ?_) λ f cdv A outer s H vs Q E hr h=> ?_
 ·obtain ⟨p,a,b,m,xs,ys,rfl,_⟩:=h;rfl
 ·obtain ⟨p,a,b,m,xs,ys,rfl,hp,m0,ha,hb,lx,ly,q⟩:=h;refine ⟨_,(q3c
   (qy (i:=3) q7b.nd rfl (Or.inl rfl) (q20 q2d))
   (q1m PassesOwn.never rfl (q19 K (pv 1)) (qx (i:=4) q7b.nd rfl (Or.inr rfl)) (qg (q2t (q8o z0l z0e z0f q8p (pv 3) (pa_1 (q29 (N:=["more","number"]) (caps:=[none,some 4]) rfl (by with_unfolding_all rfl) (q19 K (pv 2)) (λ _ _ _ _ _=>(qx (i:=0) (show (["more","number"]:List Str).Nodup by decide+kernel) rfl (Or.inl rfl))) (λ _ _ _ _ _=>q3v) (λ _ _ _ _ _=>(qm q1n (pv 1) (pv 0)))))))))
   (qk (qg4 (q43 T) T.q4i hr (pv 0) (pa_1 (pv 3))))),?_⟩
  refine ⟨by decide,λ S hS=> ?_⟩;refine ⟨_,rfl,a,rfl,⟨_,SqL.of (qd hS _ _ ha)⟩,q26 (xs:=xs.map V.int) (λ i σ H'=>∃ v:Option V,σ=[some (.ref p),some (.ref a),some (.ref b),some (.ref S),v]/\Same H H'/\H' S=some (.lst ((sums (xs.take i) ys).map V.int))) ⟨none,rfl,qd hS,qb⟩ (λ i σ H' _ z=>by obtain ⟨_,_,z,_⟩:=z;exact SqL.of (z _ _ ha)) ?_ ?_⟩
  ·rintro i x σ H' hx ⟨v,rfl,Z,h1⟩;rw [z22] at hx;obtain ⟨n,a0,rfl⟩:=z0q.mp hx;have il:i < xs.length:=(z07.mp a0).1;have J:=Z _ _ hb;refine ⟨_,zf,.inl ⟨zf,_,SqL.of h1⟩,_,zf,b,zf,⟨_,SqL.of J⟩,λ D hD=> ?_⟩;refine q1x (ys.map V.int).length (λ i σ' G=>(∃ v,σ'=[v,some (.int n)])/\Same H' G/\G D=some (.lst (((ys.take i).map λ y=>n+y).map V.int))) ⟨⟨_,zf⟩,qd hD,qb⟩ (λ i σ' G hi p=> ?_) (λ σ' G p=>⟨?_,?_⟩) (λ i σ' G hi p x H2 y=> ?_)
   ·obtain ⟨_,O,_⟩:=p;exact ⟨_,_,SqL.of (O _ _ J),z0d hi⟩
   ·obtain ⟨_,O,_⟩:=p;exact ⟨_,SqL.of (O _ _ J),z48 _⟩
   ·obtain ⟨_,O,e⟩:=p;rw [z30,z2t] at e;have el:(sums (xs.take i) ys).length<=400:=by
     rw [que,z2g];exact z3j (show min i xs.length<=20 by omega) ly
    refine ⟨S,D,_,_,rfl,rfl,O _ _ h1,e,by rw [z30,z30,z30];exact z3y (q1v (by omega)),_,rfl,(Z.trans O).set hS,?_⟩;rw [qb,z3h,a0,<- z36]
    congr 3
    unfold sums;rw [z1j];show _=_++List.flatMap _ [n];rw [List.flatMap_cons,List.flatMap_nil,z31]
   ·obtain ⟨⟨v,rfl⟩,O,e⟩:=p;obtain ⟨rfl,hx⟩:=y;have a2:=hx _ (SqL.of (O _ _ J));rw [z22] at a2;obtain ⟨z,a3,rfl⟩:=z0q.mp a2;refine ⟨_,zf,_,zf,_,_,zf,zf,?_⟩;refine ⟨_,e,by rw [z30,z30,z2g];exact q1v (by omega),⟨_,rfl⟩,O.set hD,?_⟩;rw [qb,z3h,a3,z36,z36];rfl
  ·rintro σ H' ⟨v,rfl,Z,h1⟩;rw [z30,z2t] at h1;obtain ⟨dx,a1⟩:=hp.same Z;exact ⟨_,zf,p,dx,_,zf,a1,zf,_,zf,p,S,m,sums xs ys,zf,⟨dx,a1⟩,m0,h1,λ l H2 s2 hl e=>q l H2 (Z.trans s2) (Z.free hl) e⟩
def qzx:Sp:=λ vs H Q _=>∃ o,vs=[o]/\∀ p,H p=none ->Q (.ref p) (upd H p (.lst []))
theorem qfb (T:Txt K mg):MDef P w K mg base 1 (cA mg "Hands") "nought" ["self"] qzx:=by
 refine T.qh7.ok qez (λ vs H Q E h=> ?_) λ f cdv A outer s H vs Q E hr h=> ?_
 ·obtain ⟨o,rfl,_⟩:=h;rfl
 ·obtain ⟨o,rfl,k⟩:=h;exact ⟨_,(qg (qk (q20 q2d))),by show 0<=sizeLine;decide,λ p hp=>k p hp⟩
def qzy:Sp:=λ vs H Q _=>∃ o,vs=[o]/\∀ p e H',Same H H' ->H p=none ->H' p=some (.lst [.ref e]) ->H' e=some (.tup []) ->Q (.ref p) H'
theorem qj3 (T:Txt K mg):MDef P w K mg base 1 (cA mg "Hands") "unit" ["self"] qzy:=by
 refine T.qmb.ok qiw (λ vs H Q E h=> ?_) λ f cdv A outer s H vs Q E hr h=> ?_
 ·obtain ⟨o,rfl,_⟩:=h;rfl
 ·obtain ⟨o,rfl,k⟩:=h;refine ⟨_,(qg (qk (q20 (pa_1 (q6q q2d))))),by show 0<=sizeLine;decide,λ e he=>⟨by show 1<=sizeLine;decide,λ p D=> ?_⟩⟩;have J:=qd (o:=HO.tup []) he;have O:=qd (o:=HO.lst [.ref e]) D;exact k p e _ (J.trans O) (J.free D) qb (O _ _ qb)
def qy0:Sp:=λ vs H Q _=>∃ (o:V) (a b:Addr) (xs ys:List V) (A B:List (List Str)),vs=[o,.ref a,.ref b]/\H a=some (.lst xs)/\H b=some (.lst ys)/\q1s H xs A/\q1s H ys B/\A.length<=2000/\B.length<=2000/\(∀ r∈A,r.length<=15/\endW∉r)/\(∀ r∈B,r.length<=15/\endW∉r)/\
 ∀ p zs (R:List (List Str)) H',Same H H' ->H p=none ->H' p=some (.lst zs) ->q1s H' zs R ->Acc R ->(∀ x,Up R x↔Up (A++B) x) ->Q (.ref p) H'
theorem qfc (T:Txt K mg):MDef P w K mg base 4 (cA mg "Hands") "either" ["self","one","other"] qy0:=by
 refine T.qh9.ok qf0 (λ vs H Q E h=> ?_) λ f cdv A outer s H vs Q E hr h=> ?_
 ·obtain ⟨o,a,b,xs,ys,A,B,rfl,_⟩:=h;rfl
 ·obtain ⟨o,a,b,xs,ys,FA,FB,rfl,ha,hb,J,O,lA,lB,wA,wB,k⟩:=h;have l1:=Paired.length J;have l2:=Paired.length O;refine ⟨_,(qg (qk (qp (qab T) hr rfl (pa_1 (qm qen (pv 1) (pv 2)))))),?_⟩;refine ⟨_,zf,_,zf,a,b,_,_,zf,zf,ha,hb,z3y (q15 (by omega)),λ c hc=> ?_⟩;have D:=qd (o:=HO.lst (xs++ys)) hc;refine ⟨c,xs++ys,FA++FB,rfl,SqL.of qb,qi6 (q1o (λ b ys e=>D b _ e) (q1t J O)),by rw [z1o];omega,λ r hr=> ?_,λ p zs R H' s2 hp ep tp aR uR=>k p zs R H' (D.trans s2) (D.free hp) ep tp aR uR⟩;have:=(z2u.mp hr).elim (wA r) (wB r);exact ⟨by omega,this.2⟩
def qui (K:PySem.W.Frag):Sp:=λ vs H Q E=>∃ o ws,vs=o::ws/\qs0 K ws H Q E
theorem qj4 (T:Txt K mg):MDef P w K mg base 5 (cA mg "Hands") "both" ["self","one","other"] (qui K):=by
 refine T.qmk.ok qix (λ vs H Q E h=> ?_) λ f cdv A outer s H vs Q E hr h=> ?_
 ·obtain ⟨o,ws,rfl,a,b,xs,ys,A,B,rfl,_⟩:=h;rfl
 ·obtain ⟨o,ws,rfl,a,b,xs,ys,FA,FB,rfl,h⟩:=h;exact ⟨_,(qg (qk (qp (qs1 T) hr rfl (pa_2 (pv 1) (pv 2))))),_,zf,_,zf,a,b,xs,ys,FA,FB,zf,h⟩
def insI (x:Int):List Int ->List Int
 | []=>[x]
 | y::ys=>if x < y then x::y::ys else y::insI x ys
def upTo (x:Int) (l:List Int):Nat:=(l.filter λ y=>decide (y<=x)).length
def AscI (l:List Int):Prop:=l.Pairwise λ a b=>q18 b a=false
theorem qbt (x:Int):∀ l,(insI x l).Perm (x::l)
 | []=> .refl _
 | y::ys=>by
  unfold insI;split
  ·exact .refl _
  ·exact ((qbt x ys).cons y).trans (.swap _ _ _)
theorem qll (x:Int):∀ l,AscI l ->AscI (insI x l)
 | [],_=>z0i _ _
 | y::ys,h=>by
  have h1:=z1q.mp h;unfold insI;split
  ·rename_i c;refine z1q.mpr ⟨λ z hz=> ?_,h⟩;rcases z3n.mp hz with rfl | hz
   ·exact z2w (by omega)
   ·have:=of_decide_eq_false (h1.1 z hz);exact z2w (by omega)
  ·rename_i c;refine z1q.mpr ⟨λ z hz=> ?_,qll x ys h1.2⟩;rcases z3n.mp ((qbt x ys).mem_iff.mp hz) with rfl | hz
   ·exact z2w c
   ·exact h1.1 z hz
theorem quj (x:Int) (l:List Int):Tim.srt q18 (x::l)=insI x (Tim.srt q18 l):=
 (Tim.q98 q1u ((qbt x _).trans ((Tim.qo q18 l).cons x)) (qll x _ (Tim.q1r q1u l))).symm
theorem qi7 (x:Int):∀ (l:List Int) (m:Nat),AscI l ->m<=upTo x l ->(insI x l).take m=l.take m
 | _,0,_,_=>rfl
 | [],m+1,_,h=>by
  have:upTo x []=0:=rfl;omega
 | y::ys,m+1,h,hm=>by
  have h1:=z1q.mp h;unfold insI;split
  ·rename_i c
   exfalso
   have:upTo x (y::ys)=0:=by
    unfold upTo;rw [z0k,List.filter_eq_nil_iff];intro z hz;rcases z3n.mp hz with rfl | hz
    ·simp;omega
    ·have:=of_decide_eq_false (h1.1 z hz);simp;omega
   omega
  ·rename_i c;rw [List.take_succ_cons,List.take_succ_cons,qi7 x ys m h1.2];have:upTo x (y::ys)=upTo x ys+1:=by
    unfold upTo;rw [List.filter_cons_of_pos (by simp;omega),z2i]
   omega
theorem qs6 {x:Int} {a b:List Int} (p:a.Perm b):upTo x a=upTo x b:=(p.filter _).length_eq
theorem qae (x:Int) (a b:List Int):upTo x (a++b)=upTo x a+upTo x b:=by
 unfold upTo;rw [z1u,z1o]
theorem quk {x:Int} {a:List Int} (h:∀ y∈a,y<=x):upTo x a=a.length:=by
 unfold upTo;rw [List.filter_eq_self.mpr λ y hy=>z3c (h y hy)]
theorem q34 {m:Int} {a b:List Int} (p:a.Perm b):q1b m a=q1b m b:=by
 unfold q1b;rw [Tim.q98 q1u ((Tim.qo q18 a).trans p) (Tim.q1r q1u a)]
theorem q7i {m:Int} {S:List Int}:∀ T:List Int,(∀ t∈T,m.toNat<=upTo t S) ->q1b m (T++S)=q1b m S
 | [],_=>rfl
 | t::T,h=>by
  have ih:=q7i (m:=m) (S:=S) T λ t ht=>h t (z16 _ ht);rw [<- ih];show (Tim.srt q18 (t::(T++S))).take _=_;rw [quj,qi7 t _ _ (Tim.q1r q1u _)]
  ·rfl
  ·rw [qs6 (Tim.qo q18 _),qae];have:=h t (z1p ..);omega
theorem qd6 (m:Int) (a:List Int):∃ R:List Int,(q1b m a++R).Perm a/\(R=[]\/ (q1b m a).length=m.toNat)/\∀ p∈q1b m a,∀ r∈R,p<=r:=by
 refine ⟨(Tim.srt q18 a).drop m.toNat,?_,?_,?_⟩
 ·unfold q1b;rw [z0v];exact Tim.qo q18 a
 ·unfold q1b;rw [z2g];by_cases h:(Tim.srt q18 a).length<=m.toNat
  ·exact .inl (List.drop_eq_nil_of_le h)
  ·right
   omega
 ·intro p hp r hr;have h:=Tim.q1r q1u a;rw [<- z0v m.toNat (Tim.srt q18 a),z11] at h;have:=of_decide_eq_false (h.2.2 p hp r hr);omega
theorem q7n (m:Int) (a b:List Int):q1b m (q1b m a++b)=q1b m (a++b):=by
 obtain ⟨R,h1,h2,h3⟩:=qd6 m a;have e:(R++(q1b m a++b)).Perm (a++b):=by
  rw [<- z1y];exact ((z0u).trans h1).append_right b
 rw [<- q34 e]
 symm
 refine q7i R λ t D=> ?_;rcases h2 with rfl | h2
 ·cases D
 ·rw [qae,quk λ y hy=>h3 y hy t D];omega
theorem q9d (m:Int) (a b:List Int):q1b m (a++q1b m b)=q1b m (a++b):=by
 rw [q34 z0u,q7n,q34 z0u]
theorem qlm (a b c:List Int):sums (a++b) c=sums a c++sums b c:=z1j
theorem qs7 {a b c:List Int} (p:a.Perm b):(sums a c).Perm (sums b c):=p.flatMap_right _
theorem qln (a:List Int):sums a []=[]:=by
 induction a with
 | nil=>rfl
 | cons x a ih=>
  show []++sums a []=[];exact ih
theorem qps (a:List Int) (y:Int) (b:List Int):(sums a (y::b)).Perm (a.map (λ x=>x+y)++sums a b):=by
 induction a with
 | nil=>exact .refl _
 | cons x a ih=>
  show ((x+y)::(b.map (λ z=>x+z)++sums a (y::b))).Perm ((x+y)::(a.map (λ x=>x+y)++(b.map (λ z=>x+z)++sums a b)));refine .cons _ ?_;refine (ih.append_left _).trans ?_;rw [<- z1y,<- z1y];exact z0u.append_right _
theorem qbu (a b:List Int):(sums a b).Perm (sums b a):=by
 induction b with
 | nil=>rw [qln];exact .refl _
 | cons y b ih=>
  refine (qps a y b).trans ?_;have:sums (y::b) a=a.map (λ x=>y+x)++sums b a:=rfl;rw [this,z1f (g:=λ x=>y+x) λ x _=>Int.add_comm x y];exact ih.append_left _
theorem qpt (a b c:List Int):sums (sums a b) c=sums a (sums b c):=by
 unfold sums;rw [List.flatMap_assoc]
 congr 1
 funext x
 rw [List.flatMap_map,List.map_flatMap]
 congr 1
 funext y
 rw [z47]
 congr 1
 funext z
 exact Int.add_assoc x y z
theorem qe7 (m:Int) (a b:List Int):q1b m (sums (q1b m a) b)=q1b m (sums a b):=by
 obtain ⟨R,h1,h2,h3⟩:=qd6 m a;have e:(sums R b++sums (q1b m a) b).Perm (sums a b):=by
  rw [<- qlm];exact qs7 ((z0u).trans h1)
 rw [<- q34 e]
 symm
 refine q7i _ λ t D=> ?_;rcases h2 with rfl | h2
 ·cases D
 ·obtain ⟨r,hr,D⟩:=List.mem_flatMap.mp D;obtain ⟨y,hy,rfl⟩:=z45.mp D;have key:∀ P:List Int,(∀ p∈P,p<=r) ->P.length<=upTo (r+y) (sums P b):=by
   intro P
   induction P with
   | nil=>intro _;exact z4b _
   | cons p P ih=>
    intro J;have h4:=ih λ q hq=>J q (z16 _ hq);have:sums (p::P) b=b.map (λ z=>p+z)++sums P b:=rfl;rw [this,qae,z2i];have:1<=upTo (r+y) (b.map λ z=>p+z):=by
     unfold upTo;refine List.length_pos_of_mem (a:=p+y) (z2x.mpr ⟨z45.mpr ⟨y,hy,zf⟩,z3c ?_⟩);have:=J p (z1p ..);omega
    omega
  have:=key (q1b m a) λ p hp=>h3 p hp r hr;omega
theorem qul (m:Int) (a b:List Int):q1b m (sums a (q1b m b))=q1b m (sums a b):=by
 rw [q34 (qbu _ _),qe7,q34 (qbu _ _)]
theorem q5w {m:Int} {a:List Int} (h:AscI a) (hl:a.length<=m.toNat):q1b m a=a:=by
 unfold q1b;rw [<- Tim.q98 q1u (.refl a) h,z0n hl]
theorem qbv (m:Int) (a:List Int):AscI (q1b m a):=(Tim.q1r q1u a).sublist (List.take_sublist _ _)
def minS (F:List (List Str)):List (List Str):=(F.map uniq).filter λ u=> !(F.map uniq).any λ v=>decide ((∀ w∈v,w∈u)/\v≠u)
def nubF:List (List Str) ->List (List Str)
 | []=>[]
 | x::l=>if x∈l then nubF l else x::nubF l
theorem qaf {x:List Str}:∀ {l:List (List Str)},x∈nubF l↔x∈l
 | []=>Iff.rfl
 | y::l=>by
  unfold nubF;split
  ·rename_i h;rw [qaf,z3n];exact ⟨.inr,λ z=>z.elim (λ e=>e ▸ h) id⟩
  ·rw [z3n,z3n,qaf]
theorem qgw:∀ l:List (List Str),(nubF l).Nodup
 | []=>z3g
 | y::l=>by
  unfold nubF;split
  ·exact qgw l
  ·rename_i h;exact z32.mpr ⟨λ z=>h (qaf.mp z),qgw l⟩
def q3s (F:List (List Str)):List (List Str):=Tim.srt qz (nubF (minS F))
theorem q5f {F:List (List Str)} {r:List Str}:r∈q3s F↔r∈minS F:=by
 unfold q3s;rw [(Tim.qo qz _).mem_iff,qaf]
theorem q6g {F:List (List Str)} {r:List Str}:r∈minS F↔(∃ f∈F,uniq f=r)/\∀ f∈F,(∀ w∈uniq f,w∈r) ->uniq f=r:=by
 unfold minS;rw [z2x,z45];refine and_congr Iff.rfl ?_
 constructor
 ·intro h f hf hw
  apply Classical.byContradiction
  intro hn;have:((F.map uniq).any λ v=>decide ((∀ w∈v,w∈r)/\v≠r))=true:=z2p.mpr ⟨uniq f,z45.mpr ⟨f,hf,rfl⟩,z3c ⟨hw,hn⟩⟩;rw [this] at h;cases h
 ·intro h;have:((F.map uniq).any λ v=>decide ((∀ w∈v,w∈r)/\v≠r))=false:=by
   rw [List.any_eq_false];intro v hv;obtain ⟨f,hf,rfl⟩:=z45.mp hv;intro z;have z:=of_decide_eq_true z;exact z.2 (h f hf z.1)
  rw [this];rfl
theorem q3m (F:List (List Str)):Acc (q3s F):=by
 refine ⟨q5e q2a (Tim.q1r q2a _) ((Tim.qo qz _).nodup_iff.mpr (qgw _)),λ r hr=> ?_,λ r hr q hq h=> ?_⟩
 ·obtain ⟨⟨f,_,rfl⟩,_⟩:=q6g.mp (q5f.mp hr);exact q6t f
 ·obtain ⟨⟨f,hf,rfl⟩,_⟩:=q6g.mp (q5f.mp hr);exact (q6g.mp (q5f.mp hq)).2 f hf h
theorem qo5 {F:List (List Str)}:∀ (n:Nat) (f:List Str),f∈F ->(uniq f).length<=n ->∃ r∈minS F,∀ w∈r,w∈uniq f
 | n,f,hf,hn=>by
  by_cases z:∀ g∈F,(∀ w∈uniq g,w∈uniq f) ->uniq g=uniq f
  ·exact ⟨uniq f,q6g.mpr ⟨⟨f,hf,zf⟩,z⟩,λ _ z=>z⟩
  ·obtain ⟨g,z⟩:=Classical.not_forall.mp z;obtain ⟨hg,z⟩:=Classical.not_imp.mp z;obtain ⟨hw,D⟩:=Classical.not_imp.mp z;have hl:(uniq g).length < (uniq f).length:=by
    apply Classical.byContradiction
    intro q;exact D (qli (q6t g) (q6t f) hw (by omega))
   match n with
   | 0=>omega
   | n+1=>
    obtain ⟨r,hr,h⟩:=qo5 n g hg (by omega);exact ⟨r,hr,λ w q=>hw w (h w q)⟩
theorem q2k {F:List (List Str)} {x:List Str}:Up (q3s F) x↔Up F x:=by
 constructor
 ·rintro ⟨r,hr,h⟩;obtain ⟨⟨f,hf,rfl⟩,_⟩:=q6g.mp (q5f.mp hr);exact ⟨f,hf,λ w hw=>h w ((q56 f w).mpr hw)⟩
 ·rintro ⟨f,hf,h⟩;obtain ⟨r,hr,h1⟩:=qo5 _ f hf (z48 _);exact ⟨r,q5f.mpr hr,λ w hw=>h w ((q56 f w).mp (h1 w hw))⟩
theorem q4f {A B:List (List Str)} (h:∀ x,Up A x↔Up B x):q3s A=q3s B:=qrx (q3m A) (q3m B) λ x=>q2k.trans ((h x).trans q2k.symm)
theorem q8f {A R:List (List Str)} (a:Acc R) (h:∀ x,Up R x↔Up A x):R=q3s A:=qrx a (q3m A) λ x=>(h x).trans q2k.symm
theorem qzz {x:List Str}:Up [[]] x↔True:=⟨λ _=>trivial,λ _=>⟨[],z1m.mpr rfl,λ _ z=>nomatch z⟩⟩
theorem qy1 {x:List Str}:Up [] x↔False:=⟨(λ ⟨_,z,_⟩=>nomatch z),False.elim⟩
inductive Wo where
 | num (i:Int) | non | nums (l:List Int) | tr (b:Bool) | acc (R:List (List Str))
inductive Kd where
 | counts | costs | bests (m:Int) | trusts (t:Int) | truths | hands
def Kd.ok:Kd ->Prop
 | .bests m=>1<=m/\m<=9
 | .trusts t=>0<=t
 | _=>True
structure HOk (W:List Str):Prop where
 few:W.length<=7
 ne:endW∉W
 ok:∀ w∈W,PyData.strOk w=true
inductive qi (W:List Str):Kd ->Wo ->Prop where
 | counts {i:Int} (h:0<=i):qi W .counts (.num i)
 | costN (i:Int):qi W .costs (.num i)
 | costX:qi W .costs .non
 | bests {m:Int} {l:List Int} (h:AscI l) (hl:l.length<=m.toNat):qi W (.bests m) (.nums l)
 | trusts {t i:Int} (h:0<=i) (h2:i<=t):qi W (.trusts t) (.num i)
 | truths (b:Bool):qi W .truths (.tr b)
 | hands {R:List (List Str)} (a:Acc R) (o:Of 7 W R):qi W .hands (.acc R)
def noW:Kd ->Wo
 | .counts=> .num 0
 | .costs=> .non
 | .bests _=> .nums []
 | .trusts _=> .num 0
 | .truths=> .tr false
 | .hands=> .acc []
def unW:Kd ->Wo
 | .counts=> .num 1
 | .costs=> .num 0
 | .bests _=> .nums [0]
 | .trusts t=> .num t
 | .truths=> .tr true
 | .hands=> .acc [[]]
def eiW:Kd ->Wo ->Wo ->Wo
 | .counts,.num i,.num j=> .num (i+j)
 | .costs,.non,y=>y
 | .costs,.num i,.num j=> .num (if j < i then j else i)
 | .bests m,.nums a,.nums b=> .nums (q1b m (a++b))
 | .trusts _,.num i,.num j=> .num (if j > i then j else i)
 | .truths,.tr a,.tr b=> .tr (a || b)
 | .hands,.acc A,.acc B=> .acc (q3s (A++B))
 | _,x,_=>x
def boW:Kd ->Wo ->Wo ->Wo
 | .counts,.num i,.num j=> .num (i*j)
 | .costs,.num i,.num j=> .num (i+j)
 | .bests m,.nums a,.nums b=> .nums (q1b m (sums a b))
 | .trusts _,.num i,.num j=> .num (if j < i then j else i)
 | .truths,.tr a,.tr b=> .tr (a&&b)
 | .hands,.acc A,.acc B=> .acc (q3s (q5u A B))
 | _,_,_=> .non
theorem Of.nil {W:List Str} (h:HOk W):Of 7 W []:=⟨by decide,h.few,h.ne,λ _ z=>nomatch z⟩
theorem Of.one {W:List Str} (h:HOk W):Of 7 W [[]]:=⟨by decide,h.few,h.ne,λ r hr w hw=>by rw [z1m.mp hr] at hw;cases hw⟩
theorem qs8:Acc []:=⟨List.Pairwise.nil,(λ _ z=>nomatch z),λ _ z=>nomatch z⟩
theorem q100:Acc [[]]:=⟨z0i _ _,(λ r hr=>by rw [z1m.mp hr];exact List.Pairwise.nil),λ r hr q hq _=>by rw [z1m.mp hr,z1m.mp hq]⟩
theorem q5x {A:List (List Str)} (a:Acc A):q3s A=A:=(q8f a λ _=>Iff.rfl).symm
section
variable {W:List Str} {k:Kd} {a b c:Wo}
theorem qe8 (m:Int) (l:List Int):(q1b m l).length<=m.toNat:=by
 unfold q1b;rw [z2g];omega
theorem qy2 (hW:HOk W):qi W k (noW k)\/ ∃ t,k= .trusts t:=by
 cases k with
 | counts=>exact .inl (.counts (z4a _))
 | costs=>exact .inl .costX
 | bests m=>exact .inl (.bests List.Pairwise.nil (z4b _))
 | trusts t=>exact .inr ⟨t,rfl⟩
 | truths=>exact .inl (.truths _)
 | hands=>exact .inl (.hands qs8 (.nil hW))
theorem q3j (hW:HOk W) (hk:k.ok):qi W k (noW k):=by
 rcases qy2 (k:=k) hW with h | ⟨t,rfl⟩
 ·exact h
 ·exact .trusts (z4a _) hk
theorem q8g (hW:HOk W) (hk:k.ok):qi W k (unW k):=by
 cases k with
 | counts=>exact .counts (by decide)
 | costs=>exact .costN _
 | bests m=>
  have:1<=m:=hk.1;exact .bests (z0i _ _) (by show 1<=m.toNat;omega)
 | trusts t=>exact .trusts hk (z4a _)
 | truths=>exact .truths _
 | hands=>exact .hands q100 (.one hW)
theorem q4y (ha:qi W k a) (D:qi W k b):qi W k (eiW k a b):=by
 cases ha with
 | counts h=>cases D with | counts h'=>exact .counts (by omega)
 | costN i=>cases D with
  | costN j=>exact .costN _
  | costX=>exact .costN _
 | costX=>exact D
 | bests h hl=>cases D with | bests h' hl'=>exact .bests (qbv _ _) (qe8 _ _)
 | trusts h h2=>cases D with
  | trusts h' h2'=>
   refine .trusts ?_ ?_ <;> split <;> omega
 | truths x=>cases D with | truths y=>exact .truths _
 | hands x o=>cases D with | hands y o'=>exact .hands (q3m _) (o.thin o' (q3m _) λ _=>q2k)
theorem q5y (ha:qi W k a) (D:qi W k b):qi W k (boW k a b):=by
 cases ha with
 | counts h=>cases D with | counts h'=>exact .counts (z3k h h')
 | costN i=>cases D with
  | costN j=>exact .costN _
  | costX=>exact .costX
 | costX=>cases D with
  | costN j=>exact .costX
  | costX=>exact .costX
 | bests h hl=>cases D with | bests h' hl'=>exact .bests (qbv _ _) (qe8 _ _)
 | trusts h h2=>cases D with
  | trusts h' h2'=>
   refine .trusts ?_ ?_ <;> split <;> omega
 | truths x=>cases D with | truths y=>exact .truths _
 | hands x o=>cases D with | hands y o'=>exact .hands (q3m _) (o.agr o' (q3m _) λ _=>q2k.trans q2j)
theorem qgx (ha:qi W k a) (D:qi W k b):eiW k a b=eiW k b a:=by
 cases ha with
 | counts h=>cases D with | counts h'=>exact congrArg Wo.num (Int.add_comm _ _)
 | costN i=>cases D with
  | costN j=>
   refine congrArg Wo.num ?_;split <;> split <;> omega
  | costX=>rfl
 | costX=>cases D with
  | costN j=>rfl
  | costX=>rfl
 | bests h hl=>cases D with | bests h' hl'=>exact congrArg Wo.nums (q34 z0u)
 | trusts h h2=>cases D with
  | trusts h' h2'=>
   refine congrArg Wo.num ?_;split <;> split <;> omega
 | truths x=>cases D with | truths y=>exact congrArg Wo.tr (Bool.or_comm _ _)
 | hands x o=>cases D with | hands y o'=>exact congrArg Wo.acc (q4f λ _=>by rw [q5v,q5v,or_comm])
theorem q5b (ha:qi W k a) (J:qi W k b) (D:qi W k c):eiW k (eiW k a b) c=eiW k a (eiW k b c):=by
 cases ha with
 | counts h=>cases J with | counts h'=>cases D with | counts O=>exact congrArg Wo.num (Int.add_assoc _ _ _)
 | costN i=>cases J with
  | costN j=>cases D with
   | costN l=>
    refine congrArg Wo.num ?_
    repeat' split
    all_goals omega
   | costX=>rfl
  | costX=>cases D with
   | costN l=>rfl
   | costX=>rfl
 | costX=>rfl
 | bests h hl=>cases J with | bests h' hl'=>cases D with | bests O a0=>exact congrArg Wo.nums (by rw [q7n,q9d,z1y])
 | trusts h h2=>cases J with
  | trusts h' h2'=>cases D with
   | trusts O Z=>
    refine congrArg Wo.num ?_
    repeat' split
    all_goals omega
 | truths x=>cases J with | truths y=>cases D with | truths z=>exact congrArg Wo.tr (Bool.or_assoc _ _ _)
 | hands x o=>cases J with | hands y o'=>cases D with | hands z o''=>exact congrArg Wo.acc (q4f λ _=>by rw [q5v,q5v,q2k,q2k,q5v,q5v,or_assoc])
theorem qjw (ha:qi W k a):eiW k a (noW k)=a:=by
 cases ha with
 | counts h=>exact congrArg Wo.num (Int.add_zero _)
 | costN i=>rfl
 | costX=>rfl
 | bests h hl=>exact congrArg Wo.nums (by rw [z31];exact q5w h hl)
 | trusts h h2=>
  refine congrArg Wo.num ?_;split <;> omega
 | truths x=>exact congrArg Wo.tr (Bool.or_false _)
 | hands x o=>exact congrArg Wo.acc (by rw [z31];exact q5x x)
theorem qag (hW:HOk W) (hk:k.ok) (ha:qi W k a):eiW k (noW k) a=a:=(qgx (q3j hW hk) ha).trans (qjw ha)
theorem q7o (ha:qi W k a) (D:qi W k b):boW k a b=boW k b a:=by
 cases ha with
 | counts h=>cases D with | counts h'=>exact congrArg Wo.num (Int.mul_comm _ _)
 | costN i=>cases D with
  | costN j=>exact congrArg Wo.num (Int.add_comm _ _)
  | costX=>rfl
 | costX=>cases D with
  | costN j=>rfl
  | costX=>rfl
 | bests h hl=>cases D with | bests h' hl'=>exact congrArg Wo.nums (q34 (qbu _ _))
 | trusts h h2=>cases D with
  | trusts h' h2'=>
   refine congrArg Wo.num ?_;split <;> split <;> omega
 | truths x=>cases D with | truths y=>exact congrArg Wo.tr (Bool.and_comm _ _)
 | hands x o=>cases D with | hands y o'=>exact congrArg Wo.acc (q4f λ _=>by rw [q2j,q2j,and_comm])
theorem qe9 (ha:qi W k a) (J:qi W k b) (D:qi W k c):boW k (boW k a b) c=boW k a (boW k b c):=by
 cases ha with
 | counts h=>cases J with | counts h'=>cases D with | counts O=>exact congrArg Wo.num (Int.mul_assoc _ _ _)
 | costN i=>cases J with
  | costN j=>cases D with
   | costN l=>exact congrArg Wo.num (Int.add_assoc _ _ _)
   | costX=>rfl
  | costX=>cases D with
   | costN l=>rfl
   | costX=>rfl
 | costX=>cases J with
  | costN j=>cases D with
   | costN l=>rfl
   | costX=>rfl
  | costX=>cases D with
   | costN l=>rfl
   | costX=>rfl
 | bests h hl=>cases J with | bests h' hl'=>cases D with | bests O a0=>exact congrArg Wo.nums (by rw [qe7,qul,qpt])
 | trusts h h2=>cases J with
  | trusts h' h2'=>cases D with
   | trusts O Z=>
    refine congrArg Wo.num ?_
    repeat' split
    all_goals omega
 | truths x=>cases J with | truths y=>cases D with | truths z=>exact congrArg Wo.tr (Bool.and_assoc _ _ _)
 | hands x o=>cases J with | hands y o'=>cases D with | hands z o''=>exact congrArg Wo.acc (q4f λ _=>by rw [q2j,q2j,q2k,q2k,q2j,q2j,and_assoc])
theorem qpu (ha:qi W k a) (J:qi W k b) (D:qi W k c):boW k (eiW k a b) c=eiW k (boW k a c) (boW k b c):=by
 cases ha with
 | counts h=>cases J with | counts h'=>cases D with | counts O=>exact congrArg Wo.num (Int.add_mul _ _ _)
 | costN i=>cases J with
  | costN j=>cases D with
   | costN l=>
    refine congrArg Wo.num ?_;split <;> split <;> omega
   | costX=>rfl
  | costX=>cases D with
   | costN l=>rfl
   | costX=>rfl
 | costX=>cases J with
  | costN j=>cases D with
   | costN l=>rfl
   | costX=>rfl
  | costX=>cases D with
   | costN l=>rfl
   | costX=>rfl
 | bests h hl=>cases J with | bests h' hl'=>cases D with | bests O a0=>exact congrArg Wo.nums (by rw [qe7,q7n,q9d,qlm])
 | trusts h h2=>cases J with
  | trusts h' h2'=>cases D with
   | trusts O Z=>
    refine congrArg Wo.num ?_
    repeat' split
    all_goals omega
 | truths x=>cases J with | truths y=>cases D with | truths z=>exact congrArg Wo.tr (Bool.and_or_distrib_right _ _ _)
 | hands x o=>cases J with | hands y o'=>cases D with | hands z o''=>exact congrArg Wo.acc (q4f λ _=>by rw [q2j,q5v,q2k,q2k,q2k,q5v,q2j,q2j,or_and_right])
theorem qpv (ha:qi W k a):boW k a (noW k)=noW k:=by
 cases ha with
 | counts h=>exact congrArg Wo.num (Int.mul_zero _)
 | costN i=>rfl
 | costX=>rfl
 | bests h hl=>exact congrArg Wo.nums (by rw [qln];exact q5w List.Pairwise.nil (z4b _))
 | trusts h h2=>
  refine congrArg Wo.num ?_;split <;> omega
 | truths x=>exact congrArg Wo.tr (Bool.and_false _)
 | hands x o=>exact congrArg Wo.acc ((q4f λ _=>by rw [q2j,qy1];exact ⟨λ z=>z.2,False.elim⟩).trans (q5x qs8))
theorem qvw (ha:qi W k a):boW k a (unW k)=a:=by
 cases ha with
 | counts h=>exact congrArg Wo.num (Int.mul_one _)
 | costN i=>exact congrArg Wo.num (Int.add_zero _)
 | costX=>rfl
 | @bests m l h hl=>
  have:sums l [0]=l:=by
   unfold sums;rw [show (λ x:Int=>[0].map λ y=>x+y)=λ x=>[x] from funext λ x=>by show [x+0]=[x];rw [Int.add_zero]];exact List.flatMap_singleton' l
  exact congrArg Wo.nums (by rw [this];exact q5w h hl)
 | trusts h h2=>
  refine congrArg Wo.num ?_;split <;> omega
 | truths x=>exact congrArg Wo.tr (Bool.and_true _)
 | hands x o=>exact congrArg Wo.acc ((q4f λ _=>by rw [q2j,qzz,and_true]).trans (q5x x))
theorem qpw (hW:HOk W) (hk:k.ok) (ha:qi W k a):boW k (unW k) a=a:=(q7o (q8g hW hk) ha).trans (qvw ha)
end
def WV (H:Hp):Wo ->V ->Prop
 | .num i,x=>x= .int i
 | .non,x=>x= .non
 | .tr b,x=>x= .bl b
 | .nums l,x=>∃ p,x= .ref p/\H p=some (.lst (l.map V.int))
 | .acc R,x=>∃ p zs,x= .ref p/\H p=some (.lst zs)/\q1s H zs R
theorem WV.same {H H':Hp} {w:Wo} {x:V} (h:WV H w x) (s:Same H H'):WV H' w x:=by
 cases w with
 | num i=>exact h
 | non=>exact h
 | tr b=>exact h
 | nums l=>
  obtain ⟨p,e,h⟩:=h;exact ⟨p,e,s _ _ h⟩
 | acc R=>
  obtain ⟨p,zs,e,h,t⟩:=h;exact ⟨p,zs,e,s _ _ h,q1o (λ b ys z=>s b _ z) t⟩
def dW:Wo ->PyData
 | .num i=> .int i
 | .non=> .none
 | .tr b=> .bool b
 | .nums l=> .list (l.map .int)
 | .acc R=> .list (R.map dR)
theorem WV.dat {K:PySem.W.Frag} {W:List Str} {k:Kd} {H:Hp} {w:Wo} {x:V} (hW:HOk W) (g:qi W k w) (h:WV H w x):Dat K H (dW w) x:=by
 cases g with
 | counts _=>cases h;exact .int _
 | costN _=>cases h;exact .int _
 | costX=>cases h;exact .non
 | bests _ _=>
  obtain ⟨p,rfl,h⟩:=h;exact .lst (SqL.of h) (qbn _)
 | trusts _ _=>cases h;exact .int _
 | truths _=>cases h;exact .bl _
 | hands a o=>
  obtain ⟨p,zs,rfl,h,t⟩:=h;exact .lst (SqL.of h) (qlk t λ r hr w hw=>hW.ok w (o.sub r hr w hw))
theorem q6h (w:Wo):(dW w).depth<=60:=by
 cases w with
 | num i=>exact z4b _
 | non=>exact z4b _
 | tr b=>exact z4b _
 | nums l=>exact z41 (z2q (Nat.le_of_eq (qf2 l))) (by decide)
 | acc R=>exact z41 (z2q (qo4 R)) (by decide)
def NewV (H:Hp) (x:V):Prop:=∀ p,x= .ref p ->H p=none
theorem q3k {H:Hp} {p:Addr} (h:H p=none):NewV H (.ref p):=λ q e=>by cases e;exact h
theorem q23 {H:Hp} (i:Int):NewV H (.int i):=λ _ e=>nomatch e
theorem qbw {H:Hp} (b:Bool):NewV H (.bl b):=λ _ e=>nomatch e
theorem q7p {H:Hp}:NewV H .non:=λ _ e=>nomatch e
theorem NewV.back {H H':Hp} {x:V} (s:Same H H') (h:NewV H' x):NewV H x:=λ p e=>s.free (h p e)
def clsK (mg:Str ->Option Value):Kd ->Addr
 | .counts=>cA mg "Counts"
 | .costs=>cA mg "Costs"
 | .bests _=>cA mg "Bests"
 | .trusts _=>cA mg "Trusts"
 | .truths=>cA mg "Truths"
 | .hands=>cA mg "Hands"
def fsK:Kd ->List (Str×V)
 | .bests m=>[("most",.int m)]
 | .trusts t=>[("top",.int t)]
 | _=>[]
def meN:List Str:=["nought","unit","either","both","fits","repeated"]
theorem qck {m:Str} (hm:m∈meN) (k:Kd):(fsK k).lookup m=none:=by
 cases k with
 | bests n=>
  have:(m=="most")=false:=by
   rw [beq_eq_false_iff_ne];intro e;subst e;exact absurd hm (by decide)
  show (match m=="most" with | true=>some _ | false=>List.lookup m [])=none;rw [this];rfl
 | trusts t=>
  have:(m=="top")=false:=by
   rw [beq_eq_false_iff_ne];intro e;subst e;exact absurd hm (by decide)
  show (match m=="top" with | true=>some _ | false=>List.lookup m [])=none;rw [this];rfl
 | _=>rfl
theorem q9e (k:Kd):(fsK k).lookup ("nought":Str)=none:=qck (by decide) k
theorem qs9 (k:Kd):(fsK k).lookup ("unit":Str)=none:=qck (by decide) k
theorem q9f (k:Kd):(fsK k).lookup ("either":Str)=none:=qck (by decide) k
theorem qsa (k:Kd):(fsK k).lookup ("both":Str)=none:=qck (by decide) k
theorem q101 (k:Kd):(fsK k).lookup ("fits":Str)=none:=qck (by decide) k
theorem q102 (k:Kd):(fsK k).lookup ("repeated":Str)=none:=qck (by decide) k
def ByAt (mg:Str ->Option Value) (H:Hp) (o:Addr) (k:Kd):Prop:=∃ dx,H o=some (.ins (clsK mg k) dx (fsK k))
theorem ByAt.same {mg:Str ->Option Value} {H H':Hp} {o:Addr} {k:Kd} (h:ByAt mg H o k) (s:Same H H'):ByAt mg H' o k:=by
 obtain ⟨dx,e⟩:=h;exact ⟨dx,s _ _ e⟩
def szW:Wo ->Int
 | .num i=>i
 | _=>0
def q11j (mg:Str ->Option Value) (k:Kd):Sp:=λ vs H Q _=>∃ o,vs=[.ref o]/\ByAt mg H o k/\∀ z H',Same H H' ->NewV H z ->WV H' (noW k) z ->Q z H'
def q11k (mg:Str ->Option Value) (k:Kd):Sp:=λ vs H Q _=>∃ o,vs=[.ref o]/\ByAt mg H o k/\∀ z H',Same H H' ->NewV H z ->WV H' (unW k) z ->Q z H'
def q11l (mg:Str ->Option Value) (k:Kd):Sp:=λ vs H Q _=>∃ (o:Addr) (x y:V) (a b:Wo) (W:List Str),vs=[.ref o,x,y]/\ByAt mg H o k/\k.ok/\qi W k a/\qi W k b/\WV H a x/\WV H b y/\∀ z H',Same H H' ->NewV H z ->WV H' (eiW k a b) z ->Q z H'
def q11m (mg:Str ->Option Value) (k:Kd):Sp:=λ vs H Q _=>∃ (o:Addr) (x y:V) (a b:Wo) (W:List Str),vs=[.ref o,x,y]/\ByAt mg H o k/\k.ok/\qi W k a/\qi W k b/\WV H a x/\WV H b y/\(k= .counts ->szW a < 2^600/\szW b < 2^600)/\∀ z H',Same H H' ->NewV H z ->WV H' (boW k a b) z ->Q z H'
def LtW (k:Kd) (B:Int) (a:Wo):Prop:=k= .counts ->szW a < B
theorem LtW.mono {k:Kd} {A B:Int} {a:Wo} (h:LtW k A a) (hB:A<=B):LtW k B a:=λ e=>Int.lt_of_lt_of_le (h e) hB
theorem LtW.and {k:Kd} {A B:Int} {a b:Wo} (h:LtW k A a) (h2:LtW k B b):k= .counts ->szW a < A/\szW b < B:=λ e=>⟨h e,h2 e⟩
theorem LtW.bo {W:List Str} {k:Kd} {A B:Int} {a b:Wo} (h:LtW k A a) (ga:qi W k a) (gb:qi W k b) (h2:LtW k B b) (hA:0<=A) (hB:0<=B):LtW k (A*B) (boW k a b):=λ e=>by
 subst e;cases ga with | counts i=>cases gb with | counts j=>
  have h1:=h rfl;have h2:=h2 rfl;exact z1v (z02 (z3v h2) i) (Int.mul_lt_mul_of_pos_right h1 (z1v j h2))
theorem LtW.ei {W:List Str} {k:Kd} {A B:Int} {a b:Wo} (h:LtW k A a) (ga:qi W k a) (gb:qi W k b) (h2:LtW k B b):LtW k (A+B) (eiW k a b):=λ e=>by
 subst e;cases ga with | counts i=>cases gb with | counts j=>
  have h1:=h rfl;have h2:=h2 rfl;exact Int.add_lt_add h1 h2
theorem qvx (k:Kd):LtW k (2^600) (noW k):=λ e=>by subst e;show (0:Int) < _;decide+kernel
theorem q11n (k:Kd):LtW k (2^600) (unW k):=λ e=>by subst e;show (1:Int) < _;decide+kernel
theorem wd7 {W:List Str} {R:List (List Str)} (a:Acc R) (o:Of 7 W R):∀ r∈R,r.length<=15/\endW∉r:=λ r hr=>⟨z41 (o.len hr (a.norm r hr)).1 (by decide),(o.len hr (a.norm r hr)).2⟩
theorem q28 (T:Txt K mg) (k:Kd):Cls K (clsK mg k):=by
 cases k with
 | counts=>exact T.qsz
 | costs=>exact T.qv7
 | bests _=>exact T.q4i
 | trusts _=>exact T.q8w
 | truths=>exact T.qso
 | hands=>exact T.qvf
theorem q5g (T:Txt K mg) (k:Kd):MDef P w K mg base 1 (clsK mg k) "nought" ["self"] (q11j mg k):=by
 cases k with
 | counts=>exact (qe0 T).imp λ vs H Q E ⟨o,e,_,q⟩=>⟨o,e,q _ _ (Same.refl _) (q23 _) rfl⟩
 | costs=>exact (qf7 T).imp λ vs H Q E ⟨o,e,_,q⟩=>⟨o,e,q _ _ (Same.refl _) q7p rfl⟩
 | bests _=>exact (qf9 T).imp λ vs H Q E ⟨o,e,_,q⟩=>⟨o,e,λ l hl=>q _ _ (qd hl) (q3k hl) ⟨l,rfl,qb⟩⟩
 | trusts _=>exact (qe2 T).imp λ vs H Q E ⟨o,e,_,q⟩=>⟨o,e,q _ _ (Same.refl _) (q23 _) rfl⟩
 | truths=>exact (qe4 T).imp λ vs H Q E ⟨o,e,_,q⟩=>⟨o,e,q _ _ (Same.refl _) (qbw _) rfl⟩
 | hands=>exact (qfb T).imp λ vs H Q E ⟨o,e,_,q⟩=>⟨_,e,λ l hl=>q _ _ (qd hl) (q3k hl) ⟨l,[],rfl,qb,.nil⟩⟩
theorem qo6 (T:Txt K mg) (k:Kd):MDef P w K mg base 1 (clsK mg k) "unit" ["self"] (q11k mg k):=by
 cases k with
 | counts=>exact (qgq T).imp λ vs H Q E ⟨o,e,_,q⟩=>⟨o,e,q _ _ (Same.refl _) (q23 _) rfl⟩
 | costs=>exact (qiz T).imp λ vs H Q E ⟨o,e,_,q⟩=>⟨o,e,q _ _ (Same.refl _) (q23 _) rfl⟩
 | bests _=>exact (qj1 T).imp λ vs H Q E ⟨o,e,_,q⟩=>⟨o,e,λ l hl=>q _ _ (qd hl) (q3k hl) ⟨l,rfl,qb⟩⟩
 | trusts t=>exact (qgs T).imp λ vs H Q E ⟨o,e,⟨dx,h⟩,q⟩=>⟨o,dx,.int t,e,h,q _ _ (Same.refl _) (q23 _) rfl⟩
 | truths=>exact (qgu T).imp λ vs H Q E ⟨o,e,_,q⟩=>⟨o,e,q _ _ (Same.refl _) (qbw _) rfl⟩
 | hands=>exact (qj3 T).imp λ vs H Q E ⟨o,e,_,q⟩=>⟨_,e,λ p t H' s hp h1 h2=>q _ _ s (q3k hp) ⟨p,_,rfl,h1,.cons ⟨t,rfl,h2⟩ .nil⟩⟩
theorem q5h (T:Txt K mg) (k:Kd):MDef P w K mg base 4 (clsK mg k) "either" ["self","one","other"] (q11l mg k):=by
 cases k with
 | counts=>
  refine (MDef.mono (qe1 T) (by decide)).imp λ vs H Q E D=> ?_;obtain ⟨o,x,y,a,b,W,e,_,_,ga,Z,J,O,q⟩:=D;cases ga with | counts h=>cases Z with | counts h'=>
   cases J;cases O
   exact ⟨o,_,_,e,q _ _ (Same.refl _) (q23 _) rfl⟩
 | costs=>
  refine (MDef.mono (qf8 T) (by decide)).imp λ vs H Q E D=> ?_;obtain ⟨o,x,y,a,b,W,e,_,_,ga,Z,J,O,q⟩:=D;cases ga with
  | costN i=>cases Z with
   | costN j=>cases J;cases O;exact ⟨o,_,_,e,.inr ⟨_,rfl⟩,.inr ⟨_,rfl⟩,q _ _ (Same.refl _) (q23 _) rfl⟩
   | costX=>cases J;cases O;exact ⟨o,_,_,e,.inr ⟨_,rfl⟩,.inl rfl,q _ _ (Same.refl _) (q23 _) rfl⟩
  | costX=>cases Z with
   | costN j=>cases J;cases O;exact ⟨o,_,_,e,.inl rfl,.inr ⟨_,rfl⟩,q _ _ (Same.refl _) (q23 _) rfl⟩
   | costX=>cases J;cases O;exact ⟨o,_,_,e,.inl rfl,.inl rfl,q _ _ (Same.refl _) q7p rfl⟩
 | bests m=>
  refine (MDef.mono (qfa T) (by decide)).imp λ vs H Q E D=> ?_;obtain ⟨o,x,y,a,b,W,e,⟨dx,hb⟩,hk,ga,Z,J,O,q⟩:=D;cases ga with | bests h hl=>cases Z with | bests h' hl'=>
   obtain ⟨pa,rfl,ea⟩:=J;obtain ⟨pb,rfl,eb⟩:=O;have:m<=9:=hk.2;have:1<=m:=hk.1;exact ⟨o,pa,pb,m,_,_,e,⟨dx,hb⟩,by omega,ea,eb,by omega,by omega,λ l H' s hl e=>q _ _ s (q3k hl) ⟨l,zf,e⟩⟩
 | trusts t=>
  refine (MDef.mono (qe3 T) (by decide)).imp λ vs H Q E D=> ?_;obtain ⟨o,x,y,a,b,W,e,_,_,ga,Z,J,O,q⟩:=D;cases ga with | trusts h h2=>cases Z with | trusts h' h2'=>
   cases J;cases O
   exact ⟨o,_,_,e,q _ _ (Same.refl _) (q23 _) rfl⟩
 | truths=>
  refine (MDef.mono (qe5 T) (by decide)).imp λ vs H Q E D=> ?_;obtain ⟨o,x,y,a,b,W,e,_,_,ga,Z,J,O,q⟩:=D;cases ga with | truths h=>cases Z with | truths h'=>
   cases J;cases O
   exact ⟨o,_,_,e,q _ _ (Same.refl _) (qbw _) rfl⟩
 | hands=>
  refine (MDef.mono (qfc T) (by decide)).imp λ vs H Q E D=> ?_;obtain ⟨o,x,y,a,b,W,e,_,_,ga,Z,J,O,q⟩:=D;cases ga with | hands A oA=>cases Z with | hands B oB=>
   obtain ⟨pa,za,rfl,ea,ta⟩:=J;obtain ⟨pb,zb,rfl,eb,tb⟩:=O;have lA:=oA.cards A;have lB:=oB.cards B;refine ⟨_,pa,pb,za,zb,_,_,e,ea,eb,ta,tb,by omega,by omega,wd7 A oA,wd7 B oB,λ p zs R H' s hp ep tp aR uR=>q _ _ s (q3k hp) ⟨p,zs,zf,ep,?_⟩⟩;rw [<- q8f aR uR];exact tp
theorem qo7 (T:Txt K mg) (k:Kd):MDef P w K mg base 5 (clsK mg k) "both" ["self","one","other"] (q11m mg k):=by
 cases k with
 | counts=>
  refine (MDef.mono (qgr T) (by decide)).imp λ vs H Q E D=> ?_;obtain ⟨o,x,y,a,b,W,e,_,_,ga,Z,J,O,sz,q⟩:=D;cases ga with | counts h=>cases Z with | counts h'=>
   cases J;cases O
   have sz:=sz rfl;exact ⟨o,_,_,e,⟨⟨h,sz.1⟩,h',sz.2⟩,q _ _ (Same.refl _) (q23 _) rfl⟩
 | costs=>
  refine (MDef.mono (qj0 T) (by decide)).imp λ vs H Q E D=> ?_;obtain ⟨o,x,y,a,b,W,e,_,_,ga,Z,J,O,_,q⟩:=D;cases ga with
  | costN i=>cases Z with
   | costN j=>cases J;cases O;exact ⟨o,_,_,e,.inr ⟨_,rfl⟩,.inr ⟨_,rfl⟩,q _ _ (Same.refl _) (q23 _) rfl⟩
   | costX=>cases J;cases O;exact ⟨o,_,_,e,.inr ⟨_,rfl⟩,.inl rfl,q _ _ (Same.refl _) q7p rfl⟩
  | costX=>cases Z with
   | costN j=>cases J;cases O;exact ⟨o,_,_,e,.inl rfl,.inr ⟨_,rfl⟩,q _ _ (Same.refl _) q7p rfl⟩
   | costX=>cases J;cases O;exact ⟨o,_,_,e,.inl rfl,.inl rfl,q _ _ (Same.refl _) q7p rfl⟩
 | bests m=>
  refine (MDef.mono (qj2 T) (by decide)).imp λ vs H Q E D=> ?_;obtain ⟨o,x,y,a,b,W,e,⟨dx,hb⟩,hk,ga,Z,J,O,_,q⟩:=D;cases ga with | bests h hl=>cases Z with | bests h' hl'=>
   obtain ⟨pa,rfl,ea⟩:=J;obtain ⟨pb,rfl,eb⟩:=O;have:m<=9:=hk.2;have:1<=m:=hk.1;exact ⟨o,pa,pb,m,_,_,e,⟨dx,hb⟩,by omega,ea,eb,by omega,by omega,λ l H' s hl e=>q _ _ s (q3k hl) ⟨l,zf,e⟩⟩
 | trusts t=>
  refine (MDef.mono (qgt T) (by decide)).imp λ vs H Q E D=> ?_;obtain ⟨o,x,y,a,b,W,e,_,_,ga,Z,J,O,_,q⟩:=D;cases ga with | trusts h h2=>cases Z with | trusts h' h2'=>
   cases J;cases O
   exact ⟨o,_,_,e,q _ _ (Same.refl _) (q23 _) rfl⟩
 | truths=>
  refine (MDef.mono (qgv T) (by decide)).imp λ vs H Q E D=> ?_;obtain ⟨o,x,y,a,b,W,e,_,_,ga,Z,J,O,_,q⟩:=D;cases ga with | truths h=>cases Z with | truths h'=>
   cases J;cases O
   exact ⟨o,_,_,e,q _ _ (Same.refl _) (qbw _) rfl⟩
 | hands=>
  refine (MDef.mono (qj4 T) (by decide)).imp λ vs H Q E D=> ?_;obtain ⟨o,x,y,a,b,W,e,_,_,ga,Z,J,O,_,q⟩:=D;cases ga with | hands A oA=>cases Z with | hands B oB=>
   obtain ⟨pa,za,rfl,ea,ta⟩:=J;obtain ⟨pb,zb,rfl,eb,tb⟩:=O;have lA:=oA.card A;have lB:=oB.card B;refine ⟨_,_,e,pa,pb,za,zb,_,_,zf,SqL.of ea,SqL.of eb,ta,tb,z41 (z3j lA lB) (by decide),z41 lB (by decide),wd7 A oA,wd7 B oB,λ p zs R H' s hp ep tp aR uR=>q _ _ s (q3k hp) ⟨p,zs,zf,ep,?_⟩⟩;rw [<- q8f aR λ x=>(uR x).trans q2j.symm];exact tp
def cutL (ns:List Int) (lo hi:Option Int):List Int:=(ns.drop (HT.sIx ns.length 0 lo)).take (HT.sIx ns.length ns.length hi - HT.sIx ns.length 0 lo)
theorem qvy (ns:List Int) (lo hi:Option Int):cutV (ns.map V.int) lo hi=(cutL ns lo hi).map V.int:=by
 unfold cutV cutL;rw [z30,List.map_take,List.map_drop]
theorem qum (ns:List Int) (lo hi:Option Int):(cutL ns lo hi).length<=ns.length:=by
 unfold cutL;rw [z2g,z2h];omega
theorem qy3 (ns:List Int) (lo hi:Nat):(cutL ns (some (lo:Int)) (some (hi:Int))).length<=hi - lo:=by
 unfold cutL;rw [HT.sIx_nat,HT.sIx_nat,z2g];omega
theorem qgy {u x:List Str}:Up [u] x↔∀ w∈u,w∈x:=⟨λ ⟨f,hf,h⟩=>by rw [z1m.mp hf] at h;exact h,λ h=>⟨u,z1m.mpr rfl,h⟩⟩
theorem qgz {A B:List (List Str)} {x:List Str}:Up (A++B) x↔Up A x\/ Up B x:=by
 constructor
 ·rintro ⟨a,ha,h⟩;rcases z2u.mp ha with ha | ha
  ·exact .inl ⟨a,ha,h⟩
  ·exact .inr ⟨a,ha,h⟩
 ·rintro (⟨a,ha,h⟩ | ⟨a,ha,h⟩)
  ·exact ⟨a,z2u.mpr (.inl ha),h⟩
  ·exact ⟨a,z2u.mpr (.inr ha),h⟩
theorem q103 {D F:List (List Str)} {u o:List Str} (h:∀ x,Up D x↔Up F x) (hu:∀ x:List Str,(∀ w∈u,w∈x)↔∀ w∈o,w∈x):∀ x,Up (D.filter (λ r=> !decide (∀ x∈u,x∈r))++ [u]) x↔Up (F++ [o]) x:=λ x=>by
 rw [qgz,qgz,qgy,qgy,<- hu,<- h]
 constructor
 ·rintro (⟨r,hr,z⟩ | z)
  ·exact .inl ⟨r,(z2x.mp hr).1,z⟩
  ·exact .inr z
 ·rintro (⟨r,hr,z⟩ | z)
  ·by_cases q:∀ x∈u,x∈r
   ·exact .inr λ w hw=>z w (q w hw)
   ·exact .inl ⟨r,z2x.mpr ⟨hr,by rw [z2w q];rfl⟩,z⟩
  ·exact .inr z
theorem q104 {D F:List (List Str)} {u o:List Str} (h:∀ x,Up D x↔Up F x) (hu:∀ x:List Str,(∀ w∈u,w∈x)↔∀ w∈o,w∈x) (hw:∃ r∈D,∀ x∈r,x∈u):∀ x,Up D x↔Up (F++ [o]) x:=λ x=>by
 rw [qgz,qgy,<- hu,<- h]
 constructor
 ·exact .inl
 ·rintro (z | z)
  ·exact z
  ·obtain ⟨r,hr,q⟩:=hw;exact ⟨r,hr,λ w hw=>z w (q w hw)⟩
theorem vi {a b:Int} (h:decide (V.int a=V.int b)=true):a=b:=by
 have:=of_decide_eq_true h;injection this
theorem vin {a b:Int} (h:¬ decide (V.int a=V.int b)=true):a≠b:=λ e=>h (z3c (congrArg V.int e))
def q3e:Kd ->Int
 | .counts=>0
 | .costs=>1
 | .bests _=>2
 | .trusts _=>3
 | .truths=>4
 | .hands=>5
def ofK (m t:Int):Kd ->Prop
 | .bests n=>n=m
 | .trusts n=>n=t
 | _=>True
theorem q11o {c m t:Int} (h0:0<=c) (h6:c < 6) (hm:1<=m/\m<=9) (ht:0<=t):∃ k:Kd,q3e k=c/\ofK m t k/\k.ok:=by
 by_cases e0:c=0
 ·exact ⟨.counts,e0.symm,trivial,trivial⟩
 by_cases e1:c=1
 ·exact ⟨.costs,e1.symm,trivial,trivial⟩
 by_cases e2:c=2
 ·exact ⟨.bests m,e2.symm,zf,hm⟩
 by_cases e3:c=3
 ·exact ⟨.trusts t,e3.symm,zf,ht⟩
 by_cases e4:c=4
 ·exact ⟨.truths,e4.symm,trivial,trivial⟩
 exact ⟨.hands,by show 5=c;omega,trivial,trivial⟩
theorem q4g {H:Hp} {x dx C:Addr} {fs:List (Str×V)} (nx:H x=none) (D:H dx=none):Same H (upd (upd H dx (.own x)) x (.ins C dx fs)):=λ c o e=>by
 rw [qh (qr e nx),qh (qr e D)];exact e
def q11p (mg:Str ->Option Value):Sp:=λ vs H Q _=>∃ (k:Kd) (m t:Int),vs=[.int (q3e k),.int m,.int t]/\ofK m t k/\∀ o H',Same H H' ->ByAt mg H' o k ->Q (.ref o) H'
theorem qpx (T:Txt K mg):Def P w K mg base 3 "_law_by" ["_law_kind","_law_limit","_law_peak"] (q11p mg):=by
 refine T.qsr.ok qpm (λ vs H Q E h=> ?_) λ f cdv A outer s H vs Q E hr h=> ?_
 ·obtain ⟨k,m,t,rfl,_⟩:=h;rfl
 ·obtain ⟨k,m,t,rfl,hk,q⟩:=h;refine ⟨_,(q119
   (q1c (q12 q25 (pv 0) qf (q13 _)) (qg (qk (q9w T.qss T.qsu T.qsp rfl T.qvb))) q14)
   (q1c (q12 q25 (pv 0) qf (q13 _)) (qg (qk (q9w T.qv8 T.qve T.qv6 rfl T.qyl))) q14)
   (q1c (PW.pt (qkf (q12 q25 (pv 0) qf (q13 _)) (qfv (q12 q25 (pv 1) qf (q13 _))))) (qg (qk (qrf (qap T) T.qmc T.qm5 hr rfl T.qoj))) q14)
   (q1c (q12 q25 (pv 0) qf (q13 _)) (qg (qk (qrg (qap T) T.qmc T.qm5 hr rfl T.qoj (pa_1 (pv 1))))) q14)
   (q1c (PW.pt (qkf (q12 q25 (pv 0) qf (q13 _)) (qfv (q12 q25 (pv 2) qf (q13 _))))) (qg (qk (qrf (q9c T) T.qif T.qig hr rfl T.qmf))) q14)
   (q1c (q12 q25 (pv 0) qf (q13 _)) (qg (qk (qrg (q9c T) T.qif T.qig hr rfl T.qmf (pa_1 (pv 2))))) q14)
   (q1c (q12 q25 (pv 0) qf (q13 _)) (qg (qk (q9w T.qst T.qsq T.qsn rfl T.qv5))) q14)
   (qk (q9w T.qva T.qvd T.qvc rfl T.qym))),?_⟩
  cases k with
  | counts=>exact ⟨_,rfl,rfl,_,rfl,q1w rfl λ x dx nx D J=>q _ _ (q4g nx D) ⟨dx,qb⟩⟩
  | costs=>exact ⟨_,rfl,rfl,_,rfl,qu rfl ⟨_,rfl,rfl,_,rfl,q1w rfl λ x dx nx D J=>q _ _ (q4g nx D) ⟨dx,qb⟩⟩⟩
  | bests n=>
   cases (show n=m from hk)
   refine ⟨_,zf,zf,_,zf,qu rfl ⟨_,zf,zf,_,zf,qu rfl ⟨_,zf,zf,_,zf,q1w rfl ?_⟩⟩⟩;refine ⟨_,zf,zf,_,zf,ite2 (λ h=> ?_) (λ h=> ?_)⟩
   ·cases vi h
    intro x dx nx D J;refine ⟨x,dx,_,zf,qb,zf,?_⟩;rw [q63];exact q _ _ (q4g nx D) ⟨dx,qb⟩
   ·refine ⟨_,zf,zf,_,zf,q1w rfl ?_⟩;refine ⟨_,zf,λ x dx nx D J=> ?_⟩;refine ⟨x,dx,_,zf,qb,zf,?_⟩;rw [q63];exact q _ _ (q4g nx D) ⟨dx,qb⟩
  | trusts n=>
   cases (show n=t from hk)
   refine ⟨_,zf,zf,_,zf,qu rfl ⟨_,zf,zf,_,zf,qu rfl ⟨_,zf,zf,_,zf,qu rfl ⟨_,zf,zf,_,zf,qu rfl ⟨_,zf,zf,_,zf,q1w rfl ?_⟩⟩⟩⟩⟩;refine ⟨_,zf,zf,_,zf,ite2 (λ h=> ?_) (λ h=> ?_)⟩
   ·cases vi h
    intro x dx nx D J;refine ⟨x,dx,_,zf,qb,zf,?_⟩;rw [q63];exact q _ _ (q4g nx D) ⟨dx,qb⟩
   ·refine ⟨_,zf,zf,_,zf,q1w rfl ?_⟩;refine ⟨_,zf,λ x dx nx D J=> ?_⟩;refine ⟨x,dx,_,zf,qb,zf,?_⟩;rw [q63];exact q _ _ (q4g nx D) ⟨dx,qb⟩
  | truths=>
   refine ⟨_,zf,zf,_,zf,qu rfl ⟨_,zf,zf,_,zf,qu rfl ⟨_,zf,zf,_,zf,qu rfl ⟨_,zf,zf,_,zf,qu rfl ⟨_,zf,zf,_,zf,qu rfl ⟨_,zf,zf,_,zf,qu rfl ⟨_,zf,zf,_,zf,q1w rfl ?_⟩⟩⟩⟩⟩⟩⟩;exact λ x dx nx D J=>q _ _ (q4g nx D) ⟨dx,qb⟩
  | hands=>
   refine ⟨_,zf,zf,_,zf,qu rfl ⟨_,zf,zf,_,zf,qu rfl ⟨_,zf,zf,_,zf,qu rfl ⟨_,zf,zf,_,zf,qu rfl ⟨_,zf,zf,_,zf,qu rfl ⟨_,zf,zf,_,zf,qu rfl ⟨_,zf,zf,_,zf,qu rfl ?_⟩⟩⟩⟩⟩⟩⟩;exact λ x dx nx D J=>q _ _ (q4g nx D) ⟨dx,qb⟩
theorem qlo {ns:List Int} {i:Int} (h0:0<=i) (h1:i < (ns.length:Int)):atI (ns.map V.int) i=some (V.int (ns.getD i.toNat 0)):=by
 obtain ⟨j,rfl⟩:=z0m h0;exact q2m (by omega)
def absI (i:Int):Int:=if i < 0 then -i else i
theorem qun {W:List Str} {F:List (List Str)} (hW:HOk W) (h:∀ f∈F,∀ w∈f,w∈W):Of 7 W (q3s F):=⟨by decide,hW.few,hW.ne,λ r hr w hw=>by
 obtain ⟨⟨f,hf,rfl⟩,_⟩:=q6g.mp (q5f.mp hr);exact h f hf w ((q56 f w).mp hw)⟩
def repL (l:List Int) (j:Int):List Int:=(List.replicate j.toNat l).flatten
def repW:Kd ->Wo ->Int ->Wo
 | .counts,.num i,n=> .num (i*n)
 | .bests m,.nums l,n=> .nums (q1b m (repL l (if m < n then m else n)))
 | k,w,n=>if n=0 then noW k else eiW k w w
theorem qlp (l:List Int) {i j:Int} (hi:0<=i) (hj:0<=j):repL l (i+j)=repL l i++repL l j:=by
 unfold repL;rw [show (i+j).toNat=i.toNat+j.toNat by omega,<- List.replicate_append_replicate,List.flatten_append]
theorem quo {l:List Int} {j t:Int} (h:t∈repL l j):t∈l:=by
 obtain ⟨k,hk,D⟩:=List.mem_flatten.mp h;rw [(List.mem_replicate.mp hk).2] at D;exact D
theorem qi8 {l:List Int} {t:Int} (h:t∈l):∀ j:Nat,j<=upTo t ((List.replicate j l).flatten)
 | 0=>z4b _
 | j+1=>by
  rw [z1e,z27,qae];have:=qi8 h j;have:1<=upTo t l:=List.length_pos_of_mem (a:=t) (z2x.mpr ⟨h,z3c (z4a _)⟩);omega
theorem qea {m:Int} (l:List Int) {j:Int} (hm:0<=m) (hj:0<=j):q1b m (repL l (if m < j then m else j))=q1b m (repL l j):=by
  split
  · have e:repL l j=repL l (j - m)++repL l m:=by
      rw [<- qlp l (by omega) hm]
      congr 1
      omega
    rw [e];exact (q7i (S:=repL l m) (repL l (j - m)) λ t ht=>qi8 (quo ht) m.toNat).symm
  · rfl
section
variable {W:List Str} {k:Kd} {a:Wo}
theorem qo8 (h:qi W k a) (h1:q3e k≠0) (h2:q3e k≠2):eiW k a a=a:=by
 cases h with
 | counts h=>exact absurd rfl h1
 | costN i=>exact congrArg Wo.num (by split <;> omega)
 | costX=>rfl
 | bests h hl=>exact absurd rfl h2
 | trusts h h2=>exact congrArg Wo.num (by split <;> omega)
 | truths b=>exact congrArg Wo.tr (Bool.or_self _)
 | hands x o=>exact congrArg Wo.acc ((q4f λ _=>by rw [q5v,or_self]).trans (q5x x))
theorem q5i (hW:HOk W) (hk:k.ok) (h:qi W k a) {n:Int} (hn:0<=n):qi W k (repW k a n):=by
 cases h with
 | counts h=>exact .counts (z3k h hn)
 | bests h hl=>exact .bests (qbv _ _) (qe8 _ _)
 | costN i=>
  show qi W _ (if _ then _ else _);split
  ·exact q3j hW hk
  ·exact q4y (.costN i) (.costN i)
 | costX=>
  show qi W _ (if _ then _ else _);split
  ·exact q3j hW hk
  ·exact q4y .costX .costX
 | trusts h h2=>
  show qi W _ (if _ then _ else _);split
  ·exact q3j hW hk
  ·exact q4y (.trusts h h2) (.trusts h h2)
 | truths b=>
  show qi W _ (if _ then _ else _);split
  ·exact q3j hW hk
  ·exact q4y (.truths b) (.truths b)
 | hands x o=>
  show qi W _ (if _ then _ else _);split
  ·exact q3j hW hk
  ·exact q4y (.hands x o) (.hands x o)
theorem qbx (h:qi W k a) (h1:q3e k≠0) (h2:q3e k≠2) (n:Int):repW k a n=if n=0 then noW k else a:=by
 have e:=qo8 h h1 h2;cases h with
 | counts h=>exact absurd rfl h1
 | bests h hl=>exact absurd rfl h2
 | costN i=>show (if _ then _ else _)=_;rw [e]
 | costX=>rfl
 | trusts h h2=>show (if _ then _ else _)=_;rw [e]
 | truths b=>show (if _ then _ else _)=_;rw [e]
 | hands x o=>show (if _ then _ else _)=_;rw [e]
theorem qfd (hW:HOk W) (hk:k.ok) (h:qi W k a):repW k a 0=noW k:=by
 by_cases h1:q3e k=0
 ·cases h with
  | counts h=>exact congrArg Wo.num (Int.mul_zero _)
  | _=>cases h1
 by_cases h2:q3e k=2
 ·cases h with
  | @bests m l h hl=>
   have:1<=m:=hk.1;refine congrArg Wo.nums ?_;rw [if_neg (by omega)];exact q5w List.Pairwise.nil (z4b _)
  | _=>cases h2
 rw [qbx h h1 h2,if_pos rfl]
theorem q9g (hW:HOk W) (hk:k.ok) (h:qi W k a) {n p:Int} (hn:0<=n) (D:0<=p):repW k a (n+p)=eiW k (repW k a n) (repW k a p):=by
 by_cases h1:q3e k=0
 ·cases h with
  | counts h=>exact congrArg Wo.num (Int.mul_add _ _ _)
  | _=>cases h1
 by_cases h2:q3e k=2
 ·cases h with
  | @bests m l h hl=>
   have:1<=m:=hk.1;refine congrArg Wo.nums ?_;rw [q7n,q9d,qea l (by omega) (by omega),qlp l hn D];rw [<- q7n,<- q9d m _ (repL l p),<- qea l (by omega) hn,<- qea l (by omega) D,q7n,q9d]
  | _=>cases h2
 have gn:=q3j (k:=k) hW hk;rw [qbx h h1 h2,qbx h h1 h2,qbx h h1 h2];by_cases e1:n=0
 ·rw [if_pos e1,qag hW hk (by split;exact gn;exact h),e1,Int.zero_add]
 ·rw [if_neg e1,if_neg (by omega)];by_cases e2:p=0
  ·rw [if_pos e2,qjw h]
  ·rw [if_neg e2,qo8 h h1 h2]
end
def qah (mg:Str ->Option Value) (k:Kd):Sp:=λ vs H Q _=>∃ (o:Addr) (x:V) (n:Int) (a:Wo) (W:List Str),vs=[.ref o,x,.int n]/\ByAt mg H o k/\k.ok/\HOk W/\qi W k a/\WV H a x/\0<=n/\(k= .counts ->szW a < 2^600/\n < 2^600)/\∀ z H',Same H H' ->NewV H z ->WV H' (repW k a n) z ->Q z H'
theorem qby (T:Txt K mg):MDef P w K mg base 1 (cA mg "Counts") "repeated" ["self","worth","many"] (qah mg .counts):=by
 refine T.qcu.ok qbk (λ vs H Q E h=> ?_) λ f cdv A outer s H vs Q E hr h=> ?_
 ·obtain ⟨o,x,n,a,W,rfl,_⟩:=h;rfl
 ·obtain ⟨o,x,n,a,W,rfl,_,_,_,ga,va,hn,sz,q⟩:=h;have sz:=sz rfl;cases ga with | counts h=>
   cases va
   exact ⟨_,(qg (qk (qm qg2 (pv 1) (pv 2)))),⟨_,zf,_,zf,_,_,zf,zf,⟨⟨h,sz.1⟩,hn,sz.2⟩,q _ _ (Same.refl _) (q23 _) rfl⟩⟩
theorem qcp (T:Txt K mg) (m:Int):MDef P w K mg base 2 (cA mg "Bests") "repeated" ["self","worth","many"] (qah mg (.bests m)):=by
 refine T.qec.ok qcm (λ vs H Q E h=> ?_) λ f cdv A outer s H vs Q E hr h=> ?_
 ·obtain ⟨o,x,n,a,W,rfl,_⟩:=h;rfl
 ·obtain ⟨o,x,n,a,W,rfl,⟨dx,D⟩,hk,_,ga,va,hn,sz,q⟩:=h;cases ga with | @bests _ l h hl=>
   obtain ⟨p,rfl,e⟩:=va;have m9:m<=9:=hk.2;have m1:1<=m:=hk.1;have b0:0<=(if m < n then m else n):=by split <;> omega
   have b9:(if m < n then m else n)<=9:=by split <;> omega
   refine ⟨_,(qg (qk (qg4 (q43 T) T.q4i hr (pv 0) (pa_1 (qm qyz (pv 1) (qq (qb4 rfl) rfl T.b_min qkt (pa_2 (pv 2) (qb6 (pv 0) rfl)))))))),?_⟩;refine ⟨_,zf,o,dx,_,zf,D,zf,_,zf,_,zf,_,zf,o,_,dx,_,_,zf,D,T.q4i,T.q60,zf,_,_,zf,p,_,_,zf,zf,e,by omega,by omega,?_,λ c hc=> ?_⟩
   ·rw [z30];refine z41 (z3j (show l.length<=9 by omega) (show (if m < n then m else n).toNat<=9 by omega)) (by decide)
   ·have O:=qd (o:=HO.lst (List.replicate (if m < n then m else n).toNat (l.map V.int)).flatten) hc;refine ⟨o,c,m,repL l (if m < n then m else n),rfl,⟨dx,O _ _ D⟩,by omega,?_,λ l2 H' s' J e2=>q _ _ (O.trans s') (q3k (O.free J)) ⟨l2,rfl,e2⟩⟩;rw [qb]
    congr 2
    unfold repL;rw [List.map_flatten,List.map_replicate]
theorem qcq (T:Txt K mg):MDef P w K mg base 5 (cA mg "Costs") "repeated" ["self","worth","many"] (qah mg .costs):=by
 refine T.qed.ok qcl (λ vs H Q E h=> ?_) λ f cdv A outer s H vs Q E hr h=> ?_
 ·obtain ⟨o,x,n,a,W,rfl,_⟩:=h;rfl
 ·obtain ⟨o,x,n,a,W,rfl,⟨dx,D⟩,hk,_,J,va,hn,sz,q⟩:=h;have eq:repW .costs a n=if n=0 then noW .costs else eiW .costs a a:=by cases J <;> rfl
  rw [eq] at q;refine ⟨_,(q2z
   (q1c (q12 q25 (pv 2) qf (q13 _)) (qg (qk (q3l (q5g T) (q28 T) hr (pv 0)))) q14)
   (qk (q38 (q5h T) (q28 T) hr (pv 0) (pa_2 (pv 1) (pv 1))))),?_⟩
  refine ⟨_,zf,zf,_,zf,ite2 (λ h=> ?_) (λ h=> ?_)⟩
  ·rw [if_pos (vi h)] at q;exact ⟨_,zf,.costs,o,dx,_,zf,D,q9e .costs,o,zf,⟨dx,D⟩,λ z H' s' O Z=>q z H' s' O Z⟩
  ·rw [if_neg (vin h)] at q;exact ⟨_,zf,.costs,o,dx,_,zf,D,q9f .costs,_,zf,_,zf,o,_,_,a,a,W,zf,⟨dx,D⟩,hk,J,J,va,va,λ z H' s' O Z=>q z H' s' O Z⟩
theorem qbz (T:Txt K mg) (t:Int):MDef P w K mg base 5 (cA mg "Trusts") "repeated" ["self","worth","many"] (qah mg (.trusts t)):=by
 refine T.qcs.ok qbl (λ vs H Q E h=> ?_) λ f cdv A outer s H vs Q E hr h=> ?_
 ·obtain ⟨o,x,n,a,W,rfl,_⟩:=h;rfl
 ·obtain ⟨o,x,n,a,W,rfl,⟨dx,D⟩,hk,_,J,va,hn,sz,q⟩:=h;have eq:repW (.trusts t) a n=if n=0 then noW (.trusts t) else eiW (.trusts t) a a:=by cases J <;> rfl
  rw [eq] at q;refine ⟨_,(q2z
   (q1c (q12 q25 (pv 2) qf (q13 _)) (qg (qk (q3l (q5g T) (q28 T) hr (pv 0)))) q14)
   (qk (q38 (q5h T) (q28 T) hr (pv 0) (pa_2 (pv 1) (pv 1))))),?_⟩
  refine ⟨_,zf,zf,_,zf,ite2 (λ h=> ?_) (λ h=> ?_)⟩
  ·rw [if_pos (vi h)] at q;exact ⟨_,zf,(.trusts t),o,dx,_,zf,D,q9e (.trusts t),o,zf,⟨dx,D⟩,λ z H' s' O Z=>q z H' s' O Z⟩
  ·rw [if_neg (vin h)] at q;exact ⟨_,zf,(.trusts t),o,dx,_,zf,D,q9f (.trusts t),_,zf,_,zf,o,_,_,a,a,W,zf,⟨dx,D⟩,hk,J,J,va,va,λ z H' s' O Z=>q z H' s' O Z⟩
theorem qc0 (T:Txt K mg):MDef P w K mg base 5 (cA mg "Truths") "repeated" ["self","worth","many"] (qah mg .truths):=by
 refine T.qct.ok qbm (λ vs H Q E h=> ?_) λ f cdv A outer s H vs Q E hr h=> ?_
 ·obtain ⟨o,x,n,a,W,rfl,_⟩:=h;rfl
 ·obtain ⟨o,x,n,a,W,rfl,⟨dx,D⟩,hk,_,J,va,hn,sz,q⟩:=h;have eq:repW .truths a n=if n=0 then noW .truths else eiW .truths a a:=by cases J <;> rfl
  rw [eq] at q;refine ⟨_,(q2z
   (q1c (q12 q25 (pv 2) qf (q13 _)) (qg (qk (q3l (q5g T) (q28 T) hr (pv 0)))) q14)
   (qk (q38 (q5h T) (q28 T) hr (pv 0) (pa_2 (pv 1) (pv 1))))),?_⟩
  refine ⟨_,zf,zf,_,zf,ite2 (λ h=> ?_) (λ h=> ?_)⟩
  ·rw [if_pos (vi h)] at q;exact ⟨_,zf,.truths,o,dx,_,zf,D,q9e .truths,o,zf,⟨dx,D⟩,λ z H' s' O Z=>q z H' s' O Z⟩
  ·rw [if_neg (vin h)] at q;exact ⟨_,zf,.truths,o,dx,_,zf,D,q9f .truths,_,zf,_,zf,o,_,_,a,a,W,zf,⟨dx,D⟩,hk,J,J,va,va,λ z H' s' O Z=>q z H' s' O Z⟩
theorem qcr (T:Txt K mg):MDef P w K mg base 5 (cA mg "Hands") "repeated" ["self","worth","many"] (qah mg .hands):=by
 refine T.qee.ok qcn (λ vs H Q E h=> ?_) λ f cdv A outer s H vs Q E hr h=> ?_
 ·obtain ⟨o,x,n,a,W,rfl,_⟩:=h;rfl
 ·obtain ⟨o,x,n,a,W,rfl,⟨dx,D⟩,hk,_,J,va,hn,sz,q⟩:=h;have eq:repW .hands a n=if n=0 then noW .hands else eiW .hands a a:=by cases J <;> rfl
  rw [eq] at q;refine ⟨_,(q2z
   (q1c (q12 q25 (pv 2) qf (q13 _)) (qg (qk (q3l (q5g T) (q28 T) hr (pv 0)))) q14)
   (qk (q38 (q5h T) (q28 T) hr (pv 0) (pa_2 (pv 1) (pv 1))))),?_⟩
  refine ⟨_,zf,zf,_,zf,ite2 (λ h=> ?_) (λ h=> ?_)⟩
  ·rw [if_pos (vi h)] at q;exact ⟨_,zf,.hands,o,dx,_,zf,D,q9e .hands,o,zf,⟨dx,D⟩,λ z H' s' O Z=>q z H' s' O Z⟩
  ·rw [if_neg (vin h)] at q;exact ⟨_,zf,.hands,o,dx,_,zf,D,q9f .hands,_,zf,_,zf,o,_,_,a,a,W,zf,⟨dx,D⟩,hk,J,J,va,va,λ z H' s' O Z=>q z H' s' O Z⟩
theorem qn7 (T:Txt K mg) (k:Kd):MDef P w K mg base 5 (clsK mg k) "repeated" ["self","worth","many"] (qah mg k):=by
 cases k with
 | counts=>exact MDef.mono (qby T) (by decide)
 | costs=>exact qcq T
 | bests m=>exact MDef.mono (qcp T m) (by decide)
 | trusts t=>exact qbz T t
 | truths=>exact qc0 T
 | hands=>exact qcr T
def small:Str:="abcdefghijklmnopqrstuvwxyz"
def q9h (fs:Str):List Nat ->Bool
 | []=>false
 | c::r=>decide (c∈fs.cps.toList)&&r.all λ d=>decide (d∈fur.cps.toList)
def txtB (fs z:Str):Bool:=decide (1<=z.length)&&decide (z.length<=12)&&q9h fs z.cps.toList
def txtD (fs:Str):PyData ->Bool
 | .str z=>txtB fs z
 | _=>false
def q4h:PyData ->Bool
 | .int _=>true
 | _=>false
def shD:PyData ->Prop
 | .str z=>z.length<=200
 | _=>True
theorem qy4 {K:PySem.W.Frag} {H:Hp} {d:PyData} {x:V} (h:Dat K H d x):(∃ z,d= .str z/\x= .str z)\/ (tyIs (tyD d) "str"=false/\∀ fs,txtD fs d=false):=by
 cases h with
 | str z _=>exact .inl ⟨z,rfl,rfl⟩
 | non=>exact .inr ⟨rfl,λ _=>rfl⟩
 | bl _=>exact .inr ⟨rfl,λ _=>rfl⟩
 | int _=>exact .inr ⟨rfl,λ _=>rfl⟩
 | lst _ _=>exact .inr ⟨rfl,λ _=>rfl⟩
 | tup _ _=>exact .inr ⟨rfl,λ _=>rfl⟩
theorem qlq {fs z:Str} (h:¬ (1<=z.length/\z.length<=12)):txtB fs z=false:=by
 unfold txtB;by_cases h1:1<=z.length
 ·have h2:¬ z.length<=12:=λ q=>h ⟨h1,q⟩;simp [h2]
 ·simp [h1]
theorem qo9 {fs z:Str} (h1:1<=z.length) (h2:z.length<=12):txtB fs z=q9h fs z.cps.toList:=by
 unfold txtB;simp [h1,h2]
theorem qfe {z:Str} (h:1<=z.length):∃ c r,z.cps.toList=c::r:=by
 have:=qa8 z;cases e:z.cps.toList with
 | nil=>rw [e] at this;simp at this;omega
 | cons c r=>exact ⟨c,r,rfl⟩
theorem qup {z:Str} (h:1<=z.length):(cutS z (some 1) none).cps.toList=z.cps.toList.tail:=by
 have e1:HT.sIx z.length 0 (some 1)=1:=by
  have:=HT.sIx_nat z.length 0 1;rw [show ((1:Nat):Int)=1 from rfl] at this;rw [this];omega
 have hl:=qa8 z;unfold cutS;rw [e1,HT.sIx_none];show ((z.cps.toList.drop 1).take (z.length - 1)).toArray.toList=_;rw [z1g,z0n (by rw [z2h];omega),List.drop_one]
def quq (K:PySem.W.Frag):Sp:=λ vs H Q _=>∃ x fs d,vs=[x,.str fs]/\Dat K H d x/\shD d/\∀ H',Same H H' ->Q (.bl (txtD fs d)) H'
theorem qas (T:Txt K mg):Def P w K mg base 1 "is_text_begun_by" ["thing","first_signs"] (quq K):=by
 refine T.qc7.ok qaq (λ vs H Q E h=> ?_) λ f cdv A outer s H vs Q E hr h=> ?_
 ·obtain ⟨x,fs,d,rfl,_⟩:=h;rfl
 ·obtain ⟨x,fs,d,rfl,hd,hz,k⟩:=h;refine ⟨_,(q2z
   (q1c (PW.pt (q9n (q2w (q3g (qq (q2e K) rfl T.q1p q1i (pa_2 (pv 0) (q5l rfl T.b_str qzd))))) (q7r (q2w (qt9 qjs qjs qf (qq (q2y K) rfl T.b_len q46 (pa_1 (pv 0))) (q117 rfl T.qmh)))))) (qg (qk q2v)) q14)
   (qk (q7s (q3y qhh (q1g qkl (pv 0) qf (λ _ _=>rfl)) (pv 1) (by with_unfolding_all rfl)) (q5j (qq (q8r rfl K) rfl T.b_all qeq (pa_1 (q29 (N:=["sign"]) (caps:=[none]) rfl (by with_unfolding_all rfl) (qz6 (q45 qz7 (pv 0) (q3z qf) q7k)) (λ _ _ _ _ _=>(qx (i:=0) (show (["sign"]:List Str).Nodup by decide+kernel) rfl (Or.inl rfl))) (λ _ _ _ _ _=>q3v) (λ _ _ _ _ _=>(q3y qhh (pv 0) (qju rfl T.qfo) (by with_unfolding_all rfl)))))))))),?_⟩
  rcases qy4 hd with ⟨z,rfl,rfl⟩ | ⟨ty,hn⟩
  ·have hz:z.length<=200:=hz;have O:z.length<=sizeLine:=z41 hz (by decide);have no:¬ (1<=z.length/\z.length<=12) ->Q (.bl false) H:=λ q=>by
    have:=k H (Same.refl H);rw [show txtD fs (.str z)=false from qlq q] at this;exact this
   refine ⟨_,zf,_,_,_,zf,hd,by decide,_,zf,?_⟩;refine qu (show (!tyIs "str" "str")=false by decide) ?_;refine ⟨_,zf,_,_,zf,⟨O,zf⟩,_,_,zf,zf,_,zf,?_⟩;refine ite2 (λ h1=> ?_) (λ h1=> ?_)
   ·refine ⟨_,_,zf,zf,_,zf,?_⟩;refine ite2 (λ h2=> ?_) (λ h2=> ?_)
    ·exact no λ q=>by simp at h2;omega
    ·have l1:1<=z.length:=by simp at h1;omega
     have l2:z.length<=12:=by simp at h2;omega
     obtain ⟨c,r,J⟩:=qfe l1;have et:txtD fs (.str z)=q9h fs z.cps.toList:=qo9 (fs:=fs) l1 l2;rw [J] at et;refine ⟨_,rfl,_,_,c,rfl,rfl,O,(by rw [J];exact q4k (j:=0) rfl),_,rfl,_,_,rfl,rfl,_,rfl,?_⟩;rw [StrLaws.found_one];refine ite2 (λ h3=> ?_) (λ h3=> ?_)
     ·refine ⟨_,zf,_,zf,_,zf,O,_,zf,λ D hD=> ?_⟩;have Z:(cutS z (some 1) none).cps.toList=r:=by rw [qup l1,J];rfl
      have hrl:r.length<=12:=by
       have:=qa8 z;rw [J,z2i] at this;omega
      have a0:(cutS z (some 1) none).cps.size=r.length:=by rw [<- Z,z19]
      refine q1x r.length (λ i σ' H'=>(∃ v,σ'=[v])/\H'=upd H D (.lst ((r.take i).map λ c=>V.bl (decide (c∈fur.cps.toList))))) ⟨⟨_,rfl⟩,rfl⟩ (λ i σ' H' hi _=>by show i < _;rw [a0];exact hi) (λ σ' H' p=>⟨a0.symm,?_⟩) (λ i σ' H' hi p x H2 y=> ?_)
      ·obtain ⟨_,rfl⟩:=p;refine ⟨D,r.map λ c=>decide (c∈fur.cps.toList),rfl,SqL.of (by rw [qb,z2t,z47];rfl),?_⟩;have:=k (upd H D (.lst ((r.take r.length).map λ c=>V.bl (decide (c∈fur.cps.toList))))) (qd hD);rw [et] at this;have e2:q9h fs (c::r)=(r.map λ c=>decide (c∈fur.cps.toList)).all id:=by
        show (decide (c∈fs.cps.toList)&&_)=_;rw [h3,z3t,z46];rfl
       rw [e2] at this;exact this
      ·obtain ⟨⟨v,rfl⟩,rfl⟩:=p;obtain ⟨rfl,c',hc,rfl⟩:=y;have a1:r[i]? =some c':=by rw [<- Z,z0x];exact hc
       refine ⟨_,zf,_,_,zf,zf,_,qb,?_,⟨_,zf⟩,?_⟩
       ·rw [z30,z2g];exact q1v (by omega)
       ·rw [q63,StrLaws.found_one,z3h,a1,z36];rfl
     ·have:=k H (Same.refl H);rw [et] at this;have e2:q9h fs (c::r)=false:=by
       show (decide (c∈fs.cps.toList)&&_)=_;rw [Bool.eq_false_iff.mpr h3,z3e]
      rw [e2] at this;exact this
   ·refine ⟨_,zf,iteT ?_⟩;exact no λ q=>by simp at h1;omega
  ·refine ⟨_,zf,_,_,_,zf,hd,by decide,_,zf,?_⟩;refine q1w (by rw [ty];rfl) (iteT ?_);have:=k H (Same.refl H);rw [hn] at this;exact this
def qy5 (K:PySem.W.Frag) (fs:Str):Sp:=λ vs H Q _=>∃ x d,vs=[x]/\Dat K H d x/\shD d/\∀ H',Same H H' ->Q (.bl (txtD fs d)) H'
theorem qpy (T:Txt K mg):Def P w K mg base 2 "is_word" ["thing"] (qy5 K small):=by
 refine T.qsv.ok qpk (λ vs H Q E h=> ?_) λ f cdv A outer s H vs Q E hr h=> ?_
 ·obtain ⟨x,d,rfl,_⟩:=h;rfl
 ·obtain ⟨x,d,rfl,hd,hz,k⟩:=h;refine ⟨_,(qg (qk (qp (qas T) hr rfl (pa_2 (pv 0) (qju rfl T.qfr))))),?_⟩;exact ⟨_,zf,_,_,d,zf,hd,hz,k⟩
def qur (K:PySem.W.Frag):Sp:=λ vs H Q _=>∃ x d,vs=[x]/\Dat K H d x/\Q (.bl (q4h d)) H
theorem q6p (T:Txt K mg):Def P w K mg base 1 "is_whole" ["thing"] (qur K):=by
 refine T.qq5.ok qn2 (λ vs H Q E h=> ?_) λ f cdv A outer s H vs Q E hr h=> ?_
 ·obtain ⟨x,d,rfl,_⟩:=h;rfl
 ·obtain ⟨x,d,rfl,hd,k⟩:=h;refine ⟨_,(qg (qk (q7s (qq (q2e K) rfl T.q1p q1i (pa_2 (pv 0) (q5l rfl T.b_int qze))) (q5j (qyt (qq (q2e K) rfl T.q1p q1i (pa_2 (pv 0) (q5l rfl T.qfm qcd)))))))),?_⟩;refine ⟨_,zf,_,_,_,zf,hd,by decide,_,zf,ite2 (λ h1=> ?_) (λ h1=> ?_)⟩
  ·refine ⟨_,zf,_,_,_,zf,hd,by decide,_,zf,?_⟩;cases hd <;> first | exact k | (exact absurd h1 z1l)
  ·cases hd <;> first | exact k | (exact absurd rfl h1)
def strD:PyData ->Str
 | .str z=>z
 | _=>endW
def intD:PyData ->Int
 | .int i=>i
 | _=>0
def setD:PyData ->List Str
 | .tuple es=>es.map strD
 | _=>[]
def twB:PyData ->Bool
 | .tuple es=>es.all (txtD small)
 | _=>false
def accB:PyData ->Bool
 | .list ds=>ds.all twB&&decide (ds.map setD=q3s (ds.map setD))
 | _=>false
def fitB:Kd ->PyData ->Bool
 | .counts,.int i=>decide (0<=i)
 | .costs,.none=>true
 | .costs,.int _=>true
 | .bests m,.list ds=>decide ((ds.length:Int)<=m)&&(ds.all q4h&&decide (ds.map intD=Tim.srt q18 (ds.map intD)))
 | .trusts t,.int i=>decide (0<=i)&&decide (i<=t)
 | .truths,.bool _=>true
 | .hands,d=>accB d
 | _,_=>false
def okT:PyData ->Prop
 | .tuple es=>es.length<=10/\∀ x∈es,shD x
 | _=>True
def okF:PyData ->Prop
 | .list ds=>ds.length<=2000/\∀ e∈ds,okT e
 | _=>True
theorem qc1 {K:PySem.W.Frag} {H:Hp} {d:PyData} {x:V} (h:Dat K H d x):(∃ i,d= .int i/\x= .int i)\/ (q4h d=false/\∀ i,d≠ .int i):=by
 cases h with
 | int i=>exact .inl ⟨i,rfl,rfl⟩
 | non=>exact .inr ⟨rfl,λ _ z=>nomatch z⟩
 | bl _=>exact .inr ⟨rfl,λ _ z=>nomatch z⟩
 | str _ _=>exact .inr ⟨rfl,λ _ z=>nomatch z⟩
 | lst _ _=>exact .inr ⟨rfl,λ _ z=>nomatch z⟩
 | tup _ _=>exact .inr ⟨rfl,λ _ z=>nomatch z⟩
theorem qoa {K:PySem.W.Frag} {H:Hp} {d:PyData} {x:V} (h:Dat K H d x):(∃ a xs ds,d= .list ds/\x= .ref a/\SqL K H a xs/\Dats K H ds xs)\/ (tyIs (tyD d) "list"=false/\(∀ ds,d≠ .list ds)):=by
 cases h with
 | lst a b=>exact .inl ⟨_,_,_,rfl,rfl,a,b⟩
 | non=>exact .inr ⟨rfl,λ _ z=>nomatch z⟩
 | bl _=>exact .inr ⟨rfl,λ _ z=>nomatch z⟩
 | int _=>exact .inr ⟨rfl,λ _ z=>nomatch z⟩
 | str _ _=>exact .inr ⟨rfl,λ _ z=>nomatch z⟩
 | tup _ _=>exact .inr ⟨rfl,λ _ z=>nomatch z⟩
theorem qlr {K:PySem.W.Frag} {H:Hp} {d:PyData} {x:V} (h:Dat K H d x):(∃ a xs ds,d= .tuple ds/\x= .ref a/\SqT K H a xs/\Dats K H ds xs)\/ (tyIs (tyD d) "tuple"=false/\twB d=false):=by
 cases h with
 | tup a b=>exact .inl ⟨_,_,_,rfl,rfl,a,b⟩
 | non=>exact .inr ⟨rfl,rfl⟩
 | bl _=>exact .inr ⟨rfl,rfl⟩
 | int _=>exact .inr ⟨rfl,rfl⟩
 | str _ _=>exact .inr ⟨rfl,rfl⟩
 | lst _ _=>exact .inr ⟨rfl,rfl⟩
theorem qff {K:PySem.W.Frag} {H:Hp}:∀ {ds:List PyData} {xs:List V},Dats K H ds xs ->ds.all q4h=true ->xs=(ds.map intD).map V.int/\ds=(ds.map intD).map PyData.int
 | _,_,.nil,_=>⟨rfl,rfl⟩
 | d::ds,x::xs,.cons h t,e=>by
  rw [List.all_cons,z2m] at e;rcases qc1 h with ⟨i,rfl,rfl⟩ | ⟨n,_⟩
  ·obtain ⟨a,b⟩:=qff t e.2;exact ⟨by rw [z3l,z3l,<- a];rfl,by rw [z3l,z3l,<- b];rfl⟩
  ·rw [n] at e;exact absurd e.1 z1l
theorem qfg {K:PySem.W.Frag} {H:Hp}:∀ {es:List PyData} {xs:List V},Dats K H es xs ->es.all (txtD small)=true ->xs=(es.map strD).map V.str/\es=(es.map strD).map PyData.str/\(∀ w∈es.map strD,PyData.strOk w=true/\txtB small w=true)
 | _,_,.nil,_=>⟨rfl,rfl,λ _ z=>nomatch z⟩
 | d::ds,x::xs,.cons h t,e=>by
  rw [List.all_cons,z2m] at e;cases h with
  | str z hz=>
   obtain ⟨a,b,c⟩:=qfg t e.2;refine ⟨by rw [z3l,z3l,<- a];rfl,by rw [z3l,z3l,<- b];rfl,λ w hw=> ?_⟩;rcases z3n.mp hw with rfl | hw
   ·exact ⟨hz,e.1⟩
   ·exact c w hw
  | non=>exact absurd e.1 z1l
  | bl _=>exact absurd e.1 z1l
  | int _=>exact absurd e.1 z1l
  | lst _ _=>exact absurd e.1 z1l
  | tup _ _=>exact absurd e.1 z1l
theorem qob {K:PySem.W.Frag} {H:Hp}:∀ {ds:List PyData} {xs:List V},Dats K H ds xs ->ds.all twB=true ->qci K H xs (ds.map setD)/\ds=(ds.map setD).map dR/\∀ s∈ds.map setD,∀ w∈s,PyData.strOk w=true/\txtB small w=true
 | _,_,.nil,_=>⟨.nil,rfl,λ _ z=>nomatch z⟩
 | d::ds,x::xs,.cons h t,e=>by
  rw [List.all_cons,z2m] at e;rcases qlr h with ⟨a,ys,es,rfl,rfl,O,D⟩ | ⟨_,n⟩
  ·obtain ⟨b,c,g⟩:=qob t e.2;obtain ⟨b1,c1,g1⟩:=qfg D e.1;refine ⟨.cons ⟨a,rfl,by rw [b1] at O;exact O⟩ b,?_,λ s J=> ?_⟩
   ·rw [z3l,z3l,<- c];exact congrArg (· ::ds) (congrArg PyData.tuple c1)
   ·rcases z3n.mp J with rfl | J
    ·exact g1
    ·exact g s J
  ·rw [n] at e;exact absurd e.1 z1l
theorem qi9:∀ p q:List Str,PyData.eqvAll (p.map .str) (q.map .str)=decide (p=q)
 | [],[]=>by rw [z44,PyData.eqvAll];rfl
 | [],_::_=>by rw [z44,z3l,PyData.eqvAll];rfl
 | _::_,[]=>by rw [z44,z3l,PyData.eqvAll];rfl
 | x::p,y::q=>by
  have es:PyData.eqv (.str x) (.str y)=decide (x=y):=by
   show (x==y)=_;by_cases h:x=y <;> simp [h]
  rw [z3l,z3l,PyData.eqvAll,es,qi9 p q];by_cases h:x=y
  ·by_cases h2:p=q <;> simp [h,h2]
  ·simp [h]
theorem qia:∀ p q:List (List Str),PyData.eqvAll (p.map dR) (q.map dR)=decide (p=q)
 | [],[]=>by rw [z44,PyData.eqvAll];rfl
 | [],_::_=>by rw [z44,z3l,PyData.eqvAll];rfl
 | _::_,[]=>by rw [z44,z3l,PyData.eqvAll];rfl
 | x::p,y::q=>by
  have es:PyData.eqv (dR x) (dR y)=decide (x=y):=by
   unfold dR;rw [PyData.eqv,qi9]
  rw [z3l,z3l,PyData.eqvAll,es,qia p q];by_cases h:x=y
  ·by_cases h2:p=q <;> simp [h,h2]
  ·simp [h]
theorem qib:∀ p q:List Int,PyData.eqvAll (p.map .int) (q.map .int)=decide (p=q)
 | [],[]=>by rw [z44,PyData.eqvAll];rfl
 | [],_::_=>by rw [z44,z3l,PyData.eqvAll];rfl
 | _::_,[]=>by rw [z44,z3l,PyData.eqvAll];rfl
 | x::p,y::q=>by
  have es:PyData.eqv (.int x) (.int y)=decide (x=y):=by
   show (x==y)=_;by_cases h:x=y <;> simp [h]
  rw [z3l,z3l,PyData.eqvAll,es,qib p q];by_cases h:x=y
  ·by_cases h2:p=q <;> simp [h,h2]
  ·simp [h]
theorem q105 {z:Str} (h:txtB small z=true):z≠endW:=λ e=>by
 subst e;exact absurd h (by decide+kernel)
def q8h (K:PySem.W.Frag) (mg:Str ->Option Value) (k:Kd):Sp:=λ vs H Q _=>∃ (o:Addr) (x:V) (d:PyData),vs=[.ref o,x]/\ByAt mg H o k/\Dat K H d x/\okF d/\∀ H',Same H H' ->Q (.bl (fitB k d)) H'
theorem qh0 (T:Txt K mg):MDef P w K mg base 2 (cA mg "Counts") "fits" ["self","thing"] (q8h K mg .counts):=by
 refine T.qjm.ok qga (λ vs H Q E h=> ?_) λ f cdv A outer s H vs Q E hr h=> ?_
 ·obtain ⟨o,x,d,rfl,_⟩:=h;rfl
 ·obtain ⟨o,x,d,rfl,_,hd,_,q⟩:=h;refine ⟨_,(qg (qk (q7s (qp (q6p T) hr rfl (pa_1 (pv 1))) (q5j (q3y q110 (pv 1) qf (q13 _)))))),?_⟩;have q:=q H (Same.refl H);refine ⟨_,zf,x,d,zf,hd,_,zf,?_⟩;rcases qc1 hd with ⟨i,rfl,rfl⟩ | ⟨n,hn⟩
  ·exact q1w rfl ⟨_,zf,_,_,zf,zf,q⟩
  ·refine qu n ?_;have e:fitB .counts d=false:=by
    cases d with
    | int i=>exact absurd rfl (hn i)
    | _=>rfl
   rw [e] at q;exact q
theorem qj5 (T:Txt K mg):MDef P w K mg base 2 (cA mg "Costs") "fits" ["self","thing"] (q8h K mg .costs):=by
 refine T.qm7.ok qip (λ vs H Q E h=> ?_) λ f cdv A outer s H vs Q E hr h=> ?_
 ·obtain ⟨o,x,d,rfl,_⟩:=h;rfl
 ·obtain ⟨o,x,d,rfl,_,hd,_,q⟩:=h;refine ⟨_,(qg (qk (qvg (q3y q7t (pv 1) q4t (q13 _)) (q5j (qp (q6p T) hr rfl (pa_1 (pv 1))))))),?_⟩;have q:=q H (Same.refl H);refine ⟨_,zf,zf,_,zf,?_⟩;cases hd with
  | non=>exact q1w rfl q
  | bl b=>exact qu rfl ⟨_,rfl,_,_,rfl,.bl b,q⟩
  | int i=>exact qu rfl ⟨_,rfl,_,_,rfl,.int i,q⟩
  | str z hz=>exact qu rfl ⟨_,rfl,_,_,rfl,.str z hz,q⟩
  | lst a b=>exact qu rfl ⟨_,rfl,_,_,rfl,.lst a b,q⟩
  | tup a b=>exact qu rfl ⟨_,rfl,_,_,rfl,.tup a b,q⟩
theorem qh1 (T:Txt K mg) (t:Int):MDef P w K mg base 2 (cA mg "Trusts") "fits" ["self","thing"] (q8h K mg (.trusts t)):=by
  refine T.qjg.ok qge (λ vs H Q E h=> ?_) λ f cdv A outer s H vs Q E hr h=> ?_
  · obtain ⟨o,x,d,rfl,_⟩:=h
    rfl
  · obtain ⟨o,x,d,rfl,⟨dx,hp⟩,hd,_,q⟩:=h
    refine ⟨_,(qg (qk (q7s (qp (q6p T) hr rfl (pa_1 (pv 1))) (q5j (qt8 qjs qjs qf (pv 1) (qb6 (pv 0) rfl)))))),?_⟩;have q:=q H (Same.refl H);refine ⟨_,zf,x,d,zf,hd,_,zf,?_⟩;rcases qc1 hd with ⟨i,rfl,rfl⟩ | ⟨n,hn⟩
    · refine q1w rfl ⟨_,zf,_,_,zf,zf,_,zf,ite2 (λ h1=> ?_) (λ h1=> ?_)⟩
      · refine ⟨_,zf,o,_,dx,_,_,zf,hp,T.q8w,T.q8j,zf,_,_,zf,zf,?_⟩
        have e:fitB (.trusts t) (.int i)=decide (i<=t):=by
          show (decide (0<=i)&&decide (i<=t))=_;rw [h1,z3t]
        rw [e] at q;exact q
      · have e:fitB (.trusts t) (.int i)=false:=by
          show (decide (0<=i)&&decide (i<=t))=_;rw [Bool.eq_false_iff.mpr h1,z3e]
        rw [e] at q;exact q
    · refine qu n ?_
      have e:fitB (.trusts t) d=false:=by
        cases d with
        | int i=>exact absurd rfl (hn i)
        | _=>rfl
      rw [e] at q;exact q
theorem qh2 (T:Txt K mg):MDef P w K mg base 1 (cA mg "Truths") "fits" ["self","thing"] (q8h K mg .truths):=by
 refine T.qjh.ok qgh (λ vs H Q E h=> ?_) λ f cdv A outer s H vs Q E hr h=> ?_
 ·obtain ⟨o,x,d,rfl,_⟩:=h;rfl
 ·obtain ⟨o,x,d,rfl,_,hd,_,q⟩:=h;refine ⟨_,(qg (qk (qq (q2e K) rfl T.q1p q1i (pa_2 (pv 1) (q5l rfl T.qfm qcd))))),?_⟩;have q:=q H (Same.refl H);refine ⟨_,zf,x,_,d,zf,hd,by decide,?_⟩;cases hd <;> exact q
theorem qj6 (T:Txt K mg) (m:Int):MDef P w K mg base 2 (cA mg "Bests") "fits" ["self","thing"] (q8h K mg (.bests m)):=by
 refine T.qme.ok qit (λ vs H Q E h=> ?_) λ f cdv A outer s H vs Q E hr h=> ?_
 ·obtain ⟨o,x,d,rfl,_⟩:=h;rfl
 ·obtain ⟨o,x,d,rfl,⟨dx,hp⟩,hd,hz,q⟩:=h;refine ⟨_,(q2z
   (q1c (PW.pt (q9n (q2w (q3g (qq (q2e K) rfl T.q1p q1i (pa_2 (pv 1) (q5l rfl T.q50 q40))))) (q7r (q12 qot (qq (q2y K) rfl T.b_len q46 (pa_1 (pv 1))) (qb6 (pv 0) rfl) (q13 _))))) (qg (qk q2v)) q14)
   (qk (q7s (qq (q8r rfl K) rfl T.b_all qeq (pa_1 (q29 (N:=["part"]) (caps:=[none]) rfl (by with_unfolding_all rfl) (q19 K (pv 1)) (λ _ _ _ _ _=>(qx (i:=0) (show (["part"]:List Str).Nodup by decide+kernel) rfl (Or.inl rfl))) (λ _ _ _ _ _=>q3v) (λ _ _ _ _ _=>(qp (q6p T) hr rfl (pa_1 (pv 0))))))) (q5j (q3y (qku hr.units K) (pv 1) (qq (q7z K) rfl T.q2c q22 (pa_1 (pv 1))) (q13 _)))))),?_⟩
  refine ⟨_,zf,x,_,d,zf,hd,by decide,_,zf,?_⟩;rcases qoa hd with ⟨a,xs,ds,rfl,rfl,hl,O⟩ | ⟨ty,hn⟩
  ·refine qu (show (!tyIs "list" "list")=false by decide) ?_;have el:=qaa O;have hz1:ds.length<=2000:=hz.1;refine ⟨_,zf,_,_,zf,.inl ⟨_,hl,zf⟩,_,zf,o,_,dx,_,_,zf,hp,T.q4i,T.q60,zf,_,_,zf,zf,_,zf,?_⟩;rw [<- el];refine ite2 (λ h1=> ?_) (λ h1=> ?_)
   ·have q:=q H (Same.refl H);have e:fitB (.bests m) (.list ds)=false:=by
     have:¬ (ds.length:Int)<=m:=Int.not_le.mpr (of_decide_eq_true h1);show (decide ((ds.length:Int)<=m)&&_)=false;rw [z2w this,z3e]
    rw [e] at q;exact q
   ·have hm:(ds.length:Int)<=m:=Int.not_lt.mp λ z=>h1 (z3c z);refine ⟨_,zf,a,zf,⟨_,hl⟩,λ D hD=> ?_⟩;refine q1x xs.length (λ i σ' H'=>(∃ v,σ'=[v])/\Same H H'/\H' D=some (.lst (((ds.take i).map q4h).map V.bl))) ⟨⟨_,zf⟩,qd hD,qb⟩ (λ i σ' H' hi p=> ?_) (λ σ' H' p=>⟨?_,?_⟩) (λ i σ' H' hi p x H2 y=> ?_)
    ·obtain ⟨_,J,_⟩:=p;exact ⟨xs,xs[i],J.seq hl,z0d hi⟩
    ·obtain ⟨_,J,_⟩:=p;exact ⟨xs,J.seq hl,z48 _⟩
    ·obtain ⟨_,J,e⟩:=p;refine ⟨D,ds.map q4h,rfl,SqL.of (by rw [e,<- el,z2t]),_,rfl,?_⟩;have e2:(ds.map q4h).all id=ds.all q4h:=by rw [z46];rfl
     rw [e2];have ef:fitB (.bests m) (.list ds)=(ds.all q4h&&decide (ds.map intD=Tim.srt q18 (ds.map intD))):=by
      show (decide ((ds.length:Int)<=m)&&_)=_;rw [z3c hm,z3t]
     refine ite2 (λ h2=> ?_) (λ h2=> ?_)
     ·obtain ⟨ex,ed⟩:=qff O h2;refine ⟨_,rfl,_,rfl,a,ds.map intD,rfl,.inl (by rw [<- ex];exact J.seq hl),λ l a1=> ?_⟩;have s2:=qd (o:=HO.lst ((Tim.srt q18 (ds.map intD)).map V.int)) a1;have sA:=J.trans s2;refine ⟨.list ((ds.map intD).map .int),.list ((Tim.srt q18 (ds.map intD)).map .int),?_,.lst (SqL.of qb) (qbn _),?_,?_⟩
      ·rw [<- ed];exact Dat.same sA _ _ hd
      ·show PyData.depthAll ((ds.map intD).map .int)+1<=60;rw [qf2];decide
      ·have q:=q _ sA;rw [ef,h2,z3t,<- qib] at q;exact q
     ·have q:=q _ J;rw [ef,Bool.eq_false_iff.mpr h2,z3e] at q;exact q
    ·obtain ⟨⟨v,rfl⟩,J,e⟩:=p;obtain ⟨rfl,hx⟩:=y;obtain ⟨d,Z,a0⟩:=qa9 (Dats.same J _ _ O) (hx xs (J.seq hl));refine ⟨_,zf,x,d,zf,a0,_,e,?_,⟨_,zf⟩,J.set hD,?_⟩
     ·rw [z30,z30,z2g];exact q15 (by omega)
     ·rw [qb,z3h,Z,z36,z36];rfl
  ·refine q1w (by rw [ty];rfl) (iteT ?_);have q:=q H (Same.refl H);have e:fitB (.bests m) d=false:=by
    cases d with
    | list ds=>exact absurd rfl (hn ds)
    | _=>rfl
   rw [e] at q;exact q
def q11q (K:PySem.W.Frag):Sp:=λ vs H Q _=>∃ (x:V) (d:PyData),vs=[x]/\Dat K H d x/\okT d/\∀ H',Same H H' ->Q (.bl (twB d)) H'
theorem qai (T:Txt K mg):Def P w K mg base 3 "is_tuple_of_words" ["thing"] (q11q K):=by
 refine T.qau.ok qa7 (λ vs H Q E h=> ?_) λ f cdv A outer s H vs Q E hr h=> ?_
 ·obtain ⟨x,d,rfl,_⟩:=h;rfl
 ·obtain ⟨x,d,rfl,hd,hz,q⟩:=h;refine ⟨_,(qg (qk (q7s (qq (q2e K) rfl T.q1p q1i (pa_2 (pv 0) (q5l rfl T.q9j q7x))) (q5j (qq (q8r rfl K) rfl T.b_all qeq (pa_1 (q29 (N:=["part"]) (caps:=[none]) rfl (by with_unfolding_all rfl) (q7m K (pv 0)) (λ _ _ _ _ _=>(qx (i:=0) (show (["part"]:List Str).Nodup by decide+kernel) rfl (Or.inl rfl))) (λ _ _ _ _ _=>q3v) (λ _ _ _ _ _=>(qp (qpy T) hr rfl (pa_1 (pv 0))))))))))),?_⟩;refine ⟨_,zf,x,_,d,zf,hd,by decide,_,zf,?_⟩;rcases qlr hd with ⟨a,xs,ds,rfl,rfl,ht,Z⟩ | ⟨ty,hn⟩
  ·refine q1w (show tyIs "tuple" "tuple"=true by decide) ?_;have el:=qaa Z;have hz1:ds.length<=10:=hz.1;refine ⟨_,zf,a,zf,⟨_,ht⟩,λ D hD=> ?_⟩;refine q1x xs.length (λ i σ' H'=>(∃ v,σ'=[v])/\Same H H'/\H' D=some (.lst (((ds.take i).map (txtD small)).map V.bl))) ⟨⟨_,zf⟩,qd hD,qb⟩ (λ i σ' H' hi p=> ?_) (λ σ' H' p=>⟨?_,?_⟩) (λ i σ' H' hi p x H2 y=> ?_)
   ·obtain ⟨_,J,_⟩:=p;exact ⟨xs,xs[i],J.seqT ht,z0d hi⟩
   ·obtain ⟨_,J,_⟩:=p;exact ⟨xs,J.seqT ht,z48 _⟩
   ·obtain ⟨_,J,e⟩:=p;refine ⟨D,ds.map (txtD small),rfl,SqL.of (by rw [e,<- el,z2t]),?_⟩;rw [z46];exact q _ J
   ·obtain ⟨⟨v,rfl⟩,J,e⟩:=p;obtain ⟨rfl,hx⟩:=y;obtain ⟨d,O,a0⟩:=qa9 (Dats.same J _ _ Z) (hx xs (J.seqT ht));refine ⟨_,zf,x,d,zf,a0,hz.2 d (z18 O),λ H3 s3=>⟨_,s3 _ _ e,?_,⟨_,zf⟩,(J.trans s3).set hD,?_⟩⟩
    ·rw [z30,z30,z2g];exact q1v (by omega)
    ·rw [qb,z3h,O,z36,z36];rfl
  ·refine qu ty ?_;have q:=q H (Same.refl H);rw [hn] at q;exact q
def q106 (K:PySem.W.Frag):Sp:=λ vs H Q _=>∃ (x:V) (d:PyData),vs=[x]/\Dat K H d x/\okF d/\∀ H',Same H H' ->Q (.bl (accB d)) H'
theorem qls (T:Txt K mg):Def P w K mg base 4 "is_accord" ["thing"] (q106 K):=by
 refine T.qn8.ok ql9 (λ vs H Q E h=> ?_) λ f cdv A outer s H vs Q E hr h=> ?_
 ·obtain ⟨x,d,rfl,_⟩:=h;rfl
 ·obtain ⟨x,d,rfl,hd,hz,q⟩:=h;refine ⟨_,(q2z
   (q1c (PW.pt (q9n (q2w (q3g (qq (q2e K) rfl T.q1p q1i (pa_2 (pv 0) (q5l rfl T.q50 q40))))) (q7r (q2w (q3g (qq (q8r rfl K) rfl T.b_all qeq (pa_1 (q29 (N:=["part"]) (caps:=[none]) rfl (by with_unfolding_all rfl) (q19 K (pv 0)) (λ _ _ _ _ _=>(qx (i:=0) (show (["part"]:List Str).Nodup by decide+kernel) rfl (Or.inl rfl))) (λ _ _ _ _ _=>q3v) (λ _ _ _ _ _=>(qp (qai T) hr rfl (pa_1 (pv 0)))))))))))) (qg (qk q2v)) q14)
   (qk (q3y (qku hr.units K) (pv 0) (qp (qab T) hr rfl (pa_1 (pv 0))) (q13 _)))),?_⟩
  refine ⟨_,zf,x,_,d,zf,hd,by decide,_,zf,?_⟩;rcases qoa hd with ⟨a,xs,ds,rfl,rfl,hl,O⟩ | ⟨ty,hn⟩
  ·refine qu (show (!tyIs "list" "list")=false by decide) ?_;have el:=qaa O;have hz1:ds.length<=2000:=hz.1;refine ⟨_,zf,a,zf,⟨_,hl⟩,λ D hD=> ?_⟩;refine q1x xs.length (λ i σ' H'=>(∃ v,σ'=[v])/\Same H H'/\H' D=some (.lst (((ds.take i).map twB).map V.bl))) ⟨⟨_,zf⟩,qd hD,qb⟩ (λ i σ' H' hi p=> ?_) (λ σ' H' p=>⟨?_,?_⟩) (λ i σ' H' hi p x H2 y=> ?_)
   ·obtain ⟨_,J,_⟩:=p;exact ⟨xs,xs[i],J.seq hl,z0d hi⟩
   ·obtain ⟨_,J,_⟩:=p;exact ⟨xs,J.seq hl,z48 _⟩
   ·obtain ⟨_,J,e⟩:=p;refine ⟨D,ds.map twB,rfl,SqL.of (by rw [e,<- el,z2t]),_,rfl,?_⟩;have e2:(ds.map twB).all id=ds.all twB:=by rw [z46];rfl
    rw [e2];have ef:accB (.list ds)=(ds.all twB&&decide (ds.map setD=q3s (ds.map setD))):=rfl;cases h2:ds.all twB with
    | true=>
     refine qu rfl ?_;obtain ⟨ts,ed,ok⟩:=qob O h2;refine ⟨_,rfl,_,rfl,a,xs,ds.map setD,rfl,J.seq hl,qad (qac (λ _ _ z=>J.seqT z) ts),by rw [z30];omega,λ r hr=> ?_,λ p zs R H3 s3 hp ep tp aR uR=> ?_⟩
     ·refine ⟨?_,λ z=>q105 ((ok r hr _ z).2) rfl⟩;obtain ⟨e,he,rfl⟩:=z45.mp hr;have ho:=hz.2 e he;cases e with
      | tuple es=>
       show (es.map strD).length<=30;rw [z30];exact z41 ho.1 (by decide)
      | _=>exact z4b _
     ·have eR:=q8f aR uR;have a1:∀ r∈R,∀ w∈r,PyData.strOk w=true:=λ r hr w hw=>by
       obtain ⟨s,hs,z⟩:=qf6 aR uR r hr;exact (ok s hs w (z w hw)).1
      refine ⟨.list ((ds.map setD).map dR),.list (R.map dR),?_,.lst (SqL.of ep) (qlk tp a1),?_,?_⟩
      ·rw [<- ed];exact Dat.same (J.trans s3) _ _ hd
      ·exact z41 (z2q (qo4 _)) (by decide)
      ·have q:=q _ (J.trans s3);rw [ef,h2,z3t,<- eR,<- qia] at q;exact q
    | false=>
     refine q1w rfl ?_;have q:=q _ J;rw [ef,h2,z3e] at q;exact q
   ·obtain ⟨⟨v,rfl⟩,J,e⟩:=p;obtain ⟨rfl,hx⟩:=y;obtain ⟨d,Z,a0⟩:=qa9 (Dats.same J _ _ O) (hx xs (J.seq hl));refine ⟨_,zf,x,d,zf,a0,hz.2 d (z18 Z),λ H3 s3=>⟨_,s3 _ _ e,?_,⟨_,zf⟩,(J.trans s3).set hD,?_⟩⟩
    ·rw [z30,z30,z2g];exact q15 (by omega)
    ·rw [qb,z3h,Z,z36,z36];rfl
  ·refine q1w (by rw [ty];rfl) (iteT ?_);have q:=q H (Same.refl H);have e:accB d=false:=by
    cases d with
    | list ds=>exact absurd rfl (hn ds)
    | _=>rfl
   rw [e] at q;exact q
theorem qj7 (T:Txt K mg):MDef P w K mg base 5 (cA mg "Hands") "fits" ["self","thing"] (q8h K mg .hands):=by
 refine T.qm6.ok qiv (λ vs H Q E h=> ?_) λ f cdv A outer s H vs Q E hr h=> ?_
 ·obtain ⟨o,x,d,rfl,_⟩:=h;rfl
 ·obtain ⟨o,x,d,rfl,_,hd,hz,q⟩:=h;exact ⟨_,(qg (qk (qp (qls T) hr rfl (pa_1 (pv 1))))),_,zf,x,d,zf,hd,hz,q⟩
theorem qy6 (T:Txt K mg) (k:Kd):MDef P w K mg base 5 (clsK mg k) "fits" ["self","thing"] (q8h K mg k):=by
 cases k with
 | counts=>exact MDef.mono (qh0 T) (by decide)
 | costs=>exact MDef.mono (qj5 T) (by decide)
 | bests m=>exact MDef.mono (qj6 T m) (by decide)
 | trusts t=>exact MDef.mono (qh1 T t) (by decide)
 | truths=>exact MDef.mono (qh2 T) (by decide)
 | hands=>exact qj7 T
theorem qus {W:List Str} {k:Kd} {a:Wo} (g:qi W k a) (hk:k.ok) (hW:∀ w∈W,txtB small w=true):fitB k (dW a)=true:=by
 cases g with
 | counts h=>exact z3c h
 | costN i=>rfl
 | costX=>rfl
 | @bests m l h hl=>
  have D:(l.map PyData.int).map intD=l:=by rw [z47];exact z4c _
  have e1:(l.map PyData.int).all q4h=true:=by rw [z46];exact z2n.mpr λ _ _=>rfl
  show (decide (((l.map PyData.int).length:Int)<=m)&&((l.map PyData.int).all q4h&&decide ((l.map PyData.int).map intD=Tim.srt q18 ((l.map PyData.int).map intD))))=true;rw [D,e1,z30,z3c (show l=Tim.srt q18 l from q1u.uniq (Tim.qo q18 l).symm h (Tim.q1r q1u l)),z3t,Bool.and_true];have:1<=m:=hk.1;exact z3c (by omega)
 | trusts h h2=>
  show (decide _&&decide _)=true;rw [z3c h,z3c h2];rfl
 | truths b=>rfl
 | @hands R a o=>
  have D:(R.map dR).map setD=R:=by
   rw [z47]
   conv=>rhs;rw [<- z4c R]
   refine z1f λ r _=> ?_;show (r.map PyData.str).map strD=r;rw [z47];exact z4c _
  have e1:(R.map dR).all twB=true:=by
   rw [z46];refine z2n.mpr λ r hr=> ?_;show (r.map PyData.str).all (txtD small)=true;rw [z46];exact z2n.mpr λ w hw=>hW w (o.sub r hr w hw)
  show ((R.map dR).all twB&&decide ((R.map dR).map setD=q3s ((R.map dR).map setD)))=true;rw [D,e1,z3c (q5x a).symm];rfl
theorem qsb {W:List Str} {k:Kd} {a:Wo} (g:qi W k a) (hk:k.ok) (hW:∀ w∈W,txtB small w=true):okF (dW a):=by
 cases g with
 | counts h=>trivial
 | costN i=>trivial
 | costX=>trivial
 | @bests m l h hl=>
  have:m<=9:=hk.2;refine ⟨by rw [z30];omega,λ e D=> ?_⟩;obtain ⟨i,_,rfl⟩:=z45.mp D;trivial
 | trusts h h2=>trivial
 | truths b=>trivial
 | @hands R a o=>
  refine ⟨by rw [z30];exact z41 (o.cards a) (by decide),λ e D=> ?_⟩;obtain ⟨r,hr,rfl⟩:=z45.mp D;refine ⟨by rw [z30];exact (o.len hr (a.norm r hr)).1,λ x hx=> ?_⟩;obtain ⟨w,hw,rfl⟩:=z45.mp hx;have t:=hW w (o.sub r hr w hw);show w.length<=200
  apply Classical.byContradiction
  intro z;rw [qlq (λ q=>z (z41 q.2 (by decide)))] at t;cases t
def rkP (k:Kd) (g:Str ->Wo) (p:List Str):Wo:=p.foldl (λ a n=>boW k a (g n)) (unW k)
def rkS (k:Kd) (l:List Wo):Wo:=l.foldl (eiW k) (noW k)
def rkT (k:Kd) (g:Str ->Wo) (p:List Str×Int):Wo:=repW k (rkP k g p.1) p.2
def rkY (k:Kd) (g:Str ->Wo) (Y:Tab):Wo:=rkS k (Y.map (rkT k g))
section
variable {W:List Str} {k:Kd} {g:Str ->Wo}
theorem qlt (p:List Str) (n:Str):rkP k g (p++ [n])=boW k (rkP k g p) (g n):=by
 unfold rkP;rw [z2f];rfl
theorem q2b (hW:HOk W) (hk:k.ok) (hg:∀ z,qi W k (g z)) (p:List Str):qi W k (rkP k g p):=by
 unfold rkP;have:∀ (p:List Str) (a:Wo),qi W k a ->qi W k (p.foldl (λ a n=>boW k a (g n)) a):=λ p=>by
  induction p with
  | nil=>exact λ a h=>h
  | cons n p ih=>exact λ a h=>ih _ (q5y h (hg n))
 exact this p _ (q8g hW hk)
theorem qaj (hW:HOk W) (hk:k.ok) (D:∀ z,qi W k (g z)):∀ (p:List Str) (a:Wo),qi W k a ->p.foldl (λ a n=>boW k a (g n)) a=boW k a (rkP k g p)
 | [],a,ha=>(qvw ha).symm
 | n::p,a,ha=>by
  show p.foldl (λ a n=>boW k a (g n)) (boW k a (g n))=boW k a (p.foldl (λ a n=>boW k a (g n)) (boW k (unW k) (g n)));rw [qaj hW hk D p _ (q5y ha (D n)),qaj hW hk D p _ (q5y (q8g hW hk) (D n)),qpw hW hk (D n),qe9 ha (D n) (q2b hW hk D p)]
theorem qy7 (hW:HOk W) (hk:k.ok) (D:∀ z,qi W k (g z)) (p q:List Str):rkP k g (p++q)=boW k (rkP k g p) (rkP k g q):=by
 show (p++q).foldl _ _=_;rw [z2f];exact qaj hW hk D q _ (q2b hW hk D p)
theorem q6i (hW:HOk W) (hk:k.ok) (D:∀ z,qi W k (g z)) (n:Str) (p:List Str):rkP k g (n::p)=boW k (g n) (rkP k g p):=by
 show p.foldl _ (boW k (unW k) (g n))=_;rw [qpw hW hk (D n)];exact qaj hW hk D p _ (D n)
theorem qut (hW:HOk W) (hk:k.ok) (D:∀ z,qi W k (g z)) {p q:List Str} (h:p.Perm q):rkP k g p=rkP k g q:=by
 induction h with
 | nil=>rfl
 | cons n _ ih=>rw [q6i hW hk D,q6i hW hk D,ih]
 | swap a b l=>rw [q6i hW hk D,q6i hW hk D,q6i hW hk D,q6i hW hk D,<- qe9 (D b) (D a) (q2b hW hk D l),q7o (D b) (D a),qe9 (D a) (D b) (q2b hW hk D l)]
 | trans _ _ i1 i2=>exact i1.trans i2
theorem q8i (hW:HOk W) (hk:k.ok) {l:List Wo} (h:∀ a∈l,qi W k a):qi W k (rkS k l):=by
 have:∀ (l:List Wo) (a:Wo),(∀ b∈l,qi W k b) ->qi W k a ->qi W k (l.foldl (eiW k) a):=λ l=>by
  induction l with
  | nil=>exact λ a _ h=>h
  | cons n l ih=>exact λ a hl h=>ih _ (λ b hb=>hl b (z16 _ hb)) (q4y h (hl n (z1p ..)))
 exact this l _ h (q3j hW hk)
theorem qak (hW:HOk W) (hk:k.ok):∀ (l:List Wo) (a:Wo),(∀ b∈l,qi W k b) ->qi W k a ->l.foldl (eiW k) a=eiW k a (rkS k l)
 | [],a,_,ha=>(qjw ha).symm
 | b::l,a,hl,ha=>by
  have J:=hl b (z1p ..);have D:∀ c∈l,qi W k c:=λ c hc=>hl c (z16 _ hc);show l.foldl (eiW k) (eiW k a b)=eiW k a (l.foldl (eiW k) (eiW k (noW k) b));rw [qak hW hk l _ D (q4y ha J),qak hW hk l _ D (q4y (q3j hW hk) J),qag hW hk J,q5b ha J (q8i hW hk D)]
theorem q5c (hW:HOk W) (hk:k.ok) {a:Wo} {l:List Wo} (h:∀ b∈a::l,qi W k b):rkS k (a::l)=eiW k a (rkS k l):=by
 have ha:=h a (z1p ..);show l.foldl (eiW k) (eiW k (noW k) a)=_;rw [qag hW hk ha];exact qak hW hk l _ (λ b hb=>h b (z16 _ hb)) ha
theorem qy8 (hW:HOk W) (hk:k.ok) {l m:List Wo} (hl:∀ b∈l,qi W k b) (hm:∀ b∈m,qi W k b):rkS k (l++m)=eiW k (rkS k l) (rkS k m):=by
 show (l++m).foldl _ _=_;rw [z2f];exact qak hW hk m _ hm (q8i hW hk hl)
theorem quu (l:List Wo) (a:Wo):rkS k (l++ [a])=eiW k (rkS k l) a:=by
 unfold rkS;rw [z2f];rfl
theorem quv (hW:HOk W) (hk:k.ok) {l m:List Wo} (h:l.Perm m) (hl:∀ b∈l,qi W k b):rkS k l=rkS k m:=by
 induction h with
 | nil=>rfl
 | @cons a l m p ih=>
  have hm:∀ b∈a::m,qi W k b:=λ b D=>hl b ((p.cons a).mem_iff.mpr D);rw [q5c hW hk hl,q5c hW hk hm,ih λ b D=>hl b (z16 _ D)]
 | swap a b l=>
  have h2:∀ c∈a::b::l,qi W k c:=λ c J=>hl c ((List.Perm.swap a b l).mem_iff.mpr J);have D:=hl b (by simp);have ha:=hl a (by simp);have O:∀ c∈l,qi W k c:=λ c J=>hl c (by simp [J]);rw [q5c hW hk hl,q5c hW hk h2,q5c hW hk (λ c J=>hl c (z16 _ J)),q5c hW hk (λ c J=>h2 c (z16 _ J)),<- q5b D ha (q8i hW hk O),qgx D ha,q5b ha D (q8i hW hk O)]
 | trans p _ i1 i2=>exact (i1 hl).trans (i2 λ b D=>hl b (p.mem_iff.mpr D))
theorem qfh (hW:HOk W) (hk:k.ok) {a:Wo} (h:qi W k a):repW k a 1=a:=by
 by_cases h0:q3e k=0
 ·cases h with
  | counts _=>show Wo.num (_*1)=_;rw [Int.mul_one]
  | costN _=>exact absurd h0 (by decide)
  | costX=>exact absurd h0 (by decide)
  | bests _ _=>exact absurd (show (2:Int)=0 from h0) (by decide)
  | trusts _ _=>exact absurd (show (3:Int)=0 from h0) (by decide)
  | truths _=>exact absurd h0 (by decide)
  | hands _ _=>exact absurd h0 (by decide)
 by_cases h2:q3e k=2
 ·cases h with
  | counts _=>exact absurd h2 (by decide)
  | costN _=>exact absurd h2 (by decide)
  | costX=>exact absurd h2 (by decide)
  | @bests m l hl hn=>
   have m1:1<=m:=hk.1;show Wo.nums (q1b m (repL l (if m < 1 then m else 1)))=_;rw [if_neg (by omega)];have:repL l 1=l:=by
    show (List.replicate (Int.toNat 1) l).flatten=l;rw [show Int.toNat 1=1 from rfl];simp
   rw [this,q5w hl hn]
  | trusts _ _=>exact absurd (show (3:Int)=2 from h2) (by decide)
  | truths _=>exact absurd h2 (by decide)
  | hands _ _=>exact absurd h2 (by decide)
 ·rw [qbx h h0 h2,if_neg (by decide)]
theorem qvz (ha:qi W k a) (D:qi W k b) (J:qi W k c):boW k a (eiW k b c)=eiW k (boW k a b) (boW k a c):=by
 rw [q7o ha (q4y D J),qpu D J ha,q7o D ha,q7o J ha]
theorem qw0 (hW:HOk W) (hk:k.ok) {a:Wo} (ha:qi W k a):boW k (noW k) a=noW k:=by
 rw [q7o (q3j hW hk) ha,qpv ha]
theorem qsc (hW:HOk W) (hk:k.ok) {a b:Wo} (ha:qi W k a) (D:qi W k b):∀ m:Nat,boW k a (repW k b (m:Int))=repW k (boW k a b) (m:Int)
 | 0=>by
  rw [show ((0:Nat):Int)=0 from rfl,qfd hW hk D,qfd hW hk (q5y ha D),qpv ha]
 | m+1=>by
  have hm:(0:Int)<=(m:Int):=Int.natCast_nonneg m;rw [show ((m+1:Nat):Int)=(m:Int)+1 from rfl,q9g hW hk D hm (by decide),q9g hW hk (q5y ha D) hm (by decide),qfh hW hk D,qfh hW hk (q5y ha D),qvz ha (q5i hW hk D hm) D,qsc hW hk ha D m]
theorem qlu (hW:HOk W) (hk:k.ok) {a b:Wo} (ha:qi W k a) (D:qi W k b) (m:Nat):∀ n:Nat,boW k (repW k a (n:Int)) (repW k b (m:Int))=repW k (boW k a b) ((n:Int)*(m:Int))
 | 0=>by
  rw [show ((0:Nat):Int)=0 from rfl,Int.zero_mul,qfd hW hk ha,qfd hW hk (q5y ha D),qw0 hW hk (q5i hW hk D (Int.natCast_nonneg m))]
 | n+1=>by
  have hn:(0:Int)<=(n:Int):=Int.natCast_nonneg n;have hm:(0:Int)<=(m:Int):=Int.natCast_nonneg m;rw [show ((n+1:Nat):Int)=(n:Int)+1 from rfl,Int.add_mul,Int.one_mul,q9g hW hk ha hn (by decide),qfh hW hk ha,qpu (q5i hW hk ha hn) ha (q5i hW hk D hm),qlu hW hk ha D m n,qsc hW hk ha D m,q9g hW hk (q5y ha D) (z3k hn hm) hm]
theorem qy9 (hW:HOk W) (hk:k.ok) {a b:Wo} (ha:qi W k a) (hb:qi W k b) {n m:Int} (hn:0<=n) (hm:0<=m):boW k (repW k a n) (repW k b m)=repW k (boW k a b) (n*m):=by
 obtain ⟨n,rfl⟩:=z0m hn;obtain ⟨m,rfl⟩:=z0m hm;exact qlu hW hk ha hb m n
theorem q3t (hW:HOk W) (hk:k.ok) (hg:∀ z,qi W k (g z)) {p:List Str×Int} (h:0<=p.2):qi W k (rkT k g p):=q5i hW hk (q2b hW hk hg p.1) h
theorem q6u (hW:HOk W) (hk:k.ok) (hg:∀ z,qi W k (g z)) {Y:Tab} (h:NN Y):∀ a∈Y.map (rkT k g),qi W k a:=λ a ha=>by
 obtain ⟨p,hp,rfl⟩:=z45.mp ha;exact q3t hW hk hg (h p hp)
theorem q1z (hW:HOk W) (hk:k.ok) (hg:∀ z,qi W k (g z)) {Y:Tab} (h:NN Y):qi W k (rkY k g Y):=q8i hW hk (q6u hW hk hg h)
theorem qlv (Y:Tab) (p:List Str×Int):rkY k g (Y++ [p])=eiW k (rkY k g Y) (rkT k g p):=by
 unfold rkY;rw [z36];exact quu _ _
theorem qoc (hW:HOk W) (hk:k.ok) (D:∀ z,qi W k (g z)) {A B:Tab} (hA:NN A) (hB:NN B):rkY k g (A++B)=eiW k (rkY k g A) (rkY k g B):=by
 unfold rkY;rw [z36];exact qy8 hW hk (q6u hW hk D hA) (q6u hW hk D hB)
theorem q2l (hW:HOk W) (hk:k.ok) (hg:∀ z,qi W k (g z)) {p:List Str×Int} {A:Tab} (h:NN (p::A)):rkY k g (p::A)=eiW k (rkT k g p) (rkY k g A):=q5c hW hk (q6u hW hk hg h)
theorem quw (hW:HOk W) (hk:k.ok) (hg:∀ z,qi W k (g z)) {A B:Tab} (h:A.Perm B) (hA:NN A):rkY k g A=rkY k g B:=quv hW hk (h.map _) (q6u hW hk hg hA)
theorem qod (hW:HOk W) (hk:k.ok) (Z:∀ z,qi W k (g z)) {v:Int} (hv:0<=v) (key:List Str):∀ {Y:Tab},NN Y ->(Y.map (·.1)).Nodup ->(Y.any λ D=>decide (D.1=key))=true ->
    rkY k g (Y.map λ D=>if D.1=key then (D.1,(getA Y key).getD 0+v) else D)=eiW k (rkY k g Y) (rkT k g (key,v))
  | [],_,_,h=>by cases h
  | p::Y,hn,nd,h=>by
    have J:NN Y:=λ q hq=>hn q (z16 _ hq);have O:=hn p (z1p ..);obtain ⟨n1,n2⟩:=z32.mp (by rw [z3l] at nd;exact nd);have gP:=λ q:List Str=>q2b (k:=k) (g:=g) hW hk Z q;by_cases e:p.1=key
    · have ne:∀ q∈Y,q.1≠key:=λ q hq z=>n1 (by rw [e,<- z];exact z45.mpr ⟨q,hq,rfl⟩)
      have e1:getA (p::Y) key=some p.2:=by
        unfold getA;rw [z0s (by simpa using e)];rfl
      have e2:Y.map (λ D=>if D.1=key then (D.1,(some p.2).getD 0+v) else D)=Y:=by
        conv=>rhs;rw [<- z4c Y]
        exact z1f λ q hq=>if_neg (ne q hq)
      rw [e1,z3l,if_pos e,e2];have a0:NN ((p.1,p.2+v)::Y):=λ q hq=>by
        rcases z3n.mp hq with rfl | hq
        · exact Int.add_nonneg O hv
        · exact J q hq
      show rkY k g ((p.1,p.2+v)::Y)=_;rw [q2l hW hk Z a0,q2l hW hk Z hn];show eiW k (repW k (rkP k g p.1) (p.2+v)) (rkY k g Y)=eiW k (eiW k (repW k (rkP k g p.1) p.2) (rkY k g Y)) (repW k (rkP k g key) v);have a:=q5i hW hk (gP p.1) O;have b:=q5i hW hk (gP p.1) hv;have c:=q1z hW hk Z J;rw [q9g hW hk (gP p.1) O hv,e] at*;rw [q5b a b c,qgx b c,<- q5b a c b]
    · have h':(Y.any λ D=>decide (D.1=key))=true:=by
        rw [z3q,z2w e,Bool.false_or] at h;exact h
      have e1:getA (p::Y) key=getA Y key:=by
        unfold getA;rw [z0t (by simpa using e)]
      have ih:=qod hW hk Z hv key J n2 h';rw [e1,z3l,if_neg e];have a0:NN (Y.map λ D=>if D.1=key then (D.1,(getA Y key).getD 0+v) else D):=λ q hq=>by
        obtain ⟨r,hr,rfl⟩:=z45.mp hq;by_cases z:r.1=key
        · rw [if_pos z]
          have:0<=(getA Y key).getD 0:=by
            unfold getA;cases f:Y.find? λ D=>decide (D.1=key) with
            | none=>exact z4a _
            | some s=>exact J s (z0c f)
          exact Int.add_nonneg this hv
        · rw [if_neg z]
          exact J r hr
      rw [q2l hW hk Z (λ q hq=>by
        rcases z3n.mp hq with rfl | hq
        · exact O
        · exact a0 q hq),ih,q2l hW hk Z hn]
      exact (q5b (q3t hW hk Z O) (q1z hW hk Z J) (q3t hW hk Z (p:=(key,v)) hv)).symm
theorem qya {Y:Tab} {key:List Str} (h:¬ (Y.any λ D=>decide (D.1=key))=true):getA Y key=none:=by
 unfold getA;cases f:Y.find? λ D=>decide (D.1=key) with
 | none=>rfl
 | some s=>exact absurd (z2p.mpr ⟨s,z0c f,List.find?_some f⟩) h
theorem qyb (hW:HOk W) (hk:k.ok) (hg:∀ z,qi W k (g z)) {v:Int} (hv:0<=v) (key:List Str) {Y:Tab} (hn:NN Y) (nd:(Y.map (·.1)).Nodup):rkY k g (addA Y key v)=eiW k (rkY k g Y) (rkT k g (key,v)):=by
 unfold addA putA;by_cases h:(Y.any λ kv=>decide (kv.1=key))=true
 ·rw [if_pos h];exact qod hW hk hg hv key hn nd h
 ·rw [if_neg h,qya h];show rkY k g (Y++ [(key,0+v)])=_;rw [Int.zero_add];exact qlv _ _
end
section
variable {W:List Str} {k:Kd} {g:Str ->Wo}
theorem q107 {Y:Tab} {key:List Str} {v:Int} (nd:(Y.map (·.1)).Nodup):((addA Y key v).map (·.1)).Nodup:=by
 unfold addA putA;split
 ·rw [z47];have:((λ D:List Str×Int=>D.1)∘λ D:List Str×Int=>if D.1=key then (D.1,(getA Y key).getD 0+v) else D)=λ D=>D.1:=by
   funext D
   show (if D.1=key then (D.1,(getA Y key).getD 0+v) else D).1=D.1;split <;> rfl
  rw [this];exact nd
 ·rename_i h;rw [z36];refine z2d.mpr ⟨nd,by simp,λ a ha b hb e=> ?_⟩;have:b=key:=by simpa using hb
  subst this;subst e;obtain ⟨q,hq,e⟩:=z45.mp ha;exact h (z2p.mpr ⟨q,hq,z3c e⟩)
theorem q108 {Y:Tab} {key:List Str} {v:Int} (hn:NN Y) (D:0<=v):NN (addA Y key v):=λ q hq=>by
 have h0:0<=(getA Y key).getD 0:=by
  unfold getA;cases f:Y.find? λ kv=>decide (kv.1=key) with
  | none=>exact z4a _
  | some s=>exact hn s (z0c f)
 unfold addA putA at hq;split at hq
 ·obtain ⟨r,hr,rfl⟩:=z45.mp hq;by_cases z:r.1=key
  ·rw [if_pos z];exact Int.add_nonneg h0 D
  ·rw [if_neg z];exact hn r hr
 ·rcases z2u.mp hq with hq | hq
  ·exact hn q hq
  ·rw [z1m.mp hq];exact Int.add_nonneg h0 D
theorem qlw (hW:HOk W) (hk:k.ok) (D:∀ z,qi W k (g z)):∀ (ps Y:Tab),NN ps ->NN Y ->(Y.map (·.1)).Nodup ->NN (ps.foldl (λ W p=>addA W (Tim.srt ql p.1) p.2) Y)/\((ps.foldl (λ W p=>addA W (Tim.srt ql p.1) p.2) Y).map (·.1)).Nodup/\rkY k g (ps.foldl (λ W p=>addA W (Tim.srt ql p.1) p.2) Y)=eiW k (rkY k g Y) (rkY k g ps)
 | [],Y,_,O,nd=>⟨O,nd,(qjw (q1z hW hk D O)).symm⟩
 | p::ps,Y,hp,O,nd=>by
  have J:=hp p (z1p ..);have Z:NN ps:=λ q hq=>hp q (z16 _ hq);obtain ⟨a,b,c⟩:=qlw hW hk D ps (addA Y (Tim.srt ql p.1) p.2) Z (q108 O J) (q107 nd);refine ⟨a,b,?_⟩;show rkY k g (ps.foldl _ (addA Y (Tim.srt ql p.1) p.2))=_;rw [c,qyb hW hk D J _ O nd,q2l hW hk D hp];have e:rkT k g (Tim.srt ql p.1,p.2)=rkT k g p:=by
   show repW k (rkP k g (Tim.srt ql p.1)) p.2=repW k (rkP k g p.1) p.2;rw [qut hW hk D (Tim.qo ql p.1)]
  rw [e];exact q5b (q1z hW hk D O) (q3t hW hk D J) (q1z hW hk D Z)
theorem qh3 (hW:HOk W) (hk:k.ok) (D:∀ z,qi W k (g z)):∀ {Y:Tab},NN Y ->rkY k g (Y.filter λ Z=>decide (0 < Z.2))=rkY k g Y
  | [],_=>rfl
  | p::Y,h=>by
    have O:=h p (z1p ..);have J:NN Y:=λ q hq=>h q (z16 _ hq);have hF:NN (Y.filter λ Z=>decide (0 < Z.2)):=λ q hq=>J q (z2x.mp hq).1;by_cases e:0 < p.2
    · rw [List.filter_cons_of_pos (by simpa using e),q2l hW hk D (λ q hq=>by
        rcases z3n.mp hq with rfl | hq
        · exact O
        · exact hF q hq),q2l hW hk D h,qh3 hW hk D J]
    · rw [List.filter_cons_of_neg (by simpa using e),q2l hW hk D h,qh3 hW hk D J]
      have e0:p.2=0:=by omega
      have:rkT k g p=noW k:=by
        show repW k (rkP k g p.1) p.2=_;rw [e0];exact qfd hW hk (q2b hW hk D p.1)
      rw [this,qag hW hk (q1z hW hk D J)]
theorem qoe:∀ {Y:Tab} {p:List Str×Int},(Y.map (·.1)).Nodup ->p∈Y ->getA Y p.1=some p.2
 | q::Y,p,nd,h=>by
  obtain ⟨n1,n2⟩:=z32.mp (by rw [z3l] at nd;exact nd);rw [qrs];rcases z3n.mp h with rfl | h
  ·rw [if_pos rfl]
  ·rw [if_neg (λ e=>n1 (by rw [e];exact z45.mpr ⟨p,h,rfl⟩))];exact qoe n2 h
theorem qsd {Y:Tab} (nd:(Y.map (·.1)).Nodup):(told Y).Perm (Y.filter λ kv=>decide (0 < kv.2)):=by
 have e:(Y.map (·.1)).map (λ k=>(k,(getA Y k).getD 0))=Y:=by
  rw [z47]
  conv=>rhs;rw [<- z4c Y]
  refine z1f λ p hp=> ?_;show (p.1,(getA Y p.1).getD 0)=p;rw [qoe nd hp];rfl
 unfold told;refine List.Perm.filter _ ?_
 conv=>rhs;rw [<- e]
 exact (Tim.qo qz _).map _
theorem qse (hW:HOk W) (hk:k.ok) (D:∀ z,qi W k (g z)) {ps:Tab} (h:NN ps):rkY k g (tg ps)=rkY k g ps:=by
 obtain ⟨a,b,c⟩:=qlw hW hk D ps [] h (λ _ z=>nomatch z) z3g;have c':rkY k g (gath ps)=rkY k g ps:=by
  have:rkY k g (gath ps)=eiW k (rkY k g []) (rkY k g ps):=c;rw [this];exact qag hW hk (q1z hW hk D h)
 rw [<- c',<- qh3 hW hk D (Y:=gath ps) a];exact quw hW hk D (qsd b) (q11h ps)
theorem qyc (hW:HOk W) (hk:k.ok) (D:∀ z,qi W k (g z)) {p q:List Str×Int} (hp:0<=p.2) (hq:0<=q.2):rkT k g (mulP p q)=boW k (rkT k g p) (rkT k g q):=by
 show repW k (rkP k g (p.1++q.1)) (p.2*q.2)=boW k (repW k (rkP k g p.1) p.2) (repW k (rkP k g q.1) q.2);rw [qy7 hW hk D,qy9 hW hk (q2b hW hk D p.1) (q2b hW hk D q.1) hp hq]
theorem qlx (hW:HOk W) (hk:k.ok) (D:∀ z,qi W k (g z)) {p:List Str×Int} (J:0<=p.2):∀ {B:Tab},NN B ->NN (B.map (mulP p))/\rkY k g (B.map (mulP p))=boW k (rkT k g p) (rkY k g B)
 | [],_=>⟨(λ _ z=>nomatch z),(qpv (q3t hW hk D J)).symm⟩
 | q::B,h=>by
  have hq:=h q (z1p ..);have O:NN B:=λ r hr=>h r (z16 _ hr);obtain ⟨a,b⟩:=qlx hW hk D J O;have hn:NN (mulP p q::B.map (mulP p)):=λ r hr=>by
   rcases z3n.mp hr with rfl | hr
   ·exact z3k J hq
   ·exact a r hr
  refine ⟨hn,?_⟩;rw [z3l,q2l hW hk D hn,b,qyc hW hk D J hq,q2l hW hk D h,qvz (q3t hW hk D J) (q3t hW hk D hq) (q1z hW hk D O)]
theorem qic (hW:HOk W) (hk:k.ok) (D:∀ z,qi W k (g z)) {B:Tab} (J:NN B):∀ {A:Tab},NN A ->rkY k g (prods A B)=boW k (rkY k g A) (rkY k g B)
 | [],_=>(qw0 hW hk (q1z hW hk D J)).symm
 | p::A,h=>by
  have Z:=h p (z1p ..);have O:NN A:=λ r hr=>h r (z16 _ hr);obtain ⟨a,b⟩:=qlx hW hk D Z J;show rkY k g (B.map (mulP p)++prods A B)=_;rw [qoc hW hk D a (qlc O J),b,qic hW hk D J O,q2l hW hk D h,qpu (q3t hW hk D Z) (q1z hW hk D O) (q1z hW hk D J)]
theorem qyd (hW:HOk W) (hk:k.ok) (D:∀ z,qi W k (g z)) (z:Str):rkY k g [([z],1)]=g z:=by
 show eiW k (noW k) (repW k (boW k (unW k) (g z)) 1)=g z;rw [qpw hW hk (D z),qfh hW hk (D z),qag hW hk (D z)]
theorem qux (hW:HOk W) (hk:k.ok):rkY k g [([],1)]=unW k:=by
 show eiW k (noW k) (repW k (unW k) 1)=unW k;rw [qfh hW hk (q8g hW hk),qag hW hk (q8g hW hk)]
end
def WD (H:Hp) (d:Addr) (f:Str ->Option Wo):Prop:=∃ kvs,Rd H d (.dK kvs)/\∀ z,(f z=none/\valV kvs (Sum.inr z)=none)\/ ∃ a v,f z=some a/\valV kvs (Sum.inr z)=some v/\WV H a v
theorem WD.same {H H':Hp} {d:Addr} {f:Str ->Option Wo} (h:WD H d f) (s:Same H H'):WD H' d f:=by
 obtain ⟨kvs,hr,hv⟩:=h;refine ⟨kvs,?_,λ z=> ?_⟩
 ·rcases hr with hr | ⟨o,hr⟩
  ·exact .inl (s _ _ hr)
  ·exact .inr ⟨o,s _ _ hr⟩
 ·rcases hv z with h | ⟨a,v,e1,e2,hw⟩
  ·exact .inl h
  ·exact .inr ⟨a,v,e1,e2,hw.same s⟩
theorem WD.get {H:Hp} {d:Addr} {f:Str ->Option Wo} (h:WD H d f) {z:Str} {a:Wo} (e:f z=some a):∃ v,DGet H d (.str z) (some v)/\WV H a v:=by
 obtain ⟨kvs,hr,hv⟩:=h;rcases hv z with ⟨e1,_⟩ | ⟨b,v,e1,e2,hw⟩
 ·rw [e1] at e;cases e
 ·rw [e1] at e;cases e
  exact ⟨v,.inl ⟨kvs,Sum.inr z,hr,zf,e2.symm⟩,hw⟩
def gOf (k:Kd) (f:Str ->Option Wo) (z:Str):Wo:=(f z).getD (noW k)
structure FOk (W:List Str) (k:Kd) (f:Str ->Option Wo):Prop where
 hk:k.ok
 hW:HOk W
 tW:∀ w∈W,txtB small w=true
 good:∀ z a,f z=some a ->qi W k a
 lt:∀ z,LtW k (2^600) (gOf k f z)
theorem FOk.g {W:List Str} {k:Kd} {f:Str ->Option Wo} (h:FOk W k f) (z:Str):qi W k (gOf k f z):=by
 unfold gOf;cases e:f z with
 | none=>exact q3j h.hW h.hk
 | some a=>exact h.good z a e
def q109 (K:PySem.W.Frag) (mg:Str ->Option Value):Sp:=λ vs H Q _=>∃ (p o d:Addr) (ns:List Str) (k:Kd) (f:Str ->Option Wo) (W:List Str),vs=[.ref p,.ref o,.ref d]/\H p=some (.lst (ns.map V.str))/\ByAt mg H o k/\WD H d f/\FOk W k f/\(∀ n∈ns,∃ a,f n=some a)/\∀ H',Same H H' ->Q .non H'
theorem qj8 (T:Txt K mg):Def P w K mg base 6 "ask_worths" ["names","by","worths"] (q109 K mg):=by
 refine T.qm4.ok qao (λ vs H Q E h=> ?_) λ f cdv A outer s H vs Q E hr h=> ?_
 ·obtain ⟨p,o,d,ns,k,f,W,rfl,_⟩:=h;rfl
 ·obtain ⟨p,o,d,ns,k,ff,W,rfl,hp,hB,hd,ok,Z,q⟩:=h;refine ⟨_,(qg (q1m PassesOwn.never rfl (q19 K (pv 0)) (qx (i:=3) qao.nd rfl (Or.inl rfl)) (qg (q1c (PW.pt (q9n (qel (qqx (q2h hr) (pv 3) (pv 2))) (q7r (q2w (q3g (q38 (qy6 T) (q28 T) hr (pv 1) (pa_1 (q4l (q2h hr) (pv 2) (pv 3) (λ _ _=>rfl))))))))) (qg q11e) q14)))),?_⟩;refine ⟨_,zf,p,zf,⟨_,SqL.of hp⟩,q26 (xs:=ns.map V.str) (λ i σ G=>Same H G/\∃ v,σ=[some (.ref p),some (.ref o),some (.ref d),v]) ⟨Same.refl _,_,zf⟩ (λ i σ G _ z=>SqL.of (z.1 _ _ hp)) ?_ ?_⟩
  ·rintro i x σ G hx ⟨J,v,rfl⟩;rw [z22] at hx;obtain ⟨z,hz,rfl⟩:=z0q.mp hx;obtain ⟨a,ha⟩:=Z z (z18 hz);obtain ⟨u,hu,wu⟩:=(hd.same J).get ha;obtain ⟨dx,D⟩:=hB.same J;have O:=ok.good z a ha;refine ⟨_,zf,_,zf,d,_,zf,hu,_,zf,qu rfl ?_⟩;refine ⟨_,zf,k,o,dx,_,zf,D,q101 k,_,zf,_,zf,d,_,zf,hu,o,u,dW a,zf,⟨dx,D⟩,wu.dat ok.hW O,qsb O ok.hk ok.tW,λ H2 s2=> ?_⟩;rw [qus O ok.hk ok.tW];exact ⟨_,zf,iteF ⟨J.trans s2,_,zf⟩⟩
  ·rintro σ G ⟨J,v,rfl⟩;exact q _ J
def q11r (K:PySem.W.Frag) (mg:Str ->Option Value):Sp:=λ vs H Q _=>∃ (b o d:Addr) (p:List Str) (k:Kd) (f:Str ->Option Wo) (W:List Str),vs=[.ref b,.ref o,.ref d]/\H b=some (.tup (p.map V.str))/\ByAt mg H o k/\WD H d f/\FOk W k f/\(∀ n∈p,∃ a,f n=some a)/\(∀ i,LtW k (2^600) (rkP k (gOf k f) (p.take i)))/\∀ z H',Same H H' ->NewV H z\/ p≠ [] ->WV H' (rkP k (gOf k f) p) z ->Q z H'
theorem qat (T:Txt K mg):Def P w K mg base 6 "product_reckoned" ["product","by","worths"] (q11r K mg):=by
 refine T.qc8.ok q2q (λ vs H Q E h=> ?_) λ f cdv A outer s H vs Q E hr h=> ?_
 ·obtain ⟨b,o,d,p,k,f,W,rfl,_⟩:=h;rfl
 ·obtain ⟨b,o,d,p,k,ff,W,rfl,hb,hB,hd,ok,a1,a2,q⟩:=h;refine ⟨_,(q3c
   (qy (i:=3) q2q.nd rfl (Or.inl rfl) (q3l (qo6 T) (q28 T) hr (pv 1)))
   (q1m PassesOwn.never rfl (q7m K (pv 0)) (qx (i:=4) q2q.nd rfl (Or.inl rfl)) (qg (qy (i:=3) q2q.nd rfl (Or.inl rfl) (q38 (qo7 T) (q28 T) hr (pv 1) (pa_2 (pv 3) (q4l (q2h hr) (pv 2) (pv 4) (λ _ _=>rfl)))))))
   (qk (pv 3))),?_⟩
  obtain ⟨dx,a0⟩:=id hB;refine ⟨_,zf,k,o,dx,_,zf,a0,qs9 k,o,zf,hB,λ z0 H1 s1 n0 w0=> ?_⟩;refine ⟨_,zf,b,zf,⟨_,SqT.of (s1 _ _ hb)⟩,qca (xs:=p.map V.str) (λ i σ G=>Same H G/\∃ z v,σ=[some (.ref b),some (.ref o),some (.ref d),some z,v]/\NewV H z/\WV G (rkP k (gOf k ff) (p.take i)) z) ⟨s1,z0,_,zf,n0,w0⟩ (λ i σ G _ z=>SqT.of (z.1 _ _ hb)) ?_ ?_⟩
  ·rintro i x σ G hx ⟨D,z,v,rfl,nz,Z⟩;rw [z22] at hx;obtain ⟨n,hn,rfl⟩:=z0q.mp hx;obtain ⟨a,ha⟩:=a1 n (z18 hn);obtain ⟨u,hu,wu⟩:=(hd.same D).get ha;obtain ⟨dx,J⟩:=hB.same D;have ga:=ok.good n a ha;have eg:gOf k ff n=a:=by
    unfold gOf;rw [ha];rfl
   have O:=ok.lt n;rw [eg] at O;refine ⟨_,zf,k,o,dx,_,zf,J,qsa k,_,zf,_,zf,_,zf,d,_,zf,hu,o,z,u,_,a,W,zf,⟨dx,J⟩,ok.hk,q2b ok.hW ok.hk ok.g _,ga,Z,wu,(a2 i).and O,λ z2 G2 s2 n2 w2=> ?_⟩;refine ⟨D.trans s2,z2,_,zf,n2.back D,?_⟩;rw [z3h,hn];show WV G2 (rkP k (gOf k ff) (p.take i++ [n])) z2;rw [qlt,eg];exact w2
  ·rintro σ G ⟨D,z,v,rfl,nz,Z⟩;rw [z30,z2t] at Z;exact ⟨_,zf,q z G D (.inl nz) Z⟩
def YOk (k:Kd) (g:Str ->Wo) (Y:Tab):Prop:=∀ p∈Y,p.2 < 2^600/\∀ i,LtW k (2^600) (rkP k g (p.1.take i))
def q11s (K:PySem.W.Frag) (mg:Str ->Option Value):Sp:=λ vs H Q _=>∃ (l o d:Addr) (Y:Tab) (k:Kd) (f:Str ->Option Wo) (W:List Str),vs=[.ref l,.ref o,.ref d]/\WA H l Y/\ByAt mg H o k/\WD H d f/\FOk W k f/\(∀ p∈Y,∀ n∈p.1,∃ a,f n=some a)/\YOk k (gOf k f) Y/\∀ z H',Same H H' ->NewV H z ->WV H' (rkY k (gOf k f) Y) z ->Q z H'
theorem q3a (T:Txt K mg):Def P w K mg base 7 "reckoned" ["why","by","worths"] (q11s K mg):=by
 refine T.qq3.ok q4x (λ vs H Q E h=> ?_) λ f cdv A outer s H vs Q E hr h=> ?_
 ·obtain ⟨l,o,d,Y,k,f,W,rfl,_⟩:=h;rfl
 ·obtain ⟨l,o,d,Y,k,ff,W,rfl,hl,hB,hd,ok,a3,hY,q⟩:=h;refine ⟨_,(qp3
   (q2t (qp (qj8 T) hr rfl (pa_3 (qp (qn4 T) hr rfl (pa_1 (pv 0))) (pv 1) (pv 2))))
   (qy (i:=3) q4x.nd rfl (Or.inl rfl) (q3l (q5g T) (q28 T) hr (pv 1)))
   (q1m PassesOwn.never rfl (q19 K (pv 0)) (qb1 rfl (q35 (qx (i:=4) q4x.nd rfl (Or.inl rfl)) (q35 (qx (i:=5) q4x.nd rfl (Or.inl rfl)) q93))) (qg (qy (i:=3) q4x.nd rfl (Or.inl rfl) (q38 (q5h T) (q28 T) hr (pv 1) (pa_2 (pv 3) (q38 (qn7 T) (q28 T) hr (pv 1) (pa_2 (qp (qat T) hr rfl (pa_3 (pv 4) (pv 1) (pv 2))) (pv 5))))))))
   (qk (pv 3))),?_⟩
  refine ⟨_,zf,l,Y,zf,hl,λ p ns H1 s1 _ hp a8 _=> ?_⟩;refine ⟨_,zf,_,zf,p,o,d,ns,k,ff,W,zf,hp,hB.same s1,hd.same s1,ok,λ n hn=> ?_,λ H2 s2=> ?_⟩
  ·obtain ⟨D,O,hx⟩:=(a8.2 n).mp hn;exact a3 D O n hx
  have Z:=s1.trans s2;obtain ⟨dx,a1⟩:=hB.same Z;refine ⟨_,zf,k,o,dx,_,zf,a1,q9e k,o,zf,⟨dx,a1⟩,λ z0 H3 s3 n0 w0=> ?_⟩;have a0:=Z.trans s3;obtain ⟨xs,a5,a4,a2⟩:=hl.same a0;have xl:=Paired.length a4;refine ⟨_,zf,l,zf,⟨_,SqL.of a5⟩,q26 (xs:=xs) (λ i σ G=>Same H3 G/\∃ z v1 v2,σ=[some (.ref l),some (.ref o),some (.ref d),some z,v1,v2]/\NewV H z/\WV G (rkY k (gOf k ff) (Y.take i)) z) ⟨Same.refl _,z0,_,_,zf,n0.back Z,w0⟩ (λ i σ G _ z=>SqL.of (z.1 _ _ a5)) ?_ ?_⟩
  ·rintro i x σ G hx ⟨sg,z,v1,v2,rfl,nz,wz⟩;obtain ⟨D,O,a9⟩:=q32 a4 hx;obtain ⟨qa,b,rfl,hq,a7⟩:=a9.keep (Same.keepT sg);have hm:=z18 O;have sH:=a0.trans sg;obtain ⟨dx,J⟩:=hB.same sH;have a6:0<=D.2:=(a2.2 D hm).2.2.1;have b3:NN Y:=λ p hp=>(a2.2 p hp).2.2.1;have gP:=q2b ok.hW ok.hk ok.g D.1;refine ⟨_,_,zf,SqT.of hq,zf,_,_,zf,_,_,zf,zf,?_⟩;refine ⟨_,zf,k,o,dx,_,zf,J,q9f k,_,zf,_,zf,k,o,dx,_,zf,J,q102 k,_,zf,_,zf,_,zf,b,o,d,D.1,k,ff,W,zf,a7,⟨dx,J⟩,hd.same sH,ok,a3 D hm,(hY D hm).2,λ u G2 s2 _ wu=> ?_⟩;have b2:LtW k (2^600) (rkP k (gOf k ff) D.1):=by
    have:=(hY D hm).2 D.1.length;rw [z2t] at this;exact this
   refine ⟨_,zf,o,u,D.2,_,W,zf,⟨dx,s2 _ _ J⟩,ok.hk,ok.hW,gP,wu,a6,λ e=>⟨b2 e,(hY D hm).1⟩,λ y G3 s3 _ wy=> ?_⟩;refine ⟨o,z,y,_,_,W,zf,⟨dx,(s2.trans s3) _ _ J⟩,ok.hk,q1z ok.hW ok.hk ok.g (λ p hp=>b3 p (z15 hp)),q5i ok.hW ok.hk gP a6,wz.same (s2.trans s3),wy,λ y2 G4 s4 n4 w4=> ?_⟩;have sA:=s2.trans (s3.trans s4);refine ⟨sg.trans sA,y2,_,_,zf,n4.back (sH.trans (s2.trans s3)),?_⟩;rw [z3h,O];show WV G4 (rkY k (gOf k ff) (Y.take i++ [D])) y2;rw [qlv];exact w4
  ·rintro σ G ⟨sg,z,v1,v2,rfl,nz,wz⟩;rw [xl,z2t] at wz;exact ⟨_,zf,q z G (a0.trans sg) nz wz⟩
def Ws (z:Str):Prop:=∀ c r,z.cps.toList=c::r ->c∈small.cps.toList
theorem q10a {d:Nat} (h:d∈small.cps.toList):Ws ⟨#[d]⟩:=λ c r e=>by
 injection (show [d]=c::r from e) with e1 e2;subst e1;exact h
theorem q10b {a b:Str} (h:Ws a) (k:a.cps.toList=[] ->Ws b):Ws (a++b):=λ c r e=>by
 rw [qla] at e;cases D:a.cps.toList with
 | nil=>
  rw [D,List.nil_append] at e;exact k D c r e
 | cons x xs=>
  rw [D,List.cons_append] at e;injection e with e1 _;subst e1;exact h _ _ D
theorem q10c {z:Str} (h:Wz 12 z) (h1:1<=z.length) (hs:Ws z):txtB small z=true:=by
 rw [qo9 h1 h.1];obtain ⟨c,r,e⟩:=qfe h1;rw [e];show (decide _&&_)=true;rw [z3c (hs c r e),z3t];exact z2n.mpr λ d hd=>z3c (h.2 d (by rw [e];exact z16 _ hd))
def rowR (c:Int):Nat ->Int
 | 0=>c / 2
 | i+1=>if c%2=1 then rowR c i / 10^24 else rowR c i
def rowO (c:Int) (i:Nat):Int:=(rowR c i%2147483629+7919*(0+(i:Int))+(0+(i:Int))*(0+(i:Int))+1)*48271%2147483647
def rowX (c:Int) (i:Nat):Int:=if c%2=1 then rowR c i%10^24 else rowO c i*((rowO c i+31*(0+(i:Int)))*69621%998244353)+rowO c i / 7
def rowF (c m:Int):List Int:=(List.range m.toNat).map (rowX c)
theorem qof (c:Int) (i:Nat):0<=rowO c i/\rowO c i < 2147483647:=⟨z3a _ (by decide),z1w _ (by decide)⟩
theorem qye (c:Int) (i:Nat):0<=rowX c i/\rowX c i < 10^24:=by
 unfold rowX;split
 ·exact ⟨z3a _ (by decide),z1w _ (by decide)⟩
 ·obtain ⟨a,b⟩:=qof c i;have D:0<=(rowO c i+31*(0+(i:Int)))*69621%998244353:=z3a _ (by decide);have t1:(rowO c i+31*(0+(i:Int)))*69621%998244353 < 998244353:=z1w _ (by decide);generalize (rowO c i+31*(0+(i:Int)))*69621%998244353=t at*;generalize rowO c i=o at*;have h1:0<=o*t:=z3k a D;have h2:o*t<=2147483647*t:=Int.mul_le_mul_of_nonneg_right (by omega) D;omega
theorem q6j {c m:Int} (h:0<=m):(rowF c m).length=m.toNat:=by
 unfold rowF;rw [z30,z29]
theorem qh4 {c m n:Int} (h:n∈rowF c m):0<=n/\n < 10^24:=by
 obtain ⟨i,_,rfl⟩:=z45.mp h;exact qye c i
theorem quy (c m:Int) (k:Nat):0<=(rowF c m).getD k 0/\(rowF c m).getD k 0 < 10^24:=by
 rw [z06];cases e:(rowF c m)[k]? with
 | none=>exact ⟨z4a _,by decide⟩
 | some z=>exact qh4 (z18 e)
def qyf:Sp:=λ vs H Q _=>∃ c m:Int,vs=[.int c,.int m]/\0<=m/\m<=100/\∀ p H',Same H H' ->H p=none ->H' p=some (.lst ((rowF c m).map V.int)) ->Q (.ref p) H'
theorem q4z (T:Txt K mg):Def P w K mg base 1 "_law_row" ["_law_cell","_law_many"] qyf:=by
 refine T.qq0.ok q39 (λ vs H Q E h=> ?_) λ f cdv A outer s H vs Q E hr h=> ?_
 ·obtain ⟨c,m,rfl,_⟩:=h;rfl
 ·obtain ⟨c,m,rfl,m0,m1,k⟩:=h;refine ⟨_,(qp3
   (qy (i:=2) q39.nd rfl (Or.inl rfl) (qm q4j (pv 0) qf))
   (qy (i:=3) q39.nd rfl (Or.inl rfl) (q20 q2d))
   (q1m PassesOwn.never rfl (q8n rfl T.q9k (pa_1 (pv 1))) (qx (i:=4) q39.nd rfl (Or.inl rfl)) (qg (q1c (q12 q25 (qm q1f (pv 0) qf) qf (q13 _)) (q2z
   (q2t (q8o z0l z0g z0h q6r (pv 3) (pa_1 (qm q1f (pv 2) (qm qkh qf qf)))))
   (qy (i:=2) q39.nd rfl (Or.inl rfl) (qm qtw (pv 2) (qm qkh qf qf)))) (q3c
   (qy (i:=5) q39.nd rfl (Or.inl rfl) (qm q1f (qm q4u (qm q1n (qm q1n (qm q1n (qm q1f (pv 2) qf) (qm q4u qf (pv 4))) (qm q4u (pv 4) (pv 4))) qf) qf) qf))
   (qy (i:=6) q39.nd rfl (Or.inl rfl) (qm q1f (qm q4u (qm q1n (pv 5) (qm q4u qf (pv 4))) qf) qf))
   (q2t (q8o z0l z0g z0h q6r (pv 3) (pa_1 (qm q1n (qm q4u (pv 5) (pv 6)) (qm q4j (pv 5) qf)))))))))
   (qk (pv 3))),?_⟩
  refine ⟨_,zf,_,_,zf,zf,⟨by decide,by decide⟩,?_⟩;refine ⟨by decide,λ p O=> ?_⟩;refine ⟨_,zf,_,zf,by omega,by omega,qb3 (lo:=0) (n:=m.toNat) (λ i σ H'=>∃ (J v1 v2:Option V),σ=[some (.int c),some (.int m),some (.int (rowR c i)),some (.ref p),J,v1,v2]/\H'=upd H p (.lst (((List.range i).map (rowX c)).map V.int)))
   ⟨none,none,none,rfl,rfl⟩ ?_ ?_⟩
  ·rintro i σ H' hi ⟨J,v1,v2,rfl,rfl⟩;have Z:(((List.range i).map (rowX c)).map V.int).length < sizeLine:=by rw [z30,z30,z29];exact q1v (by omega)
   refine ⟨_,rfl,_,_,rfl,rfl,(by show (0:Int) < 2;decide),rfl,_,rfl,ite2 (λ h=> ?_) (λ h=> ?_)⟩
   ·have D:c%2=1:=vi h;have e1:rowR c (i+1)=rowR c i / 10^24:=if_pos D;have e2:rowX c i=rowR c i%10^24:=if_pos D;refine ⟨_,rfl,.inl ⟨rfl,_,SqL.of qb⟩,_,rfl,_,_,rfl,rfl,⟨by decide,by decide,by decide⟩,_,_,rfl,rfl,(by show (0:Int) < 10^24;decide),_,_,_,rfl,rfl,qb,Z,?_⟩;refine ⟨_,rfl,_,_,rfl,rfl,⟨by decide,by decide,by decide⟩,_,_,rfl,rfl,⟨by show (0:Int) < 10^24;decide,by show Nat.log2 (Int.natAbs (10^24)) < 9000;decide+kernel⟩,?_⟩;refine ⟨_,_,_,by rw [e1];rfl,?_⟩;rw [q63,z35,z36,z36];show _=upd H p (.lst (_++ [V.int (rowX c i)]));rw [e2];rfl
   ·have D:¬ c%2=1:=vin h;have e1:rowR c (i+1)=rowR c i:=if_neg D;have e2:rowX c i=rowO c i*((rowO c i+31*(0+(i:Int)))*69621%998244353)+rowO c i / 7:=if_neg D;have ro:=qof c i;refine ⟨_,rfl,_,_,rfl,rfl,(by show (0:Int) < 2147483629;decide),_,rfl,_,_,rfl,rfl,.inl ⟨by decide,by decide⟩,_,_,rfl,rfl,_,rfl,_,rfl,_,_,rfl,rfl,.inl ⟨by show -(2^64) < (0+(i:Int));omega,by show (0+(i:Int)) < 2^64;omega⟩,_,_,rfl,rfl,_,_,rfl,rfl,_,_,rfl,rfl,.inr ⟨by decide,by decide⟩,_,_,rfl,rfl,(by show (0:Int) < 2147483647;decide),?_⟩;refine ⟨_,rfl,_,rfl,_,_,rfl,rfl,.inl ⟨by decide,by decide⟩,_,_,rfl,rfl,_,_,rfl,rfl,.inr ⟨by decide,by decide⟩,_,_,rfl,rfl,(by show (0:Int) < 998244353;decide),?_⟩;refine ⟨_,rfl,.inl ⟨rfl,_,SqL.of qb⟩,_,rfl,_,rfl,_,_,rfl,rfl,.inl ⟨by show -(2^64) < rowO c i;omega,by show rowO c i < 2^64;omega⟩,_,rfl,_,_,rfl,rfl,⟨by decide,by decide⟩,_,_,rfl,rfl,_,_,_,rfl,rfl,qb,Z,?_⟩;refine ⟨_,_,_,by rw [e1];rfl,?_⟩;rw [q63,z35,z36,z36];show _=upd H p (.lst (_++ [V.int (rowX c i)]));rw [e2];rfl
  ·rintro σ H' ⟨J,v1,v2,rfl,rfl⟩;exact ⟨_,zf,k p _ (qd O) O qb⟩
def lat:Str:="0123456789abcdefghijklmnopqrstuvwxyz"
def latC (i:Int):Nat:=lat.cps.toList.getD i.toNat 0
theorem q11t:∀ k:Nat,k < 36 ->lat.cps.toList[k]? =some (lat.cps.toList.getD k 0)/\lat.cps.toList.getD k 0∈fur.cps.toList:=by decide+kernel
theorem q11u:∀ k:Nat,k < 26 ->lat.cps.toList.getD (10+k) 0∈small.cps.toList:=by decide+kernel
theorem qfi {i:Int} (h0:0<=i) (h1:i < 36):atI lat.cps.toList i=some (latC i)/\latC i∈fur.cps.toList:=by
 obtain ⟨n,rfl⟩:=z0m h0;obtain ⟨a,b⟩:=q11t n (by omega);exact ⟨q4k a,b⟩
theorem qsf {i:Int} (h0:0<=i) (h1:i < 26):latC (10+i)∈small.cps.toList:=by
 obtain ⟨n,rfl⟩:=z0m h0;have:=q11u n (by omega);unfold latC;rw [show ((10:Int)+(n:Int)).toNat=10+n by omega];exact this
theorem qly:lat.length<=sizeLine:=by
 have:lat.length=36:=by decide+kernel
 rw [this];decide
def wdR (x:Int):Nat ->Int
 | 0=>x / 12 / 26
 | i+1=>wdR x i / 36
def wdS (x:Int):Nat ->Str
 | 0=>⟨#[latC (10+x / 12%26)]⟩
 | i+1=>wdS x i++⟨#[latC (wdR x i%36)]⟩
def q3f (x:Int):Str:=wdS x (x%12).toNat
theorem qfj (x:Int):∀ i:Nat,(wdS x i).length=i+1/\(∀ c∈(wdS x i).cps.toList,c∈fur.cps.toList)/\Ws (wdS x i)
 | 0=>by
  have a:0<=x / 12%26:=z3a _ (by decide);have b:x / 12%26 < 26:=z1w _ (by decide);refine ⟨zf,λ c hc=> ?_,q10a (qsf a b)⟩;have:c=latC (10+x / 12%26):=z1m.mp (show c∈ [latC (10+x / 12%26)] from hc);rw [this];exact (qfi (by omega) (by omega)).2
 | i+1=>by
  obtain ⟨a,b,c⟩:=qfj x i;have h0:0<=wdR x i%36:=z3a _ (by decide);have h1:wdR x i%36 < 36:=z1w _ (by decide);refine ⟨?_,λ z hz=> ?_,?_⟩
  ·show (wdS x i++(⟨#[latC (wdR x i%36)]⟩:Str)).length=_;rw [qxc,a];rfl
  ·have D:z∈(wdS x i++(⟨#[latC (wdR x i%36)]⟩:Str)).cps.toList:=hz;rw [qla] at D;rcases z2u.mp D with h | h
   ·exact b z h
   ·have:z=latC (wdR x i%36):=z1m.mp (show z∈ [latC (wdR x i%36)] from h);rw [this];exact (qfi h0 h1).2
  ·exact q10b c λ e=>absurd a (by rw [<- qa8,e];exact λ z=>nomatch z)
theorem qc2 (x:Int):((q3f x).length:Int)=x%12+1:=by
 have:0<=x%12:=z3a _ (by decide);unfold q3f;rw [(qfj x _).1];omega
theorem qsg (x:Int):txtB small (q3f x)=true/\Wz 12 (q3f x)/\1<=(q3f x).length:=by
 have h1:x%12 < 12:=z1w _ (by decide);have hl:=qc2 x;have h0:0<=x%12:=z3a _ (by decide);obtain ⟨a,b,c⟩:=qfj x (x%12).toNat;have D:Wz 12 (q3f x):=⟨by omega,b⟩;exact ⟨q10c D (by omega) c,D,by omega⟩
def q10d:Sp:=λ vs H Q _=>∃ x:Int,vs=[.int x]/\Q (.str (q3f x)) H
theorem qc3 (T:Txt K mg):Def P w K mg base 1 "_law_word" ["_law_x"] q10d:=by
 refine T.qn9.ok q2g (λ vs H Q E h=> ?_) λ f cdv A outer s H vs Q E hr h=> ?_
 ·obtain ⟨x,rfl,_⟩:=h;rfl
 ·obtain ⟨x,rfl,k⟩:=h;refine ⟨_,(q118
   (qy (i:=1) q2g.nd rfl (Or.inl rfl) qys)
   (qy (i:=2) q2g.nd rfl (Or.inl rfl) (qm q4j (pv 0) qf))
   (qy (i:=3) q2g.nd rfl (Or.inl rfl) (q1g qkl (pv 1) (qm q1n qf (qm q1f (pv 2) qf)) (λ _ _=>rfl)))
   (qy (i:=2) q2g.nd rfl (Or.inl rfl) (qm q4j (pv 2) qf))
   (q1m PassesOwn.never rfl (q8n rfl T.q9k (pa_1 (qm q1f (pv 0) qf))) (qx (i:=4) q2g.nd rfl (Or.inl rfl)) (q2z
   (qy (i:=3) q2g.nd rfl (Or.inl rfl) (qm qou (pv 3) (q1g qkl (pv 1) (qm q1f (pv 2) qf) (λ _ _=>rfl))))
   (qy (i:=2) q2g.nd rfl (Or.inl rfl) (qm q4j (pv 2) qf))))
   (qk (pv 3))),?_⟩
  have a0:0<=x / 12%26:=z3a _ (by decide);have a1:x / 12%26 < 26:=z1w _ (by decide);have b0:0<=x%12:=z3a _ (by decide);have b1:x%12 < 12:=z1w _ (by decide);obtain ⟨J,l2⟩:=qfi (i:=10+x / 12%26) (by omega) (by omega);refine ⟨_,zf,_,_,zf,zf,⟨by decide,by decide⟩,?_⟩;refine ⟨_,rfl,_,rfl,_,_,rfl,rfl,(by show (0:Int) < 26;decide),_,_,rfl,rfl,_,_,_,rfl,rfl,qly,J,?_⟩;refine ⟨_,zf,_,_,zf,zf,⟨by decide,by decide⟩,?_⟩;refine ⟨_,rfl,_,_,rfl,rfl,(by show (0:Int) < 12;decide),_,rfl,by omega,by omega,qb3 (lo:=0) (n:=(x%12).toNat) (λ i σ H'=>H'=H/\∃ D:Option V,σ=[some (.int x),some (.str lat),some (.int (wdR x i)),some (.str (wdS x i)),D]) ⟨rfl,none,rfl⟩ ?_ ?_⟩
  ·rintro i σ H' hi ⟨rfl,D,rfl⟩;have c0:0<=wdR x i%36:=z3a _ (by decide);have c1:wdR x i%36 < 36:=z1w _ (by decide);obtain ⟨J,l2⟩:=qfi c0 c1;refine ⟨_,rfl,_,rfl,_,rfl,_,_,rfl,rfl,(by show (0:Int) < 36;decide),_,_,_,rfl,rfl,qly,J,_,_,rfl,rfl,?_,?_⟩
   ·rw [(qfj x i).1];exact z41 (Nat.add_le_add_left (qxh _) _) (z41 (show i+1+1<=1000 by omega) (by decide))
   ·exact ⟨_,zf,_,_,zf,zf,⟨by decide,by decide⟩,zf,_,zf⟩
  ·rintro σ H' ⟨rfl,D,rfl⟩;exact ⟨_,zf,k⟩
theorem quz {x y:Int} (h:x%12≠y%12):q3f x≠q3f y:=λ e=>by
 have a:=qc2 x;have b:=qc2 y;rw [e] at a;omega
theorem qsh {x:Int} {ws:List Str}:∀ t:Nat,t<=12 ->(∀ j:Nat,j < t ->q3f (x+j)∈ws) ->t<=ws.length:=λ t ht h=>by
 have nd:((List.range t).map λ (j:Nat)=>q3f (x+j)).Nodup:=by
  refine List.pairwise_map.mpr (List.Pairwise.imp_of_mem ?_ (List.nodup_range (n:=t)));intro a b ha D hab;have ha:=z3d.mp ha;have D:=z3d.mp D;exact quz (by omega)
 have:=q5t nd (v:=ws) λ w hw=>by
  obtain ⟨j,hj,rfl⟩:=z45.mp hw;exact h j (z3d.mp hj)
 rw [z30,z29] at this;exact this
def qyg:Sp:=λ vs H Q _=>∃ c m:Int,vs=[.int c,.int m]/\0<=m/\m<=7/\∀ p (ws:List Str) H',Same H H' ->H p=none ->H' p=some (.lst (ws.map V.str)) ->ws.length=m.toNat ->ws.Nodup ->(∀ z∈ws,txtB small z=true/\Wz 12 z/\1<=z.length) ->Q (.ref p) H'
theorem qj9 (T:Txt K mg):Def P w K mg base 2 "_law_words" ["_law_cell","_law_many"] qyg:=by
 refine T.qmi.ok q51 (λ vs H Q E h=> ?_) λ f cdv A outer s H vs Q E hr h=> ?_
 ·obtain ⟨c,m,rfl,_⟩:=h;rfl
 ·obtain ⟨c,m,rfl,m0,m1,k⟩:=h;refine ⟨_,(q3c
   (qy (i:=2) q51.nd rfl (Or.inl rfl) (q20 q2d))
   (q1m PassesOwn.never rfl (q19 K (qp (q4z T) hr rfl (pa_2 (pv 0) (pv 1)))) (qx (i:=3) q51.nd rfl (Or.inl rfl)) (q2z
   (qkg PassesOwn.never (q12 (qz9 K) (qp (qc3 T) hr rfl (pa_1 (pv 3))) (pv 2) (by with_unfolding_all rfl)) (qg (qy (i:=3) q51.nd rfl (Or.inl rfl) (qm q1n (pv 3) qf))))
   (q2t (q8o z0l z0g z0h q6r (pv 2) (pa_1 (qp (qc3 T) hr rfl (pa_1 (pv 3))))))))
   (qk (pv 2))),?_⟩
  refine ⟨by decide,λ q hq=> ?_⟩;have s0:=qd (o:=HO.lst []) hq;refine ⟨_,zf,_,zf,c,m,zf,m0,by omega,λ p H1 s1 O hp=> ?_⟩;have sq:H1 q=some (.lst []):=s1 _ _ qb;have a1:q≠p:=λ e=>by rw [e,qb] at O;cases O
  refine ⟨p,rfl,⟨_,SqL.of hp⟩,q26 (xs:=(rowF c m).map V.int) (λ i σ G=>∃ (v:Option V) (ws:List Str),σ=[some (.int c),some (.int m),some (.ref q),v]/\Same H G/\G p=some (.lst ((rowF c m).map V.int))/\G q=some (.lst (ws.map V.str))/\ws.length=i/\ws.Nodup/\∀ z∈ws,txtB small z=true/\Wz 12 z/\1<=z.length)
   ⟨none,[],rfl,s0.trans s1,hp,sq,rfl,z3g,λ _ z=>nomatch z⟩ (λ i σ G _ z=>by obtain ⟨_,_,_,_,z,_⟩:=z;exact SqL.of z) ?_ ?_⟩
  ·rintro i x σ G hx ⟨v,ws,rfl,sg,gp,J,Z,nd,hw⟩;have il:i < (rowF c m).length:=by
    have:=(z07.mp hx).1;rw [z30] at this;exact this
   rw [q6j m0] at il;rw [z22] at hx;obtain ⟨n,hni,rfl⟩:=z0q.mp hx;refine ⟨λ d σ F=>∃ t:Nat,d=ws.length - t/\t<=ws.length/\σ=[some (.int c),some (.int m),some (.ref q),some (.int (n+t))]/\F=G/\∀ j:Nat,j < t ->q3f (n+j)∈ws,⟨_,0,rfl,z4b _,by show _=[_,_,_,some (V.int (n+0))];rw [Int.add_zero];rfl,rfl,λ j z=>absurd z (Nat.not_lt_zero _)⟩,?_⟩;rintro d σ F ⟨t,rfl,ht,rfl,rfl,hj⟩;refine ⟨_,zf,n+t,zf,_,zf,q,_,zf,.inl (SqL.of J),zf,qi5 ws,_,zf,?_⟩;show if inV (V.str (q3f (n+t))) (ws.map V.str)=true then _ else _
   rw [qlj];refine ite2 (λ h1=> ?_) (λ h1=> ?_)
   ·have D:q3f (n+t)∈ws:=by simpa using h1
    have a2:t+1<=ws.length:=qsh (x:=n) (t+1) (by omega) λ j a0=>by
     by_cases e:j < t
     ·exact hj j e
     ·rw [show j=t by omega];exact D
    refine ⟨λ σ' H'=>∃ t':Nat,t'=t+1/\σ'=[some (.int c),some (.int m),some (.ref q),some (.int (n+t'))]/\H'=F,?_,?_⟩
    ·rintro σ' H' ⟨t',rfl,rfl,rfl⟩;refine ⟨ws.length - (t+1),by omega,t+1,zf,a2,zf,zf,λ j a0=> ?_⟩;by_cases e:j < t
     ·exact hj j e
     ·rw [show j=t by omega];exact D
    ·exact ⟨_,rfl,_,_,rfl,rfl,t+1,rfl,by rw [show n+((t+1:Nat):Int)=n+t+1 by omega];rfl,rfl⟩
   ·have D:q3f (n+t)∉ws:=by simpa using h1
    have a3:=qsg (n+t);refine ⟨_,rfl,.inl ⟨rfl,_,SqL.of J⟩,_,rfl,n+t,rfl,_,_,_,rfl,rfl,J,by rw [z30,Z];exact q1v (by omega),?_⟩;refine ⟨_,ws++ [q3f (n+t)],rfl,sg.set hq,by rw [qh a1.symm];exact gp,by rw [qb,z36];rfl,by rw [z1o,Z];rfl,?_,λ z hz=> ?_⟩
    ·rw [z2d];refine ⟨nd,by simp,λ a ha b hb e=> ?_⟩;rw [z1m.mp hb] at e;exact D (by rw [<- e];exact ha)
    ·rcases z2u.mp hz with hz | hz
     ·exact hw z hz
     ·rw [z1m.mp hz];exact a3
  ·rintro σ G ⟨v,ws,rfl,sg,gp,J,Z,nd,hw⟩;rw [z30,q6j m0] at Z;exact ⟨_,zf,k q ws G sg hq J Z nd hw⟩
def W6 (ws:List Str) (W:Tab):Prop:=Rise W/\Bd 6 3 (10^24) W/\∀ p∈W,1<=p.2/\Asc p.1/\∀ z∈p.1,z∈ws
theorem W6.bw {ws:List Str} {W:Tab} (h:W6 ws W):BW W:=h.2.1.le (by decide) (by decide) (by decide)
theorem rng5:∀ n:Nat,n < 7 ->Builtin.Range.small 0 ((5*n:Nat):Int) 5=true/\0<=Builtin.Range.rangeSize 0 ((5*n:Nat):Int) 5/\cnt3 0 ((5*n:Nat):Int) 5=n:=by decide+kernel
def qyh:Sp:=λ vs H Q _=>∃ (ra wa:Addr) (is:List Int) (ws:List Str) (n:Nat),vs=[.ref ra,.ref wa]/\H ra=some (.lst (is.map V.int))/\is.length=5*n/\n<=6/\H wa=some (.lst (ws.map V.str))/\1<=ws.length/\(∀ z∈ws,PyData.strOk z=true)/\
 ∀ l W H',Same H H' ->H l=none ->WA H' l W ->W6 ws W ->Q (.ref l) H'
theorem q9i (T:Txt K mg):Def P w K mg base 1 "_law_why_by" ["_law_row_here","_law_words_here"] qyh:=by
 refine T.qjp.ok q4p (λ vs H Q E h=> ?_) λ f cdv A outer s H vs Q E hr h=> ?_
 ·obtain ⟨ra,wa,is,ws,n,rfl,_⟩:=h;rfl
 ·obtain ⟨ra,wa,is,ws,nn,rfl,c4,f6,n6,f4,wl,hok,k⟩:=h;refine ⟨_,(q3c
   (qy (i:=2) q4p.nd rfl (Or.inr rfl) q9r)
   (q1m PassesOwn.never rfl (qrp rfl T.q9k (pa_3 qf (qq (q2y K) rfl T.b_len q46 (pa_1 (pv 0))) qf)) (qx (i:=3) q4p.nd rfl (Or.inl rfl)) (q2z
   (qy (i:=4) q4p.nd rfl (Or.inl rfl) (q27 (q6l K) rfl T.q9j q7x (pa_1 (qq (q7y K) rfl T.q2c q22 (pa_1 (q29 (N:=["_law_x","_law_words_here"]) (caps:=[none,some 1]) rfl (by with_unfolding_all rfl) (q19 K (q45 (q55 K) (pv 0) (q3z (qm q1n (pv 3) qf)) (q3z (qm q1n (qm q1n (pv 3) qf) (qm q1f (q1g (q17 K) (pv 0) (pv 3) (λ _ _=>rfl)) qf))))) (λ _ _ _ _ _=>(qx (i:=0) (show (["_law_x","_law_words_here"]:List Str).Nodup by decide+kernel) rfl (Or.inl rfl))) (λ _ _ _ _ _=>q3v) (λ _ _ _ _ _=>(q1g (q17 K) (pv 1) (qm q1f (pv 0) (qq (q2y K) rfl T.b_len q46 (pa_1 (pv 1)))) (λ _ _=>rfl)))))))))
   (q7l (q2h hr) (pv 2) (pv 4) (qm q1n qf (qm q1f (qm q4j (q1g (q17 K) (pv 0) (qm q1n (pv 3) qf) (λ _ _=>rfl)) qf) (q1g (q17 K) (q20 (pa_2 qf (qm qkh qf qf))) (qm q1f (q1g (q17 K) (pv 0) (qm q1n (pv 3) qf) (λ _ _=>rfl)) qf) (λ _ _=>rfl)))) rfl)))
   (qk (q29 (N:=["_law_product","_law_ways"]) (caps:=[none,some 2]) rfl (by with_unfolding_all rfl) (q19 K (qq (qb9 hr.units rfl K) rfl T.q2c q22 (pa_1 (pv 2)))) (λ _ _ _ _ _=>(qx (i:=0) (show (["_law_product","_law_ways"]:List Str).Nodup by decide+kernel) rfl (Or.inl rfl))) (λ _ _ _ _ _=>q3v) (λ _ _ _ _ _=>(q6q (pa_2 (pv 0) (q4l (q2h hr) (pv 1) (pv 0) (λ _ _=>rfl)))))))),?_⟩
  refine λ d hd=> ?_;have s1:=qd (o:=HO.dT []) hd;have c5:=s1 _ _ c4;obtain ⟨g1,g2,g3⟩:=rng5 nn (by omega);have el:((is.map V.int).length:Int)=((5*nn:Nat):Int):=by rw [z30,f6]
  refine ⟨_,rfl,_,_,rfl,.inl ⟨_,SqL.of c5,rfl⟩,_,_,_,rfl,⟨by decide,by decide⟩,by rw [el];exact g1,by rw [el];exact g2,?_⟩;rw [el,g3];refine qpi (lo:=0) (c:=5) (n:=nn) (λ i σ G=>Same H G/\(∃ v1 v2,σ=[some (.ref ra),some (.ref wa),some (.ref d),v1,v2])/\∃ W:Tab,G d=some (encD W)/\(W.map (·.1)).Nodup/\W.length<=i/\∀ J∈W,1<=J.2/\Asc J.1/\J.1.length<=3/\(∀ z∈J.1,z∈ws)/\J.2<=10^24) ⟨s1,⟨_,_,rfl⟩,[],qb,z3g,z48 _,λ _ z=>nomatch z⟩ ?_ ?_
  ·rintro i σ G hi ⟨sg,⟨v1,v2,rfl⟩,W,hW,a1,b6,a7⟩;have hp:=sg _ _ c4;have d1:atI (is.map V.int) (0+(i:Int)*5)=some (V.int (is.getD (5*i) 0)):=by
    rw [show (0+(i:Int)*5)=((5*i:Nat):Int) by omega];exact q2m (by omega)
   have a9:atI (is.map V.int) (0+(i:Int)*5+4)=some (V.int (is.getD (5*i+4) 0)):=by
    rw [show (0+(i:Int)*5+4)=((5*i+4:Nat):Int) by omega];exact q2m (by omega)
   refine ⟨_,rfl,_,rfl,_,_,rfl,rfl,_,rfl,_,rfl,_,_,rfl,rfl,_,rfl,_,rfl,_,_,_,_,rfl,rfl,SqL.of hp,d1,_,_,rfl,rfl,(by show (0:Int) < 4;decide),_,_,rfl,rfl,_,rfl,_,_,rfl,SqL.of hp,λ q hq=> ?_⟩;obtain ⟨ms,em,lm⟩:∃ ms:List Int,cutV (is.map V.int) (some (0+(i:Int)*5+1)) (some (0+(i:Int)*5+1+is.getD (5*i) 0%4))=ms.map V.int/\ms.length<=3:=by
    refine ⟨_,qvy is _ _,?_⟩;have h0:0<=is.getD (5*i) 0%4:=z3a _ (by decide);have h1:is.getD (5*i) 0%4 < 4:=z1w _ (by decide);obtain ⟨r,hr⟩:=z0m h0;rw [hr,show (0+(i:Int)*5+1)=((5*i+1:Nat):Int) by omega,show ((5*i+1:Nat):Int)+(r:Int)=((5*i+1+r:Nat):Int) by omega];exact z41 (qy3 is (5*i+1) (5*i+1+r)) (by omega)
   rw [em];have t2:=qd (o:=HO.lst (ms.map V.int)) hq;refine ⟨q,zf,⟨_,SqL.of qb⟩,λ D hD=> ?_⟩;have t3:=qd (o:=HO.lst []) hD;refine q1x (ms.map V.int).length (λ i σ' H'=>(∃ v,σ'=[v,some (.ref wa)])/\Same (upd G q (.lst (ms.map V.int))) H'/\∃ ys:List Str,H' D=some (.lst (ys.map V.str))/\ys.length=i/\∀ y∈ys,y∈ws) ⟨⟨_,rfl⟩,t3,[],qb,rfl,λ _ z=>nomatch z⟩ (λ i σ' H' hi p=> ?_) (λ σ' H' p=>⟨?_,?_⟩) (λ i σ' H' hi p x H2 y=> ?_)
   ·obtain ⟨_,O,_⟩:=p;exact ⟨_,(ms.map V.int)[i],SqL.of (O _ _ qb),z0d hi⟩
   ·obtain ⟨_,O,_⟩:=p;exact ⟨_,SqL.of (O _ _ qb),z48 _⟩
   ·obtain ⟨_,O,ys,e,yl,hy⟩:=p;rw [z30] at yl;refine ⟨_,ys,zf,.inl (SqL.of e),λ l d7=> ?_⟩;have u1:=qd (o:=HO.lst ((Tim.srt ql ys).map V.str)) d7;refine ⟨_,_,zf,.inl ⟨SqL.of qb,λ t ht=> ?_⟩⟩;have u2:=qd (o:=HO.tup ((Tim.srt ql ys).map V.str)) ht;have uA:=t2.trans (O.trans (u1.trans u2));have c1:=uA _ _ hp;have d6:=uA _ _ hW;have f0:upd (upd H' l (.lst ((Tim.srt ql ys).map V.str))) t (.tup ((Tim.srt ql ys).map V.str)) t=some (.tup (((Tim.srt ql ys).map (Sum.inr:Str ->Key)).map kV)):=by
     rw [qb,q65]
    generalize upd (upd H' l (.lst ((Tim.srt ql ys).map V.str))) t (.tup ((Tim.srt ql ys).map V.str))=H6 at*;have d0:(Tim.srt ql ys).length=ys.length:=(Tim.qo ql _).length_eq;have c0:((encI W).map λ J=>(J.1.map (Sum.inr:Str ->Key),J.2)).length=W.length:=by rw [z30];unfold encI;rw [z30]
    refine ⟨_,rfl,_,rfl,_,_,rfl,rfl,_,_,_,_,rfl,rfl,SqL.of c1,a9,_,_,rfl,rfl,⟨by decide,by decide⟩,_,_,rfl,rfl,⟨by decide,by decide,by decide⟩,by show 2<=sizeLine;decide,λ L hL=> ?_⟩;have u3:=qd (o:=HO.lst [V.int 3,V.int (10^24)]) hL;obtain ⟨v,d4,hv⟩:=qr5 (xs:=[V.int 3,V.int (10^24)]) (i:=is.getD (5*i+4) 0%2) (z3a _ (by decide)) (z1w _ (by decide));refine ⟨_,rfl,_,rfl,_,_,rfl,rfl,_,_,_,_,rfl,rfl,SqL.of (u3 _ _ c1),a9,_,_,rfl,rfl,(by show (0:Int) < 2;decide),_,_,_,v,rfl,rfl,SqL.of qb,d4,?_⟩;simp only [z3n,z2r,or_false] at hv;have fin:∀ n:Int,1<=n ->n<=10^24 ->(Same H (upd (upd H6 L (.lst [V.int 3,V.int (10^24)])) d (.dT (putK ((encI W).map λ J=>(J.1.map Sum.inr,J.2)) ((Tim.srt ql ys).map Sum.inr) (V.int n))))/\∃ W':Tab,upd (upd H6 L (.lst [V.int 3,V.int (10^24)])) d (.dT (putK ((encI W).map λ J=>(J.1.map Sum.inr,J.2)) ((Tim.srt ql ys).map Sum.inr) (V.int n))) d=some (encD W')/\(W'.map (·.1)).Nodup/\W'.length<=i+1/\∀ J∈W',1<=J.2/\Asc J.1/\J.1.length<=3/\(∀ z∈J.1,z∈ws)/\J.2<=10^24):=λ n d9 e0=>by
     refine ⟨(sg.trans (uA.trans u3)).set hd,putA W (Tim.srt ql ys) n,by rw [qb,qlb];rfl,qrq a1 _ _,z41 (qnz _ _ _) (z2q b6),λ J a8=> ?_⟩;rcases qu1 a8 with h | h
     ·exact a7 J h
     ·rw [h];exact ⟨d9,Tim.q1r q1j _,by rw [d0];omega,λ z hz=>hy z ((Tim.qo ql _).mem_iff.mp hz),e0⟩
    have b8:=u3 _ _ d6;have c6:=u3 _ _ f0;have c9:((encI W).map λ J=>(J.1.map (Sum.inr:Str ->Key),J.2)).length < sizeLine:=by rw [c0];exact q1v (by omega)
    rcases hv with rfl | rfl
    ·have h0:0<=is.getD (5*i+4) 0 / 2%3:=z3a _ (by decide);have h1:is.getD (5*i+4) 0 / 2%3 < 3:=z1w _ (by decide);refine ⟨_,_,rfl,rfl,(by show (0:Int) < 3;decide),_,_,rfl,rfl,_,rfl,_,rfl,d,_,rfl,DPut.t b8 c6 c9,?_⟩;obtain ⟨f1,f2⟩:=fin (1+is.getD (5*i+4) 0 / 2%3) (by omega) (by omega);exact ⟨f1,⟨_,_,zf⟩,f2⟩
    ·have h0:0<=is.getD (5*i+4) 0 / 2%10^24:=z3a _ (by decide);have h1:is.getD (5*i+4) 0 / 2%10^24 < 10^24:=z1w _ (by decide);refine ⟨_,_,rfl,rfl,(by show (0:Int) < 10^24;decide),_,_,rfl,rfl,_,rfl,_,rfl,d,_,rfl,DPut.t b8 c6 c9,?_⟩;obtain ⟨f1,f2⟩:=fin (1+is.getD (5*i+4) 0 / 2%10^24) (by omega) (by omega);exact ⟨f1,⟨_,_,zf⟩,f2⟩
   ·obtain ⟨⟨v,rfl⟩,O,ys,e,yl,hy⟩:=p;obtain ⟨rfl,hx⟩:=y;have a3:=hx _ (SqL.of (O _ _ qb));rw [z22] at a3;obtain ⟨n,e4,rfl⟩:=z0q.mp a3;have c7:=O _ _ (t2 _ _ (sg _ _ f4));have wp:(0:Int) < ((ws.map V.str).length:Int):=by rw [z30];omega
    have e8:=z3a n (show ((ws.map V.str).length:Int)≠0 by omega);have e9:=z1w n wp;obtain ⟨v2,f3,d8⟩:=qr5 (xs:=ws.map V.str) (i:=n%((ws.map V.str).length:Int)) e8 e9;obtain ⟨z,hz,rfl⟩:=z45.mp d8;refine ⟨_,zf,_,zf,_,zf,_,_,zf,.inl ⟨_,SqL.of c7,zf⟩,_,_,zf,zf,wp,_,_,_,_,zf,zf,SqL.of c7,f3,?_⟩;have il:i < ms.length:=(z07.mp e4).1;refine ⟨_,e,by rw [z30,yl];exact q1v (by omega),⟨_,rfl⟩,O.set hD,ys++ [z],by rw [qb,z36];rfl,by rw [z1o,yl];rfl,λ y f5=> ?_⟩;rcases z2u.mp f5 with h | h
    ·exact hy y h
    ·rw [z1m.mp h];exact hz
  ·rintro σ G ⟨sg,⟨v1,v2,rfl⟩,W,hW,a1,b6,a7⟩;refine ⟨_,zf,d,encI W,zf,hW,λ l zs hl hz=> ?_⟩;have ek:(encI W).map (·.1)=W.map (·.1):=by unfold encI;rw [z47];rfl
   rw [ek] at hz;have u1:=qd (o:=HO.lst zs) hl;refine ⟨l,zf,⟨_,SqL.of qb⟩,λ D2 a6=> ?_⟩;have e5:zs.length=(Tim.srt qz (W.map (·.1))).length:=Paired.length hz;have a4:G D2=none:=u1.free a6;have d2:(Tim.srt qz (W.map (·.1))).length=W.length:=by
    rw [(Tim.qo qz _).length_eq,z30]
   have a0:∀ p∈Tim.srt qz (W.map (·.1)),p∈W.map (·.1):=λ p hp=>(Tim.qo qz _).mem_iff.mp hp;have d3:(Tim.srt qz (W.map (·.1))).Pairwise λ a b=>qz a b=true:=qbp q2a (Tim.q1r q2a _) ((Tim.qo qz _).nodup_iff.mpr a1);generalize Tim.srt qz (W.map (·.1))=S at*;refine q1x zs.length (λ i σ' H'=>(∃ v,σ'=[v,some (.ref d)])/\Same (upd G l (.lst zs)) H'/\∃ ys,H' D2=some (.lst ys)/\(∀ H2,KeepT H' H2 ->Paired (PlAt H2) ys ((S.take i).map λ k=>(k,(getA W k).getD 0)))/\ys.length=i) ⟨⟨_,zf⟩,qd a6,[],qb,λ _ _=> .nil,zf⟩ (λ i σ' H' hi p=> ?_) (λ σ' H' p=>⟨?_,?_⟩) (λ i σ' H' hi p x H2 y=> ?_)
   ·obtain ⟨_,O,_⟩:=p;exact ⟨_,zs[i],SqL.of (O _ _ qb),z0d hi⟩
   ·obtain ⟨_,O,_⟩:=p;exact ⟨_,SqL.of (O _ _ qb),z48 _⟩
   ·obtain ⟨_,O,ys,e,c8,yl⟩:=p;rw [e5,z2t] at c8;have Z:∀ J∈S.map λ k=>(k,(getA W k).getD 0),1<=J.2/\Asc J.1/\J.1.length<=3/\(∀ z∈J.1,z∈ws)/\J.2<=10^24:=λ J a8=>by
     obtain ⟨pr,a2,rfl⟩:=z45.mp a8;obtain ⟨n,hn,a5⟩:=qdx a1 (a0 pr a2);have:=a7 _ a5;rw [hn];exact this
    have w5:W6 ws (S.map λ k=>(k,(getA W k).getD 0)):=by
     refine ⟨?_,⟨by rw [z30];omega,λ p hp=> ?_⟩,λ p hp=>⟨(Z p hp).1,(Z p hp).2.1,(Z p hp).2.2.2.1⟩⟩
     ·unfold Rise;rw [z47];exact (z4c S).symm ▸ d3
     ·obtain ⟨b1,b2,b3,b4,b5⟩:=Z p hp;exact ⟨λ x hx=>hok x (b4 x hx),b3,by omega,b5⟩
    exact k D2 _ H' (sg.trans (u1.trans O)) (sg.free a4) ⟨ys,e,c8 H' (λ _ _ z=>z),w5.bw⟩ w5
   ·obtain ⟨⟨v,rfl⟩,O,ys,e2,e7,yl⟩:=p;obtain ⟨rfl,hx⟩:=y;have a3:=hx _ (SqL.of (O _ _ qb));obtain ⟨pr,a2,b,rfl,hb⟩:=q32 hz a3;obtain ⟨n,hn,a5⟩:=qdx a1 (a0 pr (z18 a2));have b7:=O _ _ (u1 _ _ hb);have b9:DGet H2 d (.ref b) (some (.int n)):=by
     have e1:(some (V.int n))=valV ((encI W).map λ J=>(J.1.map (Sum.inr:Str ->Key),J.2)) (pr.map Sum.inr):=by rw [qdv,hn];rfl
     rw [e1];exact DGet.t (O _ _ (u1 _ _ hW)) (by rw [q65];exact b7)
    refine ⟨_,rfl,_,rfl,_,rfl,d,_,rfl,b9,by show 2<=sizeLine;decide,λ q hq=> ?_⟩;have u3:=qd (o:=HO.tup [.ref b,.int n]) hq;have e6:q≠D2:=λ z=>by
     rw [z,e2] at hq;cases hq
    have d5:b≠D2:=λ z=>by
     rw [z,a4] at hb;cases hb
    refine ⟨_,u3 _ _ e2,by rw [yl];exact q1v (by omega),⟨_,rfl⟩,(O.trans u3).set a6,ys++ [.ref q],qb,λ H5 h5=> ?_,by rw [z1o,yl];rfl⟩;rw [z3h,a2,z36];refine q90 (e7 H5 (((Same.keepT u3).upd (u3 _ _ e2)).trans h5)) ⟨q,b,rfl,h5 q _ ?_,h5 b _ (by rw [qh d5];exact u3 _ _ b7)⟩;rw [qh e6,qb];show some (HO.tup [V.ref b,V.int n])=some (HO.tup [V.ref b,V.int ((getA W pr).getD 0)]);rw [hn];rfl
def pw2 (k:Nat):Int:=[1,2,4,8].getD k 1
def bitB (x:Int) (k:Nat):Bool:=decide (V.int (x / pw2 k%2)=V.int 1)
def bitN (ws:List Str) (x:Int) (n:Nat):List Str:=((List.range n).filter (bitB x)).map λ k=>ws.getD k endW
def bitW (ws:List Str) (x:Int):List Str:=bitN ws x ws.length
theorem q10e:∀ k:Nat,k < 4 ->atI [V.int 1,V.int 2,V.int 4,V.int 8] (0+(k:Int))=some (V.int (pw2 k))/\0 < pw2 k/\pw2 k < 1073741824
 | 0,_=>⟨q4k (j:=0) rfl,by decide,by decide⟩
 | 1,_=>⟨q4k (j:=1) rfl,by decide,by decide⟩
 | 2,_=>⟨q4k (j:=2) rfl,by decide,by decide⟩
 | 3,_=>⟨q4k (j:=3) rfl,by decide,by decide⟩
 | n+4,h=>absurd h (by omega)
theorem qsi (ws:List Str):(List.range ws.length).map (λ k=>ws.getD k endW)=ws:=by
 refine List.ext_getElem (by rw [z30,z29]) λ i h1 h2=> ?_;rw [List.getElem_map,List.getElem_range,z06,z0d h2];rfl
theorem qlz (ws:List Str) (x:Int):(bitW ws x).Sublist ws:=by
 have h:=List.Sublist.map (λ k=>ws.getD k endW) (List.filter_sublist (p:=bitB x) (l:=List.range ws.length));rw [qsi] at h;exact h
theorem qid (ws:List Str) (x:Int) (n:Nat):bitN ws x (n+1)=bitN ws x n++if bitB x n=true then [ws.getD n endW] else []:=by
 unfold bitN;rw [z35,z1u,z36]
 congr 1
 rw [z2j,List.filter_nil];split <;> rfl
theorem qv0 (ws:List Str) (x:Int) (n:Nat):(bitN ws x n).length<=n:=by
 unfold bitN;rw [z30];exact z41 (z10 _ _) (Nat.le_of_eq z29)
def q10f:Sp:=λ vs H Q _=>∃ (ca wa:Addr) (cs:List Int) (ws:List Str) (n:Nat),vs=[.ref ca,.ref wa]/\H ca=some (.lst (cs.map V.int))/\cs.length<=100/\H wa=some (.lst (ws.map V.str))/\n<=10/\ws.length<=n/\ws.length<=4/\ws.Nodup/\endW∉ws/\
 ∀ p zs (R:List (List Str)) H',Same H H' ->H p=none ->H' p=some (.lst zs) ->q1s H' zs R ->Acc R ->Of n ws R ->R.length<=cs.length ->(∀ x,Up R x↔Up (cs.map (bitW ws)) x) ->Q (.ref p) H'
theorem qh5 (T:Txt K mg):Def P w K mg base 2 "_law_accord" ["_law_row_here","_law_words_here"] q10f:=by
  refine T.qjk.ok q3h (λ vs H Q E h=> ?_) λ f cdv A outer s H vs Q E hr h=> ?_
  · obtain ⟨ca,wa,cs,ws,nn,rfl,_⟩:=h
    rfl
  · obtain ⟨ca,wa,cs,ws,nn,rfl,b9,cl,d1,c4,d3,wl4,d4,d5,k⟩:=h
    refine ⟨_,(q3c
      (qy (i:=2) q3h.nd rfl (Or.inl rfl) (q20 q2d))
      (q1m PassesOwn.never rfl (q19 K (pv 0)) (qx (i:=3) q3h.nd rfl (Or.inr rfl)) (q2z
      (qy (i:=4) q3h.nd rfl (Or.inr rfl) (q27 (q6l K) rfl T.q9j q7x (pa_1 (qq (q7y K) rfl T.q2c q22 (pa_1 (q29 (N:=["_law_k","_law_words_here","_law_x"]) (caps:=[none,some 1,some 3]) rfl (by with_unfolding_all rfl) (q8n rfl T.q9k (pa_1 (qq (q2y K) rfl T.b_len q46 (pa_1 (pv 1))))) (λ _ _ _ _ _=>(qx (i:=0) (show (["_law_k","_law_words_here","_law_x"]:List Str).Nodup by decide+kernel) rfl (Or.inl rfl))) (λ _ _ _ _ _=>q97 (q12 q25 (qm q1f (qm q4j (pv 2) (q1g (q17 K) (q20 (pa_4 qf qf qf qf)) (pv 0) (λ _ _=>rfl))) qf) qf (q13 _))) (λ _ _ _ _ _=>(q1g (q17 K) (pv 1) (pv 0) (λ _ _=>rfl)))))))))
      (q1c (q2w (q3g (qq (qr9 rfl K) rfl T.b_any qzb (pa_1 (q29 (N:=["_law_old","_law_one"]) (caps:=[none,some 4]) rfl (by with_unfolding_all rfl) (q19 K (pv 2)) (λ _ _ _ _ _=>(qx (i:=0) (show (["_law_old","_law_one"]:List Str).Nodup by decide+kernel) rfl (Or.inl rfl))) (λ _ _ _ _ _=>q3v) (λ _ _ _ _ _=>(qp (q9b T) hr rfl (pa_2 (pv 0) (pv 1))))))))) (qg (qy (i:=2) q3h.nd rfl (Or.inl rfl) (qm qen (q29 (N:=["_law_old","_law_one"]) (caps:=[none,some 4]) rfl (by with_unfolding_all rfl) (q19 K (pv 2)) (λ _ _ _ _ _=>(qx (i:=0) (show (["_law_old","_law_one"]:List Str).Nodup by decide+kernel) rfl (Or.inl rfl))) (λ _ _ _ _ _=>q97 (q2w (q3g (qp (q9b T) hr rfl (pa_2 (pv 1) (pv 0)))))) (λ _ _ _ _ _=>(pv 0))) (q20 (pa_1 (pv 4)))))) q14)))
      (qk (qq (qan hr.units K) rfl T.q2c q22 (pa_1 (pv 2))))),?_⟩
    refine ⟨by show 0<=sizeLine;decide,λ k0 c8=> ?_⟩;have s0:=qd (o:=HO.lst []) c8;refine ⟨_,rfl,ca,rfl,⟨_,SqL.of (s0 _ _ b9)⟩,q26 (xs:=cs.map V.int) (λ i σ H'=>∃ (v1 v2:Option V) (kq:Addr) (zs:List V) (J:List (List Str)),σ=[some (.ref ca),some (.ref wa),some (.ref kq),v1,v2]/\Same H H'/\H' kq=some (.lst zs)/\q1s H' zs J/\J.length<=i/\(∀ r∈J,Norm r/\∀ x∈r,x∈ws)/\(∀ r∈J,∀ q∈J,(∀ x∈r,x∈q) ->r=q)/\J.Nodup/\∀ x,Up J x↔Up ((cs.take i).map (bitW ws)) x)
      ⟨none,none,k0,[],[],rfl,s0,qb,.nil,z48 _,(λ _ z=>nomatch z),(λ _ z=>nomatch z),z3g,λ _=>Iff.rfl⟩ (λ i σ H' _ z=>by obtain ⟨_,_,_,_,_,_,z,_⟩:=z;exact SqL.of (z _ _ b9)) ?_ ?_⟩
    · rintro i x σ H0 hx ⟨v1,v2,kq,zs,J,rfl,s1,ek,hz,lk,hN,a3,b4,a8⟩
      rw [z22] at hx;obtain ⟨c,c0,rfl⟩:=z0q.mp hx;have icl:i < cs.length:=(z07.mp c0).1;have lzk:=Paired.length hz;have a9:(cs.take (i+1)).map (bitW ws)=(cs.take i).map (bitW ws)++ [bitW ws c]:=by rw [z3h,c0,z36];rfl
      have c1:=s1 _ _ d1;have d2:((ws.map V.str).length:Int).toNat=ws.length:=by rw [z30];omega
      refine ⟨_,rfl,_,_,rfl,.inl ⟨_,SqL.of c1,rfl⟩,_,rfl,by omega,by rw [z30];omega,λ D hD=> ?_⟩;rw [d2];refine q1x ws.length (λ j σ' G=>(∃ v,σ'=[v,some (.ref wa),some (.int c)])/\Same H0 G/\G D=some (.lst ((bitN ws c j).map V.str))) ⟨⟨_,zf⟩,qd hD,qb⟩ (λ j σ' G hj p=>hj) (λ σ' G p=>⟨z48 _,?_⟩) (λ j σ' G hj p x H2 y=> ?_)
      · obtain ⟨_,Z,eD⟩:=p
        have eD:G D=some (.lst ((bitW ws c).map V.str)):=eD;refine ⟨D,bitW ws c,zf,.inl (SqL.of eD),λ e2 c5=> ?_⟩;have u2:=qd (o:=HO.lst ((Tim.srt ql (bitW ws c)).map V.str)) c5;refine ⟨_,_,zf,.inl ⟨SqL.of qb,λ t ht=> ?_⟩⟩;have u3:=qd (o:=HO.tup ((Tim.srt ql (bitW ws c)).map V.str)) ht;have uA:=u2.trans u3;have et:=qb (H:=upd G e2 (.lst ((Tim.srt ql (bitW ws c)).map V.str))) (a:=t) (o:=HO.tup ((Tim.srt ql (bitW ws c)).map V.str));have sub:=qlz ws c;have nu:Norm (Tim.srt ql (bitW ws c)):=q5e q1j (Tim.q1r q1j _) ((Tim.qo ql _).nodup_iff.mpr (d4.sublist sub));have wu:∀ x∈Tim.srt ql (bitW ws c),x∈ws:=λ x hx=>sub.subset ((Tim.qo ql _).mem_iff.mp hx);have hU:∀ x:List Str,(∀ w∈Tim.srt ql (bitW ws c),w∈x)↔∀ w∈bitW ws c,w∈x:=λ x=>Iff.of_eq (forall_congr λ w=>by rw [(Tim.qo ql _).mem_iff]);have sB:=Z.trans uA;have a1:=sB _ _ ek;have a4:q1s (upd (upd G e2 (.lst ((Tim.srt ql (bitW ws c)).map V.str))) t (.tup ((Tim.srt ql (bitW ws c)).map V.str))) zs J:=q1o (λ b ys z=>sB b _ z) hz;generalize upd (upd G e2 (.lst ((Tim.srt ql (bitW ws c)).map V.str))) t (.tup ((Tim.srt ql (bitW ws c)).map V.str))=G1 at*;generalize Tim.srt ql (bitW ws c)=u at*;refine ⟨_,zf,kq,zf,⟨_,SqL.of a1⟩,λ D hD=> ?_⟩;refine q1x zs.length (λ j σ' H'=>(∃ v,σ'=[v,some (.ref t)])/\Same G1 H'/\H' D=some (.lst (((J.take j).map λ r=>decide (∀ x∈r,x∈u)).map V.bl))) ⟨⟨_,zf⟩,qd hD,qb⟩ (λ j σ' H' hj p=> ?_) (λ σ' H' p=>⟨?_,?_⟩) (λ j σ' H' hj p x H3 y=> ?_)
        · obtain ⟨_,Z,_⟩:=p
          exact ⟨_,zs[j],SqL.of (Z _ _ a1),z0d hj⟩
        · obtain ⟨_,Z,_⟩:=p
          exact ⟨_,SqL.of (Z _ _ a1),z48 _⟩
        · obtain ⟨_,Z,eD⟩:=p
          rw [Paired.length a4,z2t] at eD;refine ⟨D,J.map λ r=>decide (∀ x∈r,x∈u),zf,SqL.of eD,_,zf,ite2 (λ h1=> ?_) (λ h1=> ?_)⟩
          · have no:∀ r∈J,¬ ∀ x∈r,x∈u:=λ r hr z=>by
              have:((J.map λ r=>decide (∀ x∈r,x∈u)).any id)=true:=z2p.mpr ⟨true,z45.mpr ⟨r,hr,z3c z⟩,rfl⟩;rw [this] at h1;cases h1
            have a6:=Z _ _ a1;have b7:=Z _ _ et;have a5:q1s H' zs J:=q1o (λ b ys z=>Z b _ z) a4;refine ⟨_,zf,kq,zf,⟨_,SqL.of a6⟩,λ D2 b8=> ?_⟩;refine q1x zs.length (λ j σ' G2=>(∃ v,σ'=[v,some (.ref t)])/\Same H' G2/\∃ qs,G2 D2=some (.lst qs)/\q1s H' qs ((J.take j).filter λ r=> !decide (∀ x∈u,x∈r))/\qs.length<=j) ⟨⟨_,rfl⟩,qd b8,[],qb,.nil,z48 _⟩ (λ j σ' G2 hj p=> ?_) (λ σ' G2 p=>⟨?_,?_⟩) (λ j σ' G2 hj p x G3 y=> ?_)
            · obtain ⟨_,O,_⟩:=p
              exact ⟨_,zs[j],SqL.of (O _ _ a6),z0d hj⟩
            · obtain ⟨_,O,_⟩:=p
              exact ⟨_,SqL.of (O _ _ a6),z48 _⟩
            · obtain ⟨_,O,qs,b2,hq,lq⟩:=p
              rw [Paired.length a5,z2t] at hq;rw [Paired.length a5] at lq;refine ⟨_,rfl,by show 1<=sizeLine;decide,λ e3 c6=> ?_⟩;have u4:=qd (o:=HO.lst [.ref t]) c6;refine ⟨D2,e3,_,_,rfl,rfl,u4 _ _ b2,qb,z3y (q15 (by show _+1 < _;omega)),λ pk c9=> ?_⟩;have u5:=qd (o:=HO.lst (qs++ [.ref t])) c9;have sC:=O.trans (u4.trans u5);refine ⟨_,_,pk,_,J.filter (λ r=> !decide (∀ x∈u,x∈r))++ [u],rfl,s1.trans (sB.trans (Z.trans sC)),qb,q1t (q1o (λ b ys z=>sC b _ z) hq) (.cons ⟨t,rfl,sC _ _ b7⟩ .nil),?_,λ r hr=> ?_,λ r hr q a0 h=> ?_,?_,by rw [a9];exact q103 a8 hU⟩
              · have:=z10 (λ r=> !decide (∀ x∈u,x∈r)) J
                rw [z1o];show _+1<=_;omega
              · rcases z2u.mp hr with hr | hr
                · exact hN r (z2x.mp hr).1
                · rw [z1m.mp hr]
                  exact ⟨nu,wu⟩
              · rcases z2u.mp hr with hr | hr
                · rcases z2u.mp a0 with a0 | a0
                  · exact a3 r (z2x.mp hr).1 q (z2x.mp a0).1 h
                  · rw [z1m.mp a0] at h
                    exact absurd h (no r (z2x.mp hr).1)
                · rcases z2u.mp a0 with a0 | a0
                  · rw [z1m.mp hr] at h
                    have:=(z2x.mp a0).2;rw [z3c h] at this;cases this
                  · rw [z1m.mp hr,z1m.mp a0]
              · rw [z2d]
                refine ⟨b4.filter _,by simp,λ x hx y hy e=> ?_⟩;rw [z1m.mp hy] at e;exact no x (z2x.mp hx).1 (by rw [e];exact λ _ z=>z)
            · obtain ⟨⟨v,rfl⟩,O,qs,b2,hq,lq⟩:=p
              obtain ⟨rfl,b6⟩:=y;have b5:=b6 _ (SqL.of (O _ _ a6));obtain ⟨r,br,hr,rfl,b3⟩:=q4e a5 b5;have a7:(J.take (j+1)).filter (λ r=> !decide (∀ x∈u,x∈r))=(J.take j).filter (λ r=> !decide (∀ x∈u,x∈r))++(if (!decide (∀ x∈u,x∈r))=true then [r] else []):=by
                rw [z3h,hr,z1u]
                congr 1
                show List.filter _ [r]=_;rw [z2j,List.filter_nil]
              refine ⟨_,zf,_,zf,t,br,u,r,zf,O _ _ b7,O _ _ b3,_,zf,ite2 (λ h2=> ?_) (λ h2=> ?_)⟩
              · refine ⟨_,rfl,_,b2,q15 (by have:=Paired.length a5;omega),⟨_,rfl⟩,O.set b8,_,qb,?_,by rw [z1o];show _+1<=_;omega⟩
                rw [a7,if_pos h2];exact q1t hq (.cons ⟨br,zf,b3⟩ .nil)
              · refine ⟨⟨_,zf⟩,O,qs,b2,?_,by omega⟩
                rw [a7,if_neg h2,z31];exact hq
          · exact ⟨_,_,kq,zs,J,zf,s1.trans (sB.trans Z),Z _ _ a1,q1o (λ b ys z=>Z b _ z) a4,by omega,hN,a3,b4,by
              rw [a9];refine q104 a8 hU ?_;have h2:((J.map λ r=>decide (∀ x∈r,x∈u)).any id)=true:=by
                cases z:((J.map λ r=>decide (∀ x∈r,x∈u)).any id) with
                | true=>rfl
                | false=>exact absurd (by rw [z];rfl) h1
              obtain ⟨b,hb,eb⟩:=z2p.mp h2;obtain ⟨r,hr,rfl⟩:=z45.mp hb;exact ⟨r,hr,of_decide_eq_true eb⟩⟩
        · obtain ⟨⟨v,rfl⟩,Z,eD⟩:=p
          obtain ⟨rfl,b6⟩:=y;have b5:=b6 _ (SqL.of (Z _ _ a1));obtain ⟨r,br,hr,rfl,b3⟩:=q4e a4 b5;refine ⟨_,zf,_,zf,br,t,r,u,zf,Z _ _ b3,Z _ _ et,_,eD,?_,⟨_,zf⟩,Z.set hD,?_⟩
          · rw [z30,z30,z2g]
            exact q15 (by omega)
          · rw [qb,z3h,hr,z36,z36]
            rfl
      · obtain ⟨⟨v,rfl⟩,Z,eD⟩:=p
        obtain ⟨rfl,rfl⟩:=y;obtain ⟨p1,p2,p3⟩:=q10e j (by omega);refine ⟨_,rfl,by show 4<=sizeLine;decide,λ L hL=> ?_⟩;have uL:=qd (o:=HO.lst [V.int 1,V.int 2,V.int 4,V.int 8]) hL;have bl:(bitN ws c j).length<=j:=qv0 ws c j;refine ⟨_,rfl,_,_,_,_,rfl,rfl,SqL.of qb,p1,_,_,rfl,rfl,⟨p2,p3⟩,_,_,rfl,rfl,(by show (0:Int) < 2;decide),rfl,_,rfl,ite2 (λ h2=> ?_) (λ h2=> ?_)⟩
        · have hb:bitB c j=true:=h2
          have c7:atI (ws.map V.str) (0+(j:Int))=some (V.str (ws.getD j endW)):=by
            rw [Int.zero_add];refine q4k ?_;rw [z22,z06,z0d hj];rfl
          refine ⟨_,rfl,_,rfl,_,_,_,_,rfl,rfl,SqL.of (uL _ _ (Z _ _ c1)),c7,_,uL _ _ eD,by rw [z30];exact q1v (by omega),⟨_,rfl⟩,(Z.trans uL).set hD,?_⟩;rw [qb,qid,if_pos hb,z36];rfl
        · have hb:¬ bitB c j=true:=h2
          refine ⟨⟨_,zf⟩,Z.trans uL,?_⟩;rw [qid,if_neg hb,z31];exact uL _ _ eD
    · rintro σ H1 ⟨v1,v2,kq,zs,J,rfl,s1,ek,hz,lk,hN,a3,b4,a8⟩
      rw [z30,z2t] at a8;refine ⟨_,zf,kq,zs,J,zf,SqL.of ek,hz,λ p us hp d0=> ?_⟩;have s2:=qd (o:=HO.lst us) hp;have a2:∀ x,x∈Tim.srt qz J↔x∈J:=λ x=>(Tim.qo qz J).mem_iff;exact k p us (Tim.srt qz J) _ (s1.trans s2) (s1.free hp) qb (q1o (λ b ys e=>s2 b _ e) d0) ⟨q5e q2a (Tim.q1r q2a _) ((Tim.qo qz _).nodup_iff.mpr b4),λ x hx=>(hN x ((a2 x).mp hx)).1,λ x hx y hy h=>a3 x ((a2 x).mp hx) y ((a2 y).mp hy) h⟩ ⟨c4,d3,d5,λ r hr=>(hN r ((a2 r).mp hr)).2⟩ (by rw [(Tim.qo qz J).length_eq];rw [z30] at lk;exact lk) λ x=>by
        rw [<- a8];exact ⟨λ ⟨r,hr,z⟩=>⟨r,(a2 r).mp hr,z⟩,λ ⟨r,hr,z⟩=>⟨r,(a2 r).mpr hr,z⟩⟩
def nA (x:Int):Int:=x / 2*(1 - 2*(x%2))
def nB (x:Int):Int:=x%9 - 4
def rC (c:Int) (i:Nat):Int:=(rowF c 12).getD i 0
def numL (c:Int):List Int:=if rC c 0 / 60%2=1 then ((rowF c 12).drop 1).map nB else ((rowF c 12).drop 1).map nA
def q5z (W:List Str) (c:Int):Kd ->Wo
 | .counts=> .num (absI ((numL c).getD 0 0))
 | .costs=>if rC c 0%6=0 then .non else .num ((numL c).getD 0 0)
 | .bests m=> .nums (Tim.srt q18 ((numL c).take (rC c 0%(m+1)).toNat))
 | .trusts t=> .num ([rC c 1,rC c 1,t,0].getD (rC c 0%4).toNat 0%(t+1))
 | .truths=> .tr (decide (V.int (rC c 0%2)=V.int 1))
 | .hands=> .acc (q3s ((cutL (rowF c 12) (some 1) (some (1+rC c 0%7))).map (bitW W)))
theorem qm0 (c:Int):(rowF c 12).length=12:=q6j (by decide)
theorem qv1 (c:Int):(numL c).length=11:=by
 unfold numL;split <;> rw [z30,z2h,qm0]
theorem q11v {x:Int} (h:0<=x/\x < 10^24): -(10^24) < nA x/\nA x < 10^24:=by
 unfold nA;have a:x%2=0\/ x%2=1:=by omega
 rcases a with a | a
 ·rw [a];show -(10^24) < x / 2*1/\x / 2*1 < 10^24;omega
 ·rw [a];show -(10^24) < x / 2*(-1)/\x / 2*(-1) < 10^24;omega
theorem qyi (c:Int):∀ x∈numL c,-(10^24) < x/\x < 10^24:=λ x hx=>by
 unfold numL at hx;split at hx
 ·obtain ⟨y,hy,rfl⟩:=z45.mp hx;unfold nB;omega
 ·obtain ⟨y,hy,rfl⟩:=z45.mp hx;exact q11v (qh4 (z14 hy))
theorem qv2 (c:Int) (i:Nat): -(10^24) < (numL c).getD i 0/\(numL c).getD i 0 < 10^24:=by
 rw [z06];cases e:(numL c)[i]? with
 | none=>exact ⟨by decide,by decide⟩
 | some z=>exact qyi c z (z18 e)
theorem qd7 {W:List Str} {k:Kd} (hW:HOk W) (hk:k.ok) (c:Int):qi W k (q5z W c k):=by
 cases k with
 | counts=>
  refine .counts ?_;unfold absI;split <;> omega
 | costs=>
  show qi W .costs (if rC c 0%6=0 then .non else .num _);split
  ·exact .costX
  ·exact .costN _
 | bests m=>
  have m1:1<=m:=hk.1;refine .bests (Tim.q1r q1u _) ?_;rw [(Tim.qo q18 _).length_eq,z2g];have h0:0<=rC c 0%(m+1):=z3a _ (by omega);have h1:rC c 0%(m+1) < m+1:=z1w _ (by omega);omega
 | trusts t=>
  have t0:0<=t:=hk;have h0:0<=[rC c 1,rC c 1,t,0].getD (rC c 0%4).toNat 0%(t+1):=z3a _ (by omega);have h1: [rC c 1,rC c 1,t,0].getD (rC c 0%4).toNat 0%(t+1) < t+1:=z1w _ (by omega);exact .trusts h0 (by omega)
 | truths=>exact .truths _
 | hands=>
  refine .hands (q3m _) (qun hW λ f hf w hw=> ?_);obtain ⟨x,_,rfl⟩:=z45.mp hf;exact (qlz W x).subset hw
theorem qie (W:List Str) (k:Kd) (c:Int):LtW k (10^24) (q5z W c k):=λ e=>by
 subst e;show absI ((numL c).getD 0 0) < 10^24;have:=qv2 c 0;unfold absI;split <;> omega
def q10g:Sp:=λ vs H Q _=>∃ (k:Kd) (c m t:Int) (wa:Addr) (ws:List Str),vs=[.int (q3e k),.int c,.ref wa,.int m,.int t]/\ofK m t k/\k.ok/\(1<=m/\m<=9)/\0<=t/\H wa=some (.lst (ws.map V.str))/\ws.Nodup/\endW∉ws/\
 ∀ x H',Same H H' ->NewV H x ->WV H' (q5z (ws.take 4) c k) x ->Q x H'
theorem qja (T:Txt K mg):Def P w K mg base 3 "_law_worth" ["_law_kind","_law_cell","_law_words_here","_law_limit","_law_peak"] q10g:=by
 refine T.qmd.ok q52 (λ vs H Q E h=> ?_) λ f cdv A outer s H vs Q E hr h=> ?_
 ·obtain ⟨k,c,m,t,wa,ws,rfl,_⟩:=h;rfl
 ·obtain ⟨k,c,m,t,wa,ws,rfl,a7,hk,hm,ht,hw,b3,b4,q⟩:=h;have rl:=qm0 c;have a0:atI ((rowF c 12).map V.int) 0=some (V.int (rC c 0)):=q2m (k:=0) (by omega);have a1:atI ((rowF c 12).map V.int) 1=some (V.int (rC c 1)):=q2m (k:=1) (by omega);refine qns 3 (λ σ H'=>∃ p l:Addr,σ=[some (.int (q3e k)),some (.int c),some (.ref wa),some (.int m),some (.int t),some (.ref p),some (.ref l)]/\Same H H'/\H' p=some (.lst ((rowF c 12).map V.int))/\H' l=some (.lst ((numL c).map V.int))) ⟨_,(qvs
   (q1c (q12 q25 (pv 0) qf (q13 _)) (qg (qk (qq qta rfl T.b_abs qzi (pa_1 (q1g (q17 K) (pv 6) qf (λ _ _=>rfl)))))) q14)
   (q1c (PW.pt (qkf (q12 q25 (pv 0) qf (q13 _)) (qfv (q12 q25 (qm q1f (q1g (q17 K) (pv 5) qf (λ _ _=>rfl)) qf) qf (q13 _))))) (qg (qk q4t)) q14)
   (q1c (q12 q25 (pv 0) qf (q13 _)) (qg (qk (q1g (q17 K) (pv 6) qf (λ _ _=>rfl)))) q14)
   (q1c (q12 q25 (pv 0) qf (q13 _)) (qg (qk (qq (q7z K) rfl T.q2c q22 (pa_1 (q45 (q55 K) (pv 6) q7k (q3z (qm q1f (q1g (q17 K) (pv 5) qf (λ _ _=>rfl)) (qm q1n (pv 3) qf)))))))) q14)
   (q1c (q12 q25 (pv 0) qf (q13 _)) (qg (qk (qm q1f (q1g (q17 K) (q20 (pa_4 (q1g (q17 K) (pv 5) qf (λ _ _=>rfl)) (q1g (q17 K) (pv 5) qf (λ _ _=>rfl)) (pv 4) qf)) (qm q1f (q1g (q17 K) (pv 5) qf (λ _ _=>rfl)) qf) (λ _ _=>rfl)) (qm q1n (pv 4) qf)))) q14)
   (q1c (q12 q25 (pv 0) qf (q13 _)) (qg (qk (q3y q25 (qm q1f (q1g (q17 K) (pv 5) qf (λ _ _=>rfl)) qf) qf (q13 _)))) q14)
   (qk (qp (qh5 T) hr rfl (pa_2 (q45 (q55 K) (pv 5) (q3z qf) (q3z (qm q1n qf (qm q1f (q1g (q17 K) (pv 5) qf (λ _ _=>rfl)) qf)))) (q45 (q55 K) (pv 2) q7k (q3z qf)))))),?_⟩ (λ u hu hC=>⟨_,(q11a
   (qy (i:=5) q52.nd rfl (Or.inl rfl) (qp (q4z T) hr rfl (pa_2 (pv 1) qf)))
   (q9t (i:=6) q52.nd rfl rfl (N:=["_law_x"]) (caps:=[none]) rfl (by with_unfolding_all rfl) (q19 K (q45 (q55 K) (pv 5) (q3z qf) q7k)) (λ _ _ _ _ _=>(qx (i:=0) (show (["_law_x"]:List Str).Nodup by decide+kernel) rfl (Or.inl rfl))) (λ _ _ _ _ _=>q3v) (λ _ _ _ _ _=>(qm q4u (qm q4j (pv 0) qf) (qm qqi qf (qm q4u qf (qm q1f (pv 0) qf))))))
   (q1c (q12 q25 (qm q1f (qm q4j (q1g (q17 K) (pv 5) qf (λ _ _=>rfl)) qf) qf) qf (q13 _)) (qg (q9t (i:=6) q52.nd rfl rfl (N:=["_law_x"]) (caps:=[none]) rfl (by with_unfolding_all rfl) (q19 K (q45 (q55 K) (pv 5) (q3z qf) q7k)) (λ _ _ _ _ _=>(qx (i:=0) (show (["_law_x"]:List Str).Nodup by decide+kernel) rfl (Or.inl rfl))) (λ _ _ _ _ _=>q3v) (λ _ _ _ _ _=>(qm qqi (qm q1f (pv 0) qf) qf)))) q14)
   hu),?_⟩)
  ·rintro σ H2 ⟨p,l,rfl,s2,hp,hl⟩;have ll:=qv1 c;have n0:atI ((numL c).map V.int) 0=some (V.int ((numL c).getD 0 0)):=q2m (k:=0) (by omega);have b2:=s2 _ _ hw;cases k with
   | counts=>exact ⟨_,rfl,rfl,_,rfl,q1w rfl ⟨_,rfl,_,_,_,_,rfl,rfl,SqL.of hl,n0,_,rfl,q _ _ s2 (q23 _) rfl⟩⟩
   | costs=>
    refine ⟨_,zf,zf,_,zf,qu rfl ⟨_,zf,zf,_,zf,q1w rfl ?_⟩⟩;refine ⟨_,rfl,_,_,_,_,rfl,rfl,SqL.of hp,a0,_,_,rfl,rfl,(by show (0:Int) < 6;decide),rfl,_,rfl,ite2 (λ h=> ?_) (λ h=> ?_)⟩
    ·exact q _ _ s2 q7p (by show WV _ (if _ then _ else _) _;rw [if_pos (vi h)];rfl)
    ·exact ⟨_,rfl,rfl,_,rfl,q1w rfl ⟨_,rfl,_,_,_,_,rfl,rfl,SqL.of hl,n0,q _ _ s2 (q23 _) (by show WV _ (if _ then _ else _) _;rw [if_neg (vin h)];rfl)⟩⟩
   | bests n=>
    cases (show n=m from a7)
    refine ⟨_,zf,zf,_,zf,qu rfl ⟨_,zf,zf,_,zf,qu rfl ⟨_,zf,zf,_,zf,qu rfl ⟨_,zf,zf,_,zf,q1w rfl ?_⟩⟩⟩⟩;refine ⟨_,rfl,_,rfl,_,_,_,_,rfl,rfl,SqL.of hp,a0,_,rfl,_,_,rfl,rfl,_,_,rfl,rfl,(by show 0 < m+1;omega),_,rfl,_,_,rfl,SqL.of hl,λ l1 a2=> ?_⟩;have h0:0<=rC c 0%(m+1):=z3a _ (by omega);rw [qe6 _ h0,<- List.map_take];have t2:=qd (o:=HO.lst (((numL c).take (rC c 0%(m+1)).toNat).map V.int)) a2;refine ⟨_,_,zf,.inl (SqL.of qb),λ l2 O=> ?_⟩;have sA:=s2.trans t2;exact q _ _ (sA.trans (qd O)) (q3k (sA.free O)) ⟨l2,zf,qb⟩
   | trusts n=>
    cases (show n=t from a7)
    refine ⟨_,zf,zf,_,zf,qu rfl ⟨_,zf,zf,_,zf,qu rfl ⟨_,zf,zf,_,zf,qu rfl ⟨_,zf,zf,_,zf,qu rfl ⟨_,zf,zf,_,zf,q1w rfl ?_⟩⟩⟩⟩⟩;refine ⟨_,rfl,_,_,_,_,rfl,rfl,SqL.of hp,a1,_,rfl,_,_,_,_,rfl,rfl,SqL.of hp,a1,_,rfl,by show 4<=sizeLine;decide,λ L hL=> ?_⟩;have e0:0<=rC c 0%4:=z3a _ (by decide);have e1:rC c 0%4 < 4:=z1w _ (by decide);have a8:=qlo (ns:=[rC c 1,rC c 1,t,0]) e0 e1;have u1:=qd (o:=HO.lst ([rC c 1,rC c 1,t,0].map V.int)) hL;refine ⟨_,rfl,_,_,_,_,rfl,rfl,SqL.of (u1 _ _ hp),a0,_,_,rfl,rfl,(by show (0:Int) < 4;decide),_,_,_,_,rfl,rfl,SqL.of qb,a8,_,rfl,_,_,rfl,rfl,_,_,rfl,rfl,(by show 0 < t+1;omega),?_⟩;exact q _ _ (s2.trans u1) (q23 _) rfl
   | truths=>
    refine ⟨_,zf,zf,_,zf,qu rfl ⟨_,zf,zf,_,zf,qu rfl ⟨_,zf,zf,_,zf,qu rfl ⟨_,zf,zf,_,zf,qu rfl ⟨_,zf,zf,_,zf,qu rfl ⟨_,zf,zf,_,zf,q1w rfl ?_⟩⟩⟩⟩⟩⟩;exact ⟨_,rfl,_,_,_,_,rfl,rfl,SqL.of hp,a0,_,_,rfl,rfl,(by show (0:Int) < 2;decide),rfl,q _ _ s2 (qbw _) rfl⟩
   | hands=>
    refine ⟨_,zf,zf,_,zf,qu rfl ⟨_,zf,zf,_,zf,qu rfl ⟨_,zf,zf,_,zf,qu rfl ⟨_,zf,zf,_,zf,qu rfl ⟨_,zf,zf,_,zf,qu rfl ⟨_,zf,zf,_,zf,qu rfl ?_⟩⟩⟩⟩⟩⟩;refine ⟨_,rfl,_,rfl,_,rfl,_,_,_,_,rfl,rfl,SqL.of hp,a0,_,_,rfl,rfl,(by show (0:Int) < 7;decide),_,_,rfl,rfl,_,rfl,_,_,rfl,SqL.of hp,λ l1 a2=> ?_⟩;have lm:=qum (rowF c 12) (some 1) (some (1+rC c 0%7));rw [rl] at lm;rw [qvy];have t2:=qd (o:=HO.lst ((cutL (rowF c 12) (some 1) (some (1+rC c 0%7))).map V.int)) a2;refine ⟨_,zf,_,zf,_,_,zf,SqL.of (t2 _ _ b2),λ l2 O=> ?_⟩;rw [qe6 _ (show (0:Int)<=4 by decide),<- List.map_take,show (4:Int).toNat=4 from rfl];have t3:=qd (o:=HO.lst ((ws.take 4).map V.str)) O;have l4:(ws.take 4).length<=4:=by rw [z2g];omega
    refine ⟨l1,l2,_,ws.take 4,7,zf,t3 _ _ qb,by omega,qb,by decide,by omega,l4,b3.sublist (List.take_sublist _ _),λ z=>b4 (z15 z),λ pz zs R H' s' a9 ep tp aR oR lR uR=> ?_⟩;have sA:=s2.trans (t2.trans t3);refine q _ _ (sA.trans s') (q3k (sA.free a9)) ⟨pz,zs,zf,ep,?_⟩;rw [<- q8f aR uR];exact tp
  ·refine ⟨_,zf,c,12,zf,by decide,by decide,λ p H1 s1 hpn hp=> ?_⟩;have a5:cutV ((rowF c 12).map V.int) (some 1) none=((rowF c 12).drop 1).map V.int:=by
    have:=qty ((rowF c 12).map V.int) 1 (by rw [z30];omega);rw [List.map_drop];exact this
   have dl:((rowF c 12).drop 1).length=11:=by rw [z2h,rl]
   have dm:∀ x∈(rowF c 12).drop 1,0<=x/\x < 10^24:=λ x hx=>qh4 (z14 hx);refine ⟨_,zf,_,zf,_,_,zf,SqL.of hp,λ l1 a2=> ?_⟩;rw [a5];have eA:numL c=if rC c 0 / 60%2=1 then ((rowF c 12).drop 1).map nB else ((rowF c 12).drop 1).map nA:=rfl
   generalize (rowF c 12).drop 1=ds at*;have t1:=qd (o:=HO.lst (ds.map V.int)) a2;refine ⟨l1,zf,⟨_,SqL.of qb⟩,λ D hD=> ?_⟩;refine q1x (ds.map V.int).length (λ i σ' G=>(∃ v,σ'=[v])/\Same (upd H1 l1 (.lst (ds.map V.int))) G/\G D=some (.lst (((ds.take i).map nA).map V.int))) ⟨⟨_,zf⟩,qd hD,qb⟩ (λ i σ' G hi pp=> ?_) (λ σ' G pp=>⟨?_,?_⟩) (λ i σ' G hi pp x H3 y=> ?_)
   ·obtain ⟨_,sm,_⟩:=pp;exact ⟨_,(ds.map V.int)[i],SqL.of (sm _ _ qb),z0d hi⟩
   ·obtain ⟨_,sm,_⟩:=pp;exact ⟨_,SqL.of (sm _ _ qb),z48 _⟩
   ·obtain ⟨_,sm,e⟩:=pp;rw [z30,z2t] at e;have sA:=t1.trans sm;have a4:=sA _ _ hp;refine ⟨_,rfl,_,_,_,_,rfl,rfl,SqL.of a4,a0,_,_,rfl,rfl,⟨by decide,by decide⟩,_,_,rfl,rfl,(by show (0:Int) < 2;decide),rfl,_,rfl,ite2 (λ h=> ?_) (λ h=> ?_)⟩
    ·rw [if_pos (vi h)] at eA;refine ⟨_,zf,_,zf,_,_,zf,SqL.of a4,λ l2 O=> ?_⟩;rw [a5];have t4:=qd (o:=HO.lst (ds.map V.int)) O;refine ⟨l2,zf,⟨_,SqL.of qb⟩,λ D2 a6=> ?_⟩;refine q1x (ds.map V.int).length (λ i σ' F=>(∃ v,σ'=[v])/\Same (upd G l2 (.lst (ds.map V.int))) F/\F D2=some (.lst (((ds.take i).map nB).map V.int))) ⟨⟨_,zf⟩,qd a6,qb⟩ (λ i σ' F hi pp=> ?_) (λ σ' F pp=>⟨?_,?_⟩) (λ i σ' F hi pp x H4 y=> ?_)
     ·obtain ⟨_,J,_⟩:=pp;exact ⟨_,(ds.map V.int)[i],SqL.of (J _ _ qb),z0d hi⟩
     ·obtain ⟨_,J,_⟩:=pp;exact ⟨_,SqL.of (J _ _ qb),z48 _⟩
     ·obtain ⟨_,J,e2⟩:=pp;rw [z30,z2t] at e2;have sB:=t4.trans J;exact hC _ _ ⟨p,D2,zf,s1.trans (sA.trans sB),sB _ _ a4,by rw [e2,eA]⟩
     ·obtain ⟨⟨v,rfl⟩,J,e2⟩:=pp;obtain ⟨rfl,hx⟩:=y;have a3:=hx _ (SqL.of (J _ _ qb));rw [z22] at a3;obtain ⟨n,Z,rfl⟩:=z0q.mp a3;have il:i < ds.length:=(z07.mp Z).1;refine ⟨_,rfl,_,_,rfl,rfl,(by show (0:Int) < 9;decide),_,_,rfl,rfl,_,e2,by rw [z30,z30,z2g];exact q1v (by omega),⟨_,rfl⟩,J.set a6,?_⟩;rw [qb,z3h,Z,z36,z36];rfl
    ·rw [if_neg (vin h)] at eA;exact hC _ _ ⟨p,D,zf,s1.trans sA,a4,by rw [e,eA]⟩
   ·obtain ⟨⟨v,rfl⟩,sm,e⟩:=pp;obtain ⟨rfl,hx⟩:=y;have a3:=hx _ (SqL.of (sm _ _ qb));rw [z22] at a3;obtain ⟨n,Z,rfl⟩:=z0q.mp a3;have il:i < ds.length:=(z07.mp Z).1;have nn:=dm n (z18 Z);have b0:0<=n%2:=z3a _ (by decide);have b1:n%2 < 2:=z1w _ (by decide);refine ⟨_,rfl,_,_,rfl,rfl,⟨by decide,by decide⟩,_,rfl,_,_,rfl,rfl,(by show (0:Int) < 2;decide),_,_,rfl,rfl,.inl ⟨by decide,by decide⟩,_,_,rfl,rfl,_,_,rfl,rfl,.inr ⟨by show -(2^64) < 1 - 2*(n%2);omega,by show 1 - 2*(n%2) < 2^64;omega⟩,_,e,by rw [z30,z30,z2g];exact q1v (by omega),⟨_,rfl⟩,sm.set hD,?_⟩;rw [qb,z3h,Z,z36,z36];rfl
def WPair (H:Hp) (kv:Key×V) (p:Str×Wo):Prop:=kv.1=Sum.inr p.1/\WV H p.2 kv.2
theorem WPair.same {H H':Hp} (s:Same H H'):∀ {kvs:List (Key×V)} {D:List (Str×Wo)},Paired (WPair H) kvs D ->Paired (WPair H') kvs D
 | _,_,.nil=> .nil
 | _,_,.cons a b=> .cons ⟨a.1,a.2.same s⟩ (WPair.same s b)
def wget (D:List (Str×Wo)) (z:Str):Option Wo:=(D.find? λ p=>decide (p.1=z)).map (·.2)
theorem qsj {H:Hp} (z:Str):∀ {kvs:List (Key×V)} {D:List (Str×Wo)},Paired (WPair H) kvs D ->(wget D z=none/\valV kvs (Sum.inr z)=none)\/ ∃ a v,wget D z=some a/\valV kvs (Sum.inr z)=some v/\WV H a v
  | _,_,.nil=> .inl ⟨rfl,rfl⟩
  | J::kvs,p::D,.cons ⟨e,w⟩ b=>by
    by_cases h:p.1=z
    · refine .inr ⟨p.2,J.2,?_,?_,w⟩
      · unfold wget
        rw [z0s (by simpa using h)];rfl
      · unfold valV
        rw [z0s (by rw [e,h];simp)];rfl
    · have e1:wget (p::D) z=wget D z:=by
        unfold wget;rw [z0t (by simpa using h)]
      have e2:valV (J::kvs) (Sum.inr z)=valV kvs (Sum.inr z):=by
        unfold valV;rw [z0t (by rw [e];simpa using h)]
      rw [e1,e2];exact qsj z b
theorem WD.of {H:Hp} {d:Addr} {kvs:List (Key×V)} {D:List (Str×Wo)} (h:H d=some (.dK kvs)) (p:Paired (WPair H) kvs D):WD H d (wget D):=⟨kvs,.inl h,λ z=>qsj z p⟩
def q1e (ws:List Str) (ns:List Int) (k:Kd) (n:Nat):List (Str×Wo):=(List.range n).map λ j=>(ws.getD j endW,q5z (ws.take 4) (ns.getD (2+j) 0) k)
theorem qsk (ws:List Str) (ns:List Int) (k:Kd) (n:Nat):q1e ws ns k (n+1)=q1e ws ns k n++ [(ws.getD n endW,q5z (ws.take 4) (ns.getD (2+n) 0) k)]:=by
 unfold q1e;rw [z35,z36];rfl
theorem qd8 {H:Hp}:∀ {kvs:List (Key×V)} {D:List (Str×Wo)},Paired (WPair H) kvs D ->kvs.map (·.1)=D.map λ p=>Sum.inr p.1
 | _,_,.nil=>rfl
 | _,_,.cons a b=>by rw [z3l,z3l,qd8 b,a.1]
theorem qc4 {ws:List Str} {ns:List Int} {k:Kd} {z:Str} {a:Wo} (h:wget (q1e ws ns k ws.length) z=some a):∃ c,a=q5z (ws.take 4) c k:=by
 unfold wget at h;obtain ⟨p,hp,rfl⟩:=z0q.mp h;obtain ⟨j,_,rfl⟩:=z45.mp (z0c hp);exact ⟨_,zf⟩
theorem qog {ws:List Str} {ns:List Int} {k:Kd} {z:Str} (h:z∈ws):∃ a,wget (q1e ws ns k ws.length) z=some a:=by
 unfold wget;cases e:(q1e ws ns k ws.length).find? λ p=>decide (p.1=z) with
 | some p=>exact ⟨_,rfl⟩
 | none=>
  obtain ⟨i,hi,ei⟩:=z1i h;have:=List.find?_eq_none.mp e (ws.getD i endW,q5z (ws.take 4) (ns.getD (2+i) 0) k) (z45.mpr ⟨i,z3d.mpr hi,rfl⟩);refine absurd ?_ this;rw [decide_eq_true_eq,z06,z0d hi];exact ei
def qyj (K:PySem.W.Frag):Sp:=λ vs H Q _=>∃ (k:Kd) (a wa:Addr) (ns:List Int) (m t:Int) (ws:List Str),vs=[.int (q3e k),.ref a,.ref wa,.int m,.int t]/\ofK m t k/\k.ok/\(1<=m/\m<=9)/\0<=t/\SqL K H a (ns.map V.int)/\H wa=some (.lst (ws.map V.str))/\ws.Nodup/\endW∉ws/\ws.length<=7/\
 ∀ d kvs H',Same H H' ->H d=none ->H' d=some (.dK kvs) ->Paired (WPair H') kvs (q1e ws ns k ws.length) ->Q (.ref d) H'
theorem q61 (T:Txt K mg):Def P w K mg base 4 "_law_many_worths" ["_law_kind","_law_script","_law_words_here","_law_limit","_law_peak"] (qyj K):=by
 refine T.qc6.ok q42 (λ vs H Q E h=> ?_) λ f cdv A outer s H vs Q E hr h=> ?_
 ·obtain ⟨k,a,wa,ns,m,t,ws,rfl,_⟩:=h;rfl
 ·obtain ⟨k,a,wa,ns,m,t,ws,rfl,a4,hk,hm,ht,hS,hw,a1,a7,w7,q⟩:=h;refine ⟨_,(q3c
   (qy (i:=5) q42.nd rfl (Or.inl rfl) q54)
   (q1m PassesOwn.never rfl (q8n rfl T.q9k (pa_1 (qq (q2y K) rfl T.b_len q46 (pa_1 (pv 2))))) (qx (i:=6) q42.nd rfl (Or.inl rfl)) (qg (q7l (q2h hr) (pv 5) (q1g (q17 K) (pv 2) (pv 6) (λ _ _=>rfl)) (qp (qja T) hr rfl (pa_5 (pv 0) (qp (q33 T) hr rfl (pa_2 (pv 1) (qm q1n qf (pv 6)))) (pv 2) (pv 3) (pv 4))) rfl)))
   (qk (pv 5))),?_⟩
  refine λ d hd=> ?_;have s1:=qd (o:=HO.dK []) hd;have a6:((ws.map V.str).length:Int).toNat=ws.length:=by rw [z30];omega
  refine ⟨_,rfl,_,_,rfl,.inl ⟨_,SqL.of (s1 _ _ hw),rfl⟩,_,rfl,by omega,by rw [z30];omega,?_⟩;rw [a6];refine qb3 (lo:=0) (n:=ws.length) (λ i σ G=>Same H G/\∃ (v:Option V) (kvs:List (Key×V)),σ=[some (.int (q3e k)),some (.ref a),some (.ref wa),some (.int m),some (.int t),some (.ref d),v]/\G d=some (.dK kvs)/\∀ F,(∀ c o,c≠d ->G c=some o ->F c=some o) ->Paired (WPair F) kvs (q1e ws ns k i)) ⟨s1,none,[],zf,qb,λ _ _=> .nil⟩ ?_ ?_
  ·rintro i σ G hi ⟨O,v,kvs,rfl,Z,hp⟩;have hg:atI (ws.map V.str) (0+(i:Int))=some (V.str (ws.getD i endW)):=by
    rw [Int.zero_add];refine q4k ?_;rw [z22,z06,z0d hi];rfl
   have e2:(2+(0+(i:Int))).toNat=2+i:=by omega
   refine ⟨_,zf,_,zf,_,zf,_,_,zf,zf,a,ns,2+(0+(i:Int)),zf,O.seq hS,by omega,_,zf,_,zf,_,zf,k,ns.getD (2+(0+(i:Int))).toNat 0,m,t,wa,ws,zf,a4,hk,hm,ht,O _ _ hw,a1,a7,λ x G2 s2 nx J=> ?_⟩;rw [e2] at J;have pG:=hp G λ _ _ _ z=>z;have kl:kvs.length=i:=by rw [Paired.length pG];unfold q1e;rw [z30,z29]
   have nk:¬ (kvs.any λ kv=>decide (kv.1=Sum.inr (ws.getD i endW)))=true:=λ z=>by
    obtain ⟨kv,a3,e⟩:=z2p.mp z;have e:=of_decide_eq_true e;have:kv.1∈kvs.map (·.1):=z45.mpr ⟨kv,a3,rfl⟩;rw [qd8 pG] at this;obtain ⟨p,a5,e3⟩:=z45.mp this;obtain ⟨j,hj,rfl⟩:=z45.mp a5;have hj:=z3d.mp hj;rw [e] at e3;have e4:ws.getD j endW=ws.getD i endW:=Sum.inr.inj e3;rw [z06,z06,z0d hi,z0d (show j < ws.length by omega)] at e4;have:=(List.getElem_inj (h₀:=show j < ws.length by omega) (h₁:=hi) a1).mp e4;omega
   have a0:putK kvs (Sum.inr (ws.getD i endW)) x=kvs++ [(Sum.inr (ws.getD i endW),x)]:=by
    unfold putK;rw [if_neg nk]
   refine ⟨_,rfl,_,rfl,_,rfl,_,_,_,_,rfl,rfl,SqL.of ((O.trans s2) _ _ hw),hg,d,_,rfl,DPut.k (k:=Sum.inr (ws.getD i endW)) (s2 _ _ Z) (by rw [kl];exact q1v (by omega)),?_⟩;rw [a0];refine ⟨(O.trans s2).set hd,_,_,zf,qb,λ F hF=> ?_⟩;have D:∀ c o,c≠d ->G2 c=some o ->F c=some o:=λ c o hc z=>hF c o hc (by rw [qh hc];exact z);rw [qsk];refine q1t (hp F λ c o hc z=>D c o hc (s2 _ _ z)) (.cons ⟨zf,?_⟩ .nil);have nd:∀ p,x= .ref p ->p≠d:=λ p e z=>by
    have:=nx p e;rw [z,Z] at this;cases this
   have a2:G2 d=some (.dK kvs):=s2 _ _ Z;show WV F (q5z (ws.take 4) (ns.getD (2+i) 0) k) x;revert J;generalize q5z (ws.take 4) (ns.getD (2+i) 0) k=wo;intro J;cases wo with
   | num i=>exact J
   | non=>exact J
   | tr b=>exact J
   | nums l=>
    obtain ⟨p,e,h⟩:=J;exact ⟨p,e,D _ _ (nd p e) h⟩
   | acc R=>
    obtain ⟨p,zs,e,h,tt⟩:=J;exact ⟨p,zs,e,D _ _ (nd p e) h,q1o (λ b ys z=>D b _ (λ q=>by subst q;rw [a2] at z;cases z) z) tt⟩
  ·rintro σ G ⟨O,v,kvs,rfl,Z,hp⟩;exact ⟨_,zf,q d kvs G O hd Z (hp G λ _ _ _ z=>z)⟩
section
variable {W:List Str} {k:Kd} {g:Str ->Wo}
theorem q10h (hW:HOk W) (hk:k.ok) (O:∀ z,qi W k (g z)) (hl:∀ z,LtW k (10^24) (g z)):∀ p:List Str,LtW k (2*(10^24)^p.length) (rkP k g p):=λ p=>by
 have:∀ n:Nat,∀ p:List Str,p.length=n ->LtW k (2*(10^24)^n) (rkP k g p):=λ n=>by
  induction n with
  | zero=>
   intro p J e;rw [z0k.mp J];subst e;show (1:Int) < 2*(10^24)^0;decide
  | succ n ih=>
   intro p J;have D:p≠ []:=λ z=>by rw [z] at J;cases J
   rw [<- List.dropLast_concat_getLast D,qlt];have:=LtW.bo (ih p.dropLast (by rw [List.length_dropLast,J];rfl)) (q2b hW hk O _) (O _) (hl (p.getLast D)) (z3k (by decide) (Int.pow_nonneg (by decide))) (by decide);refine this.mono ?_;rw [Int.pow_succ,Int.mul_assoc];exact z4a _
 exact this _ p rfl
theorem qoh (hW:HOk W) (hk:k.ok) (hg:∀ z,qi W k (g z)) (hl:∀ z,LtW k (10^24) (g z)) {p:List Str} {n:Nat} (h:p.length<=n):LtW k (2*(10^24)^n) (rkP k g p):=by
  refine (q10h hW hk hg hl p).mono (z02 ?_ (by decide));obtain ⟨m,rfl⟩:=Nat.exists_eq_add_of_le h;rw [Int.pow_add];have a:(0:Int)<=(10^24)^p.length:=Int.pow_nonneg (by decide);have b:(1:Int)<=(10^24)^m:=Int.pow_pos (by decide)
  calc (10^24:Int)^p.length=(10^24)^p.length*1:=(Int.mul_one _).symm
    _<=(10^24)^p.length*(10^24)^m:=z02 b a
theorem q10i:(2*(10^24)^6:Int)<=2^600:=by decide+kernel
theorem q10j (hW:HOk W) (hk:k.ok) (hg:∀ z,qi W k (g z)) (hl:∀ z,LtW k (10^24) (g z)) {Y:Tab} (h:∀ p∈Y,p.1.length<=6/\p.2 < 2^600):YOk k g Y:=λ p D=>⟨(h p D).2,λ i=>(qoh hW hk hg hl (n:=6) (z41 (by rw [z2g];omega) (h p D).1)).mono q10i⟩
theorem q10k (hW:HOk W) (hk:k.ok) (J:∀ z,qi W k (g z)) (hl:∀ z,LtW k (10^24) (g z)) {p:List Str×Int} (hp:p.1.length<=3) (h0:0<=p.2) (h1:p.2<=10^24):LtW k (2*(10^24)^3*(10^24+1)) (rkT k g p):=λ e=>by
 have a:=qoh hW hk J hl hp e;have D:=q2b hW hk J p.1;unfold rkT;subst e;revert a D;generalize rkP .counts g p.1=x;intro a D;cases D with | @counts i hi=>
  have a:i < 2*(10^24)^3:=a;show i*p.2 < 2*(10^24)^3*(10^24+1);have e1:i*p.2<=i*10^24:=z02 h1 hi;have:(2*(10^24)^3:Int)=2000000000000000000000000000000000000000000000000000000000000000000000000:=by decide+kernel
  rw [this] at a ⊢;omega
theorem qm1 (hW:HOk W) (hk:k.ok) (D:∀ z,qi W k (g z)) (hl:∀ z,LtW k (10^24) (g z)):∀ {Y:Tab},(∀ p∈Y,p.1.length<=3/\0<=p.2/\p.2<=10^24) ->LtW k (1+Y.length*(2*(10^24)^3*(10^24+1))) (rkY k g Y)
 | [],_=>λ e=>by subst e;show (0:Int) < 1+0*_;rw [Int.zero_mul];decide
 | p::Y,h=>by
  have nn:NN (p::Y):=λ q hq=>(h q hq).2.1;have J:=h p (z1p ..);have hY:∀ q∈Y,q.1.length<=3/\0<=q.2/\q.2<=10^24:=λ q hq=>h q (z16 _ hq);rw [q2l hW hk D nn];have:=LtW.ei (q10k hW hk D hl J.1 J.2.1 J.2.2) (q3t hW hk D J.2.1) (q1z hW hk D (λ q hq=>nn q (z16 _ hq))) (qm1 hW hk D hl hY);refine this.mono ?_;rw [z2i];generalize (2*(10^24)^3*(10^24+1):Int)=C;rw [Int.natCast_add,Int.add_mul];have:((1:Nat):Int)*C=C:=Int.one_mul C;omega
end
theorem qoi {K:PySem.W.Frag} {W:List Str} {k:Kd} {H:Hp} (hW:HOk W):∀ {J O:List (Key×V)} {D:List (Str×Wo)},(∀ p∈D,qi W k p.2) ->Paired (WPair H) J D ->Paired (WPair H) O D ->Paired (DatP K H) J O
 | _,_,_,_,.nil,.nil=> .nil
 | _,_,p::D,h,.cons a b,.cons c d=> .cons ⟨a.1.trans c.1.symm,_,a.2.dat hW (h p (z1p ..)),c.2.dat hW (h p (z1p ..)),q6h _⟩ (qoi hW (λ q hq=>h q (z16 _ hq)) b d)
theorem qsl {ws:List Str} {ns:List Int} {k:Kd} {n:Nat} (hW:HOk (ws.take 4)) (hk:k.ok):∀ p∈q1e ws ns k n,qi (ws.take 4) k p.2:=λ p hp=>by
 obtain ⟨j,_,rfl⟩:=z45.mp hp;exact qd7 hW hk _
structure At31 (K:PySem.W.Frag) (mg:Str ->Option Value) (wp dw dk o:Addr) (ws:List Str) (ns:List Int) (k:Kd) (H:Hp):Prop where
 kok:k.ok
 words:H wp=some (.lst (ws.map V.str))
 nd:ws.Nodup
 tx:∀ z∈ws,txtB small z=true/\Wz 12 z/\1<=z.length
 l7:ws.length<=7
 one:∃ kw,H dw=some (.dK kw)/\Paired (WPair H) kw (q1e ws ns k ws.length)
 two:∃ kk,H dk=some (.dK kk)/\Paired (WPair H) kk (q1e ws ns k ws.length)
 by_:ByAt mg H o k
theorem At31.same {K:PySem.W.Frag} {mg:Str ->Option Value} {wp dw dk o:Addr} {ws:List Str} {ns:List Int} {k:Kd} {H H':Hp} (h:At31 K mg wp dw dk o ws ns k H) (s:Same H H'):At31 K mg wp dw dk o ws ns k H':=by
 obtain ⟨kw,e1,p1⟩:=h.one;obtain ⟨kk,e2,p2⟩:=h.two;exact ⟨h.kok,s _ _ h.words,h.nd,h.tx,h.l7,⟨kw,s _ _ e1,WPair.same s p1⟩,⟨kk,s _ _ e2,WPair.same s p2⟩,h.by_.same s⟩
section
variable {K:PySem.W.Frag} {mg:Str ->Option Value} {wp dw dk o:Addr} {ws:List Str} {ns:List Int} {k:Kd} {H:Hp}
theorem At31.ne (h:At31 K mg wp dw dk o ws ns k H):endW∉ws:=λ z=>absurd (h.tx _ z).2.2 (by decide+kernel)
theorem At31.hW (h:At31 K mg wp dw dk o ws ns k H):HOk (ws.take 4):=⟨by rw [z2g];omega,λ z=>h.ne (z15 z),λ w hw=>(h.tx w (z15 hw)).2.1.ok⟩
theorem At31.fok (h:At31 K mg wp dw dk o ws ns k H):FOk (ws.take 4) k (wget (q1e ws ns k ws.length)) where
 hk:=h.kok
 hW:=h.hW
 tW:=λ w hw=>(h.tx w (z15 hw)).1
 good:=λ z a e=>by
  obtain ⟨c,rfl⟩:=qc4 e;exact qd7 h.hW h.kok c
 lt:=λ z=>by
  unfold gOf;cases e:wget (q1e ws ns k ws.length) z with
  | none=>exact qvx k
  | some a=>
   obtain ⟨c,rfl⟩:=qc4 e;exact (qie _ k c).mono (by decide+kernel)
theorem At31.lt24 (h:At31 K mg wp dw dk o ws ns k H) (z:Str):LtW k (10^24) (gOf k (wget (q1e ws ns k ws.length)) z):=by
 unfold gOf;cases e:wget (q1e ws ns k ws.length) z with
 | none=>exact λ q=>by subst q;show (0:Int) < 10^24;decide
 | some a=>
  obtain ⟨c,rfl⟩:=qc4 e;exact qie _ k c
theorem At31.wd (h:At31 K mg wp dw dk o ws ns k H):WD H dw (wget (q1e ws ns k ws.length)):=by
 obtain ⟨kw,e1,p1⟩:=h.one;exact WD.of e1 p1
theorem At31.wk (h:At31 K mg wp dw dk o ws ns k H):WD H dk (wget (q1e ws ns k ws.length)):=by
 obtain ⟨kw,e1,p1⟩:=h.two;exact WD.of e1 p1
theorem At31.names (h:At31 K mg wp dw dk o ws ns k H) {Y:Tab} (hY:∀ p∈Y,∀ z∈p.1,z∈ws):∀ p∈Y,∀ n∈p.1,∃ a,wget (q1e ws ns k ws.length) n=some a:=λ p hp n hn=>qog (hY p hp n hn)
theorem At31.yok (h:At31 K mg wp dw dk o ws ns k H) {Y:Tab} (hY:∀ p∈Y,p.1.length<=6/\p.2 < 2^600):YOk k (gOf k (wget (q1e ws ns k ws.length))) Y:=q10j h.hW h.kok h.fok.g h.lt24 hY
end
theorem qm2 {ws:List Str} {ps:Tab} (h:∀ p∈ps,∀ z∈p.1,z∈ws):∀ p∈tg ps,∀ z∈p.1,z∈ws:=λ p hp z hz=>by
 have hk:=(qdy.mp hp).1;obtain ⟨_,_,g3,_⟩:=q3r ps.length ps rfl;obtain ⟨q,hq,e⟩:=z45.mp ((g3 p.1).mp hk);rw [<- e] at hz;exact h q hq z ((Tim.qo ql _).mem_iff.mp hz)
theorem qv3 {H:Hp} {l t D:Addr} {w:Int} (hb:BW [([],w)]) (h0:H D=none) (h1:upd H D (.tup []) t=none) (h2:upd (upd H D (.tup [])) t (.tup [.ref D,.int w]) l=none):WA (upd (upd (upd H D (.tup [])) t (.tup [.ref D,.int w])) l (.lst [.ref t])) l [([],w)]:=
 ⟨_,qb,.cons ⟨t,D,rfl,(qd h2) _ _ qb,(qd h2) _ _ ((qd h1) _ _ qb)⟩ .nil,hb⟩
def qv4 (K:PySem.W.Frag):Sp:=λ vs H Q _=>∃ (x y:V) (d:PyData),vs=[x,y]/\Dat K H d x/\Dat K H d y/\d.depth<=60/\Q (.bl true) H
theorem q3x (T:Txt K mg):Def P w K mg base 1 "_law_alike" ["_law_found","_law_due"] (qv4 K):=by
 refine T.qm8.ok qiy (λ vs H Q E h=> ?_) λ f cdv A outer s H vs Q E hr h=> ?_
 ·obtain ⟨x,y,d,rfl,_⟩:=h;rfl
 ·obtain ⟨x,y,d,rfl,dx,D,dd,q⟩:=h;refine ⟨_,(q3c
   (q1c (q12 q7t (pv 1) q4t (q13 _)) (qg (qk (q3y q7t (pv 0) q4t (q13 _)))) q14)
   (q1c (PW.pt (q9n (q12 qvi (qq (q2e K) rfl T.q1p q1i (pa_2 (pv 0) (q5l rfl T.qfm qcd))) (qq (q2e K) rfl T.q1p q1i (pa_2 (pv 1) (q5l rfl T.qfm qcd))) (q13 _)) (q7r (q12 qvi (qq (q2e K) rfl T.q1p q1i (pa_2 (pv 0) (q5l rfl T.q50 q40))) (qq (q2e K) rfl T.q1p q1i (pa_2 (pv 1) (q5l rfl T.q50 q40))) (q13 _))))) (qg (qk q2v)) q14)
   (qk (q3y (qku hr.units K) (pv 0) (pv 1) (q13 _)))),?_⟩
  by_cases J:y= .non
  ·subst J;cases D
   cases dx
   exact ⟨_,zf,zf,_,zf,q1w rfl ⟨_,zf,zf,q⟩⟩
  refine ⟨_,zf,zf,_,zf,qu (by simp [J]) ?_⟩;refine ⟨_,zf,x,_,d,zf,dx,by decide,_,zf,y,_,d,zf,D,by decide,zf,_,zf,qu (by simp) ?_⟩;refine ⟨_,zf,x,_,d,zf,dx,by decide,_,zf,y,_,d,zf,D,by decide,zf,_,zf,qu (by simp) ?_⟩;refine ⟨_,zf,_,zf,d,d,dx,D,dd,?_⟩;rw [PySem.SeqAt.eqv_refl _ (Dat.lay _ _ dx)];exact q
def sp_law (K:PySem.W.Frag):Sp:=λ vs H Q _=>∃ (a:Addr) (ns:List Int),vs=[.ref a]/\SqL K H a (ns.map V.int)/\ns.length<=63/\∀ H',Q (.bl true) H'
theorem q10l {l:PySem.W.OpenLaw} {w:World} {K:PySem.W.Frag} {mg:Str ->Option Value} {fa:Addr} (T:Txt K mg) (j1:mg "law"=some (.ref fa)):
  ∃ fd:FuncData,(∀ (s:Shared) (v:Value),BindsTo s fd ⟨[v],[]⟩ [("_law_script",v)])/\∀ base:Heap,K.In base ->base.Ns mainGlobals mg ->FnOk l.prog w K mg base CX0 8 fa fd ["_law_script"] (sp_law K):=by
 refine T.t_law.fin j1 q31 (λ vs H Q E h=> ?_) λ base f cdv A outer s H vs Q E hr h=> ?_
 ·obtain ⟨a,ns,rfl,_⟩:=h;rfl
 ·obtain ⟨a,ns,rfl,hS,k4,q⟩:=h;refine qns 10 (λ σ G=>∃ (p wp o1 o2 dw dk o:Addr) (kd m t:Int) (ws:List Str) (Y Z:Tab) (k:Kd),σ=[some (.ref a),some (.ref p),some (.int kd),some (.int m),some (.int t),some (.ref wp),some (.ref o1),some (.ref o2),some (.ref dw),some (.ref dk),some (.ref o),none,none,none]/\WA G o1 Y/\W6 ws Y/\WA G o2 Z/\W6 ws Z/\At31 K mg wp dw dk o ws ns k G) ⟨_,(qvs
   (qy (i:=11) q31.nd rfl (Or.inl rfl) (qp (q3a T) hr rfl (pa_3 (q27 (q4m K) rfl T.q50 q40 (pa_1 (pv 6))) (pv 10) (pv 8))))
   (qy (i:=12) q31.nd rfl (Or.inl rfl) (qp (q3a T) hr rfl (pa_3 (q27 (q4m K) rfl T.q50 q40 (pa_1 (pv 7))) (pv 10) (pv 8))))
   (q1c (q2w (q3g (qp (q3x T) hr rfl (pa_2 (qp (q3a T) hr rfl (pa_3 (qp (qxm T) hr rfl (pa_2 (q27 (q4m K) rfl T.q50 q40 (pa_1 (pv 6))) (q27 (q4m K) rfl T.q50 q40 (pa_1 (pv 7))))) (pv 10) (pv 8))) (q38 (q5h T) (q28 T) hr (pv 10) (pa_2 (pv 11) (pv 12))))))) (qg (qk q2v)) q14)
   (q1c (q2w (q3g (qp (q3x T) hr rfl (pa_2 (qp (q3a T) hr rfl (pa_3 (qp (qu3 T) hr rfl (pa_2 (q27 (q4m K) rfl T.q50 q40 (pa_1 (pv 6))) (q27 (q4m K) rfl T.q50 q40 (pa_1 (pv 7))))) (pv 10) (pv 8))) (q38 (qo7 T) (q28 T) hr (pv 10) (pa_2 (pv 11) (pv 12))))))) (qg (qk q2v)) q14)
   (q1c (PW.pt (q9n (q2w (q3g (qp (q3x T) hr rfl (pa_2 (qp (q3a T) hr rfl (pa_3 (q20 q2d) (pv 10) (pv 8))) (q3l (q5g T) (q28 T) hr (pv 10)))))) (q7r (q2w (q3g (qp (q3x T) hr rfl (pa_2 (qp (q3a T) hr rfl (pa_3 (q20 (pa_1 (q6q (pa_2 (q6q q2d) qf)))) (pv 10) q54)) (q3l (qo6 T) (q28 T) hr (pv 10))))))))) (qg (qk q2v)) q14)
   (q1m PassesOwn.never rfl (q19 K (pv 5)) (qx (i:=13) q31.nd rfl (Or.inl rfl)) (qg (q1c (q2w (q3g (qp (q3x T) hr rfl (pa_2 (qp (q3a T) hr rfl (pa_3 (qp (qpo T) hr rfl (pa_1 (pv 13))) (pv 10) (pv 8))) (q4l (q2h hr) (pv 9) (pv 13) (λ _ _=>rfl)))))) (qg (qk q2v)) q14)))
   (qk (q3y (qtv hr.units K) (pv 8) (pv 9) (q13 _)))),?_⟩ (λ u hu hC=>⟨_,(qzf
   (qy (i:=1) q31.nd rfl (Or.inl rfl) (qp (q4z T) hr rfl (pa_2 (qp (q33 T) hr rfl (pa_2 (pv 0) qf)) qf)))
   (qy (i:=2) q31.nd rfl (Or.inl rfl) (qm q1f (q1g (q17 K) (pv 1) qf (λ _ _=>rfl)) qf))
   (qy (i:=3) q31.nd rfl (Or.inl rfl) (qm q1n qf (qm q1f (q1g (q17 K) (pv 1) qf (λ _ _=>rfl)) qf)))
   (qy (i:=4) q31.nd rfl (Or.inl rfl) (q1g (q17 K) (q20 (pa_2 qf (q1g (q17 K) (pv 1) qf (λ _ _=>rfl)))) (qm q1f (q1g (q17 K) (pv 1) qf (λ _ _=>rfl)) qf) (λ _ _=>rfl)))
   (qy (i:=5) q31.nd rfl (Or.inl rfl) (qp (qj9 T) hr rfl (pa_2 (qp (q33 T) hr rfl (pa_2 (pv 0) qf)) (qm q1n qf (qm q1f (q1g (q17 K) (pv 1) qf (λ _ _=>rfl)) qf)))))
   (qy (i:=6) q31.nd rfl (Or.inl rfl) (qp (q9i T) hr rfl (pa_2 (qp (q4z T) hr rfl (pa_2 (qp (q33 T) hr rfl (pa_2 (pv 0) qf)) (qm q4u qf (qm q1f (q1g (q17 K) (pv 1) qf (λ _ _=>rfl)) qf)))) (pv 5))))
   (qy (i:=7) q31.nd rfl (Or.inl rfl) (qp (q9i T) hr rfl (pa_2 (qp (q4z T) hr rfl (pa_2 (qp (q33 T) hr rfl (pa_2 (pv 0) qf)) (qm q4u qf (qm q1f (q1g (q17 K) (pv 1) qf (λ _ _=>rfl)) qf)))) (pv 5))))
   (qy (i:=8) q31.nd rfl (Or.inl rfl) (qp (q61 T) hr rfl (pa_5 (pv 2) (pv 0) (pv 5) (pv 3) (pv 4))))
   (qy (i:=9) q31.nd rfl (Or.inl rfl) (qp (q61 T) hr rfl (pa_5 (pv 2) (pv 0) (pv 5) (pv 3) (pv 4))))
   (qy (i:=10) q31.nd rfl (Or.inl rfl) (qp (qpx T) hr rfl (pa_3 (pv 2) (pv 3) (pv 4))))
   hu),?_⟩)
  ·rintro σ G ⟨p,wp,o1,o2,dw,dk,o,kd,m,t,ws,Y,Z,k,rfl,wY,J,wZ,O,hA⟩;have hk:=hA.kok;have hW:=hA.hW;have fk:=hA.fok;have lt:=hA.lt24;obtain ⟨f,hf⟩:∃ f,f=wget (q1e ws ns k ws.length):=⟨_,rfl⟩;have b9:NN Y:=J.2.1.nn;have c0:NN Z:=O.2.1.nn;have e6:∀ p∈Y,∀ z∈p.1,z∈ws:=λ p D=>(J.2.2 p D).2.2;have e7:∀ p∈Z,∀ z∈p.1,z∈ws:=λ p D=>(O.2.2 p D).2.2;have e8:∀ p∈Y,p.1.length<=3/\0<=p.2/\p.2<=10^24:=λ p D=>⟨(J.2.1.2 p D).2.1,(J.2.1.2 p D).2.2.1,(J.2.1.2 p D).2.2.2⟩;have e9:∀ p∈Z,p.1.length<=3/\0<=p.2/\p.2<=10^24:=λ p D=>⟨(O.2.1.2 p D).2.1,(O.2.1.2 p D).2.2.1,(O.2.1.2 p D).2.2.2⟩;have big:(10^24:Int) < 2^600:=by decide+kernel
   have gY:=q1z hW hk fk.g b9;have gZ:=q1z hW hk fk.g c0;have c6:∀ {X:Tab},X.length<=6 ->LtW k (1+X.length*(2*(10^24)^3*(10^24+1))) (rkY k (gOf k (wget (q1e ws ns k ws.length))) X) ->LtW k (2^600) (rkY k (gOf k (wget (q1e ws ns k ws.length))) X):=λ {X} h z=>z.mono (by
    have e:(2*(10^24)^3*(10^24+1):Int)=2000000000000000000000002000000000000000000000000000000000000000000000000000000000000000000000000:=by decide+kernel
    have e2:(100*2000000000000000000000002000000000000000000000000000000000000000000000000000000000000000000000000:Int)<=2^600:=by decide+kernel
    rw [e];omega)
   have j6:LtW k (2^600) (rkY k (gOf k (wget (q1e ws ns k ws.length))) Y):=c6 J.2.1.1 (qm1 hW hk fk.g lt e8);have j7:LtW k (2^600) (rkY k (gOf k (wget (q1e ws ns k ws.length))) Z):=c6 O.2.1.1 (qm1 hW hk fk.g lt e9);have d1:Bd 12 3 (12*10^24) (tg (Y++Z)):=Bd.tg (Bd.app J.2.1 O.2.1) (by decide);have d2:Bd 36 6 (36*(10^24*10^24)) (tg (prods Y Z)):=Bd.tg (Bd.prods J.2.1 O.2.1 (by decide)) (by decide);have c1:(12*10^24:Int) < 2^600:=by decide+kernel
   have c2:(36*(10^24*10^24):Int) < 2^600:=by decide+kernel
   have h4:BW (tg (Y++Z)):=d1.le (by decide) (by decide) (by decide+kernel);have h5:BW (tg (prods Y Z)):=d2.le (by decide) (by decide) (by decide+kernel);have eP:rkY k (gOf k (wget (q1e ws ns k ws.length))) (tg (Y++Z))=eiW k (rkY k (gOf k (wget (q1e ws ns k ws.length))) Y) (rkY k (gOf k (wget (q1e ws ns k ws.length))) Z):=by rw [qse hW hk fk.g (qzq b9 c0),qoc hW hk fk.g b9 c0]
   have eT:rkY k (gOf k (wget (q1e ws ns k ws.length))) (tg (prods Y Z))=boW k (rkY k (gOf k (wget (q1e ws ns k ws.length))) Y) (rkY k (gOf k (wget (q1e ws ns k ws.length))) Z):=by rw [qse hW hk fk.g (qlc b9 c0),qic hW hk fk.g c0 b9]
   have j8:∀ p∈tg (Y++Z),∀ z∈p.1,z∈ws:=qm2 λ p D=>(z2u.mp D).elim (e6 p) (e7 p);have j9:∀ p∈tg (prods Y Z),∀ z∈p.1,z∈ws:=qm2 λ r hr z hz=>by
    obtain ⟨p,D,q,hq,rfl⟩:=q8v hr;exact (z2u.mp hz).elim (e6 p D z) (e7 q hq z)
   have yY:=hA.yok (Y:=Y) λ p D=>⟨z41 (e8 p D).1 (by decide),z1v (e8 p D).2.2 big⟩;have yZ:=hA.yok (Y:=Z) λ p D=>⟨z41 (e9 p D).1 (by decide),z1v (e9 p D).2.2 big⟩;have yP:=hA.yok (Y:=tg (Y++Z)) λ p D=>⟨z41 (d1.2 p D).2.1 (by decide),z1v (d1.2 p D).2.2.2 c1⟩;have yT:=hA.yok (Y:=tg (prods Y Z)) λ p D=>⟨(d2.2 p D).2.1,z1v (d2.2 p D).2.2.2 c2⟩;generalize i8:rkY k (gOf k (wget (q1e ws ns k ws.length))) Y=RY at*;generalize i9:rkY k (gOf k (wget (q1e ws ns k ws.length))) Z=RZ at*;have gE:=q4y gY gZ;have gB:=q5y gY gZ;refine ⟨_,zf,o1,_,zf,.inl (SqL.of wY.lst),λ l1 f6=> ?_⟩;have s1:=qd (o:=HO.lst wY.xs) f6;have w1:=wY.copy f6;have d3:=hA.same s1;refine ⟨_,zf,_,zf,l1,o,dw,Y,k,_,ws.take 4,zf,w1,d3.by_,d3.wd,fk,d3.names e6,yY,λ zl G1 t1 _ vl=> ?_⟩;rw [i8] at vl;have sA:=s1.trans t1;refine ⟨_,zf,o2,_,zf,.inl (SqL.of ((wZ.same sA).lst)),λ l2 f7=> ?_⟩;have s2:=qd (o:=HO.lst (wZ.same sA).xs) f7;have w2:=(wZ.same sA).copy f7;have d4:=hA.same (sA.trans s2);refine ⟨_,zf,_,zf,l2,o,dw,Z,k,_,ws.take 4,zf,w2,d4.by_,d4.wd,fk,d4.names e7,yZ,λ zr G2 t2 _ vr=> ?_⟩;rw [i9] at vr;have sB:=sA.trans (s2.trans t2);have g6:=vl.same (s2.trans t2);have d7:=hA.same sB;have c4:=wY.same sB;have c5:=wZ.same sB;refine ⟨_,zf,o1,_,zf,.inl (SqL.of c4.lst),λ l3 b7=> ?_⟩;have s3:=qd (o:=HO.lst c4.xs) b7;refine ⟨_,zf,o2,_,zf,.inl (SqL.of (c5.same s3).lst),λ l4 b8=> ?_⟩;have s4:=qd (o:=HO.lst (c5.same s3).xs) b8;have w3:=(c4.copy b7).same s4;have w4:=(c5.same s3).copy b8;refine ⟨l3,l4,_,_,Y,Z,zf,w3.lst,w4.lst,w3.prd,w4.prd,w3.few,w4.few,WA.okS w3 w4,λ pl zs G3 t3 d9 _ e5=> ?_⟩;have wP:WA G3 pl (tg (Y++Z)):=WA.res d9 e5 h4;have sC:=s3.trans (s4.trans t3);have a8:=d7.same sC;refine ⟨_,zf,_,zf,pl,o,dw,tg (Y++Z),k,_,ws.take 4,zf,wP,a8.by_,a8.wd,fk,a8.names j8,yP,λ z1 G4 t4 _ v1=> ?_⟩;rw [eP] at v1;have sD:=sC.trans t4;obtain ⟨dx,b4⟩:=(d7.same sD).by_;refine ⟨_,zf,k,o,dx,_,zf,b4,q9f k,_,zf,_,zf,o,zl,zr,RY,RZ,ws.take 4,zf,⟨dx,b4⟩,hk,gY,gZ,g6.same sD,vr.same sD,λ z2 G5 t5 _ v2=> ?_⟩;refine ⟨z1,z2,_,zf,(v1.same t5).dat hW gE,v2.dat hW gE,q6h _,_,zf,qu rfl ?_⟩;have sE:=sD.trans t5;have d5:=d7.same sE;have f0:=c4.same sE;have f1:=c5.same sE;have k1:=g6.same sE;have k2:=vr.same sE;refine ⟨_,zf,o1,_,zf,.inl (SqL.of f0.lst),λ l3 b7=> ?_⟩;have s3:=qd (o:=HO.lst f0.xs) b7;refine ⟨_,zf,o2,_,zf,.inl (SqL.of (f1.same s3).lst),λ l4 b8=> ?_⟩;have s4:=qd (o:=HO.lst (f1.same s3).xs) b8;have w3:=(f0.copy b7).same s4;have w4:=(f1.same s3).copy b8;refine ⟨l3,l4,_,_,Y,Z,zf,w3.lst,w4.lst,w3.prd,w4.prd,z41 J.2.1.1 (by decide),z41 O.2.1.1 (by decide),WA.ok2 w3 w4,λ pl zs G3 t3 d9 _ e5=> ?_⟩;have wP:WA G3 pl (tg (prods Y Z)):=WA.res d9 e5 h5;have sC:=s3.trans (s4.trans t3);have a8:=d5.same sC;refine ⟨_,zf,_,zf,pl,o,dw,tg (prods Y Z),k,_,ws.take 4,zf,wP,a8.by_,a8.wd,fk,a8.names j9,yT,λ z1 G4 t4 _ v1=> ?_⟩;rw [eT] at v1;have sD:=sC.trans t4;obtain ⟨dx,b4⟩:=(d5.same sD).by_;refine ⟨_,zf,k,o,dx,_,zf,b4,qsa k,_,zf,_,zf,o,zl,zr,RY,RZ,ws.take 4,zf,⟨dx,b4⟩,hk,gY,gZ,k1.same sD,k2.same sD,j6.and j7,λ z2 G6 t5 _ v2=> ?_⟩;refine ⟨z1,z2,_,zf,(v1.same t5).dat hW gB,v2.dat hW gB,q6h _,_,zf,qu rfl ?_⟩;have h9:=d5.same (sD.trans t5);refine ⟨by show 0<=sizeLine;decide,λ l5 j2=> ?_⟩;have s5:=qd (o:=HO.lst []) j2;have w5:WA (upd G6 l5 (.lst [])) l5 []:=⟨[],qb,.nil,⟨by decide,λ _ z=>nomatch z⟩⟩;have d6:=h9.same s5;refine ⟨_,rfl,_,rfl,l5,o,dw,[],k,_,ws.take 4,rfl,w5,d6.by_,d6.wd,fk,(λ _ z=>nomatch z),(λ _ z=>nomatch z),λ z1 G7 t7 _ v1=> ?_⟩;have f3:=d6.same t7;obtain ⟨dx,f5⟩:=f3.by_;refine ⟨_,zf,k,o,dx,_,zf,f5,q9e k,o,zf,⟨dx,f5⟩,λ z2 G8 t8 _ v2=> ?_⟩;refine ⟨z1,z2,_,zf,((show WV G7 (noW k) z1 from v1).same t8).dat hW (q3j hW hk),v2.dat hW (q3j hW hk),q6h _,_,zf,qu rfl ?_⟩;have i7:=f3.same t8;refine ⟨by show 0<=sizeLine;decide,λ t0 h0=>⟨by show 2<=sizeLine;decide,λ tt h1=>⟨by show 1<=sizeLine;decide,λ l6 h2=> ?_⟩⟩⟩;have s6:=(qd (o:=HO.tup []) h0).trans ((qd (o:=HO.tup [.ref t0,.int 1]) h1).trans (qd (o:=HO.lst [.ref tt]) h2));have h3:BW [([],1)]:=⟨by decide,λ p D=>by rw [z1m.mp D];exact ⟨(λ _ z=>nomatch z),by decide,by decide,by decide+kernel⟩⟩;have w6:=qv3 h3 h0 h1 h2;have f2:=i7.same s6;generalize upd (upd (upd G8 t0 (.tup [])) tt (.tup [.ref t0,.int 1])) l6 (.lst [.ref tt])=G9 at*;refine ⟨_,zf,λ d0 j0=> ?_⟩;have s7:=qd (o:=HO.dK []) j0;have c7:=f2.same s7;have k3:WD (upd G9 d0 (.dK [])) d0 (λ _=>none):=⟨[],.inl qb,λ z=> .inl ⟨rfl,rfl⟩⟩;have h8:FOk (ws.take 4) k (λ _=>none):=⟨hk,hW,fk.tW,(λ _ _ z=>nomatch z),λ z=>qvx k⟩;refine ⟨l6,o,d0,[([],1)],k,_,ws.take 4,rfl,w6.same s7,c7.by_,k3,h8,(λ p D=>by rw [z1m.mp D];exact λ _ z=>nomatch z),(λ p D=>by rw [z1m.mp D];exact ⟨by decide+kernel,λ i=>by rw [List.take_nil];exact q11n k⟩),λ z1 G10 k0 _ v1=> ?_⟩;rw [qux hW hk] at v1;have c8:=c7.same k0;obtain ⟨dx,c9⟩:=c8.by_;refine ⟨_,zf,k,o,dx,_,zf,c9,qs9 k,o,zf,⟨dx,c9⟩,λ z2 g8 g5 _ v2=> ?_⟩;refine ⟨z1,z2,_,zf,(v1.same g5).dat hW (q8g hW hk),v2.dat hW (q8g hW hk),q6h _,_,zf,iteF ?_⟩;have b2:=c8.same g5;refine ⟨_,zf,wp,zf,⟨_,SqL.of b2.words⟩,q26 (xs:=ws.map V.str) (λ i σ F=>Same g8 F/\∃ v,σ=[some (.ref a),some (.ref p),some (.int kd),some (.int m),some (.int t),some (.ref wp),some (.ref o1),some (.ref o2),some (.ref dw),some (.ref dk),some (.ref o),some zl,some zr,v]) ⟨Same.refl _,none,zf⟩ (λ i σ F _ z=>SqL.of (z.1 _ _ b2.words)) ?_ ?_⟩
   ·rintro i x σ F hx ⟨sf,v,rfl⟩;rw [z22] at hx;obtain ⟨z,hz,rfl⟩:=z0q.mp hx;have e4:=z18 hz;have b3:=b2.same sf;refine ⟨_,zf,z,zf,(b3.tx z e4).2.1.ok,λ l7 F1 t1 _ w7=> ?_⟩;have a7:=b3.same t1;refine ⟨_,rfl,_,rfl,l7,o,dw,[([z],1)],k,_,ws.take 4,rfl,w7,a7.by_,a7.wd,fk,a7.names (λ p D=>by rw [z1m.mp D];exact λ y hy=>by rw [z1m.mp hy];exact e4),a7.yok (λ p D=>by rw [z1m.mp D];exact ⟨by show 1<=6;decide,by show (1:Int) < 2^600;decide+kernel⟩),λ z1 F2 t2 _ v1=> ?_⟩;rw [qyd hW hk fk.g] at v1;have f4:=a7.same t2;obtain ⟨b,hb⟩:=qog (ns:=ns) (k:=k) e4;obtain ⟨y,hy,wy⟩:=f4.wk.get hb;have eb:gOf k (wget (q1e ws ns k ws.length)) z=b:=by
     unfold gOf;rw [hb];rfl
    rw [eb] at v1;have gb:=fk.good z b hb;refine ⟨_,zf,_,zf,dk,_,zf,hy,z1,y,_,zf,v1.dat hW gb,wy.dat hW gb,q6h _,_,zf,qu rfl ?_⟩;exact ⟨sf.trans (t1.trans t2),_,zf⟩
   ·rintro σ F ⟨sf,v,rfl⟩;have b3:=b2.same sf;obtain ⟨kw,e1,p1⟩:=b3.one;obtain ⟨kk,e2,p2⟩:=b3.two;exact ⟨_,zf,_,zf,dw,dk,kw,kk,zf,zf,.inl e1,.inl e2,qoi hW (qsl hW hk) p1 p2,q _⟩
  ·refine ⟨_,zf,a,ns,0,zf,hS,by decide,_,8,zf,by decide,by decide,λ p H1 s1 hpn D=> ?_⟩;have rl:(rowF (ns.getD (Int.toNat 0) 0) 8).length=8:=q6j (by decide);have gt:=quy (ns.getD (Int.toNat 0) 0) 8;generalize rowF (ns.getD (Int.toNat 0) 0) 8=is at*;have a0:atI (is.map V.int) 0=some (V.int (is.getD 0 0)):=q2m (k:=0) (by omega);have a1:atI (is.map V.int) 1=some (V.int (is.getD 1 0)):=q2m (k:=1) (by omega);have a2:atI (is.map V.int) 2=some (V.int (is.getD 2 0)):=q2m (k:=2) (by omega);have a3:atI (is.map V.int) 3=some (V.int (is.getD 3 0)):=q2m (k:=3) (by omega);have a4:atI (is.map V.int) 4=some (V.int (is.getD 4 0)):=q2m (k:=4) (by omega);have a5:atI (is.map V.int) 5=some (V.int (is.getD 5 0)):=q2m (k:=5) (by omega);have a6:atI (is.map V.int) 6=some (V.int (is.getD 6 0)):=q2m (k:=6) (by omega);have g2:=(gt 2).1;generalize is.getD 0 0=i0 at*;generalize is.getD 1 0=i1 at*;generalize is.getD 2 0=i2 at*;generalize is.getD 3 0=i3 at*;generalize is.getD 4 0=i4 at*;generalize is.getD 5 0=i5 at*;generalize is.getD 6 0=i6 at*;have hm:1<=1+i1%9/\1+i1%9<=9:=by omega
   refine ⟨_,rfl,_,_,_,_,rfl,rfl,SqL.of D,a0,_,_,rfl,rfl,(by show (0:Int) < 6;decide),?_⟩;refine ⟨_,rfl,_,_,_,_,rfl,rfl,SqL.of D,a1,_,_,rfl,rfl,(by show (0:Int) < 9;decide),_,_,rfl,rfl,?_⟩;refine ⟨_,rfl,_,_,_,_,rfl,rfl,SqL.of D,a2,by show 2<=sizeLine;decide,λ L hL=> ?_⟩;have uL:=qd (o:=HO.lst ([100,i2].map V.int)) hL;have g9:=qlo (ns:=[100,i2]) (i:=i3%2) (z3a _ (by decide)) (z1w _ (by decide));refine ⟨_,rfl,_,_,_,_,rfl,rfl,SqL.of (uL _ _ D),a3,_,_,rfl,rfl,(by show (0:Int) < 2;decide),_,_,_,_,rfl,rfl,SqL.of qb,g9,?_⟩;have ht:0<=[100,i2].getD (i3%2).toNat 0:=by
    have:(i3%2).toNat=0\/ (i3%2).toNat=1:=by omega
    rcases this with e | e <;> rw [e]
    ·show (0:Int)<=100;decide
    ·exact g2
   generalize [100,i2].getD (i3%2).toNat 0=t at*;have s2:=s1.trans uL;have f8:=uL _ _ D;refine ⟨_,rfl,a,ns,1,rfl,s2.seq hS,by decide,_,rfl,_,_,_,_,rfl,rfl,SqL.of f8,a4,_,_,rfl,rfl,(by show (0:Int) < 6;decide),_,_,rfl,rfl,_,1+i4%6,rfl,by omega,by omega,λ wp ws H3 s3 _ hw lw nd tx=> ?_⟩;have g1:=s2.trans s3;have f9:=s3 _ _ f8;have wl:1<=ws.length:=by omega
   have g7:∀ z∈ws,PyData.strOk z=true:=λ z hz=>(tx z hz).2.1.ok;refine ⟨_,rfl,a,ns,8,rfl,g1.seq hS,by decide,_,rfl,_,_,_,_,rfl,rfl,SqL.of f9,a5,_,_,rfl,rfl,(by show (0:Int) < 7;decide),_,_,rfl,rfl,.inl ⟨by decide,by decide⟩,_,5*(i5%7),rfl,by omega,by omega,λ r1 H4 s4 _ j4=> ?_⟩;have b5:0<=i5%7:=z3a _ (by decide);have b6:0<=i6%7:=z3a _ (by decide);refine ⟨_,rfl,r1,wp,_,ws,(i5%7).toNat,rfl,j4,by rw [q6j (by omega)];omega,by omega,s4 _ _ hw,wl,g7,λ o1 Y H5 s5 _ wY J=> ?_⟩;have g3:=g1.trans (s4.trans s5);have j3:=(s4.trans s5) _ _ f9;have g0:=(s4.trans s5) _ _ hw;refine ⟨_,rfl,a,ns,9,rfl,g3.seq hS,by decide,_,rfl,_,_,_,_,rfl,rfl,SqL.of j3,a6,_,_,rfl,rfl,(by show (0:Int) < 7;decide),_,_,rfl,rfl,.inl ⟨by decide,by decide⟩,_,5*(i6%7),rfl,by omega,by omega,λ r2 H6 s6 _ j5=> ?_⟩;refine ⟨_,rfl,r2,wp,_,ws,(i6%7).toNat,rfl,j5,by rw [q6j (by omega)];omega,by omega,s6 _ _ g0,wl,g7,λ o2 Z H7 s7 _ wZ O=> ?_⟩;have g4:=g3.trans (s6.trans s7);have e0:=(s6.trans s7) _ _ g0;have ne:endW∉ws:=λ z=>absurd (tx _ z).2.2 (by decide+kernel);obtain ⟨k,ek,d8,hk⟩:=q11o (c:=i0%6) (z3a _ (by decide)) (z1w _ (by decide)) hm ht;refine ⟨_,rfl,_,rfl,_,rfl,_,rfl,_,rfl,k,a,wp,ns,_,t,ws,by rw [ek];rfl,d8,hk,hm,ht,g4.seq hS,e0,nd,ne,by omega,λ dw kw H8 s8 _ h7 pw=> ?_⟩;refine ⟨_,rfl,_,rfl,_,rfl,_,rfl,_,rfl,k,a,wp,ns,_,t,ws,by rw [ek];rfl,d8,hk,hm,ht,(g4.trans s8).seq hS,s8 _ _ e0,nd,ne,by omega,λ dk kk H9 s9 _ h6 pk=> ?_⟩;refine ⟨_,rfl,_,rfl,_,rfl,k,_,t,by rw [ek];rfl,d8,λ o H10 a9 hB=> ?_⟩;exact hC _ _ ⟨p,wp,o1,o2,dw,dk,o,_,_,t,ws,Y,Z,k,zf,wY.same (s6.trans (s7.trans (s8.trans (s9.trans a9)))),J,wZ.same (s8.trans (s9.trans a9)),O,⟨hk,(s8.trans (s9.trans a9)) _ _ e0,nd,tx,by omega,⟨kw,(s9.trans a9) _ _ h7,WPair.same (s9.trans a9) pw⟩,⟨kk,a9 _ _ h6,WPair.same a9 pk⟩,hB⟩⟩
open PySem.W in
theorem qm3 {K:PySem.W.Frag} {h:Heap} {mg:Str ->Option Value} (X:K.In h) (G:h.Ns mainGlobals mg) {aR aS aT aU aV aW:Tok} {aL aM aH aN aX aI aO aY:Addr} {aZ a0 a1 a2 aP a3 a4 a5 a6 a7 a8 aQ a9 aa:Value} {ab ac ad ae af ag:Option Addr} {ah ai aj ak:Array (Option Value)}
  (al:nsIn K mainGlobals "abs"=some none)
  (am:nsIn K mainGlobals "all"=some none)
  (an:nsIn K mainGlobals "any"=some none)
  (ao:nsIn K mainGlobals "bool"=some none)
  (ap:nsIn K mainGlobals "dict"=some none)
  (aq:nsIn K mainGlobals "int"=some none)
  (ar:nsIn K mainGlobals "isinstance"=some none)
  (as:nsIn K mainGlobals "len"=some none)
  (au:nsIn K mainGlobals "list"=some none)
  (av:nsIn K mainGlobals "max"=some none)
  (aw:nsIn K mainGlobals "min"=some none)
  (ax:nsIn K mainGlobals "range"=some none)
  (ay:nsIn K mainGlobals "set"=some none)
  (az:nsIn K mainGlobals "sorted"=some none)
  (bA:nsIn K mainGlobals "str"=some none)
  (bB:nsIn K mainGlobals "tuple"=some none)
  (bC:nsIn K mainGlobals "SMALL_LETTERS"=some (some (.str "abcdefghijklmnopqrstuvwxyz" aR)))
  (bD:nsIn K mainGlobals "FURTHER_SIGNS"=some (some (.str "abcdefghijklmnopqrstuvwxyz0123456789" aS)))
  (bE:nsIn K mainGlobals "MOST_SIGNS"=some (some (.int 12 aT)))
  (bF:nsIn K mainGlobals "END"=some (some (.str "" aU)))
  (bG:FiK K "is_whole" qa0)
  (bH:FiK K "is_text_begun_by" q48)
  (bI:FiK K "is_word" qbf)
  (bJ:FiK K "of_fact" qbg)
  (bK:FiK K "count_in" qa1)
  (bL:FiK K "told_as_why" q6x)
  (bM:FiK K "gathered" qa2)
  (bN:FiK K "plus" ql8)
  (bO:FiK K "times" qg7)
  (bP:FiK K "names_of" qa3)
  (bQ:FiK K "ask_worths" q81)
  (bR:FiK K "product_reckoned" q49)
  (bS:FiK K "reckoned" qa4)
  (bT:FiK K "is_tuple_of_words" q41)
  (bU:FiK K "is_accord" q8y)
  (bV:FiK K "put_into" qa5)
  (bW:FiK K "kids_within" q6y)
  (bX:FiK K "has_one_within" q57)
  (bY:FiK K "once_by_size" q66)
  (bZ:FiK K "thinned" qbh)
  (b0:FiK K "agreed" qdo)
  (b1:FiK K "_law_cell_at" q6d)
  (b2:FiK K "_law_row" qa6)
  (b3:FiK K "_law_word" q8z)
  (b4:FiK K "_law_words" q8b)
  (b5:FiK K "_law_why_by" q78)
  (b6:FiK K "_law_within" q79)
  (b7:FiK K "_law_accord" q7a)
  (b8:FiK K "_law_by" qbi)
  (b9:FiK K "_law_worth" q8c)
  (ba:FiK K "_law_many_worths" q4c)
  (bb:FiK K "_law_alike" q8d)
  (bc:FiK K "law" qpj)
  (bd:nsIn K mainGlobals "Bests"=some (some (.ref aL)))
  (be:nsIn K mainGlobals "Trusts"=some (some (.ref aM)))
  (D:CiK K "Reckoning")
  (bf:AiK K "Reckoning" "__init__" (some (some (.builtin "object.__init__"))))
  (bg:AiK K "Reckoning" "either" (some none))
  (bh:AiK K "Reckoning" "nought" (some none))
  (bi:MiK K "Reckoning" "repeated" "Reckoning.repeated" q5m)
  (J:CiK K "Counts")
  (bj:AiK K "Counts" "__init__" (some (some (.builtin "object.__init__"))))
  (bk:MiK K "Counts" "fits" "Counts.fits" q6z)
  (bl:MiK K "Counts" "nought" "Counts.nought" q5n)
  (bm:MiK K "Counts" "unit" "Counts.unit" q70)
  (bn:MiK K "Counts" "either" "Counts.either" q5o)
  (bo:MiK K "Counts" "both" "Counts.both" q71)
  (bp:MiK K "Counts" "repeated" "Counts.repeated" q4q)
  (O:CiK K "Costs")
  (bq:AiK K "Costs" "__init__" (some (some (.builtin "object.__init__"))))
  (br:MiK K "Costs" "fits" "Costs.fits" q82)
  (bs:MiK K "Costs" "nought" "Costs.nought" q67)
  (bt:MiK K "Costs" "unit" "Costs.unit" q83)
  (bu:MiK K "Costs" "either" "Costs.either" q68)
  (bv:MiK K "Costs" "both" "Costs.both" q84)
  (bw:MiK K "Costs" "repeated" "Reckoning.repeated" q58)
  (Z:CiK K "Bests")
  (bx:AiK K "Bests" "most" (some none))
  (bz:findIn K (.ref aL) "__init__"=some (some (.ref aH))) (cA:isFn K (.ref aH)=true)
  (cB:K.lookup aH=some ⟨aZ,ab,.func (fnOf "__init__" "Bests.__init__" (q1l q4a) (q1d q4a) (qc q4a) (.ref aN) a0 a1 a2 ac aP a3),ah⟩)
  (cC:codeIn K aP "Bests.__init__"=true)
  (aJ:K.lookup aN=some ⟨a4,ad,.seq #[.int 3 aV] aX,ai⟩)
  (cD:MiK K "Bests" "least_ones" "Bests.least_ones" q4b)
  (cE:MiK K "Bests" "fits" "Bests.fits" q85)
  (cF:MiK K "Bests" "nought" "Bests.nought" q69)
  (cG:MiK K "Bests" "unit" "Bests.unit" q86)
  (cH:MiK K "Bests" "either" "Bests.either" q6a)
  (cI:MiK K "Bests" "both" "Bests.both" q87)
  (cJ:MiK K "Bests" "repeated" "Bests.repeated" q59)
  (aE:CiK K "Trusts")
  (cK:AiK K "Trusts" "top" (some none))
  (cL:findIn K (.ref aM) "__init__"=some (some (.ref aI))) (cM:isFn K (.ref aI)=true)
  (cN:K.lookup aI=some ⟨a5,ae,.func (fnOf "__init__" "Trusts.__init__" (q1l q3w) (q1d q3w) (qc q3w) (.ref aO) a6 a7 a8 af aQ a9),aj⟩)
  (cO:codeIn K aQ "Trusts.__init__"=true)
  (aK:K.lookup aO=some ⟨aa,ag,.seq #[.int 100 aW] aY,ak⟩)
  (cP:MiK K "Trusts" "fits" "Trusts.fits" q72)
  (cQ:MiK K "Trusts" "nought" "Trusts.nought" q5p)
  (cR:MiK K "Trusts" "unit" "Trusts.unit" q73)
  (cS:MiK K "Trusts" "either" "Trusts.either" q5q)
  (cT:MiK K "Trusts" "both" "Trusts.both" q74)
  (cU:MiK K "Trusts" "repeated" "Reckoning.repeated" q4r)
  (aF:CiK K "Truths")
  (cV:AiK K "Truths" "__init__" (some (some (.builtin "object.__init__"))))
  (cW:MiK K "Truths" "fits" "Truths.fits" q75)
  (cX:MiK K "Truths" "nought" "Truths.nought" q5r)
  (cY:MiK K "Truths" "unit" "Truths.unit" q76)
  (cZ:MiK K "Truths" "either" "Truths.either" q5s)
  (c0:MiK K "Truths" "both" "Truths.both" q77)
  (c1:MiK K "Truths" "repeated" "Reckoning.repeated" q4s)
  (aG:CiK K "Hands")
  (c2:AiK K "Hands" "__init__" (some (some (.builtin "object.__init__"))))
  (c3:MiK K "Hands" "fits" "Hands.fits" q88)
  (c4:MiK K "Hands" "nought" "Hands.nought" q6b)
  (c5:MiK K "Hands" "unit" "Hands.unit" q89)
  (c6:MiK K "Hands" "either" "Hands.either" q6c)
  (c7:MiK K "Hands" "both" "Hands.both" q8a)
  (c8:MiK K "Hands" "repeated" "Reckoning.repeated" q5a):Txt K mg:=
 ⟨z1x X G al,
  z1x X G am,
  z1x X G an,
  z1x X G ao,
  z1x X G ap,
  z1x X G aq,
  z1x X G ar,
  z1x X G as,
  z1x X G au,
  z1x X G av,
  z1x X G aw,
  z1x X G ax,
  z1x X G ay,
  z1x X G az,
  z1x X G bA,
  z1x X G bB,
  ⟨_,z3r X G bC⟩,
  ⟨_,z3r X G bD⟩,
  ⟨_,z3r X G bE⟩,
  ⟨_,z3r X G bF⟩,
  bG.top X G (λ _ _ _ _ _ _=>us1 λ _=>rfl),
  bH.top X G (λ _ _ _ _ _ _=>us2 λ _ _=>rfl),
  bI.top X G (λ _ _ _ _ _ _=>us1 λ _=>rfl),
  bJ.top X G (λ _ _ _ _ _ _=>us1 λ _=>rfl),
  bK.top X G (λ _ _ _ _ _ _=>us3 λ _ _ _=>rfl),
  bL.top X G (λ _ _ _ _ _ _=>us1 λ _=>rfl),
  bM.top X G (λ _ _ _ _ _ _=>us1 λ _=>rfl),
  bN.top X G (λ _ _ _ _ _ _=>us2 λ _ _=>rfl),
  bO.top X G (λ _ _ _ _ _ _=>us2 λ _ _=>rfl),
  bP.top X G (λ _ _ _ _ _ _=>us1 λ _=>rfl),
  bQ.top X G (λ _ _ _ _ _ _=>us3 λ _ _ _=>rfl),
  bR.top X G (λ _ _ _ _ _ _=>us3 λ _ _ _=>rfl),
  bS.top X G (λ _ _ _ _ _ _=>us3 λ _ _ _=>rfl),
  bT.top X G (λ _ _ _ _ _ _=>us1 λ _=>rfl),
  bU.top X G (λ _ _ _ _ _ _=>us1 λ _=>rfl),
  bV.top X G (λ _ _ _ _ _ _=>us2 λ _ _=>rfl),
  bW.top X G (λ _ _ _ _ _ _=>us2 λ _ _=>rfl),
  bX.top X G (λ _ _ _ _ _ _=>us2 λ _ _=>rfl),
  bY.top X G (λ _ _ _ _ _ _=>us1 λ _=>rfl),
  bZ.top X G (λ _ _ _ _ _ _=>us1 λ _=>rfl),
  b0.top X G (λ _ _ _ _ _ _=>us2 λ _ _=>rfl),
  b1.top X G (λ _ _ _ _ _ _=>us2 λ _ _=>rfl),
  b2.top X G (λ _ _ _ _ _ _=>us2 λ _ _=>rfl),
  b3.top X G (λ _ _ _ _ _ _=>us1 λ _=>rfl),
  b4.top X G (λ _ _ _ _ _ _=>us2 λ _ _=>rfl),
  b5.top X G (λ _ _ _ _ _ _=>us2 λ _ _=>rfl),
  b6.top X G (λ _ _ _ _ _ _=>us2 λ _ _=>rfl),
  b7.top X G (λ _ _ _ _ _ _=>us2 λ _ _=>rfl),
  b8.top X G (λ _ _ _ _ _ _=>us3 λ _ _ _=>rfl),
  b9.top X G (λ _ _ _ _ _ _=>us5 λ _ _ _ _ _=>rfl),
  ba.top X G (λ _ _ _ _ _ _=>us5 λ _ _ _ _ _=>rfl),
  bb.top X G (λ _ _ _ _ _ _=>us2 λ _ _=>rfl),
  bc.top X G (λ _ _ _ _ _ _=>us1 λ _=>rfl),
  D.g X G,
  D.cl X G,
  D.mk' X G,
  D.kp X G,
  bf.at' X G,
  bg.at' X G,
  bh.at' X G,
  bi.top X G (λ _ _ _ _ _ _=>us3 λ _ _ _=>rfl),
  J.g X G,
  J.cl X G,
  J.mk' X G,
  J.kp X G,
  bj.at' X G,
  bk.top X G (λ _ _ _ _ _ _=>us2 λ _ _=>rfl),
  bl.top X G (λ _ _ _ _ _ _=>us1 λ _=>rfl),
  bm.top X G (λ _ _ _ _ _ _=>us1 λ _=>rfl),
  bn.top X G (λ _ _ _ _ _ _=>us3 λ _ _ _=>rfl),
  bo.top X G (λ _ _ _ _ _ _=>us3 λ _ _ _=>rfl),
  bp.top X G (λ _ _ _ _ _ _=>us3 λ _ _ _=>rfl),
  O.g X G,
  O.cl X G,
  O.mk' X G,
  O.kp X G,
  bq.at' X G,
  br.top X G (λ _ _ _ _ _ _=>us2 λ _ _=>rfl),
  bs.top X G (λ _ _ _ _ _ _=>us1 λ _=>rfl),
  bt.top X G (λ _ _ _ _ _ _=>us1 λ _=>rfl),
  bu.top X G (λ _ _ _ _ _ _=>us3 λ _ _ _=>rfl),
  bv.top X G (λ _ _ _ _ _ _=>us3 λ _ _ _=>rfl),
  bw.top X G (λ _ _ _ _ _ _=>us3 λ _ _ _=>rfl),
  Z.g X G,
  Z.cl X G,
  Z.mk' X G,
  Z.kp X G,
  bx.at' X G,
  (by rw [q8t (z3r X G bd)];exact qnw bz cA cB cC ⟨_,rfl⟩ (λ s v X=>z3b X rfl aJ rfl rfl rfl) (λ s v z X=>(by first | exact .of_eq rfl | exact z3b X rfl aJ rfl rfl rfl)) (λ s v z X=>(by first | exact .of_eq rfl | exact z3b X rfl aJ rfl rfl rfl))),
  cD.top X G (λ _ _ _ _ _ _=>us2 λ _ _=>rfl),
  cE.top X G (λ _ _ _ _ _ _=>us2 λ _ _=>rfl),
  cF.top X G (λ _ _ _ _ _ _=>us1 λ _=>rfl),
  cG.top X G (λ _ _ _ _ _ _=>us1 λ _=>rfl),
  cH.top X G (λ _ _ _ _ _ _=>us3 λ _ _ _=>rfl),
  cI.top X G (λ _ _ _ _ _ _=>us3 λ _ _ _=>rfl),
  cJ.top X G (λ _ _ _ _ _ _=>us3 λ _ _ _=>rfl),
  aE.g X G,
  aE.cl X G,
  aE.mk' X G,
  aE.kp X G,
  cK.at' X G,
  (by rw [q8t (z3r X G be)];exact qnw cL cM cN cO ⟨_,rfl⟩ (λ s v X=>z3b X rfl aK rfl rfl rfl) (λ s v z X=>(by first | exact .of_eq rfl | exact z3b X rfl aK rfl rfl rfl)) (λ s v z X=>(by first | exact .of_eq rfl | exact z3b X rfl aK rfl rfl rfl))),
  cP.top X G (λ _ _ _ _ _ _=>us2 λ _ _=>rfl),
  cQ.top X G (λ _ _ _ _ _ _=>us1 λ _=>rfl),
  cR.top X G (λ _ _ _ _ _ _=>us1 λ _=>rfl),
  cS.top X G (λ _ _ _ _ _ _=>us3 λ _ _ _=>rfl),
  cT.top X G (λ _ _ _ _ _ _=>us3 λ _ _ _=>rfl),
  cU.top X G (λ _ _ _ _ _ _=>us3 λ _ _ _=>rfl),
  aF.g X G,
  aF.cl X G,
  aF.mk' X G,
  aF.kp X G,
  cV.at' X G,
  cW.top X G (λ _ _ _ _ _ _=>us2 λ _ _=>rfl),
  cX.top X G (λ _ _ _ _ _ _=>us1 λ _=>rfl),
  cY.top X G (λ _ _ _ _ _ _=>us1 λ _=>rfl),
  cZ.top X G (λ _ _ _ _ _ _=>us3 λ _ _ _=>rfl),
  c0.top X G (λ _ _ _ _ _ _=>us3 λ _ _ _=>rfl),
  c1.top X G (λ _ _ _ _ _ _=>us3 λ _ _ _=>rfl),
  aG.g X G,
  aG.cl X G,
  aG.mk' X G,
  aG.kp X G,
  c2.at' X G,
  c3.top X G (λ _ _ _ _ _ _=>us2 λ _ _=>rfl),
  c4.top X G (λ _ _ _ _ _ _=>us1 λ _=>rfl),
  c5.top X G (λ _ _ _ _ _ _=>us1 λ _=>rfl),
  c6.top X G (λ _ _ _ _ _ _=>us3 λ _ _ _=>rfl),
  c7.top X G (λ _ _ _ _ _ _=>us3 λ _ _ _=>rfl),
  c8.top X G (λ _ _ _ _ _ _=>us3 λ _ _ _=>rfl)⟩
end Wy
open PySem PySem.W PyProof.Rows
namespace PySem.W.Fast
end PySem.W.Fast
namespace PySem.W.Fast
def tw7903330462656550433:=0
def tw8139593781559990408:=0
def tw3920262440744000375:=0
def tw1036992755961984449:=0
def tw2831396026947534483:=0
def tw15587503839346798181:=0
def tw6426492691301178010:=0
def tw348020078555421568:=0
def tw15182320689000921473:=0
def tw6619601736903499827:=0
def tw3837648749328578328:=0
def tw13966186433530413947:=0
def tw119210177593317081:=0
def tw13417850622964063230:=0
def tw3082112785362134479:=0
def tw804148728270853453:=0
def tw17706888668219793493:=0
def tw2207514947364681770:=0
def tw5449319154650411212:=0
def tw13127868321274987670:=0
def tw11731259555869122031:=0
def tw2220363758097373790:=0
def tw18315736335980256833:=0
def tw10785228612417858630:=0
def tw10218378029480645286:=0
def tw8477627486253980541:=0
def tw65615660884600062:=0
def tw18413847466230977370:=0
def tw15898369654762114097:=0
def tw4304836321574407293:=0
def tw7286373836802241019:=0
def tw7898607364069099564:=0
def tw14510120893920690144:=0
def tw14681303892131825606:=0
def tw13669435283042834503:=0
def tw11247752619689508370:=0
def tw17527807183892385317:=0
def tw746419813900333746:=0
def tw2347551798629103544:=0
def tw11632319751271278640:=0
def tw8004847987469385092:=0
def tw2945024445074686714:=0
def tw15284008496047938312:=0
def tw2592375414450434525:=0
def tw4764708040283859676:=0
def tw7223540032874017034:=0
def tw13435673035437381479:=0
def tw3450620466429733047:=0
def tw14920376027828205270:=0
def tw10292728240993923954:=0
def tw11903793541957178275:=0
def tw7069505938653915611:=0
def tw17980058777925046985:=0
def tw18347037643480226052:=0
def tw4544420033329540204:=0
def tw1916457866422970258:=0
def tw4249627808535601294:=0
def tw17511898470659087860:=0
def tw17564574050659649479:=0
def tw9974603060889162613:=0
def tw14584576152872225128:=0
def tw15824703040117668253:=0
def tw12071537319955081561:=0
def tw11954744926858323580:=0
def tw2889916986969692501:=0
def tw12465127385793784975:=0
def tw7832192424424744119:=0
def tw7353580569686238107:=0
def tw4450570622403650218:=0
def tw17229775917229347736:=0
def tw9768264978949678328:=0
def tw13437075939103716355:=0
def tw17947703409327381961:=0
def tw14433588362247799520:=0
def tw921983536892391183:=0
def tw151639035797003695:=0
def tw114050444742072144:=0
def tw2830011872151350699:=0
def tw2508884900097672191:=0
def tw15056192141417659249:=0
def tw12116613044216565173:=0
def tw2652561731076746992:=0
def tw1675886585076792603:=0
def tw4742883626579465319:=0
def tw7258387601658893157:=0
def tw8949242650763570264:=0
def tw119124199074247324:=0
def tw1517196216244765605:=0
def tw15314268496546212517:=0
def tw5542047066904938170:=0
def tw15583704252858229260:=0
def tw430407277519630291:=0
def tw4063966083241984735:=0
def tw1432846366040824034:=0
def tw17249690852188929031:=0
def tw4074017346542044594:=0
def tw16239602266645040406:=0
def tw10698832495383892902:=0
def tw2305818797148795322:=0
def tw7050571089466752172:=0
def tw6060259222839519574:=0
def tw14821034130396077356:=0
def tw10277959107016302517:=0
def tw11947375106679975378:=0
def tw8579189374265344888:=0
def tw1369322791091867001:=0
def tw10023798455683035068:=0
def tw484177426625120986:=0
def tw17186561381372146277:=0
def tw6966701271885545665:=0
def tw2305911980368093289:=0
def tw11433276811544577863:=0
def tw1528060195661693851:=0
def tw3738758774294924417:=0
def tw14342837207674378320:=0
def tw10378478397985467345:=0
def tw8489993179220612386:=0
def tw6931884553414885561:=0
def tw16317788598505344326:=0
def tw16803995091203255637:=0
def tw8046337920920470034:=0
def tw1558313778004898351:=0
def tw14860638733071875583:=0
def tw11047282276806794497:=0
def tw6669671601878401816:=0
def tw10300433210539769858:=0
def tw5607535740257506162:=0
def tw12131544832719195258:=0
def tw5268058887784918087:=0
def tw10548323138194944603:=0
def tw8128375185762732708:=0
def tw17319637859277310644:=0
def tw5205150050652318058:=0
def tw1282023171494221649:=0
def tw17583336043849846663:=0
def tw8495269542483984704:=0
def tw11271273486771044568:=0
def tw13592126624783457297:=0
def tw869084708630890808:=0
def tw12425940210061822992:=0
def tw10882841678376785521:=0
def tw4160018534482454404:=0
def tw5452187278196556043:=0
def tw15842625445271474560:=0
def tw1134827100244520272:=0
def tw14279686828225906927:=0
def tw11007607410923668650:=0
def tw1813174462263491637:=0
def tw12457697489782438483:=0
def tw8078245972374523045:=0
def tw7384031839593640097:=0
def tw476010972299032289:=0
def tw3026312012051162711:=0
def tw12319896442821050220:=0
def tw14362391162299026517:=0
def tw14110265065661905658:=0
def tw7109820945290605846:=0
def tw4018924077739473183:=0
def tw3320362071125507623:=0
def tw16995691855490227975:=0
def tw299595108631387844:=0
def tw4786104973857141712:=0
def tw8085602288344921405:=0
def tw5364168346532941689:=0
def tw17537749297444845445:=0
def tw15813831655198380110:=0
def tw2852814498223310501:=0
def tw7733713348023246470:=0
def tw2520560362333978587:=0
def tw8223843115096156610:=0
def tw5933618900955885918:=0
def tw16285222518324772676:=0
def tw4799944478850764781:=0
def tw2412118595593631965:=0
def tw3064911951728524177:=0
def tw9274438075502998971:=0
def tw6257023228934007744:=0
def tw10785811055551329703:=0
def tw900568761276603787:=0
def tw5237481402256636437:=0
def tw8472322044114624280:=0
def tw3662467146631516039:=0
def tw3354912267514392142:=0
def tw4008508179575044662:=0
def tw16284612710066142851:=0
def tw4979021740694044902:=0
def tw6263534999553354226:=0
def tw17215646089373124688:=0
def tw7719945954458498902:=0
def tw15563087935086863872:=0
def tw12862755880018986031:=0
def tw13581326923858584722:=0
def tw9321073932563449153:=0
def tw17025021078270264228:=0
def tw2865564883611695952:=0
def tw13476951427060270656:=0
def tw13747017357139223225:=0
def tw2508561868425667767:=0
def tw175567136514489384:=0
def tw15086580446373857567:=0
def tw12681996130347916122:=0
def tw12391203870797151752:=0
def tw7193802101925106407:=0
def tw13214107113667099459:=0
def tw5789869061854918629:=0
def tw18265973052208780577:=0
def tw1456881522993609674:=0
def tw5694525320308685608:=0
def tw1762304179113536577:=0
def tw10592315900654239577:=0
def tw97240647049136372:=0
def tw8077972191365673550:=0
def tw12016283855122642472:=0
def tw8818086648685221915:=0
def tw1274334721876761747:=0
def tw16320204724736422559:=0
def tw6001426395898389112:=0
def tw14472238161581480379:=0
def tw17884298090139018:=0
def tw16806474031593833828:=0
def tw6699261701764864390:=0
def tw1360441794755809636:=0
def tw1899397862602066603:=0
def tw12849948505217009285:=0
def tw17316664609278400345:=0
def tw5087185165341276965:=0
def tw17794908341838954692:=0
def tw17505111030692915383:=0
def tw9514148464795217871:=0
def tw12550742855469614309:=0
def tw1636857349800244678:=0
def tw10320973956704347882:=0
def tw17099271242274672046:=0
def tw11892622013992719253:=0
def tw14852256027403204009:=0
def tw8822867840555294891:=0
def tw5368229955053635453:=0
def tw17005139258676450209:=0
def tw16932166140032583707:=0
def tw14040720793370803889:=0
def tw2084670673631829892:=0
def tw15785534736373454040:=0
def tw3719102549956903351:=0
def tw13781495302127914398:=0
def tw4700683894981745218:=0
def tw3049501844927369828:=0
def tw11703806318393053802:=0
def tw501715837591807932:=0
def tw7816348147058811291:=0
def tw15542437496538935420:=0
def tw10177173954636448594:=0
def tw10890723786827140130:=0
def tw3538782099518409113:=0
def tw13922298546267722151:=0
def tw5812931046822763730:=0
def tw10459351267679360337:=0
def tw5229425115980647325:=0
def tw177932617691568170:=0
def tw4745141133626431617:=0
def tw2550907918366850319:=0
def tw17756645128964480272:=0
def tw6107866703772280483:=0
def tw5790400217055720609:=0
def tw4527226485944690338:=0
def tw3476948563413771960:=0
def tw14313622140292870298:=0
def tw12695455719241596892:=0
end PySem.W.Fast
set_option maxRecDepth 100000 in
set_option maxHeartbeats 0 in
theorem PySem.Challenge.cw_whyrows_k31_whole_sums_and_products_reck_holds : PySem.Challenge.rw_whyrows_k31_whole_sums_and_products_reck.Holds := by
 w_on;o_law;k_head;(case hw=>w_witness2)
 k_fill
 refine L2.qtk (l:=PySem.Challenge.rw_whyrows_k31_whole_sums_and_products_reck) (n:=63) (k:=8) (x:="_law_script") (CX:=L2.CX0) (sp:=Wy.sp_law) rfl (by decide) rfl ⟨zf,by decide,by decide⟩ (λ w h Y=>PySem.W.kIn_of Y) ?F ?S ?C
 case F=>
  intro w mg fa h KX G hmg;have T:Wy.Txt (L2.KOf KX) mg:=by
   dsimp only [L2.KOf]
   refine' Wy.qm3 KX G ?_ ?_ ?_ ?_ ?_ ?_ ?_ ?_ ?_ ?_ ?_ ?_ ?_ ?_ ?_ ?_ ?_ ?_ ?_ ?_ ?_ ?_ ?_ ?_ ?_ ?_ ?_ ?_ ?_ ?_ ?_ ?_ ?_ ?_ ?_ ?_ ?_ ?_ ?_ ?_ ?_ ?_ ?_ ?_ ?_ ?_ ?_ ?_ ?_ ?_ ?_ ?_ ?_ ?_ ?_ ?_ ?_ ?_ ?_ ?_ ?_ ?_ ?_ ?_ ?_ ?_ ?_ ?_ ?_ ?_ ?_ ?_ ?_ ?_ ?_ ?_ ?_ ?_ ?_ ?_ ?_ ?_ ?_ ?_ ?_ ?_ ?_ ?_ ?_ ?_ ?_ ?_ ?_ ?_ ?_ ?_ ?_ ?_ ?_ ?_ ?_ ?_ ?_ ?_ ?_ ?_ ?_ ?_ ?_ ?_ ?_ ?_ ?_ ?_ ?_ ?_ ?_ ?_ ?_
   all_goals first | (refine' L2.fiK ?_ ?_ ?_ ?_;all_goals first | k_is | skip) | (refine' L2.miK ?_ ?_ ?_ ?_ ?_ ?_;all_goals first | k_is | skip) | (refine' L2.ciK ?_ ?_ ?_ ?_ ?_ ?_ ?_;all_goals first | k_is | skip) | (refine' L2.aiK ?_ ?_;all_goals first | k_is | skip) | k_is | skip
  exact Wy.q10l T hmg
 case S=>exact λ K H a ns hl hO hS=>⟨a,ns,rfl,hS,hl,λ _=>rfl⟩
 case C=>exact λ _ _ _ _ z=>z
