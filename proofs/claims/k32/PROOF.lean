import PyProof.Rows.All
import Wide.All
import OpenK.AllK
import PySem.Challenge.RW_whyrows_k32_whole_filled_and_reckoned
set_option Elab.async false
set_option linter.all false
set_option maxRecDepth 100000
set_option maxHeartbeats 4000000
set_option genSizeOf false
abbrev xD:=List PySem.Str
abbrev xE:=PySem.Str->Option PySem.Value
abbrev xF:=List (List PySem.Str)
abbrev xG:=List (PySem.Addr×PySem.Obj)
abbrev xH:=List PySem.Value
abbrev xA:=PySem.W.Frag
abbrev xB:=PySem.Value->PySem.Shared->Prop
def zr {α:Sort u} {a:α}:a=a:=rfl
def z00:=@PySem.F.slot_dict_keyiterator_next
def z01:=@PySem.wpAny_typeNameOfWhole_keyiter
def z02:=@Int.mul_le_mul_of_nonneg_left
def z03:=@PyProof.Rows.callWith_type1
def z04:=@Array.perm_iff_toList_perm
def z05:=@List.getElem?_append_right
def z06:=@List.getD_eq_getElem?_getD
def z07:=@List.getElem?_eq_some_iff
def z08:=@List.pairwise_iff_getElem
def z09:=@List.drop_eq_getElem_cons
def z0a:=@List.extract_eq_take_drop
def z0b:=@Array.getElem?_eq_getElem
def z0c:=@List.mem_of_find?_eq_some
def z0d:=@List.getElem?_eq_getElem
def z0e:=@PySem.F.slot_list_extend
def z0f:=@PySem.F.type_list_extend
def z0g:=@PySem.F.slot_list_append
def z0h:=@PySem.F.type_list_append
def z0i:=@List.pairwise_singleton
def z0j:=@PySem.F.plain_list_iadd
def z0k:=@List.length_eq_zero_iff
def z0l:=@PySem.F.plainAttrs_list
def z0m:=@Int.eq_ofNat_of_zero_le
def z0n:=@List.take_of_length_le
def z0o:=@PySem.Heap.get?_push_of_some
def z0p:=@PySem.Heap.get?_update_other
def z0q:=@Option.map_eq_some_iff
def z0r:=@Array.getElem?_eq_none
def z0s:=@List.find?_cons_of_pos
def z0t:=@List.find?_cons_of_neg
def z0u:=@List.perm_append_comm
def z0v:=@List.take_append_drop
def z0w:=@List.mem_append_right
def z0x:=@Array.getElem?_toList
def z0y:=@List.length_singleton
def z0z:=@PySem.Heap.get?_update_self
def z10:=@List.length_filter_le
def z11:=@List.pairwise_append
def z12:=@List.mem_iff_getElem
def z13:=@Array.toList_extract
def z14:=@List.mem_of_mem_drop
def z15:=@List.mem_of_mem_take
def z16:=@List.mem_cons_of_mem
def z17:=@List.mem_append_left
def z18:=@List.mem_of_getElem?
def z19:=@Array.length_toList
def z1a:=@Array.toList_append
def z1b:=@PySem.Heap.SameBut.update
def z1c:=@PySem.Heap.get?_push_size
def z1d:=@PySem.mem_of_lookup
def z1e:=@List.replicate_succ
def z1f:=@List.map_congr_left
def z1g:=@List.toList_toArray
def z1h:=@PySem.wpAny_setEntries_of
def z1i:=@List.getElem_of_mem
def z1j:=@List.flatMap_append
def z1k:=@Bool.false_eq_true
def z1l:=@Bool.false_ne_true
def z1m:=@List.mem_singleton
def z1n:=@Array.size_extract
def z1o:=@List.length_append
def z1p:=@List.mem_cons_self
def z1q:=@List.pairwise_cons
def z1r:=@Nat.lt_of_lt_of_le
def z1s:=@PySem.wpAny_Call_Name_kw
def z1t:=@List.zip_cons_cons
def z1u:=@List.filter_append
def z1v:=@Int.lt_of_le_of_lt
def z1w:=@Int.emod_lt_of_pos
def z1x:=@PySem.W.mg_none_of
def z1y:=@List.append_assoc
def z1z:=@List.getElem_take
def z20:=@Array.toList_push
def z21:=@List.ext_getElem?
def z22:=@List.getElem?_map
def z23:=@List.size_toArray
def z24:=@PySem.wpAny_truthy_bool
def z25:=@PySem.wpAny_pyIter_list
def z26:=@Int.toNat_natCast
def z27:=@List.flatten_cons
def z28:=@PySem.wpAny_newObj_type
def z29:=@List.length_range
def z2a:=@PySem.wpAny_dictEntries
def z2b:=@List.mapM_toArray
def z2c:=@PySem.wpAny_setState_of
def z2d:=@List.nodup_append
def z2e:=@Nat.lt_succ_of_lt
def z2f:=@List.foldl_append
def z2g:=@List.length_take
def z2h:=@List.length_drop
def z2i:=@List.length_cons
def z2j:=@List.filter_cons
def z2k:=@List.getElem_mem
def z2l:=@Nat.lt_succ_self
def z2m:=@Bool.and_eq_true
def z2n:=@List.all_eq_true
def z2o:=@PySem.wpAny_call_entry
def z2p:=@List.any_eq_true
def z2q:=@Nat.succ_le_succ
def z2r:=@List.not_mem_nil
def z2s:=@PySem.wpAny_askSetting
def z2t:=@List.take_length
def z2u:=@List.mem_append
def z2v:=@List.cons.injEq
def z2w:=@decide_eq_false
def z2x:=@List.mem_filter
def z2y:=@PySem.wpAny_passesOwn
def z2z:=@Bool.eq_iff_iff
def z30:=@List.length_map
def z31:=@List.append_nil
def z32:=@List.nodup_cons
def z33:=@List.find?_cons
def z34:=@List.length_nil
def z35:=@List.range_succ
def z36:=@List.map_append
def z37:=@PySem.W.kia_one
def z38:=@PySem.wpAny_dictEpoch
def z39:=@PySem.codeAny_builtin
def z3a:=@Int.emod_nonneg
def z3b:=@PySem.W.binds_K
def z3c:=@decide_eq_true
def z3d:=@List.mem_range
def z3e:=@Bool.false_and
def z3f:=@PySem.Heap.size_push
def z3g:=@List.nodup_nil
def z3h:=@List.take_succ
def z3i:=@PySem.wpAny_setField
def z3j:=@Nat.mul_le_mul
def z3k:=@Int.mul_nonneg
def z3l:=@List.map_cons
def z3m:=@PySem.wpAny_attempt
def z3n:=@List.mem_cons
def z3o:=@PySem.wpAny_holding
def z3p:=@Nat.lt_irrefl
def z3q:=@List.any_cons
def z3r:=@PySem.W.mg_of
def z3s:=@List.sum_cons
def z3t:=@Bool.true_and
def z3u:=@decide_false
def z3v:=@Int.le_of_lt
def z3w:=@Int.le_trans
def z3x:=@Nat.zero_add
def z3y:=@Nat.le_of_lt
def z3z:=@PySem.Heap.lt_size
def z40:=@Nat.ne_of_lt
def z41:=@Nat.le_trans
def z42:=@Nat.ne_of_gt
def z43:=@PySem.codeAny_mono
def z44:=@List.map_nil
def z45:=@List.mem_map
def z46:=@List.all_map
def z47:=@List.map_map
def z48:=@Nat.le_refl
def z49:=@decide_true
def z4a:=@Int.le_refl
def z4b:=@Nat.zero_le
def z4c:=@List.map_id
def z4d:=@PySem.wpAny_rule
def z4e:=@PySem.wpAny_pure
def z4f:=@PySem.wpAny_bind
def z4g:=@PySem.wpAny_mono
namespace Tim
open PySem PyProof.Rows
def kx (rk:Keyed ->Int) (xs:Array Keyed) (i:Nat):Int:=match xs[i]? with
 | some p=>rk p
 | none=>0
def Up (rk:Keyed ->Int) (xs:Array Keyed) (lo hi:Nat):Prop:=∀ i j,lo<=i ->i<=j ->j < hi ->kx rk xs i<=kx rk xs j
def Dn (rk:Keyed ->Int) (xs:Array Keyed) (lo hi:Nat):Prop:=∀ i j,lo<=i ->i<=j ->j < hi ->kx rk xs j<=kx rk xs i
def q3m {rk:Keyed ->Int} {xs:Array Keyed} {i:Nat} {p:Keyed} (h:xs[i]? =some p):kx rk xs i=rk p:=by unfold kx;rw [h]
def q5e {rk:Keyed ->Int} {xs ys:Array Keyed} {i j:Nat} (h:xs[i]? =ys[j]?):kx rk xs i=kx rk ys j:=by unfold kx;rw [h]
def LtOk (M:Model) (A:Around) (E:xB) (s:Shared) (kd:SortKind) (S:Keyed ->Prop) (rk:Keyed ->Int):Prop:=
 ∀ (x y:Keyed) (st:SortSt) (Q:Option Bool ->SortSt ->Prop),S x ->S y ->kindOf st=kd ->Q (some (decide (rk x < rk y))) st ->wpS M A E s (lt' x y) Q st
structure Mv (lo hi:Nat) (st st':SortSt):Prop where
 perm:(arrOf st').Perm (arrOf st)
 out:∀ k,k < lo\/ hi<=k ->(arrOf st')[k]? =(arrOf st)[k]?
 kind:kindOf st'=kindOf st
 pend:pendingOf st'=pendingOf st
 failed:failedOf st'=failedOf st
theorem Mv.refl (lo hi:Nat) (st:SortSt):Mv lo hi st st:=⟨Array.Perm.refl _,λ _ _=>rfl,rfl,rfl,rfl⟩
theorem Mv.trans {lo hi:Nat} {a b c:SortSt} (h:Mv lo hi a b) (k:Mv lo hi b c):Mv lo hi a c:=
 ⟨k.perm.trans h.perm,λ i hi=>(k.out i hi).trans (h.out i hi),k.kind.trans h.kind,k.pend.trans h.pend,k.failed.trans h.failed⟩
theorem Mv.size {lo hi:Nat} {a b:SortSt} (h:Mv lo hi a b):(arrOf b).size=(arrOf a).size:=h.perm.size_eq
structure Sane (kd:SortKind) (S:Keyed ->Prop) (n:Nat) (st:SortSt):Prop where
 size:(arrOf st).size=n
 all:∀ p∈(arrOf st).toList,S p
 kind:kindOf st=kd
 failed:failedOf st=none
def Mv.sane {lo hi:Nat} {a b:SortSt} {kd:SortKind} {S:Keyed ->Prop} {n:Nat} (h:Mv lo hi a b) (k:Sane kd S n a):Sane kd S n b:=
 ⟨h.size.trans k.size,λ p hp=>k.all p ((z04.mp h.perm).mem_iff.mp hp),h.kind.trans k.kind,h.failed.trans k.failed⟩
def Sane.at {kd:SortKind} {S:Keyed ->Prop} {n:Nat} {st:SortSt} (rk:Keyed ->Int) (k:Sane kd S n st) {i:Nat} (hi:i < n):∃ p,(arrOf st)[i]? =some p/\S p/\kx rk (arrOf st) i=rk p:=by
 have J:i < (arrOf st).size:=by rw [k.size];exact hi
 have e:(arrOf st)[i]? =some (arrOf st)[i]:=getElem?_pos _ i J;exact ⟨_,e,k.all _ (by simp),q3m e⟩
def Mv.mirrored {lo hi i j:Nat} {st:SortSt} (h1:lo<=i) (h2:j<=hi) (hj:j<=(arrOf st).size):Mv lo hi st (setArr st (mirror (arrOf st) i j ((j - i) / 2))):=
 ⟨mirror_perm _ _ _ _,λ k hk=>(getElem?_mirror_all (i:=i) hj k).trans (if_neg (by lia)),rfl,rfl,rfl⟩
def Mv.sunk {lo hi J d:Nat} {st:SortSt} (h1:lo+d<=J) (h2:J < hi) (hs:J < (arrOf st).size):Mv lo hi st (setArr st (bubble (arrOf st) J d)):=
 ⟨bubble_perm _ _ _,λ k hk=>(getElem?_bubble hs d (by lia) k).trans (by rw [if_neg (by lia),if_neg (by lia)]),rfl,rfl,rfl⟩
def qb6 (rk:Keyed ->Int) {xs:Array Keyed} {i j:Nat} (hj:j<=xs.size) (k:Nat):
  kx rk (mirror xs i j ((j - i) / 2)) k=if i<=k/\k < j then kx rk xs (i+j - 1 - k) else kx rk xs k:=by
 have e:=getElem?_mirror_all (i:=i) hj k;by_cases c:i<=k/\k < j
 ·rw [if_pos c] at e ⊢;exact q5e e
 ·rw [if_neg c] at e ⊢;exact q5e e
def q32 (rk:Keyed ->Int) {xs:Array Keyed} {i j:Nat} (hj:j<=xs.size) (J:∀ k,i<=k ->k < j ->kx rk xs k=kx rk xs (j - 1)) (k:Nat):
  kx rk (mirror xs i j ((j - i) / 2)) k=kx rk xs k:=by
 rw [qb6 rk hj];by_cases c:i<=k/\k < j
 ·rw [if_pos c,J _ (by lia) (by lia),J k c.1 c.2]
 ·rw [if_neg c]
def qhv (rk:Keyed ->Int) {xs:Array Keyed} {J d:Nat} (hs:J < xs.size) (hd:d<=J) (k:Nat):
  kx rk (bubble xs J d) k=if k=J - d then kx rk xs J else if J - d < k/\k<=J then kx rk xs (k - 1) else kx rk xs k:=by
 have e:=getElem?_bubble hs d hd k;by_cases c:k=J - d
 ·rw [if_pos c] at e ⊢;exact q5e e
 ·rw [if_neg c] at e ⊢;by_cases c2:J - d < k/\k<=J
  ·rw [if_pos c2] at e ⊢;exact q5e e
  ·rw [if_neg c2] at e ⊢;exact q5e e
section
variable {M:Model} {A:Around} {E:xB} {s:Shared} {kd:SortKind} {S:Keyed ->Prop} {rk:Keyed ->Int} {n:Nat}
def qb7 (L:LtOk M A E s kd S rk) {st:SortSt} (B:Sane kd S n st) {i j:Nat} (hi:i < n) (hj:j < n) {Q:Option Bool ->SortSt ->Prop}
  (h:Q (some (decide (kx rk (arrOf st) i < kx rk (arrOf st) j))) st):wpS M A E s (ltAt' i j) Q st:=by
 obtain ⟨p,e1,s1,k1⟩:=B.at rk hi;obtain ⟨q,e2,s2,k2⟩:=B.at rk hj;rw [k1,k2] at h;rw [ltAt'_eq];refine wpS_bind (wpS_get ?_);show wpS M A E s (elem' (arrOf st) i >>=λ x=>elem' (arrOf st) j >>=λ y=>lt' x y) Q st;rw [elem'_eq,elem'_eq,e1,e2];exact wpS_bind (wpS_pure (wpS_bind (wpS_pure (L p q st Q s1 s2 B.kind h))))
def q8s {st:SortSt} {i j:Nat} {Q:Unit ->SortSt ->Prop} (h:Q () (setArr st (mirror (arrOf st) i j ((j - i) / 2)))):wpS M A E s (reverseSlice' i j) Q st:=by
 rw [reverseSlice'_eq];exact wpS_modify h
def qb8 (lo a nrem:Nat):StateT SortSt Sem AscSt:=
 forIn [a:nrem] ((none,a):AscSt) λ _ c=>do
  let x <- ltAt' (lo+c.snd) (lo+c.snd - 1)
  match x with
  | some b=>if b=true then pure (ForInStep.done (none,c.snd)) else pure (ForInStep.yield (none,c.snd+1))
  | _=>pure (ForInStep.done (some none,c.snd))
def qb9 (lo m nrem:Nat):StateT SortSt Sem (Option Nat):=do
 reverseSlice' lo (lo+m)
 let c <- qb8 lo m nrem
 match c.fst with
 | some r=>pure r
 | none=>pure (some c.snd)
def qev (lo m nrem:Nat):StateT SortSt Sem DescSt:=
 forIn [m:nrem] ((none,m,0):DescSt) λ _ c=>do
  let x <- ltAt' (lo+c.snd.fst) (lo+c.snd.fst - 1)
  match x with
  | some b=>
   if b=true then
    if c.snd.snd > 0 then do
     reverseSlice' (lo+c.snd.fst - (c.snd.snd+1)) (lo+c.snd.fst)
     pure (ForInStep.yield (none,c.snd.fst+1,0))
    else pure (ForInStep.yield (none,c.snd.fst+1,0))
   else do
    let y <- ltAt' (lo+c.snd.fst - 1) (lo+c.snd.fst)
    match y with
    | some g=>if g=true then pure (ForInStep.done (none,c.snd.fst,c.snd.snd)) else pure (ForInStep.yield (none,c.snd.fst+1,c.snd.snd+1))
    | _=>pure (ForInStep.done (some none,c.snd.fst,c.snd.snd))
  | _=>pure (ForInStep.done (some none,c.snd.fst,c.snd.snd))
def qba (lo m nrem:Nat):StateT SortSt Sem (Option Nat):=do
 liftM (rule "list.sort.descending-run")
 let c <- qev lo (m+1) nrem
 match c.fst with
 | some r=>pure r
 | none=>
  if c.snd.snd > 0 then do
   reverseSlice' (lo+c.snd.fst - (c.snd.snd+1)) (lo+c.snd.fst)
   qb9 lo c.snd.fst nrem
  else qb9 lo c.snd.fst nrem
def qnj (lo J:Nat):countRun' lo J=(do
  let c <- qb8 lo 1 J
  match c.fst with
  | some r=>pure r
  | none=>
   if (c.snd==J)=true then pure (some c.snd)
   else if c.snd > 1 then do
    let x <- ltAt' lo (lo+c.snd - 1)
    match x with
    | some O=>if O=true then pure (some c.snd) else do
      reverseSlice' lo (lo+c.snd)
      qba lo c.snd J
    | _=>pure none
   else qba lo c.snd J):=by
 rw [countRun'_eq]
 dsimp only
 unfold qba qb9 qev qb8
 congr 1
 funext c
 obtain ⟨r,m⟩:=c;cases r with
 | some r=>rfl
 | none=>
  dsimp only
  split
  ·rfl
  ·split
   ·congr 1
    funext x
    cases x with
    | none=>rfl
    | some O=>
     dsimp only
     split
     ·rfl
     ·congr 1
      funext _u
      congr 1
      funext _v
      congr 1
      congr 1
      funext c2
      obtain ⟨r2,n2,q2⟩:=c2;cases r2 with
      | some r2=>rfl
      | none=>
       dsimp only
       split
       ·congr 1
        funext _w
        congr 1
        funext _z
        congr 1
        funext c3
        obtain ⟨r3,Z⟩:=c3;cases r3 <;> rfl
       ·congr 1
        funext _z
        congr 1
        funext c3
        obtain ⟨r3,Z⟩:=c3;cases r3 <;> rfl
   ·congr 1
    funext _v
    congr 1
    congr 1
    funext c2
    obtain ⟨r2,n2,q2⟩:=c2;cases r2 with
    | some r2=>rfl
    | none=>
     dsimp only
     split
     ·congr 1
      funext _w
      congr 1
      funext _z
      congr 1
      funext c3
      obtain ⟨r3,Z⟩:=c3;cases r3 <;> rfl
     ·congr 1
      funext _z
      congr 1
      funext c3
      obtain ⟨r3,Z⟩:=c3;cases r3 <;> rfl
def qkk (L:LtOk M A E s kd S rk) {st:SortSt} {lo a J:Nat} {Q:AscSt ->SortSt ->Prop} (B:Sane kd S n st) (hn:lo+J<=n) (ha:1<=a) (a1:a<=J) (hs:Up rk (arrOf st) lo (lo+a))
  (h:∀ m,a<=m ->m<=J ->Up rk (arrOf st) lo (lo+m) ->(m=J\/ kx rk (arrOf st) (lo+m) < kx rk (arrOf st) (lo+m - 1)) ->Q (none,m) st):wpS M A E s (qb8 lo a J) Q st:=by
 unfold qb8;refine wpS_forRange (I:=λ x c a0=>a0=st/\c=(none,x)/\Up rk (arrOf st) lo (lo+x)) ?turn ?last ⟨zr,zr,hs⟩
 case last=>
  rintro c a0 ⟨rfl,rfl,Z⟩;have e:max a J=J:=by lia
  rw [e] at Z ⊢;exact h J a1 (z48 _) Z (.inl rfl)
 case turn=>
  rintro x c a0 a2 hxn ⟨rfl,rfl,Z⟩
  dsimp only
  refine wpS_bind (qb7 L B (by lia) (by lia) ?_);by_cases O:kx rk (arrOf a0) (lo+x) < kx rk (arrOf a0) (lo+x - 1)
  ·simp only [O,z49,if_true];exact wpS_pure (h x a2 (by lia) Z (.inr O))
  ·simp only [O,z3u,z1k,if_false];refine wpS_pure ⟨zr,zr,λ i j h1 h2 h3=> ?_⟩;by_cases hj:j < lo+x
   ·exact Z i j h1 h2 hj
   ·have a3:j=lo+x:=by lia
    subst a3;by_cases hi:i=lo+x
    ·subst hi
     lia
    ·have:=Z i (lo+x - 1) h1 (by lia) (by lia)
     lia
def qkl (L:LtOk M A E s kd S rk) {st:SortSt} {lo m J:Nat} {Q:Option Nat ->SortSt ->Prop} (B:Sane kd S n st) (hn:lo+J<=n) (h1:1<=m) (hm:m<=J) (hs:Dn rk (arrOf st) lo (lo+m))
  (h:∀ k O,Mv lo (lo+J) st O ->1<=k ->k<=J ->Up rk (arrOf O) lo (lo+k) ->Q (some k) O):wpS M A E s (qb9 lo m J) Q st:=by
 unfold qb9;have hz:lo+m<=(arrOf st).size:=by rw [B.size];lia
 have v:Mv lo (lo+J) st (setArr st (mirror (arrOf st) lo (lo+m) ((lo+m - lo) / 2))):=Mv.mirrored (z48 _) (by lia) hz;refine wpS_bind (q8s (wpS_bind (qkk L (v.sane B) hn h1 hm ?_ λ k k1 k2 k3 _=>wpS_pure (h k _ v (by lia) k2 k3))));intro i j a b c;show kx rk (mirror (arrOf st) lo (lo+m) ((lo+m - lo) / 2)) i<=kx rk (mirror (arrOf st) lo (lo+m) ((lo+m - lo) / 2)) j;rw [qb6 rk hz,qb6 rk hz,if_pos (by lia),if_pos (by lia)];exact hs _ _ (by lia) (by lia) (by lia)
def que (L:LtOk M A E s kd S rk) {st:SortSt} {lo m O:Nat} {Q:DescSt ->SortSt ->Prop} (B:Sane kd S n st) (hn:lo+O<=n) (h1:1<=m) (hm:m<=O) (hs:Dn rk (arrOf st) lo (lo+m))
  (h:∀ k q J,Mv lo (lo+O) st J ->m<=k ->k<=O ->Dn rk (arrOf J) lo (lo+k) ->q+1<=k ->(∀ i,lo+k - (q+1)<=i ->i < lo+k ->kx rk (arrOf J) i=kx rk (arrOf J) (lo+k - 1)) ->Q (none,k,q) J):
  wpS M A E s (qev lo m O) Q st:=by
 unfold qev;refine wpS_forRange (I:=λ x c J=>∃ q,c=(none,x,q)/\Mv lo (lo+O) st J/\Dn rk (arrOf J) lo (lo+x)/\q+1<=x/\
  (∀ i,lo+x - (q+1)<=i ->i < lo+x ->kx rk (arrOf J) i=kx rk (arrOf J) (lo+x - 1))) ?turn ?last ⟨0,rfl,Mv.refl _ _ _,hs,by lia,λ i a b=>by rw [show i=lo+m - 1 by lia]⟩
 case last=>
  rintro c J ⟨q,rfl,v,Z,hq,he⟩;have e:max m O=O:=by lia
  rw [e] at Z hq he ⊢;exact h O q J v hm (z48 _) Z hq he
 case turn=>
  rintro x c J a4 hxn ⟨q,rfl,v,Z,hq,he⟩
  dsimp only
  have B':=v.sane B;have hz:lo+x<=(arrOf J).size:=by rw [B'.size];lia
  refine wpS_bind (qb7 L B' (by lia) (by lia) ?_);by_cases a0:kx rk (arrOf J) (lo+x) < kx rk (arrOf J) (lo+x - 1)
  ·simp only [a0,z49,if_true];have more:∀ xs:Array Keyed,(∀ k,kx rk xs k=kx rk (arrOf J) k) ->Dn rk xs lo (lo+(x+1)):=by
    intro xs hk i j a b c;rw [hk,hk];by_cases hj:j < lo+x
    ·exact Z i j a b hj
    ·have a2:j=lo+x:=by lia
     subst a2;by_cases hi:i=lo+x
     ·subst hi
      lia
     ·have:=Z i (lo+x - 1) a (by lia) (by lia)
      lia
   by_cases a3:q > 0
   ·rw [if_pos a3];exact wpS_bind (q8s (wpS_pure ⟨0,zr,v.trans (Mv.mirrored (by lia) (by lia) hz),more _ (q32 rk hz he),by lia,λ i a b=>by rw [show i=lo+(x+1) - 1 by lia]⟩))
   ·rw [if_neg a3];exact wpS_pure ⟨0,zr,v,more _ (λ _=>rfl),by lia,λ i a b=>by rw [show i=lo+(x+1) - 1 by lia]⟩
  ·simp only [a0,z3u,z1k,if_false];refine wpS_bind (qb7 L B' (by lia) (by lia) ?_);by_cases a1:kx rk (arrOf J) (lo+x - 1) < kx rk (arrOf J) (lo+x)
   ·simp only [a1,z49,if_true];exact wpS_pure (h x q J v a4 (by lia) Z hq he)
   ·simp only [a1,z3u,z1k,if_false];have ex:kx rk (arrOf J) (lo+x)=kx rk (arrOf J) (lo+x - 1):=by lia
    refine wpS_pure ⟨q+1,zr,v,λ i j a b c=> ?_,by lia,λ i a b=> ?_⟩
    ·by_cases hj:j < lo+x
     ·exact Z i j a b hj
     ·have a2:j=lo+x:=by lia
      subst a2;by_cases hi:i=lo+x
      ·subst hi
       lia
      ·have:=Z i (lo+x - 1) a (by lia) (by lia)
       lia
    ·rw [show lo+(x+1) - 1=lo+x by lia];by_cases hi:i=lo+x
     ·rw [hi]
     ·rw [ex];exact he i (by lia) (by lia)
def qkm (L:LtOk M A E s kd S rk) {st:SortSt} {lo m O:Nat} {Q:Option Nat ->SortSt ->Prop} (B:Sane kd S n st) (hn:lo+O<=n) (hm:m+1<=O) (hs:Dn rk (arrOf st) lo (lo+(m+1)))
  (h:∀ k J,Mv lo (lo+O) st J ->1<=k ->k<=O ->Up rk (arrOf J) lo (lo+k) ->Q (some k) J):wpS M A E s (qba lo m O) Q st:=by
 unfold qba;refine wpS_bind (wpS_lift (z4d ⟨zr,?_⟩));refine wpS_bind (que L B hn (by lia) hm hs λ k q J v k1 k2 a1 hq he=> ?_)
 dsimp only
 have B':=v.sane B;have hz:lo+k<=(arrOf J).size:=by rw [B'.size];lia
 by_cases a0:q > 0
 ·rw [if_pos a0];have v2:Mv lo (lo+O) J (setArr J (mirror (arrOf J) (lo+k - (q+1)) (lo+k) ((lo+k - (lo+k - (q+1))) / 2))):=Mv.mirrored (by lia) (by lia) hz;refine wpS_bind (q8s (qkl L (v2.sane B') hn (by lia) k2 ?_ λ j Z v3=>h j Z ((v.trans v2).trans v3)));intro i j a b c;show kx rk (mirror (arrOf J) (lo+k - (q+1)) (lo+k) ((lo+k - (lo+k - (q+1))) / 2)) j<=kx rk (mirror (arrOf J) (lo+k - (q+1)) (lo+k) ((lo+k - (lo+k - (q+1))) / 2)) i;rw [q32 rk hz he,q32 rk hz he];exact a1 i j a b c
 ·rw [if_neg a0];exact qkl L B' hn (by lia) k2 a1 λ j Z v3=>h j Z (v.trans v3)
def qpo (L:LtOk M A E s kd S rk) {st:SortSt} {lo J:Nat} {Q:Option Nat ->SortSt ->Prop} (B:Sane kd S n st) (hn:lo+J<=n) (h1:1<=J)
  (h:∀ k a0,Mv lo (lo+J) st a0 ->1<=k ->k<=J ->Up rk (arrOf a0) lo (lo+k) ->Q (some k) a0):wpS M A E s (countRun' lo J) Q st:=by
 rw [qnj];refine wpS_bind (qkk L B hn (z48 1) h1 (λ i j a b c=>by rw [show i=j by lia];exact z4a _) λ m m1 m2 hs a6=> ?_)
 dsimp only
 by_cases hm:m=J
 ·rw [if_pos (by simpa using hm)];exact wpS_pure (h m st (Mv.refl _ _ _) m1 m2 hs)
 ·rw [if_neg (by simpa using hm)];have a4:=a6.resolve_left hm;by_cases hg:m > 1
  ·rw [if_pos hg];refine wpS_bind (qb7 L B (by lia) (by lia) ?_);by_cases O:kx rk (arrOf st) lo < kx rk (arrOf st) (lo+m - 1)
   ·simp only [O,z49,if_true];exact wpS_pure (h m st (Mv.refl _ _ _) m1 m2 hs)
   ·simp only [O,z3u,z1k,if_false];have hz:lo+m<=(arrOf st).size:=by rw [B.size];lia
    have Z:∀ k,lo<=k ->k < lo+m ->kx rk (arrOf st) k=kx rk (arrOf st) (lo+m - 1):=by
     intro k a b;have a1:=hs lo k (z48 _) a b;have a2:=hs k (lo+m - 1) a (by lia) (by lia)
     lia
    have v:Mv lo (lo+J) st (setArr st (mirror (arrOf st) lo (lo+m) ((lo+m - lo) / 2))):=Mv.mirrored (z48 _) (by lia) hz;refine wpS_bind (q8s (qkm L (v.sane B) hn (by lia) ?_ λ j a7 v3=>h j a7 (v.trans v3)));intro i j a b c;show kx rk (mirror (arrOf st) lo (lo+m) ((lo+m - lo) / 2)) j<=kx rk (mirror (arrOf st) lo (lo+m) ((lo+m - lo) / 2)) i;rw [q32 rk hz Z,q32 rk hz Z];by_cases hj:j < lo+m
    ·rw [Z i a (by lia),Z j (by lia) hj];exact z4a _
    ·have a3:j=lo+m:=by lia
     subst a3;by_cases hi:i=lo+m
     ·subst hi
      lia
     ·rw [Z i a (by lia)]
      lia
  ·rw [if_neg hg];have a5:m=1:=by lia
   subst a5;refine qkm L B hn (by lia) ?_ h;intro i j a b c;by_cases hi:i=j
   ·rw [hi];exact z4a _
   ·have e1:i=lo:=by lia
    have e2:j=lo+1:=by lia
    subst e1 e2;have:i+1 - 1=i:=by lia
    rw [this] at a4
    lia
def qkn (L:LtOk M A E s kd S rk) {st:SortSt} {lo m ok:Nat} {Q:Bool ->SortSt ->Prop} (B:Sane kd S n st) (hn:lo+m<=n) (hok:ok<=m) (hs:Up rk (arrOf st) lo (lo+ok))
    (h:∀ J,Mv lo (lo+m) st J ->Up rk (arrOf J) lo (lo+m) ->Q true J):wpS M A E s (binarySort' lo m ok) Q st:=by
  rw [binarySort'_eq];refine wpS_bind (wpS_mono (wpS_forRange (I:=λ k c J=>c=(none,())/\Mv lo (lo+m) st J/\Up rk (arrOf J) lo (lo+min k m))
    (Q:=λ c J=>c=(none,())/\Mv lo (lo+m) st J/\Up rk (arrOf J) lo (lo+m)) ?turn ?last ?first) ?after)
  case after=>
    rintro c J ⟨rfl,v,Z⟩;exact wpS_pure (h J v Z)
  case first=>
    refine ⟨zr,Mv.refl _ _ _,λ i j a b c=> ?_⟩;by_cases h0:ok=0
    · rw [show i=j by lia]
      exact z4a _
    · exact hs i j a b (by lia)
  case last=>
    rintro c J ⟨hc,v,Z⟩;refine ⟨hc,v,?_⟩
    rwa [show min (max (max ok 1) m) m=m by lia] at Z
  case turn=>
    rintro k c J hak hkm ⟨rfl,v,Z⟩;have e0:min k m=k:=by lia
    rw [e0] at Z;have B':=v.sane B;refine wpS_bind (wpS_mono (wpS_forRange (I:=λ x c O=>O=J/\∃ l r,c=(none,l,r)/\l<=r/\r<=k/\r - l<=k - x/\
        (∀ i,i < l ->kx rk (arrOf J) (lo+i)<=kx rk (arrOf J) (lo+k))/\(∀ i,r<=i ->i < k ->kx rk (arrOf J) (lo+k) < kx rk (arrOf J) (lo+i)))
      (Q:=λ c O=>O=J/\∃ l r,c=(none,l,r)/\l<=k/\
        (∀ i,i < l ->kx rk (arrOf J) (lo+i)<=kx rk (arrOf J) (lo+k))/\(∀ i,l<=i ->i < k ->kx rk (arrOf J) (lo+k) < kx rk (arrOf J) (lo+i))) ?iturn ?ilast ?ifirst) ?iafter)
    case ifirst=>exact ⟨rfl,0,k,rfl,by lia,by lia,by lia,λ i hi=>by lia,λ i a b=>by lia⟩
    case ilast=>
      rintro c O ⟨rfl,l,r,rfl,a6,a3,hd,a1,a0⟩;have e:l=r:=by lia
      subst e;exact ⟨zr,l,l,zr,a3,a1,a0⟩
    case iturn=>
      rintro x c O _ hxk ⟨rfl,l,r,rfl,a6,a3,hd,a1,a0⟩
      dsimp only
      by_cases a4:l >=r
      · rw [if_pos a4]
        have e:l=r:=by lia
        subst e;exact wpS_pure ⟨zr,l,l,zr,a3,a1,a0⟩
      · rw [if_neg a4]
        refine wpS_bind (qb7 L B' (by lia) (by lia) ?_);by_cases a2:kx rk (arrOf O) (lo+k) < kx rk (arrOf O) (lo+(l+r) / 2)
        · simp only [a2,z49,if_true]
          refine wpS_pure ⟨zr,l,(l+r) / 2,zr,by lia,by lia,by lia,a1,λ i a b=> ?_⟩;have:=Z (lo+(l+r) / 2) (lo+i) (by lia) (by lia) (by lia)
          lia
        · simp only [a2,z3u,z1k,if_false]
          refine wpS_pure ⟨zr,(l+r) / 2+1,r,zr,by lia,by lia,by lia,λ i a=> ?_,a0⟩;have:=Z (lo+i) (lo+(l+r) / 2) (by lia) (by lia) (by lia)
          lia
    case iafter=>
      rintro c O ⟨rfl,l,r,rfl,hlk,a1,a0⟩;show wpS M A E s (moveDown' (lo+k) (lo+l) >>=λ _=>pure (ForInStep.yield (none,()))) _ O;rw [moveDown'_eq];have hz:lo+k < (arrOf O).size:=by rw [B'.size];lia
      refine wpS_bind (wpS_modify (wpS_pure ⟨zr,v.trans (Mv.sunk (by lia) (by lia) hz),?_⟩));rw [show min (k+1) m=k+1 by lia];intro i j a b c;show kx rk (bubble (arrOf O) (lo+k) (lo+k - (lo+l))) i<=kx rk (bubble (arrOf O) (lo+k) (lo+k - (lo+l))) j;rw [qhv rk hz (by lia),qhv rk hz (by lia),show lo+k - (lo+k - (lo+l))=lo+l by lia];have a7:∀ q,lo<=q ->q < lo+l ->kx rk (arrOf O) q<=kx rk (arrOf O) (lo+k):=λ q a b=>by
        have:=a1 (q - lo) (by lia)
        rwa [show lo+(q - lo)=q by lia] at this
      have a5:∀ q,lo+l<=q ->q < lo+k ->kx rk (arrOf O) (lo+k) < kx rk (arrOf O) q:=λ q a b=>by
        have:=a0 (q - lo) (by lia) (by lia)
        rwa [show lo+(q - lo)=q by lia] at this
      repeat' split
      all_goals first
        | (exfalso;lia)
        | exact z4a _
        | exact a7 _ (by lia) (by lia)
        | exact z3v (a5 _ (by lia) (by lia))
        | exact Z _ _ (by lia) (by lia) (by lia)
end
end Tim
namespace Tim
section
variable {α:Type} {rk:α ->Int} {as bs out:List α} {ia ib:Nat}
def Asc (rk:α ->Int) (l:List α):Prop:=l.Pairwise λ p q=>rk p<=rk q
structure Jn (rk:α ->Int) (as bs out:List α) (ia ib:Nat):Prop where
 perm:out.Perm (as.take ia++bs.take ib)
 asc:Asc rk out
 la:∀ p∈out,∀ q∈as.drop ia,rk p<=rk q
 lb:∀ p∈out,∀ q∈bs.drop ib,rk p<=rk q
def Jn.swap (h:Jn rk as bs out ia ib):Jn rk bs as out ib ia:=⟨h.perm.trans z0u,h.asc,h.lb,h.la⟩
def Jn.start:Jn rk as bs [] 0 0:=⟨by simp,List.Pairwise.nil,(λ _ z=>nomatch z),(λ _ z=>nomatch z)⟩
def qdk (h:Asc rk as) (i:Nat):Asc rk (as.drop i):=List.Pairwise.sublist (List.drop_sublist i as) h
def q7m (as:List α) (i k:Nat):as.drop i=(as.drop i).take k++as.drop (i+k):=by
 rw [<- List.drop_drop,z0v]
def Jn.moreA (h:Jn rk as bs out ia ib) (ha:Asc rk as) (k:Nat) (hx:∀ p∈(as.drop ia).take k,∀ q∈bs.drop ib,rk p<=rk q):Jn rk as bs (out++(as.drop ia).take k) (ia+k) ib:=by
 have hd:=qdk ha ia;rw [q7m as ia k] at hd;obtain ⟨d1,d2,d3⟩:=z11.mp hd;have O:∀ q,q∈(as.drop ia).take k ->q∈as.drop ia:=λ q hq=>(List.take_sublist _ _).mem hq;have Z:∀ q,q∈as.drop (ia+k) ->q∈as.drop ia:=λ q hq=>by
  rw [q7m as ia k];exact z0w _ hq
 refine ⟨?_,?_,λ p J q hq=> ?_,λ p J q hq=> ?_⟩
 ·rw [List.take_add,z1y];refine (h.perm.append_right _).trans ?_;rw [z1y];exact List.Perm.append_left _ z0u
 ·exact z11.mpr ⟨h.asc,d1,λ p J q hq=>h.la p J q (O q hq)⟩
 ·rcases z2u.mp J with J | J
  ·exact h.la p J q (Z q hq)
  ·exact d3 p J q hq
 ·rcases z2u.mp J with J | J
  ·exact h.lb p J q hq
  ·exact hx p J q hq
def Jn.done (h:Jn rk as bs out ia ib) (ha:Asc rk as) (hb:Asc rk bs) (hx:∀ p∈as.drop ia,∀ q∈bs.drop ib,rk p<=rk q):
  (out++as.drop ia++bs.drop ib).Perm (as++bs)/\Asc rk (out++as.drop ia++bs.drop ib):=by
 constructor
 ·refine ((h.perm.append_right _).append_right _).trans ?_;have e1:as=as.take ia++as.drop ia:=(z0v ..).symm;have e2:bs=bs.take ib++bs.drop ib:=(z0v ..).symm;refine List.Perm.trans ?_ (List.Perm.of_eq (show (as.take ia++as.drop ia)++(bs.take ib++bs.drop ib)=as++bs by rw [<- e1,<- e2]));simp only [z1y];refine List.Perm.append_left _ ?_;rw [<- z1y,<- z1y];exact List.Perm.append_right _ z0u
 ·refine z11.mpr ⟨z11.mpr ⟨h.asc,qdk ha _,h.la⟩,qdk hb _,λ p J q hq=> ?_⟩;rcases z2u.mp J with J | J
  ·exact h.lb p J q hq
  ·exact hx p J q hq
def Jn.done2 (h:Jn rk as bs out ia ib) (ha:Asc rk as) (hb:Asc rk bs) (hx:∀ p∈bs.drop ib,∀ q∈as.drop ia,rk p<=rk q):
  (out++bs.drop ib++as.drop ia).Perm (as++bs)/\Asc rk (out++bs.drop ib++as.drop ia):=
 let ⟨a,b⟩:=h.swap.done hb ha hx
 ⟨a.trans z0u,b⟩
def qga (h:Asc rk as):Asc (λ p=>- rk p) as.reverse:=by
 unfold Asc;rw [List.pairwise_reverse];exact List.Pairwise.imp (λ {p q} (z:rk p<=rk q)=>show - rk q<= - rk p by lia) h
def asc_rev' (h:Asc (λ p=>- rk p) as):Asc rk as.reverse:=by
 unfold Asc;rw [List.pairwise_reverse];exact List.Pairwise.imp (λ {p q} (z: - rk p<= - rk q)=>show rk q<=rk p by lia) h
def qko (as:List α) (k:Nat) (h:k<=as.length):as.reverse.drop (as.length - k)=(as.take k).reverse:=by
 rw [List.drop_reverse]
 congr 1
 congr 1
 lia
def qxh (as:List α) (i k:Nat) (hi:i<=k) (h:k<=as.length):(as.reverse.drop (as.length - k)).take (k - i)=((as.drop i).take (k - i)).reverse:=by
 rw [qko as k h,List.take_reverse,z2g,Nat.min_eq_left h]
 congr 1
 rw [List.drop_take]
 congr 1
 ·lia
 ·congr 1
  lia
def qo7 (ha:Asc rk as) {i:Nat} {x:α} (hx:as[i]? =some x):∀ q∈as.drop i,rk x<=rk q:=by
 intro q hq;obtain ⟨j,hj,e⟩:=z12.mp hq;rw [List.getElem_drop] at e;obtain ⟨hi,ex⟩:=z07.mp hx;subst e ex;rcases Nat.eq_zero_or_pos j with h | h
 ·subst h;exact z4a _
 ·exact z08.mp ha i (i+j) hi (by rw [z2h] at hj;lia) (by lia)
def qo8 (ha:Asc rk as) {i:Nat} {x:α} (hx:as[i]? =some x):∀ q∈as.take (i+1),rk q<=rk x:=by
 intro q hq;obtain ⟨j,hj,e⟩:=z12.mp hq;rw [z1z] at e;obtain ⟨hi,ex⟩:=z07.mp hx;subst e ex;have hj':j<=i:=by rw [z2g] at hj;lia
 rcases Nat.lt_or_ge j i with h | h
 ·exact z08.mp ha j i (by lia) hi h
 ·have:j=i:=by lia
  subst this;exact z4a _
def qdl {i:Nat} {x:α} (hx:as[i]? =some x):(as.drop i).take 1=[x]:=by
 obtain ⟨hi,ex⟩:=z07.mp hx;rw [z09 hi,ex];rfl
end
end Tim
namespace Tim
open PySem PyProof.Rows
def q2z:Bool ->Keyed ->Array Keyed ->Nat ->Nat ->Nat ->StateT SortSt Sem (Option Nat):=sortPriv%PySem.Builtin.gallop
def beyd (left:Bool) (key:Keyed) (arr:Array Keyed) (i:Nat):StateT SortSt Sem (Option Bool):=do
 let p <- elem' arr i
 if left then lt' p key else return (<- lt' key p).map (!·)
def qpp (left:Bool) (key:Keyed) (arr:Array Keyed) (base n hint:Nat):q2z left key arr base n hint=(do
 let mut bk:=0
 let mut fw:=1
 let mut lo:=0
 let mut up:=0
 let some rt <- beyd left key arr (base+hint) | return none
 if rt then
  let most:=n - hint
  for _ in [0:n] do
   if fw >=most then break
   let some mr <- beyd left key arr (base+(hint+fw)) | return none
   if !mr then break
   bk:=fw
   fw:=2*fw+1
  lo:=hint+bk+1
  up:=hint+min fw most
 else
  let most:=hint+1
  for _ in [0:n] do
   if fw >=most then break
   let some fd <- beyd left key arr (base+(hint - fw)) | return none
   if fd then break
   bk:=fw
   fw:=2*fw+1
  lo:=hint+1 - min fw most
  up:=hint - bk
 for _ in [0:n] do
  if lo >=up then break
  let J:=lo+(up - lo) / 2
  let some mr <- beyd left key arr (base+J) | return none
  if mr then lo:=J+1 else up:=J
 return some up):=rfl
def ahd (left:Bool) (k v:Int):Bool:=if left then decide (v < k) else decide (v<=k)
def qdm {left:Bool} {k v u:Int} (h:v<=u) (e:ahd left k u=true):ahd left k v=true:=by
 unfold ahd at*;cases left
 ·simp at*
  lia
 ·simp at*
  lia
def gBin (left:Bool) (key:Keyed) (arr:Array Keyed) (base n lo0 up0:Nat):StateT SortSt Sem (Option Nat):=do
 let mut lo:=lo0
 let mut up:=up0
 for _ in [0:n] do
  if lo >=up then break
  let md:=lo+(up - lo) / 2
  let some mr <- beyd left key arr (base+md) | return none
  if mr then lo:=md+1 else up:=md
 return some up
section
variable {M:Model} {A:Around} {E:xB} {s:Shared} {kd:SortKind} {S:Keyed ->Prop} {rk:Keyed ->Int}
def q21 {st:SortSt} {arr:Array Keyed} {i:Nat} {p:Keyed} {Q:Keyed ->SortSt ->Prop} (e:arr[i]? =some p) (h:Q p st):wpS M A E s (elem' arr i) Q st:=by
 rw [elem'_eq,e];exact wpS_pure h
def qew (L:LtOk M A E s kd S rk) {st:SortSt} {left:Bool} {key:Keyed} {arr:Array Keyed} {i:Nat} {Q:Option Bool ->SortSt ->Prop} (hk:kindOf st=kd) (J:S key) (hp:∃ p,arr[i]? =some p/\S p)
  (h:Q (some (ahd left (rk key) (kx rk arr i))) st):wpS M A E s (beyd left key arr i) Q st:=by
 obtain ⟨p,e,sp⟩:=hp;rw [q3m e] at h;unfold beyd;refine wpS_bind (q21 e ?_);cases left with
 | true=>exact L p key st Q sp J hk h
 | false=>
  refine wpS_bind (L key p st _ J sp hk (wpS_pure ?_));have e2:(!decide (rk key < rk p))=ahd false (rk key) (rk p):=by
   unfold ahd;simp
   rw [<- decide_not];simp
  show Q (some (!decide (rk key < rk p))) st;rw [e2];exact h
def qrg (L:LtOk M A E s kd S rk) {st:SortSt} {left:Bool} {key:Keyed} {arr:Array Keyed} {base n lo up:Nat} {Q:Option Nat ->SortSt ->Prop} (hk:kindOf st=kd) (hS:S key)
  (hp:∀ i,i < n ->∃ p,arr[base+i]? =some p/\S p) (hu:Up rk arr base (base+n)) (Z:lo<=up) (a0:up<=n) (h1:∀ i,i < lo ->ahd left (rk key) (kx rk arr (base+i))=true)
  (h2:∀ i,up<=i ->i < n ->ahd left (rk key) (kx rk arr (base+i))=false)
  (h:∀ k,k<=n ->(∀ i,i < k ->ahd left (rk key) (kx rk arr (base+i))=true) ->(∀ i,k<=i ->i < n ->ahd left (rk key) (kx rk arr (base+i))=false) ->Q (some k) st):
  wpS M A E s (gBin left key arr base n lo up) Q st:=by
 unfold gBin
 dsimp only
 refine wpS_bind (wpS_mono (wpS_forRange (I:=λ x c J=>J=st/\∃ lo up,c=(none,lo,up)/\lo<=up/\up<=n/\up - lo<=n - x/\
   (∀ i,i < lo ->ahd left (rk key) (kx rk arr (base+i))=true)/\(∀ i,up<=i ->i < n ->ahd left (rk key) (kx rk arr (base+i))=false))
  (Q:=λ c J=>J=st/\∃ lo up,c=(none,lo,up)/\up<=n/\
   (∀ i,i < up ->ahd left (rk key) (kx rk arr (base+i))=true)/\(∀ i,up<=i ->i < n ->ahd left (rk key) (kx rk arr (base+i))=false)) ?turn ?last ⟨rfl,lo,up,rfl,Z,a0,by lia,h1,h2⟩) ?after)
 case after=>
  rintro c J ⟨rfl,lo,up,rfl,a,b,d⟩;exact wpS_pure (h up a b d)
 case last=>
  rintro c J ⟨rfl,lo,up,rfl,a,b,d,e1,e2⟩;have e:lo=up:=by lia
  subst e;exact ⟨zr,lo,lo,zr,b,e1,e2⟩
 case turn=>
  rintro x c J _ hx ⟨rfl,lo,up,rfl,a,b,d,e1,e2⟩
  dsimp only
  by_cases O:lo >=up
  ·rw [if_pos O];have e:lo=up:=by lia
   subst e;exact wpS_pure ⟨zr,lo,lo,zr,b,e1,e2⟩
  ·rw [if_neg O];refine wpS_bind (qew L hk hS (hp _ (by lia)) ?_);cases em:ahd left (rk key) (kx rk arr (base+(lo+(up - lo) / 2))) with
   | true=>
    dsimp only
    rw [if_pos rfl];refine wpS_pure ⟨zr,_,_,zr,by lia,b,by lia,λ i hi=> ?_,e2⟩;exact qdm (hu _ _ (by lia) (by lia) (by lia)) em
   | false=>
    dsimp only
    rw [if_neg z1l];refine wpS_pure ⟨zr,_,_,zr,by lia,by lia,by lia,e1,λ i hi hn=> ?_⟩;cases ei:ahd left (rk key) (kx rk arr (base+i)) with
    | false=>rfl
    | true=>
     have:=qdm (hu (base+(lo+(up - lo) / 2)) (base+i) (by lia) (by lia) (by lia)) ei;rw [em] at this;cases this
def q63 (L:LtOk M A E s kd S rk) {st:SortSt} {left:Bool} {key:Keyed} {arr:Array Keyed} {base n hint:Nat} {Q:Option Nat ->SortSt ->Prop} (hk:kindOf st=kd) (hS:S key)
  (hp:∀ i,i < n ->∃ p,arr[base+i]? =some p/\S p) (hu:Up rk arr base (base+n)) (hh:hint < n)
  (h:∀ k,k<=n ->(∀ i,i < k ->ahd left (rk key) (kx rk arr (base+i))=true) ->(∀ i,k<=i ->i < n ->ahd left (rk key) (kx rk arr (base+i))=false) ->Q (some k) st):
  wpS M A E s (q2z left key arr base n hint) Q st:=by
 have dn:∀ i j,i<=j ->j < n ->ahd left (rk key) (kx rk arr (base+j))=true ->ahd left (rk key) (kx rk arr (base+i))=true:=λ i j a b e=>qdm (hu _ _ (by lia) (by lia) (by lia)) e;have nu:∀ i j,i<=j ->j < n ->ahd left (rk key) (kx rk arr (base+i))=false ->ahd left (rk key) (kx rk arr (base+j))=false:=λ i j a b e=>by
  cases ej:ahd left (rk key) (kx rk arr (base+j)) with
  | false=>rfl
  | true=>
   rw [dn i j a b ej] at e;cases e
 rw [qpp]
 dsimp only
 refine wpS_bind (qew L hk hS (hp hint hh) ?_);cases e0:ahd left (rk key) (kx rk arr (base+hint)) with
 | true=>
  dsimp only
  rw [if_pos rfl];refine wpS_bind (wpS_mono (wpS_forRange (I:=λ x c J=>J=st/\∃ bk fw,c=(none,bk,fw)/\bk < fw/\x+1<=fw/\hint+bk < n/\ahd left (rk key) (kx rk arr (base+(hint+bk)))=true)
   (Q:=λ c J=>J=st/\∃ bk fw,c=(none,bk,fw)/\bk < fw/\hint+bk < n/\ahd left (rk key) (kx rk arr (base+(hint+bk)))=true/\(n - hint<=fw\/ hint+fw < n/\ahd left (rk key) (kx rk arr (base+(hint+fw)))=false)) ?turn ?last ⟨rfl,0,1,rfl,by lia,by lia,by lia,e0⟩) ?after)
  case last=>
   rintro c J ⟨rfl,bk,fw,rfl,a,b,d,e⟩;exact ⟨zr,bk,fw,zr,a,d,e,.inl (by lia)⟩
  case turn=>
   rintro x c J _ hx ⟨rfl,bk,fw,rfl,a,b,d,e⟩
   dsimp only
   by_cases O:fw >=n - hint
   ·rw [if_pos O];exact wpS_pure ⟨zr,bk,fw,zr,a,d,e,.inl O⟩
   ·rw [if_neg O];refine wpS_bind (qew L hk hS (hp _ (by lia)) ?_);cases Z:ahd left (rk key) (kx rk arr (base+(hint+fw))) with
    | true=>
     dsimp only
     rw [if_neg (by simp)];exact wpS_pure ⟨zr,fw,_,zr,by lia,by lia,by lia,Z⟩
    | false=>
     dsimp only
     rw [if_pos (by simp)];exact wpS_pure ⟨zr,bk,fw,zr,a,d,e,.inr ⟨by lia,Z⟩⟩
  case after=>
   rintro c J ⟨rfl,bk,fw,rfl,a,d,e,f⟩
   dsimp only
   refine qrg L hk hS hp hu (lo:=hint+bk+1) (up:=hint+min fw (n - hint)) (by lia) (by lia) (λ i hi=>dn i (hint+bk) (by lia) d e) (λ i hi hn=> ?_) h;rcases f with f | ⟨f1,f2⟩
   ·lia
   ·exact nu (hint+fw) i (by lia) hn f2
 | false=>
  dsimp only
  rw [if_neg z1l];refine wpS_bind (wpS_mono (wpS_forRange (I:=λ x c J=>J=st/\∃ bk fw,c=(none,bk,fw)/\bk < fw/\x+1<=fw/\bk<=hint/\ahd left (rk key) (kx rk arr (base+(hint - bk)))=false)
   (Q:=λ c J=>J=st/\∃ bk fw,c=(none,bk,fw)/\bk < fw/\bk<=hint/\ahd left (rk key) (kx rk arr (base+(hint - bk)))=false/\(hint+1<=fw\/ fw<=hint/\ahd left (rk key) (kx rk arr (base+(hint - fw)))=true)) ?turn ?last ⟨rfl,0,1,rfl,by lia,by lia,by lia,e0⟩) ?after)
  case last=>
   rintro c J ⟨rfl,bk,fw,rfl,a,b,d,e⟩;exact ⟨zr,bk,fw,zr,a,d,e,.inl (by lia)⟩
  case turn=>
   rintro x c J _ hx ⟨rfl,bk,fw,rfl,a,b,d,e⟩
   dsimp only
   by_cases O:fw >=hint+1
   ·rw [if_pos O];exact wpS_pure ⟨zr,bk,fw,zr,a,d,e,.inl O⟩
   ·rw [if_neg O];refine wpS_bind (qew L hk hS (hp _ (by lia)) ?_);cases Z:ahd left (rk key) (kx rk arr (base+(hint - fw))) with
    | true=>
     dsimp only
     rw [if_pos rfl];exact wpS_pure ⟨zr,bk,fw,zr,a,d,e,.inr ⟨by lia,Z⟩⟩
    | false=>
     dsimp only
     rw [if_neg z1l];exact wpS_pure ⟨zr,fw,_,zr,by lia,by lia,by lia,Z⟩
  case after=>
   rintro c J ⟨rfl,bk,fw,rfl,a,d,e,f⟩
   dsimp only
   refine qrg L hk hS hp hu (lo:=hint+1 - min fw (hint+1)) (up:=hint - bk) (by lia) (by lia) (λ i hi=> ?_) (λ i hi hn=>nu (hint - bk) i hi hn e) h;rcases f with f | ⟨f1,f2⟩
   ·lia
   ·exact dn i (hint - fw) (by lia) (by lia) f2
end
def qdn:Array Keyed ->Array Keyed ->StateT SortSt Sem (Array Keyed):=sortPriv%PySem.Builtin.mergeLo
abbrev q80 (st:SortSt) (g:Nat):SortSt:=SortSt.mk' (kindOf st) (arrOf st) (pendingOf st) g (failedOf st)
def q3n (a b out:Array Keyed) (ia ib:Nat):Array Keyed:=out++a.extract ia a.size++b.extract ib b.size
def q8t (a b out:Array Keyed) (ia ib:Nat):Array Keyed:=out++b.extract ib b.size++a.extract ia a.size
def qnk (a b:Array Keyed):qdn a b=(do
 rule "list.sort.merge-lo"
 let all:=a.size+b.size
 let mut o:Array Keyed:=#[<- elem' b 0]
 let mut x:=0
 let mut y:=1
 if y==b.size then return q3n a b o x y
 if x+1==a.size then return q8t a b o x y
 let mut g:=gallopOf (<- get)
 for _ in [0:all] do
  let mut ca:=0
  let mut cb:=0
  for _ in [0:all] do
   let some won <- lt' (<- elem' b y) (<- elem' a x) | return q3n a b o x y
   if won then
    o:=o.push (<- elem' b y);y:=y+1;cb:=cb+1;ca:=0
    if y==b.size then return q3n a b o x y
    if cb >=g then break
   else
    o:=o.push (<- elem' a x);x:=x+1;ca:=ca+1;cb:=0
    if x+1==a.size then return q8t a b o x y
    if ca >=g then break
  rule "list.sort.gallop"
  g:=g+1
  for _ in [0:all] do
   if g > 1 then g:=g - 1
   modify λ st=>q80 st g
   let some k <- q2z false (<- elem' b y) a x (a.size - x) 0 | return q3n a b o x y
   ca:=k
   if k > 0 then
    o:=o++a.extract x (x+k);x:=x+k
    if x+1==a.size then return q8t a b o x y
    if x==a.size then return q3n a b o x y
   o:=o.push (<- elem' b y);y:=y+1
   if y==b.size then return q3n a b o x y
   let some k <- q2z true (<- elem' a x) b y (b.size - y) 0 | return q3n a b o x y
   cb:=k
   if k > 0 then
    o:=o++b.extract y (y+k);y:=y+k
    if y==b.size then return q3n a b o x y
   o:=o.push (<- elem' a x);x:=x+1
   if x+1==a.size then return q8t a b o x y
   if ca < 7&&cb < 7 then break
  g:=g+1
  modify λ st=>q80 st g
 unsupported "internal:list.sort.merge-bound"):=rfl
structure Gl (st st':SortSt):Prop where
 arr:arrOf st'=arrOf st
 kind:kindOf st'=kindOf st
 pend:pendingOf st'=pendingOf st
 failed:failedOf st'=failedOf st
def Gl.refl (st:SortSt):Gl st st:=⟨rfl,rfl,rfl,rfl⟩
def Gl.set {st J:SortSt} (h:Gl st J) (g:Nat):Gl st (q80 J g):=⟨h.arr,h.kind,h.pend,h.failed⟩
section
variable {rk:Keyed ->Int} {a b o:Array Keyed} {x y:Nat}
def q30 (xs:Array Keyed) (i:Nat) {p:Keyed} (h:xs.toList[i]? =some p):kx rk xs i=rk p:=q3m (by rw [<- h,z0x])
def q99 {l:List Keyed} {i k:Nat} {p:Keyed} (h:p∈(l.drop i).take k):∃ j,j < k/\l[i+j]? =some p:=by
 obtain ⟨j,hj,e⟩:=z12.mp h;rw [z2g] at hj;refine ⟨j,by lia,?_⟩;rw [<- e,z1z,List.getElem_drop,z0d]
def qdo {l:List Keyed} {i:Nat} {p:Keyed} (h:p∈l.drop i):∃ j,i<=j/\j < l.length/\l[j]? =some p:=by
 obtain ⟨j,hj,e⟩:=z12.mp h;rw [z2h] at hj;refine ⟨i+j,by lia,by lia,?_⟩;rw [<- e,List.getElem_drop,z0d]
def qex {xs:Array Keyed} (h:Asc rk xs.toList) (lo hi:Nat) (hh:hi<=xs.size):Up rk xs lo hi:=by
 intro i j _ hij hj;have J:i < xs.toList.length:=by rw [z19];lia
 have O:j < xs.toList.length:=by rw [z19];lia
 rw [q30 xs i (z0d J),q30 xs j (z0d O)];rcases Nat.lt_or_ge i j with q | q
 ·exact z08.mp h i j J O q
 ·have:i=j:=by lia
  subst this;exact z4a _
def quf (xs:Array Keyed) (i k:Nat):(xs.extract i (i+k)).toList=(xs.toList.drop i).take k:=by
 rw [z13,z0a]
 congr 1
 lia
def q9u (xs:Array Keyed) (i:Nat):(xs.extract i xs.size).toList=xs.toList.drop i:=by
 rw [z13,z0a,z0n];rw [z2h,z19]
 lia
def qdp {p:Keyed} (h:Jn rk a.toList b.toList o.toList x y) (ha:Asc rk a.toList) (e:a[x]? =some p) (J:∀ q∈b.toList.drop y,rk p<=rk q):Jn rk a.toList b.toList (o.push p).toList (x+1) y:=by
 have e':a.toList[x]? =some p:=by rw [z0x];exact e
 have:=h.moreA ha 1 (by rw [qdl e'];intro z hz;rw [z1m.mp hz];exact J)
 rwa [qdl e',<- z20] at this
def qdq {p:Keyed} (h:Jn rk a.toList b.toList o.toList x y) (hb:Asc rk b.toList) (e:b[y]? =some p) (J:∀ q∈a.toList.drop x,rk p<=rk q):Jn rk a.toList b.toList (o.push p).toList x (y+1):=
 (qdp h.swap hb e J).swap
def qo9 (h:Jn rk a.toList b.toList o.toList x y) (ha:Asc rk a.toList) (k:Nat) (hx:∀ p∈(a.toList.drop x).take k,∀ q∈b.toList.drop y,rk p<=rk q):Jn rk a.toList b.toList (o++a.extract x (x+k)).toList (x+k) y:=by
 rw [z1a,quf];exact h.moreA ha k hx
def qxi (h:Jn rk a.toList b.toList o.toList x y) (hb:Asc rk b.toList) (k:Nat) (hx:∀ p∈(b.toList.drop y).take k,∀ q∈a.toList.drop x,rk p<=rk q):Jn rk a.toList b.toList (o++b.extract y (y+k)).toList x (y+k):=
 (qo9 h.swap hb k hx).swap
def Good (rk:Keyed ->Int) (a b r:Array Keyed):Prop:=r.toList.Perm (a.toList++b.toList)/\Asc rk r.toList
def q7n (h:Jn rk a.toList b.toList o.toList x y) (ha:Asc rk a.toList) (hb:Asc rk b.toList) (hy:y=b.size):Good rk a b (q3n a b o x y):=by
 have hx:∀ p∈a.toList.drop x,∀ q∈b.toList.drop y,rk p<=rk q:=λ p _ q hq=>by
  rw [List.drop_of_length_le (by rw [z19];lia)] at hq;cases hq
 have:=h.done ha hb hx;unfold Good q3n;rw [z1a,z1a,q9u,q9u];exact this
end
structure Mg (S:Keyed ->Prop) (rk:Keyed ->Int) (a b:Array Keyed):Prop where
 sa:∀ p∈a.toList,S p
 sb:∀ p∈b.toList,S p
 aa:Asc rk a.toList
 ab:Asc rk b.toList
 na:0 < a.size
 nb:0 < b.size
 top:∃ z,a[a.size - 1]? =some z/\∀ p∈b.toList,rk p < rk z
 bot:∃ z,b[0]? =some z/\∀ p∈a.toList,rk z < rk p
section
variable {S:Keyed ->Prop} {rk:Keyed ->Int} {a b o:Array Keyed} {x y:Nat}
def Mg.atA (m:Mg S rk a b) {i:Nat} (h:i < a.size):∃ p,a[i]? =some p/\S p/\p∈a.toList:=
 ⟨a[i],getElem?_pos a i h,m.sa _ (by simp),by simp⟩
def Mg.atB (m:Mg S rk a b) {i:Nat} (h:i < b.size):∃ p,b[i]? =some p/\S p/\p∈b.toList:=
 ⟨b[i],getElem?_pos b i h,m.sb _ (by simp),by simp⟩
def q7o (m:Mg S rk a b) (h:Jn rk a.toList b.toList o.toList x y) (hx:x+1=a.size):Good rk a b (q8t a b o x y):=by
 obtain ⟨z,ez,hz⟩:=m.top;have hq:∀ p∈b.toList.drop y,∀ q∈a.toList.drop x,rk p<=rk q:=λ p hp q hq=>by
  obtain ⟨j,h1,h2,e⟩:=qdo hq;rw [z19] at h2;have ej:j=a.size - 1:=by lia
  rw [z0x,ej,ez] at e;cases e
  exact z3v (hz p (z14 hp))
 have:=h.done2 m.aa m.ab hq;unfold Good q8t;rw [z1a,z1a,q9u,q9u];exact this
def qkp (m:Mg S rk a b) {i:Nat} {p:Keyed} (e:a[i]? =some p):∀ q∈a.toList.drop i,rk p<=rk q:=qo7 m.aa (by rw [z0x];exact e)
def qkq (m:Mg S rk a b) {i:Nat} {p:Keyed} (e:b[i]? =some p):∀ q∈b.toList.drop i,rk p<=rk q:=qo7 m.ab (by rw [z0x];exact e)
end
abbrev LoSt:=Option (Array Keyed)×Array Keyed×Nat×Nat×Nat×Nat×Nat
def qey (a b:Array Keyed) (ca cb g:Nat) (o:Array Keyed) (x y:Nat):StateT SortSt Sem (ForInStep LoSt):=do
 let p <- elem' a x
 if (x+1+1==a.size)=true then pure (ForInStep.done (some (q8t a b (o.push p) (x+1) y),o.push p,x+1,y,g,ca,cb))
 else if (decide (ca < 7)&&decide (cb < 7))=true then pure (ForInStep.done (none,o.push p,x+1,y,g,ca,cb))
 else pure (ForInStep.yield (none,o.push p,x+1,y,g,ca,cb))
def qka (a b:Array Keyed) (ca cb g:Nat) (o:Array Keyed) (x y:Nat):StateT SortSt Sem (ForInStep LoSt):=do
 let p <- elem' b y
 if (y+1==b.size)=true then pure (ForInStep.done (some (q3n a b (o.push p) x (y+1)),o.push p,x,y+1,g,ca,cb))
 else do
  let some k <- q2z true (<- elem' a x) b (y+1) (b.size - (y+1)) 0 | pure (ForInStep.done (some (q3n a b (o.push p) x (y+1)),o.push p,x,y+1,g,ca,cb))
  if k > 0 then
   if (y+1+k==b.size)=true then pure (ForInStep.done (some (q3n a b (o.push p++b.extract (y+1) (y+1+k)) x (y+1+k)),o.push p++b.extract (y+1) (y+1+k),x,y+1+k,g,ca,k))
   else qey a b ca k g (o.push p++b.extract (y+1) (y+1+k)) x (y+1+k)
  else qey a b ca k g (o.push p) x (y+1)
def qpq (a b:Array Keyed) (ca cb g:Nat) (o:Array Keyed) (x y:Nat):StateT SortSt Sem (ForInStep LoSt):=do
 modify λ st=>q80 st g
 let some k <- q2z false (<- elem' b y) a x (a.size - x) 0 | pure (ForInStep.done (some (q3n a b o x y),o,x,y,g,ca,cb))
 if k > 0 then
  if (x+k+1==a.size)=true then pure (ForInStep.done (some (q8t a b (o++a.extract x (x+k)) (x+k) y),o++a.extract x (x+k),x+k,y,g,k,cb))
  else if (x+k==a.size)=true then pure (ForInStep.done (some (q3n a b (o++a.extract x (x+k)) (x+k) y),o++a.extract x (x+k),x+k,y,g,k,cb))
  else qka a b k cb g (o++a.extract x (x+k)) (x+k) y
 else qka a b k cb g o x y
section
variable {M:Model} {A:Around} {E:xB} {s:Shared} {kd:SortKind} {S:Keyed ->Prop} {rk:Keyed ->Int} {a b:Array Keyed} {st:SortSt}
structure Go (rk:Keyed ->Int) (a b o:Array Keyed) (x y:Nat):Prop where
 jn:Jn rk a.toList b.toList o.toList x y
 hx:x+1 < a.size
 hy:y < b.size
def LoQ (rk:Keyed ->Int) (a b:Array Keyed) (st:SortSt) (n:Nat) (r:ForInStep LoSt) (st':SortSt):Prop:=Gl st st'/\match r with
 | .done c=>(∃ r,c.1=some r/\Good rk a b r)\/ (c.1=none/\Go rk a b c.2.1 c.2.2.1 c.2.2.2.1/\n<=c.2.2.1+c.2.2.2.1)
 | .yield c=>c.1=none/\Go rk a b c.2.1 c.2.2.1 c.2.2.2.1/\n<=c.2.2.1+c.2.2.2.1
def qkr (m:Mg S rk a b) {O:SortSt} {n ca cb g x y:Nat} {o:Array Keyed} (hg:Gl st O) (J:Jn rk a.toList b.toList o.toList x y) (hx:x+1 < a.size) (hy:y < b.size)
  (a0:∀ p,a[x]? =some p ->∀ q∈b.toList.drop y,rk p<=rk q) (hn:n<=x+y):wpS M A E s (qey a b ca cb g o x y) (LoQ rk a b st (n+1)) O:=by
 obtain ⟨p,e,_,_⟩:=m.atA (i:=x) (by lia);have Z:=qdp J m.aa e (a0 p e);unfold qey;refine wpS_bind (q21 e ?_);by_cases c1:x+1+1=a.size
 ·rw [if_pos (by simpa using c1)];exact wpS_pure ⟨hg,.inl ⟨_,zr,q7o m Z c1⟩⟩
 ·rw [if_neg (by simpa using c1)];by_cases c2:(decide (ca < 7)&&decide (cb < 7))=true
  ·rw [if_pos c2];exact wpS_pure ⟨hg,.inr ⟨rfl,⟨Z,by show x+1+1 < a.size;lia,hy⟩,by show n+1<=x+1+y;lia⟩⟩
  ·rw [if_neg c2];exact wpS_pure ⟨hg,rfl,⟨Z,by show x+1+1 < a.size;lia,hy⟩,by show n+1<=x+1+y;lia⟩
def qoa (L:LtOk M A E s kd S rk) (hk:kindOf st=kd) (m:Mg S rk a b) {Z:SortSt} {n ca cb g x y:Nat} {o:Array Keyed} (O:Gl st Z) (J:Jn rk a.toList b.toList o.toList x y) (hx:x+1 < a.size) (hy:y < b.size)
  (a0:∀ p,b[y]? =some p ->∀ q∈a.toList.drop x,rk p<=rk q) (hn:n<=x+y):wpS M A E s (qka a b ca cb g o x y) (LoQ rk a b st (n+1)) Z:=by
 obtain ⟨p,e,_,_⟩:=m.atB hy;have J':=qdq J m.ab e (a0 p e);unfold qka;refine wpS_bind (q21 e ?_);by_cases c1:y+1=b.size
 ·rw [if_pos (by simpa using c1)];exact wpS_pure ⟨O,.inl ⟨_,zr,q7n J' m.aa m.ab c1⟩⟩
 ·rw [if_neg (by simpa using c1)];obtain ⟨q,eq,sq,_⟩:=m.atA (i:=x) (by lia);refine wpS_bind (q21 eq ?_);refine wpS_bind (q63 L (O.kind.trans hk) sq (λ i hi=> ?_) (qex m.ab _ _ (by lia)) (by lia) λ k k1 k2 k3=> ?_)
  ·obtain ⟨p,e,sp,_⟩:=m.atB (i:=y+1+i) (by lia);exact ⟨p,e,sp⟩
  dsimp only
  have after:∀ p',a[x]? =some p' ->∀ z∈b.toList.drop (y+1+k),rk p'<=rk z:=λ p' ep z hz=>by
   rw [eq] at ep;cases ep
   obtain ⟨j,h1,h2,ez⟩:=qdo hz;rw [z19] at h2;have:=k3 (j - (y+1)) (by lia) (by lia);rw [show y+1+(j - (y+1))=j by lia,q30 b j ez] at this;simp [ahd] at this
   lia
  by_cases c2:k > 0
  ·rw [if_pos c2];have J2:=qxi J' m.ab k λ z hz w hw=>by
    obtain ⟨j,h1,ez⟩:=q99 hz;have:=k2 j h1;rw [q30 b _ ez] at this;simp [ahd] at this
    have:=qkp m eq w hw
    lia
   by_cases c3:y+1+k=b.size
   ·rw [if_pos (by simpa using c3)];exact wpS_pure ⟨O,.inl ⟨_,zr,q7n J2 m.aa m.ab c3⟩⟩
   ·rw [if_neg (by simpa using c3)];exact qkr m O J2 hx (by lia) after (by lia)
  ·rw [if_neg c2];have k0:k=0:=by lia
   subst k0;exact qkr m O J' hx (by lia) after (by lia)
def qxj (L:LtOk M A E s kd S rk) (hk:kindOf st=kd) (m:Mg S rk a b) {a0:SortSt} {n ca cb g x y:Nat} {o:Array Keyed} (hg:Gl st a0) (G:Go rk a b o x y) (hn:n<=x+y):
  wpS M A E s (qpq a b ca cb g o x y) (LoQ rk a b st (n+1)) a0:=by
 obtain ⟨J,hx,hy⟩:=G;unfold qpq;refine wpS_bind (wpS_modify ?_);have O:=hg.set g;obtain ⟨q,eq,sq,mq⟩:=m.atB hy;refine wpS_bind (q21 eq ?_);refine wpS_bind (q63 L (O.kind.trans hk) sq (λ i hi=> ?_) (qex m.aa _ _ (by lia)) (by lia) λ k k1 k2 k3=> ?_)
 ·obtain ⟨p,e,sp,_⟩:=m.atA (i:=x+i) (by lia);exact ⟨p,e,sp⟩
 dsimp only
 have after:∀ p',b[y]? =some p' ->∀ z∈a.toList.drop (x+k),rk p'<=rk z:=λ p' ep z hz=>by
  rw [eq] at ep;cases ep
  obtain ⟨j,h1,h2,Z⟩:=qdo hz;rw [z19] at h2;have:=k3 (j - x) (by lia) (by lia);rw [show x+(j - x)=j by lia,q30 a j Z] at this;simp [ahd] at this
  lia
 by_cases c2:k > 0
 ·rw [if_pos c2];have J2:=qo9 J m.aa k λ z hz w hw=>by
   obtain ⟨j,h1,Z⟩:=q99 hz;have:=k2 j h1;rw [q30 a _ Z] at this;simp [ahd] at this
   have:=qkq m eq w hw
   lia
  by_cases c3:x+k+1=a.size
  ·rw [if_pos (by simpa using c3)];exact wpS_pure ⟨O,.inl ⟨_,zr,q7o m J2 c3⟩⟩
  ·rw [if_neg (by simpa using c3)];have c4:¬ x+k=a.size:=λ c4=>by
    obtain ⟨z,Z,hz⟩:=m.top;have:=k2 (a.size - 1 - x) (by lia);rw [show x+(a.size - 1 - x)=a.size - 1 by lia,q3m Z] at this;simp [ahd] at this
    have:=hz q mq
    lia
   rw [if_neg (by simpa using c4)];exact qoa L hk m O J2 (by lia) hy after (by lia)
 ·rw [if_neg c2];have k0:k=0:=by lia
  subst k0;exact qoa L hk m O J hx hy after hn
def qrh (L:LtOk M A E s kd S rk) (hk:kindOf st=kd) (m:Mg S rk a b) {Q:Array Keyed ->SortSt ->Prop} (h:∀ r O,Gl st O ->Good rk a b r ->Q r O):wpS M A E s (qdn a b) Q st:=by
 rw [qnk];refine wpS_bind (wpS_lift (z4d ⟨zr,?_⟩));obtain ⟨q,eq,sq,mq⟩:=m.atB m.nb;refine wpS_bind (q21 eq ?_);have J1:Jn rk a.toList b.toList (#[q]:Array Keyed).toList 0 1:=by
  obtain ⟨z,ez,hz⟩:=m.bot;rw [eq] at ez;cases ez
  exact qdq (o:=#[]) Jn.start m.ab eq λ w hw=>z3v (hz w (z14 hw))
 by_cases c1:1=b.size
 ·rw [if_pos (by simpa using c1)];exact wpS_pure (h _ _ (Gl.refl _) (q7n J1 m.aa m.ab c1))
 ·rw [if_neg (by simpa using c1)];by_cases c2:0+1=a.size
  ·rw [if_pos (by simpa using c2)];exact wpS_pure (h _ _ (Gl.refl _) (q7o m J1 c2))
  ·rw [if_neg (by simpa using c2)];refine wpS_bind (wpS_get ?_);have na:=m.na;have nb:=m.nb;have G1:Go rk a b #[q] 0 1:=⟨J1,by lia,by lia⟩;refine wpS_bind (wpS_mono (wpS_forRange (I:=λ i c O=>Gl st O/\∃ o x y g,c=(none,o,x,y,g)/\Go rk a b o x y/\i+1<=x+y)
    (Q:=λ c O=>Gl st O/\∃ r o x y g,c=(some r,o,x,y,g)/\Good rk a b r) ?turn ?last ⟨Gl.refl _,#[q],0,1,_,rfl,G1,by lia⟩) ?after)
   case after=>
    rintro c O ⟨hg,r,o,x,y,g,rfl,hr⟩;exact wpS_pure (h r O hg hr)
   case last=>
    rintro c O ⟨hg,o,x,y,g,rfl,G,hi⟩;have:=G.hx;have:=G.hy
    exfalso
    lia
   case turn=>
    rintro i c O _ hi ⟨hg,o,x,y,g,rfl,G,hxy⟩
    dsimp only
    refine wpS_bind (wpS_mono (wpS_forRange (I:=λ j c Z=>Gl st Z/\∃ o x y ca cb,c=(none,o,x,y,ca,cb)/\Go rk a b o x y/\i+1+j<=x+y)
     (Q:=λ c Z=>Gl st Z/\∃ r o x y ca cb,c=(r,o,x,y,ca,cb)/\match r with
      | some r=>Good rk a b r
      | none=>Go rk a b o x y/\i+2<=x+y) ?iturn ?ilast ⟨hg,o,x,y,0,0,rfl,G,by lia⟩) ?iafter)
    case ilast=>
     rintro c Z ⟨J,o,x,y,ca,cb,rfl,G,hj⟩;have:=G.hx;have:=G.hy
     exfalso
     lia
    case iturn=>
     rintro j c Z _ hj ⟨J,o,x,y,ca,cb,rfl,G,a5⟩
     dsimp only
     obtain ⟨pb,eb,sb,mb⟩:=m.atB G.hy;obtain ⟨pa,ea,sa,ma⟩:=m.atA (i:=x) (by have:=G.hx;lia);refine wpS_bind (q21 eb (wpS_bind (q21 ea (wpS_bind (L pb pa Z _ sb sa (J.kind.trans hk) ?_)))));by_cases hw:rk pb < rk pa
     ·simp only [hw,z49,if_true];refine wpS_bind (q21 eb ?_);have J2:=qdq G.jn m.ab eb λ z hz=>z3w (z3v hw) (qkp m ea z hz);by_cases c3:y+1=b.size
      ·rw [if_pos (by simpa using c3)];exact wpS_pure ⟨J,_,_,_,_,_,_,zr,q7n J2 m.aa m.ab c3⟩
      ·rw [if_neg (by simpa using c3)];have G2:Go rk a b (o.push pb) x (y+1):=⟨J2,G.hx,by have:=G.hy;lia⟩;split
       ·exact wpS_pure ⟨J,_,_,_,_,_,_,zr,G2,by lia⟩
       ·exact wpS_pure ⟨J,_,_,_,_,_,zr,G2,by lia⟩
     ·simp only [hw,z3u,z1k,if_false];refine wpS_bind (q21 ea ?_);have J2:=qdp G.jn m.aa ea λ z hz=>z3w (by lia) (qkq m eb z hz);by_cases c3:x+1+1=a.size
      ·rw [if_pos (by simpa using c3)];exact wpS_pure ⟨J,_,_,_,_,_,_,zr,q7o m J2 c3⟩
      ·rw [if_neg (by simpa using c3)];have G2:Go rk a b (o.push pa) (x+1) y:=⟨J2,by have:=G.hx;lia,G.hy⟩;split
       ·exact wpS_pure ⟨J,_,_,_,_,_,_,zr,G2,by lia⟩
       ·exact wpS_pure ⟨J,_,_,_,_,_,zr,G2,by lia⟩
    case iafter=>
     rintro c Z ⟨J,r,o2,x2,y2,ca,cb,rfl,hr⟩;cases r with
     | some r=>exact wpS_pure ⟨J,r,_,_,_,_,rfl,hr⟩
     | none=>
      obtain ⟨G2,a5⟩:=hr
      dsimp only
      refine wpS_bind (wpS_lift (z4d ⟨zr,?_⟩));refine wpS_bind (wpS_mono (wpS_forRange (I:=λ j c a0=>Gl st a0/\∃ o x y g ca cb,c=(none,o,x,y,g,ca,cb)/\Go rk a b o x y/\i+2+j<=x+y)
       (Q:=λ c a0=>Gl st a0/\∃ r o x y g ca cb,c=(r,o,x,y,g,ca,cb)/\match r with
        | some r=>Good rk a b r
        | none=>Go rk a b o x y/\i+2<=x+y) ?gturn ?glast ⟨J,o2,x2,y2,_,_,_,rfl,G2,by lia⟩) ?gafter)
      case glast=>
       rintro c a0 ⟨a1,o,x,y,g,ca,cb,rfl,G,hj⟩;have:=G.hx;have:=G.hy
       exfalso
       lia
      case gturn=>
       rintro j c a0 _ hj ⟨a1,o,x,y,g,ca,cb,rfl,G,a2⟩;have go:∀ g',wpS M A E s (qpq a b ca cb g' o x y) (LoQ rk a b st (i+2+j+1)) a0:=λ g'=>qxj L hk m a1 G a2
       dsimp only
       by_cases a4:g > 1
       case' pos=>
        rw [if_pos a4];refine wpS_mono (go (g - 1)) ?_
       case' neg=>
        rw [if_neg a4];refine wpS_mono (go g) ?_
       all_goals
        intro r st4 q;obtain ⟨a3,q⟩:=q;cases r with
        | done c'=>
         obtain ⟨r,o,x,y,g,ca,cb⟩:=c';rcases q with ⟨r',e,q⟩ | ⟨e,q,q'⟩
         ·simp only at e;subst e;exact ⟨a3,_,_,_,_,_,_,_,zr,q⟩
         ·simp only at e q q';subst e;exact ⟨a3,_,_,_,_,_,_,_,zr,q,by lia⟩
        | yield c'=>
         obtain ⟨r,o,x,y,g,ca,cb⟩:=c';obtain ⟨e,q,q'⟩:=q;simp only at e q q';subst e;exact ⟨a3,_,_,_,_,_,_,zr,q,by lia⟩
      case gafter=>
       rintro c a0 ⟨a1,r,o3,x3,y3,g3,ca3,cb3,rfl,hr⟩;cases r with
       | some r=>exact wpS_pure ⟨a1,r,_,_,_,_,rfl,hr⟩
       | none=>
        obtain ⟨G3,a2⟩:=hr
        dsimp only
        exact wpS_bind (wpS_modify (wpS_pure ⟨a1.set _,_,_,_,_,zr,G3,by lia⟩))
end
def qdr:Array Keyed ->Array Keyed ->StateT SortSt Sem (Array Keyed):=sortPriv%PySem.Builtin.mergeHi
def q3o (a b out:Array Keyed) (na nb:Nat):Array Keyed:=a.extract 0 na++b.extract 0 nb++out.reverse
def q6n (a b out:Array Keyed) (na nb:Nat):Array Keyed:=b.extract 0 nb++a.extract 0 na++out.reverse
def qnl (a b:Array Keyed):qdr a b=(do
 rule "list.sort.merge-hi"
 let all:=a.size+b.size
 let mut x:=a.size - 1
 let mut y:=b.size
 let mut o:Array Keyed:=#[<- elem' a x]
 if x==0 then return q3o a b o x y
 if y==1 then return q6n a b o x y
 let mut g:=gallopOf (<- get)
 for _ in [0:all] do
  let mut ca:=0
  let mut cb:=0
  for _ in [0:all] do
   let some won <- lt' (<- elem' b (y - 1)) (<- elem' a (x - 1)) | return q3o a b o x y
   if won then
    x:=x - 1;o:=o.push (<- elem' a x);ca:=ca+1;cb:=0
    if x==0 then return q3o a b o x y
    if ca >=g then break
   else
    y:=y - 1;o:=o.push (<- elem' b y);cb:=cb+1;ca:=0
    if y==1 then return q6n a b o x y
    if cb >=g then break
  rule "list.sort.gallop"
  g:=g+1
  for _ in [0:all] do
   if g > 1 then g:=g - 1
   modify λ st=>q80 st g
   let some j <- q2z false (<- elem' b (y - 1)) a 0 x (x - 1) | return q3o a b o x y
   let k:=x - j
   ca:=k
   if k > 0 then
    o:=o++(a.extract j x).reverse;x:=j
    if x==0 then return q3o a b o x y
   y:=y - 1;o:=o.push (<- elem' b y)
   if y==1 then return q6n a b o x y
   let some j <- q2z true (<- elem' a (x - 1)) b 0 y (y - 1) | return q3o a b o x y
   let k:=y - j
   cb:=k
   if k > 0 then
    o:=o++(b.extract j y).reverse;y:=j
    if y==1 then return q6n a b o x y
    if y==0 then return q3o a b o x y
   x:=x - 1;o:=o.push (<- elem' a x)
   if x==0 then return q3o a b o x y
   if ca < 7&&cb < 7 then break
  g:=g+1
  modify λ st=>q80 st g
 unsupported "internal:list.sort.merge-bound"):=rfl
section
variable {rk:Keyed ->Int} {a b o:Array Keyed} {x y:Nat}
def JH (rk:Keyed ->Int) (a b o:Array Keyed) (x y:Nat):Prop:=Jn (λ p=>- rk p) a.toList.reverse b.toList.reverse o.toList (a.size - x) (b.size - y)/\x<=a.size/\y<=b.size
theorem JH.swap (h:JH rk a b o x y):JH rk b a o y x:=⟨h.1.swap,h.2.2,h.2.1⟩
def qez (xs:Array Keyed) {k:Nat} (h:k<=xs.size):xs.toList.reverse.drop (xs.size - k)=(xs.toList.take k).reverse:=by
 have:=qko xs.toList k (by rw [z19];exact h)
 rwa [z19] at this
def rcut (xs:Array Keyed) {i k:Nat} (hi:i<=k) (h:k<=xs.size):(xs.toList.reverse.drop (xs.size - k)).take (k - i)=((xs.toList.drop i).take (k - i)).reverse:=by
 have:=qxh xs.toList i k hi (by rw [z19];exact h)
 rwa [z19] at this
def qgb (h:JH rk a b o x y) (ha:Asc rk a.toList) {j:Nat} (O:j<=x) (hx:∀ p∈(a.toList.drop j).take (x - j),∀ q∈b.toList.take y,rk q<=rk p):JH rk a b (o++(a.extract j x).reverse) j y:=by
 obtain ⟨J,h1,h2⟩:=h;refine ⟨?_,by lia,h2⟩;have:=J.moreA (qga ha) (x - j) (λ p Z q hq=>by
  rw [rcut a O h1] at Z;rw [qez b h2] at hq;have:=hx p (List.mem_reverse.mp Z) q (List.mem_reverse.mp hq);show - rk p<= - rk q
  lia)
 rw [rcut a O h1,show a.size - x+(x - j)=a.size - j by lia] at this;rw [z1a,Array.toList_reverse,z13,z0a];exact this
def q9v {p:Keyed} (h:JH rk a b o x y) (ha:Asc rk a.toList) (h1:1<=x) (e:a[x - 1]? =some p) (J:∀ q∈b.toList.take y,rk q<=rk p):JH rk a b (o.push p) (x - 1) y:=by
 have e':a.toList[x - 1]? =some p:=by rw [z0x];exact e
 have t1:(a.toList.drop (x - 1)).take (x - (x - 1))=[p]:=by
  rw [show x - (x - 1)=1 by lia];exact qdl e'
 have:=qgb h ha (j:=x - 1) (by lia) (by rw [t1];intro z hz;rw [z1m.mp hz];exact J);have e2:(o++(a.extract (x - 1) x).reverse)=o.push p:=by
  apply Array.toList_inj.mp
  rw [z1a,Array.toList_reverse,z13,z0a,t1,z20];rfl
 rwa [e2] at this
def qxk (h:JH rk a b o x y) (hb:Asc rk b.toList) {j:Nat} (hj:j<=y) (hx:∀ p∈(b.toList.drop j).take (y - j),∀ q∈a.toList.take x,rk q<=rk p):JH rk a b (o++(b.extract j y).reverse) x j:=(qgb h.swap hb hj hx).swap
def qks {p:Keyed} (h:JH rk a b o x y) (hb:Asc rk b.toList) (h1:1<=y) (e:b[y - 1]? =some p) (J:∀ q∈a.toList.take x,rk q<=rk p):JH rk a b (o.push p) x (y - 1):=(q9v h.swap hb h1 e J).swap
def qkt (xs:Array Keyed) (k:Nat):(xs.extract 0 k).toList=xs.toList.take k:=by
 rw [z13,z0a,List.drop_zero,Nat.sub_zero]
def good_headB' (h:JH rk a b o x y) (ha:Asc rk a.toList) (hb:Asc rk b.toList) (hq:∀ p∈a.toList.take x,∀ q∈b.toList.take y,rk q<=rk p):Good rk a b (q6n a b o x y):=by
 obtain ⟨J,h1,h2⟩:=h;have:=J.done (qga ha) (qga hb) (λ p Z q O=>by
  rw [qez a h1] at Z;rw [qez b h2] at O;have:=hq p (List.mem_reverse.mp Z) q (List.mem_reverse.mp O);show - rk p<= - rk q
  lia)
 rw [qez a h1,qez b h2] at this;have e:(q6n a b o x y).toList=(o.toList++(a.toList.take x).reverse++(b.toList.take y).reverse).reverse:=by
  unfold q6n;rw [z1a,z1a,qkt,qkt,Array.toList_reverse];simp
 unfold Good;rw [e];exact ⟨(List.reverse_perm _).trans (this.1.trans ((List.reverse_perm _).append (List.reverse_perm _))),asc_rev' this.2⟩
def good_headA' (h:JH rk a b o x y) (ha:Asc rk a.toList) (hb:Asc rk b.toList) (hq:∀ p∈b.toList.take y,∀ q∈a.toList.take x,rk q<=rk p):Good rk a b (q3o a b o x y):=by
 obtain ⟨p,q⟩:=good_headB' h.swap hb ha hq;exact ⟨p.trans z0u,q⟩
def q7p (h:JH rk a b o x y) (ha:Asc rk a.toList) (hb:Asc rk b.toList) (hx:x=0):Good rk a b (q3o a b o x y):=by
 refine good_headA' h ha hb λ p _ q hq=> ?_;rw [hx,List.take_zero] at hq;cases hq
end
section
variable {S:Keyed ->Prop} {rk:Keyed ->Int} {a b o:Array Keyed} {x y:Nat}
def q7q (m:Mg S rk a b) (h:JH rk a b o x y) (hy:y=1):Good rk a b (q6n a b o x y):=by
 obtain ⟨z,ez,hz⟩:=m.bot;refine good_headB' h m.aa m.ab λ p hp q hq=> ?_;subst hy;obtain ⟨j,hj,e⟩:=z12.mp hq;rw [z2g] at hj;have j0:j=0:=by lia
 subst j0;rw [z1z] at e;have:b.toList[0]? =some q:=by rw [<- e,z0d]
 rw [z0x,ez] at this;cases this
 exact z3v (hz p (z15 hp))
def qku (m:Mg S rk a b) {i:Nat} {p:Keyed} (h1:1<=i) (e:a[i - 1]? =some p):∀ q∈a.toList.take i,rk q<=rk p:=by
 have:=qo8 m.aa (i:=i - 1) (x:=p) (by rw [z0x];exact e)
 rwa [show i - 1+1=i by lia] at this
def qkv (m:Mg S rk a b) {i:Nat} {p:Keyed} (h1:1<=i) (e:b[i - 1]? =some p):∀ q∈b.toList.take i,rk q<=rk p:=by
 have:=qo8 m.ab (i:=i - 1) (x:=p) (by rw [z0x];exact e)
 rwa [show i - 1+1=i by lia] at this
def qkw {l:List Keyed} {k:Nat} {p:Keyed} (h:p∈l.take k):∃ j,j < k/\l[j]? =some p:=by
 have:=q99 (l:=l) (i:=0) (k:=k) (p:=p) (by simpa using h);obtain ⟨j,a,b⟩:=this;exact ⟨j,a,by rwa [z3x] at b⟩
end
abbrev HiSt:=Option (Array Keyed)×Nat×Nat×Array Keyed×Nat×Nat×Nat
def qf0 (a b:Array Keyed) (ca cb g:Nat) (o:Array Keyed) (x y:Nat):StateT SortSt Sem (ForInStep HiSt):=do
 let p <- elem' a (x - 1)
 if (x - 1==0)=true then pure (ForInStep.done (some (q3o a b (o.push p) (x - 1) y),x - 1,y,o.push p,g,ca,cb))
 else if (decide (ca < 7)&&decide (cb < 7))=true then pure (ForInStep.done (none,x - 1,y,o.push p,g,ca,cb))
 else pure (ForInStep.yield (none,x - 1,y,o.push p,g,ca,cb))
def qkb (a b:Array Keyed) (ca cb g:Nat) (o:Array Keyed) (x y:Nat):StateT SortSt Sem (ForInStep HiSt):=do
 let p <- elem' b (y - 1)
 if (y - 1==1)=true then pure (ForInStep.done (some (q6n a b (o.push p) x (y - 1)),x,y - 1,o.push p,g,ca,cb))
 else do
  let some j <- q2z true (<- elem' a (x - 1)) b 0 (y - 1) (y - 1 - 1) | pure (ForInStep.done (some (q3o a b (o.push p) x (y - 1)),x,y - 1,o.push p,g,ca,cb))
  if y - 1 - j > 0 then
   if (j==1)=true then pure (ForInStep.done (some (q6n a b (o.push p++(b.extract j (y - 1)).reverse) x j),x,j,o.push p++(b.extract j (y - 1)).reverse,g,ca,y - 1 - j))
   else if (j==0)=true then pure (ForInStep.done (some (q3o a b (o.push p++(b.extract j (y - 1)).reverse) x j),x,j,o.push p++(b.extract j (y - 1)).reverse,g,ca,y - 1 - j))
   else qf0 a b ca (y - 1 - j) g (o.push p++(b.extract j (y - 1)).reverse) x j
  else qf0 a b ca (y - 1 - j) g (o.push p) x (y - 1)
def qpr (a b:Array Keyed) (ca cb g:Nat) (o:Array Keyed) (x y:Nat):StateT SortSt Sem (ForInStep HiSt):=do
 modify λ st=>q80 st g
 let some j <- q2z false (<- elem' b (y - 1)) a 0 x (x - 1) | pure (ForInStep.done (some (q3o a b o x y),x,y,o,g,ca,cb))
 if x - j > 0 then
  if (j==0)=true then pure (ForInStep.done (some (q3o a b (o++(a.extract j x).reverse) j y),j,y,o++(a.extract j x).reverse,g,x - j,cb))
  else qkb a b (x - j) cb g (o++(a.extract j x).reverse) j y
 else qkb a b (x - j) cb g o x y
section
variable {M:Model} {A:Around} {E:xB} {s:Shared} {kd:SortKind} {S:Keyed ->Prop} {rk:Keyed ->Int} {a b:Array Keyed} {st:SortSt}
structure GoH (rk:Keyed ->Int) (a b o:Array Keyed) (x y:Nat):Prop where
 jn:JH rk a b o x y
 hx:1<=x
 hy:2<=y
def HiQ (rk:Keyed ->Int) (a b:Array Keyed) (st:SortSt) (n:Nat) (r:ForInStep HiSt) (st':SortSt):Prop:=Gl st st'/\match r with
 | .done c=>(∃ r,c.1=some r/\Good rk a b r)\/ (c.1=none/\GoH rk a b c.2.2.2.1 c.2.1 c.2.2.1/\c.2.1+c.2.2.1<=n)
 | .yield c=>c.1=none/\GoH rk a b c.2.2.2.1 c.2.1 c.2.2.1/\c.2.1+c.2.2.1<=n
def qkx (m:Mg S rk a b) {O:SortSt} {n ca cb g x y:Nat} {o:Array Keyed} (hg:Gl st O) (J:JH rk a b o x y) (hx:1<=x) (hy:2<=y)
  (a0:∀ p,a[x - 1]? =some p ->∀ q∈b.toList.take y,rk q<=rk p) (hn:x+y<=n+1):wpS M A E s (qf0 a b ca cb g o x y) (HiQ rk a b st n) O:=by
 have hz:=J.2.1;obtain ⟨p,e,_,_⟩:=m.atA (i:=x - 1) (by lia);have Z:=q9v J m.aa hx e (a0 p e);unfold qf0;refine wpS_bind (q21 e ?_);by_cases c1:x - 1=0
 ·rw [if_pos (by simpa using c1)];exact wpS_pure ⟨hg,.inl ⟨_,zr,q7p Z m.aa m.ab c1⟩⟩
 ·rw [if_neg (by simpa using c1)];by_cases c2:(decide (ca < 7)&&decide (cb < 7))=true
  ·rw [if_pos c2];exact wpS_pure ⟨hg,.inr ⟨rfl,⟨Z,by show 1<=x - 1;lia,hy⟩,by show x - 1+y<=n;lia⟩⟩
  ·rw [if_neg c2];exact wpS_pure ⟨hg,rfl,⟨Z,by show 1<=x - 1;lia,hy⟩,by show x - 1+y<=n;lia⟩
def qob (L:LtOk M A E s kd S rk) (hk:kindOf st=kd) (m:Mg S rk a b) {a0:SortSt} {n ca cb g x y:Nat} {o:Array Keyed} (Z:Gl st a0) (J:JH rk a b o x y) (hx:1<=x) (hy:2<=y)
  (a1:∀ p,b[y - 1]? =some p ->∀ q∈a.toList.take x,rk q<=rk p) (hn:x+y<=n+1):wpS M A E s (qkb a b ca cb g o x y) (HiQ rk a b st n) a0:=by
 have hz1:=J.2.1;have hz2:=J.2.2;obtain ⟨p,e,_,_⟩:=m.atB (i:=y - 1) (by lia);have J':=qks J m.ab (by lia) e (a1 p e);unfold qkb;refine wpS_bind (q21 e ?_);by_cases c1:y - 1=1
 ·rw [if_pos (by simpa using c1)];exact wpS_pure ⟨Z,.inl ⟨_,zr,q7q m J' c1⟩⟩
 ·rw [if_neg (by simpa using c1)];obtain ⟨q,eq,sq,mq⟩:=m.atA (i:=x - 1) (by lia);refine wpS_bind (q21 eq ?_);refine wpS_bind (q63 L (Z.kind.trans hk) sq (λ i hi=> ?_) (qex m.ab _ _ (by lia)) (by lia) λ j j1 j2 j3=> ?_)
  ·obtain ⟨p,e,sp,_⟩:=m.atB (i:=0+i) (by lia);exact ⟨p,e,sp⟩
  dsimp only
  have after:∀ p',a[x - 1]? =some p' ->∀ z∈b.toList.take j,rk z<=rk p':=λ p' ep z hz=>by
   rw [eq] at ep;cases ep
   obtain ⟨i,h1,O⟩:=qkw hz;have:=j2 i h1;rw [z3x,q30 b i O] at this;simp [ahd] at this
   lia
  by_cases c2:y - 1 - j > 0
  ·rw [if_pos c2];have J2:=qxk J' m.ab (j:=j) (by lia) λ z hz w hw=>by
    obtain ⟨i,h1,O⟩:=q99 hz;have:=j3 (j+i) (by lia) (by lia);rw [z3x,q30 b _ O] at this;simp [ahd] at this
    have:=qku m hx eq w hw
    lia
   by_cases c3:j=1
   ·rw [if_pos (by simpa using c3)];exact wpS_pure ⟨Z,.inl ⟨_,zr,q7q m J2 c3⟩⟩
   ·rw [if_neg (by simpa using c3)];have c4:¬ j=0:=λ c4=>by
     obtain ⟨z,O,hz⟩:=m.bot;have:=j3 0 (by lia) (by lia);rw [z3x,q3m O] at this;simp [ahd] at this
     have:=hz q mq
     lia
    rw [if_neg (by simpa using c4)];exact qkx m Z J2 hx (by lia) after (by lia)
  ·rw [if_neg c2];have ej:j=y - 1:=by lia
   subst ej;exact qkx m Z J' hx (by lia) after (by lia)
def qxl (L:LtOk M A E s kd S rk) (hk:kindOf st=kd) (m:Mg S rk a b) {Z:SortSt} {n ca cb g x y:Nat} {o:Array Keyed} (hg:Gl st Z) (G:GoH rk a b o x y) (hn:x+y<=n+1):
  wpS M A E s (qpr a b ca cb g o x y) (HiQ rk a b st n) Z:=by
 obtain ⟨J,hx,hy⟩:=G;have hz1:=J.2.1;have hz2:=J.2.2;unfold qpr;refine wpS_bind (wpS_modify ?_);have O:=hg.set g;obtain ⟨q,eq,sq,mq⟩:=m.atB (i:=y - 1) (by lia);refine wpS_bind (q21 eq ?_);refine wpS_bind (q63 L (O.kind.trans hk) sq (λ i hi=> ?_) (qex m.aa _ _ (by lia)) (by lia) λ j j1 j2 j3=> ?_)
 ·obtain ⟨p,e,sp,_⟩:=m.atA (i:=0+i) (by lia);exact ⟨p,e,sp⟩
 dsimp only
 have after:∀ p',b[y - 1]? =some p' ->∀ z∈a.toList.take j,rk z<=rk p':=λ p' ep z hz=>by
  rw [eq] at ep;cases ep
  obtain ⟨i,h1,ez⟩:=qkw hz;have:=j2 i h1;rw [z3x,q30 a i ez] at this;simp [ahd] at this
  lia
 by_cases c2:x - j > 0
 ·rw [if_pos c2];have J2:=qgb J m.aa (j:=j) (by lia) λ z hz w hw=>by
   obtain ⟨i,h1,ez⟩:=q99 hz;have:=j3 (j+i) (by lia) (by lia);rw [z3x,q30 a _ ez] at this;simp [ahd] at this
   have:=qkv m (by lia) eq w hw
   lia
  by_cases c3:j=0
  ·rw [if_pos (by simpa using c3)];exact wpS_pure ⟨O,.inl ⟨_,zr,q7p J2 m.aa m.ab c3⟩⟩
  ·rw [if_neg (by simpa using c3)];exact qob L hk m O J2 (by lia) hy after (by lia)
 ·rw [if_neg c2];have ej:j=x:=by lia
  subst ej;exact qob L hk m O J hx hy after hn
def qri (L:LtOk M A E s kd S rk) (hk:kindOf st=kd) (m:Mg S rk a b) {Q:Array Keyed ->SortSt ->Prop} (h:∀ r O,Gl st O ->Good rk a b r ->Q r O):wpS M A E s (qdr a b) Q st:=by
 rw [qnl];refine wpS_bind (wpS_lift (z4d ⟨zr,?_⟩));have na:=m.na;have nb:=m.nb;obtain ⟨q,eq,sq,mq⟩:=m.atA (i:=a.size - 1) (by lia);refine wpS_bind (q21 eq ?_);have J1:JH rk a b #[q] (a.size - 1) b.size:=by
  obtain ⟨z,ez,hz⟩:=m.top;rw [eq] at ez;cases ez
  have J0:JH rk a b #[] a.size b.size:=⟨by rw [Nat.sub_self,Nat.sub_self];exact Jn.start,z48 _,z48 _⟩;exact q9v (o:=#[]) J0 m.aa na eq λ w hw=>z3v (hz w (z15 hw))
 by_cases c1:a.size - 1=0
 ·rw [if_pos (by simpa using c1)];exact wpS_pure (h _ _ (Gl.refl _) (q7p J1 m.aa m.ab c1))
 ·rw [if_neg (by simpa using c1)];by_cases c2:b.size=1
  ·rw [if_pos (by simpa using c2)];exact wpS_pure (h _ _ (Gl.refl _) (q7q m J1 c2))
  ·rw [if_neg (by simpa using c2)];refine wpS_bind (wpS_get ?_);have G1:GoH rk a b #[q] (a.size - 1) b.size:=⟨J1,by lia,by lia⟩;refine wpS_bind (wpS_mono (wpS_forRange (I:=λ i c O=>Gl st O/\∃ x y o g,c=(none,x,y,o,g)/\GoH rk a b o x y/\x+y+i+1<=a.size+b.size)
    (Q:=λ c O=>Gl st O/\∃ r x y o g,c=(some r,x,y,o,g)/\Good rk a b r) ?turn ?last ⟨Gl.refl _,_,_,#[q],_,rfl,G1,by lia⟩) ?after)
   case after=>
    rintro c O ⟨hg,r,x,y,o,g,rfl,hr⟩;exact wpS_pure (h r O hg hr)
   case last=>
    rintro c O ⟨hg,x,y,o,g,rfl,G,hi⟩;have:=G.hx;have:=G.hy
    exfalso
    lia
   case turn=>
    rintro i c O _ hi ⟨hg,x,y,o,g,rfl,G,hxy⟩
    dsimp only
    refine wpS_bind (wpS_mono (wpS_forRange (I:=λ j c Z=>Gl st Z/\∃ x y o ca cb,c=(none,x,y,o,ca,cb)/\GoH rk a b o x y/\x+y+i+1+j<=a.size+b.size)
     (Q:=λ c Z=>Gl st Z/\∃ r x y o ca cb,c=(r,x,y,o,ca,cb)/\match r with
      | some r=>Good rk a b r
      | none=>GoH rk a b o x y/\x+y+i+2<=a.size+b.size) ?iturn ?ilast ⟨hg,x,y,o,0,0,rfl,G,by lia⟩) ?iafter)
    case ilast=>
     rintro c Z ⟨J,x,y,o,ca,cb,rfl,G,hj⟩;have:=G.hx;have:=G.hy
     exfalso
     lia
    case iturn=>
     rintro j c Z _ hj ⟨J,x,y,o,ca,cb,rfl,G,a4⟩
     dsimp only
     have g1:=G.hx;have g2:=G.hy;have z1:=G.jn.2.1;have z2:=G.jn.2.2;obtain ⟨pb,eb,sb,mb⟩:=m.atB (i:=y - 1) (by lia);obtain ⟨pa,ea,sa,ma⟩:=m.atA (i:=x - 1) (by lia);refine wpS_bind (q21 eb (wpS_bind (q21 ea (wpS_bind (L pb pa Z _ sb sa (J.kind.trans hk) ?_)))));by_cases hw:rk pb < rk pa
     ·simp only [hw,z49,if_true];refine wpS_bind (q21 ea ?_);have J2:=q9v G.jn m.aa g1 ea λ z hz=>z3w (qkv m (by lia) eb z hz) (z3v hw);by_cases c3:x - 1=0
      ·rw [if_pos (by simpa using c3)];exact wpS_pure ⟨J,_,_,_,_,_,_,zr,q7p J2 m.aa m.ab c3⟩
      ·rw [if_neg (by simpa using c3)];have G2:GoH rk a b (o.push pa) (x - 1) y:=⟨J2,by lia,g2⟩;split
       ·exact wpS_pure ⟨J,_,_,_,_,_,_,zr,G2,by lia⟩
       ·exact wpS_pure ⟨J,_,_,_,_,_,zr,G2,by lia⟩
     ·simp only [hw,z3u,z1k,if_false];refine wpS_bind (q21 eb ?_);have J2:=qks G.jn m.ab (by lia) eb λ z hz=>z3w (qku m g1 ea z hz) (by lia);by_cases c3:y - 1=1
      ·rw [if_pos (by simpa using c3)];exact wpS_pure ⟨J,_,_,_,_,_,_,zr,q7q m J2 c3⟩
      ·rw [if_neg (by simpa using c3)];have G2:GoH rk a b (o.push pb) x (y - 1):=⟨J2,g1,by lia⟩;split
       ·exact wpS_pure ⟨J,_,_,_,_,_,_,zr,G2,by lia⟩
       ·exact wpS_pure ⟨J,_,_,_,_,_,zr,G2,by lia⟩
    case iafter=>
     rintro c Z ⟨J,r,x2,y2,o2,ca,cb,rfl,hr⟩;cases r with
     | some r=>exact wpS_pure ⟨J,r,_,_,_,_,rfl,hr⟩
     | none=>
      obtain ⟨G2,a4⟩:=hr
      dsimp only
      refine wpS_bind (wpS_lift (z4d ⟨zr,?_⟩));refine wpS_bind (wpS_mono (wpS_forRange (I:=λ j c a0=>Gl st a0/\∃ x y o g ca cb,c=(none,x,y,o,g,ca,cb)/\GoH rk a b o x y/\x+y+i+2+j<=a.size+b.size)
       (Q:=λ c a0=>Gl st a0/\∃ r x y o g ca cb,c=(r,x,y,o,g,ca,cb)/\match r with
        | some r=>Good rk a b r
        | none=>GoH rk a b o x y/\x+y+i+2<=a.size+b.size) ?gturn ?glast ⟨J,x2,y2,o2,_,_,_,rfl,G2,by lia⟩) ?gafter)
      case glast=>
       rintro c a0 ⟨a1,x,y,o,g,ca,cb,rfl,G,hj⟩;have:=G.hx;have:=G.hy
       exfalso
       lia
      case gturn=>
       rintro j c a0 _ hj ⟨a1,x,y,o,g,ca,cb,rfl,G,a5⟩;have go:∀ g',wpS M A E s (qpr a b ca cb g' o x y) (HiQ rk a b st (x+y - 1)) a0:=λ g'=>qxl L hk m a1 G (by lia);have g1:=G.hx
       dsimp only
       by_cases a3:g > 1
       case' pos=>
        rw [if_pos a3];refine wpS_mono (go (g - 1)) ?_
       case' neg=>
        rw [if_neg a3];refine wpS_mono (go g) ?_
       all_goals
        intro r st4 q;obtain ⟨a2,q⟩:=q;cases r with
        | done c'=>
         obtain ⟨r,x',y',o',g',a6,a7⟩:=c';rcases q with ⟨r',e,q⟩ | ⟨e,q,q'⟩
         ·simp only at e;subst e;exact ⟨a2,_,_,_,_,_,_,_,zr,q⟩
         ·simp only at e q q';subst e;exact ⟨a2,_,_,_,_,_,_,_,zr,q,by lia⟩
        | yield c'=>
         obtain ⟨r,x',y',o',g',a6,a7⟩:=c';obtain ⟨e,q,q'⟩:=q;simp only at e q q';subst e;exact ⟨a2,_,_,_,_,_,_,zr,q,by lia⟩
      case gafter=>
       rintro c a0 ⟨a1,r,x3,y3,o3,g3,ca3,cb3,rfl,hr⟩;cases r with
       | some r=>exact wpS_pure ⟨a1,r,_,_,_,_,rfl,hr⟩
       | none=>
        obtain ⟨G3,a5⟩:=hr
        dsimp only
        exact wpS_bind (wpS_modify (wpS_pure ⟨a1.set _,_,_,_,_,zr,G3,by lia⟩))
end
def qxm {M:Model} {A:Around} {E:xB} {s:Shared} {σ:Type} {v:σ} {Q:PUnit ->σ ->Prop} {st:σ} (h:Q ⟨⟩ v):wpS M A E s (set v:StateT σ Sem PUnit) Q st:=by
 unfold wpS;rw [StateT.run_set];exact z4e ⟨zr,h⟩
def wrt (base:Nat) (l:List (Keyed×Nat)) (xs:Array Keyed):Array Keyed:=l.foldl (λ a q=>a.setIfInBounds (base+q.2) q.1) xs
def qps (i:Nat):mergeAt' i=(do
 let c <- get
 let (some (sa,na,pw),some (sb,nb,_)):=((pendingOf c)[i]?,(pendingOf c)[i+1]?) | unsupported "internal:list.sort.pending"
 set (setPending c (((pendingOf c).setIfInBounds i (sa,na+nb,pw)).eraseIdxIfInBounds (i+1)))
 let some k <- q2z false (<- elem' (arrOf c) sb) (arrOf c) sa na 0 | return false
 let (sa,na):=(sa+k,na - k)
 if na==0 then return true
 let some nb <- q2z true (<- elem' (arrOf c) (sa+na - 1)) (arrOf c) sb nb (nb - 1) | return false
 if nb==0 then return true
 let x:=(arrOf c).extract sa sb
 let y:=(arrOf c).extract sb (sb+nb)
 let r <- if na<=nb then qdn x y else qdr x y
 modify λ c=>setArr c (wrt sa r.toList.zipIdx (arrOf c))
 return (failedOf (<- get)).isNone):=rfl
theorem qky (base:Nat):∀ (l:List Keyed) (k:Nat) (xs:Array Keyed),base+k+l.length<=xs.size ->∀ j,(wrt base (l.zipIdx k) xs)[j]? =if base+k<=j/\j < base+k+l.length then l[j - (base+k)]? else xs[j]?
 | [],k,xs,_,j=>by
  rw [if_neg (by simp)];rfl
 | p::r,k,xs,h,j=>by
  have h':base+k+(r.length+1)<=xs.size:=h;have ih:=qky base r (k+1) (xs.setIfInBounds (base+k) p) (by rw [Array.size_setIfInBounds];lia) j;rw [List.zipIdx_cons];show (wrt base (r.zipIdx (k+1)) (xs.setIfInBounds (base+k) p))[j]? =_;rw [ih,z2i];by_cases J:base+(k+1)<=j/\j < base+(k+1)+r.length
  ·rw [if_pos J,if_pos (by lia),show j - (base+k)=j - (base+(k+1))+1 by lia,List.getElem?_cons_succ]
  ·rw [if_neg J,Array.getElem?_setIfInBounds];by_cases c2:base+k=j
   ·rw [if_pos c2,if_pos (by lia),if_pos (by lia),show j - (base+k)=0 by lia];rfl
   ·rw [if_neg c2,if_neg (by lia)]
def qug (base:Nat) (l:List Keyed) (xs:Array Keyed) (h:base+l.length<=xs.size):(wrt base l.zipIdx xs).toList=xs.toList.take base++l++xs.toList.drop (base+l.length):=by
 apply z21
 intro j;have:=qky base l 0 xs (by lia) j;rw [z0x];rw [this];have e1:(xs.toList.take base).length=base:=by rw [z2g,z19];lia
 by_cases c1:j < base
 ·rw [if_neg (by lia),z1y,List.getElem?_append_left (by lia),List.getElem?_take_of_lt c1,z0x]
 ·rw [z1y,z05 (by lia),e1];by_cases c2:j < base+l.length
  ·rw [if_pos (by lia),List.getElem?_append_left (by lia)];rfl
  ·rw [if_neg (by lia),z05 (by lia),List.getElem?_drop,<- z0x]
   congr 1
   lia
def Runs (rk:Keyed ->Int) (xs:Array Keyed):Nat ->List (Nat×Nat×Nat) ->Nat ->Prop
 | u,[],v=>u=v
 | u,r::l,v=>r.1=u/\1<=r.2.1/\Up rk xs u (u+r.2.1)/\Runs rk xs (u+r.2.1) l v
section
variable {rk:Keyed ->Int} {xs ys:Array Keyed}
theorem Runs.split:∀ {O J:List (Nat×Nat×Nat)} {u v:Nat},Runs rk xs u (O++J) v↔∃ w,Runs rk xs u O w/\Runs rk xs w J v
 | [],J,u,v=>⟨λ h=>⟨u,rfl,h⟩,λ ⟨w,e,h⟩=>by cases e;exact h⟩
 | r::O,J,u,v=>by
  constructor
  ·rintro ⟨a,b,c,d⟩;obtain ⟨w,h1,h2⟩:=Runs.split.mp d;exact ⟨w,⟨a,b,c,h1⟩,h2⟩
  ·rintro ⟨w,⟨a,b,c,d⟩,h2⟩;exact ⟨a,b,c,Runs.split.mpr ⟨w,d,h2⟩⟩
theorem Runs.le:∀ {l:List (Nat×Nat×Nat)} {u v:Nat},Runs rk xs u l v ->u+l.length<=v
 | [],u,v,h=>by cases h;simp
 | r::l,u,v,⟨_,b,_,d⟩=>by
  have:=Runs.le d;rw [z2i]
  lia
def Up.same {lo hi:Nat} (h:Up rk xs lo hi) (e:∀ k,lo<=k ->k < hi ->ys[k]? =xs[k]?):Up rk ys lo hi:=λ i j a b c=>by
 rw [q5e (e i a (by lia)),q5e (e j (by lia) c)];exact h i j a b c
theorem Runs.same:∀ {l:List (Nat×Nat×Nat)} {u v:Nat},Runs rk xs u l v ->(∀ k,u<=k ->k < v ->ys[k]? =xs[k]?) ->Runs rk ys u l v
 | [],u,v,h,_=>h
 | r::l,u,v,⟨a,b,c,d⟩,e=>by
  have:=Runs.le d;exact ⟨a,b,c.same λ k h1 h2=>e k h1 (by lia),d.same λ k h1 h2=>e k (by lia) h2⟩
theorem Runs.pow:∀ {l J:List (Nat×Nat×Nat)} {u v:Nat},Runs rk xs u l v ->J.map (λ r=>(r.1,r.2.1))=l.map (λ r=>(r.1,r.2.1)) ->Runs rk xs u J v
 | [],J,u,v,h,e=>by
  have:J=[]:=by simpa using e
  subst this;exact h
 | r::l,J,u,v,⟨a,b,c,d⟩,e=>by
  cases J with
  | nil=>simp at e
  | cons r' J=>
   simp only [z3l,z2v,Prod.mk.injEq] at e;obtain ⟨⟨e1,e2⟩,e3⟩:=e;exact ⟨e1.trans a,by lia,by rw [e2];exact c,by rw [e2];exact d.pow e3⟩
end
section
variable {M:Model} {A:Around} {E:xB} {s:Shared} {kd:SortKind} {S:Keyed ->Prop} {rk:Keyed ->Int} {n:Nat}
def qoc {xs:Array Keyed} {i j:Nat} (hj:j<=xs.size) (h:Up rk xs i j):Asc rk (xs.extract i j).toList:=by
 unfold Asc;rw [z08];intro p q J hq hpq;have hl:(xs.extract i j).toList.length=j - i:=by rw [z19,z1n];lia
 have e:∀ p (J:p < (xs.extract i j).toList.length),rk (xs.extract i j).toList[p]=kx rk xs (i+p):=λ p J=>by
  refine (q3m ?_).symm;have h1:(xs.extract i j)[p]? =some (xs.extract i j).toList[p]:=by rw [<- z0x,z0d]
  rw [<- h1,Array.getElem?_extract,if_pos (by lia)]
 rw [e p J,e q hq];exact h _ _ (by lia) (by lia) (by lia)
def q7u {xs:Array Keyed} {i j:Nat} (hj:j<=xs.size) {p:Keyed} (h:p∈(xs.extract i j).toList):∃ k,i<=k/\k < j/\xs[k]? =some p:=by
 obtain ⟨q,hq,e⟩:=z12.mp h;have hl:(xs.extract i j).toList.length=j - i:=by rw [z19,z1n];lia
 refine ⟨i+q,by lia,by lia,?_⟩;have h1:(xs.extract i j)[q]? =some p:=by rw [<- z0x,z0d hq,e]
 rw [<- h1,Array.getElem?_extract,if_pos (by lia)]
def qrj {xs:Array Keyed} {i j k:Nat} (h:i+k < j) (hj:j<=xs.size):(xs.extract i j)[k]? =xs[i+k]? :=by
 rw [Array.getElem?_extract,if_pos (by lia)]
def Mv.wrote {st:SortSt} {a m b:Nat} {r:Array Keyed} (h1:a<=m) (h2:m<=b) (hb:b<=(arrOf st).size) (hr:r.toList.Perm (((arrOf st).extract a m).toList++((arrOf st).extract m b).toList)):
  Mv a b st (setArr st (wrt a r.toList.zipIdx (arrOf st)))/\(∀ j,a<=j ->j < b ->∃ p,(wrt a r.toList.zipIdx (arrOf st))[j]? =some p/\p∈r.toList/\r.toList[j - a]? =some p):=by
 have hl:r.toList.length=b - a:=by
  rw [hr.length_eq,z1o,z19,z19,z1n,z1n]
  lia
 have hw:=qug a r.toList (arrOf st) (by lia);have J:=qky a r.toList 0 (arrOf st) (by lia);refine ⟨⟨?_,λ k hk=> ?_,zr,zr,zr⟩,λ j ha hb'=> ?_⟩
 ·rw [z04];show (wrt a r.toList.zipIdx (arrOf st)).toList.Perm (arrOf st).toList;rw [hw,hl,show a+(b - a)=b by lia];have e:(arrOf st).toList=(arrOf st).toList.take a++(((arrOf st).extract a m).toList++((arrOf st).extract m b).toList)++(arrOf st).toList.drop b:=by
   rw [z13,z13,z0a,z0a];have e1:(arrOf st).toList.drop a=((arrOf st).toList.drop a).take (m - a)++(arrOf st).toList.drop m:=by
    have:=q7m (arrOf st).toList a (m - a)
    rwa [show a+(m - a)=m by lia] at this
   have e2:(arrOf st).toList.drop m=((arrOf st).toList.drop m).take (b - m)++(arrOf st).toList.drop b:=by
    have:=q7m (arrOf st).toList m (b - m)
    rwa [show m+(b - m)=b by lia] at this
   rw [z1y,z1y,<- e2,<- e1,z0v]
  refine List.Perm.trans ?_ (List.Perm.of_eq e.symm);exact (hr.append_left _).append_right _
 ·show (wrt a r.toList.zipIdx (arrOf st))[k]? =_;rw [J k,if_neg (by lia)]
 ·have O:j - a < r.toList.length:=by lia
  refine ⟨r.toList[j - a],?_,by simp,z0d O⟩;rw [J j,if_pos (by lia),Nat.add_zero,z0d O]
structure Merged (rk:Keyed ->Int) (lo hi:Nat) (p:Array (Nat×Nat×Nat)) (st st':SortSt):Prop where
 perm:(arrOf st').Perm (arrOf st)
 out:∀ k,k < lo\/ hi<=k ->(arrOf st')[k]? =(arrOf st)[k]?
 kind:kindOf st'=kindOf st
 failed:failedOf st'=failedOf st
 pend:pendingOf st'=p
 up:Up rk (arrOf st') lo hi
def qhw (L:LtOk M A E s kd S rk) {st:SortSt} (B:Sane kd S n st) {i sa na pw nb p2:Nat} (e1:(pendingOf st)[i]? =some (sa,na,pw)) (e2:(pendingOf st)[i+1]? =some (sa+na,nb,p2)) (ha:1<=na) (hb:1<=nb) (hn:sa+na+nb<=n)
  (u1:Up rk (arrOf st) sa (sa+na)) (u2:Up rk (arrOf st) (sa+na) (sa+na+nb)) {Q:Bool ->SortSt ->Prop}
  (h:∀ J,Merged rk sa (sa+na+nb) (((pendingOf st).setIfInBounds i (sa,na+nb,pw)).eraseIdxIfInBounds (i+1)) st J ->Q true J):wpS M A E s (mergeAt' i) Q st:=by
 rw [qps];refine wpS_bind (wpS_get ?_);rw [e1,e2]
 dsimp only
 refine wpS_bind (qxm ?_);have O:∀ j,j < n ->∃ p,(arrOf st)[j]? =some p/\S p:=λ j hj=>by
  obtain ⟨p,a,b,_⟩:=B.at rk hj;exact ⟨p,a,b⟩
 have hz:=B.size;obtain ⟨q,eq,sq⟩:=O (sa+na) (by lia);have kq:kx rk (arrOf st) (sa+na)=rk q:=q3m eq;refine wpS_bind (q21 eq ?_);refine wpS_bind (q63 L B.kind sq (λ j hj=>O (sa+j) (by lia)) u1 (by lia) λ k k1 k2 k3=> ?_)
 dsimp only
 have a5:∀ j,sa<=j ->j < sa+k ->kx rk (arrOf st) j<=kx rk (arrOf st) (sa+na):=λ j a b=>by
  have:=k2 (j - sa) (by lia);rw [show sa+(j - sa)=j by lia] at this;simp [ahd] at this
  rw [kq];exact this
 have a1:∀ j,sa+k<=j ->j < sa+na ->kx rk (arrOf st) (sa+na) < kx rk (arrOf st) j:=λ j a b=>by
  have:=k3 (j - sa) (by lia) (by lia);rw [show sa+(j - sa)=j by lia] at this;simp [ahd] at this
  rw [kq]
  lia
 have Z:kx rk (arrOf st) (sa+na - 1)<=kx rk (arrOf st) (sa+na) ->Up rk (arrOf st) sa (sa+na+nb):=λ hle i j a b c=>by
  by_cases c1:j < sa+na
  ·exact u1 i j a b c1
  ·by_cases c2:sa+na<=i
   ·exact u2 i j c2 b c
   ·have h1:=u1 i (sa+na - 1) a (by lia) (by lia);have h2:=u2 (sa+na) j (z48 _) (by lia) c
    lia
 by_cases c0:na - k=0
 ·rw [if_pos (by simpa using c0)];exact wpS_pure (h _ ⟨Array.Perm.refl _,λ _ _=>rfl,zr,zr,zr,Z (a5 _ (by lia) (by lia))⟩)
 ·rw [if_neg (by simpa using c0)];have el:sa+k+(na - k) - 1=sa+na - 1:=by lia
  rw [el];obtain ⟨z,ez,sz⟩:=O (sa+na - 1) (by lia);have kz:kx rk (arrOf st) (sa+na - 1)=rk z:=q3m ez;refine wpS_bind (q21 ez ?_);refine wpS_bind (q63 L B.kind sz (λ j hj=>O (sa+na+j) (by lia)) u2 (by lia) λ k' k1' b3 b4=> ?_)
  dsimp only
  have a2:∀ j,sa+na<=j ->j < sa+na+k' ->kx rk (arrOf st) j < kx rk (arrOf st) (sa+na - 1):=λ j a b=>by
   have:=b3 (j - (sa+na)) (by lia);rw [show sa+na+(j - (sa+na))=j by lia] at this;simp [ahd] at this
   rw [kz];exact this
  have a0:∀ j,sa+na+k'<=j ->j < sa+na+nb ->kx rk (arrOf st) (sa+na - 1)<=kx rk (arrOf st) j:=λ j a b=>by
   have:=b4 (j - (sa+na)) (by lia) (by lia);rw [show sa+na+(j - (sa+na))=j by lia] at this;simp [ahd] at this
   rw [kz]
   lia
  by_cases c1:k'=0
  ·rw [if_pos (by simpa using c1)];exact wpS_pure (h _ ⟨Array.Perm.refl _,λ _ _=>rfl,zr,zr,zr,Z (a0 _ (by lia) (by lia))⟩)
  ·rw [if_neg (by simpa using c1)];have m:Mg S rk ((arrOf st).extract (sa+k) (sa+na)) ((arrOf st).extract (sa+na) (sa+na+k')):=by
    refine ⟨λ p hp=> ?_,λ p hp=> ?_,qoc (by lia) λ i j a b c=>u1 i j (by lia) b c,qoc (by lia) λ i j a b c=>u2 i j a b (by lia),by rw [z1n];lia,by rw [z1n];lia,⟨z,?_,λ p hp=> ?_⟩,⟨q,?_,λ p hp=> ?_⟩⟩
    ·obtain ⟨j,h1,h2,e⟩:=q7u (by lia) hp;obtain ⟨p',e',sp⟩:=O j (by lia);rw [e] at e';cases e'
     exact sp
    ·obtain ⟨j,h1,h2,e⟩:=q7u (by lia) hp;obtain ⟨p',e',sp⟩:=O j (by lia);rw [e] at e';cases e'
     exact sp
    ·rw [z1n,qrj (by lia) (by lia),<- ez]
     congr 1
     lia
    ·obtain ⟨j,h1,h2,e⟩:=q7u (by lia) hp;have:=a2 j h1 h2
     rwa [kz,q3m e] at this
    ·rw [qrj (by lia) (by lia),<- eq];rfl
    ·obtain ⟨j,h1,h2,e⟩:=q7u (by lia) hp;have:=a1 j h1 h2
     rwa [kq,q3m e] at this
   have fin:∀ (r:Array Keyed) (J:SortSt),Gl (setPending st (((pendingOf st).setIfInBounds i (sa,na+nb,pw)).eraseIdxIfInBounds (i+1))) J ->Good rk ((arrOf st).extract (sa+k) (sa+na)) ((arrOf st).extract (sa+na) (sa+na+k')) r ->
     wpS M A E s ((modify λ c=>setArr c (wrt (sa+k) r.toList.zipIdx (arrOf c)):StateT SortSt Sem PUnit) >>=λ _=>get >>=λ c=>pure (failedOf c).isNone) Q J:=by
    intro r J hg hr;have a9:arrOf J=arrOf st:=hg.arr;refine wpS_bind (wpS_modify (wpS_bind (wpS_get (wpS_pure ?_))));have hf:failedOf J=none:=hg.failed.trans B.failed;show Q (failedOf J).isNone _;rw [hf];have hw:=Mv.wrote (st:=st) (a:=sa+k) (m:=sa+na) (b:=sa+na+k') (r:=r) (by lia) (by lia) (by lia) hr.1;obtain ⟨v,at'⟩:=hw;have a4:=z08.mp hr.2;have a6:∀ j,sa+k<=j ->j < sa+na+k' ->kx rk (arrOf st) (sa+na)<=kx rk (wrt (sa+k) r.toList.zipIdx (arrOf st)) j/\kx rk (wrt (sa+k) r.toList.zipIdx (arrOf st)) j<=kx rk (arrOf st) (sa+na - 1):=λ j a b=>by
     obtain ⟨p,e,hp,_⟩:=at' j a b;rw [q3m e];rcases z2u.mp (hr.1.mem_iff.mp hp) with hp | hp
     ·obtain ⟨j',h1,h2,e'⟩:=q7u (by lia) hp;rw [<- q3m (rk:=rk) e'];exact ⟨z3v (a1 j' h1 h2),u1 j' (sa+na - 1) (by lia) (by lia) (by lia)⟩
     ·obtain ⟨j',h1,h2,e'⟩:=q7u (by lia) hp;rw [<- q3m (rk:=rk) e'];exact ⟨u2 _ j' (z48 _) h1 (by lia),z3v (a2 j' h1 h2)⟩
    have out:∀ j,j < sa+k\/ sa+na+k'<=j ->kx rk (wrt (sa+k) r.toList.zipIdx (arrOf st)) j=kx rk (arrOf st) j:=λ j hj=>q5e (v.out j hj);rw [show (setArr J (wrt (sa+k) r.toList.zipIdx (arrOf J)))=setArr J (wrt (sa+k) r.toList.zipIdx (arrOf st)) by rw [a9]];refine h _ ⟨v.perm,λ j hj=>v.out j (by lia),hg.kind,hg.failed,hg.pend,λ i j a b c=> ?_⟩;show kx rk (wrt (sa+k) r.toList.zipIdx (arrOf st)) i<=kx rk (wrt (sa+k) r.toList.zipIdx (arrOf st)) j;by_cases i1:i < sa+k
    ·rw [out i (.inl i1)];have li:=a5 i a i1;by_cases j1:j < sa+k
     ·rw [out j (.inl j1)];exact u1 i j a b (by lia)
     ·by_cases j2:j < sa+na+k'
      ·have:=(a6 j (by lia) j2).1
       lia
      ·rw [out j (.inr (by lia))];have:=u2 (sa+na) j (z48 _) (by lia) c
       lia
    ·by_cases i2:i < sa+na+k'
     ·by_cases j2:j < sa+na+k'
      ·obtain ⟨p,ep,_,gp⟩:=at' i (by lia) i2;obtain ⟨p',a8,_,a3⟩:=at' j (by lia) j2;rw [q3m ep,q3m a8];obtain ⟨l1,x1⟩:=z07.mp gp;obtain ⟨l2,x2⟩:=z07.mp a3;rcases Nat.lt_or_ge i j with b2 | b2
       ·have:=a4 (i - (sa+k)) (j - (sa+k)) l1 l2 (by lia)
        rwa [x1,x2] at this
       ·have a7:i=j:=by lia
        subst a7;rw [gp] at a3;cases a3
        exact z4a _
      ·rw [out j (.inr (by lia))];have h1:=(a6 i (by lia) i2).2;have h2:=a0 j (by lia) c
       lia
     ·rw [out i (.inr (by lia)),out j (.inr (by lia))];exact u2 i j (by lia) b c
   by_cases c2:na - k<=k'
   ·rw [if_pos c2];exact wpS_bind (qrh (st:=setPending st (((pendingOf st).setIfInBounds i (sa,na+nb,pw)).eraseIdxIfInBounds (i+1))) L B.kind m λ r J hg hr=>fin r J hg hr)
   ·rw [if_neg c2];exact wpS_bind (qri (st:=setPending st (((pendingOf st).setIfInBounds i (sa,na+nb,pw)).eraseIdxIfInBounds (i+1))) L B.kind m λ r J hg hr=>fin r J hg hr)
end
def qhx {p:Array (Nat×Nat×Nat)} {J O:List (Nat×Nat×Nat)} {r1 r2 r:Nat×Nat×Nat} {i:Nat} (h:p.toList=J++r1::r2::O) (hi:J.length=i):
  ((p.setIfInBounds i r).eraseIdxIfInBounds (i+1)).toList=J++r::O:=by
 have hs:i+1 < (p.setIfInBounds i r).size:=by
  rw [Array.size_setIfInBounds,<- z19,h];simp
  lia
 rw [Array.eraseIdxIfInBounds,dif_pos hs,Array.toList_eraseIdx,Array.toList_setIfInBounds,h,<- hi,List.set_append_right _ _ (z48 _),Nat.sub_self,List.set_cons_zero,
  List.eraseIdx_append_of_length_le (by lia)]
 congr 1
 rw [show J.length+1 - J.length=1 by lia];rfl
def quh {α:Type} {l:List α} {i:Nat} (h:i+1 < l.length):∃ J r1 r2 l2,l=J++r1::r2::l2/\J.length=i:=by
 refine ⟨l.take i,l[i],l[i+1],l.drop (i+2),?_,by rw [z2g];lia⟩;rw [<- z09 h,<- z09 (by lia),z0v]
section
variable {M:Model} {A:Around} {E:xB} {s:Shared} {kd:SortKind} {S:Keyed ->Prop} {rk:Keyed ->Int} {n:Nat}
structure Sr (rk:Keyed ->Int) (kd:SortKind) (S:Keyed ->Prop) (n:Nat) (st:SortSt) (lo:Nat) (st':SortSt):Prop where
 perm:(arrOf st').Perm (arrOf st)
 sane:Sane kd S n st'
 runs:Runs rk (arrOf st') 0 (pendingOf st').toList lo
def Sr.merge {st J:SortSt} {lo i:Nat} (h:Sr rk kd S n st lo J) (hi:i+1 < (pendingOf J).size):
  ∃ sa na pw nb p2,(pendingOf J)[i]? =some (sa,na,pw)/\(pendingOf J)[i+1]? =some (sa+na,nb,p2)/\1<=na/\1<=nb/\sa+na+nb<=lo/\Up rk (arrOf J) sa (sa+na)/\Up rk (arrOf J) (sa+na) (sa+na+nb)/\
   ∀ O,Merged rk sa (sa+na+nb) (((pendingOf J).setIfInBounds i (sa,na+nb,pw)).eraseIdxIfInBounds (i+1)) J O ->
    Sr rk kd S n st lo O/\(pendingOf O).size+1=(pendingOf J).size/\∀ k,lo<=k ->(arrOf O)[k]? =(arrOf J)[k]? :=by
 obtain ⟨l1,⟨Z,n1,q1⟩,⟨a2,n2,q2⟩,l2,e,el⟩:=quh (l:=(pendingOf J).toList) (i:=i) (by rw [z19];exact hi);have R:=h.runs;rw [e] at R;obtain ⟨w,R1,R2⟩:=Runs.split.mp R;obtain ⟨x1,x2,x3,x4,x5,x6,x7⟩:=R2;simp only at x1 x2 x3 x4 x5 x6 x7;subst x1 x4;have le:=Runs.le x7;have g1:(pendingOf J)[i]? =some (Z,n1,q1):=by
  rw [<- z0x,e,z05 (by lia),<- el,Nat.sub_self];rfl
 have g2:(pendingOf J)[i+1]? =some (Z+n1,n2,q2):=by
  rw [<- z0x,e,z05 (by lia),show i+1 - l1.length=1 by lia];rfl
 refine ⟨Z,n1,q1,n2,q2,g1,g2,x2,x5,by lia,x3,x6,λ O m=>⟨⟨m.perm.trans h.perm,?_,?_⟩,?_,λ k hk=>m.out k (by lia)⟩⟩
 ·exact ⟨m.perm.size_eq.trans h.sane.size,λ p hp=>h.sane.all p ((z04.mp m.perm).mem_iff.mp hp),m.kind.trans h.sane.kind,m.failed.trans h.sane.failed⟩
 ·rw [m.pend,qhx e el];refine Runs.split.mpr ⟨Z,R1.same λ k _ hk=>m.out k (.inl hk),rfl,by show 1<=n1+n2;lia,?_,?_⟩
  ·show Up rk (arrOf O) Z (Z+(n1+n2));rw [<- Nat.add_assoc];exact m.up
  ·show Runs rk (arrOf O) (Z+(n1+n2)) l2 lo;rw [<- Nat.add_assoc];exact x7.same λ k hk _=>m.out k (.inr hk)
 ·rw [m.pend,<- z19,qhx e el,<- z19,e];simp
  lia
def Sr.mv {st J O:SortSt} {lo hi:Nat} (h:Sr rk kd S n st lo J) (v:Mv lo hi J O):Sr rk kd S n st lo O:=
 ⟨v.perm.trans h.perm,v.sane h.sane,by rw [v.pend];exact h.runs.same λ k _ hk=>v.out k (.inl hk)⟩
def Sr.setP {st J:SortSt} {lo hi:Nat} {p:Array (Nat×Nat×Nat)} (h:Sr rk kd S n st lo J) (r:Runs rk (arrOf J) 0 p.toList hi):Sr rk kd S n st hi (setPending J p):=
 ⟨h.perm,⟨h.sane.size,h.sane.all,h.sane.kind,h.sane.failed⟩,r⟩
def qui (p:Array (Nat×Nat×Nat)) (pw:Nat):(p.modify (p.size - 1) λ (x:Nat×Nat×Nat)=>(x.1,x.2.1,pw)).toList.map (λ r=>(r.1,r.2.1))=p.toList.map (λ r=>(r.1,r.2.1)):=by
 apply z21
 intro j;rw [z22,z22,z0x,z0x,Array.getElem?_modify];split
 ·cases p[j]? <;> rfl
 ·rfl
def qpt (L:LtOk M A E s kd S rk) {st:SortSt} (B:Sane kd S n st) (h2:2<=n) (hp:pendingOf st=#[]) {Q:Unit ->SortSt ->Prop}
  (h:∀ Z,(arrOf Z).Perm (arrOf st) ->failedOf Z=none ->Up rk (arrOf Z) 0 n ->Q () Z):wpS M A E s sortRuns' Q st:=by
 rw [sortRuns'_eq];refine wpS_bind (wpS_get ?_)
 dsimp only
 simp only [B.size];have start:Sr rk kd S n st 0 st:=⟨Array.Perm.refl _,B,by rw [hp];rfl⟩;refine wpS_bind (wpS_mono (wpS_forRange (I:=λ x c Z=>∃ lo,c=(none,lo)/\Sr rk kd S n st lo Z/\lo<=n/\min x n<=lo)
  (Q:=λ c Z=>c=(none,n)/\Sr rk kd S n st n Z) ?turn ?last ⟨0,rfl,start,by lia,by lia⟩) ?after)
 case last=>
  rintro c Z ⟨lo,rfl,R,h1,h3⟩;have e:lo=n:=by lia
  subst e;exact ⟨zr,R⟩
 case turn=>
  rintro x c Z _ hx ⟨lo,rfl,R,hlo,hxl⟩
  dsimp only
  by_cases a8:lo >=n
  ·rw [if_pos a8];have e:lo=n:=by lia
   subst e;exact wpS_pure ⟨zr,R⟩
  rw [if_neg a8];refine wpS_bind (qpo L R.sane (by lia) (by lia) λ k a9 v2 k1 k2 u2=> ?_);have R2:=R.mv v2
  dsimp only
  by_cases a0:k < minRun' n n 0
  case' pos=>
   rw [if_pos a0];refine wpS_bind (wpS_lift (z4d ⟨zr,?_⟩));refine wpS_bind (qkn L R2.sane (by lia) (by lia) u2 λ a7 v3 u3=> ?_);have R3:=R2.mv v3;simp only [Bool.not_true,z1k,if_false];have m1:1<=min (n - lo) (minRun' n n 0):=by lia
   have m2:min (n - lo) (minRun' n n 0)<=n - lo:=by lia
   clear a0 v3;generalize min (n - lo) (minRun' n n 0)=m at*
  case' neg=>
   rw [if_neg a0];have R3:=R2;have u3:=u2;have m1:=k1;have m2:=k2;clear a0;generalize a9=a7 at*;generalize k=m at*
  all_goals
   refine wpS_bind (wpS_get ?_);have fin:∀ (O:SortSt) (p:Array (Nat×Nat×Nat)),Sr rk kd S n st lo O ->Up rk (arrOf O) lo (lo+m) ->Runs rk (arrOf O) 0 p.toList lo ->
     Sr rk kd S n st (lo+m) (setPending (setPending O p) ((pendingOf (setPending O p)).push (lo,m,0))):=λ O p R5 u5 rp=>by
    refine (R5.setP rp).setP ?_;show Runs rk (arrOf O) 0 (p.push (lo,m,0)).toList (lo+m);rw [z20];exact Runs.split.mpr ⟨lo,rp,zr,m1,u5,zr⟩
   cases hb:(pendingOf a7).back? with
   | none=>
    dsimp only
    exact wpS_bind (wpS_modify (wpS_pure ⟨lo+m,zr,fin a7 (pendingOf a7) R3 u3 R3.runs,by lia,by lia⟩))
   | some q=>
    obtain ⟨s1,n1,q1⟩:=q
    dsimp only
    refine wpS_bind (wpS_mono (wpS_forRange (I:=λ _ c J=>c=(none,())/\Sr rk kd S n st lo J/\Up rk (arrOf J) lo (lo+m))
     (Q:=λ c J=>c=(none,())/\Sr rk kd S n st lo J/\Up rk (arrOf J) lo (lo+m)) ?mturn (λ _ _ z=>z) ⟨rfl,R3,u3⟩) ?mafter)
    case mturn=>
     rintro j c J _ hj ⟨rfl,R4,u4⟩;refine wpS_bind (wpS_get ?_);by_cases c1:(pendingOf J).size > 1
     ·obtain ⟨sa,na,pw,nb,p2,g1,g2,a1,a2,a3,a4,a5,a6⟩:=R4.merge (i:=(pendingOf J).size - 2) (by lia);rw [if_pos c1,g1]
      dsimp only
      split
      ·exact wpS_pure ⟨zr,R4,u4⟩
      ·refine wpS_bind (qhw L R4.sane g1 g2 a1 a2 (by lia) a4 a5 λ O mm=> ?_);obtain ⟨R5,_,o5⟩:=a6 O mm;simp only [Bool.not_true,z1k,if_false];exact wpS_pure ⟨zr,R5,u4.same λ k hk _=>o5 k hk⟩
     ·rw [if_neg c1];exact wpS_pure ⟨zr,R4,u4⟩
    case mafter=>
     rintro c J ⟨rfl,R4,u4⟩
     dsimp only
     refine wpS_bind (wpS_modify (wpS_bind (wpS_modify (wpS_pure ⟨lo+m,zr,?_,by lia,by lia⟩))));exact fin J _ R4 u4 (R4.runs.pow (qui _ _))
 case after=>
  rintro c Z ⟨rfl,R⟩
  dsimp only
  refine wpS_bind (wpS_mono (wpS_forRange (I:=λ x c J=>c=(none,())/\Sr rk kd S n st n J/\(pendingOf J).size<=max 1 (n - x))
   (Q:=λ c J=>c=(none,())/\Sr rk kd S n st n J/\(pendingOf J).size<=1) ?fturn ?flast ⟨rfl,R,?ffirst⟩) ?fafter)
  case ffirst=>
   have:=Runs.le R.runs;rw [z19] at this
   lia
  case flast=>
   rintro c J ⟨hc,R4,h4⟩;exact ⟨hc,R4,by lia⟩
  case fturn=>
   rintro j c J _ hj ⟨rfl,R4,h4⟩;refine wpS_bind (wpS_get ?_);by_cases c1:(pendingOf J).size<=1
   ·rw [if_pos c1];exact wpS_pure ⟨zr,R4,c1⟩
   ·rw [if_neg c1];have go:∀ i,i+1 < (pendingOf J).size ->wpS M A E s (mergeAt' i) (λ b O=>b=true/\Sr rk kd S n st n O/\(pendingOf O).size<=max 1 (n - (j+1))) J:=λ i hi=>by
     obtain ⟨sa,na,pw,nb,p2,g1,g2,a1,a2,a3,a4,a5,a6⟩:=R4.merge hi;refine qhw L R4.sane g1 g2 a1 a2 (by lia) a4 a5 λ O mm=> ?_;obtain ⟨R5,z5,_⟩:=a6 O mm;exact ⟨zr,R5,by lia⟩
    refine wpS_bind (wpS_mono (go _ ?_) ?_)
    ·repeat' split
     all_goals lia
    ·rintro b O ⟨rfl,R5,z5⟩;simp only [Bool.not_true,z1k,if_false];exact wpS_pure ⟨zr,R5,z5⟩
  case fafter=>
   rintro c J ⟨rfl,R4,h4⟩;refine wpS_pure (h J R4.perm R4.sane.failed ?_);have hr:=R4.runs;have hl:(pendingOf J).toList.length<=1:=by rw [z19];exact h4
   cases e:(pendingOf J).toList with
   | nil=>
    rw [e] at hr;have:0=n:=hr
    lia
   | cons r l=>
    rw [e] at hr hl;have:l=[]:=by simpa using hl
    subst this;obtain ⟨_,_,u,z⟩:=hr;have z':0+r.2.1=n:=z
    rwa [z'] at u
end
def KLt (prog:Program) (w:World) (A:Around) (s:Shared) (kd:SortKind) (x y:Value) (r:Bool):Prop:=
 ∀ (E:xB) (Q:Bool ->Shared ->Prop),Q r s ->wpAny (model prog w) A (keyLt' kd x y) Q E s
def qxn {prog:Program} {w:World} {A:Around} {E:xB} {s:Shared} {kd:SortKind} {S:Keyed ->Prop} {rk:Keyed ->Int} (h:∀ x y,S x ->S y ->KLt prog w A s kd x.1 y.1 (decide (rk x < rk y))):
  LtOk (model prog w) A E s kd S rk:=by
 intro x y st Q sx sy hk q;rw [lt'_eq];refine wpS_bind (wpS_get ?_);rw [hk];refine wpS_bind (wpS_lift (z3m (h x y sx sy _ _ ⟨zr,?_⟩)));exact wpS_pure q
section
variable {α:Type}
theorem qds {p q:α ->Bool}:∀ (l:List α),(∀ z∈l,p z=true ->q z=true) ->(l.filter p).length<=(l.filter q).length
 | [],_=>z48 _
 | z::l,h=>by
  have ih:=qds (p:=p) (q:=q) l λ y hy=>h y (z16 _ hy);rw [z2j,z2j];cases e:p z with
  | true=>
   rw [h z (z1p ..) e];simp only [if_true,z2i]
   lia
  | false=>
   cases q z with
   | true=>simp only [z1k,if_false,if_true,z2i];lia
   | false=>simpa using ih
theorem qkz {p q:α ->Bool} {y:α}:∀ (l:List α),(∀ z∈l,p z=true ->q z=true) ->y∈l ->p y=false ->q y=true ->(l.filter p).length < (l.filter q).length
 | [],_,hy,_,_=>nomatch hy
 | z::l,h,hy,h1,h2=>by
  have hl:∀ w∈l,p w=true ->q w=true:=λ w hw=>h w (z16 _ hw);rw [z2j,z2j];rcases z3n.mp hy with rfl | hy
  ·rw [h1,h2];have:=qds l hl;simp only [z1k,if_false,if_true,z2i]
   lia
  ·have ih:=qkz l hl hy h1 h2;cases e:p z with
   | true=>
    rw [h z (z1p ..) e];simp only [if_true,z2i]
    lia
   | false=>
    cases q z with
    | true=>simp only [z1k,if_false,if_true,z2i];lia
    | false=>simpa using ih
def rank (lt:α ->α ->Bool) (l:List α) (x:α):Int:=((l.filter λ y=>lt y x).length:Nat)
def qod {lt:α ->α ->Bool} {l:List α} (irr:∀ x∈l,lt x x=false) (tr:∀ x∈l,∀ y∈l,∀ z∈l,lt x y=true ->lt y z=true ->lt x z=true)
  (nt:∀ x∈l,∀ y∈l,∀ z∈l,lt x z=true ->lt x y=true\/ lt y z=true) {x y:α} (hx:x∈l) (hy:y∈l):lt x y=decide (rank lt l x < rank lt l y):=by
 unfold rank;cases e:lt x y with
 | true=>
  have:=qkz (p:=λ z=>lt z x) (q:=λ z=>lt z y) l (λ z hz h=>tr z hz x hx y hy h e) hx (irr x hx) e;exact (z3c (by lia)).symm
 | false=>
  have:=qds (p:=λ z=>lt z y) (q:=λ z=>lt z x) l (λ z hz h=>(nt z hz x hx y hy h).resolve_right (by rw [e];exact z1l));exact (z2w (by lia)).symm
end
structure Sorted (rk:Value ->Int) (vs out:xH):Prop where
 perm:out.Perm vs
 asc:out.Pairwise λ x y=>rk x<=rk y
def ql0 {rk:Value ->Int} {vs:xH} {xs:Array Keyed} (hp:xs.Perm (pairsOf vs)) (hu:Up (λ p=>rk p.1) xs 0 vs.length):Sorted rk vs (xs.map (·.2)).toList:=by
 have hl:xs.toList.Perm (vs.zip vs):=by
  rw [<- pairsOf_toList];exact z04.mp hp
 have hsz:xs.size=vs.length:=by
  rw [hp.size_eq,pairsOf_size]
 have same:∀ p,p∈xs.toList ->p.1=p.2:=λ p h=>(mem_zip_self (hl.mem_iff.mp h)).1;refine ⟨?_,?_⟩
 ·rw [Array.toList_map];have:=hl.map Prod.snd
  rwa [List.map_snd_zip (z48 _)] at this
 ·rw [Array.toList_map,z08];intro i j hi hj Z;rw [List.getElem_map,List.getElem_map];have O:i < xs.toList.length:=by simpa using hi
  have J:j < xs.toList.length:=by simpa using hj
  have:=hu i j (z4b _) (z3y Z) (by rw [z19] at J;lia);rw [q30 xs i (z0d O),q30 xs j (z0d J)] at this;rw [<- same _ (z2k O),<- same _ (z2k J)];exact this
section
variable {prog:Program} {w:World} {A:Around} {E:xB} {s:Shared}
def Keys (prog:Program) (w:World) (A:Around) (s:Shared) (a:Addr) (vs:xH) (rk:Value ->Int):Prop:=2<=vs.length ->∀ s':Shared,(∀ b o,b≠a ->s.heap.get? b=some o ->s'.heap.get? b=some o) ->
 ∃ kd:SortKind,(∀ (E:xB) (Q:SortKind ->Shared ->Prop),Q kd s' ->wpAny (model prog w) A (keyKind' vs.toArray) Q E s')/\∀ x∈vs,∀ y∈vs,KLt prog w A s' kd x y (decide (rk x < rk y))
def qaw {a:Addr} {vs:xH} {n:Nat} {rk:Value ->Int} {P:PySem.Fin ->Shared ->Prop} (ho:s.heap.get? a=some (seqObj "list" vs.toArray n)) (hz:vs.length<=sizeLine) (hk:Keys prog w A s a vs rk)
  (h:∀ out:Array Value,Sorted rk vs out.toList ->P (.done (.ret .none)) {s with heap:=sortedHeap s.heap a vs out}):wpAny (model prog w) A (Builtin.«list.sort» ⟨[.ref a],[]⟩) P E s:=by
 rw [list_sort_plain];have ha:a < s.heap.objs.size:=z3z ho;have a5:vs.toArray.size=vs.length:=z23;refine z4f (listItems_at ho rfl (z4f (listUpdate_at ho rfl ?_ (by rw [a5];exact hz) (z4b _))));obtain ⟨e1,a0⟩:∃ e1,(s.heap.update a (Obj.mapSeq λ _=>#[])).get? a=some (seqObj "list" #[] e1):=⟨_,get?_update_seq ho (λ _=>#[])⟩;refine z4f (seqEpoch_at a0 rfl (z4f (wpAny_newTuple (z4f (wpAny_newList (z3o ?_))))));have s1:=z1b s.heap a (Obj.mapSeq λ _=>(#[]:Array Value));have keep:∀ b o,(s.heap.update a (Obj.mapSeq λ _=>#[])).get? b=some o ->(((s.heap.update a (Obj.mapSeq λ _=>#[])).push (seqObj "tuple" vs.toArray 0)).push (seqObj "list" #[] 0)).get? b=some o:=
  λ b o e=>z0o _ (z0o _ e)
 have O:=keep a _ a0;have Z:∀ b o,b≠a ->s.heap.get? b=some o ->(((s.heap.update a (Obj.mapSeq λ _=>#[])).push (seqObj "tuple" vs.toArray 0)).push (seqObj "list" #[] 0)).get? b=some o:=
  λ b o hb e=>keep b o ((s1.2 b hb).trans e)
 show wpAny (model prog w) A _ P E {s with heap:=((s.heap.update a (Obj.mapSeq λ _=>#[])).push (seqObj "tuple" vs.toArray 0)).push (seqObj "list" #[] 0)}
 dsimp only
 by_cases h2:vs.toArray.size < 2
 ·rw [if_pos h2,if_pos h2];refine z4f (z4e ?_);rw [StateT.run_pure];refine z4f (z4e ?_)
  dsimp only
  have es:((vs.toArray.zip vs.toArray).map (·.2)).toList=vs:=by
   rw [Array.toList_map];show (pairsOf vs).toList.map _=_;rw [pairsOf_toList,List.map_snd_zip (z48 _)]
  refine z4f (seqEpoch_at O rfl (z4f (listUpdate_at O rfl ?_ (z4b _) (by rw [<- z19,es];lia))));simp only [bne_self_eq_false,z1k,if_false];refine z4e (h _ ?_);rw [es];refine ⟨List.Perm.refl _,?_⟩;rw [a5] at h2
  match vs,h2 with
  | [],_=>exact .nil
  | [_],_=>exact z0i ..
 ·rw [if_neg h2,if_neg h2];obtain ⟨kd,kk,kl⟩:=hk (by lia) {s with heap:=((s.heap.update a (Obj.mapSeq λ _=>#[])).push (seqObj "tuple" vs.toArray 0)).push (seqObj "list" #[] 0)} Z;refine z4f (kk _ _ ?_);have hS:∀ p∈(vs.toArray.zip vs.toArray).toList,p.1∈vs:=λ p hp=>by
   have a4:p∈(pairsOf vs).toList:=hp;rw [pairsOf_toList] at a4;exact (mem_zip_self a4).2
  refine z4f (z4g (qpt (S:=λ p=>p.1∈vs) (rk:=λ p=>rk p.1) (n:=vs.length) (st:=SortSt.mk' kd (vs.toArray.zip vs.toArray) #[] 7 none)
   (Q:=λ _ J=>(arrOf J).Perm (pairsOf vs)/\failedOf J=none/\Up (λ p=>rk p.1) (arrOf J) 0 vs.length)
   (qxn λ x y hx hy=>kl x.1 hx y.1 hy) ⟨pairsOf_size vs,hS,rfl,rfl⟩ (by lia) rfl λ J a1 a2 a3=>⟨a1,a2,a3⟩) ?_ λ _ _ e=>e)
  rintro ⟨⟨⟩,J⟩ s' ⟨rfl,hp,hf,hu⟩
  dsimp only
  have so:=ql0 hp hu;refine z4f (seqEpoch_at O rfl (z4f (listUpdate_at O rfl ?_ (z4b _) (by rw [<- z19,so.perm.length_eq];lia))));rw [hf];simp only [bne_self_eq_false,z1k,if_false];exact z4e (h _ so)
end
end Tim
namespace Tim
structure STO {α:Type} (lt:α ->α ->Bool):Prop where
 irr:∀ a,lt a a=false
 tr:∀ a b c,lt a b=true ->lt b c=true ->lt a c=true
 tri:∀ a b,lt a b=false ->lt b a=false ->a=b
section
variable {α β:Type}
def STO.asym {lt:α ->α ->Bool} (h:STO lt) {a b:α} (x:lt a b=true):lt b a=false:=by
 cases e:lt b a with
 | false=>rfl
 | true=>
  have:=h.tr a b a x e;rw [h.irr] at this;cases this
def STO.nt {lt:α ->α ->Bool} (h:STO lt) {a c:α} (b:α) (x:lt a c=true):lt a b=true\/ lt b c=true:=by
 cases e:lt a b with
 | true=>exact .inl rfl
 | false=>
  cases f:lt b a with
  | true=>exact .inr (h.tr b a c f x)
  | false=>
   have:=h.tri a b e f;subst this;exact .inr x
def STO.map {lt:α ->α ->Bool} (h:STO lt) (f:β ->α) (inj:∀ a b,f a=f b ->a=b):STO λ a b=>lt (f a) (f b):=
 ⟨λ a=>h.irr _,λ a b c=>h.tr _ _ _,λ a b x y=>inj a b (h.tri _ _ x y)⟩
def lexB [DecidableEq α] (lt:α ->α ->Bool):List α ->List α ->Bool
 | [],[]=>false
 | [],_::_=>true
 | _::_,[]=>false
 | a::as,b::bs=>if a=b then lexB lt as bs else lt a b
def STO.lex [DecidableEq α] {lt:α ->α ->Bool} (h:STO lt):STO (lexB lt):=by
 refine ⟨λ a=> ?_,λ a=> ?_,λ a=> ?_⟩
 ·induction a with
  | nil=>rfl
  | cons x a Z=>rw [lexB,if_pos rfl];exact Z
 ·induction a with
  | nil=>
   intro b c h1 h2;cases c with
   | nil=>cases b with
    | nil=>exact h1
    | cons y b=>cases h2
   | cons z c=>rfl
  | cons x a Z=>
   intro b c h1 h2;cases b with
   | nil=>cases h1
   | cons y b=>
    cases c with
    | nil=>cases h2
    | cons z c=>
     rw [lexB] at h1 h2 ⊢;by_cases J:x=y
     ·subst J;rw [if_pos rfl] at h1;by_cases xz:x=z
      ·subst xz;rw [if_pos rfl] at h2 ⊢;exact Z b c h1 h2
      ·rw [if_neg xz] at h2 ⊢;exact h2
     ·rw [if_neg J] at h1;by_cases yz:y=z
      ·subst yz;rw [if_neg J];exact h1
      ·rw [if_neg yz] at h2;have O:=h.tr x y z h1 h2;have:¬ x=z:=λ e=>by
        subst e;rw [h.irr] at O;cases O
       rw [if_neg this];exact O
 ·induction a with
  | nil=>
   intro b h1 h2;cases b with
   | nil=>rfl
   | cons y b=>cases h1
  | cons x a Z=>
   intro b h1 h2;cases b with
   | nil=>cases h2
   | cons y b=>
    rw [lexB] at h1 h2;by_cases J:x=y
    ·subst J;rw [if_pos rfl] at h1 h2;rw [Z b h1 h2]
    ·rw [if_neg J] at h1;rw [if_neg (Ne.symm J)] at h2;exact absurd (h.tri x y h1 h2) J
def qxo:STO (λ a b:Nat=>decide (a < b)):=
 ⟨λ a=>by simp,λ a b c h1 h2=>by simp at*;lia,λ a b h1 h2=>by simp at*;lia⟩
def qxp:STO (λ a b:Int=>decide (a < b)):=
 ⟨λ a=>by simp,λ a b c h1 h2=>by simp at*;lia,λ a b h1 h2=>by simp at*;lia⟩
theorem qoe:∀ (a b:List Nat),decide (a < b)=lexB (λ x y:Nat=>decide (x < y)) a b
 | [],[]=>rfl
 | [],_::_=>by simp [lexB]
 | _::_,[]=>by simp [lexB]
 | x::a,y::b=>by
  rw [lexB,<- qoe a b];by_cases e:x=y
  ·subst e;rw [if_pos rfl];simp
  ·rw [if_neg e];have:(x::a < y::b)↔x < y:=by
    rw [List.cons_lt_cons_iff]
    constructor
    ·rintro (h | h)
     ·exact h
     ·exact absurd h.1 e
    ·exact .inl
   simp [this]
theorem STO.uniq {lt:α ->α ->Bool} (h:STO lt):∀ {a b:List α},a.Perm b ->a.Pairwise (λ x y=>lt y x=false) ->b.Pairwise (λ x y=>lt y x=false) ->a=b
 | [],b,p,_,_=>(List.nil_perm.mp p).symm ▸ rfl
 | x::a,[],p,_,_=>by have:=p.length_eq;simp at this
 | x::a,y::b,p,pa,pb=>by
  obtain ⟨J,O⟩:=z1q.mp pa;obtain ⟨Z,a0⟩:=z1q.mp pb;have e:x=y:=by
   have hx:x∈y::b:=p.mem_iff.mp (z1p ..);have hy:y∈x::a:=p.mem_iff.mpr (z1p ..);rcases z3n.mp hx with e | hx
   ·exact e
   ·rcases z3n.mp hy with e | hy
    ·exact e.symm
    ·exact h.tri x y (Z x hx) (J y hy)
  subst e;rw [h.uniq (List.Perm.cons_inv p) O a0]
end
end Tim
namespace L2
open PySem PySem.Spec PyProof.Rows
abbrev Key:=Sum Int Str
def q8u:Key ->Value ->Bool
 | .inl k,v=>Value.isInt k v
 | .inr x,v=>Value.isStrOf x v
def keyH (w:World):Key ->Int
 | .inl k=>hashInt k
 | .inr x=>hashStr w x
def q1u:∀ {k:Key} {v:Value},q8u k v=true ->(∃ i t,k=Sum.inl i/\v=Value.int i t)\/ (∃ x t,k=Sum.inr x/\v=Value.str x t)
 | .inl i,v,h=>by
  obtain ⟨t,e⟩:=Value.isInt_shape (k:=i) (v:=v) h;exact .inl ⟨i,t,zr,e⟩
 | .inr x,v,h=>by
  obtain ⟨t,e⟩:=Value.isStrOf_shape (x:=x) (v:=v) h;exact .inr ⟨x,t,zr,e⟩
def qrk (i:Int) (t:Tok):q8u (.inl i) (.int i t)=true:=by simp [q8u,Value.isInt]
def qrl (x:Str) (t:Tok):q8u (.inr x) (.str x t)=true:=by simp [q8u,Value.isStrOf]
def q108 (a b:Int):decide ((Sum.inl a:Key)=Sum.inl b)=(a==b):=by
 by_cases e:a=b
 ·subst e;simp
 ·have h:¬ (Sum.inl a:Key)=Sum.inl b:=λ q=>e (Sum.inl.inj q);rw [z2w h];exact (beq_eq_false_iff_ne.mpr e).symm
def q109 (a b:Str):decide ((Sum.inr a:Key)=Sum.inr b)=decide (a=b):=by
 by_cases e:a=b
 ·subst e;simp
 ·have h:¬ (Sum.inr a:Key)=Sum.inr b:=λ q=>e (Sum.inr.inj q);rw [z2w h,z2w e]
def q10a (a:Int) (b:Str):decide ((Sum.inl a:Key)=Sum.inr b)=false:=z2w (λ q=>nomatch q)
def q10b (a:Str) (b:Int):decide ((Sum.inr a:Key)=Sum.inl b)=false:=z2w (λ q=>nomatch q)
def q17 (prog:Program) (w:World):PySem.KeyKind prog w Key where
 is:=q8u
 hash:=keyH w
 inj:=λ v a b ha hb=>by
  rcases q1u ha with ⟨i,t,rfl,rfl⟩ | ⟨x,t,rfl,rfl⟩
  ·rcases q1u hb with ⟨j,u,rfl,e⟩ | ⟨y,u,rfl,e⟩
   ·injection e with e1 _;rw [e1]
   ·exact nomatch e
  ·rcases q1u hb with ⟨j,u,rfl,e⟩ | ⟨y,u,rfl,e⟩
   ·exact nomatch e
   ·injection e with e1 _;rw [e1]
 byValue:=λ k v h=>by
  rcases q1u h with ⟨i,t,rfl,rfl⟩ | ⟨x,t,rfl,rfl⟩ <;> rfl
 pyHash:=λ hv h=>by
  rcases q1u hv with ⟨i,t,rfl,rfl⟩ | ⟨x,t,rfl,rfl⟩
  ·exact wpAny_pyHash_int h
  ·exact wpAny_pyHash_str h
 eqBool:=λ hu hv h=>by
  rcases q1u hu with ⟨i,t,rfl,rfl⟩ | ⟨x,t,rfl,rfl⟩
  ·rcases q1u hv with ⟨j,u,rfl,rfl⟩ | ⟨y,u,rfl,rfl⟩
   ·rw [q108] at h;exact wpAny_eqBool_int h
   ·rw [q10a] at h;exact SeqAt.EqAt.int_str i t y u _ _ _ _ h
  ·rcases q1u hv with ⟨j,u,rfl,rfl⟩ | ⟨y,u,rfl,rfl⟩
   ·rw [q10b] at h;exact SeqAt.EqAt.str_int x t j u _ _ _ _ h
   ·rw [q109] at h;exact wpAny_eqBool_str h
 «strs»:=λ k x t v h=>by
  rcases q1u h with ⟨i,u,rfl,e⟩ | ⟨y,u,rfl,e⟩
  ·exact nomatch e
  ·injection e with e1 _;subst e1;cases v <;> rfl
def qnm (prog:Program) (w:World) (i:Int) (t:Tok):(q17 prog w).is (.inl i) (.int i t)=true:=qrk i t
def qd7 (prog:Program) (w:World) (x:Str) (t:Tok):(q17 prog w).is (.inr x) (.str x t)=true:=qrl x t
inductive V where
 | non | bl (b:Bool) | int (i:Int) | str (x:Str) | byt (b:Array UInt8) | flt (b:UInt64) | ref (a:Addr) | ty (n:String)
 deriving DecidableEq
def RelV:V ->Value ->Prop
 | .non,u=>u=Value.none
 | .bl b,u=>u=Value.bool b
 | .int i,u=>∃ t,u=Value.int i t
 | .str x,u=>∃ t,u=Value.str x t
 | .byt b,u=>∃ t,u=Value.bytes b t
 | .flt b,u=>∃ t,u=Value.float b t
 | .ref a,u=>u=Value.ref a
 | .ty n,u=>u=Value.type n
abbrev Vals:List V ->List Value ->Prop:=Paired RelV
theorem Vals.length {xs:List V} {us:xH} (r:Vals xs us):xs.length=us.length:=Paired.length r
theorem Vals.get:∀ {xs:List V} {us:xH} {i:Nat} {x:V},Vals xs us ->xs[i]? =some x ->∃ u,us[i]? =some u/\RelV x u
 | _,_,_,_,.nil,e=>by simp at e
 | _,_,0,_,.cons r _,e=>by simp at e;subst e;exact ⟨_,rfl,r⟩
 | _,_,i+1,x,.cons _ t,e=>by
  obtain ⟨u,h1,h2⟩:=Vals.get (i:=i) (x:=x) t (by simpa using e);exact ⟨u,by simpa using h1,h2⟩
theorem Vals.append:∀ {xs ys:List V} {us ws:xH},Vals xs us ->Vals ys ws ->Vals (xs++ys) (us++ws)
 | _,_,_,_,.nil,s=>s
 | _,_,_,_,.cons r t,s=> .cons r (Vals.append t s)
theorem Vals.take:∀ {xs:List V} {us:xH} (n:Nat),Vals xs us ->Vals (xs.take n) (us.take n)
 | _,_,0,_=> .nil
 | _,_,_+1,.nil=> .nil
 | _,_,n+1,.cons r t=> .cons r (Vals.take n t)
theorem Vals.drop:∀ {xs:List V} {us:xH} (n:Nat),Vals xs us ->Vals (xs.drop n) (us.drop n)
 | _,_,0,r=>r
 | _,_,_+1,.nil=> .nil
 | _,_,n+1,.cons _ t=>Vals.drop n t
def RelO:Option V ->Option Value ->Prop
 | some v,some u=>RelV v u
 | none,none=>True
 | _,_=>False
def KV {κ:Type}:List (κ×V) ->List (κ×Value) ->Prop:=Paired λ (p:κ×V) (q:κ×Value)=>p.1=q.1/\RelV p.2 q.2
def kV:Key ->V
 | .inl i=> .int i
 | .inr x=> .str x
inductive HO where
 | lst (xs:List V)
 | tup (xs:List V)
 | dK (kvs:List (Key×V)) | dT (kvs:List (List Key×V))
 | set (S:Int ->Bool) (n:Nat)
 | ins (C dx:Addr) (fs:List (Str×V))
 | own (x:Addr)
 | xd (fs:List (Str×V))
 | met (f x:Addr)
 | rng (lo hi:Int)
 | frz (o:Obj) (u:HO)
 | tbl (ps:Array Value)
 | ext (φ:Heap ->Prop)
abbrev Hp:=Addr ->Option HO
def upd (H:Hp) (a:Addr) (o:HO):Hp:=λ b=>if b=a then some o else H b
def qb {H:Hp} {a:Addr} {o:HO}:upd H a o a=some o:=by unfold upd;rw [if_pos rfl]
def qh {H:Hp} {a b:Addr} {o:HO} (h:b≠a):upd H a o b=H b:=by unfold upd;rw [if_neg h]
def q64 {H:Hp} {a:Addr} {o u:HO}:upd (upd H a o) a u=upd H a u:=by
 funext b;unfold upd;split <;> rfl
def q12e {H:Hp} {a b:Addr} {o u:HO} (h:H a=some o) (h':H b=some u) (d:o≠u):a≠b:=by
 intro e;subst e;rw [h] at h';exact d (Option.some.inj h')
def qu {H:Hp} {a b:Addr} {o:HO} (h:H a=some o) (h':H b=none):a≠b:=by
 intro e;subst e;rw [h] at h';cases h'
section
variable (P:Program) (w:World)
def ObjOk (H:Hp) (h:Heap) (a:Addr):HO ->Prop
 | .lst xs=>xs.length<=sizeLine/\∃ (its:xH) (n:Nat),Vals xs its/\h.get? a=some {cls:= .type "list",data:= .seq its.toArray n}
 | .tup xs=>xs.length<=sizeLine/\∃ its:List Value,Vals xs its/\IsTup h a its.toArray
 | .dK kvs=>kvs.length<=sizeLine/\(a==sysModules)=false/\∃ vs,KV kvs vs/\h.DictOf (q17 P w) a vs
 | .dT kvs=>kvs.length<=sizeLine/\(a==sysModules)=false/\∃ xs:List (List Key×Addr×Value),
   Paired (λ (p:List Key×V) (q:List Key×Addr×Value)=>p.1=q.1/\H q.2.1=some (.tup (p.1.map kV))/\RelV p.2 q.2.2) kvs xs/\
   ∃ o es ep,h.get? a=some o/\o.ExactDict/\o.data= .dict es ep/\es.toList=xs.map (entryOfKey (tupleKind (q17 P w)))/\(xs.map (·.1)).Nodup
 | .set S n=>h.SetOf (intKind P w) a S n
 | .ins C dx fs=>H dx=some (.own a)/\fs.length<=1000/\dx≠a/\h.get? a=some (PySem.W.instObj C dx)/\
   ∃ mA,h.Ns1 dx mA/\(∀ f,RelO (fs.lookup f) (mA f))/\PySem.Within mA (fs.map (·.1))
 | .own _=>∃ o,h.get? a=some o
 | .xd fs=>∃ mA,h.Ns1 a mA/\∀ f,RelO (fs.lookup f) (mA f)
 | .rng lo hi=>∃ t u v,h.get? a=some {cls:= .type "range",data:= .fields #[.int lo t,.int hi u,.int 1 v]}
 | .frz o u=>h.get? a=some o/\ObjOk H h a u
 | .tbl ps=>h.get? a=some {cls:= .none,data:= .fields ps}
 | .met f x=>h.get? a=some (PySem.W.methodObj (.ref f) (.ref x))
 | .ext φ=>φ h/\(∃ o,h.get? a=some o)/\∀ h1 h2:Heap,φ h1 ->(∀ o,h1.get? a=some o ->h2.get? a=some o) ->φ h2
def HOk (H:Hp) (h:Heap):Prop:=∀ a o,H a=some o ->ObjOk P w H h a o
end
section
variable {P:Program} {w:World} {H H':Hp} {h h':Heap} {a:Addr} {o:HO}
theorem ObjOk.lt (x:ObjOk P w H h a o):a < h.objs.size:=by
 cases o with
 | lst xs=>obtain ⟨_,_,_,_,e⟩:=x;exact z3z e
 | tup xs=>obtain ⟨_,_,_,p⟩:=x;exact p.lt
 | dK kvs=>obtain ⟨_,_,_,_,o,_,_,e,_⟩:=x;exact z3z e
 | dT kvs=>obtain ⟨_,_,_,_,o,_,_,e,_⟩:=x;exact z3z e
 | set S n=>obtain ⟨o,_,_,_,e,_⟩:=x;exact z3z e
 | ins C dx fs=>obtain ⟨_,_,_,e,_⟩:=x;exact z3z e
 | own y=>obtain ⟨_,e⟩:=x;exact z3z e
 | xd fs=>obtain ⟨_,⟨_,_,_,e,_⟩,_⟩:=x;exact z3z e
 | rng lo hi=>obtain ⟨_,_,_,e⟩:=x;exact z3z e
 | frz ob u=>obtain ⟨e,_⟩:=x;exact z3z e
 | tbl ps=>exact z3z (show h.get? a=some _ from x)
 | met f y=>exact z3z (show h.get? a=some _ from x)
 | ext φ=>obtain ⟨_,⟨_,e⟩,_⟩:=x;exact z3z e
theorem Paired.mapP {α β:Type} {F G:α ->β ->Prop}:∀ {J:List α} {O:List β},Paired F J O ->(∀ a b,F a b ->G a b) ->Paired G J O
 | _,_,.nil,_=> .nil
 | _,_,.cons r t,f=> .cons (f _ _ r) (Paired.mapP t f)
def ObjOk.stay (x:ObjOk P w H h a o) (k:∀ b u,(b=a\/ H b=some (.own a)) ->h.get? b=some u ->h'.get? b=some u)
  (ho:∀ b,H b=some (.own a) ->H' b=some (.own a)) (ht:∀ b xs,H b=some (.tup xs) ->H' b=some (.tup xs)):ObjOk P w H' h' a o:=by
 induction o with
 | lst xs=>obtain ⟨z,its,n,r,e⟩:=x;exact ⟨z,its,n,r,k _ _ (.inl rfl) e⟩
 | tup xs=>obtain ⟨z,its,r,J,e,c⟩:=x;exact ⟨z,its,r,J,k _ _ (.inl rfl) e,c⟩
 | dK kvs=>obtain ⟨z,y,vs,r,J,es,ep,e,c⟩:=x;exact ⟨z,y,vs,r,J,es,ep,k _ _ (.inl rfl) e,c⟩
 | dT kvs=>
  obtain ⟨z,y,xs,r,J,es,ep,e,c⟩:=x;exact ⟨z,y,xs,Paired.mapP r λ p q z=>⟨z.1,ht _ _ z.2.1,z.2.2⟩,J,es,ep,k _ _ (.inl rfl) e,c⟩
 | set S n=>obtain ⟨J,es,ep,t,e,c⟩:=x;exact ⟨J,es,ep,t,k _ _ (.inl rfl) e,c⟩
 | ins C dx fs=>
  obtain ⟨d,z,ne,e,mA,⟨O,es,ep,e2,c⟩,r⟩:=x;exact ⟨ho _ d,z,ne,k _ _ (.inl rfl) e,mA,⟨O,es,ep,k _ _ (.inr d) e2,c⟩,r⟩
 | own y=>obtain ⟨J,e⟩:=x;exact ⟨J,k _ _ (.inl rfl) e⟩
 | xd fs=>obtain ⟨mA,⟨O,es,ep,e,c⟩,r⟩:=x;exact ⟨mA,⟨O,es,ep,k _ _ (.inl rfl) e,c⟩,r⟩
 | rng lo hi=>obtain ⟨t,u,v,e⟩:=x;exact ⟨t,u,v,k _ _ (.inl rfl) e⟩
 | frz J u ih=>obtain ⟨e,q⟩:=x;exact ⟨k _ _ (.inl rfl) e,ih q⟩
 | tbl ps=>
  have e:h.get? a=some {cls:= .none,data:= .fields ps}:=x;show h'.get? a=some {cls:= .none,data:= .fields ps};exact k a _ (.inl rfl) e
 | met f y=>
  have e:h.get? a=some (PySem.W.methodObj (.ref f) (.ref y)):=x;show h'.get? a=some (PySem.W.methodObj (.ref f) (.ref y));exact k a _ (.inl rfl) e
 | ext φ=>obtain ⟨p,⟨o,e⟩,st⟩:=x;exact ⟨st _ _ p λ o q=>k _ _ (.inl rfl) q,⟨o,k _ _ (.inl rfl) e⟩,st⟩
theorem HOk.lt (x:HOk P w H h) (e:H a=some o):a < h.objs.size:=(x a o e).lt
def HOk.fresh (x:HOk P w H h) (e:h.objs.size<=a):H a=none:=by
 cases q:H a with
 | none=>rfl
 | some u=>exact absurd (z1r (x.lt q) e) (z3p _)
def HOk.kept (x:HOk P w H h) (k:∀ b u,h.get? b=some u ->h'.get? b=some u):HOk P w H h':=λ a o e=>
 (x a o e).stay (λ b u _ q=>k b u q) (λ _ q=>q) λ _ _ q=>q
def HOk.laid (x:HOk P w H h) (k:∀ b u,h.get? b=some u ->h'.get? b=some u) (hp:h.objs.size<=a) (new:ObjOk P w (upd H a o) h' a o):HOk P w (upd H a o) h':=λ b u e=>by
 have hn:=x.fresh hp;by_cases J:b=a
 ·subst J;rw [qb] at e;cases e;exact new
 ·rw [qh J] at e;exact (x b u e).stay (λ c v _ q=>k c v q) (λ c q=>by rw [qh (qu q hn)];exact q) λ c xs q=>by rw [qh (qu q hn)];exact q
end
def Rd (H:Hp) (a:Addr) (u:HO):Prop:=H a=some u\/ ∃ o,H a=some (.frz o u)
def Rd.ok {P:Program} {w:World} {H:Hp} {h:Heap} {a:Addr} {u:HO} (r:Rd H a u) (x:HOk P w H h):ObjOk P w H h a u:=by
 rcases r with r | ⟨o,r⟩
 ·exact x a u r
 ·obtain ⟨_,q⟩:=x a _ r;exact q
def Mut:Option HO ->Prop
 | some (.lst _)=>True
 | some (.dK _)=>True
 | some (.dT _)=>True
 | some (.set _ _)=>True
 | some (.ins _ _ _)=>True
 | some (.ext _)=>True
 | _=>False
section
variable {P:Program} {w:World} {H:Hp} {h h':Heap} {x e:Addr} {o':HO}
def HOk.write (ok:HOk P w H h) (mu:Mut (H x)) (he:e=x\/ H e=some (.own x)) (k:∀ b u,b≠e ->h.get? b=some u ->h'.get? b=some u) (a0:∃ u,h'.get? e=some u)
    (new:ObjOk P w (upd H x o') h' x o'):HOk P w (upd H x o') h':=λ b u q=>by
  have O:∀ c y,H c=some (.own y) ->c≠x:=λ c y r z=>by subst z;rw [r] at mu;exact mu
  have Z:∀ c xs,H c=some (.tup xs) ->c≠x:=λ c xs r z=>by subst z;rw [r] at mu;exact mu
  by_cases hb:b=x
  · subst hb;rw [qb] at q;cases q;exact new
  · rw [qh hb] at q
    by_cases J:b=e
    · have q':H b=some (.own x):=by
        rcases he with z | z
        · exact absurd (J.trans z) hb
        · rw [J];exact z
      rw [q] at q';cases q';obtain ⟨v,hv⟩:=a0;exact ⟨v,by rw [J];exact hv⟩
    · refine (ok b u q).stay (λ c v hc r=>k c v ?_ r) (λ c r=>by rw [qh (O c b r)];exact r) λ c xs r=>by rw [qh (Z c xs r)];exact r
      rcases hc with rfl | hc
      · exact J
      · rintro rfl
        rcases he with z | z
        · exact O c b hc z
        · rw [hc] at z;cases z;exact hb rfl
end
structure Un (fs ex:List Addr) (H H':Hp) (h h':Heap):Prop where
 keep:∀ b o,h.get? b=some o ->H b=none ->b∉fs ->b∉ex ->h'.get? b=some o
 slot:∀ b o,h.get? b=some o ->H b=none ->b∈fs ->b∉ex ->∃ sl,h'.get? b=some {o with slots:=sl}
 free:∀ b o,h.get? b=some o ->H b=none ->b∉ex ->H' b=none
 there:∀ b o,h.get? b=some o ->b∉ex ->∃ o',h'.get? b=some o'
 tups:∀ b xs,H b=some (.tup xs) ->H' b=some (.tup xs)
 frzs:∀ b o u,H b=some (.frz o u) ->H' b=some (.frz o u)
 tbls:∀ b ps,H b=some (.tbl ps) ->∃ more,H' b=some (.tbl (ps++more))
section
variable {fs fs' ex ex':List Addr} {H H1 H2:Hp} {h h1 h2 h':Heap} {a x e:Addr} {o:HO}
def Un.any (u:Un fs ex H H1 h h1) {b:Addr} {J:Obj} (q:h.get? b=some J) (n:H b=none) (hx:b∉ex):∃ sl,h1.get? b=some {J with slots:=sl}:=by
 by_cases O:b∈fs
 ·exact u.slot b J q n O hx
 ·exact ⟨J.slots,u.keep b J q n O hx⟩
def Un.kept (k:∀ b u,h.get? b=some u ->h'.get? b=some u):Un fs ex H H h h':=
 ⟨λ b J q _ _ _=>k b J q,λ b J q _ _ _=>⟨J.slots,k b J q⟩,λ _ _ _ n _=>n,λ b J q _=>⟨J,k b J q⟩,λ _ _ q=>q,λ _ _ _ q=>q,λ _ ps q=>⟨#[],by rw [q];simp⟩⟩
def Un.refl:Un fs ex H H h h:=Un.kept λ _ _ q=>q
def Un.laid (k:∀ b u,h.get? b=some u ->h'.get? b=some u) (hp:h.objs.size<=a) (hn:H a=none):Un fs ex H (upd H a o) h h' where
 keep:=λ b u q _ _ _=>k b u q
 slot:=λ b u q _ _ _=>⟨u.slots,k b u q⟩
 free:=λ b u q n _=>by rw [qh (z40 (z1r (z3z q) hp))];exact n
 there:=λ b u q _=>⟨u,k b u q⟩
 tups:=λ b xs q=>by rw [qh (qu q hn)];exact q
 frzs:=λ b u xs q=>by rw [qh (qu q hn)];exact q
 tbls:=λ b ps q=>⟨#[],by rw [qh (qu q hn),q];simp⟩
def Un.write (mu:Mut (H x)) (he:e=x\/ H e=some (.own x)) (k:∀ b u,b≠e ->h.get? b=some u ->h'.get? b=some u) (O:∃ u,h'.get? e=some u):Un fs ex H (upd H x o) h h':=by
 have hx:∀ b,H b=none ->b≠x:=λ b n z=>by subst z;rw [n] at mu;exact mu
 have hb:∀ b,H b=none ->b≠e:=λ b n z=>by
  subst z;rcases he with r | r
  ·exact hx b n r
  ·rw [n] at r;cases r
 have Z:∀ b u,H b=some u ->¬ Mut (some u) ->b≠x:=λ b u q nm z=>by subst z;rw [q] at mu;exact nm mu
 refine ⟨λ b u q n _ _=>k b u (hb b n) q,λ b u q n _ _=>⟨u.slots,k b u (hb b n) q⟩,λ b u q n _=>by rw [qh (hx b n)];exact n,λ b u q _=> ?_,
  λ b xs q=>by rw [qh (Z b _ q λ z=>z)];exact q,λ b u xs q=>by rw [qh (Z b _ q λ z=>z)];exact q,λ b ps q=>⟨#[],by rw [qh (Z b _ q λ z=>z),q];simp⟩⟩
 by_cases J:b=e
 ·subst J;exact O
 ·exact ⟨u,k b u J q⟩
end
def trk (h:Heap) (H:Hp):List Addr:=(List.range h.objs.size).filter λ a=>(H a).isSome
def hidT (h:Heap) (H:Hp):Heap:=PySem.W.hideAll h (trk h H)
def qrm (h:Heap) (H:Hp):(hidT h H).objs.size=h.objs.size:=PySem.W.hideAll_size _ _
def quj {h:Heap} {H:Hp} {b:Addr} {o:Obj} (e:h.get? b=some o) (n:H b=none):(hidT h H).get? b=some o:=
 PySem.W.hideAll_get _ e λ hm=>by
  have q:(H b).isSome=true:=(z2x.mp hm).2;rw [n] at q;simp at q
def qxq {h:Heap} {H:Hp} {b:Addr} {o:Obj} (e:(hidT h H).get? b=some o):h.get? b=some o/\H b=none:=by
 have e':h.get? b=some o:=PySem.W.of_hideAll (trk h H) e;refine ⟨e',?_⟩;cases q:H b with
 | none=>rfl
 | some x=>
  have hm:b∈trk h H:=z2x.mpr ⟨z3d.mpr (z3z e'),by simp [q]⟩;have z:(hidT h H).get? b=none:=PySem.W.hideAll_none (trk h H) hm;rw [z] at e;cases e
structure Mod (K:xA) (mg:xE) (base:Heap):Prop where
 kin:K.In base
 glob:base.Ns mainGlobals mg
 blt:∃ mb,base.Ns builtinsNs mb/\∀ x:Str,x≠"__name__" ->mb x=bootBuiltins x
 nolimit:base.NoLimit
structure Cx where
 prog:Program
 w:World
 K:xA
 mg:Str ->Option Value
 base:Heap
 A:Around
 N:List Str
 s₀:Shared
 H₀:Hp
 env:Env
 outer:List Env
 stack:List Env
 ex:List Addr
 fn:Str ->Bool
 calm:Bool
 pn:List (Addr×Obj)
 xe:xB
def frs (l:List Env):List Addr:=l.filterMap (·.frame)
abbrev Cx.fs (X:Cx):List Addr:=frs X.outer
def Vis (sc:Scope) (x:Str):Prop:=sc.names.lookup x=some .local\/ sc.names.lookup x=some .cell\/ sc.names.lookup x=some .free
def Loc (sc:Scope) (x:Str):Prop:=sc.names.lookup x=some .local\/ sc.names.lookup x=some .cell
def Look (env:Env) (h:Heap) (m:xE) (x:Str) (u:Value):Prop:=
 (env.kindOf x=some .local/\m x=some u)\/ ((env.kindOf x=some .cell\/ env.kindOf x=some .free)/\∃ c,env.cells.lookup x=some c/\h.IsCell c (some u))
structure Cx.Ok (X:Cx):Prop where
 mod:Mod X.K X.mg X.base
 kind:X.env.scope.kind= .function
 glob:X.env.globals=mainGlobals
 blt:X.env.builtins=builtinsNs
 above:X.s₀.heap.objs.size<=X.env.locals
 inj:∀ x y c,X.env.cells.lookup x=some c ->X.env.cells.lookup y=some c ->x=y
 has:∀ x,(X.env.kindOf x=some .cell\/ X.env.kindOf x=some .free) ->∃ c,X.env.cells.lookup x=some c
 cab:∀ x c,X.fn x=true ->X.env.cells.lookup x=some c ->X.s₀.heap.objs.size<=c
 hd:X.calm=true ->X.A.handled=none
 frames:X.A.frames=some X.stack
 stk:X.stack=X.outer\/ (X.stack=X.env::X.outer/\X.env.frame=some X.env.locals)
 exf:∀ b∈X.ex,b≠X.env.locals/\∀ x c,X.env.cells.lookup x=some c ->c≠b
 bs:∀ b o,X.base.get? b=some o ->X.s₀.heap.get? b=some o/\X.H₀ b=none
 bsz:X.base.objs.size<=X.s₀.heap.objs.size
 noex:∀ b o,X.base.get? b=some o ->b∉X.ex
 exfs:∀ b∈X.ex,b∉X.fs
 funs:X.s₀.heap.FunFrames X.base X.outer
 frf:∀ b∈X.fs,X.H₀ b=none
structure Inv (X:Cx) (xC:xG) (σ:List (Option V)) (H:Hp) (s:Shared):Prop where
 ok:X.Ok
 os:s.os=X.s₀.os
 bare:AllBare s.gens
 base:Un X.fs X.ex X.H₀ H X.s₀.heap s.heap
 loc:∃ m,s.heap.Ns X.env.locals m/\∀ (i:Nat) (x:Str) (v:V),X.N[i]? =some x ->σ[i]? =some (some v) ->Vis X.env.scope x ->∃ u,RelV v u/\Look X.env s.heap m x u
 cell:∀ x c,X.env.cells.lookup x=some c ->∃ v,s.heap.IsCell c v
 free:H X.env.locals=none
 freeC:∀ x c,X.env.cells.lookup x=some c ->H c=none
 pin:∀ p∈X.pn++xC,s.heap.get? p.1=some p.2/\H p.1=none/\p.1≠X.env.locals/\p.1∉X.fs/\∀ v,p.2.data≠ .cell v
 hok:HOk X.prog X.w H s.heap
 len:σ.length=X.N.length
section
variable {X:Cx} {xC:xG} {σ:List (Option V)} {H H':Hp} {s:Shared} {h':Heap}
def Cx.Ok.nofr (ok:X.Ok) {b:Addr} {o:Obj} (e:X.base.get? b=some o):b∉X.fs:=λ hb=>by
 have:=(ok.funs.mem hb).1;rw [e] at this;cases this
theorem Inv.bs (I:Inv X xC σ H s):∀ b o,X.base.get? b=some o ->s.heap.get? b=some o/\H b=none:=λ b o e=>
 ⟨I.base.keep b o (I.ok.bs b o e).1 (I.ok.bs b o e).2 (I.ok.nofr e) (I.ok.noex b o e),I.base.free b o (I.ok.bs b o e).1 (I.ok.bs b o e).2 (I.ok.noex b o e)⟩
def Inv.bk (I:Inv X xC σ H s):∀ b o,X.base.get? b=some o ->s.heap.get? b=some o:=λ b o e=>(I.bs b o e).1
theorem Inv.mod (I:Inv X xC σ H s):Mod X.K X.mg X.base:=I.ok.mod
def Inv.kIn (I:Inv X xC σ H s):X.K.In s.heap:=I.ok.mod.kin.keeps I.bk
theorem Inv.lt (I:Inv X xC σ H s):X.env.locals < s.heap.objs.size:=let ⟨_,hn,_⟩:=I.loc;hn.lt
def Inv.sz (I:Inv X xC σ H s):X.s₀.heap.objs.size<=s.heap.objs.size:=z41 I.ok.above (z3y I.lt)
def Inv.nofs (I:Inv X xC σ H s) {a:Addr} (h:s.heap.objs.size<=a):a∉X.fs:=λ hb=>by
 obtain ⟨_,o,ho,_⟩:=I.ok.funs.mem hb;exact absurd (z1r (z3z ho) (z41 I.sz h)) (z3p _)
def Inv.cne (I:Inv X xC σ H s):∀ x c,X.env.cells.lookup x=some c ->c≠X.env.locals:=λ x c e z=>by
 obtain ⟨v,o,ho,hd⟩:=I.cell x c e;obtain ⟨m,⟨o',es,ep,O,J,_⟩,_⟩:=I.loc;rw [z,O] at ho;cases ho;rw [J] at hd;cases hd
theorem Inv.funs (I:Inv X xC σ H s):s.heap.FunFrames X.base X.outer:=by
 have all:∀ (l:List Env),(∀ b∈frs l,b∈X.fs) ->X.s₀.heap.FunFrames X.base l ->s.heap.FunFrames X.base l:=by
  intro l
  induction l with
  | nil=>intro _ _;trivial
  | cons env r ih=>
   intro Z hl;obtain ⟨hk,⟨L,o,hf,hn,ho,hd⟩,hr⟩:=hl;have J:L∈X.fs:=Z L (by unfold frs;rw [List.filterMap_cons,hf];exact z1p);obtain ⟨sl,e⟩:=I.base.slot L o ho (I.ok.frf L J) J λ z=>I.ok.exfs L z J;exact ⟨hk,⟨L,_,hf,hn,e,hd⟩,ih (λ b O=>Z b (by unfold frs;rw [List.filterMap_cons,hf];exact z16 _ O)) hr⟩
 exact all X.outer (λ _ O=>O) I.ok.funs
theorem Inv.stack (I:Inv X xC σ H s):s.heap.FunFrames X.base X.stack:=by
 rcases I.ok.stk with e | ⟨e,hf⟩
 ·rw [e];exact I.funs
 ·rw [e];obtain ⟨m,hn,_⟩:=I.loc;refine .cons (by rw [I.ok.kind];decide) hf hn ?_ I.funs;exact Heap.get?_none_of_le (z41 I.ok.bsz I.ok.above)
def Inv.stkSub (I:Inv X xC σ H s):∀ b∈frs X.stack,b∈X.env.locals::X.fs:=λ b J=>by
 rcases I.ok.stk with e | ⟨e,hf⟩
 ·rw [e] at J;exact z16 _ J
 ·rw [e] at J;unfold frs at J;rw [List.filterMap_cons,hf] at J;exact J
def Inv.stkFree (I:Inv X xC σ H s):∀ b∈frs X.stack,H b=none:=λ b J=>by
 rcases z3n.mp (I.stkSub b J) with e | J
 ·rw [e];exact I.free
 ·obtain ⟨_,o,ho,_⟩:=I.ok.funs.mem J;exact I.base.free b o ho (I.ok.frf b J) λ z=>I.ok.exfs b z J
def Inv.step {g':Array GenState} {t':Nat} {d':Drawn} {ch:List Addr} (I:Inv X xC σ H s)
  (O:∀ b∈ch,(b∈X.ex\/ X.s₀.heap.objs.size<=b)/\b≠X.env.locals/\(∀ x c,X.env.cells.lookup x=some c ->c≠b)/\∀ p∈X.pn++xC,p.1≠b)
  (keep:∀ b o,b≠X.env.locals ->b∉X.fs ->b∉ch ->s.heap.get? b=some o ->H b=none ->h'.get? b=some o)
  (slot:∀ b o,b≠X.env.locals ->b∈X.fs ->b∉ch ->s.heap.get? b=some o ->H b=none ->∃ sl,h'.get? b=some {o with slots:=sl}) (free:∀ b o,b∉ch ->s.heap.get? b=some o ->H b=none ->H' b=none)
  (there:∀ b o,b∉ch ->s.heap.get? b=some o ->∃ o',h'.get? b=some o')
  (tups:∀ b xs,H b=some (.tup xs) ->H' b=some (.tup xs)) (frzs:∀ b o u,H b=some (.frz o u) ->H' b=some (.frz o u)) (tbls:∀ b ps,H b=some (.tbl ps) ->∃ more,H' b=some (.tbl (ps++more)))
  (ns:∀ m,s.heap.Ns X.env.locals m ->h'.Ns X.env.locals m) (hok:HOk X.prog X.w H' h') (hg:AllBare g'):
  Inv X xC σ H' {s with heap:=h',gens:=g',drawn:=d',toks:=t'}:=by
 have a1:∀ b o,X.s₀.heap.get? b=some o ->b≠X.env.locals:=λ b o e=>z40 (z1r (z3z e) I.ok.above);have a0:∀ b o,X.s₀.heap.get? b=some o ->b∉X.ex ->b∉ch:=λ b o e hx hb=>by
  rcases (O b hb).1 with z | z
  ·exact hx z
  ·exact absurd (z1r (z3z e) z) (z3p _)
 have J:∀ x c,X.env.cells.lookup x=some c ->∀ v,s.heap.IsCell c v ->h'.IsCell c v:=λ x c e v ⟨o,ho,hd⟩=>by
  have Z:c∉ch:=λ z=>(O c z).2.2.1 x c e rfl;by_cases hc:c∈X.fs
  ·obtain ⟨sl,q⟩:=slot c o (I.cne x c e) hc Z ho (I.freeC x c e);exact ⟨_,q,hd⟩
  ·exact ⟨o,keep c o (I.cne x c e) hc Z ho (I.freeC x c e),hd⟩
 refine ⟨I.ok,I.os,hg,⟨λ b o e n hb hx=> ?_,λ b o e n hb hx=> ?_,λ b o e n hx=> ?_,λ b o e hx=> ?_,λ b xs e=>tups b xs (I.base.tups b xs e),λ b o xs e=>frzs b o xs (I.base.frzs b o xs e),λ b ps e=> ?_⟩,?_,λ x c e=> ?_,?_,λ x c e=> ?_,λ p hp=> ?_,hok,I.len⟩
 ·exact keep b o (a1 b o e) hb (a0 b o e hx) (I.base.keep b o e n hb hx) (I.base.free b o e n hx)
 ·obtain ⟨sl,e1⟩:=I.base.slot b o e n hb hx;obtain ⟨a2,e2⟩:=slot b _ (a1 b o e) hb (a0 b o e hx) e1 (I.base.free b o e n hx);exact ⟨a2,e2⟩
 ·obtain ⟨o',e1⟩:=I.base.there b o e hx;exact free b o' (a0 b o e hx) e1 (I.base.free b o e n hx)
 ·obtain ⟨o',e1⟩:=I.base.there b o e hx;exact there b o' (a0 b o e hx) e1
 ·obtain ⟨m1,e1⟩:=I.base.tbls b ps e;obtain ⟨m2,e2⟩:=tbls b _ e1;exact ⟨m1++m2,by rw [e2,Array.append_assoc]⟩
 ·obtain ⟨m,hn,hl⟩:=I.loc;refine ⟨m,ns m hn,λ i x v e1 e2 e3=> ?_⟩;obtain ⟨u,r,l⟩:=hl i x v e1 e2 e3;refine ⟨u,r,?_⟩;rcases l with l | ⟨k,c,e,z⟩
  ·exact .inl l
  ·exact .inr ⟨k,c,e,J x c e _ z⟩
 ·obtain ⟨v,z⟩:=I.cell x c e;exact ⟨v,J x c e v z⟩
 ·obtain ⟨m,⟨o,_,_,ho,_⟩,_⟩:=I.loc;exact free _ o (λ z=>(O _ z).2.1 rfl) ho I.free
 ·obtain ⟨v,o,ho,hd⟩:=I.cell x c e;exact free c o (λ z=>(O c z).2.2.1 x c e rfl) ho (I.freeC x c e)
 ·obtain ⟨e,n,ne,nf,d⟩:=I.pin p hp;have Z:p.1∉ch:=λ z=>(O p.1 z).2.2.2 p hp rfl;exact ⟨keep p.1 p.2 ne nf Z e n,free p.1 p.2 Z e n,ne,nf,d⟩
def Inv.un {t':Nat} (I:Inv X xC σ H s) (u:Un X.fs [] H H' s.heap h') (hok:HOk X.prog X.w H' h'):Inv X xC σ H' {s with heap:=h',toks:=t'}:=by
 obtain ⟨m,⟨o,es,ep,ho,r⟩,_⟩:=id I.loc;obtain ⟨sl,hL⟩:=u.any ho I.free (by simp);exact I.step (g':=s.gens) (d':=s.drawn) (ch:=[]) (λ _ z=>nomatch z) (λ b o _ hb _ e n=>u.keep b o e n hb (by simp)) (λ b o _ hb _ e n=>u.slot b o e n hb (by simp)) (λ b o _ e n=>u.free b o e n (by simp)) (λ b o _ e=>u.there b o e (by simp)) u.tups u.frzs u.tbls (λ m' hm=>by
  obtain ⟨o',Z,O,J,r'⟩:=hm;rw [ho] at J;cases J;exact ⟨_,Z,O,hL,r'⟩) hok I.bare
def Inv.call {g':Array GenState} {t':Nat} {d':Drawn} {ch:List Addr} (I:Inv X xC σ H s) (u:Un (frs X.stack) ch H H' s.heap h') (hok:HOk X.prog X.w H' h') (hg:AllBare g')
  (O:∀ b∈ch,(b∈X.ex\/ X.s₀.heap.objs.size<=b)/\b≠X.env.locals/\(∀ x c,X.env.cells.lookup x=some c ->c≠b)/\∀ p∈X.pn++xC,p.1≠b):
  Inv X xC σ H' {s with heap:=h',gens:=g',drawn:=d',toks:=t'}:=by
 obtain ⟨m,⟨o,es,ep,ho,r⟩,_⟩:=id I.loc;obtain ⟨sl,hL⟩:=u.any ho I.free λ z=>(O _ z).2.1 rfl;exact I.step (ch:=ch) O (λ b o hL hb J e n=>u.keep b o e n (λ z=>(z3n.mp (I.stkSub b z)).elim hL hb) J) (λ b o _ _ J e n=>u.any e n J) (λ b o J e n=>u.free b o e n J) (λ b o J e=>u.there b o e J) u.tups u.frzs u.tbls (λ m' hm=>by
  obtain ⟨o',a1,a0,Z,r'⟩:=hm;rw [ho] at Z;cases Z;exact ⟨_,a1,a0,hL,r'⟩) hok hg
def Inv.turned {t':Nat} {it:Addr} (I:Inv X xC σ H s) (k:∀ b o,b≠it ->s.heap.get? b=some o ->h'.get? b=some o) (hn:H it=none) (Z:it≠X.env.locals)
  (h1:it∈X.ex\/ X.s₀.heap.objs.size<=it) (h2:∀ x c,X.env.cells.lookup x=some c ->c≠it) (h3:∀ p∈X.pn++xC,p.1≠it):Inv X xC σ H {s with heap:=h',toks:=t'}:=by
 have O:∀ b u,H b=some u ->b≠it:=λ b u e z=>by rw [z,hn] at e;cases e
 refine I.step (g':=s.gens) (d':=s.drawn) (ch:=[it]) (λ b hb=> ?_) (λ b o _ _ J e _=>k b o (λ z=>J (by simp [z])) e) (λ b o _ _ J e _=>⟨o.slots,k b o (λ z=>J (by simp [z])) e⟩) (λ _ _ _ _ n=>n)
  (λ b o J e=>⟨o,k b o (λ z=>J (by simp [z])) e⟩) (λ _ _ e=>e) (λ _ _ _ e=>e) (λ b ps e=>⟨#[],by rw [e];simp⟩) (λ m hm=> ?_) (λ b u e=> ?_) I.bare
 ·have e:b=it:=by simpa using hb
  subst e;exact ⟨h1,Z,h2,h3⟩
 ·obtain ⟨o,es,ep,ho,r⟩:=hm;exact ⟨o,es,ep,k _ o (Ne.symm Z) ho,r⟩
 ·refine (I.hok b u e).stay (λ c v J q=>k c v ?_ q) (λ _ q=>q) λ _ _ q=>q;rcases J with z | z
  ·rw [z];exact O b u e
  ·exact O c _ z
def Inv.tok (I:Inv X xC σ H s) (t:Nat):Inv X xC σ H {s with toks:=t}:=I.un (h':=s.heap) (t':=t) Un.refl I.hok
theorem Inv.kept {t':Nat} (I:Inv X xC σ H s) (k:∀ b u,s.heap.get? b=some u ->h'.get? b=some u):Inv X xC σ H {s with heap:=h',toks:=t'}:=I.un (Un.kept k) (I.hok.kept k)
theorem Inv.laid {a:Addr} {o:HO} {t':Nat} (I:Inv X xC σ H s) (k:∀ b u,s.heap.get? b=some u ->h'.get? b=some u) (J:s.heap.objs.size<=a) (new:ObjOk X.prog X.w (upd H a o) h' a o):
  Inv X xC σ (upd H a o) {s with heap:=h',toks:=t'}:=I.un (Un.laid k J (I.hok.fresh J)) (I.hok.laid k J new)
theorem Inv.write {x e:Addr} {o:HO} {t':Nat} (I:Inv X xC σ H s) (mu:Mut (H x)) (O:e=x\/ H e=some (.own x)) (k:∀ b u,b≠e ->s.heap.get? b=some u ->h'.get? b=some u) (J:∃ u,h'.get? e=some u)
  (new:ObjOk X.prog X.w (upd H x o) h' x o):Inv X xC σ (upd H x o) {s with heap:=h',toks:=t'}:=I.un (Un.write mu O k J) (I.hok.write mu O k J new)
def Inv.qof {J:xG} (I:Inv X xC σ H s) (h:∀ p∈J,s.heap.get? p.1=some p.2/\H p.1=none/\p.1≠X.env.locals/\p.1∉X.fs/\∀ v,p.2.data≠ .cell v):Inv X J σ H s:=
 ⟨I.ok,I.os,I.bare,I.base,I.loc,I.cell,I.free,I.freeC,λ p hp=>(z2u.mp hp).elim (λ z=>I.pin p (z17 _ z)) (h p),I.hok,I.len⟩
def ql1 {N:xD} (hN:N.Nodup) {i j:Nat} {x:Str} (a:N[i]? =some x) (b:N[j]? =some x):i=j:=by
 obtain ⟨h1,e1⟩:=z07.mp a;obtain ⟨h2,e2⟩:=z07.mp b;exact (List.getElem_inj hN).mp (e1.trans e2.symm)
def qrn {M:Model} {A:Around} {E:xB} {i:Nat} {x:Str} {v:V} {u:Value} {Q:Unit ->Shared ->Prop} (I:Inv X xC σ H s) (hN:X.N.Nodup) (hi:X.N[i]? =some x) (hx:Loc X.env.scope x) (r:RelV v u)
    (h:∀ s',Inv X xC (σ.set i (some v)) H s' ->(∃ a,Heap.SameBut a s.heap s'.heap/\(a=X.env.locals\/ X.env.cells.lookup x=some a)) ->Q () s') (hf:X.fn x=true\/ X.env.scope.names.lookup x=some .local:=by first | exact .inl rfl | exact .inr rfl | assumption):wpAny M A (storeName X.env x u) Q E s:=by
  obtain ⟨m,hn,hl⟩:=id I.loc;have a4:(X.env.scope.kind== .class || (X.env.scope.kind== .module&&X.env.locals !=X.env.globals))=false:=by rw [I.ok.kind];rfl
  have a5:i < σ.length:=by rw [I.len];exact (z07.mp hi).1
  have cne:=I.cne;have O:∀ {a:Addr} {h':Heap},(∃ o,s.heap.get? a=some o/\H a=none) ->Heap.SameBut a s.heap h' ->HOk X.prog X.w H h':=λ {a h'} ha J b ob e=>by
    obtain ⟨_,_,a0⟩:=ha;refine (I.hok b ob e).stay (λ c w' Z q=>(J.2 c ?_).trans q) (λ _ q=>q) λ _ _ q=>q;rintro rfl;rcases Z with rfl | Z
    · rw [a0] at e;cases e
    · rw [a0] at Z;cases Z
  rcases hx with hk | hk
  · refine wpAny_storeName_local hk hn (λ h' a8 J=> ?_) a4
    obtain ⟨oL,_,_,a9,_⟩:=id hn;refine h _ ⟨I.ok,I.os,I.bare,⟨λ b o e n hb hx=> ?_,λ b o e n hb hx=> ?_,I.base.free,λ b o e hx=> ?_,I.base.tups,I.base.frzs,I.base.tbls⟩,⟨_,a8,λ j y v' e1 e2 e3=> ?_⟩,λ y c e=> ?_,I.free,I.freeC,λ p hp=> ?_,O ⟨oL,a9,I.free⟩ J,by simpa using I.len⟩ ⟨_,J,.inl rfl⟩
    · exact (J.2 b (z40 (z1r (z3z e) I.ok.above))).trans (I.base.keep b o e n hb hx)
    · obtain ⟨sl,e1⟩:=I.base.slot b o e n hb hx
      exact ⟨sl,(J.2 b (z40 (z1r (z3z e) I.ok.above))).trans e1⟩
    · obtain ⟨o',e1⟩:=I.base.there b o e hx
      exact ⟨o',(J.2 b (z40 (z1r (z3z e) I.ok.above))).trans e1⟩
    · by_cases hj:j=i
      · subst hj
        rw [hi] at e1;cases e1;rw [List.getElem?_set_self a5] at e2;cases e2
        exact ⟨u,r,.inl ⟨hk,by simp⟩⟩
      · rw [List.getElem?_set_ne (Ne.symm hj)] at e2
        obtain ⟨u',r',q⟩:=hl j y v' e1 e2 e3;refine ⟨u',r',?_⟩;rcases q with ⟨k,e⟩ | ⟨k,c,e,z⟩
        · refine .inl ⟨k,?_⟩
          have:y≠x:=λ e=>hj (ql1 hN e1 (e ▸ hi));simp [this,e]
        · exact .inr ⟨k,c,e,z.sameBut J (cne y c e)⟩
    · obtain ⟨w',z⟩:=I.cell y c e
      exact ⟨w',z.sameBut J (cne y c e)⟩
    · obtain ⟨e,n,ne,nf,d⟩:=I.pin p hp
      exact ⟨(J.2 p.1 ne).trans e,n,ne,nf,d⟩
  · have a1:X.fn x=true:=by
      rcases hf with z | z
      · exact z
      · rw [z] at hk;cases hk
    obtain ⟨c,Z⟩:=I.ok.has x (.inl hk);obtain ⟨w',z⟩:=I.cell x c Z;refine wpAny_storeName_cell I.ok.kind hk Z z (λ h' a2 J=> ?_);obtain ⟨oc,a6,a7⟩:=id z;refine h {s with heap:=h'} ⟨I.ok,I.os,I.bare,⟨λ b o e n hb hx=> ?_,λ b o e n hb hx=> ?_,I.base.free,λ b o e hx=> ?_,I.base.tups,I.base.frzs,I.base.tbls⟩,⟨m,hn.sameBut J (Ne.symm (cne x c Z)),λ j y v' e1 e2 e3=> ?_⟩,λ y c' e=> ?_,I.free,I.freeC,λ p hp=> ?_,O ⟨oc,a6,I.freeC x c Z⟩ J,by simpa using I.len⟩ ⟨c,J,.inr Z⟩
    · exact (J.2 b (z40 (z1r (z3z e) (I.ok.cab x c a1 Z)))).trans (I.base.keep b o e n hb hx)
    · obtain ⟨sl,e1⟩:=I.base.slot b o e n hb hx
      exact ⟨sl,(J.2 b (z40 (z1r (z3z e) (I.ok.cab x c a1 Z)))).trans e1⟩
    · obtain ⟨o',e1⟩:=I.base.there b o e hx
      exact ⟨o',(J.2 b (z40 (z1r (z3z e) (I.ok.cab x c a1 Z)))).trans e1⟩
    · by_cases hj:j=i
      · subst hj
        rw [hi] at e1;cases e1;rw [List.getElem?_set_self a5] at e2;cases e2
        exact ⟨u,r,.inr ⟨.inl hk,c,Z,a2⟩⟩
      · rw [List.getElem?_set_ne (Ne.symm hj)] at e2
        obtain ⟨u',r',q⟩:=hl j y v' e1 e2 e3;refine ⟨u',r',?_⟩;rcases q with q | ⟨k,c',e,z'⟩
        · exact .inl q
        · refine .inr ⟨k,c',e,z'.sameBut J ?_⟩
          rintro rfl;exact hj (ql1 hN e1 (I.ok.inj _ _ _ e Z ▸ hi))
    · by_cases a3:c'=c
      · subst a3;exact ⟨_,a2⟩
      · obtain ⟨w2,z2⟩:=I.cell y c' e
        exact ⟨w2,z2.sameBut J a3⟩
    · obtain ⟨e,n,ne,nf,d⟩:=I.pin p hp
      refine ⟨(J.2 p.1 ?_).trans e,n,ne,nf,d⟩;intro q;rw [q,a6] at e;have q':oc=p.2:=Option.some.inj e;exact d w' (by rw [<- q'];exact a7)
def qdt {M:Model} {A:Around} {E:xB} {i:Nat} {x:Str} {v:V} {u:Value} {Q:Unit ->Shared ->Prop} (I:Inv X xC σ H s) (hN:X.N.Nodup) (hi:X.N[i]? =some x) (hx:Loc X.env.scope x) (r:RelV v u)
  (h:∀ s',Inv X xC (σ.set i (some v)) H s' ->Q () s') (hf:X.fn x=true\/ X.env.scope.names.lookup x=some .local:=by first | exact .inl rfl | exact .inr rfl | assumption):wpAny M A (storeName X.env x u) Q E s:=
 qrn I hN hi hx r (λ s' I' _=>h s' I') hf
def Inv.call' {s':Shared} {ch:List Addr} (I:Inv X xC σ H s) (ho:s'.os=s.os) (u:Un (frs X.stack) ch H H' s.heap s'.heap) (hok:HOk X.prog X.w H' s'.heap) (hg:AllBare s'.gens)
  (J:∀ b∈ch,(b∈X.ex\/ X.s₀.heap.objs.size<=b)/\b≠X.env.locals/\(∀ x c,X.env.cells.lookup x=some c ->c≠b)/\∀ p∈X.pn++xC,p.1≠b):Inv X xC σ H' s':=by
 obtain ⟨h',g',d',t',o'⟩:=s';have e:o'=s.os:=ho;subst e;exact I.call (g':=g') (t':=t') (d':=d') u hok hg J
end
abbrev XK:=Value ->Option Addr ->Hp ->Prop
abbrev St:=List (Option V)
abbrev VK:=V ->Hp ->Prop
abbrev TE:=St ->Hp ->VK ->Prop
abbrev TT:=St ->Hp ->(Bool ->Hp ->Prop) ->Prop
abbrev TA:=St ->Hp ->(List V ->Hp ->Prop) ->Prop
structure Ends where
 nx:St ->Hp ->Prop
 rt:VK
 bk:St ->Hp ->Prop:=λ _ _=>False
 ct:St ->Hp ->Prop:=λ _ _=>False
abbrev TS:=Ends ->St ->Hp ->Prop
def EP (X:Cx) (xC:xG) (σ:St) (Q:VK) (u:Value) (s':Shared):Prop:=∃ v H',Inv X xC σ H' s'/\RelV v u/\Q v H'
def TP (X:Cx) (xC:xG) (σ:St) (Q:Bool ->Hp ->Prop) (b:Bool) (s':Shared):Prop:=∃ H',Inv X xC σ H' s'/\Q b H'
def AP (X:Cx) (xC:xG) (σ:St) (Q:List V ->Hp ->Prop) (us:xH) (s':Shared):Prop:=∃ vs H',Inv X xC σ H' s'/\Vals vs us/\Q vs H'
def SP (X:Cx) (xC:xG) (D:Ends) (f:Flow) (s':Shared):Prop:=
 match f with
 | .next=>∃ σ' H',Inv X xC σ' H' s'/\D.nx σ' H'
 | .brk=>∃ σ' H',Inv X xC σ' H' s'/\D.bk σ' H'
 | .cont=>∃ σ' H',Inv X xC σ' H' s'/\D.ct σ' H'
 | .ret u=>∃ v σ' H',Inv X xC σ' H' s'/\RelV v u/\D.rt v H'
def PE (X:Cx) (e:Expr) (t:TE):Prop:=
 ∀ (xC:xG) (s:Shared) (σ:St) (H:Hp) (Q:VK),Inv X xC σ H s ->t σ H Q ->wpAny (model X.prog X.w) X.A (eval e X.env) (EP X xC σ Q) X.xe s
def PT (X:Cx) (e:Expr) (t:TT):Prop:=
 ∀ (xC:xG) (s:Shared) (σ:St) (H:Hp) (Q:Bool ->Hp ->Prop),Inv X xC σ H s ->t σ H Q ->wpAny (model X.prog X.w) X.A (isTrue e X.env (eval e X.env)) (TP X xC σ Q) X.xe s
def PW (X:Cx) (e:Expr) (t:TT):Prop:=
 ∀ (whole:Sem Value) (xC:xG) (s:Shared) (σ:St) (H:Hp) (Q:Bool ->Hp ->Prop),Inv X xC σ H s ->t σ H Q ->wpAny (model X.prog X.w) X.A (isTrue e X.env whole) (TP X xC σ Q) X.xe s
def PW.pt {X:Cx} {e:Expr} {t:TT} (h:PW X e t):PT X e t:=h _
def PA (X:Cx) (es:List Expr) (t:TA):Prop:=
 ∀ (pos:Pos) (xC:xG) (s:Shared) (σ:St) (H:Hp) (Q:List V ->Hp ->Prop),Inv X xC σ H s ->t σ H Q ->wpAny (model X.prog X.w) X.A (spliced (backTo pos (starEach es X.env))) (AP X xC σ Q) X.xe s
def PS (X:Cx) (st:Stmt) (t:TS):Prop:=
 ∀ (xC:xG) (s:Shared) (σ:St) (H:Hp) (D:Ends),Inv X xC σ H s ->t D σ H ->wpAny (model X.prog X.w) X.A (exec st X.env) (SP X xC D) X.xe s
def PSs (X:Cx) (st:List Stmt) (t:TS):Prop:=
 ∀ (xC:xG) (s:Shared) (σ:St) (H:Hp) (D:Ends),Inv X xC σ H s ->t D σ H ->wpAny (model X.prog X.w) X.A (execs st X.env) (SP X xC D) X.xe s
def thn {α:Type} {t:Sem α} {Q J:α ->Shared ->Prop} {M:Model} {A:Around} {E:xB} {s:Shared} (h:wpAny M A t Q E s) (hQ:∀ a s,Q a s ->J a s):wpAny M A t J E s:=z4g h hQ λ _ _ x=>x
section
variable {X:Cx}
def tVar (i:Nat):TE:=λ σ H Q=>∃ v,σ[i]? =some (some v)/\Q v H
def tC (v:V):TE:=λ _ H Q=>Q v H
def q10c {i:Nat} {x:Str} {pos:Pos} (hN:X.N[i]? =some x) (hv:Vis X.env.scope x) (hd:(x==("__debug__":Str))=false:=by decide) (O:(x==("__classdict__":Str))=false:=by decide):PE X (.Name x pos) (tVar i):=by
 intro xC s σ H Q I h;obtain ⟨v,e,h⟩:=h;obtain ⟨m,hn,hl⟩:=I.loc;obtain ⟨u,r,l⟩:=hl i x v hN e hv;have fin:EP X xC σ Q u s:=⟨v,H,I,r,h⟩;rcases l with ⟨hk,hm⟩ | ⟨hk,c,Z,J⟩
 ·exact wpAny_Name (wpAny_loadName_local I.ok.kind hk hn hm fin) hd
 ·rcases hk with hk | hk
  ·exact wpAny_Name (wpAny_loadName_cell I.ok.kind hk Z J fin) hd
  ·exact wpAny_Name (wpAny_loadName_free I.ok.kind hk Z J fin O) hd
def qd {i j pos}:PE X (.Constant (.int i) j pos) (tC (.int i)):=λ _ _ _ H _ I h=>wpAny_Constant_int ⟨.int i,H,I.tok _,⟨_,rfl⟩,h⟩
def q4o {b j pos}:PE X (.Constant (.bool b) j pos) (tC (.bl b)):=λ _ _ _ H _ I h=>Constant_bool ⟨.bl b,H,I,rfl,h⟩
def q4w {j pos}:PE X (.Constant .none j pos) (tC .non):=λ _ _ _ H _ I h=>Constant_none ⟨.non,H,I,rfl,h⟩
def q10d {x j pos}:PE X (.Constant (.str x) j pos) (tC (.str x)):=λ _ _ _ H _ I h=>Calls.Constant_str ⟨.str x,H,I.tok _,⟨_,rfl⟩,h⟩
def Gl (X:Cx) (x:Str):Prop:=X.env.kindOf x=some .globalImplicit
def q9a {E:xB} {xC:xG} {s:Shared} {σ:St} {H:Hp} {x:Str} {u:Value} {pos:Pos} {Q:xB} (I:Inv X xC σ H s) (hg:Gl X x) (hm:X.mg x=some u) (h:Q u s)
  (hd:(x==("__debug__":Str))=false:=by decide):wpAny (model X.prog X.w) X.A (eval (.Name x pos) X.env) Q E s:=
 Calls.Name_function_global I.ok.kind hg (Calls.loadGlobal_global (by rw [I.ok.glob];exact I.mod.glob.keeps I.bk) hm h) hd
def qbb {E:xB} {xC:xG} {s:Shared} {σ:St} {H:Hp} {x:Str} {u:Value} {pos:Pos} {Q:xB} (I:Inv X xC σ H s) (hg:Gl X x) (hm:X.mg x=none) (hv:bootBuiltins x=some u) (h:Q u s)
  (hn:x≠"__name__":=by decide) (hd:(x==("__debug__":Str))=false:=by decide):wpAny (model X.prog X.w) X.A (eval (.Name x pos) X.env) Q E s:=by
 obtain ⟨mb,h1,h2⟩:=I.mod.blt;exact Calls.Name_function_global I.ok.kind hg (Calls.loadGlobal_builtin (by rw [I.ok.glob];exact I.mod.glob.keeps I.bk) hm (by rw [I.ok.blt];exact h1.keeps I.bk) ((h2 x hn).trans hv) h) hd
def qog {x:Str} {v:V} {u:Value} {pos:Pos} (hg:Gl X x) (hm:X.mg x=some u) (r:RelV v u) (hd:(x==("__debug__":Str))=false:=by decide):PE X (.Name x pos) (tC v):=
 λ _ _ _ H _ I h=>q9a I hg hm ⟨v,H,I,r,h⟩ hd
def qxr {x:Str} {v:V} {u:Value} {pos:Pos} (hg:Gl X x) (hm:X.mg x=none) (hv:bootBuiltins x=some u) (r:RelV v u) (hn:x≠"__name__":=by decide) (hd:(x==("__debug__":Str))=false:=by decide):PE X (.Name x pos) (tC v):=
 λ _ _ _ H _ I h=>qbb I hg hm hv ⟨v,H,I,r,h⟩ hn hd
variable {a b:Expr} {ta tb:TE} {pos:Pos}
def PC (X:Cx) (op:CmpOp) (a b:Expr) (t:TE):Prop:=
 ∀ (xC:xG) (s:Shared) (σ:St) (H:Hp) (Q:VK),Inv X xC σ H s ->t σ H Q ->
  wpAny (model X.prog X.w) X.A (eval a X.env) (λ v s₁=>wpAny (model X.prog X.w) X.A (eval b X.env) (λ u s₂=>wpAny (model X.prog X.w) X.A (compareOp op v u) (EP X xC σ Q) X.xe s₂) X.xe s₁) X.xe s
def tB (t:TE):TT:=λ σ H Q=>t σ H λ x H1=>∃ c,x= .bl c/\Q c H1
def qf1 {op:CmpOp} {t:TE} (h:PC X op a b t) (h1:behindInMarks op b=false:=by first | exact nobehind _ (by decide) (by decide) | rfl):PT X (.Compare a [op] [b] pos) (tB t):=by
 intro xC s σ H Q I hw;refine wpAny_isTrue_Compare1 (thn (h xC s σ H _ I hw) λ v s1 h1=>thn h1 λ u s2 h2=>thn h2 λ c s3 J=> ?_) h1;obtain ⟨x,H1,I1,r1,q1⟩:=J;obtain ⟨d,rfl,q⟩:=q1;cases r1
 exact z24 ⟨H1,I1,q⟩
def q6t {e:Expr} {t:TE} (h:PE X e t) (he:∀ J,isTrue e X.env J=(do let v <- J;standAt e.pos;holding [v] (truthy v)):=by intro _;rfl):PT X e (tB t):=by
 intro xC s σ H Q I hw;refine isTrue_plain (thn (h xC s σ H _ I hw) λ v s1 O=> ?_) (he _);obtain ⟨x,H1,I1,r1,q1⟩:=O;obtain ⟨d,rfl,q⟩:=q1;cases r1
 exact z24 ⟨H1,I1,q⟩
variable {tA tB':TT} {rest:List Expr}
def tAnd (t u:TT):TT:=λ σ H Q=>t σ H λ c H1=>if c=true then u σ H1 Q else Q false H1
def tOr (t u:TT):TT:=λ σ H Q=>t σ H λ c H1=>if c=true then Q true H1 else u σ H1 Q
def tNot (t:TT):TT:=λ σ H Q=>t σ H λ c H1=>Q (!c) H1
def qgc (ha:PT X a tA):PW X (.BoolOp .And [a] pos) tA:=by
 intro wh xC s σ H Q I h;refine isTrue_and (thn (ha xC s σ H Q I h) λ c s1 e=> ?_);cases c with
 | true=>exact isTrue_and_nil e
 | false=>exact e
def q9b (ha:PT X a tA):PW X (.BoolOp .Or [a] pos) tA:=by
 intro wh xC s σ H Q I h;refine isTrue_or (thn (ha xC s σ H Q I h) λ c s1 e=> ?_);cases c with
 | false=>exact isTrue_or_nil e
 | true=>exact e
def ql2 (ha:PT X a tA) (hb:PW X (.BoolOp .And (b::rest) pos) tB'):PW X (.BoolOp .And (a::b::rest) pos) (tAnd tA tB'):=by
 intro wh xC s σ H Q I h;refine isTrue_and (thn (ha xC s σ H _ I h) λ c s1 J=> ?_);obtain ⟨H1,I1,q1⟩:=J;cases c with
 | true=>exact hb wh xC s1 σ H1 Q I1 q1
 | false=>exact ⟨H1,I1,q1⟩
def qck (ha:PT X a tA) (hb:PW X (.BoolOp .Or (b::rest) pos) tB'):PW X (.BoolOp .Or (a::b::rest) pos) (tOr tA tB'):=by
 intro wh xC s σ H Q I h;refine isTrue_or (thn (ha xC s σ H _ I h) λ c s1 J=> ?_);obtain ⟨H1,I1,q1⟩:=J;cases c with
 | true=>exact ⟨H1,I1,q1⟩
 | false=>exact hb wh xC s1 σ H1 Q I1 q1
def q5j (ha:PT X a tA):PT X (.UnaryOp .Not a pos) (tNot tA):=by
 intro xC s σ H Q I h;exact isTrue_not (ha xC s σ H (λ c H1=>Q (!c) H1) I h)
def q12f (ta tb:TE):TE:=λ σ H Q=>ta σ H λ x H1=>∃ c,x= .bl c/\if c=true then tb σ H1 Q else Q (.bl false) H1
def tOrV (ta tb:TE):TE:=λ σ H Q=>ta σ H λ x H1=>∃ c,x= .bl c/\if c=true then Q (.bl true) H1 else tb σ H1 Q
def q12g (ta:TE):TE:=λ σ H Q=>ta σ H λ x H1=>∃ c,x= .bl c/\Q (.bl (!c)) H1
def q4x {op} {t:TE} (h:PE X a t):PE X (.BoolOp op [a] pos) t:=λ xC s σ H Q I hw=>BoolOp_one (h xC s σ H Q I hw)
def q6u (ha:PE X a ta) (hb:PE X (.BoolOp .And (b::rest) pos) tb):PE X (.BoolOp .And (a::b::rest) pos) (q12f ta tb):=by
 intro xC s σ H Q I h;refine BoolOp_and (thn (ha xC s σ H _ I h) λ v s1 J=> ?_);obtain ⟨x,H1,I1,r1,q1⟩:=J;obtain ⟨c,rfl,q1⟩:=q1;cases r1
 refine z24 ?_;cases c with
 | true=>exact hb xC s1 σ H1 Q I1 q1
 | false=>exact ⟨.bl false,H1,I1,rfl,q1⟩
def qwz (ha:PE X a ta) (hb:PE X (.BoolOp .Or (b::rest) pos) tb):PE X (.BoolOp .Or (a::b::rest) pos) (tOrV ta tb):=by
 intro xC s σ H Q I h;refine BoolOp_or (thn (ha xC s σ H _ I h) λ v s1 J=> ?_);obtain ⟨x,H1,I1,r1,q1⟩:=J;obtain ⟨c,rfl,q1⟩:=q1;cases r1
 refine z24 ?_;cases c with
 | false=>exact hb xC s1 σ H1 Q I1 q1
 | true=>exact ⟨.bl true,H1,I1,rfl,q1⟩
def q10e (ha:PE X a ta):PE X (.UnaryOp .Not a pos) (q12g ta):=by
 intro xC s σ H Q I h;refine UnaryOp_ (thn (ha xC s σ H _ I h) λ v s1 J=> ?_);obtain ⟨x,H1,I1,r1,q1⟩:=J;obtain ⟨c,rfl,q1⟩:=q1;cases r1
 exact not_of (z24 ⟨.bl (!c),H1,I1,zr,q1⟩)
end
def SqL (K:xA) (H:Hp) (a:Addr) (xs:List V):Prop:=
 Rd H a (.lst xs)\/
  ∃ (o:Obj) (its:Array Value) (n:Nat),K.lookup a=some o/\o.cls= .type "list"/\o.dict=none/\o.data= .seq its n/\its.size<=sizeLine/\Vals xs its.toList
def SqT (K:xA) (H:Hp) (a:Addr) (xs:List V):Prop:=
 Rd H a (.tup xs)\/
  ∃ (o:Obj) (its:Array Value) (n:Nat),K.lookup a=some o/\o.cls= .type "tuple"/\o.data= .seq its n/\its.size<=sizeLine/\Vals xs its.toList
def absV:Value ->Option V
 | .none=>some .non
 | .bool b=>some (.bl b)
 | .int i _=>some (.int i)
 | .str x _=>some (.str x)
 | .bytes b _=>some (.byt b)
 | .float b _=>some (.flt b)
 | .ref a=>some (.ref a)
 | .type n=>some (.ty n)
 | _=>none
def RelV.abs {x:V} {u:Value} (r:RelV x u):absV u=some x:=by
 cases x with
 | non=>cases r;rfl
 | bl _=>cases r;rfl
 | int _=>obtain ⟨t,rfl⟩:=r;rfl
 | str _=>obtain ⟨t,rfl⟩:=r;rfl
 | byt _=>obtain ⟨t,rfl⟩:=r;rfl
 | flt _=>obtain ⟨t,rfl⟩:=r;rfl
 | ref _=>cases r;rfl
 | ty _=>cases r;rfl
theorem RelV.inj {x y:V} {u:Value} (r:RelV x u) (q:RelV y u):x=y:=Option.some.inj (r.abs.symm.trans q.abs)
theorem Vals.inj:∀ {xs ys:List V} {us:xH},Vals xs us ->Vals ys us ->xs=ys
 | _,_,_,.nil,.nil=>rfl
 | _,_,_,.cons r t,.cons r' t'=>by rw [r.inj r',Vals.inj t t']
section
variable {X:Cx} {xC:xG} {σ:St} {H:Hp} {s:Shared} {a:Addr} {xs ys:List V}
def SqL.of {K:xA} (h:H a=some (.lst xs)):SqL K H a xs:= .inl (.inl h)
def SqT.of {K:xA} (h:H a=some (.tup xs)):SqT K H a xs:= .inl (.inl h)
def Inv.list (I:Inv X xC σ H s) (h:SqL X.K H a xs):∃ its:List Value,Vals xs its/\PlainL s.heap a its.toArray/\xs.length<=sizeLine:=by
 rcases h with h | ⟨o,its,n,hk,hc,hd,hs,hz,r⟩
 ·obtain ⟨z,its,n,r,e⟩:=h.ok I.hok;exact ⟨its,r,⟨_,n,e,zr,zr,zr⟩,z⟩
 ·refine ⟨its.toList,r,⟨o,n,I.kIn a o hk,hc,hd,by simpa using hs⟩,?_⟩;have e:=r.length;simp only [z19] at e
  lia
def Inv.tuple (I:Inv X xC σ H s) (h:SqT X.K H a xs):∃ its:List Value,Vals xs its/\IsTup s.heap a its.toArray/\xs.length<=sizeLine:=by
 rcases h with h | ⟨o,its,n,hk,hc,hs,hz,r⟩
 ·obtain ⟨z,its,r,p⟩:=h.ok I.hok;exact ⟨its,r,p,z⟩
 ·refine ⟨its.toList,r,⟨o,I.kIn a o hk,hc,n,by simpa using hs⟩,?_⟩;have e:=r.length;simp only [z19] at e
  lia
def Inv.quk (I:Inv X xC σ H s) (h:SqL X.K H a xs) (h':SqL X.K H a ys):xs=ys:=by
 obtain ⟨its,r,⟨o,n,e,_,_,d⟩,_⟩:=I.list h;obtain ⟨its',r',⟨o',n',e',_,_,d'⟩,_⟩:=I.list h';rw [e] at e';cases e';rw [d] at d';injection d' with d1 _;have:its=its':=by simpa using congrArg Array.toList d1
 subst this;exact r.inj r'
def Inv.qro (I:Inv X xC σ H s) (h:SqT X.K H a xs) (h':SqT X.K H a ys):xs=ys:=by
 obtain ⟨its,r,⟨o,e,_,n,d⟩,_⟩:=I.tuple h;obtain ⟨its',r',⟨o',e',_,n',d'⟩,_⟩:=I.tuple h';rw [e] at e';cases e';rw [d] at d';injection d' with d1 _;have:its=its':=by simpa using congrArg Array.toList d1
 subst this;exact r.inj r'
end
abbrev Cx.wish (X:Cx) (E:xB):Cx:={X with xe:=E}
abbrev Cx.nox (X:Cx):Cx:=X.wish λ _ _=>False
theorem Cx.Ok.wish {X:Cx} (ok:X.Ok) (E:xB):(X.wish E).Ok:=
 ⟨ok.mod,ok.kind,ok.glob,ok.blt,ok.above,ok.inj,ok.has,ok.cab,ok.hd,ok.frames,ok.stk,ok.exf,ok.bs,ok.bsz,ok.noex,ok.exfs,ok.funs,ok.frf⟩
def Cx.Ok.unwish {X:Cx} {E:xB} (ok:(X.wish E).Ok):X.Ok:=
 ⟨ok.mod,ok.kind,ok.glob,ok.blt,ok.above,ok.inj,ok.has,ok.cab,ok.hd,ok.frames,ok.stk,ok.exf,ok.bs,ok.bsz,ok.noex,ok.exfs,ok.funs,ok.frf⟩
section
variable {X:Cx} {xC:xG} {σ:St} {H:Hp} {s:Shared} {E:xB}
theorem Inv.wish (I:Inv X xC σ H s) (E:xB):Inv (X.wish E) xC σ H s:=⟨I.ok.wish E,I.os,I.bare,I.base,I.loc,I.cell,I.free,I.freeC,I.pin,I.hok,I.len⟩
theorem Inv.unwish (I:Inv (X.wish E) xC σ H s):Inv X xC σ H s:=⟨I.ok.unwish,I.os,I.bare,I.base,I.loc,I.cell,I.free,I.freeC,I.pin,I.hok,I.len⟩
theorem SP.unwish {D:Ends} {f:Flow} {s':Shared} (h:SP (X.wish E) xC D f s'):SP X xC D f s':=by
 cases f with
 | next=>obtain ⟨σ',H',I,q⟩:=h;exact ⟨σ',H',I.unwish,q⟩
 | brk=>obtain ⟨σ',H',I,q⟩:=h;exact ⟨σ',H',I.unwish,q⟩
 | cont=>obtain ⟨σ',H',I,q⟩:=h;exact ⟨σ',H',I.unwish,q⟩
 | ret u=>obtain ⟨v,σ',H',I,r,q⟩:=h;exact ⟨v,σ',H',I.unwish,r,q⟩
theorem PSs.nox {st:List Stmt} {t:TS} (h:PSs X.nox st t):PSs X st t:=λ xC s σ H D I hw=>
 z4g (h xC s σ H D (I.wish _) hw) (λ _ _ q=>q.unwish) λ _ _ z=>False.elim z
end
section
variable {X:Cx} {st:Stmt} {rest:List Stmt} {t u:TS} {e:Expr} {te:TE} {pos:Pos}
def q12h:TS:=λ D σ H=>D.nx σ H
def tSeq (t u:TS):TS:=λ D σ H=>t {D with nx:=u D} σ H
def q18:PSs X [] q12h:=λ _ _ σ H _ I h=>wpAny_execs_nil ⟨σ,H,I,h⟩
def qx (h1:PS X st t) (h2:PSs X rest u):PSs X (st::rest) (tSeq t u):=by
 intro xC s σ H D I h;refine wpAny_execs_cons (thn (h1 xC s σ H {D with nx:=u D} I h) λ f s1 q=> ?_);cases f with
 | next=>
  obtain ⟨σ',H',I',q⟩:=q;exact h2 xC s1 σ' H' D I' q
 | ret v=>exact q
 | brk=>exact q
 | cont=>exact q
def qg (h1:PS X st t):PSs X [st] t:=by
 intro xC s σ H D I h;refine wpAny_execs_cons (thn (h1 xC s σ H D I h) λ f s1 q=> ?_);cases f with
 | next=>exact wpAny_execs_nil q
 | ret v=>exact q
 | brk=>exact q
 | cont=>exact q
def Inv.quiet {xC:xG} {σ:St} {H:Hp} {s:Shared} (I:Inv X xC σ H s):interactive X.env=false:=by simp [interactive,I.ok.kind]
def q12i (te:TE):TS:=λ D σ H=>te σ H λ _ H1=>D.nx σ H1
def q2s (he:PE X e te) (hs:swapsWith e none pos.line X.env=pure false:=by rfl):PS X (.Expr e pos) (q12i te):=by
 intro xC s σ H D I h;exact wpAny_Expr_any (thn (he xC s σ H _ I h) λ v s1 ⟨x,H1,I1,r1,q1⟩=>⟨σ,H1,I1,q1⟩) I.quiet hs
def tRet (te:TE):TS:=λ D σ H=>te σ H D.rt
def qk (he:PE X e te):PS X (.Return (some e) pos) (tRet te):=by
 intro xC s σ H D I h;exact wpAny_Return_some (thn (he xC s σ H _ I h) λ v s1 ⟨x,H1,I1,r1,q1⟩=>⟨x,σ,H1,I1,r1,q1⟩)
def tIfS (c:TT) (t u:TS):TS:=λ D σ H=>c σ H λ b H1=>if b=true then t D σ H1 else u D σ H1
def q1g {c:Expr} {a b:List Stmt} {tc:TT} (hc:PT X c tc) (ha:PSs X a t) (hb:PSs X b u):PS X (.If c a b pos) (tIfS tc t u):=by
 intro xC s σ H D I h;refine wpAny_If (thn (hc xC s σ H _ I h) λ d s1 J=> ?_);obtain ⟨H1,I1,q1⟩:=J;cases d with
 | true=>exact ha xC s1 σ H1 D I1 q1
 | false=>exact hb xC s1 σ H1 D I1 q1
end
abbrev TG:=V ->St ->Hp ->(St ->Hp ->Prop) ->Prop
abbrev TGs:=List V ->St ->Hp ->(St ->Hp ->Prop) ->Prop
def PG (X:Cx) (target:Expr) (t:TG):Prop:=
 ∀ (xC:xG) (s:Shared) (σ:St) (H:Hp) (v:V) (u:Value) (Q:St ->Hp ->Prop),Inv X xC σ H s ->RelV v u ->t v σ H Q ->
  wpAny (model X.prog X.w) X.A (assign target X.env u) (λ _ s'=>∃ σ' H',Inv X xC σ' H' s'/\Q σ' H') X.xe s
def PGs (X:Cx) (ts:List Expr) (t:TGs):Prop:=
 ∀ (xC:xG) (s:Shared) (σ:St) (H:Hp) (vs:List V) (us:xH) (Q:St ->Hp ->Prop),Inv X xC σ H s ->Vals vs us ->t vs σ H Q ->
  wpAny (model X.prog X.w) X.A (assignInOrder ((assignEach ts X.env).map (·.2)) us) (λ _ s'=>∃ σ' H',Inv X xC σ' H' s'/\Q σ' H') X.xe s
section
variable {X:Cx} {pos:Pos}
def qpu (i:Nat):TG:=λ v σ H Q=>Q (σ.set i (some v)) H
def qr {i:Nat} {x:Str} (hN:X.N.Nodup) (hi:X.N[i]? =some x) (hx:Loc X.env.scope x) (hf:X.fn x=true\/ X.env.scope.names.lookup x=some .local:=by first | exact .inl rfl | exact .inr rfl | assumption):PG X (.Name x pos) (qpu i):=by
 intro xC s σ H v u Q I r h;exact wpAny_assign_Name (qdt I hN hi hx r (λ s' I'=>⟨_,H,I',h⟩) hf)
def gNil:TGs:=λ vs σ H Q=>vs=[]/\Q σ H
def q12j (t:TG) (u:TGs):TGs:=λ vs σ H Q=>∃ v r,vs=v::r/\t v σ H λ σ' H'=>u r σ' H' Q
def q7v:PGs X [] gNil:=by
 intro xC s σ H vs us Q I r h;obtain ⟨e,h⟩:=h;subst e;cases r
 exact assignInOrder_nil ⟨σ,H,I,h⟩
def q2n {e:Expr} {es:List Expr} {t:TG} {u:TGs} (h1:PG X e t) (h2:PGs X es u)
  (hs:(assignEach (e::es) X.env).map (·.2)=assign e X.env::(assignEach es X.env).map (·.2):=by rfl):PGs X (e::es) (q12j t u):=by
 intro xC s σ H vs us Q I r h;obtain ⟨v,vr,e1,h⟩:=h;subst e1;cases r with
 | cons r rr=>
  rw [hs];refine assignInOrder_cons (thn (h1 xC s σ H _ _ _ I r h) λ _ s1 J=> ?_);obtain ⟨σ1,H1,I1,q1⟩:=J;exact h2 xC s1 σ1 H1 _ _ Q I1 rr q1
def gTup (K:xA) (n:Nat) (t:TGs):TG:=λ v σ H Q=>∃ a xs,v= .ref a/\SqT K H a xs/\xs.length=n/\t xs σ H Q
def q9c {es:List Expr} {k:Nat} {t:TGs} {n:Nat} (hc:X.calm=true) (h:PGs X es t)
  (hn:(assignEach es X.env).length=n:=by rfl) (J:(assignEach es X.env).findIdx? (·.1)=none:=by rfl):PG X (.Tuple es k pos) (gTup X.K n t):=by
 intro xC s σ H v u Q I r hw;obtain ⟨a,xs,e1,hq,hl,hw⟩:=hw;subst e1;cases r
 obtain ⟨its,rv,ht,hz⟩:=I.tuple hq;refine assign_Tuple_tuple (I.ok.hd hc) ht (by simp [hn,<- hl,rv.length]) J λ h' hx=> ?_;have I1:Inv X xC σ H {s with heap:=h'}:=I.kept (t':=s.toks) λ b o e=>hx b o (z40 (z3z e)) e;exact h xC _ σ H xs _ Q I1 (by simpa using rv) hw
def tAsg (te:TE) (g:TG):TS:=λ D σ H=>te σ H λ x H1=>g x σ H1 D.nx
def qt {i:Nat} {x:Str} {e:Expr} {te:TE} {pos':Pos} (hN:X.N.Nodup) (hi:X.N[i]? =some x) (hx:Loc X.env.scope x) (he:PE X e te) (hs:swapsWith e (some (.Name x pos')) pos.line X.env=pure false:=by rfl) (hf:X.fn x=true\/ X.env.scope.names.lookup x=some .local:=by first | exact .inl rfl | exact .inr rfl | assumption):
  PS X (.Assign [.Name x pos'] e pos) (tAsg te (qpu i)):=by
 intro xC s σ H D I h;refine wpAny_Assign_Name (thn (he xC s σ H _ I h) λ v s1 J=> ?_) hs;obtain ⟨y,H1,I1,r1,q1⟩:=J;exact qdt I1 hN hi hx r1 (λ s2 I2=>⟨_,H1,I2,q1⟩) hf
end
section
variable {X:Cx} {pos:Pos}
def q10f (c:TT) (tb:TS):TS:=λ D σ H=>∃ W:Nat ->St ->Hp ->Prop,(∃ m,W m σ H)/\∀ m σ H,W m σ H ->
 c σ H λ b H1=>if b=true then ∃ N:St ->Hp ->Prop,(∀ σ' H',N σ' H' ->∃ m',m' < m/\W m' σ' H')/\tb {D with nx:=N,ct:=N,bk:=D.nx} σ H1 else D.nx σ H1
def ql3 {c:Expr} {body:List Stmt} {tc:TT} {tb:TS} (hp:PassesOwn (model X.prog X.w) X.A X.env X.xe) (hc:PT X c tc) (hb:PSs X body tb):PS X (.While c body [] pos) (q10f tc tb):=by
 intro xC s σ H D I h;obtain ⟨W,⟨m0,w0⟩,turn⟩:=h;refine wpAny_While (codeAny_whileLoop (λ n s'=>∃ σ' H',Inv X xC σ' H' s'/\W n σ' H') ?_ m0 ⟨σ,H,I,w0⟩);rintro n s1 ⟨σ1,H1,I1,w1⟩;refine z2y hp (thn (hc xC s1 σ1 H1 _ I1 (turn n σ1 H1 w1)) λ b s2 a0=> ?_);obtain ⟨H2,I2,q2⟩:=a0;cases b with
 | true=>
  obtain ⟨N,hN,q2⟩:=q2;rw [if_pos rfl];refine z2y hp (thn (hb xC s2 σ1 H2 _ I2 q2) λ f s3 q3=> ?_);cases f with
  | next=>
   obtain ⟨σ3,H3,I3,Z⟩:=q3;obtain ⟨O,J,w3⟩:=hN σ3 H3 Z;exact ⟨O,J,σ3,H3,I3,w3⟩
  | cont=>
   obtain ⟨σ3,H3,I3,Z⟩:=q3;obtain ⟨O,J,w3⟩:=hN σ3 H3 Z;exact ⟨O,J,σ3,H3,I3,w3⟩
  | brk=>exact q3
  | ret v=>exact q3
 | false=>
  rw [if_neg z1l];exact wpAny_execs_nil ⟨σ1,H2,I2,q2⟩
end
structure It where
 go:Nat ->Hp ->Prop
 yld:Nat ->Hp ->V ->Hp ->Prop
 stop:Nat ->Hp ->Prop
def FpOk (X:Cx) (xC:xG) (H:Hp) (b:Addr):Prop:=
 H b=none/\b≠X.env.locals/\b∉X.fs/\(b∈X.ex\/ X.s₀.heap.objs.size<=b)/\(∀ x c,X.env.cells.lookup x=some c ->c≠b)/\∀ p∈X.pn++xC,p.1≠b
def Inv.fpOk {X:Cx} {xC:xG} {σ:St} {H H':Hp} {s:Shared} {b:Addr} (I:Inv X xC σ H s) (J:s.heap.objs.size<=b) (hn:H' b=none):FpOk X xC H' b:=by
 refine ⟨hn,z42 (z1r I.lt J),I.nofs J,.inr (z41 I.sz J),λ x c e z=> ?_,λ p hp z=> ?_⟩
 ·obtain ⟨v,q⟩:=I.cell x c e;exact absurd (z1r q.lt (by rw [z];exact J)) (z3p _)
 ·exact absurd (z1r (z3z (I.pin p hp).1) (by rw [z];exact J)) (z3p _)
structure Turn (P:Program) (w:World) (K:xA) (tg:Expr) (J:It) (fp:List Addr) (it:Addr) (tn:Nat ->Heap ->Prop):Prop where
 mem:it∈fp
 obj:∀ i h,tn i h ->∀ b∈fp,∃ o,h.get? b=some o/\∀ v,o.data≠ .cell v
 keep:∀ i h h',tn i h ->(∀ b∈fp,∀ o,h.get? b=some o ->h'.get? b=some o) ->tn i h'
 item:∀ (X:Cx),X.prog=P ->X.w=w ->X.K=K ->X.calm=true ->∀ (i:Nat) (xC:xG) (s:Shared) (σ:St) (H:Hp) (E:xB),Inv X xC σ H s ->(∀ b∈fp,FpOk X xC H b) ->tn i s.heap ->J.go i H ->
  wpAny (model P w) X.A (pyNext (.ref it)) (λ r s1=>∃ u,r=some u/\
   wpAny (model P w) X.A (letOwnedTupleGo tg (.ref it) u) (λ _ s2=>∃ x H',Inv X xC σ H' s2/\RelV x u/\J.yld i H x H'/\tn (i+1) s2.heap/\∀ b∈fp,H' b=none) E s1) E s
 done:∀ (X:Cx),X.prog=P ->X.w=w ->X.K=K ->X.calm=true ->∀ (i:Nat) (xC:xG) (s:Shared) (σ:St) (H:Hp) (E:xB),Inv X xC σ H s ->(∀ b∈fp,FpOk X xC H b) ->tn i s.heap ->J.stop i H ->
  wpAny (model P w) X.A (pyNext (.ref it)) (λ r s1=>r=none/\Inv X xC σ H s1) E s
 self:∀ (A:Around) (i:Nat) (s:Shared) (Q:xB) (E:xB),tn i s.heap ->Q (.ref it) s ->wpAny (model P w) A (pyIter (.ref it)) Q E s
abbrev TI:=St ->Hp ->(It ->Hp ->Prop) ->Prop
def PIE (X:Cx) (xC:xG) (σ:St) (tg:Expr) (R:It ->Hp ->Prop) (itv:Value) (s2:Shared):Prop:=
 ∃ (it:Addr) (fp:List Addr) (tn:Nat ->Heap ->Prop) (J:It) (H':Hp),itv= .ref it/\Inv X xC σ H' s2/\Turn X.prog X.w X.K tg J fp it tn/\tn 0 s2.heap/\(∀ b∈fp,FpOk X xC H' b)/\R J H'
def PI (X:Cx) (tg iter:Expr) (wi:TI):Prop:=
 ∀ (xC:xG) (s:Shared) (σ:St) (H:Hp) (R:It ->Hp ->Prop),Inv X xC σ H s ->wi σ H R ->
  wpAny (model X.prog X.w) X.A (eval iter X.env) (λ v s1=>wpAny (model X.prog X.w) X.A (pyIter v) (PIE X xC σ tg R) X.xe s1) X.xe s
def qcl {M:Model} {A:Around} {E:xB} {s:Shared} {tg:Expr} {it:Addr} {u:Value} {o:Obj} {n:String} {vs:Array Value} {Q:Unit ->Shared ->Prop} (ho:s.heap.get? it=some o) (hc:o.cls= .type n) (hd:o.data= .fields vs)
    (hn: ["enumerate","zip","dict_itemiterator","dict_reverseitemiterator","odict_iterator","itertools.zip_longest","itertools.pairwise"].contains n=false) (J:Q () s):wpAny M A (letOwnedTupleGo tg (.ref it) u) Q E s:=by
  unfold letOwnedTupleGo;cases tg <;> first
    | exact z4e J
    | (cases u <;> first
        | exact z4e J
        | (refine z4f (wpAny_load ho ?_)
           rw [hc,hd];show wpAny M A (if (["enumerate","zip","dict_itemiterator","dict_reverseitemiterator","odict_iterator","itertools.zip_longest","itertools.pairwise"].contains n&&vs[0]? ==some (rawInt _))=true then _ else _) Q E s;rw [if_neg (by intro h;rw [hn,z3e] at h;cases h)];exact z4e J))
def Itl (K:xA) (a:Addr):It:=
 ⟨λ i H=>∃ xs x,SqL K H a xs/\xs[i]? =some x,λ i H x H'=>H'=H/\∀ xs,SqL K H a xs ->xs[i]? =some x,λ i H=>∃ xs,SqL K H a xs/\xs.length<=i⟩
def Itt (K:xA) (a:Addr):It:=
 ⟨λ i H=>∃ xs x,SqT K H a xs/\xs[i]? =some x,λ i H x H'=>H'=H/\∀ xs,SqT K H a xs ->xs[i]? =some x,λ i H=>∃ xs,SqT K H a xs/\xs.length<=i⟩
def Itr (lo:Int) (n:Nat):It:=⟨λ i _=>i < n,λ i H x H'=>H'=H/\x= .int (lo+i),λ i _=>n<=i⟩
def qrp {P:Program} {w:World} {K:xA} {tg:Expr} (a it:Addr):Turn P w K tg (Itl K a) [it] it (λ i h=>h.IsListIter it a i) where
 mem:=by simp
 obj:=λ i h st b J=>by
  have e:b=it:=by simpa using J
  subst e;obtain ⟨o,e,c,d⟩:=st;exact ⟨o,e,λ v z=>by rw [d] at z;cases z⟩
 keep:=λ i h h' st k=>st.at λ o e=>k it (by simp) o e
 item:=by
  intro X hP hw hK hc i xC s σ H E I hf st hg;subst hP hw hK;obtain ⟨xs,x,hq,hx⟩:=hg;obtain ⟨its,rv,p,hz⟩:=I.list hq;obtain ⟨u,hu,ru⟩:=rv.get hx;obtain ⟨Z,f1,f2,f3,f4,f5⟩:=hf it (by simp);refine wpAny_pyNext_list_item st p.isList (x:=u) (by simpa using hu) λ h' O sb=> ?_;have I1:Inv X xC σ H {s with heap:=h'}:=I.turned (t':=s.toks) (λ b o J e=>(sb.2 b J).trans e) Z f1 f3 f4 f5;obtain ⟨o,e,c,d⟩:=id O;exact ⟨u,rfl,qcl (s:={s with heap:=h'}) e c d (by decide) ⟨x,H,I1,ru,⟨rfl,λ ys hy=>by rw [I.quk hy hq];exact hx⟩,O,λ b J=>(hf b J).1⟩⟩
 done:=by
  intro X hP hw hK hc i xC s σ H E I hf st hg;subst hP hw hK;obtain ⟨xs,hq,hx⟩:=hg;obtain ⟨its,rv,p,hz⟩:=I.list hq;obtain ⟨Z,f1,f2,f3,f4,f5⟩:=hf it (by simp);have hl:=rv.length;exact wpAny_pyNext_list_end (I.ok.hd hc) st p.isList (by simp;lia) λ h' eb=>⟨rfl,I.turned (t':=s.toks) (λ b o J e=>eb b o J e) Z f1 f3 f4 f5⟩
 self:=λ _ _ _ _ _ st h=>wpAny_pyIter_listiter st h
def qpv {P:Program} {w:World} {K:xA} {tg:Expr} (a it:Addr):Turn P w K tg (Itt K a) [it] it (λ i h=>h.IsTupleIter it a i) where
 mem:=by simp
 obj:=λ i h st b J=>by
  have e:b=it:=by simpa using J
  subst e;obtain ⟨o,e,c,d⟩:=st;exact ⟨o,e,λ v z=>by rw [d] at z;cases z⟩
 keep:=λ i h h' st k=>st.at λ o e=>k it (by simp) o e
 item:=by
  intro X hP hw hK hc i xC s σ H E I hf st hg;subst hP hw hK;obtain ⟨xs,x,hq,hx⟩:=hg;obtain ⟨its,rv,p,hz⟩:=I.tuple hq;obtain ⟨u,hu,ru⟩:=rv.get hx;obtain ⟨Z,f1,f2,f3,f4,f5⟩:=hf it (by simp);refine wpAny_pyNext_tuple_item st (show s.heap.IsTuple a its.toArray from p) (x:=u) (by simpa using hu) λ h' O sb=> ?_;have I1:Inv X xC σ H {s with heap:=h'}:=I.turned (t':=s.toks) (λ b o J e=>(sb.2 b J).trans e) Z f1 f3 f4 f5;obtain ⟨o,e,c,d⟩:=id O;exact ⟨u,rfl,qcl (s:={s with heap:=h'}) e c d (by decide) ⟨x,H,I1,ru,⟨rfl,λ ys hy=>by rw [I.qro hy hq];exact hx⟩,O,λ b J=>(hf b J).1⟩⟩
 done:=by
  intro X hP hw hK hc i xC s σ H E I hf st hg;subst hP hw hK;obtain ⟨xs,hq,hx⟩:=hg;obtain ⟨its,rv,p,hz⟩:=I.tuple hq;obtain ⟨Z,f1,f2,f3,f4,f5⟩:=hf it (by simp);have hl:=rv.length;exact wpAny_pyNext_tuple_end (I.ok.hd hc) st (show s.heap.IsTuple a its.toArray from p) (by simp;lia) λ h' eb=>⟨rfl,I.turned (t':=s.toks) (λ b o J e=>eb b o J e) Z f1 f3 f4 f5⟩
 self:=λ _ _ _ _ _ st h=>wpAny_pyIter_tupleiter st h
def qpw {P:Program} {w:World} {K:xA} {tg:Expr} (it:Addr) (lo:Int) (n:Nat):Turn P w K tg (Itr lo n) [it] it (λ i h=>IsRangeIter h it (lo+(i:Nat)*1) ((n:Int) - (i:Nat)) 1) where
 mem:=by simp
 obj:=λ i h st b J=>by
  have e:b=it:=by simpa using J
  subst e;exact ⟨_,st,λ v z=>by
   have z':Data.fields _=Data.cell v:=z;cases z'⟩
 keep:=λ i h h' st k=>k it (by simp) _ st
 item:=by
  intro X hP hw hK hc i xC s σ H E I hf st hg;subst hP hw hK;obtain ⟨Z,f1,f2,f3,f4,f5⟩:=hf it (by simp);have W:=Walks.range (prog:=X.prog) (w:=X.w) (I.ok.hd hc) it lo 1 n;refine W.item i s _ _ hg st λ v h' tk hv O kk=> ?_;obtain ⟨t,rfl⟩:=hv;have I1:Inv X xC σ H {s with heap:=h',toks:=tk}:=I.turned (λ b o J e=>kk b o (by simpa using J) e) Z f1 f3 f4 f5;refine ⟨_,rfl,qcl (s:={s with heap:=h',toks:=tk}) (n:="range_iterator") O rfl rfl (by decide) ⟨.int (lo+i),H,I1,⟨t,?_⟩,⟨rfl,rfl⟩,O,λ b J=>(hf b J).1⟩⟩;rw [Int.mul_one]
 done:=by
  intro X hP hw hK hc i xC s σ H E I hf st hg;subst hP hw hK;obtain ⟨Z,f1,f2,f3,f4,f5⟩:=hf it (by simp);exact wpAny_pyNext_range_end (I.ok.hd hc) st (by have:n<=i:=hg;lia) λ h' eb=>⟨rfl,I.turned (t':=s.toks) (λ b o J e=>eb b o J e) Z f1 f3 f4 f5⟩
 self:=λ _ _ _ _ _ st h=>wpAny_pyIter_rangeiter st h
section
variable {X:Cx} {tg:Expr}
def qx0 (K:xA) (tl:TE):TI:=λ σ H R=>tl σ H λ x H1=>∃ a,x= .ref a/\(∃ xs,SqL K H1 a xs)/\R (Itl K a) H1
def iTup (K:xA) (tl:TE):TI:=λ σ H R=>tl σ H λ x H1=>∃ a,x= .ref a/\(∃ xs,SqT K H1 a xs)/\R (Itt K a) H1
def qxs {l:Expr} {tl:TE} (hl:PE X l tl):PI X tg l (qx0 X.K tl):=by
 intro xC s σ H R I h;refine thn (hl xC s σ H _ I h) λ v s1 J=> ?_;obtain ⟨x,H1,I1,r1,q1⟩:=J;obtain ⟨a,e,⟨xs,hq⟩,q⟩:=q1;subst e;cases r1
 obtain ⟨its,rv,p,hz⟩:=I1.list hq;refine z25 p.isList ?_;refine ⟨s1.heap.objs.size,[s1.heap.objs.size],_,_,H1,zr,I1.kept (t':=s1.toks) λ b o e=>z0o _ e,qrp a _,⟨_,z1c _ rfl,zr,zr⟩,λ b hb=> ?_,q⟩;have e:b=s1.heap.objs.size:=by simpa using hb
 subst e;exact I1.fpOk (z48 _) (I1.hok.fresh (z48 _))
def q10g {l:Expr} {tl:TE} (hl:PE X l tl):PI X tg l (iTup X.K tl):=by
 intro xC s σ H R I h;refine thn (hl xC s σ H _ I h) λ v s1 J=> ?_;obtain ⟨x,H1,I1,r1,q1⟩:=J;obtain ⟨a,e,⟨xs,hq⟩,q⟩:=q1;subst e;cases r1
 obtain ⟨its,rv,p,hz⟩:=I1.tuple hq;refine wpAny_pyIter_tuple (show s1.heap.IsTuple a its.toArray from p) ?_;refine ⟨s1.heap.objs.size,[s1.heap.objs.size],_,_,H1,zr,I1.kept (t':=s1.toks) λ b o e=>z0o _ e,qpv a _,⟨_,z1c _ rfl,zr,zr⟩,λ b hb=> ?_,q⟩;have e:b=s1.heap.objs.size:=by simpa using hb
 subst e;exact I1.fpOk (z48 _) (I1.hok.fresh (z48 _))
def qul {xC:xG} {σ:St} {H:Hp} {s:Shared} {R:It ->Hp ->Prop} {E:xB} {lo hi:Int} {t u v:Tok} {tk:Nat} (I:Inv X xC σ H s) (h1: -(2^62)<=lo) (h2:lo < 2^62) (h3: -(2^62)<=hi) (h4:hi < 2^62)
  (q:R (Itr lo (hi - lo).toNat) H):wpAny (model X.prog X.w) X.A (pyIter (.ref s.heap.objs.size)) (PIE X xC σ tg R) E {s with heap:=s.heap.push {cls:= .type "range",data:= .fields #[.int lo t,.int hi u,.int 1 v]},toks:=tk}:=by
 refine wpAny_pyIter_range (IsRange.new ..) (small_one h1 h2 h3 h4) ?_;have I1:Inv X xC σ H {s with heap:=s.heap.push {cls:= .type "range",data:= .fields #[.int lo t,.int hi u,.int 1 v]},toks:=tk}:=I.kept λ b o e=>z0o _ e;refine ⟨(s.heap.push {cls:= .type "range",data:= .fields #[.int lo t,.int hi u,.int 1 v]}).objs.size,[(s.heap.push {cls:= .type "range",data:= .fields #[.int lo t,.int hi u,.int 1 v]}).objs.size],_,_,H,zr,
  I1.kept (t':=tk) λ b o e=>z0o _ e,qpw _ lo (hi - lo).toNat,?_,λ b hb=> ?_,q⟩
 ·have e1:lo+((0:Nat):Int)*1=lo:=by simp
  have e2:(((hi - lo).toNat:Nat):Int) - ((0:Nat):Int)=Builtin.Range.rangeSize lo hi 1:=by rw [rangeSize_one];split <;> lia
  show IsRangeIter _ _ (lo+((0:Nat):Int)*1) ((((hi - lo).toNat:Nat):Int) - ((0:Nat):Int)) 1;rw [e1,e2];exact z1c _ rfl
 ·have e:b=(s.heap.push {cls:= .type "range",data:= .fields #[.int lo t,.int hi u,.int 1 v]}).objs.size:=by simpa using hb
  subst e;exact I1.fpOk (z48 _) (I1.hok.fresh (z48 _))
def q12k (ta:TA):TI:=λ σ H R=>ta σ H λ vs H1=>∃ j:Int,vs=[.int j]/\ -(2^62)<=j/\j < 2^62/\R (Itr 0 j.toNat) H1
def q6v {a:Expr} {ta:TA} {p pos:Pos} (hg:Gl X "range") (hm:X.mg "range"=none) (ha:PA X [a] ta) (hs:starEach [a] X.env=[(false,eval a X.env)]:=by rfl):PI X tg (.Call (.Name "range" p) [a] [] pos) (q12k ta):=by
 intro xC s σ H R I h;refine Call_ (qbb I hg hm boot_range (z03 (thn (ha pos xC s σ H _ I h) λ us s1 J=> ?_) hs rfl));obtain ⟨vs,H1,I1,r1,q1⟩:=J;obtain ⟨j,e,q1,q2,q⟩:=q1;subst e;cases r1 with
 | cons r rr=>
  cases rr
  obtain ⟨t,rfl⟩:=r;exact call_range_1 (qul I1 (by lia) (by lia) q1 q2 (by simpa using q))
def tFor (wi:TI) (g:TG) (tb:TS):TS:=λ D σ H=>wi σ H λ J H1=>∃ W:Nat ->Nat ->St ->Hp ->Prop,(∃ m,W 0 m σ H1)/\∀ i m σ H,W i m σ H ->
 (J.stop i H/\D.nx σ H)\/ (J.go i H/\∃ N:St ->Hp ->Prop,(∀ σ' H',N σ' H' ->∃ m',m' < m/\W (i+1) m' σ' H')/\∀ x H',J.yld i H x H' ->g x σ H' λ σ2 H2=>tb {D with nx:=N,ct:=N,bk:=D.nx} σ2 H2)
def qbc (fp:List Addr) (h:Heap):List (Addr×Obj):=fp.filterMap λ b=>(h.get? b).map λ o=>(b,o)
def q5k {fp:List Addr} {h:Heap} {b:Addr} {o:Obj} (hb:b∈fp) (e:h.get? b=some o):(b,o)∈qbc fp h:=List.mem_filterMap.mpr ⟨b,hb,by rw [e];rfl⟩
def qrq {fp:List Addr} {h:Heap} {p:Addr×Obj} (hp:p∈qbc fp h):p.1∈fp/\h.get? p.1=some p.2:=by
 obtain ⟨b,hb,e⟩:=List.mem_filterMap.mp hp;cases q:h.get? b with
 | none=>rw [q] at e;cases e
 | some o=>
  rw [q] at e;have e':(b,o)=p:=Option.some.inj e;subst e';exact ⟨hb,q⟩
def Inv.pinned {xC:xG} {σ:St} {H:Hp} {s:Shared} {fp:List Addr} (I:Inv X xC σ H s) (hf:∀ b∈fp,FpOk X xC H b) (ho:∀ b∈fp,∃ o,s.heap.get? b=some o/\∀ v,o.data≠ .cell v):Inv X (xC++qbc fp s.heap) σ H s:=
 I.qof λ p hp=>(z2u.mp hp).elim (λ z=>I.pin p (z0w _ z)) λ z=>by
  obtain ⟨J,e⟩:=qrq z;obtain ⟨f0,f1,f2,_⟩:=hf p.1 J;obtain ⟨o,e',d⟩:=ho p.1 J;rw [e] at e';cases e';exact ⟨e,f0,f1,f2,d⟩
def Inv.unpinned {xC pl:xG} {σ:St} {H:Hp} {s:Shared} (I:Inv X (xC++pl) σ H s):Inv X xC σ H s:=I.qof λ p hp=>I.pin p (z0w _ (z17 _ hp))
def q1i {iter:Expr} {body:List Stmt} {wi:TI} {g:TG} {tb:TS} {pos:Pos} (hp:PassesOwn (model X.prog X.w) X.A X.env X.xe) (hc:X.calm=true) (hi:PI X tg iter wi) (hg:PG X tg g) (hb:PSs X body tb)
  (hs:∀ x,foldedSetIterable iter X.env x=pure x:=by intro _;rfl):PS X (.For tg iter body [] pos) (tFor wi g tb):=by
 intro xC s σ H D I h;refine wpAny_For (thn (hi xC s σ H _ I h) λ v s1 h1=>thn h1 λ itv s2 h2=> ?_) hs;obtain ⟨it,fp,tn,J,H2,e,I2,T,a6,f2,W,⟨m0,w0⟩,turn⟩:=h2;subst e;have a0:∀ {H':Hp},(∀ b∈fp,H' b=none) ->∀ b∈fp,FpOk X xC H' b:=λ hn b hb=>⟨hn b hb,(f2 b hb).2⟩;refine codeAny_forLoop_any (λ n s'=>∃ i σ' H',Inv X xC σ' H' s'/\tn i s'.heap/\(∀ b∈fp,H' b=none)/\W i n σ' H') ?_ m0 ⟨0,σ,H2,I2,a6,λ b hb=>(f2 b hb).1,w0⟩;rintro n s3 ⟨i,σ3,H3,I3,a3,a2,w3⟩;rcases turn i n σ3 H3 w3 with ⟨stop,qn⟩ | ⟨go,N,hN,step⟩
 ·refine z2y hp (thn (T.done X rfl rfl rfl hc i xC s3 σ3 H3 X.xe I3 (a0 a2) a3 stop) λ r s4 O=> ?_);obtain ⟨hr,I4⟩:=O;subst hr;exact wpAny_execs_nil ⟨σ3,H3,I4,qn⟩
 ·refine z2y hp (thn (T.item X rfl rfl rfl hc i xC s3 σ3 H3 X.xe I3 (a0 a2) a3 go) λ r s4 O=> ?_);obtain ⟨u,hr,h4⟩:=O;subst hr;refine z2y hp (thn h4 λ _ s5 O=> ?_);obtain ⟨x,H5,I5,r5,y5,a1,a5⟩:=O;have a4:=I5.pinned (a0 a5) (T.obj _ _ a1);refine z2y hp (thn (hg _ s5 σ3 H5 x u _ a4 r5 (step x H5 y5)) λ _ s6 O=> ?_);obtain ⟨σ6,H6,I6,q6⟩:=O;refine z2y hp (thn (hb _ s6 σ6 H6 _ I6 q6) λ f s7 q7=> ?_);have again:∀ {σ7:St} {Z:Hp},Inv X (xC++qbc fp s5.heap) σ7 Z s7 ->N σ7 Z ->∃ m,m < n/\∃ i σ' H',Inv X xC σ' H' s7/\tn i s7.heap/\(∀ b∈fp,H' b=none)/\W i m σ' H':=λ {σ7 Z} I7 n7=>by
   obtain ⟨m',hm,w7⟩:=hN σ7 Z n7;refine ⟨m',hm,i+1,σ7,Z,I7.unpinned,T.keep _ _ _ a1 λ b hb o e=>(I7.pin (b,o) (z0w _ (z0w _ (q5k hb e)))).1,λ b hb=> ?_,w7⟩;obtain ⟨o,e,d⟩:=T.obj _ _ a1 b hb;exact (I7.pin (b,o) (z0w _ (z0w _ (q5k hb e)))).2.1
  cases f with
  | next=>obtain ⟨σ7,Z,I7,n7⟩:=q7;exact again I7 n7
  | cont=>obtain ⟨σ7,Z,I7,n7⟩:=q7;exact again I7 n7
  | brk=>obtain ⟨σ7,Z,I7,q7⟩:=q7;exact ⟨σ7,Z,I7.unpinned,q7⟩
  | ret v=>obtain ⟨x7,σ7,Z,I7,r7,q7⟩:=q7;exact ⟨x7,σ7,Z,I7.unpinned,r7,q7⟩
end
def q29 {K:xA} {a:Addr} {xs:List V} {g:TG} {tb:TS} {D:Ends} {σ:St} {H:Hp} (Pv:Nat ->St ->Hp ->Prop) (h0:Pv 0 σ H) (hl:∀ i σ H,i<=xs.length ->Pv i σ H ->SqL K H a xs)
  (hs:∀ i x σ H,xs[i]? =some x ->Pv i σ H ->g x σ H λ σ2 H2=>tb {D with nx:=Pv (i+1),ct:=Pv (i+1),bk:=D.nx} σ2 H2) (hd:∀ σ H,Pv xs.length σ H ->D.nx σ H):
  ∃ W:Nat ->Nat ->St ->Hp ->Prop,(∃ m,W 0 m σ H)/\∀ i m σ H,W i m σ H ->
   ((Itl K a).stop i H/\D.nx σ H)\/ ((Itl K a).go i H/\∃ N:St ->Hp ->Prop,(∀ σ' H',N σ' H' ->∃ O,O < m/\W (i+1) O σ' H')/\∀ x H',(Itl K a).yld i H x H' ->g x σ H' λ σ2 H2=>tb {D with nx:=N,ct:=N,bk:=D.nx} σ2 H2):=by
 refine ⟨λ i m σ H=>m=xs.length - i/\i<=xs.length/\Pv i σ H,⟨xs.length,by simp,z4b _,h0⟩,?_⟩;rintro i m σ H ⟨rfl,hi,p⟩;have q:=hl i σ H hi p;by_cases J:i < xs.length
 ·refine .inr ⟨⟨xs,xs[i],q,by simp [J]⟩,Pv (i+1),λ σ' H' p'=>⟨xs.length - (i+1),by lia,zr,J,p'⟩,λ x H' y=> ?_⟩;obtain ⟨e,y⟩:=y;subst e;exact hs i x σ _ (y xs q) p
 ·have e:i=xs.length:=by lia
  subst e;exact .inl ⟨⟨xs,q,z48 _⟩,hd σ H p⟩
def q9d {K:xA} {a:Addr} {xs:List V} {g:TG} {tb:TS} {D:Ends} {σ:St} {H:Hp} (Pv:Nat ->St ->Hp ->Prop) (h0:Pv 0 σ H) (hl:∀ i σ H,i<=xs.length ->Pv i σ H ->SqT K H a xs)
  (hs:∀ i x σ H,xs[i]? =some x ->Pv i σ H ->g x σ H λ σ2 H2=>tb {D with nx:=Pv (i+1),ct:=Pv (i+1),bk:=D.nx} σ2 H2) (hd:∀ σ H,Pv xs.length σ H ->D.nx σ H):
  ∃ W:Nat ->Nat ->St ->Hp ->Prop,(∃ m,W 0 m σ H)/\∀ i m σ H,W i m σ H ->
   ((Itt K a).stop i H/\D.nx σ H)\/ ((Itt K a).go i H/\∃ N:St ->Hp ->Prop,(∀ σ' H',N σ' H' ->∃ O,O < m/\W (i+1) O σ' H')/\∀ x H',(Itt K a).yld i H x H' ->g x σ H' λ σ2 H2=>tb {D with nx:=N,ct:=N,bk:=D.nx} σ2 H2):=by
 refine ⟨λ i m σ H=>m=xs.length - i/\i<=xs.length/\Pv i σ H,⟨xs.length,by simp,z4b _,h0⟩,?_⟩;rintro i m σ H ⟨rfl,hi,p⟩;have q:=hl i σ H hi p;by_cases J:i < xs.length
 ·refine .inr ⟨⟨xs,xs[i],q,by simp [J]⟩,Pv (i+1),λ σ' H' p'=>⟨xs.length - (i+1),by lia,zr,J,p'⟩,λ x H' y=> ?_⟩;obtain ⟨e,y⟩:=y;subst e;exact hs i x σ _ (y xs q) p
 ·have e:i=xs.length:=by lia
  subst e;exact .inl ⟨⟨xs,q,z48 _⟩,hd σ H p⟩
def q8v {lo:Int} {n:Nat} {g:TG} {tb:TS} {D:Ends} {σ:St} {H:Hp} (Pv:Nat ->St ->Hp ->Prop) (h0:Pv 0 σ H)
  (hs:∀ i σ H,i < n ->Pv i σ H ->g (.int (lo+i)) σ H λ σ2 H2=>tb {D with nx:=Pv (i+1),ct:=Pv (i+1),bk:=D.nx} σ2 H2) (hd:∀ σ H,Pv n σ H ->D.nx σ H):
  ∃ W:Nat ->Nat ->St ->Hp ->Prop,(∃ m,W 0 m σ H)/\∀ i m σ H,W i m σ H ->
   ((Itr lo n).stop i H/\D.nx σ H)\/ ((Itr lo n).go i H/\∃ N:St ->Hp ->Prop,(∀ σ' H',N σ' H' ->∃ O,O < m/\W (i+1) O σ' H')/\∀ x H',(Itr lo n).yld i H x H' ->g x σ H' λ σ2 H2=>tb {D with nx:=N,ct:=N,bk:=D.nx} σ2 H2):=by
 refine ⟨λ i m σ H=>m=n - i/\i<=n/\Pv i σ H,⟨n,by simp,z4b _,h0⟩,?_⟩;rintro i m σ H ⟨rfl,hi,p⟩;by_cases J:i < n
 ·refine .inr ⟨J,Pv (i+1),λ σ' H' p'=>⟨n - (i+1),by lia,zr,J,p'⟩,λ x H' y=> ?_⟩;obtain ⟨e,y⟩:=y;subst e y;exact hs i σ _ J p
 ·have e:i=n:=by lia
  subst e;exact .inl ⟨z48 _,hd σ H p⟩
abbrev R2:=V ->V ->Hp ->VK ->Prop
def OpR (X:Cx) (f:Value ->Value ->Sem Value) (r:R2):Prop:=
 ∀ (xC:xG) (s:Shared) (σ:St) (H:Hp) (x y:V) (v u:Value) (Q:VK),Inv X xC σ H s ->RelV x v ->RelV y u ->r x y H Q ->
  wpAny (model X.prog X.w) X.A (f v u) (EP X xC σ Q) X.xe s
def q22 (X:Cx) (f:Value) (r:List V ->Hp ->VK ->Prop):Prop:=
 ∀ (xC:xG) (s:Shared) (σ:St) (H:Hp) (xs:List V) (us:xH) (Q:VK),Inv X xC σ H s ->Vals xs us ->r xs H Q ->
  wpAny (model X.prog X.w) X.A (call f us) (EP X xC σ Q) X.xe s
def tOp (r:R2) (ta tb:TE):TE:=λ σ H Q=>ta σ H λ x H1=>tb σ H1 λ y H2=>r x y H2 Q
def rI (C:Int ->Int ->Prop) (g:Int ->Int ->V):R2:=λ x y H Q=>∃ i j,x= .int i/\y= .int j/\C i j/\Q (g i j) H
def rI0 (g:Int ->Int ->V):R2:=λ x y H Q=>∃ i j,x= .int i/\y= .int j/\Q (g i j) H
section
variable {X:Cx} {a b c:Expr} {ta tb tc:TE} {pos:Pos}
def binT (ha:PE X a ta) (hb:PE X b tb) {xC:xG} {s:Shared} {σ:St} {H:Hp} {R:V ->V ->Hp ->Prop} (I:Inv X xC σ H s)
  (h:ta σ H λ x H1=>tb σ H1 λ y H2=>R x y H2) {Q:xB} {f:Value ->Value ->Sem Value}
  (hf:∀ v u O x y H2,Inv X xC σ H2 O ->RelV x v ->RelV y u ->R x y H2 ->wpAny (model X.prog X.w) X.A (f v u) Q X.xe O):
  wpAny (model X.prog X.w) X.A (eval a X.env) (λ v s₁=>wpAny (model X.prog X.w) X.A (eval b X.env) (λ u s₂=>wpAny (model X.prog X.w) X.A (f v u) Q X.xe s₂) X.xe s₁) X.xe s:=by
 refine thn (ha xC s σ H _ I h) λ v s1 J=> ?_;obtain ⟨x,H1,I1,r1,q1⟩:=J;refine thn (hb xC s1 σ H1 _ I1 q1) λ u O J=> ?_;obtain ⟨y,H2,I2,r2,q2⟩:=J;exact hf v u O x y H2 I2 r1 r2 q2
def qm {op:Operator} {r:R2} (ho:OpR X (binaryOp op) r) (ha:PE X a ta) (hb:PE X b tb):PE X (.BinOp a op b pos) (tOp r ta tb):=by
 intro xC s σ H Q I h;exact wpAny_BinOp (binT ha hb I h λ v u s2 x y H2 I2 rx ry q=>ho xC s2 σ H2 x y v u Q I2 rx ry q)
def opI {f:Value ->Value ->Sem Value} {C:Int ->Int ->Prop} {g:Int ->Int ->Int}
  (rule:∀ (i j:Int) (t u:Tok) (s:Shared) (Q:xB) (E:xB),C i j ->Q (.int (g i j) s.toks) {s with toks:=s.toks+1} ->wpAny (model X.prog X.w) X.A (f (.int i t) (.int j u)) Q E s):
  OpR X f (rI C λ i j=> .int (g i j)):=by
 intro xC s σ H x y v u Q I rx ry h;obtain ⟨i,j,rfl,rfl,hc,q⟩:=h;obtain ⟨t,rfl⟩:=rx;obtain ⟨t',rfl⟩:=ry;exact rule i j t t' s _ _ hc ⟨.int (g i j),H,I.tok _,⟨_,zr⟩,q⟩
def opI0 {f:Value ->Value ->Sem Value} {g:Int ->Int ->Int}
  (rule:∀ (i j:Int) (t u:Tok) (s:Shared) (Q:xB) (E:xB),Q (.int (g i j) s.toks) {s with toks:=s.toks+1} ->wpAny (model X.prog X.w) X.A (f (.int i t) (.int j u)) Q E s):
  OpR X f (rI0 λ i j=> .int (g i j)):=by
 intro xC s σ H x y v u Q I rx ry h;obtain ⟨i,j,rfl,rfl,q⟩:=h;obtain ⟨t,rfl⟩:=rx;obtain ⟨t',rfl⟩:=ry;exact rule i j t t' s _ _ ⟨.int (g i j),H,I.tok _,⟨_,zr⟩,q⟩
def opB0 {f:Value ->Value ->Sem Value} {g:Int ->Int ->Bool}
  (rule:∀ (i j:Int) (t u:Tok) (s:Shared) (Q:xB) (E:xB),Q (.bool (g i j)) s ->wpAny (model X.prog X.w) X.A (f (.int i t) (.int j u)) Q E s):
  OpR X f (rI0 λ i j=> .bl (g i j)):=by
 intro xC s σ H x y v u Q I rx ry h;obtain ⟨i,j,rfl,rfl,q⟩:=h;obtain ⟨t,rfl⟩:=rx;obtain ⟨t',rfl⟩:=ry;exact rule i j t t' s _ _ ⟨.bl (g i j),H,I,zr,q⟩
def CDiv (i j:Int):Prop:=0 < j/\j < 1073741824
def CPow (i j:Int):Prop:=0<=j/\j<=1000000/\i.natAbs < 2^64
def CMul (i j:Int):Prop:=(-(2^64) < i/\i < 2^64)\/ (-(2^64) < j/\j < 2^64)
def CMul.ok {i j:Int} (h:CMul i j):IntMulOk i j:=by
 rcases h with ⟨h1,h2⟩ | ⟨h1,h2⟩
 ·exact .of_left (intBits_le_64 h1 h2)
 ·exact .of_right (intBits_le_64 h1 h2)
def q1l:OpR X (binaryOp .Add) (rI0 λ i j=> .int (i+j)):=opI0 λ _ _ _ _ _ _ _ q=>add_int q
def qrr:OpR X (binaryOp .Sub) (rI0 λ i j=> .int (i - j)):=opI0 λ _ _ _ _ _ _ _ q=>sub_int q
def q4y:OpR X (binaryOp .Mult) (rI CMul λ i j=> .int (i*j)):=opI λ _ _ _ _ _ _ _ hc q=>mul_int q hc.ok
def q3y:OpR X (binaryOp .FloorDiv) (rI CDiv λ i j=> .int (i / j)):=opI λ i j _ _ _ _ _ J q=>by
 have h1:(0:Int) < j:=J.1;have h2:j < 1073741824:=J.2;exact floordiv_int (by lia) (by rw [Int.fdiv_eq_ediv_of_nonneg i (by lia)];exact q) (.inl (PyProof.noPylong_small (by lia)))
def q1f:OpR X (binaryOp .Mod) (rI (λ _ j=>0 < j) λ i j=> .int (i%j)):=opI λ i j _ _ _ _ _ hc q=>by
 have h1:(0:Int) < j:=hc;exact mod_int' (by lia) (by rw [Int.fmod_eq_emod_of_nonneg i (by lia)];exact q)
def ql4:OpR X (binaryOp .Pow) (rI CPow λ i j=> .int (i^j.toNat)):=opI λ _ _ _ _ _ _ _ J q=>pow_int_small J.1 J.2.1 J.2.2 q
end
def scal:V ->V ->Bool
 | .non,.non=>true | .non,.int _=>true | .int _,.non=>true | .non,.bl _=>true | .bl _,.non=>true | .non,.str _=>true | .str _,.non=>true
 | .int _,.int _=>true | .bl _,.bl _=>true | .str _,.str _=>true | .byt _,.byt _=>true
 | .int _,.str _=>true | .str _,.int _=>true | .bl _,.str _=>true | .str _,.bl _=>true
 | _,_=>false
def rEq:R2:=λ x y H Q=>scal x y=true/\Q (.bl (decide (x=y))) H
def rNe:R2:=λ x y H Q=>scal x y=true/\Q (.bl (!decide (x=y))) H
def qoh {i j:Int}:decide (V.int i=V.int j)=(i==j):=by
 rw [z2z];simp
def qrs {i j:Bool}:decide (V.bl i=V.bl j)=(i==j):=by
 rw [z2z];simp
def qoi {i j:Str}:decide (V.str i=V.str j)=(i==j):=by
 rw [z2z];simp
def qoj {i j:Array UInt8}:decide (V.byt i=V.byt j)=(i.toList==j.toList):=by
 rw [z2z];cases i
 cases j
 simp
section
variable {X:Cx} {a b c:Expr} {ta tb tc:TE} {pos:Pos}
def q1b {xC:xG} {σ:St} {H:Hp} {s:Shared} {Q:VK} {k k':Bool} (I:Inv X xC σ H s) (q:Q (.bl k) H) (e:k=k'):EP X xC σ Q (.bool k') s:=by
 subst e;exact ⟨.bl k,H,I,zr,q⟩
def q28:OpR X (compareOp .Eq) rEq:=by
 intro xC s σ H x y v u Q I rx ry h;obtain ⟨J,q⟩:=h;cases x with
 | non=>
  cases rx
  cases y with
  | non=>cases ry;exact PySem.EqNone.eq_none_none (q1b I q (by simp))
  | bl j=>cases ry;exact PySem.EqNone.eq_none_bool (q1b I q (by simp))
  | int j=>obtain ⟨t',rfl⟩:=ry;exact PySem.EqNone.eq_none_int (q1b I q (by simp))
  | str j=>obtain ⟨t',rfl⟩:=ry;exact PySem.EqNone.eq_none_str (q1b I q (by simp))
  | _=>exact absurd (show false=true from J) z1l
 | bl i=>
  cases rx
  cases y with
  | non=>cases ry;exact PySem.EqNone.eq_bool_none (q1b I q (by simp))
  | bl j=>cases ry;exact eq_bool (q1b I q qrs)
  | str j=>obtain ⟨t',rfl⟩:=ry;exact PySem.EqMixed.eq_bool_str (q1b I q (by simp))
  | _=>exact absurd (show false=true from J) z1l
 | int i=>
  obtain ⟨t,rfl⟩:=rx;cases y with
  | non=>cases ry;exact PySem.EqNone.eq_int_none (q1b I q (by simp))
  | int j=>obtain ⟨t',rfl⟩:=ry;exact eq_int (q1b I q qoh)
  | str j=>obtain ⟨t',rfl⟩:=ry;exact PySem.EqMixed.eq_int_str (q1b I q (by simp))
  | _=>exact absurd (show false=true from J) z1l
 | str i=>
  obtain ⟨t,rfl⟩:=rx;cases y with
  | non=>cases ry;exact PySem.EqNone.eq_str_none (q1b I q (by simp))
  | bl j=>cases ry;exact PySem.EqMixed.eq_str_bool (q1b I q (by simp))
  | int j=>obtain ⟨t',rfl⟩:=ry;exact PySem.EqMixed.eq_str_int (q1b I q (by simp))
  | str j=>obtain ⟨t',rfl⟩:=ry;exact eq_str (q1b I q qoi)
  | _=>exact absurd (show false=true from J) z1l
 | byt i=>
  obtain ⟨t,rfl⟩:=rx;cases y with
  | byt j=>obtain ⟨t',rfl⟩:=ry;exact PySem.W.eq_bytes (q1b I q qoj)
  | _=>exact absurd (show false=true from J) z1l
 | _=>cases y <;> exact absurd (show false=true from J) z1l
def qpx:OpR X (compareOp .NotEq) rNe:=by
 intro xC s σ H x y v u Q I rx ry h;obtain ⟨J,q⟩:=h;cases x with
 | non=>
  cases rx
  cases y with
  | non=>cases ry;exact PySem.EqNone.ne_none_none (q1b I q (by simp))
  | bl j=>cases ry;exact PySem.EqNone.ne_none_bool (q1b I q (by simp))
  | int j=>obtain ⟨t',rfl⟩:=ry;exact PySem.EqNone.ne_none_int (q1b I q (by simp))
  | str j=>obtain ⟨t',rfl⟩:=ry;exact PySem.EqNone.ne_none_str (q1b I q (by simp))
  | _=>exact absurd (show false=true from J) z1l
 | bl i=>
  cases rx
  cases y with
  | non=>cases ry;exact PySem.EqNone.ne_bool_none (q1b I q (by simp))
  | bl j=>cases ry;exact ne_bool (q1b I q (congrArg not qrs))
  | str j=>obtain ⟨t',rfl⟩:=ry;exact PySem.EqMixed.ne_bool_str (q1b I q (by simp))
  | _=>exact absurd (show false=true from J) z1l
 | int i=>
  obtain ⟨t,rfl⟩:=rx;cases y with
  | non=>cases ry;exact PySem.EqNone.ne_int_none (q1b I q (by simp))
  | int j=>obtain ⟨t',rfl⟩:=ry;exact ne_int (q1b I q (congrArg not qoh))
  | str j=>obtain ⟨t',rfl⟩:=ry;exact PySem.EqMixed.ne_int_str (q1b I q (by simp))
  | _=>exact absurd (show false=true from J) z1l
 | str i=>
  obtain ⟨t,rfl⟩:=rx;cases y with
  | non=>cases ry;exact PySem.EqNone.ne_str_none (q1b I q (by simp))
  | bl j=>cases ry;exact PySem.EqMixed.ne_str_bool (q1b I q (by simp))
  | int j=>obtain ⟨t',rfl⟩:=ry;exact PySem.EqMixed.ne_str_int (q1b I q (by simp))
  | str j=>obtain ⟨t',rfl⟩:=ry;exact ne_str (q1b I q (congrArg not qoi))
  | _=>exact absurd (show false=true from J) z1l
 | byt i=>
  obtain ⟨t,rfl⟩:=rx;cases y with
  | byt j=>obtain ⟨t',rfl⟩:=ry;exact PySem.W.ne_bytes (q1b I q (congrArg not qoj))
  | _=>exact absurd (show false=true from J) z1l
 | _=>cases y <;> exact absurd (show false=true from J) z1l
def qx1:OpR X (compareOp .Lt) (rI0 λ i j=> .bl (decide (i < j))):=opB0 λ _ _ _ _ _ _ _ q=>lt_int q
def qkc:OpR X (compareOp .LtE) (rI0 λ i j=> .bl (decide (i<=j))):=opB0 λ _ _ _ _ _ _ _ q=>le_int q
def qpy:OpR X (compareOp .Gt) (rI0 λ i j=> .bl (decide (j < i))):=opB0 λ _ _ _ _ _ _ _ q=>gt_int q
def q12l:OpR X (compareOp .GtE) (rI0 λ i j=> .bl (decide (j<=i))):=opB0 λ _ _ _ _ _ _ _ q=>ge_int q
def qhy:OpR X (compareOp .In) (λ x y H Q=>∃ i j,x= .str i/\y= .str j/\Q (.bl (!(Builtin.Str.occurrences j i 0 j.length 1).isEmpty)) H):=by
 intro xC s σ H x y v u Q I rx ry h;obtain ⟨i,j,rfl,rfl,q⟩:=h;obtain ⟨t,rfl⟩:=rx;obtain ⟨t',rfl⟩:=ry;exact in_str (q1b I q rfl)
def q81:OpR X (compareOp .Is) (λ x y H Q=>y= .non/\Q (.bl (decide (x= .non))) H):=by
  intro xC s σ H x y v u Q I rx ry h;obtain ⟨rfl,q⟩:=h;cases ry
  refine is_none_gen (q1b I q ?_);cases x <;> first
    | (cases rx;rfl)
    | (obtain ⟨t,rfl⟩:=rx;rfl)
def q14 (b:Expr) {op:CmpOp} (h:op≠ .In:=by decide) (h2:op≠ .NotIn:=by decide):behindInMarks op b=false:=by
 have e1:(op==CmpOp.In)=false:=by cases op <;> first | rfl | exact absurd rfl h
 have e2:(op==CmpOp.NotIn)=false:=by cases op <;> first | rfl | exact absurd rfl h2
 cases b <;> simp [behindInMarks,e1,e2]
def q3z {op:CmpOp} {r:R2} (ho:OpR X (compareOp op) r) (ha:PE X a ta) (hb:PE X b tb) (hm:behindInMarks op b=false):PE X (.Compare a [op] [b] pos) (tOp r ta tb):=by
 intro xC s σ H Q I h;exact wpAny_Compare1 (binT ha hb I h λ v u s2 x y H2 I2 rx ry q=>ho xC s2 σ H2 x y v u Q I2 rx ry q) hm
def qx2 (t:TE):TT:=λ σ H Q=>t σ H λ x H'=>∃ k,x= .bl k/\Q k H'
def q13 {op:CmpOp} {r:R2} (ho:OpR X (compareOp op) r) (ha:PE X a ta) (hb:PE X b tb) (hm:behindInMarks op b=false):PT X (.Compare a [op] [b] pos) (qx2 (tOp r ta tb)):=by
 intro xC s σ H Q I h;refine wpAny_isTrue_Compare1 (thn (ha xC s σ H _ I h) λ v s1 ⟨x,H1,I1,r1,q1⟩=>thn (hb xC s1 σ H1 _ I1 q1) λ u s2 ⟨y,H2,I2,r2,q2⟩=>
  thn (ho xC s2 σ H2 x y v u _ I2 r1 r2 q2) λ c s3 ⟨z,H3,I3,r3,k,e,q3⟩=> ?_) hm
 subst e;cases r3
 exact z24 ⟨H3,I3,q3⟩
def qrt (r r':R2) (ta tb tc:TE):TE:=λ σ H Q=>ta σ H λ x H1=>tb σ H1 λ y H2=>r x y H2 λ z H3=>∃ k,z= .bl k/\
 (if k=true then tc σ H3 λ w' H4=>r' y w' H4 Q else Q (.bl false) H3)
def qum {op J:CmpOp} {r Z:R2} (ho:OpR X (compareOp op) r) (O:OpR X (compareOp J) Z) (ha:PE X a ta) (hb:PE X b tb) (hc:PE X c tc)
  (hm:lastMarks [op,J] [b,c]=false:=by with_unfolding_all rfl):PE X (.Compare a [op,J] [b,c] pos) (qrt r Z ta tb tc):=by
 intro xC s σ H Q I h;refine Compare_chain (thn (ha xC s σ H _ I h) λ v s1 ⟨x,H1,I1,r1,q1⟩=>chain_link (thn (hb xC s1 σ H1 _ I1 q1) λ u s2 ⟨y,H2,I2,r2,q2⟩=>
  thn (ho xC s2 σ H2 x y v u _ I2 r1 r2 q2) λ d s3 ⟨z,H3,I3,r3,k,e,q3⟩=> ?_)) hm
 subst e;cases r3
 refine z24 ?_;cases k with
 | false=>exact ite_ff ⟨.bl false,H3,I3,rfl,q3⟩
 | true=>exact ite_tt (chain_last (thn (hc xC s3 σ H3 _ I3 q3) λ w' s4 ⟨z',H4,I4,r4,q4⟩=>O xC s4 σ H4 y z' u w' Q I4 r2 r4 q4))
def qun {op J:CmpOp} {r r':R2} (ho:OpR X (compareOp op) r) (O:OpR X (compareOp J) r') (ha:PE X a ta) (hb:PE X b tb) (hc:PE X c tc)
  (hm:lastMarks [op,J] [b,c]=false:=by with_unfolding_all rfl):PT X (.Compare a [op,J] [b,c] pos) (qx2 (qrt r r' ta tb tc)):=by
 intro xC s σ H Q I h;refine isTrue_chain (thn (ha xC s σ H _ I h) λ v s1 ⟨x,H1,I1,r1,q1⟩=>test_link (thn (hb xC s1 σ H1 _ I1 q1) λ u s2 ⟨y,H2,I2,r2,q2⟩=>
  thn (ho xC s2 σ H2 x y v u _ I2 r1 r2 q2) λ d s3 ⟨z,H3,I3,r3,k,e,q3⟩=> ?_)) hm
 subst e;cases r3
 refine z24 ?_;cases k with
 | false=>
  obtain ⟨k',e',q'⟩:=q3;cases e'
  exact ite_ff ⟨H3,I3,q'⟩
 | true=>
  refine ite_tt (test_last (thn (hc xC s3 σ H3 _ I3 q3) λ w' s4 ⟨z',H4,I4,r4,q4⟩=>thn (O xC s4 σ H4 y z' u w' _ I4 r2 r4 q4) λ d' s5 Z=> ?_));obtain ⟨z2,H5,I5,r5,k2,e2,q5⟩:=Z;subst e2;cases r5
  exact z24 ⟨H5,I5,q5⟩
def ql5:(sizeLine:Nat) < 2^63:=by rw [sizeLine_eq];decide
def qpz:OpR X (binaryOp .Add) (λ x y H Q=>∃ i j,x= .str i/\y= .str j/\i.length+j.length<=sizeLine/\Q (.str (i++j)) H):=by
 intro xC s σ H x y v u Q I rx ry h;obtain ⟨i,j,rfl,rfl,hz,q⟩:=h;obtain ⟨t,rfl⟩:=rx;obtain ⟨t',rfl⟩:=ry;exact add_str (λ t' tk=>⟨.str (i++j),H,I.tok _,⟨_,zr⟩,q⟩) hz
def q33 {x:V} {us:xH} (r:Vals [x] us):∃ u,us=[u]/\RelV x u:=by
 cases r with
 | cons r1 r2=>cases r2;exact ⟨_,rfl,r1⟩
def qq0 {x y:V} {us:xH} (r:Vals [x,y] us):∃ u J,us=[u,J]/\RelV x u/\RelV y J:=by
 cases r with
 | cons r1 r2=>
  cases r2 with
  | cons r3 r4=>cases r4;exact ⟨_,_,rfl,r1,r3⟩
def quo:q22 X (.builtin "abs") (λ xs H Q=>∃ i,xs=[.int i]/\Q (.int (if i < 0 then -i else i)) H):=by
 intro xC s σ H xs us Q I r h;obtain ⟨i,rfl,q⟩:=h;obtain ⟨u,rfl,t,rfl⟩:=q33 r;exact call_abs_int λ u tk=>⟨.int (if i < 0 then -i else i),H,I.tok _,⟨_,rfl⟩,q⟩
def qru (hc:X.calm=true):q22 X (.builtin "max") (λ xs H Q=>∃ i j,xs=[.int i,.int j]/\Q (.int (if j > i then j else i)) H):=by
 intro xC s σ H xs us Q I r h;obtain ⟨i,j,rfl,q⟩:=h;obtain ⟨u,w',rfl,⟨t,rfl⟩,⟨t',rfl⟩⟩:=qq0 r;refine max_two_ints (I.ok.hd hc) λ h' tk k=>⟨_,H,I.kept k,?_,q⟩;by_cases J:j > i
 ·rw [if_pos J,if_pos J];exact ⟨_,rfl⟩
 ·rw [if_neg J,if_neg J];exact ⟨_,rfl⟩
def qbd (hc:X.calm=true):q22 X (.builtin "min") (λ xs H Q=>∃ i j,xs=[.int i,.int j]/\Q (.int (if j < i then j else i)) H):=by
 intro xC s σ H xs us Q I r h;obtain ⟨i,j,rfl,q⟩:=h;obtain ⟨u,w',rfl,⟨t,rfl⟩,⟨t',rfl⟩⟩:=qq0 r;refine min_two_ints (I.ok.hd hc) λ h' tk k=>⟨_,H,I.kept k,?_,q⟩;by_cases J:j < i
 ·rw [if_pos J,if_pos J];exact ⟨_,rfl⟩
 ·rw [if_neg J,if_neg J];exact ⟨_,rfl⟩
def LenV (K:xA) (x:V) (H:Hp) (n:Nat):Prop:=
 match x with
 | .str y=>y.length<=sizeLine/\n=y.length
 | .byt y=>y.size<=sizeLine/\n=y.size
 | .ref p=>(∃ xs,SqL K H p xs/\n=xs.length)\/ ∃ xs,SqT K H p xs/\n=xs.length
 | _=>False
def qup:q22 X (.builtin "len") (λ xs H Q=>∃ x n,xs=[x]/\LenV X.K x H n/\Q (.int n) H):=by
 intro xC s σ H xs us Q I r h;obtain ⟨x,n,rfl,e,q⟩:=h;obtain ⟨u,rfl,rx⟩:=q33 r;have hl:=ql5;have hs:sizeLine=16777216:=sizeLine_eq;cases x with
 | str y=>
  obtain ⟨t,rfl⟩:=rx;obtain ⟨hy,e'⟩:y.length<=sizeLine/\n=y.length:=e;subst e';exact len_str (by lia) ⟨.int _,H,I.tok _,⟨_,zr⟩,q⟩
 | byt y=>
  obtain ⟨t,rfl⟩:=rx;obtain ⟨hy,e'⟩:y.size<=sizeLine/\n=y.size:=e;subst e';exact PySem.W.len_bytes (by lia) ⟨.int _,H,I.tok _,⟨_,zr⟩,q⟩
 | ref p=>
  cases rx
  have e':(∃ xs,SqL X.K H p xs/\n=xs.length)\/ ∃ xs,SqT X.K H p xs/\n=xs.length:=e;rcases e' with ⟨xs,hx,e'⟩ | ⟨xs,hx,e'⟩
  ·subst e';obtain ⟨its,O,pl,hz⟩:=I.list hx;have J:=O.length;exact Calls.call_len_list pl.isList (by simp only [z23];lia) ⟨.int xs.length,H,I.tok _,⟨_,by simp only [z23];rw [J]⟩,q⟩
  ·subst e';obtain ⟨its,O,pl,hz⟩:=I.tuple hx;have J:=O.length;exact len_tuple pl (by simp only [z23];lia) ⟨.int xs.length,H,I.tok _,⟨_,by simp only [z23];rw [J]⟩,q⟩
 | _=>exact (show False from e).elim
end
structure ObjM (h:Heap) (x dx C:Addr) (mA:xE):Prop where
 obj:h.get? x=some (PySem.W.instObj C dx)
 ns:h.Ns1 dx mA
 ne:dx≠x
def qrv {h:Heap} {dx:Addr} {mA:xE} (n:h.Ns1 dx mA):∃ O,h.get? dx=some O/\∀ name,PySem.W.lookIn name O=some (mA name):=by
 obtain ⟨o,es,ep,ho,hd,hk,_,hm⟩:=n;refine ⟨o,ho,λ name=> ?_⟩;have e:=hm name;unfold nsFind findBy at e;rw [<- Array.find?_toList] at e;unfold PySem.W.lookIn;rw [hd]
 dsimp only
 split
 ·rename_i y q;rw [q] at e;exact congrArg some e
 ·rename_i q;rw [q] at e;have a:es.toList.any (·.refKey)=false:=by
   rw [List.any_eq_false];intro y hy;obtain ⟨z,t,J⟩:=hk y (Array.mem_toList_iff.mp hy);simp [DictEntry.refKey,J]
  have a':¬ es.toList.any (·.refKey)=true:=by rw [a];exact z1l
  rw [if_neg a'];exact congrArg some e
def ObjM.look {h:Heap} {x dx C:Addr} {mA:xE} (I:ObjM h x dx C mA):∃ J,PySem.W.InstAt h x (PySem.W.instObj C dx) C (some J)/\∀ name,PySem.W.lookIn name J=some (mA name):=
 let ⟨J,ho,hl⟩:=qrv I.ns
 ⟨J,⟨I.obj,rfl,rfl,ho⟩,hl⟩
section
variable {prog:Program} {w:World} {A:Around} {E:xB} {s:Shared} {K:xA} {x dx C f:Addr} {mA:xE} {name:Str} {v:Value}
def qxt {O:Bool} {Q:xB} (X:K.In s.heap) (I:ObjM s.heap x dx C mA) (hg:PySem.W.plainGet K C name=true) (hh:PySem.W.hasDictIn K C=true)
  (ha:PySem.W.findIn K (.ref C) name=some none) (hv:mA name=some v) (Z:PySem.W.handedIn v=true) (h:Q v {s with toks:=s.toks+1}):
  wpAny (model prog w) A (getAttr (.ref x) name O) Q E s:=by
 obtain ⟨od,J,hl⟩:=I.look;exact PySem.W.get_value X J (PySem.W.plainGet_of hg).1 (PySem.W.findObj_own hh ha rfl (by rw [hl,hv])) Z h
def quq {pl:Sem Bool} {Q:Value×List Value ->Shared ->Prop} (X:K.In s.heap) (I:ObjM s.heap x dx C mA) (O:PySem.W.plainGet K C name=true)
  (hf:PySem.W.findIn K (.ref C) name=some (some (.ref f))) (ht:PySem.W.isFn K (.ref f)=true) (hv:mA name=none) (h:Q (.ref f,[.ref x]) s):
  wpAny (model prog w) A (getMethod (.ref x) name pl) Q E s:=by
 obtain ⟨od,J,hl⟩:=I.look;exact PySem.W.method_fn X J (PySem.W.plainGet_of O).1 (PySem.W.plainGet_of O).2 hf (beq_iff_eq.mp ht) (by show (PySem.W.lookIn name od).map (·.isSome)=some false;rw [hl,hv];rfl) h
def qxu {ns:xD} {Q:Unit ->Shared ->Prop} (X:K.In s.heap) (I:ObjM s.heap x dx C mA)
  (hs:PySem.W.findIn K (.ref C) "__setattr__"=some (some (.builtin "object.__setattr__"))) (hp:PySem.W.plainOver K C=true) (ht:PySem.W.takerIn K C name=some none) (hh:PySem.W.hasDictIn K C=true)
  (hw:PySem.Within mA ns) (hsz:ns.length<=sizeLine)
  (h:∀ h',ObjM h' x dx C (λ y=>if y=name then some v else mA y) ->Heap.SameBut dx s.heap h' ->Q () {s with heap:=h',toks:=s.toks+2}):
  wpAny (model prog w) A (setAttr (.ref x) name v) Q E s:=by
 obtain ⟨od,J,hl⟩:=I.look;refine PySem.W.set_plain X J hs (PySem.W.osa_open (s:={s with toks:=s.toks+1}) (r:=none) X J hp ht λ b=> ?_);obtain ⟨cd,hc,a1⟩:=PySem.W.any_some hh;have hx:s.heap.get? x=some ⟨.ref C,some dx,.plain,#[]⟩:=I.obj;refine z4f (z4e (z4f (z4f (wpAny_loadPart hx (z4f (PySem.W.Looks.here (s:={s with toks:=s.toks+1}) (PySem.W.looks_clsIn X hc) ?_))))));rw [a1];refine z4e (a:=some dx) (z4f (z4e (z4f ?_)));refine wpAny_nsSet1 (s:={s with toks:=s.toks+1}) I.ns λ h' O Z=> ?_;obtain ⟨oD,esD,epD,a3,a2,a0⟩:=O.count (PySem.Within.cons name v hw);refine z4f (wpAny_lookBehind a3 (by rw [a2];exact pastItsLine_dict (z41 a0 (by rw [z2i];lia))) ?_);exact z4e (h _ ⟨(Z.2 _ (Ne.symm I.ne)).trans I.obj,O,I.ne⟩ Z)
def qur {R:Result ->Shared ->Prop} {vs:xH} {J:List (Str×Value)} (X:K.In s.heap) (hm:PySem.W.makesIn K C=true)
  (hi:PySem.W.findIn K (.ref C) "__init__"=some (some (.ref f))) (hf:PySem.W.typeIn K (.ref f)=some (.type "function"))
  (h:codeAny (model prog w) (A.under (.builtin "type.__call__" ⟨.ref C::vs,J⟩)) (.call (.ref f) ⟨.ref (s.heap.objs.size+1)::vs,J⟩) (PySem.W.InitBack (s.heap.objs.size+1) R)
   {s with heap:=(s.heap.push PySem.W.emptyDict).push (PySem.W.instObj C s.heap.objs.size)}):
  codeAny (model prog w) A (.call (.ref C) ⟨vs,J⟩) R s:=by
 obtain ⟨hh,g,d,t,os⟩:=s;exact PySem.W.make_core (PySem.W.makes_of X hm) (PySem.W.looks_findIn X hi) (λ self=>PySem.W.bind_fn X self hf) (.inl rfl) h
def qrw {R:Result ->Shared ->Prop} (X:K.In s.heap) (hm:PySem.W.makesIn K C=true)
  (hi:PySem.W.findIn K (.ref C) "__init__"=some (some (.builtin "object.__init__")))
  (hb:∀ self,PySem.W.Looks (model prog w) s.heap (bindSpecial (.builtin "object.__init__") self) (.builtin "object.__init__",[self]))
  (h:codeAny (model prog w) (A.under (.builtin "type.__call__" ⟨[.ref C],[]⟩)) (.call (.builtin "object.__init__") ⟨[.ref (s.heap.objs.size+1)],[]⟩) (PySem.W.InitBack (s.heap.objs.size+1) R)
   {s with heap:=(s.heap.push PySem.W.emptyDict).push (PySem.W.instObj C s.heap.objs.size)}):
  codeAny (model prog w) A (.call (.ref C) ⟨[],[]⟩) R s:=by
 obtain ⟨hh,g,d,t,os⟩:=s;exact PySem.W.make_core (PySem.W.makes_of X hm) (PySem.W.looks_findIn X hi) hb (.inr ⟨zr,zr⟩) h
end
def putF (f:Str) (v:V):List (Str×V) ->List (Str×V)
 | []=>[(f,v)]
 | (g,x)::r=>if g=f then (g,v)::r else (g,x)::putF f v r
theorem qd8 (f g:Str) (v:V):∀ fs:List (Str×V),(putF f v fs).lookup g=if g=f then some v else fs.lookup g
  | []=>by
    show List.lookup g [(f,v)]=_;by_cases h:g=f
    · have J:(g==f)=true:=beq_iff_eq.mpr h
      simp only [List.lookup,J,if_pos h]
    · have J:(g==f)=false:=beq_eq_false_iff_ne.mpr h
      simp only [List.lookup,J,if_neg h]
  | (k,x)::r=>by
    have ih:=qd8 f g v r;rw [show putF f v ((k,x)::r)=(if k=f then (k,v)::r else (k,x)::putF f v r) from rfl];by_cases hk:k=f
    · rw [if_pos hk]
      by_cases h:g=k
      · have J:(g==k)=true:=beq_iff_eq.mpr h
        simp only [List.lookup,J,if_pos (h.trans hk)]
      · have J:(g==k)=false:=beq_eq_false_iff_ne.mpr h
        simp only [List.lookup,J,if_neg (λ e:g=f=>h (e.trans hk.symm))]
    · rw [if_neg hk]
      by_cases h:g=k
      · have J:(g==k)=true:=beq_iff_eq.mpr h
        simp only [List.lookup,J,if_neg (λ e:g=f=>hk (h.symm.trans e))]
      · have J:(g==k)=false:=beq_eq_false_iff_ne.mpr h
        simp only [List.lookup,J];exact ih
theorem qbe (f:Str) (v:V):∀ fs:List (Str×V),f∈(putF f v fs).map (·.1)/\∀ g,g∈fs.map (·.1) ->g∈(putF f v fs).map (·.1)
  | []=>⟨by simp [putF],λ g h=>by simp at h⟩
  | (k,x)::r=>by
    obtain ⟨i1,i2⟩:=qbe f v r;rw [show putF f v ((k,x)::r)=(if k=f then (k,v)::r else (k,x)::putF f v r) from rfl];by_cases hk:k=f
    · rw [if_pos hk]
      subst hk;exact ⟨by simp,λ g h=>by simpa using h⟩
    · rw [if_neg hk]
      refine ⟨?_,λ g h=> ?_⟩
      · rw [z3l]
        exact z16 _ i1
      · rw [z3l] at h ⊢
        rcases z3n.mp h with e | e
        · exact z3n.mpr (.inl e)
        · exact z16 _ (i2 g e)
theorem qd9 (f:Str) (v:V):∀ fs:List (Str×V),(putF f v fs).length<=fs.length+1
  | []=>by simp [putF]
  | (k,x)::r=>by
    have ih:=qd9 f v r;rw [show putF f v ((k,x)::r)=(if k=f then (k,v)::r else (k,x)::putF f v r) from rfl];by_cases hk:k=f
    · rw [if_pos hk,z2i,z2i];lia
    · rw [if_neg hk,z2i,z2i];lia
def RelO.qgd {v:V} {o:Option Value} (r:RelO (some v) o):∃ u,o=some u/\RelV v u:=by
 cases o with
 | none=>exact (show False from r).elim
 | some u=>exact ⟨u,rfl,r⟩
def RelO.qxv {o:Option Value} (r:RelO none o):o=none:=by
 cases o with
 | none=>rfl
 | some u=>exact (show False from r).elim
def qrx {v:V} {u:Value} (r:RelV v u):PySem.W.handedIn u=true:=by
 cases v with
 | non=>cases (show u=Value.none from r);rfl
 | bl b=>cases (show u=Value.bool b from r);rfl
 | int i=>obtain ⟨t,e⟩:=(show ∃ t,u=Value.int i t from r);cases e;rfl
 | str x=>obtain ⟨t,e⟩:=(show ∃ t,u=Value.str x t from r);cases e;rfl
 | byt b=>obtain ⟨t,e⟩:=(show ∃ t,u=Value.bytes b t from r);cases e;rfl
 | flt b=>obtain ⟨t,e⟩:=(show ∃ t,u=Value.float b t from r);cases e;rfl
 | ref a=>cases (show u=Value.ref a from r);rfl
 | ty n=>cases (show u=Value.type n from r);rfl
section
variable {P:Program} {w:World} {H H':Hp} {h h':Heap} {a C dx:Addr} {fs fs':List (Str×V)}
def qge (hok:HOk P w H h) (e:H a=some (.ins C dx fs)):∃ mA,ObjM h a dx C mA/\(∀ f,RelO (fs.lookup f) (mA f))/\PySem.Within mA (fs.map (·.1))/\fs.length<=1000/\H dx=some (.own a):=by
 obtain ⟨d,z,ne,ob,mA,n,r,q⟩:=(show ObjOk P w H h a (.ins C dx fs) from hok a _ e);exact ⟨mA,⟨ob,n,ne⟩,r,q,z,d⟩
end
structure Cls (K:xA) (C:Addr):Prop where
 pg:PySem.W.plainGet K C Str.empty=true
 hd:PySem.W.hasDictIn K C=true
 po:PySem.W.plainOver K C=true
 sa:PySem.W.findIn K (.ref C) "__setattr__"=some (some (.builtin "object.__setattr__"))
def Cls.get {K:xA} {C:Addr} (c:Cls K C) (f:Str):PySem.W.plainGet K C f=true:=c.pg
def NoAttr (K:xA) (C:Addr) (f:Str):Prop:=PySem.W.findIn K (.ref C) f=some none
def NoAttr.taker {K:xA} {C:Addr} {f:Str} (n:NoAttr K C f):PySem.W.takerIn K C f=some none:=by
 unfold PySem.W.takerIn;rw [show PySem.W.findIn K (.ref C) f=some none from n];rfl
structure Meth (K:xA) (C:Addr) (m:Str) (f:Addr):Prop where
 at_:PySem.W.findIn K (.ref C) m=some (some (.ref f))
 fn:PySem.W.isFn K (.ref f)=true
 kp:PySem.W.keepIn K (.ref f)=true
section
variable {X:Cx} {xC:xG} {σ:St} {H:Hp} {s:Shared} {a C dx:Addr} {fs:List (Str×V)} {f:Str} {v:V} {A:Around} {E:xB}
def qq1 {b:Bool} {Q:xB} (I:Inv X xC σ H s) (e:H a=some (.ins C dx fs)) (c:Cls X.K C) (n:NoAttr X.K C f) (l:fs.lookup f=some v)
  (h:∀ u s',Inv X xC σ H s' ->RelV v u ->Q u s'):wpAny (model X.prog X.w) A (getAttr (.ref a) f b) Q E s:=by
 obtain ⟨mA,O,r,_,_,_⟩:=qge I.hok e;obtain ⟨u,hu,J⟩:=RelO.qgd (v:=v) (o:=mA f) (by rw [<- l];exact r f);exact qxt I.kIn O (c.get f) c.hd n hu (qrx J) (h u _ (I.tok _) J)
def q9w {m:Str} {g:Addr} {pl:Sem Bool} {Q:Value×List Value ->Shared ->Prop} (I:Inv X xC σ H s) (e:H a=some (.ins C dx fs)) (c:Cls X.K C) (k:Meth X.K C m g) (l:fs.lookup m=none)
  (h:Q (.ref g,[.ref a]) s):wpAny (model X.prog X.w) A (getMethod (.ref a) m pl) Q E s:=by
 obtain ⟨mA,O,r,_,_,_⟩:=qge I.hok e;have hn:mA m=none:=RelO.qxv (by rw [<- l];exact r m);exact quq I.kIn O (c.get m) k.at_ k.fn hn h
def qq2 {y:V} {u:Value} {Q:Unit ->Shared ->Prop} (I:Inv X xC σ H s) (e:H a=some (.ins C dx fs)) (c:Cls X.K C) (n:NoAttr X.K C f) (hl:fs.length < 1000) (ry:RelV y u)
  (h:∀ s',Inv X xC σ (upd H a (.ins C dx (putF f y fs))) s' ->Q () s'):wpAny (model X.prog X.w) A (setAttr (.ref a) f u) Q E s:=by
 obtain ⟨mA,O,r,wi,_,ho⟩:=qge I.hok e;have hz:(fs.map (·.1)).length<=sizeLine:=by rw [z30,sizeLine_eq];lia
 refine qxu I.kIn O c.sa c.po n.taker c.hd wi hz λ h' J sb=>h _ ?_;have hd:∃ o,h'.get? dx=some o:=let ⟨o,_,_,e',_⟩:=J.ns;⟨o,e'⟩
 refine I.write (x:=a) (e:=dx) (by rw [e];exact True.intro) (.inr ho) (λ b q hb z=>(sb.2 b hb).trans z) hd ?_;refine ⟨by rw [qh O.ne];exact ho,?_,O.ne,J.obj,_,J.ns,λ g=> ?_,λ g hg=> ?_⟩
 ·have:=qd9 f y fs;lia
 ·show RelO ((putF f y fs).lookup g) (if g=f then some u else mA g);rw [qd8];by_cases q:g=f
  ·rw [if_pos q,if_pos q];exact ry
  ·rw [if_neg q,if_neg q];exact r g
 ·by_cases q:g=f
  ·rw [q];exact (qbe f y fs).1
  ·refine (qbe f y fs).2 g (wi g λ z=>hg ?_);show (if g=f then some u else mA g)=none;rw [if_neg q];exact z
def Inv.made (I:Inv X xC σ H s):Inv X xC σ (upd (upd H s.heap.objs.size (.own (s.heap.objs.size+1))) (s.heap.objs.size+1) (.ins C s.heap.objs.size []))
  {s with heap:=(s.heap.push PySem.W.emptyDict).push (PySem.W.instObj C s.heap.objs.size)}:=by
 have e1:(s.heap.push PySem.W.emptyDict).get? s.heap.objs.size=some PySem.W.emptyDict:=z1c s.heap rfl;have e2:((s.heap.push PySem.W.emptyDict).push (PySem.W.instObj C s.heap.objs.size)).get? (s.heap.objs.size+1)=some (PySem.W.instObj C s.heap.objs.size):=by
  have:=z1c (s.heap.push PySem.W.emptyDict) (o:=PySem.W.instObj C s.heap.objs.size) rfl
  rwa [z3f] at this
 have e3:(s.heap.push PySem.W.emptyDict).Ns s.heap.objs.size (λ _=>none):=⟨PySem.W.emptyDict,#[],_,e1,rfl,(λ e he=>absurd he (by simp)),λ _=>rfl⟩;have I1:=I.laid (a:=s.heap.objs.size) (o:= .own (s.heap.objs.size+1)) (h':=s.heap.push PySem.W.emptyDict) (t':=s.toks) (λ b u q=>z0o _ q) (z48 _) ⟨_,e1⟩;refine I1.laid (a:=s.heap.objs.size+1) (o:= .ins C s.heap.objs.size []) (t':=s.toks) (λ b u q=>z0o _ q) (Nat.le_of_eq (z3f _ _)) ?_;have ne:s.heap.objs.size≠s.heap.objs.size+1:=z40 (z2l _);refine ⟨by rw [qh ne,qb],z4b _,ne,e2,λ _=>none,(Heap.Ns1.of_empty e3).at λ o q=>z0o _ q,λ _=>True.intro,λ y hy=>absurd rfl hy⟩
def qxw {prog:Program} {w:World} {env:Env} {e:Expr} {f:Str} {pos:Pos} {s:Shared} {Q:xB} (hb:attributeBase e f env (eval e env)=eval e env)
  (h:wpAny (model prog w) A (eval e env) (λ o s₁=>wpAny (model prog w) A (getAttr o f true) Q E s₁) E s):wpAny (model prog w) A (eval (.Attribute e f pos) env) Q E s:=
 Attribute_any_ h (by rw [arm_eval_Attribute,hb])
end
def tFld (K:xA) (ta:TE) (f:Str):TE:=λ σ H Q=>ta σ H λ x H1=>∃ a C dx fs v,x= .ref a/\H1 a=some (.ins C dx fs)/\Cls K C/\NoAttr K C f/\fs.lookup f=some v/\Q v H1
def sFld (K:xA) (ta tv:TE) (f:Str):TS:=λ D σ H=>tv σ H λ y H1=>ta σ H1 λ x H2=>∃ a C dx fs,x= .ref a/\H2 a=some (.ins C dx fs)/\Cls K C/\NoAttr K C f/\fs.length < 1000/\
 D.nx σ (upd H2 a (.ins C dx (putF f y fs)))
section
variable {X:Cx} {o e value:Expr} {f:Str} {pos pos' tpos:Pos} {ta tv:TE}
def qbf (he:PE X e ta) (hb:attributeBase e f X.env (eval e X.env)=eval e X.env):PE X (.Attribute e f pos) (tFld X.K ta f):=by
 intro xC s σ H Q I h;refine qxw hb (thn (he xC s σ H _ I h) λ u s1 J=> ?_);obtain ⟨x,H1,I1,rx,a,C,dx,fs,v,ex,ea,c,n,l,q⟩:=J;subst ex;obtain rfl:u=Value.ref a:=rx;exact qq1 I1 ea c n l λ u' s2 I2 ru=>⟨v,H1,I2,ru,q⟩
def qry (ha:PE X o ta) (hv:PE X value tv) (hs:swapsWith value (some (.Attribute o f pos')) pos.line X.env=pure false):PS X (.Assign [.Attribute o f pos'] value pos) (sFld X.K ta tv f):=by
 intro xC s σ H D I h;refine plainObj_wpAny_Assign_Attribute (thn (hv xC s σ H _ I h) λ u s1 ⟨y,H1,I1,ry,q⟩=>thn (ha xC s1 σ H1 _ I1 q) λ ov s2 J=> ?_) hs;obtain ⟨x,H2,I2,rx,a,C,dx,fs,ex,ea,c,n,l,q2⟩:=J;subst ex;obtain rfl:ov=Value.ref a:=rx;exact qq2 I2 ea c n l ry λ s3 I3=>⟨σ,_,I3,q2⟩
end
section
variable {X:Cx} {xC:xG} {σ:St} {H:Hp} {s:Shared} {A:Around} {E:xB} {Q:xB} {c:Value} {b:Bool}
end
structure Room (k:Nat) (A:Around):Prop where
 hd:A.handled=none
 dp:A.depth+3*k+5 < recursionLimit
 un:A.units+16*k+200 < cLine
def Room.mono {j k:Nat} {A:Around} (r:Room k A) (h:j<=k):Room j A:=⟨r.hd,by have:=r.dp;lia,by have:=r.un;lia⟩
theorem Room.deeper {k:Nat} {A:Around} (r:Room (k+1) A) (env:Env):Room k (A.deeper env):=
 ⟨r.hd,by have:=r.dp;show A.depth+1+3*k+5 < _;lia,by have:=r.un;show A.units+3+16*k+200 < _;lia⟩
def qq3 {A:Around} {C:Addr} {us:xH} {kw:List (Str×Value)}:(A.under (.builtin "type.__call__" ⟨.ref C::us,kw⟩)).depth=A.depth+1:=by
 first | rfl | simp [Around.under,Code.weight,Code.isCreation,Code.isGuard,Code.isCaller,Code.frames,Code.isFrame,guardIds]
def qq4 {A:Around} {C:Addr} {us:xH} {kw:List (Str×Value)}:(A.under (.builtin "type.__call__" ⟨.ref C::us,kw⟩)).units=A.units+1:=by
 first | rfl | simp [Around.under,Code.cUnits,Code.frames,Code.isFrame]
def Room.make {k:Nat} {A:Around} (r:Room (k+1) A) (C:Addr) (us:xH) (kw:List (Str×Value)):Room k (A.under (.builtin "type.__call__" ⟨.ref C::us,kw⟩)):=
 ⟨r.hd,by have:=r.dp;rw [qq3];lia,by have:=r.un;rw [qq4];lia⟩
theorem Room.depth {k:Nat} {A:Around} (r:Room k A):A.depth < recursionLimit:=by have:=r.dp;lia
theorem Room.units {k:Nat} {A:Around} (r:Room k A):A.units+64 < cLine:=by have:=r.un;lia
def tNil:TA:=λ _ H Q=>Q [] H
def q34 (ta:TE) (tr:TA):TA:=λ σ H Q=>ta σ H λ x H1=>tr σ H1 λ xs H2=>Q (x::xs) H2
section
variable {X:Cx} {e:Expr} {es:List Expr} {te:TE} {t:TA} {pos:Pos}
def q2g:PA X [] tNil:=λ _ _ _ _ H Q I h=>Calls.spliced_nil ⟨[],H,I,.nil,h⟩
def qxx (ha:PE X e te) (hr:PA X es t) (hs:starEach (e::es) X.env=(false,eval e X.env)::starEach es X.env:=by rfl):PA X (e::es) (q34 te t):=by
 intro pos xC s σ H Q I h;rw [hs];show wpAny _ _ (spliced ((false,eval e X.env)::backTo pos (starEach es X.env))) _ _ s;refine Calls.spliced_cons (thn (ha xC s σ H _ I h) λ u s1 J=> ?_);obtain ⟨x,H1,I1,r1,q1⟩:=J;exact thn (hr pos xC s1 σ H1 _ I1 q1) λ us s2 ⟨xs,H2,I2,r2,q2⟩=>⟨x::xs,H2,I2,.cons r1 r2,q2⟩
def tTup (t:TA):TE:=λ σ H Q=>t σ H λ xs H1=>xs.length<=sizeLine/\∀ p,H1 p=none ->Q (.ref p) (upd H1 p (.tup xs))
def tLst (t:TA):TE:=λ σ H Q=>t σ H λ xs H1=>xs.length<=sizeLine/\∀ p,H1 p=none ->Q (.ref p) (upd H1 p (.lst xs))
def q6w {x1} (h:PA X es t):PE X (.Tuple es x1 pos) (tTup t):=by
 intro xC s σ H Q I hq;refine wpAny_Tuple_spliced (thn (h pos xC s σ H _ I hq) λ us s1 ⟨xs,H1,I1,r,z,q⟩=>⟨by rw [<- r.length];exact z,?_⟩);have hf:H1 s1.heap.objs.size=none:=I1.hok.fresh (z48 _);refine ⟨.ref s1.heap.objs.size,upd H1 s1.heap.objs.size (.tup xs),I1.laid (t':=s1.toks) (λ b u e=>z0o _ e) (z48 _) ?_,zr,q _ hf⟩;exact ⟨z,us,r,⟨_,z1c _ rfl,zr,_,zr⟩⟩
def q24 (h:PA X es t):PE X (.List es pos) (tLst t):=by
 intro xC s σ H Q I hq;refine wpAny_List_spliced (thn (h pos xC s σ H _ I hq) λ us s1 ⟨xs,H1,I1,r,z,q⟩=>⟨by rw [<- r.length];exact z,?_⟩);have hf:H1 s1.heap.objs.size=none:=I1.hok.fresh (z48 _);refine ⟨.ref s1.heap.objs.size,upd H1 s1.heap.objs.size (.lst xs),I1.laid (t':=s1.toks) (λ b u e=>z0o _ e) (z48 _) ?_,zr,q _ hf⟩;exact ⟨z,us,0,r,z1c _ rfl⟩
end
abbrev Sp:=List V ->Hp ->VK ->XK ->Prop
abbrev CXT:=List Env ->Hp ->Shared ->XK ->Value ->Shared ->Prop
structure Env0 (P:Program) (w:World) (K:xA) (mg:xE) (base:Heap) (A:Around) (outer:List Env) (s:Shared) (H:Hp):Prop where
 frames:A.frames=some outer
 mod:Mod K mg base
 bs:∀ b o,base.get? b=some o ->s.heap.get? b=some o/\H b=none
 bsz:base.objs.size<=s.heap.objs.size
 funs:s.heap.FunFrames base outer
 frf:∀ b∈frs outer,H b=none
 hok:HOk P w H s.heap
 bare:AllBare s.gens
def CE (outer:List Env) (P:Program) (w:World) (H:Hp) (s:Shared) (Q:VK) (u:Value) (s':Shared):Prop:=
 ∃ v H',s'.os=s.os/\AllBare s'.gens/\Un (frs outer) [] H H' s.heap s'.heap/\HOk P w H' s'.heap/\RelV v u/\Q v H'
def CR (CX:CXT) (outer:List Env) (P:Program) (w:World) (H:Hp) (s:Shared) (Q:VK) (E:XK) (r:Result) (s':Shared):Prop:=
 match r with
 | .ok (.ret u)=>CE outer P w H s Q u s'
 | .ok _=>False
 | .error e=>CX outer H s E e s'
structure FnOk (P:Program) (w:World) (K:xA) (mg:xE) (base:Heap) (CX:CXT) (k:Nat) (f:Addr) (fd:FuncData) (ps:xD) (sp:Sp):Prop where
 len:∀ vs H Q E,sp vs H Q E ->vs.length=ps.length
 run:∀ (A:Around) (outer:List Env) (s:Shared) (H:Hp) (args:Args) (us:xH) (vs:List V) (Q:VK) (E:XK),Room k A ->Env0 P w K mg base A outer s H ->BindsTo s fd args (ps.zip us) ->Vals vs us ->sp vs H Q E ->
  codeAny (model P w) A (.call (.ref f) args) (CR CX outer P w H s Q E) s
theorem FnOk.mono {P:Program} {w:World} {K:xA} {mg:xE} {base:Heap} {CX:CXT} {j k:Nat} {f:Addr} {fd:FuncData} {ps:xD} {sp:Sp} (F:FnOk P w K mg base CX j f fd ps sp) (h:j<=k):
  FnOk P w K mg base CX k f fd ps sp:=⟨F.len,λ A outer s H args us vs Q E hr=>F.run A outer s H args us vs Q E (hr.mono h)⟩
def FnOk.imp {P:Program} {w:World} {K:xA} {mg:xE} {base:Heap} {CX:CXT} {k:Nat} {f:Addr} {fd:FuncData} {ps:xD} {sp J:Sp} (F:FnOk P w K mg base CX k f fd ps sp)
  (h:∀ vs H Q E,J vs H Q E ->sp vs H Q E):FnOk P w K mg base CX k f fd ps J:=
 ⟨λ vs H Q E q=>F.len vs H Q E (h _ _ _ _ q),λ A outer s H args us vs Q E hr he hb hv hs=>F.run A outer s H args us vs Q E hr he hb hv (h _ _ _ _ hs)⟩
def Env0.make {P:Program} {w:World} {K:xA} {mg:xE} {base:Heap} {A:Around} {outer:List Env} {s:Shared} {H:Hp} (e:Env0 P w K mg base A outer s H) (C:Addr) (us:xH) (kw:List (Str×Value)):
  Env0 P w K mg base (A.under (.builtin "type.__call__" ⟨.ref C::us,kw⟩)) outer s H:=⟨by first | exact e.frames | (simpa [Around.under,Code.envs,Code.isFrame,pushEnvs] using e.frames),e.mod,e.bs,e.bsz,e.funs,e.frf,e.hok,e.bare⟩
section
variable {X:Cx} {xC:xG} {σ:St} {H:Hp} {s s':Shared}
def Inv.env0 (I:Inv X xC σ H s):Env0 X.prog X.w X.K X.mg X.base X.A X.stack s H:=
 ⟨I.ok.frames,I.ok.mod,I.bs,z41 I.ok.bsz I.sz,I.stack,I.stkFree,I.hok,I.bare⟩
def Inv.after {Q:VK} {u:Value} (I:Inv X xC σ H s) (h:CE X.stack X.prog X.w H s Q u s'):EP X xC σ Q u s':=by
 obtain ⟨v,H',os,bare,un,hok,r,q⟩:=h;obtain ⟨hh,g,d,t,J⟩:=s';obtain rfl:J=s.os:=os;exact ⟨v,H',I.call (h':=hh) (g':=g) (d':=d) (t':=t) (ch:=[]) un hok bare (λ b z=>absurd z (by simp)),r,q⟩
end
def qx3 (sp:Sp) (dvs:List V) (E:XK) (t:TA):TE:=λ σ H Q=>t σ H λ vs H1=>sp (vs++dvs) H1 Q E
def qx4 (C:Addr) (m:Str) (sp:Sp) (dvs:List V) (E:XK) (ta:TE) (t:TA):TE:=λ σ H Q=>ta σ H λ x H1=>∃ a dx fs,x= .ref a/\H1 a=some (.ins C dx fs)/\fs.lookup m=none/\
 t σ H1 λ vs H2=>sp (x::(vs++dvs)) H2 Q E
def qkd (C:Addr) (sp:Sp) (dvs:List V) (E:XK) (t:TA):TE:=λ σ H Q=>t σ H λ vs H1=>∀ x dx,H1 x=none ->H1 dx=none ->dx≠x ->
 sp (.ref x::(vs++dvs)) (upd (upd H1 dx (.own x)) x (.ins C dx [])) (λ v H2=>v= .non/\Q (.ref x) H2) E
def Binds (K:xA) (fd:FuncData) (ps:xD) (ds:xH):Prop:=
 ∀ (s:Shared) (us:xH),K.In s.heap ->(us++ds).length=ps.length ->BindsTo s fd ⟨us,[]⟩ (ps.zip (us++ds))
def Binds.all {K:xA} {fd:FuncData} {ps:xD} (h:∀ us:List Value,us.length=ps.length ->bindArgs fd ⟨us,[]⟩=pure (ps.zip us)):Binds K fd ps []:=λ s us _ hl=>by
 rw [z31] at hl ⊢;exact .of_eq (h us hl)
def q82 (CX:CXT) (X:Cx) (E:XK):Prop:=∀ (xC:xG) (σ:St) (H:Hp) (s:Shared) (e:Value) (s':Shared),Inv X xC σ H s ->CX X.stack H s E e s' ->X.xe e s'
section
variable {X:Cx} {CX:CXT} {k:Nat} {f C:Addr} {fd:FuncData} {ps:xD} {sp:Sp} {dvs:List V} {ds:xH} {E:XK} {x m:Str} {p pos apos:Pos} {e o:Expr} {es:List Expr} {ta:TE} {t:TA}
def qf2 {xC:xG} {σ:St} {H:Hp} {s:Shared} {Q:VK} {us:xH} {vs:List V} (F:FnOk X.prog X.w X.K X.mg X.base CX k f fd ps sp) (hr:Room k X.A) (hb:Binds X.K fd ps ds) (hd:Vals dvs ds) (hx:q82 CX X E)
  (I:Inv X xC σ H s) (r:Vals vs us) (h:sp (vs++dvs) H Q E):wpAny (model X.prog X.w) X.A (call (.ref f) us) (EP X xC σ Q) X.xe s:=by
 have r2:Vals (vs++dvs) (us++ds):=r.append hd;have hl:(us++ds).length=ps.length:=by rw [<- r2.length];exact F.len _ _ _ _ h
 refine wpAny_call (z43 (F.run X.A X.stack s H ⟨us,[]⟩ (us++ds) (vs++dvs) Q E hr I.env0 (hb s us I.kIn hl) r2 h) λ r s' hq=> ?_);cases r with
 | error e=>exact hx xC σ H s e s' I hq
 | ok fl=>
  cases fl with
  | ret u=>exact I.after hq
  | next=>exact False.elim hq
  | brk=>exact False.elim hq
  | cont=>exact False.elim hq
def qxy (F:FnOk X.prog X.w X.K X.mg X.base CX k f fd ps sp) (hr:Room k X.A) (hg:Gl X x) (hm:X.mg x=some (.ref f)) (hk:PySem.W.keepIn X.K (.ref f)=true) (hb:Binds X.K fd ps ds) (hd:Vals dvs ds) (hx:q82 CX X E)
  (ha:PA X (e::es) t) (J:(x==("__debug__":Str))=false:=by decide) (he:starEach (e::es) X.env=(false,eval e X.env)::starEach es X.env:=by rfl) (O:(backTo pos (starEach es X.env)).any (·.1)=false:=by rfl):
  PE X (.Call (.Name x p) (e::es) [] pos) (qx3 sp dvs E t):=by
 intro xC s σ H Q I h;refine z1s (q9a I hg hm ?_ J);refine PySem.W.callWith_K (h₀:=X.base) I.ok.mod.kin hk (thn (ha pos xC s σ H _ I h) λ us s1 ⟨vs,H1,I1,r,q⟩=>⟨I1.kIn,?_⟩) he O;exact qf2 F hr hb hd hx I1 r q
def qxz {pl:Sem Bool} (he:PE X o ta) (c:Cls X.K C) (hm:Meth X.K C m f) (F:FnOk X.prog X.w X.K X.mg X.base CX k f fd ps sp) (hr:Room k X.A) (hb:Binds X.K fd ps ds) (hd:Vals dvs ds) (hx:q82 CX X E) (ha:PA X (e::es) t)
  (O:starEach (e::es) X.env=(false,eval e X.env)::starEach es X.env:=by rfl) (J:(backTo pos (starEach es X.env)).any (·.1)=false:=by rfl)
  (ht:eval (.Call (.Attribute o m apos) (e::es) [] pos) X.env=(do
   let ov <- eval o X.env
   standAt apos.atName
   let (f,first) <- holding [ov] (getMethod ov m pl)
   callWith pos f first (backTo pos (starEach (e::es) X.env)) (backToKw pos (keywordEach [] X.env))):=by rfl):
  PE X (.Call (.Attribute o m apos) (e::es) [] pos) (qx4 C m sp dvs E ta t):=by
 intro xC s σ H Q I h;refine PySem.W.methodCall_KW (pl:=pl) (thn (he xC s σ H _ I h) λ u s1 Z=> ?_) ht;obtain ⟨x,H1,I1,rx,a,dx,fs,ex,ea,l,q⟩:=Z;subst ex;obtain rfl:u=Value.ref a:=rx;refine q9w I1 ea c hm l ?_;refine PySem.W.callWith_K (first:=[.ref a]) (h₀:=X.base) I.ok.mod.kin hm.kp (thn (ha pos xC s1 σ H1 _ I1 q) λ us s2 ⟨vs,H2,I2,r,q2⟩=>⟨I2.kIn,?_⟩) O J;exact qf2 (us:= .ref a::us) (vs:= .ref a::vs) F hr hb hd hx I2 (.cons rfl r) q2
structure Mk (K:xA) (C f:Addr):Prop where
 makes:PySem.W.makesIn K C=true
 init:PySem.W.findIn K (.ref C) "__init__"=some (some (.ref f))
 fn:PySem.W.isFn K (.ref f)=true
 kp:PySem.W.keepIn K (.ref C)=true
def ql6 {xC:xG} {σ:St} {H:Hp} {s:Shared} {Q:VK} {us:xH} {vs:List V} (M:Mk X.K C f) (F:FnOk X.prog X.w X.K X.mg X.base CX k f fd ps sp) (hr:Room (k+1) X.A) (hb:Binds X.K fd ps ds) (hd:Vals dvs ds)
  (hx:q82 CX X E) (I:Inv X xC σ H s) (r:Vals vs us)
  (h:∀ x dx,H x=none ->H dx=none ->dx≠x ->sp (.ref x::(vs++dvs)) (upd (upd H dx (.own x)) x (.ins C dx [])) (λ v H2=>v= .non/\Q (.ref x) H2) E):
  wpAny (model X.prog X.w) X.A (call (.ref C) us) (EP X xC σ Q) X.xe s:=by
 have hq:=h (s.heap.objs.size+1) s.heap.objs.size (I.hok.fresh (Nat.le_succ _)) (I.hok.fresh (z48 _)) (z40 (z2l _));have I2:=Inv.made (C:=C) I;have r2:Vals (V.ref (s.heap.objs.size+1)::(vs++dvs)) (Value.ref (s.heap.objs.size+1)::(us++ds)):= .cons rfl (r.append hd);have hl:(Value.ref (s.heap.objs.size+1)::us++ds).length=ps.length:=by
  have e:=r2.length;rw [F.len _ _ _ _ hq] at e;exact e.symm
 refine wpAny_call (qur (f:=f) I.kIn M.makes M.init (beq_iff_eq.mp M.fn) (z43 (F.run _ X.stack _ _ ⟨Value.ref (s.heap.objs.size+1)::us,[]⟩ (Value.ref (s.heap.objs.size+1)::(us++ds)) _ _ E (hr.make C us [])
  (I2.env0.make C us []) (hb _ (Value.ref (s.heap.objs.size+1)::us) I2.kIn hl) r2 hq) λ r s' J=> ?_))
 cases r with
 | error e=>exact hx xC σ _ _ e s' I2 J
 | ok fl=>
  cases fl with
  | ret u=>
   obtain ⟨v,H',I3,rv,ev,q3⟩:=I2.after J;subst ev;exact ⟨rv,⟨V.ref (s.heap.objs.size+1),H',I3,zr,q3⟩⟩
  | next=>exact False.elim J
  | brk=>exact False.elim J
  | cont=>exact False.elim J
def qy0 (M:Mk X.K C f) (F:FnOk X.prog X.w X.K X.mg X.base CX k f fd ps sp) (hr:Room (k+1) X.A) (hg:Gl X x) (hm:X.mg x=some (.ref C)) (hb:Binds X.K fd ps ds) (hd:Vals dvs ds) (hx:q82 CX X E)
  (ha:PA X (e::es) t) (J:(x==("__debug__":Str))=false:=by decide) (he:starEach (e::es) X.env=(false,eval e X.env)::starEach es X.env:=by rfl) (O:(backTo pos (starEach es X.env)).any (·.1)=false:=by rfl):
  PE X (.Call (.Name x p) (e::es) [] pos) (qkd C sp dvs E t):=by
 intro xC s σ H Q I h;refine z1s (q9a I hg hm ?_ J);refine PySem.W.callWith_K (h₀:=X.base) I.ok.mod.kin M.kp (thn (ha pos xC s σ H _ I h) λ us s1 ⟨vs,H1,I1,r,q⟩=>⟨I1.kIn,?_⟩) he O;exact ql6 M F hr hb hd hx I1 r q
def qus (M:Mk X.K C f) (F:FnOk X.prog X.w X.K X.mg X.base CX k f fd ps sp) (hr:Room (k+1) X.A) (hg:Gl X x) (hm:X.mg x=some (.ref C)) (hb:Binds X.K fd ps ds) (hd:Vals dvs ds) (hx:q82 CX X E)
  (J:(x==("__debug__":Str))=false:=by decide):PE X (.Call (.Name x p) [] [] pos) (qkd C sp dvs E tNil):=by
 intro xC s σ H Q I h;refine z1s (q9a I hg hm ?_ J);exact PySem.W.callWith_K0 I.kIn M.kp (ql6 (us:=[]) M F hr hb hd hx I .nil h)
end
section
variable {X:Cx} {CX:CXT} {k:Nat} {f C:Addr} {fd:FuncData} {ps ks:xD} {sp:Sp} {E:XK} {x m:Str} {p pos apos kpos:Pos} {e o:Expr} {es:List Expr} {kws:List Keyword} {te ta:TE} {t tk:TA} {nm:Option Str}
variable {g:List Value ->List Value ->List Value} {gV:List V ->List V ->List V}
end
structure FnScope (N P:xD) (sc:Scope):Prop where
 kind:sc.kind= .function
 co:sc.isCoroutine=false
 gen:sc.isGenerator=false
 nd:N.Nodup
 pre:N.take P.length=P
 par:∀ x∈P,sc.names.lookup x=some .local\/ sc.names.lookup x=some .cell
 nofree:∀ y∈sc.names,y.2≠ .free
theorem qhz {kindOf:Str ->Option NameKind} {x:Str}:∀ {J:List (Str×Value)} {m:xE},(∀ v,(x,v)∉J) ->bindL kindOf J m x=m x
  | [],_,_=>rfl
  | (n,v)::r,m,h=>by
    unfold bindL;rw [qhz λ w hw=>h w (z16 _ hw)];split
    · have:x≠n:=by rintro rfl;exact h v z1p
      simp [this]
    · rfl
theorem qi0 {kindOf:Str ->Option NameKind} {x:Str}:∀ {J:List (Str×Value)} {m:xE},(∀ v,(x,v)∉J) ->bindC kindOf J m x=m x
  | [],_,_=>rfl
  | (n,v)::r,m,h=>by
    unfold bindC;rw [qi0 λ w hw=>h w (z16 _ hw)];split
    · rfl
    · have:x≠n:=by rintro rfl;exact h v z1p
      simp [this]
theorem qi1 {kindOf:Str ->Option NameKind} {x:Str} {v:Value}:∀ {P:xD} {vs:xH} {i:Nat} {m:xE},P.Nodup ->P[i]? =some x ->vs[i]? =some v ->kindOf x=some .local ->
  bindL kindOf (P.zip vs) m x=some v
 | [],_,_,_,_,h,_,_=>by simp at h
 | _::_,[],_,_,_,_,h,_=>by simp at h
 | p::P,w::vs,0,m,nd,h1,h2,hk=>by
  simp at h1 h2;subst h1;subst h2
  show bindL kindOf ((p,w)::P.zip vs) m p=_;unfold bindL;rw [qhz λ v hv=>(z32.mp nd).1 (List.of_mem_zip hv).1,if_pos hk];simp
 | p::P,w::vs,i+1,m,nd,h1,h2,hk=>by
  show bindL kindOf ((p,w)::P.zip vs) m x=_;unfold bindL;exact qi1 (i:=i) (z32.mp nd).2 (by simpa using h1) (by simpa using h2) hk
theorem qi2 {kindOf:Str ->Option NameKind} {x:Str} {v:Value}:∀ {P:xD} {vs:xH} {i:Nat} {m:xE},P.Nodup ->P[i]? =some x ->vs[i]? =some v ->kindOf x≠some .local ->
  bindC kindOf (P.zip vs) m x=some v
 | [],_,_,_,_,h,_,_=>by simp at h
 | _::_,[],_,_,_,_,h,_=>by simp at h
 | p::P,w::vs,0,m,nd,h1,h2,hk=>by
  simp at h1 h2;subst h1;subst h2
  show bindC kindOf ((p,w)::P.zip vs) m p=_;unfold bindC;rw [qi0 λ v hv=>(z32.mp nd).1 (List.of_mem_zip hv).1,if_neg hk];simp
 | p::P,w::vs,i+1,m,nd,h1,h2,hk=>by
  show bindC kindOf ((p,w)::P.zip vs) m x=_;unfold bindC;exact qi2 (i:=i) (z32.mp nd).2 (by simpa using h1) (by simpa using h2) hk
def start (N:xD) (vs:List V):St:=vs.map some++List.replicate (N.length - vs.length) none
def cxOf (CX:CXT) (P:Program) (w:World) (K:xA) (mg:xE) (base:Heap) (N:xD) (qual:Str) (scope:Scope) (f:Addr) (cd:Value) (A:Around) (outer:List Env) (s:Shared) (H:Hp) (E:XK):Cx where
 prog:=P
 w:=w
 K:=K
 mg:=mg
 base:=base
 A:=A.deeper (envOfC qual scope s.heap.objs.size f cd)
 N:=N
 s₀:=s
 H₀:=H
 env:=envOfC qual scope s.heap.objs.size f cd
 outer:=outer
 stack:=envOfC qual scope s.heap.objs.size f cd::outer
 ex:=[]
 calm:=true
 fn:=λ _=>true
 pn:=[]
 xe:=λ e s'=>wpAny (model P w) (A.deeper (envOfC qual scope s.heap.objs.size f cd)) (leaving (envOfC qual scope s.heap.objs.size f cd) e) (λ _ s''=>CX outer H s E e s'') (λ e' s''=>CX outer H s E e' s'') s'
def ql7 {J:Scope} {n:Nat} {x:Str} (h:J.names.lookup x=some .cell):∃ c,(cellsFrom n J.names []).lookup x=some c:=by
 have q:=PySem.W.cellsFrom_some J.names n [] (.inl h);exact Option.isSome_iff_exists.mp q
def qrz {CX:CXT} {P:Program} {w:World} {K:xA} {mg:xE} {base:Heap} {N ps:xD} {qual:Str} {scope:Scope} {f:Addr} {cd:Value} {A:Around} {outer:List Env} {s s1:Shared} {H:Hp} {E:XK} {us:xH} {vs:List V}
    (S:FnScope N ps scope) (hd:A.handled=none) (J:Env0 P w K mg base A outer s H) (hl:vs.length=ps.length) (r:Vals vs us)
    (x:InCallC s s.heap.objs.size (bindL (envOfC qual scope s.heap.objs.size f cd).kindOf (ps.zip us) λ _=>none) (cellsFrom (s.heap.objs.size+1) scope.names []) (bindC (envOfC qual scope s.heap.objs.size f cd).kindOf (ps.zip us) λ _=>none) s1):
    Inv (cxOf CX P w K mg base N qual scope f cd A outer s H E) [] (start N vs) H s1:=by
  have hpl:ps.length<=N.length:=by have:=congrArg List.length S.pre;rw [z2g] at this;lia
  obtain ⟨h1,tk,rfl,hk⟩:=x.done;have O:∀ b:Addr,b∉(cxOf CX P w K mg base N qual scope f cd A outer s H E).ex:=λ b z=>absurd (show b∈([]:List Addr) from z) (by simp);refine ⟨⟨J.mod,S.kind,zr,zr,z48 _,λ y z c h1 h2=> ?_,λ y hy=> ?_,λ y c _ h=> ?_,λ _=>hd,Around.frames_deeper J.frames,.inr ⟨zr,zr⟩,λ b z=>absurd z (O b),J.bs,J.bsz,λ b _ _=>O b,λ b z=>absurd z (O b),J.funs,J.frf⟩,
    rfl,J.bare,Un.kept hk,⟨_,x.toInCall.ns,λ i y v h1 h2 h3=> ?_⟩,λ y c h=>⟨_,x.cell y c h⟩,J.hok.fresh (z48 _),λ y c h=> ?_,λ p Z=>absurd (show p∈([]:xG) from Z) (by simp),J.hok.kept hk,?_⟩
  · exact name_of_addr x.apart (z1d h1) (z1d h2)
  · have hy:scope.names.lookup y=some .cell\/ scope.names.lookup y=some .free:=hy
    rcases hy with hy | hy
    · exact ql7 hy
    · exact absurd rfl (S.nofree _ (z1d hy))
  · exact z3y (x.above y c (z1d h))
  · have hi:i < vs.length:=by
      unfold start at h2;by_cases hi:i < vs.length
      · exact hi
      · rw [z05 (by simpa using hi)] at h2
        rw [List.getElem?_replicate] at h2;split at h2 <;> cases h2
    have ha:vs[i]? =some v:=by
      unfold start at h2;rw [List.getElem?_append_left (by simpa using hi),z22] at h2;cases e:vs[i]? with
      | none=>rw [e] at h2;cases h2
      | some a=>rw [e] at h2;cases h2;rfl
    obtain ⟨u,hu,rv⟩:=r.get ha;have Z:ps[i]? =some y:=by
      rw [<- S.pre,List.getElem?_take_of_lt (by lia)];exact h1
    have a0:ps.Nodup:=by rw [<- S.pre];exact S.nd.sublist (List.take_sublist _ _)
    refine ⟨u,rv,?_⟩;rcases S.par y (z18 Z) with k | k
    · exact .inl ⟨k,qi1 a0 Z hu k⟩
    · obtain ⟨c,e⟩:=ql7 (n:=s.heap.objs.size+1) k
      refine .inr ⟨.inl k,c,e,?_⟩;have q:=x.cell y c e;rw [qi2 a0 Z hu (by show scope.names.lookup y≠_;rw [k];decide)] at q;exact q
  · exact J.hok.fresh (z3y (x.above y c (z1d h)))
  · unfold start
    show _=N.length;rw [z1o,z30,List.length_replicate]
    lia
def qx5 {CX:CXT} {P:Program} {w:World} {K:xA} {mg:xE} {base:Heap} {k:Nat} {f:Addr} {name qual:Str} {params:Arguments} {body:List Stmt} {scope:Scope} {dV kV a0 pm cdv ct oc:Value} {an od:Option Addr}
  {a4:Array (Option Value)} {N ps:xD} {sp:Sp} (lk:K.lookup f=some ⟨oc,od,.func (PySem.W.fnOf name qual params body scope dV kV a0 pm an cdv ct),a4⟩) (a2:PySem.W.codeIn K cdv qual=true) (S:FnScope N ps scope)
  (len:∀ vs H Q E,sp vs H Q E ->vs.length=ps.length)
  (O:∀ (A:Around) (outer:List Env) (s:Shared) (H:Hp) (vs:List V) (Q:VK) (E:XK),Room k (A.deeper (envOfC qual scope s.heap.objs.size f cdv)) ->sp vs H Q E ->
   ∃ t,PSs (cxOf CX P w K mg base N qual scope f cdv A outer s H E) body t/\t {nx:=λ _ H'=>Q .non H',rt:=Q} (start N vs) H):
  FnOk P w K mg base CX (k+1) f (PySem.W.fnOf name qual params body scope dV kV a0 pm an cdv ct) ps sp:=by
 refine ⟨len,λ A outer s H args us vs Q E hr e0 hb r a1=> ?_⟩;have hl:=len _ _ _ _ a1;have KX:K.In s.heap:=e0.mod.kin.keeps λ b o e=>(e0.bs b o e).1;have a3:s.heap.NoLimit:=e0.mod.nolimit.keeps λ b o e=>(e0.bs b o e).1;have Z:∀ y∈ps.zip us,scope.names.lookup y.1=some .local\/ (scope.names.lookup y.1=some .cell/\((cellsFrom (s.heap.objs.size+1) scope.names []).lookup y.1).isSome=true):=λ ⟨n,v⟩ hy=>by
  rcases S.par n (List.of_mem_zip hy).1 with q | q
  ·exact .inl q
  ·exact .inr ⟨q,PySem.W.cellsFrom_some _ _ _ (.inl q)⟩
 refine codeAny_call_function hr.depth (KX _ _ lk) rfl S.co S.gen rfl (PySem.W.codeRec_of KX a2) (hb _ _ _ _ ?_);refine wpAny_newFunctionEnv_cells S.kind Z λ env he s1 x=> ?_;subst he;refine ⟨a3.keeps x.toInCall.keep,codeAny_func ?_⟩;obtain ⟨t,ht,hq⟩:=O A outer s H vs Q E (hr.deeper _) a1;have I:Inv (cxOf CX P w K mg base N qual scope f cdv A outer s H E) [] (start N vs) H s1:=qrz S hr.hd e0 hl r x;refine z4g (ht [] s1 (start N vs) H _ I hq) (λ fl s' hs=> ?_) λ e s' hs=>hs;have fin:∀ {σ':St} {H':Hp} {v:V} {u:Value},Inv (cxOf CX P w K mg base N qual scope f cdv A outer s H E) [] σ' H' s' ->RelV v u ->Q v H' ->CE outer P w H s Q u s':=
  λ {σ' H' v u} J rv q=>⟨v,H',J.os,J.bare,J.base,J.hok,rv,q⟩
 cases fl with
 | ret u=>
  obtain ⟨v,σ',H',J,rv,q⟩:=hs;exact fin J rv q
 | next=>
  obtain ⟨σ',H',J,q⟩:=hs;exact fin (v:=V.non) (u:=Value.none) J rfl q
 | brk=>
  obtain ⟨_,_,_,q⟩:=hs;exact False.elim q
 | cont=>
  obtain ⟨_,_,_,q⟩:=hs;exact False.elim q
section
variable {X:Cx} {x:Str} {p pos:Pos} {e:Expr} {es:List Expr} {t:TA} {id T:String} {r:List V ->Hp ->VK ->Prop}
def tCB (r:List V ->Hp ->VK ->Prop) (t:TA):TE:=λ σ H Q=>t σ H λ vs H1=>r vs H1 Q
def qp (hc:q22 X (.builtin id) r) (hg:Gl X x) (hm:X.mg x=none) (hv:bootBuiltins x=some (.builtin id)) (ha:PA X (e::es) t) (hn:x≠"__name__":=by decide) (J:(x==("__debug__":Str))=false:=by decide)
  (he:starEach (e::es) X.env=(false,eval e X.env)::starEach es X.env:=by rfl) (O:(backTo pos (starEach es X.env)).any (·.1)=false:=by rfl):PE X (.Call (.Name x p) (e::es) [] pos) (tCB r t):=by
 intro xC s σ H Q I h;refine z1s (qbb I hg hm hv ?_ hn J);exact PyProof.Rows.callWith_builtin1 (thn (ha pos xC s σ H _ I h) λ us s1 ⟨vs,H1,I1,r1,q1⟩=>hc xC s1 σ H1 vs us Q I1 r1 q1) he O
def q2h (hc:q22 X (.type T) r) (hg:Gl X x) (hm:X.mg x=none) (hv:bootBuiltins x=some (.type T)) (ha:PA X (e::es) t) (hn:x≠"__name__":=by decide) (J:(x==("__debug__":Str))=false:=by decide)
  (he:starEach (e::es) X.env=(false,eval e X.env)::starEach es X.env:=by rfl) (O:(backTo pos (starEach es X.env)).any (·.1)=false:=by rfl):PE X (.Call (.Name x p) (e::es) [] pos) (tCB r t):=by
 intro xC s σ H Q I h;refine z1s (qbb I hg hm hv ?_ hn J);exact z03 (thn (ha pos xC s σ H _ I h) λ us s1 ⟨vs,H1,I1,r1,q1⟩=>hc xC s1 σ H1 vs us Q I1 r1 q1) he O
end
end L2
namespace HT
open PySem PyProof.Rows
section
open PySem.SeqAt
open PySem.AutoSeq1 (wpAny_loadPart')
open PySem.MeetsSeq PySem.MeetsSeq2 PySem.MeetsSeq3
end
section
variable {prog:Program} {w:World} {A:Around} {E:xB} {s:Shared}
def cat_tup {t b:Addr} {vs ws:xH} {Q:xB} (ht:IsTup s.heap t vs.toArray) (hb:IsTup s.heap b ws.toArray) (hv:vs≠ [])
  (h1:ws=[] ->Q (.ref t) s) (h2:ws≠ [] ->Q (.ref s.heap.objs.size) {s with heap:=s.heap.push {cls:= .type "tuple",data:= .seq (vs++ws).toArray}})
  (hsz:vs.length+ws.length<=sizeLine):wpAny (model prog w) A (binaryOp .Add (.ref t) (.ref b)) Q E s:=by
 obtain ⟨⟨cls,dd,data,sl⟩,ho,hc,n,hd⟩:=id ht;obtain ⟨⟨a3,O,a2,a1⟩,J,Z,n2,a0⟩:=id hb;simp only at hc hd Z a0;subst hc hd Z a0;have e:vs.toArray++ws.toArray=(vs++ws).toArray:=by simp
 by_cases hw:ws=[]
 ·exact concat_meets ⟨_,ho,zr⟩ ⟨_,J,zr⟩ noFill_tuple_add seq_tuple_add PySem.F.slot_tuple_add PySem.F.entry_tuple_add (PySem.F.args_tuple_add_2 _ _)
   (tuple_addW1 t b vs.toArray ws.toArray n n2 dd O sl a1 (by simpa using hv) (by simp [hw])) ⟨ho,J,h1 hw⟩
 ·refine concat_meets ⟨_,ho,zr⟩ ⟨_,J,zr⟩ noFill_tuple_add seq_tuple_add PySem.F.slot_tuple_add PySem.F.entry_tuple_add (PySem.F.args_tuple_add_2 _ _)
   (tuple_addW2 t b vs.toArray ws.toArray n n2 dd O sl a1 (by simpa using hv) (by simpa using hw) (by rw [z23,z23];exact hsz)) ⟨ho,J,?_⟩
  rw [e];exact h2 hw
def sIx (n d:Nat):Option Int ->Nat
 | none=>d
 | some v=>if v < 0 then (v+(n:Int)).toNat else min v.toNat n
def sIx_none (n d:Nat):sIx n d none=d:=rfl
def sIx_nat (n d k:Nat):sIx n d (some (k:Int))=min k n:=by
 show (if (k:Int) < 0 then ((k:Int)+(n:Int)).toNat else min (k:Int).toNat n)=min k n;rw [if_neg (by lia),z26]
def sIx_le (n d:Nat) (hd:d<=n) (o:Option Int):sIx n d o<=n:=by
 cases o with
 | none=>exact hd
 | some v=>
  show (if v < 0 then (v+(n:Int)).toNat else min v.toNat n)<=n;by_cases J:v < 0
  ·rw [if_pos J];lia
  ·rw [if_neg J];exact Nat.min_le_right _ _
def clip_eq (v:Int) (n d:Nat):(if v < 0 then max (v+(n:Int)) 0 else min v (n:Int))=((sIx n d (some v):Nat):Int):=by
 show (if v < 0 then max (v+(n:Int)) 0 else min v (n:Int))=(((if v < 0 then (v+(n:Int)).toNat else min v.toNat n):Nat):Int);by_cases J:v < 0
 ·simp only [if_pos J];lia
 ·simp only [if_neg J];lia
end
end HT
namespace L2
open PySem PySem.Spec PyProof.Rows
abbrev TO:=St ->Hp ->(Option Int ->Hp ->Prop) ->Prop
def PO (X:Cx) (e:Option Expr) (t:TO):Prop:=
 ∀ (xC:xG) (s:Shared) (σ:St) (H:Hp) (Q:Option Int ->Hp ->Prop),Inv X xC σ H s ->t σ H Q ->
  wpAny (model X.prog X.w) X.A (evalPart e X.env) (λ u s'=>∃ o H',Inv X xC σ H' s'/\IsPart u o/\Q o H') X.xe s
def qy1:TO:=λ _ H Q=>Q none H
def q12m (t:TE):TO:=λ σ H Q=>t σ H λ x H1=>∃ i,x= .int i/\Q (some i) H1
section
variable {X:Cx} {e:Expr} {te:TE} {lo hi:Option Expr} {tl th:TO} {pos p2:Pos}
def q7w:PO X none qy1:=by
 intro xC s σ H Q I h;rw [evalPart_none];exact z4e ⟨none,H,I,.none,h⟩
def q31 (h:PE X e te):PO X (some e) (q12m te):=by
 intro xC s σ H Q I hw;rw [evalPart_some];refine thn (h xC s σ H _ I hw) λ u s1 J=> ?_;obtain ⟨x,H1,I1,r1,q1⟩:=J;obtain ⟨i,rfl,q⟩:=q1;obtain ⟨t,rfl⟩:=r1;exact ⟨some i,H1,I1,.int i t,q⟩
def SlR (X:Cx) (r:V ->Option Int ->Option Int ->Hp ->VK ->Prop):Prop:=
 ∀ (xC:xG) (s:Shared) (σ:St) (H:Hp) (x:V) (v vl vu:Value) (lo hi:Option Int) (sl:Addr) (Q:VK),Inv X xC σ H s ->RelV x v ->s.heap.IsSliceOf sl vl vu .none ->IsPart vl lo ->IsPart vu hi ->r x lo hi H Q ->
  ∃ T id,typeLookup (.type T) "__getitem__"=pure (some (.builtin id))/\s.TypeIs v T/\wpAny (model X.prog X.w) X.A (getItem v (.ref sl)) (EP X xC σ Q) X.xe s
def tSl (r:V ->Option Int ->Option Int ->Hp ->VK ->Prop) (te:TE) (tl th:TO):TE:=λ σ H Q=>te σ H λ x H1=>tl σ H1 λ l H2=>th σ H2 λ u H3=>r x l u H3 Q
def q3p {r:V ->Option Int ->Option Int ->Hp ->VK ->Prop} (hr:SlR X r) (he:PE X e te) (hl:PO X lo tl) (hu:PO X hi th):PE X (.Subscript e (.Slice lo hi none p2) pos) (tSl r te tl th):=by
 intro xC s σ H Q I h;refine Subscript_ (thn (he xC s σ H _ I h) λ v s1 J=> ?_);obtain ⟨x,H1,I1,r1,q1⟩:=J;refine wpAny_Slice (thn (hl xC s1 σ H1 _ I1 q1) λ O s2 ⟨l,H2,I2,pl,q2⟩=>thn (hu xC s2 σ H2 _ I2 q2) λ Z s3 J=> ?_);obtain ⟨u,H3,I3,pu,q3⟩:=J;rw [evalPart_none];refine z4e ?_;have I4:Inv X xC σ H3 {s3 with heap:=s3.heap.push {cls:= .type "slice",data:= .fields #[O,Z,.none]}}:=I3.kept (t':=s3.toks) λ b ob q=>z0o _ q;obtain ⟨T,id,hT,ht,hg⟩:=hr xC {s3 with heap:=s3.heap.push {cls:= .type "slice",data:= .fields #[O,Z,.none]}} σ H3 x v O Z l u s3.heap.objs.size Q I4 r1 (Heap.IsSliceOf.new ..) pl pu q3;show wpAny (model X.prog X.w) X.A (subscriptTail e (.Slice lo hi none p2) v (.ref s3.heap.objs.size)) (EP X xC σ Q) X.xe {s3 with heap:=s3.heap.push {cls:= .type "slice",data:= .fields #[O,Z,.none]}};exact tail_any (ops:=[.ref s3.heap.objs.size,v]) ht hT hg (by with_unfolding_all rfl)
def cutV (xs:List V) (lo hi:Option Int):List V:=(xs.drop (HT.sIx xs.length 0 lo)).take (HT.sIx xs.length xs.length hi - HT.sIx xs.length 0 lo)
def qnn (xs:List V) (lo hi:Option Int):(cutV xs lo hi).length<=xs.length:=by
 unfold cutV;rw [z2g,z2h]
 lia
def q12n (K:xA):R2:=λ x y H Q=>∃ a b xs ys,x= .ref a/\y= .ref b/\SqT K H a xs/\SqT K H b ys/\xs≠ []/\xs.length+ys.length<=sizeLine/\
 (ys=[] ->Q (.ref a) H)/\(ys≠ [] ->∀ p,H p=none ->Q (.ref p) (upd H p (.tup (xs++ys))))
def Vals.qcm {xs:List V} {us:xH} (r:Vals xs us):us=[]↔xs=[]:=by
 cases r with
 | nil=>simp
 | cons _ _=>simp
def qy2:OpR X (binaryOp .Add) (q12n X.K):=by
 intro xC s σ H x y v u Q I rx ry h;obtain ⟨a,b,xs,ys,rfl,rfl,ha,hb,hx,hz,q1,q2⟩:=h;cases rx
 cases ry
 obtain ⟨its,r1,p1,_⟩:=I.tuple ha;obtain ⟨J,r2,p2,_⟩:=I.tuple hb;refine HT.cat_tup p1 p2 (λ z=>hx (r1.qcm.mp z)) (λ z=>⟨.ref a,H,I,rfl,q1 (r2.qcm.mp z)⟩) (λ z=> ?_) (by rw [<- r1.length,<- r2.length];exact hz);refine ⟨.ref s.heap.objs.size,_,I.laid (t':=s.toks) (o:= .tup (xs++ys)) (λ b ob q=>z0o _ q) (z48 _) ?_,zr,q2 (λ w=>z (r2.qcm.mpr w)) _ (I.hok.fresh (z48 _))⟩;exact ⟨by rw [z1o];exact hz,_,r1.append r2,IsTup.new _ _⟩
end
def ixN (n:Nat) (i:Int):Option Nat:=if 0<=i then (if i < n then some i.toNat else none) else if -(n:Int)<=i then some (i+n).toNat else none
def atI {α:Type} (xs:List α) (i:Int):Option α:=(ixN xs.length i).bind λ j=>xs[j]?
def qy3 {n:Nat} {i:Int} {j:Nat} (h:ixN n i=some j):seqIndex? i n=some j/\j < n/\ -(n:Int)<=i/\i < n:=by
 unfold ixN at h;by_cases h0:0<=i
 ·rw [if_pos h0] at h;by_cases h1:i < n
  ·rw [if_pos h1] at h;have e:i.toNat=j:=Option.some.inj h;exact ⟨by rw [seqIndex_of h0 h1,e],by lia,by lia,h1⟩
  ·rw [if_neg h1] at h;cases h
 ·rw [if_neg h0] at h;by_cases h1: -(n:Int)<=i
  ·rw [if_pos h1] at h;have e:(i+n).toNat=j:=Option.some.inj h;exact ⟨by rw [seqIndex_neg (by lia) h1,e],by lia,h1,by lia⟩
  ·rw [if_neg h1] at h;cases h
def qok {α:Type} {xs:List α} {i:Int} {v:α} (h:atI xs i=some v):∃ j,seqIndex? i xs.length=some j/\xs[j]? =some v/\j < xs.length/\ -(xs.length:Int)<=i/\i < xs.length:=by
 unfold atI at h;cases e:ixN xs.length i with
 | none=>rw [e] at h;cases h
 | some j=>
  rw [e] at h;obtain ⟨h1,h2,h3,h4⟩:=qy3 e;exact ⟨j,h1,h,h2,h3,h4⟩
def q40 {α:Type} {xs:List α} {j:Nat} {v:α} (h:xs[j]? =some v):atI xs (j:Int)=some v:=by
 have hj:j < xs.length:=(z07.mp h).1;have e:ixN xs.length (j:Int)=some j:=by
  unfold ixN;rw [if_pos (by lia),if_pos (by lia)];simp
 unfold atI;rw [e];exact h
def qy4 (b:Expr):Prop:=∀ o i,subscripted b false o i=operate [o,i] (getItem o i)
def IxR (X:Cx) (r:R2):Prop:=
 ∀ (value slice:Expr) (xC:xG) (s:Shared) (σ:St) (H:Hp) (x y:V) (v u:Value) (Q:VK),Inv X xC σ H s ->RelV x v ->RelV y u ->r x y H Q ->
  subscripted slice false v u=operate [v,u] (getItem v u) ->wpAny (model X.prog X.w) X.A (subscriptTail value slice v u) (EP X xC σ Q) X.xe s
def MtR (X:Cx) (id:String) (r:V ->List V ->Hp ->VK ->Prop):Prop:=
 ∀ (xC:xG) (s:Shared) (σ:St) (H:Hp) (x:V) (xs:List V) (v:Value) (us:xH) (Q:VK),Inv X xC σ H s ->RelV x v ->Vals xs us ->r x xs H Q ->
  wpAny (model X.prog X.w) X.A (call (.builtin id) (v::us)) (EP X xC σ Q) X.xe s
section
variable {X:Cx} {a b:Expr} {ta tb:TE} {pos:Pos}
def q1h {r:R2} (hr:IxR X r) (ha:PE X a ta) (hb:PE X b tb) (hs:qy4 b):PE X (.Subscript a b pos) (tOp r ta tb):=by
 intro xC s σ H Q I h;exact Subscript_ (binT ha hb I h λ v u s2 x y H2 I2 rx ry q=>hr a b xC s2 σ H2 x y v u Q I2 rx ry q (hs _ _))
def rIxL (K:xA):R2:=λ x y H Q=>∃ p xs i v,x= .ref p/\y= .int i/\SqL K H p xs/\atI xs i=some v/\Q v H
def rIxS:R2:=λ x y H Q=>∃ z i c,x= .str z/\y= .int i/\z.length<=sizeLine/\atI z.cps.toList i=some c/\Q (.str ⟨#[c]⟩) H
def qy5:IxR X (rIxL X.K):=by
  intro value Z xC s σ H x y v u Q I rx ry h hs;obtain ⟨p,xs,i,z,rfl,rfl,hq,he,q⟩:=h;cases rx
  obtain ⟨t,rfl⟩:=ry;obtain ⟨its,r,pl,hz⟩:=I.list hq;obtain ⟨j,h1,h2,h3,h4,h5⟩:=qok he;obtain ⟨w,ew,O⟩:=r.get h2;have hl:=r.length;have hn:=ql5;have fin:EP X xC σ Q w s:=⟨z,H,I,O,q⟩;by_cases h0:0<=i
  · have J:i.toNat=j:=by
      rw [seqIndex_of h0 h5] at h1;exact Option.some.inj h1
    exact item_listR pl.isList h0 (by lia) (by rw [J];simpa using ew) fin hs
  · have J:(i+(its.toArray.size:Int)).toNat=j:=by
      rw [seqIndex_neg (by lia) h4] at h1;rw [z23,<- hl];exact Option.some.inj h1
    exact subscriptTail_builtinR (x:=w) pl.isList.typeIs slot_list_getitem.lookup
      (wpAny_getItem_list_neg (Q:=λ r s'=>r=w/\EP X xC σ Q r s') pl.isList (by lia) (by rw [z23] <;> lia) (by lia) (by rw [J];simpa using ew) ⟨rfl,fin⟩) hs
def ql8:IxR X rIxS:=by
 intro value J xC s σ H x y v u Q I rx ry h hs;obtain ⟨z,i,c,rfl,rfl,hz,he,q⟩:=h;obtain ⟨t,rfl⟩:=rx;obtain ⟨t',rfl⟩:=ry;obtain ⟨j,h1,h2,h3,h4,h5⟩:=qok he;have hl:z.cps.toList.length=z.length:=by simp [Str.length]
 rw [hl] at h1 h4 h5;have hn:=ql5;exact tail_any (typeIs_str s z t) slot_str_getitem.lookup (getItem_str (c:=c) (by
  have e1:decide (i < -(2^63:Int))=false:=z2w (by lia);have e2:decide (i >=2^63)=false:=z2w (by lia);rw [e1,e2,Bool.or_false]) (by rw [h1];simpa using h2) ⟨.str ⟨#[c]⟩,H,I.tok _,⟨_,rfl⟩,q⟩) hs
def ql9 (lo hi:Option Int) (n:Nat):(sliceBounds lo hi none n).1=((HT.sIx n 0 lo:Nat):Int)/\(sliceBounds lo hi none n).2.1=((HT.sIx n n hi:Nat):Int)/\(sliceBounds lo hi none n).2.2=1:=by
 refine ⟨?_,?_,zr⟩
 ·cases lo with
  | none=>simp [sliceBounds,HT.sIx]
  | some i=>
   simp only [sliceBounds,HT.sIx,Option.getD_none,show (1:Int) > 0 by decide,if_true];by_cases h:i < 0
   ·simp only [h,if_true] <;> lia
   ·simp only [h,if_false] <;> lia
 ·cases hi with
  | none=>simp [sliceBounds,HT.sIx]
  | some i=>
   simp only [sliceBounds,HT.sIx,Option.getD_none,show (1:Int) > 0 by decide,if_true];by_cases h:i < 0
   ·simp only [h,if_true] <;> lia
   ·simp only [h,if_false] <;> lia
def qiz (its:xH) (lo hi:Option Int):slicePick its.toArray lo hi none=((its.drop (HT.sIx its.length 0 lo)).take (HT.sIx its.length its.length hi - HT.sIx its.length 0 lo)).toArray:=by
 obtain ⟨h1,h2,h3⟩:=ql9 lo hi its.toArray.size;unfold slicePick;rw [h1,h2,h3];simp only [sliceRange_one,pick_run,z23] <;> rfl
def rSlL (K:xA):V ->Option Int ->Option Int ->Hp ->VK ->Prop:=λ x lo hi H Q=>∃ a xs,x= .ref a/\SqL K H a xs/\∀ p,H p=none ->Q (.ref p) (upd H p (.lst (cutV xs lo hi)))
def qy6:SlR X (rSlL X.K):=by
 intro xC s σ H x v vl vu lo hi sl Q I rx hs pl pu h;obtain ⟨a,xs,rfl,hx,q⟩:=h;cases rx
 obtain ⟨its,r,O,hz⟩:=I.list hx;have J:=r.length;refine ⟨"list",_,slot_list_getitem.lookup,O.isList.typeIs,?_⟩;refine wpAny_getItem_list_slice O.isList hs pl pu .none (by simp) ?_ (by rw [z23] <;> lia);rw [qiz,<- J];refine ⟨.ref s.heap.objs.size,_,I.laid (t':=s.toks) (o:= .lst (cutV xs lo hi)) (λ b ob q=>z0o _ q) (z48 _) ?_,zr,q _ (I.hok.fresh (z48 _))⟩;exact ⟨z41 (qnn xs lo hi) hz,_,0,(r.drop (HT.sIx xs.length 0 lo)).take (HT.sIx xs.length xs.length hi - HT.sIx xs.length 0 lo),z1c _ rfl⟩
def q7r:V ->Bool
 | .non=>true
 | .bl _=>true
 | .int _=>true
 | .str _=>true
 | _=>false
def eqV:V ->V ->Bool
 | .non,.non=>true
 | .bl a,.bl b=>a==b
 | .bl a,.int b=>(if a then 1 else 0)==b
 | .int a,.bl b=>a==(if b then 1 else 0)
 | .int a,.int b=>a==b
 | .str a,.str b=>a==b
 | _,_=>false
def q10h {A:Around} {s:Shared} {y x:V} {u v:Value} (ry:RelV y u) (rx:RelV x v) (fy:q7r y=true) (J:q7r x=true):SeqAt.EqAt A s u v (eqV y x):=by
 cases y with
 | non=>
  cases ry
  cases x with
  | non=>cases rx;exact SeqAt.EqAt.same _
  | bl b=>cases rx;exact SeqAt.EqAt.none_bool b
  | int b=>obtain ⟨t,rfl⟩:=rx;exact SeqAt.EqAt.none_int b t
  | str b=>obtain ⟨t,rfl⟩:=rx;exact SeqAt.EqAt.none_str b t
  | _=>exact absurd (show false=true from J) z1l
 | bl a=>
  cases ry
  cases x with
  | non=>cases rx;exact SeqAt.EqAt.bool_none a
  | bl b=>cases rx;exact SeqAt.EqAt.bool_bool a b
  | int b=>obtain ⟨t,rfl⟩:=rx;exact SeqAt.EqAt.bool_int a b t
  | str b=>obtain ⟨t,rfl⟩:=rx;exact SeqAt.EqAt.bool_str a b t
  | _=>exact absurd (show false=true from J) z1l
 | int a=>
  obtain ⟨t',rfl⟩:=ry;cases x with
  | non=>cases rx;exact SeqAt.EqAt.int_none a t'
  | bl b=>cases rx;exact SeqAt.EqAt.int_bool a t' b
  | int b=>obtain ⟨t,rfl⟩:=rx;exact SeqAt.EqAt.int_int a t' b t
  | str b=>obtain ⟨t,rfl⟩:=rx;exact SeqAt.EqAt.int_str a t' b t
  | _=>exact absurd (show false=true from J) z1l
 | str a=>
  obtain ⟨t',rfl⟩:=ry;cases x with
  | non=>cases rx;exact SeqAt.EqAt.str_none a t'
  | bl b=>cases rx;exact SeqAt.EqAt.str_bool a t' b
  | int b=>obtain ⟨t,rfl⟩:=rx;exact SeqAt.EqAt.str_int a t' b t
  | str b=>obtain ⟨t,rfl⟩:=rx;exact SeqAt.EqAt.str_str a t' b t
  | _=>exact absurd (show false=true from J) z1l
 | _=>exact absurd (show false=true from fy) z1l
def eqU (x:V) (u:Value):Bool:=match u with
 | .none=>eqV .non x
 | .bool b=>eqV (.bl b) x
 | .int i _=>eqV (.int i) x
 | .str z _=>eqV (.str z) x
 | _=>false
def qs0 {x y:V} {u:Value} (r:RelV y u) (f:q7r y=true):eqU x u=eqV y x:=by
 cases y with
 | non=>cases r;rfl
 | bl b=>cases r;rfl
 | int i=>obtain ⟨t,rfl⟩:=r;rfl
 | str z=>obtain ⟨t,rfl⟩:=r;rfl
 | _=>exact absurd (show false=true from f) z1l
theorem q9e {x:V}:∀ {xs:List V} {us:xH},Vals xs us ->xs.all q7r=true ->us.any (eqU x)=xs.any λ y=>eqV y x
 | _,_,.nil,_=>rfl
 | y::xs,u::us,.cons r t,f=>by
  rw [List.all_cons,z2m] at f;rw [z3q,z3q,qs0 r f.1,q9e t f.2]
theorem q83 {A:Around} {s:Shared} {x:V} {v:Value} (rx:RelV x v) (O:q7r x=true):∀ {xs:List V} {us:xH},Vals xs us ->xs.all q7r=true ->∀ u∈us,SeqAt.EqAt A s u v (eqU x u)
 | _,_,.nil,_=>λ u J=>by cases J
 | y::xs,u::us,.cons r t,f=>λ u' J=>by
  rw [List.all_cons,z2m] at f;rcases z3n.mp J with rfl | J
  ·rw [qs0 r f.1];exact q10h r rx f.1 O
  ·exact q83 rx O t f.2 u' J
def inV (x:V) (xs:List V):Bool:=xs.any λ y=>eqV y x
def rIn (K:xA) (neg:Bool):R2:=λ x y H Q=>∃ p xs,y= .ref p/\(SqL K H p xs\/ SqT K H p xs)/\q7r x=true/\xs.all q7r=true/\Q (.bl (if neg then !inV x xs else inV x xs)) H
def qs1:OpR X (compareOp .In) (rIn X.K false):=by
 intro xC s σ H x y v u Q I rx ry h;obtain ⟨p,xs,rfl,hq,J,fs,q⟩:=h;cases ry
 rcases hq with hq | hq
 ·obtain ⟨its,r,pl,hz⟩:=I.list hq;refine SeqAt.in_listAt (eqU x) pl.isList (λ w hw=>q83 rx J r fs w (by simpa using hw)) ⟨.bl _,H,I,zr,?_⟩;rw [show its.toArray.any (eqU x)=its.any (eqU x) by simp,q9e r fs];exact q
 ·obtain ⟨its,r,pl,hz⟩:=I.tuple hq;refine SeqAt.in_tupleAt (eqU x) pl (λ w hw=>q83 rx J r fs w (by simpa using hw)) ⟨.bl _,H,I,zr,?_⟩;rw [show its.toArray.any (eqU x)=its.any (eqU x) by simp,q9e r fs];exact q
def qla:OpR X (compareOp .NotIn) (rIn X.K true):=by
 intro xC s σ H x y v u Q I rx ry h;obtain ⟨p,xs,rfl,hq,J,fs,q⟩:=h;cases ry
 rcases hq with hq | hq
 ·obtain ⟨its,r,pl,hz⟩:=I.list hq;refine SeqAt.notIn_listAt (eqU x) pl.isList (λ w hw=>q83 rx J r fs w (by simpa using hw)) ⟨.bl _,H,I,zr,?_⟩;rw [show its.toArray.any (eqU x)=its.any (eqU x) by simp,q9e r fs];exact q
 ·obtain ⟨its,r,pl,hz⟩:=I.tuple hq;refine SeqAt.notIn_tupleAt (eqU x) pl (λ w hw=>q83 rx J r fs w (by simpa using hw)) ⟨.bl _,H,I,zr,?_⟩;rw [show its.toArray.any (eqU x)=its.any (eqU x) by simp,q9e r fs];exact q
def qlb:q22 X (.type "list") (λ xs H Q=>∃ p ys,xs=[.ref p]/\(SqL X.K H p ys\/ SqT X.K H p ys)/\∀ l,H l=none ->Q (.ref l) (upd H l (.lst ys))):=by
 intro xC s σ H xs us Q I r h;obtain ⟨p,ys,rfl,hq,q⟩:=h;obtain ⟨u,rfl,rx⟩:=q33 r;cases rx
 have fin:∀ (its:xH),Vals ys its ->ys.length<=sizeLine ->∀ (h':Heap) (c':Nat),(∀ b o',s.heap.get? b=some o' ->h'.get? b=some o') ->
   h'.get? s.heap.objs.size=some {cls:= .type "list",dict:=none,data:= .seq its.toArray c',slots:=#[]} ->EP X xC σ Q (.ref s.heap.objs.size) {s with heap:=h'}:=λ its J hz h' c' kp e=>
  ⟨.ref s.heap.objs.size,_,I.laid (t':=s.toks) kp (z48 _) (show ObjOk X.prog X.w _ h' _ (.lst ys) from ⟨hz,its,c',J,e⟩),rfl,q _ (I.hok.fresh (z48 _))⟩
 rcases hq with hq | hq
 ·obtain ⟨its,J,pl,hz⟩:=I.list hq;have O:=J.length;obtain ⟨o,ho,Z,n,hd⟩:=pl.isList;exact call_list_seq p (.inl rfl) ho Z hd (λ h' c' kp e=>fin its J hz h' c' kp e) (by simp only [z23] <;> lia)
 ·obtain ⟨its,J,pl,hz⟩:=I.tuple hq;have O:=J.length;obtain ⟨o,ho,Z,n,hd⟩:=pl;exact call_list_seq p (.inr rfl) ho Z hd (λ h' c' kp e=>fin its J hz h' c' kp e) (by simp only [z23] <;> lia)
def qj0:q22 X (.type "tuple") (λ xs H Q=>∃ p ys,xs=[.ref p]/\((SqL X.K H p ys/\∀ l,H l=none ->Q (.ref l) (upd H l (.tup ys)))\/ (SqT X.K H p ys/\Q (.ref p) H))):=by
 intro xC s σ H xs us Q I r h;obtain ⟨p,ys,rfl,h⟩:=h;obtain ⟨u,rfl,rx⟩:=q33 r;cases rx
 rcases h with ⟨hq,q⟩ | ⟨hq,q⟩
 ·obtain ⟨its,J,pl,hz⟩:=I.list hq;have O:=J.length;refine call_tuple_list pl.isList (λ h' kp=> ?_) (by simp only [z23] <;> lia);have I1:Inv X xC σ H {s with heap:=h'}:=I.kept (t':=s.toks) kp;have I2:Inv X xC σ (upd H h'.objs.size (.tup ys)) {s with heap:=h'.push {cls:= .type "tuple",data:= .seq its.toArray}}:=
   I1.laid (t':=s.toks) (λ b o e=>z0o _ e) (z48 _) (show ObjOk X.prog X.w _ _ _ (.tup ys) from ⟨hz,its,J,IsTup.new _ _⟩)
  exact ⟨.ref h'.objs.size,_,I2,zr,q _ (I1.hok.fresh (z48 _))⟩
 ·obtain ⟨its,J,pl,hz⟩:=I.tuple hq;exact call_tuple_same pl ⟨.ref p,H,I,zr,q⟩
def tyV (K:xA) (T:String) (x:V) (H:Hp):Prop:=match x with
 | .str _=>T="str"
 | .int _=>T="int"
 | .ref p=>(T="list"/\∃ xs,SqL K H p xs)\/ (T="tuple"/\∃ o,K.lookup p=some o/\o.cls= .type "tuple"/\o.dict=none)\/
   (T="dict"/\((∃ kvs,H p=some (.dK kvs))\/ ∃ kvs,H p=some (.dT kvs)))\/ (T="set"/\∃ S n,H p=some (.set S n))
 | _=>False
def qs2 {xC:xG} {σ:St} {H:Hp} {s:Shared} {T:String} {x:V} {v:Value} (I:Inv X xC σ H s) (r:RelV x v) (ty:tyV X.K T x H):
    s.TypeIs v T/\∀ a,v= .ref a ->∃ J,s.heap.get? a=some J/\J.dict=none:=by
  cases x with
  | str z=>
    obtain ⟨t,rfl⟩:=r;cases (show T="str" from ty)
    exact ⟨typeIs_str s z t,λ _ e=>nomatch e⟩
  | int i=>
    obtain ⟨t,rfl⟩:=r;cases (show T="int" from ty)
    exact ⟨typeIs_int s i t,λ _ e=>nomatch e⟩
  | ref p=>
    cases r
    rcases ty with ⟨rfl,xs,hq⟩ | ⟨rfl,o,hk,hc,hd⟩ | ⟨rfl,hk⟩ | ⟨rfl,S,n,hk⟩
    · obtain ⟨its,_,pl,_⟩:=I.list hq
      refine ⟨pl.isList.typeIs,λ a e=> ?_⟩;cases e
      obtain ⟨o,n,e,c,hd,_⟩:=pl;exact ⟨o,e,hd⟩
    · refine ⟨⟨o,I.kIn p o hk,hc⟩,λ a e=> ?_⟩
      cases e
      exact ⟨o,I.kIn _ o hk,hd⟩
    · have z:∃ o,s.heap.get? p=some o/\o.ExactDict:=by
        rcases hk with ⟨kvs,hk⟩ | ⟨kvs,hk⟩
        · obtain ⟨_,_,_,_,o,_,_,e,ex,_⟩:=I.hok p _ hk
          exact ⟨o,e,ex⟩
        · obtain ⟨_,_,_,_,o,_,_,e,ex,_⟩:=I.hok p _ hk
          exact ⟨o,e,ex⟩
      obtain ⟨o,e,ex⟩:=z;refine ⟨⟨o,e,ex.1⟩,λ a e2=> ?_⟩;cases e2
      exact ⟨o,e,ex.2.1⟩
    · obtain ⟨o,_,_,_,e,ex,_⟩:=I.hok p _ hk
      refine ⟨⟨o,e,ex.1⟩,λ a e2=> ?_⟩;cases e2
      exact ⟨o,e,ex.2.1⟩
  | _=>exact False.elim ty
def tBM0 (K:xA) (T:String) (r:V ->List V ->Hp ->VK ->Prop) (to:TE):TE:=λ σ H Q=>to σ H λ x H1=>tyV K T x H1/\r x [] H1 Q
def tBM (K:xA) (T:String) (r:V ->List V ->Hp ->VK ->Prop) (to:TE) (t:TA):TE:=λ σ H Q=>to σ H λ x H1=>tyV K T x H1/\t σ H1 λ xs H2=>r x xs H2 Q
variable {o e:Expr} {es:List Expr} {to:TE} {t:TA} {name:Str} {apos cpos:Pos} {T id:String} {r:V ->List V ->Hp ->VK ->Prop}
def q10i (pa:PlainAttrs T) (slot:Slot T name id) (Z:typeOf (.builtin id)=pure (.type "method_descriptor")) (hm:MtR X id r) (ho:PE X o to)
  (J:attributeBase o name X.env (eval o X.env)=eval o X.env:=by rfl) (O:(apos.endLine==cpos.line)=true:=by rfl):PE X (.Call (.Attribute o name apos) [] [] cpos) (tBM0 X.K T r to):=by
 intro xC s σ H Q I h;refine wpAny_Call_method0_late J O (thn (ho xC s σ H _ I h) λ v s1 a0=> ?_);obtain ⟨x,H1,I1,r1,ty,q1⟩:=a0;obtain ⟨h1,h2⟩:=qs2 I1 r1 ty;exact ⟨T,id,pa,slot,Z,h1,h2,Calls.callWith_builtin rfl (PySem.evalArgs_none (hm xC s1 σ H1 x [] v [] Q I1 r1 .nil q1))⟩
def q7s (pa:PlainAttrs T) (slot:Slot T name id) (a1:typeOf (.builtin id)=pure (.type "method_descriptor")) (hm:MtR X id r) (ho:PE X o to) (ha:PA X (e::es) t)
  (O:attributeBase o name X.env (eval o X.env)=eval o X.env:=by rfl)
  (a0:((backTo cpos (starEach (e::es) X.env)).all (λ x=> !x.1)&&(backToKw cpos (keywordEach [] X.env)).all (λ x=>x.1.isSome)
   &&decide ((e::es).length+([]:List Keyword).length+(if ([]:List Keyword).isEmpty then 0 else 1) < 30))=true:=by rfl)
  (Z:(apos.endLine==cpos.line)=true:=by rfl) (hs:starEach (e::es) X.env=(false,eval e X.env)::starEach es X.env:=by rfl) (J:(backTo cpos (starEach es X.env)).any (·.1)=false:=by rfl):
  PE X (.Call (.Attribute o name apos) (e::es) [] cpos) (tBM X.K T r to t):=by
 intro xC s σ H Q I h;refine wpAny_Call_method_late O a0 Z rfl (thn (ho xC s σ H _ I h) λ v s1 a2=> ?_);obtain ⟨x,H1,I1,r1,ty,q1⟩:=a2;obtain ⟨h1,h2⟩:=qs2 I1 r1 ty;refine ⟨T,id,pa,slot,a1,h1,h2,?_⟩;have hA:=ha cpos xC s1 σ H1 _ I1 q1;rw [hs] at hA ⊢;refine Calls.callWith_builtin (by show (false || (backTo cpos (starEach es X.env)).any (·.1))=false;rw [J] <;> rfl) (Calls.evalArgs_plain ?_);exact thn hA λ us s2 ⟨vs,H2,I2,r2,q2⟩=>hm xC s2 σ H2 x vs v us Q I2 r1 r2 q2
end
def MtM (X:Cx) (id:String) (r:V ->List V ->Hp ->VK ->Prop):Prop:=
 ∀ (xC:xG) (s:Shared) (σ:St) (H:Hp) (x:V) (xs:List V) (v:Value) (us:xH) (Q:VK),Inv X xC σ H s ->RelV x v ->Vals xs us ->r x xs H Q ->
  wpAny (model X.prog X.w) X.A (call (.builtin id) (v::us)) (EP X xC σ Q) X.xe s
def Vals.one:∀ {x:V} {us:xH},Vals [x] us ->∃ u,us=[u]/\RelV x u
 | _,_,.cons r .nil=>⟨_,rfl,r⟩
def Vals.zero:∀ {us:xH},Vals [] us ->us=[]
 | _,.nil=>rfl
theorem Vals.dropLast {xs:List V} {us:xH} (h:Vals xs us):Vals xs.dropLast us.dropLast:=by
 induction h with
 | nil=>exact .nil
 | cons r t ih=>
  cases t with
  | nil=>exact .nil
  | cons q t'=>exact .cons r ih
theorem Vals.rep {xs:List V} {us:xH} (h:Vals xs us):∀ k:Nat,Vals (List.replicate k xs).flatten (List.replicate k us).flatten
 | 0=> .nil
 | k+1=>by
  rw [z1e,z1e,z27,z27];exact Vals.append h (Vals.rep h k)
def qq5 {α:Type} (l:List α):l.eraseIdx (l.length - 1)=l.dropLast:=by
 induction l with
 | nil=>rfl
 | cons a r ih=>
  cases r with
  | nil=>rfl
  | cons b r=>
   have e:(a::b::r).length - 1=((b::r).length - 1)+1:=by
    have h1:(a::b::r).length=r.length+2:=rfl;have h2:(b::r).length=r.length+1:=rfl
    lia
   rw [e,List.eraseIdx_cons_succ,ih]
   all_goals rfl
theorem qi3 (its:xH):∀ (k:Nat) (acc:xH),
  List.foldl (λ x1 x2=>x1++x2) acc.toArray (List.replicate k its.toArray)=(acc++(List.replicate k its).flatten).toArray
 | 0,acc=>by simp
 | k+1,acc=>by
  have e:acc.toArray++its.toArray=(acc++its).toArray:=by simp
  have e2:(acc++its)++(List.replicate k its).flatten=acc++(List.replicate (k+1) its).flatten:=by
   rw [z1e,z27,z1y]
  rw [<- e2,<- qi3 its k (acc++its),<- e,z1e,List.foldl_cons]
section
variable {X:Cx} {xC:xG} {σ:St} {H:Hp} {s:Shared} {l b:Addr} {xs ys zs:List V}
def Inv.lset {its its':xH} {n:Nat} {f:Array Value ->Array Value} {t':Nat} (I:Inv X xC σ H s) (hH:H l=some (.lst xs))
  (e:s.heap.get? l=some {cls:= .type "list",data:= .seq its.toArray n}) (hf:f its.toArray=its'.toArray) (hv:Vals ys its') (hz:ys.length<=sizeLine):
  Inv X xC σ (upd H l (.lst ys)) {s with heap:=s.heap.update l (Obj.mapSeq f),toks:=t'}:=by
 have q:=PySem.IsL.update e f;rw [hf] at q;refine I.write (x:=l) (e:=l) (by rw [hH];exact trivial) (.inl rfl) (λ b' u hb hu=>(z0p s.heap (Obj.mapSeq f) (Ne.symm hb)).trans hu) ⟨_,q⟩ ?_;exact ⟨hz,its',_,hv,q⟩
def Inv.lnew {its:xH} {t':Nat} (I:Inv X xC σ H s) (hv:Vals ys its) (hz:ys.length<=sizeLine):
  Inv X xC σ (upd H s.heap.objs.size (.lst ys)) {s with heap:=s.heap.push {cls:= .type "list",data:= .seq its.toArray},toks:=t'}:=
 I.laid (λ _ _ q=>z0o _ q) (z48 _) ⟨hz,its,0,hv,z1c _ rfl⟩
theorem Inv.fresh (I:Inv X xC σ H s):H s.heap.objs.size=none:=I.hok.fresh (z48 _)
def Inv.lstM (I:Inv X xC σ H s) (hH:H l=some (.lst xs)):xs.length<=sizeLine/\∃ (its:xH) (n:Nat),Vals xs its/\xs.length=its.length/\s.heap.get? l=some {cls:= .type "list",data:= .seq its.toArray n}:=by
 obtain ⟨z,its,n,r,e⟩:=I.hok l _ hH;exact ⟨z,its,n,r,r.length,e⟩
def qlc {n:Nat} (h:n<=sizeLine):Builtin.List.listTooLong n=false:=by
 unfold Builtin.List.listTooLong;exact z2w (by lia)
end
section
variable {X:Cx}
def qy7:V ->List V ->Hp ->VK ->Prop:=λ x vs H Q=>∃ l xs y,x= .ref l/\vs=[y]/\H l=some (.lst xs)/\xs.length < sizeLine/\Q .non (upd H l (.lst (xs++ [y])))
def q6x:MtM X "list.append" qy7:=by
 intro xC s σ H x vs v us Q I rx rv h;obtain ⟨l,xs,y,rfl,rfl,J,hz,q⟩:=h;cases rx
 obtain ⟨u,rfl,ru⟩:=rv.one;obtain ⟨z,its,n,r,hl,e⟩:=I.lstM J;refine call_meets F.slot_list_append ⟨_,e,rfl⟩ F.entry_list_append (F.args_list_append_2 _ _) (PySem.list_append l its.toArray n u (by rw [z23];lia)) ⟨e,?_⟩;refine ⟨.non,_,I.lset (its':=its++ [u]) J e (by simp) (r.append (.cons ru .nil)) ?_,zr,q⟩;rw [z1o,z0y]
 lia
def qy8:V ->List V ->Hp ->VK ->Prop:=λ x vs H Q=>∃ l b xs zs,x= .ref l/\vs=[.ref b]/\H l=some (.lst xs)/\H b=some (.lst zs)/\xs.length+zs.length<=sizeLine/\Q .non (upd H l (.lst (xs++zs)))
def q6y:MtM X "list.extend" qy8:=by
 intro xC s σ H x vs v us Q I rx rv h;obtain ⟨l,b,xs,zs,rfl,rfl,Z,hB,hz,q⟩:=h;cases rx
 obtain ⟨u,rfl,ru⟩:=rv.one;cases ru
 obtain ⟨z,its,n,r,hl,e⟩:=I.lstM Z;obtain ⟨z2,J,n2,r2,hl2,e2⟩:=I.lstM hB;have hsz:its.toArray.size+J.toArray.size<=sizeLine:=by rw [z23,z23];lia
 have O:¬ (!its.toArray.isEmpty&&Builtin.List.listTooLong (its.toArray.size+J.toArray.size))=true:=by
  rw [qlc hsz,Bool.and_false];exact z1l
 refine call_meets F.slot_list_extend ⟨_,e,zr⟩ F.entry_list_extend (F.args_list_extend_2 _ _)
  (AutoSeq1.list_extend_list_list_0 l its.toArray n b J.toArray n2 O (by rw [z23];lia) (by lia)) ⟨e,e2,?_⟩
 refine ⟨.non,_,I.lset (its':=its++J) Z e (by simp) (r.append r2) ?_,zr,q⟩;rw [z1o]
 lia
def rPop:V ->List V ->Hp ->VK ->Prop:=λ x vs H Q=>∃ l xs y,x= .ref l/\vs=[]/\H l=some (.lst xs)/\xs[xs.length - 1]? =some y/\Q y (upd H l (.lst xs.dropLast))
def q10j:MtM X "list.pop" rPop:=by
 intro xC s σ H x vs v us Q I rx rv h;obtain ⟨l,xs,y,rfl,rfl,Z,hy,q⟩:=h;cases rx
 have J:=rv.zero;subst J;obtain ⟨z,its,n,r,hl,e⟩:=I.lstM Z;obtain ⟨u,hu,ru⟩:=r.get hy;have O:its.toArray[its.toArray.size - 1]? =some u:=by
  show its.toArray[its.length - 1]? =some u;rw [<- z0x,<- hl];exact hu
 refine call_meets F.slot_list_pop ⟨_,e,rfl⟩ F.entry_list_pop (F.args_list_pop_1 _) (MeetsSeq.list_pop_last l its.toArray n u O (by rw [z23];lia)) ⟨e,?_⟩;refine ⟨y,_,I.lset (its':=its.dropLast) Z e ?_ r.dropLast ?_,ru,q⟩
 ·show its.toArray.eraseIdxIfInBounds (its.toArray.size - 1)=its.dropLast.toArray;rw [z23,List.eraseIdxIfInBounds_toArray,qq5]
 ·rw [List.length_dropLast]
  lia
def rCat:R2:=λ x y H Q=>∃ l b xs zs,x= .ref l/\y= .ref b/\H l=some (.lst xs)/\H b=some (.lst zs)/\xs.length+zs.length<=sizeLine/\∀ p,H p=none ->Q (.ref p) (upd H p (.lst (xs++zs)))
def qld:OpR X (binaryOp .Add) rCat:=by
 intro xC s σ H x y v u Q I rx ry h;obtain ⟨l,b,xs,zs,rfl,rfl,hH,hB,hz,q⟩:=h;cases rx
 cases ry
 obtain ⟨z,its,n,r,hl,e⟩:=I.lstM hH;obtain ⟨z2,J,n2,r2,hl2,e2⟩:=I.lstM hB;refine PySem.P.add_list e e2 ?_ (by rw [z23,z23];lia);have ea:its.toArray++J.toArray=(its++J).toArray:=by simp
 rw [ea];exact ⟨.ref _,_,I.lnew (t':=s.toks) (r.append r2) (by rw [z1o];lia),rfl,q _ I.fresh⟩
def rRep:R2:=λ x y H Q=>∃ l k xs,x= .ref l/\y= .int k/\H l=some (.lst xs)/\ -(2^63)<=k/\k < 2^63/\xs.length*k.toNat<=sizeLine/\
 ∀ p,H p=none ->Q (.ref p) (upd H p (.lst (List.replicate k.toNat xs).flatten))
def qy9 {α:Type} (xs:List α) (k:Nat):(List.replicate k xs).flatten.length=k*xs.length:=by
 induction k with
 | zero=>simp
 | succ k ih=>rw [z1e,z27,z1o,ih,Nat.succ_mul,Nat.add_comm]
def q10k:OpR X (binaryOp .Mult) rRep:=by
 intro xC s σ H x y v u Q I rx ry h;obtain ⟨l,k,xs,rfl,rfl,hH,h1,h2,hz,q⟩:=h;cases rx
 obtain ⟨t,rfl⟩:=ry;obtain ⟨z,its,n,r,hl,e⟩:=I.lstM hH;have a0:its.toArray.size*k.toNat<=sizeLine:=by rw [z23,<- hl];exact hz
 have O:¬ its.toArray.size*k.toNat > (2^63 - 1) / 8:=by
  have:(sizeLine:Nat)<=(2^63 - 1) / 8:=by decide
  lia
 have Z:¬ (!Builtin.List.listFitsIndex k)=true:=by
  rw [fitsIndex_both h1 h2];exact z1l
 have J:¬ Builtin.List.listTooLong (its.toArray.size*k.toNat)=true:=by
  rw [qlc a0];exact z1l
 have a1:List.foldl (λ x1 x2=>x1++x2) #[] (List.replicate (if its.toArray.isEmpty=true then 0 else k.toNat) its.toArray)=(List.replicate k.toNat its).flatten.toArray:=by
  have f0:∀ m:Nat,List.foldl (λ x1 x2=>x1++x2) #[] (List.replicate m its.toArray)=(List.replicate m its).flatten.toArray:=λ m=>by
   have:=qi3 its m [];rw [List.nil_append] at this;exact this
  rw [f0];cases its with
  | nil=>simp
  | cons a r'=>rw [if_neg (by simp)]
 refine wpAny_binaryOp_repeat_ref (T:="list") (U:="int") (by decide) ⟨_,e,zr⟩ (λ s'=>typeIs_int s' k t) noFill_list_mul F.fills_int_mul F.slot_int_rmul repeat_list F.slot_int_index.lookup
  (call_meets F.slot_int_rmul (typeIs_int s k t) F.entry_int_rmul (F.args_int_rmul_2 _ _) (int___rmul___int_list k t l its.toArray n)
   ⟨e,rfl,⟨_,e,rfl⟩,call_meets F.slot_list_mul ⟨_,e,rfl⟩ F.entry_list_mul (F.args_list_mul_2 _ _) (AutoListH.list___mul___list_int_3 l its.toArray n k t Z O J) ⟨e,?_⟩⟩)
 rw [a1];exact ⟨.ref _,_,I.lnew (t':=s.toks) (r.rep k.toNat) (by rw [qy9,Nat.mul_comm];exact hz),rfl,q _ I.fresh⟩
end
section
variable {prog:Program} {w:World} {A:Around} {E:xB} {s:Shared}
end
section
variable {X:Cx}
end
section
variable {κ:Type} [DecidableEq κ]
def valV (kvs:List (κ×V)) (k:κ):Option V:=(kvs.find? λ kv=>decide (kv.1=k)).map (·.2)
def putK (kvs:List (κ×V)) (k:κ) (v:V):List (κ×V):=
 if (kvs.any λ kv=>decide (kv.1=k))=true then kvs.map (λ kv=>if kv.1=k then (kv.1,v) else kv) else kvs++ [(k,v)]
def q2u {p:κ×V} {r:List (κ×V)} {k:κ} (e:p.1=k):valV (p::r) k=some p.2:=by simp [valV,z33,e]
def q2v {p:κ×V} {r:List (κ×V)} {k:κ} (e:¬ p.1=k):valV (p::r) k=valV r k:=by simp [valV,z33,e]
theorem q84 (k:κ):∀ kvs:List (κ×V),(kvs.any λ kv=>decide (kv.1=k))=(valV kvs k).isSome
 | []=>rfl
 | p::r=>by
  rw [z3q];by_cases e:p.1=k
  ·simp only [q2u e,z3c e,Bool.true_or,Option.isSome_some]
  ·rw [q2v e,z2w e,Bool.false_or];exact q84 k r
theorem qle (k j:κ) (y:V):∀ kvs:List (κ×V),valV (kvs.map λ J=>if J.1=k then (J.1,y) else J) j=(valV kvs j).map λ x=>if j=k then y else x
 | []=>rfl
 | p::r=>by
  have O:=qle k j y r;rw [z3l];by_cases h:p.1=k
  ·rw [if_pos h];by_cases e:p.1=j
   ·rw [q2u (p:=(p.1,y)) e,q2u e,Option.map_some,if_pos (e.symm.trans h)]
   ·rw [q2v (p:=(p.1,y)) e,q2v e,O]
  ·rw [if_neg h];by_cases e:p.1=j
   ·rw [q2u (p:=p) e,q2u e,Option.map_some,if_neg (λ z=>h (e.trans z))]
   ·rw [q2v (p:=p) e,q2v e,O]
theorem qi4 (k j:κ) (y:V):∀ kvs:List (κ×V),valV kvs k=none ->valV (kvs++ [(k,y)]) j=if j=k then some y else valV kvs j
 | [],_=>by
  by_cases e:k=j
  ·rw [if_pos e.symm];exact q2u (p:=(k,y)) e
  ·rw [if_neg (λ z=>e z.symm)];exact q2v (p:=(k,y)) e
 | p::r,hn=>by
  rw [List.cons_append];have hk:¬ p.1=k:=λ z=>by rw [q2u z] at hn;cases hn
  rw [q2v hk] at hn;have ih:=qi4 k j y r hn;by_cases e:p.1=j
  ·rw [q2u e,q2u e,if_neg (λ z=>hk (e.trans z))]
  ·rw [q2v e,q2v e,ih]
def q47 (kvs:List (κ×V)) (k j:κ) (y:V):valV (putK kvs k y) j=if j=k then some y else valV kvs j:=by
 unfold putK;by_cases a:(kvs.any λ kv=>decide (kv.1=k))=true
 ·rw [if_pos a,qle];rw [q84] at a;by_cases e:j=k
  ·obtain ⟨x,hx⟩:=Option.isSome_iff_exists.mp a;rw [if_pos e,e,hx,Option.map_some,if_pos rfl]
  ·rw [if_neg e];cases valV kvs j with
   | none=>rfl
   | some x=>rw [Option.map_some,if_neg e]
 ·rw [if_neg a];refine qi4 k j y kvs ?_;rw [q84] at a;cases q:valV kvs k with
  | none=>rfl
  | some x=>rw [q] at a;exact (a rfl).elim
def q41 (kvs:List (κ×V)) (k:κ) (v:V):(putK kvs k v).length<=kvs.length+1:=by
 unfold putK;split
 ·rw [z30];lia
 ·rw [z1o,z2i,z34];lia
def qut {kvs:List (κ×V)} {k:κ} (v:V) (h:valV kvs k=none):putK kvs k v=kvs++ [(k,v)]:=by
 unfold putK;rw [q84,h];exact if_neg (by decide)
def RelO.q6z {o:Option V} {u:Option Value} (r:RelO o u):o.isSome=u.isSome:=by
 cases o with
 | none=>cases u with
  | none=>rfl
  | some _=>exact (show False from r).elim
 | some _=>cases u with
  | none=>exact (show False from r).elim
  | some _=>rfl
theorem RelO.getD {o:Option V} {u:Option Value} {d:V} {d':Value} (r:RelO o u) (rd:RelV d d'):RelV (o.getD d) (u.getD d'):=by
 cases o with
 | none=>cases u with
  | none=>exact rd
  | some _=>exact (show False from r).elim
 | some _=>cases u with
  | none=>exact (show False from r).elim
  | some _=>exact r
def KV.val {kvs:List (κ×V)} {vs:List (κ×Value)} (r:KV kvs vs) (k:κ):RelO (valV kvs k) (valueAt vs k):=by
 unfold KV at r
 induction r with
 | nil=>exact True.intro
 | @cons p q ps J h t ih=>
  obtain ⟨h1,h2⟩:=h;by_cases e:p.1=k
  ·have e':q.1=k:=h1.symm.trans e;have b:valueAt (q::J) k=some q.2:=by simp [valueAt,z33,e']
   rw [q2u e,b];exact h2
  ·have e':¬ q.1=k:=λ z=>e (h1.trans z);have b:valueAt (q::J) k=valueAt J k:=by simp [valueAt,z33,e']
   rw [q2v e,b];exact ih
theorem KV.any {kvs:List (κ×V)} {vs:List (κ×Value)} (r:KV kvs vs) (k:κ):(kvs.any λ J=>decide (J.1=k))=vs.any λ J=>decide (J.1=k):=by
 unfold KV at r
 induction r with
 | nil=>rfl
 | cons h t ih=>rw [z3q,z3q,ih,h.1]
def KV.repl {kvs:List (κ×V)} {vs:List (κ×Value)} (r:KV kvs vs) (k:κ) {y:V} {u:Value} (ry:RelV y u):
  KV (kvs.map λ J=>if J.1=k then (J.1,y) else J) (vs.map λ J=>if J.1=k then (J.1,u) else J):=by
 unfold KV at r ⊢
 induction r with
 | nil=>exact .nil
 | @cons p q ps qs h t ih=>
  rw [z3l,z3l];refine .cons ?_ ih;obtain ⟨h1,h2⟩:=h;by_cases e:p.1=k
  ·rw [if_pos e,if_pos (h1.symm.trans e)];exact ⟨h1,ry⟩
  ·rw [if_neg e,if_neg (λ z=>e (h1.trans z))];exact ⟨h1,h2⟩
def KV.put {kvs:List (κ×V)} {vs:List (κ×Value)} (r:KV kvs vs) (k:κ) {y:V} {u:Value} (ry:RelV y u):KV (putK kvs k y) (stored vs k u):=by
 unfold putK stored;rw [r.any k];by_cases e:(vs.any λ kv=>decide (kv.1=k))=true
 ·rw [if_pos e,if_pos e];exact r.repl k ry
 ·rw [if_neg e,if_neg e];exact Paired.snoc r ⟨rfl,ry⟩
theorem KV.length {kvs:List (κ×V)} {vs:List (κ×Value)} (r:KV kvs vs):kvs.length=vs.length:=Paired.length r
end
def q9x {P:Program} {w:World} {k:Key} {u:Value} (r:RelV (kV k) u):(q17 P w).is k u=true:=by
 cases k with
 | inl i=>obtain ⟨t,e⟩:=(show ∃ t,u=Value.int i t from r);subst e;exact qnm P w i t
 | inr x=>obtain ⟨t,e⟩:=(show ∃ t,u=Value.str x t from r);subst e;exact qd7 P w x t
theorem qi5 {P:Program} {w:World}:∀ {ks:List Key} {us:xH},Vals (ks.map kV) us ->ItemsAre (q17 P w) ks us
 | [],_,r=>by rw [z44] at r;cases r;exact .nil
 | k::ks,_,r=>by
  rw [z3l] at r;cases r with
  | cons h t=>exact .cons (q9x h) (qi5 t)
abbrev KT (H:Hp):List (List Key×V) ->List (List Key×Addr×Value) ->Prop:=Paired λ p q=>p.1=q.1/\H q.2.1=some (.tup (p.1.map kV))/\RelV p.2 q.2.2
def KT.val {H:Hp} {kvs:List (List Key×V)} {xs:List (List Key×Addr×Value)} (r:KT H kvs xs) (k:List Key):RelO (valV kvs k) ((atKey xs k).map (·.2)):=by
 induction r with
 | nil=>exact True.intro
 | @cons p q ps J h t ih=>
  obtain ⟨h1,_,h2⟩:=h;by_cases e:p.1=k
  ·have e':q.1=k:=h1.symm.trans e;have b:atKey (q::J) k=some q.2:=by simp [atKey,z33,e']
   rw [q2u e,b];exact h2
  ·have e':¬ q.1=k:=λ z=>e (h1.trans z);have b:atKey (q::J) k=atKey J k:=by simp [atKey,z33,e']
   rw [q2v e,b];exact ih
def KT.repl {H:Hp} {kvs:List (List Key×V)} {xs:List (List Key×Addr×Value)} (r:KT H kvs xs) (k:List Key) {y:V} {u:Value} (ry:RelV y u):
  KT H (kvs.map λ J=>if J.1=k then (J.1,y) else J) (xs.map (putAt k u)):=by
 induction r with
 | nil=>exact .nil
 | @cons p q ps qs h t ih=>
  rw [z3l,z3l];refine .cons ?_ ih;obtain ⟨h1,h2,h3⟩:=h;unfold putAt;by_cases e:p.1=k
  ·rw [if_pos e,if_pos (h1.symm.trans e)];exact ⟨h1,h2,ry⟩
  ·rw [if_neg e,if_neg (λ z=>e (h1.trans z))];exact ⟨h1,h2,h3⟩
def KT.put {H:Hp} {kvs:List (List Key×V)} {xs:List (List Key×Addr×Value)} (r:KT H kvs xs) (k:List Key) {b:Addr} {y:V} {u:Value} (hb:H b=some (.tup (k.map kV))) (ry:RelV y u):
  KT H (putK kvs k y) (storedH xs k b u):=by
 have e:(kvs.any λ kv=>decide (kv.1=k))=(atKey xs k).isSome:=by
  rw [q84,(r.val k).q6z,Option.isSome_map]
 unfold putK storedH;rw [e];by_cases q:(atKey xs k).isSome=true
 ·rw [if_pos q,if_pos q];exact r.repl k ry
 ·rw [if_neg q,if_neg q];exact Paired.snoc r ⟨rfl,hb,ry⟩
def KT.keeps {H H':Hp} {kvs:List (List Key×V)} {xs:List (List Key×Addr×Value)} (r:KT H kvs xs) (ht:∀ b ys,H b=some (.tup ys) ->H' b=some (.tup ys)):KT H' kvs xs:=
 Paired.mapP r λ _ _ z=>⟨z.1,ht _ _ z.2.1,z.2.2⟩
section
variable {P:Program} {w:World} {H:Hp} {h:Heap} {a:Addr}
def qx6 {u:HO} (ok:HOk P w H h) (e:Rd H a u):ObjOk P w H h a u:=e.ok ok
def q8w {kvs:List (Key×V)} (ok:HOk P w H h) (e:Rd H a (.dK kvs)):kvs.length<=sizeLine/\(a==sysModules)=false/\∃ vs,KV kvs vs/\h.DictOf (q17 P w) a vs:=
 show ObjOk P w H h a (.dK kvs) from qx6 ok e
def qx7 {kvs:List (Key×V)} (ok:HOk P w H h) (e:H a=some (.dK kvs)):kvs.length<=sizeLine/\(a==sysModules)=false/\∃ vs,KV kvs vs/\h.DictOf (q17 P w) a vs:=q8w ok (.inl e)
def q9f {ks:List Key} (ok:HOk P w H h) (e:H a=some (.tup (ks.map kV))):(tupleKind (q17 P w)).is h ks a:=by
 obtain ⟨_,its,r,o,h1,h2,n,h3⟩:=(show ObjOk P w H h a (.tup (ks.map kV)) from ok a _ e);exact ⟨o,its.toArray,n,h1,h2,h3,by simpa using qi5 r⟩
def q9y {kvs:List (List Key×V)} (ok:HOk P w H h) (e:Rd H a (.dT kvs)):kvs.length<=sizeLine/\(a==sysModules)=false/\
  ∃ xs,KT H kvs xs/\h.DictOfH (tupleKind (q17 P w)) a xs:=by
 obtain ⟨z,y,xs,r,o,es,ep,h1,h2,h3,h4,h5⟩:=(show ObjOk P w H h a (.dT kvs) from qx6 ok e);refine ⟨z,y,xs,r,o,es,ep,h1,h2,h3,h4,λ x hx=> ?_,h5⟩;have all:∀ {l:List (List Key×V)} {m:List (List Key×Addr×Value)},KT H l m ->∀ x∈m,(tupleKind (q17 P w)).is h x.1 x.2.1:=by
  intro l m q
  induction q with
  | nil=>intro x hx;exact nomatch hx
  | @cons p q ps qs hq t ih=>
   intro x hx;rcases z3n.mp hx with e | hx
   ·subst e;exact q9f ok (by rw [<- hq.1];exact hq.2.1)
   ·exact ih x hx
 exact all r x hx
def q12o {kvs:List (List Key×V)} (ok:HOk P w H h) (e:H a=some (.dT kvs)):kvs.length<=sizeLine/\(a==sysModules)=false/\
  ∃ xs,KT H kvs xs/\h.DictOfH (tupleKind (q17 P w)) a xs:=q9y ok (.inl e)
end
def DGet (H:Hp) (a:Addr) (y:V) (r:Option V):Prop:=
 (∃ kvs k,Rd H a (.dK kvs)/\y=kV k/\r=valV kvs k)\/ ∃ kvs k b,Rd H a (.dT kvs)/\y= .ref b/\H b=some (.tup (k.map kV))/\r=valV kvs k
def DPut (H:Hp) (a:Addr) (y v:V) (H':Hp):Prop:=
 (∃ kvs k,H a=some (.dK kvs)/\y=kV k/\kvs.length < sizeLine/\H'=upd H a (.dK (putK kvs k v)))\/
 ∃ kvs k b,H a=some (.dT kvs)/\y= .ref b/\H b=some (.tup (k.map kV))/\kvs.length < sizeLine/\H'=upd H a (.dT (putK kvs k v))
theorem DGet.k {H:Hp} {a:Addr} {kvs:List (Key×V)} {k:Key} (e:H a=some (.dK kvs)):DGet H a (kV k) (valV kvs k):= .inl ⟨kvs,k,.inl e,rfl,rfl⟩
def DGet.t {H:Hp} {a b:Addr} {kvs:List (List Key×V)} {k:List Key} (e:H a=some (.dT kvs)) (eb:H b=some (.tup (k.map kV))):DGet H a (.ref b) (valV kvs k):= .inr ⟨kvs,k,b,.inl e,rfl,eb,rfl⟩
theorem DPut.k {H:Hp} {a:Addr} {kvs:List (Key×V)} {k:Key} {v:V} (e:H a=some (.dK kvs)) (hl:kvs.length < sizeLine):DPut H a (kV k) v (upd H a (.dK (putK kvs k v))):= .inl ⟨kvs,k,e,rfl,hl,rfl⟩
def DPut.t {H:Hp} {a b:Addr} {kvs:List (List Key×V)} {k:List Key} {v:V} (e:H a=some (.dT kvs)) (eb:H b=some (.tup (k.map kV))) (hl:kvs.length < sizeLine):
  DPut H a (.ref b) v (upd H a (.dT (putK kvs k v))):= .inr ⟨kvs,k,b,e,rfl,eb,hl,rfl⟩
section
variable {X:Cx} {xC:xG} {σ:St} {H:Hp} {s:Shared} {a:Addr} {y v:V} {u r:Value} {o:Option V} {A:Around} {E:xB}
def Inv.big (I:Inv X xC σ H s):sysModules < s.heap.objs.size:=by
 have h:mainGlobals < s.heap.objs.size:=(I.mod.glob.keeps I.bk).lt;exact Nat.lt_trans (by decide) h
def qs3 {Q:xB} (hu:A.units+1 < cLine) (I:Inv X xC σ H s) (g:DGet H a y (some v)) (ry:RelV y u) (h:∀ Z s',Inv X xC σ H s' ->RelV v Z ->Q Z s'):
  wpAny (model X.prog X.w) A (getItem (.ref a) u) Q E s:=by
 rcases g with ⟨kvs,k,e,ey,l⟩ | ⟨kvs,k,b,e,ey,eb,l⟩
 ·subst ey;obtain ⟨z,hd,vs,J,dd⟩:=q8w I.hok e;obtain ⟨Z,hw,O⟩:=RelO.qgd (v:=v) (o:=valueAt vs k) (by rw [l];exact J.val k);exact wpAny_getItem_of (q9x ry) dd.mapOf hw (h Z _ (I.tok _) O)
 ·subst ey;cases (show u=Value.ref b from ry)
  obtain ⟨z,hd,xs,J,dd⟩:=q9y I.hok e;obtain ⟨Z,hw,O⟩:=RelO.qgd (v:=v) (o:=(atKey xs k).map (·.2)) (by rw [l];exact J.val k);obtain ⟨p,hp,a0⟩:=z0q.mp hw;refine wpAny_getItem_heap (tupleKind_room_in1 hu) (q9f I.hok eb) dd hp ?_;rw [a0];exact h Z _ (I.tok _) O
def d_in {Q:xB} (hu:A.units+1 < cLine) (I:Inv X xC σ H s) (g:DGet H a y o) (ry:RelV y u) (h:∀ s',Inv X xC σ H s' ->Q (.bool o.isSome) s'):
  wpAny (model X.prog X.w) A (compareOp .In u (.ref a)) Q E s:=by
 rcases g with ⟨kvs,k,e,ey,l⟩ | ⟨kvs,k,b,e,ey,eb,l⟩
 ·subst ey;obtain ⟨z,hd,vs,J,O⟩:=q8w I.hok e;refine wpAny_in_of (q9x ry) hd O.mapOf ?_;rw [<- (J.val k).q6z,<- l];exact h _ (I.tok _)
 ·subst ey;cases (show u=Value.ref b from ry)
  obtain ⟨z,hd,xs,J,O⟩:=q9y I.hok e;refine wpAny_in_heap (tupleKind_room_in1 hu) (q9f I.hok eb) hd O ?_;have q:=(J.val k).q6z;rw [Option.isSome_map] at q;rw [<- q,<- l];exact h _ (I.tok _)
def qya {Q:xB} (hu:A.units+1 < cLine) (I:Inv X xC σ H s) (g:DGet H a y o) (ry:RelV y u) (h:∀ s',Inv X xC σ H s' ->Q (.bool (!o.isSome)) s'):
  wpAny (model X.prog X.w) A (compareOp .NotIn u (.ref a)) Q E s:=by
 rcases g with ⟨kvs,k,e,ey,l⟩ | ⟨kvs,k,b,e,ey,eb,l⟩
 ·subst ey;obtain ⟨z,hd,vs,J,O⟩:=q8w I.hok e;refine wpAny_notIn_of (q9x ry) hd O.mapOf ?_;rw [<- (J.val k).q6z,<- l];exact h _ (I.tok _)
 ·subst ey;cases (show u=Value.ref b from ry)
  obtain ⟨z,hd,xs,J,O⟩:=q9y I.hok e;refine wpAny_notIn_heap (tupleKind_room_in1 hu) (q9f I.hok eb) hd O ?_;have q:=(J.val k).q6z;rw [Option.isSome_map] at q;rw [<- q,<- l];exact h _ (I.tok _)
def qgf {h':Heap} {t':Nat} {J:HO} (I:Inv X xC σ H s) (mu:Mut (H a)) (hs:Heap.SameBut a s.heap h') (he:∃ q,h'.get? a=some q) (new:ObjOk X.prog X.w (upd H a J) h' a J):
  Inv X xC σ (upd H a J) {s with heap:=h',toks:=t'}:=
 I.write (x:=a) (e:=a) mu (.inl rfl) (λ b q hb z=>(hs.2 b hb).trans z) he new
def qs4 {P:Program} {w:World} {H':Hp} {h':Heap} {kvs:List (Key×V)} {vs:List (Key×Value)} (z:kvs.length<=sizeLine) (hd:(a==sysModules)=false) (J:KV kvs vs) (dd:h'.DictOf (q17 P w) a vs):
  ObjOk P w H' h' a (.dK kvs):=⟨z,hd,vs,J,dd⟩
def qs5 {H':Hp} {Q:Unit ->Shared ->Prop} (hu:A.units+1 < cLine) (I:Inv X xC σ H s) (g:DPut H a y v H') (ry:RelV y u) (rv:RelV v r) (h:∀ s',Inv X xC σ H' s' ->Q () s'):
  wpAny (model X.prog X.w) A (setItem (.ref a) u r) Q E s:=by
 rcases g with ⟨kvs,k,e,ey,l,eH⟩ | ⟨kvs,k,b,e,ey,eb,l,eH⟩
 ·subst ey eH;obtain ⟨z,hd,vs,J,Z⟩:=qx7 I.hok e;have hz:vs.length<=sizeLine:=by rw [<- J.length];exact z
  have hl:(putK kvs k v).length<=sizeLine:=by have:=q41 kvs k v;lia
  refine wpAny_setItem_pairs (hsz:=hz) (q9x ry) Z λ h' O hs=>h _ ?_;have he:∃ q,h'.get? a=some q:=let ⟨q,_,_,hq,_⟩:=O;⟨q,hq⟩
  exact qgf I (by rw [e];exact True.intro) hs he (qs4 hl hd (J.put k rv) O)
 ·subst ey eH;cases (show u=Value.ref b from ry)
  obtain ⟨z,hd,xs,J,Z⟩:=q12o I.hok e;have hz:xs.length<=sizeLine:=by rw [<- Paired.length J];exact z
  have hl:(putK kvs k v).length<=sizeLine:=by have:=q41 kvs k v;lia
  refine wpAny_setItem_heap (hsz:=hz) (tupleKind_room_in1 hu) (q9f I.hok eb) Z λ h' O hs=>h _ ?_;obtain ⟨q,es,ep,hq,h2,h3,h4,_,h5⟩:=O;refine qgf I (by rw [e];exact True.intro) hs ⟨q,hq⟩ ⟨hl,hd,_,(J.put k eb rv).keeps λ c ys ec=> ?_,q,es,ep,hq,h2,h3,h4,h5⟩;rw [qh (q12e ec e (λ z=>nomatch z))];exact ec
end
section
variable {X:Cx} {xC:xG} {σ:St} {H:Hp} {s:Shared} {a:Addr} {kvs:List (Key×V)} {k:Key} {u:Value} {A:Around} {E:xB}
def q12p {Q:xB} (I:Inv X xC σ H s) (e:Rd H a (.dK kvs)) (h:∀ t s',Inv X xC σ H s' ->Q (.int kvs.length t) s'):wpAny (model X.prog X.w) A (call (.builtin "len") [.ref a]) Q E s:=by
 obtain ⟨z,hd,vs,J,dd⟩:=q8w I.hok e;refine call_len_dict hd dd (by rw [<- J.length];rw [sizeLine_eq] at z;lia) ?_;rw [<- J.length];exact h _ _ (I.tok _)
end
def NoSl (i:Expr):Prop:=∀ ov iv,subscripted i false ov iv=operate [ov,iv] (getItem ov iv)
def qyb {prog:Program} {w:World} {A:Around} {E:xB} {s:Shared} {env:Env} {value J:Expr} {pos:Pos} {T id:String} {Q:xB}
    (hl:typeLookup (.type T) "__getitem__"=pure (some (.builtin id))) (hs:NoSl J)
    (h:wpAny (model prog w) A (eval value env) (λ o s₁=>wpAny (model prog w) A (eval J env) (λ i O=>O.TypeIs o T/\wpAny (model prog w) A (getItem o i) Q E O) E s₁) E s):
    wpAny (model prog w) A (eval (.Subscript value J pos) env) Q E s:=by
  refine Subscript_ (z4g h (λ o s₁ h₁=>z4g h₁ (λ i O Z=> ?_) λ _ _ x=>x) λ _ _ x=>x);obtain ⟨hT,Z⟩:=Z;unfold subscriptTail;refine z4f ?_;rw [getitemInPython_of_ne hT.not_modules];refine z4f (wpAny_specialOf hT hl ?_);have fin:wpAny (model prog w) A (subscripted J false o i) (λ r s₃=>wpAny (model prog w) A (letTemporaryGo value o r >>=λ _=>pure r) Q E s₃) E O:=by
    rw [hs o i];exact wpAny_operating (z4g Z (λ r s₃ h₃=>z4f (wpAny_letTemporaryGo (z4e h₃))) λ _ _ x=>x)
  first
    | exact z4e (z4f fin)
    | exact z4f (z4e (z4f fin))
    | exact z4f fin
def qno {X:Cx} {xC:xG} {σ:St} {H:Hp} {s:Shared} {a:Addr} {y:V} {o:Option V} (I:Inv X xC σ H s) (g:DGet H a y o):s.TypeIs (.ref a) "dict":=by
 rcases g with ⟨kvs,k,e,_,_⟩ | ⟨kvs,k,b,e,_,_,_⟩
 ·obtain ⟨_,_,vs,_,J⟩:=q8w I.hok e;exact J.typeIs
 ·obtain ⟨_,_,xs,_,J⟩:=q9y I.hok e;exact J.typeIs
def q12q (td ty:TE):TE:=λ σ H Q=>td σ H λ x H1=>ty σ H1 λ y H2=>∃ a v,x= .ref a/\DGet H2 a y (some v)/\Q v H2
def tDIn (ty td:TE):TE:=λ σ H Q=>ty σ H λ y H1=>td σ H1 λ x H2=>∃ a o,x= .ref a/\DGet H2 a y o/\Q (.bl o.isSome) H2
def qyc (ty td:TE):TE:=λ σ H Q=>ty σ H λ y H1=>td σ H1 λ x H2=>∃ a o,x= .ref a/\DGet H2 a y o/\Q (.bl (!o.isSome)) H2
def q12r (td ty tv:TE):TS:=λ D σ H=>tv σ H λ v H1=>td σ H1 λ x H2=>ty σ H2 λ y H3=>∃ a H4,x= .ref a/\DPut H3 a y v H4/\D.nx σ H4
section
variable {X:Cx} {o i e value:Expr} {pos pos' tpos:Pos} {td ty tv:TE}
def q4p (hu:X.A.units+1 < cLine) (ho:PE X o td) (hi:PE X i ty) (hs:NoSl i):PE X (.Subscript o i pos) (q12q td ty):=by
 intro xC s σ H Q I h;refine qyb PySem.F.slot_dict_getitem.lookup hs (thn (ho xC s σ H _ I h) λ u s1 ⟨x,H1,I1,rx,q1⟩=>thn (hi xC s1 σ H1 _ I1 q1) λ iv s2 O=> ?_);obtain ⟨y,H2,I2,ry,a,v,ex,g,q2⟩:=O;subst ex;obtain rfl:u=Value.ref a:=rx;exact ⟨qno I2 g,qs3 hu I2 g ry λ w' s3 I3 J=>⟨v,H2,I3,J,q2⟩⟩
def qlf (hu:X.A.units+1 < cLine) (hi:PE X i ty) (ho:PE X o td):PC X .In i o (tDIn ty td):=by
 intro xC s σ H Q I h;refine thn (hi xC s σ H _ I h) λ iv s1 ⟨y,H1,I1,ry,q1⟩=>thn (ho xC s1 σ H1 _ I1 q1) λ u s2 J=> ?_;obtain ⟨x,H2,I2,rx,a,ov,ex,g,q2⟩:=J;subst ex;obtain rfl:u=Value.ref a:=rx;exact d_in hu I2 g ry λ s3 I3=>⟨.bl ov.isSome,H2,I3,zr,q2⟩
def qs6 (hu:X.A.units+1 < cLine) (hi:PE X i ty) (ho:PE X o td):PC X .NotIn i o (qyc ty td):=by
 intro xC s σ H Q I h;refine thn (hi xC s σ H _ I h) λ iv s1 ⟨y,H1,I1,ry,q1⟩=>thn (ho xC s1 σ H1 _ I1 q1) λ u s2 J=> ?_;obtain ⟨x,H2,I2,rx,a,ov,ex,g,q2⟩:=J;subst ex;obtain rfl:u=Value.ref a:=rx;exact qya hu I2 g ry λ s3 I3=>⟨.bl (!ov.isSome),H2,I3,zr,q2⟩
def q5f (hu:X.A.units+1 < cLine) (ho:PE X o td) (hi:PE X i ty) (hv:PE X value tv) (hs:swapsWith value (some (.Subscript o i pos')) pos.line X.env=pure false):
  PS X (.Assign [.Subscript o i pos'] value pos) (q12r td ty tv):=by
 intro xC s σ H D I h;refine wpAny_Assign_Subscript (thn (hv xC s σ H _ I h) λ r s1 ⟨v,H1,I1,rv,q1⟩=>thn (ho xC s1 σ H1 _ I1 q1) λ u s2 ⟨x,H2,I2,rx,q2⟩=>thn (hi xC s2 σ H2 _ I2 q2) λ iv s3 J=> ?_) hs;obtain ⟨y,H3,I3,ry,a,H4,ex,g,q3⟩:=J;subst ex;obtain rfl:u=Value.ref a:=rx;exact qs5 hu I3 g ry rv λ s4 I4=>⟨σ,H4,I4,q3⟩
end
def quu {P:Program} {w:World} {H:Hp} (h:Heap) (hb:sysModules < h.objs.size):ObjOk P w H (h.push {cls:= .type "dict",data:= .dict #[]}) h.objs.size (.dK []):=
 ⟨z4b _,beq_eq_false_iff_ne.mpr (Ne.symm (z40 hb)),[],.nil,Heap.DictOf.new h⟩
def quv {P:Program} {w:World} {H:Hp} (h:Heap) (hb:sysModules < h.objs.size):ObjOk P w H (h.push {cls:= .type "dict",data:= .dict #[]}) h.objs.size (.dT []):=
 ⟨z4b _,beq_eq_false_iff_ne.mpr (Ne.symm (z40 hb)),[],.nil,_,#[],0,z1c _ rfl,⟨rfl,rfl,rfl⟩,rfl,rfl,z3g⟩
def q10l:TE:=λ _ H Q=>∀ p,H p=none ->Q (.ref p) (upd H p (.dK []))
def q10m:TE:=λ _ H Q=>∀ p,H p=none ->Q (.ref p) (upd H p (.dT []))
section
variable {X:Cx} {pos:Pos}
def q54:PE X (.Dict [] [] pos) q10l:=λ xC s σ H Q I h=>
 wpAny_Dict_empty ⟨.ref s.heap.objs.size,_,I.laid (a:=s.heap.objs.size) (o:= .dK []) (t':=s.toks) (λ _ _ q=>z0o _ q) (z48 _) (quu s.heap I.big),rfl,h _ (I.hok.fresh (z48 _))⟩
def q9z:PE X (.Dict [] [] pos) q10m:=λ xC s σ H Q I h=>
 wpAny_Dict_empty ⟨.ref s.heap.objs.size,_,I.laid (a:=s.heap.objs.size) (o:= .dT []) (t':=s.toks) (λ _ _ q=>z0o _ q) (z48 _) (quv s.heap I.big),rfl,h _ (I.hok.fresh (z48 _))⟩
end
structure M2 (X:Cx) (o:Expr) (m:Str) (apos:Pos) (e f:Expr) (cpos:Pos):Prop where
 base:attributeBase o m X.env (eval o X.env)=eval o X.env
 few:((backTo cpos (starEach [e,f] X.env)).all (λ x=> !x.1)&&(backToKw cpos (keywordEach [] X.env)).all (λ x=>x.1.isSome)
  &&decide (([e,f]:List Expr).length+([]:List Keyword).length+(if ([]:List Keyword).isEmpty then 0 else 1) < 30))=true
 line:(apos.endLine==cpos.line)=true
 trees:backTo cpos (starEach [e,f] X.env)=[(false,eval e X.env),(false,eval f X.env)]
def IsD (H:Hp) (a:Addr):Prop:=(∃ kvs,Rd H a (.dK kvs))\/ ∃ kvs,Rd H a (.dT kvs)
def qs7 {X:Cx} {xC:xG} {σ:St} {H:Hp} {s:Shared} {a:Addr} (I:Inv X xC σ H s) (d:IsD H a):
  s.TypeIs (.ref a) "dict"/\(∀ b,Value.ref a= .ref b ->∃ J,s.heap.get? b=some J/\J.dict=none)/\(a==sysModules)=false:=by
 rcases d with ⟨kvs,e⟩ | ⟨kvs,e⟩
 ·obtain ⟨_,hd,vs,_,O⟩:=q8w I.hok e;refine ⟨O.typeIs,λ b q=> ?_,hd⟩;cases q
  obtain ⟨J,_,_,h1,h2,_⟩:=O;exact ⟨J,h1,h2.2.1⟩
 ·obtain ⟨_,hd,xs,_,O⟩:=q9y I.hok e;refine ⟨O.typeIs,λ b q=> ?_,hd⟩;cases q
  obtain ⟨J,_,_,h1,h2,_⟩:=O;exact ⟨J,h1,h2.2.1⟩
section
variable {X:Cx} {xC:xG} {σ:St} {H:Hp} {s:Shared} {a:Addr} {y d:V} {u r:Value} {o:Option V} {A:Around} {E:xB}
def q10n {Q:xB} (hu:A.units+1 < cLine) (I:Inv X xC σ H s) (g:DGet H a y o) (ry:RelV y u) (Z:RelV d r) (h:∀ w' s',Inv X xC σ H s' ->RelV (o.getD d) w' ->Q w' s'):
  wpAny (model X.prog X.w) A (call (.builtin "dict.get") [.ref a,u,r]) Q E s:=by
 rcases g with ⟨kvs,k,e,ey,l⟩ | ⟨kvs,k,b,e,ey,eb,l⟩
 ·subst ey;obtain ⟨z,hd,vs,J,O⟩:=q8w I.hok e;refine call_meetsIn PySem.F.slot_dict_get O.typeIs PySem.F.entry_dict_get (PySem.F.args_dict_get_3 _ _ _) (meets_dict_get_default (q17 X.prog X.w) a (q9x ry) hd r) ⟨_,O.mapOf,h _ _ (I.tok _) ?_⟩;rw [l];exact (J.val k).getD Z
 ·subst ey;cases (show u=Value.ref b from ry)
  obtain ⟨z,hd,xs,J,O⟩:=q9y I.hok e;refine call_meetsIn PySem.F.slot_dict_get O.typeIs PySem.F.entry_dict_get (PySem.F.args_dict_get_3 _ _ _) (meetsH_dict_get_default (tupleKind (q17 X.prog X.w)) a b hd r) ⟨tupleKind_room_in1 hu,k,xs,q9f I.hok eb,O,h _ _ (I.tok _) ?_⟩;rw [l];exact (J.val k).getD Z
end
def q10o (td ty tx:TE):TE:=λ σ H Q=>td σ H λ x H1=>∃ a,x= .ref a/\IsD H1 a/\ty σ H1 λ y H2=>tx σ H2 λ z H3=>∃ o,DGet H3 a y o/\Q (o.getD z) H3
section
variable {X:Cx} {o e f:Expr} {apos cpos:Pos} {td ty tx:TE}
def qlg (hu:X.A.units+1 < cLine) (ho:PE X o td) (he:PE X e ty) (hf:PE X f tx) (m:M2 X o "get" apos e f cpos):PE X (.Call (.Attribute o "get" apos) [e,f] [] cpos) (q10o td ty tx):=by
 intro xC s σ H Q I h;refine wpAny_Call_method m.base m.few m.line PySem.F.plainAttrs_dict PySem.F.slot_dict_get PySem.F.type_dict_get (thn (ho xC s σ H _ I h) λ u s1 O=> ?_);obtain ⟨x,H1,I1,rx,a,ex,d,q1⟩:=O;subst ex;obtain rfl:u=Value.ref a:=rx;obtain ⟨t1,t2,_⟩:=qs7 I1 d;refine ⟨t1,t2,?_⟩;rw [m.trees];refine Calls.callWith_builtin rfl (Calls.evalArgs_plain (Calls.spliced_cons (thn (he xC s1 σ H1 _ I1 q1) λ iv s2 ⟨y,H2,I2,ry,q2⟩=>
  Calls.spliced_cons (thn (hf xC s2 σ H2 _ I2 q2) λ fv s3 ⟨z,H3,I3,rz,ov,g,q3⟩=>Calls.spliced_nil ?_))))
 exact q10n hu I3 g ry rz λ w' s4 I4 J=>⟨_,H3,I4,J,q3⟩
end
section
variable {X:Cx} {xC:xG} {σ:St} {H:Hp} {s:Shared} {a:Addr} {kvs:List (Key×V)} {A:Around} {E:xB}
end
section
variable {X:Cx} {xC:xG} {σ:St} {H:Hp} {s:Shared} {a:Addr} {y:V} {u:Value} {A:Around} {E:xB}
end
end L2
namespace Att
open PySem PySem.W PySem.Calls PyProof.Rows
def qf3 {P:Params} {h:Heap}:∀ (ns:List Int) (vs:xH),WellAll P h vs (ns.map WData.int) ->IntsAre vs ns:=by
 intro ns
 induction ns with
 | nil=>
  intro vs w;rw [z44] at w;cases w
  exact .nil
 | cons n ns ih=>
  intro vs w;rw [z3l] at w;cases w with
  | cons a b=>
   cases a
   exact .cons _ _ (ih _ b)
def qs8 {l:OpenLaw} {n:Nat} (hn:l.most=some n) {P:Params} {h:Heap} {args:List WData} {O:xH}
    (J:l.row.toRowW.claim.pre args=true) (a2:WellAll P h O args):
    ∃ a vs ns,O=[Value.ref a]/\args=[WData.list (ns.map WData.int)]/\h.get? a=some {cls:= .type "list",data:= .seq vs.toArray}/\IntsAre vs ns/\ns.length<=n:=by
  have a1:WShape.hasAll [] args [.list .int]=true:=(pre_splitW J).1;have hc:l.pre.holds [] {args:=args}=true:=(pre_splitW J).2;obtain ⟨d,r,rfl,h1,h2⟩:=hasAllW_cons a1;obtain rfl:=hasAllW_nil h2;obtain ⟨xs,rfl,h3⟩:=hasW_list h1;obtain ⟨ns,rfl⟩:=items_int h3;have a0:ns.length<=n:=by
    unfold OpenLaw.pre at hc;have h4:(WTm.not (.lt (.lit (.int (n:Int))) (.len (.arg 0)))).holds [] {args:=[.list (ns.map .int)]}=true:=by
      have h4:=(holds_andW hc).1;rw [hn] at h4;exact h4
    have h5:=condW_of h4 (w_not (w_lt w_lit (w_len_list (w_arg rfl))));rw [z30] at h5;refine Nat.le_of_not_lt λ q=> ?_;have q':(n:Int) < ((ns.length:Nat):Int):=by lia
    first
      | (rw [z3c q'] at h5;exact absurd h5 (by decide))
      | (simp at h5;lia)
  cases a2 with
  | cons w1 w2=>
    cases w2
    cases w1 with
    | list ho Z=>exact ⟨_,_,ns,rfl,rfl,ho,qf3 ns _ Z,a0⟩
def qs9 (l:OpenLaw) (args:List WData):l.row.toRowW.claim.post args (.bool true) args=true:=
 postW_of (r:=l.row.toRowW) (X:=(true==true))
  (show WShape.has [] (.bool true) .bool=true by first | rfl | decide | simp [WShape.has,WShape.arms,WShape.armsAll])
  (show (WTm.eq .res (.lit (.bool true))).value [] {args:=args,res:=some (.bool true),after:=args}=some (.bool (true==true)) from w_eq_bool (w_res rfl) w_lit) rfl
def qnp {l:OpenLaw} {n:Nat} {q:Program} {J:xD} {XP:(Str ->Option Value) ->Heap ->Prop} {YP:World ->Heap ->Prop} {d:DefRec}
  (hn:l.most=some n) (a5:d.params.defaults=[])
  (call:∀ (w:World) (s₀ O:Shared) (mg mb:xE) (fa:Addr) (o:Obj) (pm cd Z:Value) (a:Addr) (vs:xH) (ns:List Int),
   Ground q J [] XP w s₀ mg mb O.heap ->YP w O.heap ->
   O.heap.get? fa=some o ->o.data= .func (docDef d.name d.params d.body d.scope pm cd Z) ->O.heap.CodeRec cd d.name ->mg d.name=some (.ref fa) ->
   O.heap.get? a=some {cls:= .type "list",data:= .seq vs.toArray} ->IntsAre vs ns ->ns.length<=n ->O.gens=#[] ->
   codeAny (model l.prog w) callerA (.call (.ref fa) ⟨[.ref a],[]⟩) (λ r s'=>r= .ok (.ret (.bool true))/\OldK O.heap s'.heap/\s'.os=O.os/\AllBare s'.gens) O):
  WalkO q J XP YP l.row.toRowW d [] (λ f vs=>PySem.call f vs):=by
 intro w s₀ O mg mb G Y fa o pm cd Z dV kV ho hd a4 hD a6 hg args a9 as a3 a8 hrd a7 hlo;obtain rfl:dV= .none:=Dflts.none hD a5;obtain rfl:kV= .none:=Dflts.noKw hD;obtain ⟨a,vs,ns,rfl,rfl,a2,a0,a1⟩:=qs8 hn a3 a7;refine enter_call (z43 (call w s₀ O mg mb fa o pm cd Z a vs ns G Y ho (fd_plain hd) a4 a6 a2 a0 a1 hg) λ r s' hq=> ?_);obtain ⟨rfl,h2,h3,h4⟩:=hq;exact ⟨.inl ⟨.bool true,.bool true,[],rfl,λ _=>rfl,.bool true,qs9 l _,λ _=>⟨List.Pairwise.nil,λ _ hm=>(nomatch hm)⟩⟩,h2,h3,h4⟩
section
variable {prog:Program} {w:World} {A:Around} {E:xB} {s:Shared} {K:Frag}
end
end Att
namespace L2
open PySem PySem.Spec PyProof.Rows
theorem qi6:∀ {vs:xH} {ns:List Int},IntsAre vs ns ->Vals (ns.map V.int) vs
 | _,_,.nil=> .nil
 | _,_,.cons n t h=> .cons ⟨t,rfl⟩ (qi6 h)
def Only (H:Hp):Prop:=∀ b,H b=none\/ ∃ o xs,H b=some (.frz o (.lst xs))
def quw {P:Program} {w:World} {K:xA} {mg mb:xE} {CX:CXT} {k:Nat} {fa a:Addr} {fd:FuncData} {x:Str} {sp:Sp} {J:Shared} {vs:xH} {ns:List Int}
  (KX:K.In J.heap) (a5:J.heap.Ns mainGlobals mg) (Z:J.heap.Ns builtinsNs mb) (a9:∀ x:Str,x≠"__name__" ->mb x=bootBuiltins x) (a4:J.heap.NoLimit) (hg:J.gens=#[])
  (ha:J.heap.get? a=some {cls:= .type "list",data:= .seq vs.toArray}) (hi:IntsAre vs ns) (hl:ns.length<=sizeLine) (hr:Room k callerA)
  (F:∀ base:Heap,K.In base ->base.Ns mainGlobals mg ->FnOk P w K mg base CX k fa fd [x] sp) (a2:∀ (s:Shared) (u:Value),BindsTo s fd ⟨[u],[]⟩ [(x,u)])
  (b2:∀ H:Hp,Only H ->SqL K H a (ns.map V.int) ->sp [.ref a] H (λ v _=>v= .bl true) λ _ _ _=>False)
  (a8:∀ H e s',CX [] H J (λ _ _ _=>False) e s' ->False):
  codeAny (model P w) callerA (.call (.ref fa) ⟨[.ref a],[]⟩) (λ r s'=>r= .ok (.ret (.bool true))/\OldK J.heap s'.heap/\s'.os=J.os/\AllBare s'.gens) J:=by
 have rv:=qi6 hi;have a7:=hi.length;have a1:∀ H:Hp,Only H ->SqL K H a (ns.map V.int) ->HOk P w H J.heap ->(∀ b,H b≠none ->b=a) ->(H a≠none ->K.lookup a=none) ->
   codeAny (model P w) callerA (.call (.ref fa) ⟨[.ref a],[]⟩) (λ r s'=>r= .ok (.ret (.bool true))/\OldK J.heap s'.heap/\s'.os=J.os/\AllBare s'.gens) J:=by
  intro H hO hS hok hA hK;have O:∀ {b:Addr} {o:Obj},J.heap.get? b=some o ->H b=none ->(hidT J.heap H).get? b=some o:=λ e n=>quj e n;have b3:∀ {b:Addr} {o:Obj} {es:Array DictEntry} {ep:Nat},J.heap.get? b=some o ->o.data= .dict es ep ->H b=none:=λ {b o es ep} e d=>by
   cases q:H b with
   | none=>rfl
   | some u=>
    have e':b=a:=hA b (by rw [q];simp);subst e';rw [ha] at e;cases e;have d':Data.seq vs.toArray _=Data.dict es ep:=d;cases d'
  have a0:∀ {b:Addr} {m:xE},J.heap.Ns b m ->(hidT J.heap H).Ns b m:=λ {b m} ⟨o,es,ep,e,d,r⟩=>⟨o,es,ep,O e (b3 e d),d,r⟩;have a3:K.In (hidT J.heap H):=λ b o e=>O (KX b o e) (by
   cases q:H b with
   | none=>rfl
   | some u=>
    have e':b=a:=hA b (by rw [q];simp);subst e';rw [hK (by rw [q];simp)] at e;cases e)
  have hM:Mod K mg (hidT J.heap H):=⟨a3,a0 a5,⟨mb,a0 Z,a9⟩,let ⟨mc,h1,h2⟩:=a4;⟨mc,a0 h1,h2⟩⟩;have e0:Env0 P w K mg (hidT J.heap H) callerA [] J H:=⟨rfl,hM,λ b o e=>qxq e,Nat.le_of_eq (qrm _ _),trivial,λ b Z=>absurd (show b∈([]:List Addr) from Z) (by simp),hok,.of_eq hg⟩;refine z43 ((F _ a3 (a0 a5)).run callerA [] J H ⟨[.ref a],[]⟩ [.ref a] [.ref a] _ _ hr e0 (a2 J (.ref a)) (.cons rfl .nil) (b2 H hO hS)) λ r s' h=> ?_;cases r with
  | error e=>exact (a8 H e s' h).elim
  | ok fl=>
   cases fl with
   | next=>exact False.elim h
   | brk=>exact False.elim h
   | cont=>exact False.elim h
   | ret u=>
    obtain ⟨v,H',os,bare,un,a6,r',q⟩:=h;have q':v= .bl true:=q;subst q';obtain rfl:u=Value.bool true:=r';refine ⟨zr,OldK.of_keep λ b o e=> ?_,os,bare⟩;cases q:H b with
    | none=>exact un.keep b o e q (by intro z;exact absurd (show b∈([]:List Addr) from z) (by simp)) (by simp)
    | some u=>
     rcases hO b with z | ⟨ob,xs,z⟩
     ·rw [q] at z;cases z
     ·have z2:=un.frzs b ob _ z;obtain ⟨e1,_⟩:=hok b _ z;obtain ⟨e2,_⟩:=a6 b _ z2;rw [e] at e1;cases e1;exact e2
 cases hk:K.lookup a with
 | some o=>
  have e:=KX a o hk;rw [ha] at e;cases e
  refine a1 (λ _=>none) (λ _=> .inl rfl) (.inr ⟨_,vs.toArray,_,hk,rfl,rfl,rfl,by rw [z23,a7];exact hl,by simpa using rv⟩) (λ b u z=>by have z':(none:Option HO)=some u:=z;cases z') (λ b z=>absurd rfl z) λ z=>absurd rfl z
 | none=>
  refine a1 (λ b=>if b=a then some (.frz {cls:= .type "list",data:= .seq vs.toArray} (.lst (ns.map V.int))) else none) (λ b=> ?_) (.inl (.inr ⟨{cls:= .type "list",data:= .seq vs.toArray},if_pos rfl⟩)) (λ b u z=> ?_) (λ b z=> ?_) λ _=>hk
  ·by_cases Z:b=a
   ·exact .inr ⟨_,_,if_pos Z⟩
   ·exact .inl (if_neg Z)
  ·by_cases Z:b=a
   ·have z':=(if_pos Z).symm.trans z;cases z'
    subst Z;exact ⟨ha,by rw [z30];exact hl,vs,_,rv,ha⟩
   ·have z':=(if_neg Z).symm.trans z;cases z'
  ·by_cases Z:b=a
   ·exact Z
   ·exact absurd (if_neg Z) z
abbrev KOf {K:xA} {h:Heap} (_:K.In h):xA:=K
def qol {l:PySem.W.OpenLaw} {n k:Nat} {q:Program} {Z:xD} {XP:(Str ->Option Value) ->Heap ->Prop} {YP:World ->Heap ->Prop} {d:DefRec} {K:Params ->xA} {CX:World ->CXT} {sp:World ->Sp} {x:Str}
  (hn:l.most=some n) (a4:n<=sizeLine) (a2:d.params.defaults=[]) (hr:Room k callerA)
  (hY:∀ (w:World) (h:Heap),YP w h ->(K w.params).In h)
  (F:∀ (w:World) (mg:xE) (fa:Addr) (h:Heap),(K w.params).In h ->h.Ns mainGlobals mg ->mg d.name=some (.ref fa) ->
   ∃ fd:FuncData,(∀ (s:Shared) (u:Value),BindsTo s fd ⟨[u],[]⟩ [(x,u)])/\
    ∀ base:Heap,(K w.params).In base ->base.Ns mainGlobals mg ->FnOk l.prog w (K w.params) mg base (CX w) k fa fd [x] (sp w))
  (a5:∀ (w:World) (H:Hp) (a:Addr) (ns:List Int),ns.length<=n ->Only H ->SqL (K w.params) H a (ns.map V.int) ->sp w [.ref a] H (λ v _=>v= .bl true) λ _ _ _=>False)
  (a1:∀ (w:World) (H:Hp) (s:Shared) (e:Value) (s':Shared),CX w [] H s (λ _ _ _=>False) e s' ->False):
  PySem.W.WalkO q Z XP YP l.row.toRowW d [] (λ f vs=>PySem.call f vs):=by
 refine Att.qnp hn a2 λ w s₀ s₁ mg mb fa o pm cd doc a vs ns G Y ho hd hcd a3 a0 O J hg=> ?_;have KX:=hY w _ Y;obtain ⟨fd,hb,hF⟩:=F w mg fa _ KX G.T.g a3;exact quw KX G.T.g G.T.b G.T.builtins G.T.nolimit hg a0 O (z41 J a4) hr hF hb (λ H hO hS=>a5 w H a ns J hO hS) λ H e s'=>a1 w H s₁ e s'
def qux {l:PySem.W.OpenLaw} {n k:Nat} {q:Program} {J:xD} {XP:(Str ->Option Value) ->Heap ->Prop} {YP:World ->Heap ->Prop} {d:DefRec} {K:Params ->xA} {CX:CXT} {sp:xA ->Sp} {x:Str}
  (hn:l.most=some n) (a0:n<=sizeLine) (Z:d.params.defaults=[]) (hr:Room k callerA)
  (hY:∀ (w:World) (h:Heap),YP w h ->(K w.params).In h)
  (F:∀ (w:World) (mg:xE) (fa:Addr) (h:Heap),(K w.params).In h ->h.Ns mainGlobals mg ->mg d.name=some (.ref fa) ->
   ∃ fd:FuncData,(∀ (s:Shared) (u:Value),BindsTo s fd ⟨[u],[]⟩ [(x,u)])/\
    ∀ base:Heap,(K w.params).In base ->base.Ns mainGlobals mg ->FnOk l.prog w (K w.params) mg base CX k fa fd [x] (sp (K w.params)))
  (a1:∀ (K:xA) (H:Hp) (a:Addr) (ns:List Int),ns.length<=n ->Only H ->SqL K H a (ns.map V.int) ->sp K [.ref a] H (λ v _=>v= .bl true) λ _ _ _=>False)
  (O:∀ (H:Hp) (s:Shared) (e:Value) (s':Shared),CX [] H s (λ _ _ _=>False) e s' ->False):
  PySem.W.WalkO q J XP YP l.row.toRowW d [] (λ f vs=>PySem.call f vs):=
 qol (K:=K) (CX:=λ _=>CX) (sp:=λ w=>sp (K w.params)) hn a0 Z hr hY F (λ w H a ns h1 h2 h3=>a1 (K w.params) H a ns h1 h2 h3) λ _ H s e s'=>O H s e s'
end L2
namespace L2
open PySem PySem.Spec PyProof.Rows
def q12 (s:Stmt) (j:Nat):Stmt:=match s with
 | .ClassDef _ _ _ body _ _ _ _ _ _ _=>body.getD j (.Pass ⟨0,0,0,0⟩)
 | _=> .Pass ⟨0,0,0,0⟩
def q1s (s:Stmt):Arguments:=match s with
 | .FunctionDef _ a _ _ _ _ _ _ _ _=>a
 | _=>{posonlyargs:=[],args:=[],vararg:=none,kwonlyargs:=[],kw_defaults:=[],kwarg:=none,defaults:=[]}
def q1e (s:Stmt):List Stmt:=match s with
 | .FunctionDef _ _ b _ _ _ _ _ _ _=>b
 | _=>[]
def qc (s:Stmt):Scope:=match s with
 | .FunctionDef _ _ _ _ _ _ sc _ _ _=>sc
 | _=>{kind:= .function,names:=[],isGenerator:=false,isCoroutine:=false}
abbrev CX0:CXT:=λ _ _ _ _ _ _=>False
abbrev E0:XK:=λ _ _ _=>False
def qcn {X:Cx}:q82 CX0 X E0:=λ _ _ _ _ _ _ _ h=>h.elim
structure Fun (K:xA) (x qual:Str) (st:Stmt) (f:Addr) (fd:FuncData):Prop where
 ex:∃ (oc:Value) (od:Option Addr) (kV doc pm:Value) (an:Option Addr) (cdv ct:Value) (osl:Array (Option Value)),
  fd=PySem.W.fnOf x qual (q1s st) (q1e st) (qc st) .none kV doc pm an cdv ct/\K.lookup f=some ⟨oc,od,.func fd,osl⟩/\PySem.W.codeIn K cdv qual=true
 kp:PySem.W.keepIn K (.ref f)=true
section
variable {P:Program} {w:World} {K:xA} {mg:xE} {base:Heap}
def Fun.ok {x qual:Str} {st:Stmt} {f:Addr} {fd:FuncData} {N ps:xD} {k:Nat} {sp:Sp} (F:Fun K x qual st f fd) (S:FnScope N ps (qc st)) (len:∀ vs H Q E,sp vs H Q E ->vs.length=ps.length)
  (J:∀ (cdv:Value) (A:Around) (outer:List Env) (s:Shared) (H:Hp) (vs:List V) (Q:VK) (E:XK),Room k (A.deeper (envOfC qual (qc st) s.heap.objs.size f cdv)) ->sp vs H Q E ->
   ∃ t,PSs (cxOf CX0 P w K mg base N qual (qc st) f cdv A outer s H E).nox (q1e st) t/\t {nx:=λ _ H'=>Q .non H',rt:=Q} (start N vs) H):FnOk P w K mg base CX0 (k+1) f fd ps sp:=by
 obtain ⟨oc,od,kV,doc,pm,an,cdv,ct,osl,rfl,lk,O⟩:=F.ex;refine qx5 lk O S len λ A outer s H vs Q E hr Z=> ?_;obtain ⟨t,h,q⟩:=J cdv A outer s H vs Q E hr Z;exact ⟨t,h.nox,q⟩
def qsa {x qual:Str} {st:Stmt} {f:Addr} {oc:Value} {od Z:Option Addr} {O:Array (Option Value)} {kV J pm cdv ct:Value} (l:K.lookup f=some ⟨oc,od,.func (PySem.W.fnOf x qual (q1s st) (q1e st) (qc st) .none kV J pm Z cdv ct),O⟩)
  (c:PySem.W.codeIn K cdv qual=true) (k:PySem.W.keepIn K (.ref f)=true):Fun K x qual st f (PySem.W.fnOf x qual (q1s st) (q1e st) (qc st) .none kV J pm Z cdv ct):=⟨⟨oc,od,kV,J,pm,Z,cdv,ct,O,rfl,l,c⟩,k⟩
end
def q2a {A:Around} {k:Nat} (hr:Room k A):A.units+1 < cLine:=Nat.lt_of_le_of_lt (Nat.add_le_add_left (by decide:1<=64) _) hr.units
def q1p {n:Nat} (h:n<=1000):n < sizeLine:=Nat.lt_of_le_of_lt h (by decide)
section
variable {X:Cx}
def pv (i:Nat) {x:Str} {pos:Pos} (hN:X.N[i]? =some x:=by rfl) (hv:Vis X.env.scope x:=by first | exact Or.inl rfl | exact Or.inr (Or.inl rfl) | exact Or.inr (Or.inr rfl)) (hd:(x==("__debug__":Str))=false:=by decide)
  (J:(x==("__classdict__":Str))=false:=by decide):PE X (.Name x pos) (tVar i):=q10c hN hv hd J
end
def iteF {A B:Prop} (h:B):if false=true then A else B:=by
 rw [if_neg z1l];exact h
def iteT {A B:Prop} (h:A):if true=true then A else B:=by
 rw [if_pos rfl];exact h
def ite2 {c A B:Prop} [Decidable c] (h1:c ->A) (h2:¬ c ->B):if c then A else B:=by
 by_cases h:c
 ·rw [if_pos h];exact h1 h
 ·rw [if_neg h];exact h2 h
def Same (H H':Hp):Prop:=∀ b o,H b=some o ->H' b=some o
def Same.refl (H:Hp):Same H H:=λ _ _ h=>h
def Same.trans {H H1 H2:Hp} (a:Same H H1) (b:Same H1 H2):Same H H2:=λ c o h=>b c o (a c o h)
def Same.free {H H':Hp} (e:Same H H') {l:Addr} (h:H' l=Option.none):H l=Option.none:=by
 cases q:H l with
 | none=>rfl
 | some o=>
  rw [e l o q] at h;cases h
def Same.seq {K:xA} {H H':Hp} {a:Addr} {xs:List V} (e:Same H H') (h:SqL K H a xs):SqL K H' a xs:=by
 rcases h with (h | ⟨o,h⟩) | h
 ·exact .inl (.inl (e _ _ h))
 ·exact .inl (.inr ⟨o,e _ _ h⟩)
 ·exact .inr h
section
variable {X:Cx}
def qi7:q22 X (.builtin "len") (λ xs H Q=>∃ a kvs,xs=[V.ref a]/\H a=some (.dK kvs)/\Q (.int kvs.length) H):=by
 intro xC s σ H xs us Q I r h;obtain ⟨a,kvs,rfl,ha,q⟩:=h;obtain ⟨u,rfl,ru⟩:=q33 r;cases ru
 exact q12p I (.inl ha) λ t s' I'=>⟨.int kvs.length,H,I',⟨t,zr⟩,q⟩
end
section
variable {κ:Type} [DecidableEq κ]
theorem qgg:∀ {l:List κ} {k:κ},l.Nodup ->¬ k∈l ->(l++ [k]).Nodup
 | [],k,_,_=>by simp
 | a::r,k,h,hk=>by
  obtain ⟨h1,h2⟩:=z32.mp h;show (a::(r++ [k])).Nodup;refine z32.mpr ⟨λ m=> ?_,qgg h2 λ m=>hk (z3n.mpr (Or.inr m))⟩;rcases z2u.mp m with q | q
  ·exact h1 q
  ·exact hk (z3n.mpr (Or.inl (z1m.mp q).symm))
end
def qgh {β:Type} {x n:Str} {b c:β} {l:List (Str×β)} (h:((n,b)::l).lookup x=some c):(x=n/\b=c)\/ l.lookup x=some c:=by
 rw [List.lookup_cons] at h;cases e:x==n with
 | true=>
  rw [e] at h;exact .inl ⟨eq_of_beq e,Option.some.inj h⟩
 | false=>
  rw [e] at h;exact .inr h
def qdu {β:Type} {x n:Str} {b:β} {l:List (Str×β)} (h:x=n\/ ∃ c,l.lookup x=some c):∃ c,((n,b)::l).lookup x=some c:=by
 rw [List.lookup_cons];cases e:x==n with
 | true=>exact ⟨b,rfl⟩
 | false=>
  rcases h with h | h
  ·subst h;simp at e
  ·exact h
theorem qa0 {env:Env}:∀ (names:List (Str×NameKind)) (acc:List (Str×Addr)),(∀ y∈names,y.2= .free ->∃ c,env.cells.lookup y.1=some c) ->
    (∀ x c,acc.lookup x=some c ->env.cells.lookup x=some c) ->
    ∃ cl,(forIn names acc (λ x r=>if (x.2==NameKind.free)=true then (cellOf env x.1 >>=λ c=>pure (ForInStep.yield ((x.1,c)::r))) else pure (ForInStep.yield r)):Sem (List (Str×Addr)))=pure cl/\
      (∀ x c,cl.lookup x=some c ->env.cells.lookup x=some c)/\(∀ y∈names,y.2= .free ->∃ c,cl.lookup y.1=some c)/\(∀ x c,acc.lookup x=some c ->∃ c',cl.lookup x=some c')
  | [],acc,_,h=>⟨acc,rfl,h,(λ _ z=>nomatch z),λ x c e=>⟨c,e⟩⟩
  | (n,k)::r,acc,hn,h=>by
    rw [List.forIn_cons];by_cases hk:k= .free
    · subst hk
      obtain ⟨c,Z⟩:=hn (n,.free) z1p rfl;have e1:(cellOf env n:Sem Addr)=pure c:=by
        have O:env.cells.lookup n=some c:=Z;unfold cellOf;rw [O]
      obtain ⟨cl,e,h1,h2,J⟩:=qa0 r ((n,c)::acc) (λ y hy=>hn y (z16 _ hy)) (λ x c' e=>by
        rcases qgh e with ⟨e1,e2⟩ | e
        · subst e1;subst e2;exact Z
        · exact h x c' e)
      refine ⟨cl,?_,h1,?_,λ x c' e=> ?_⟩
      · show ((if ((n,NameKind.free).2==NameKind.free)=true then (cellOf env n >>=λ c=>pure (ForInStep.yield ((n,c)::acc))) else pure (ForInStep.yield acc)) >>=_)=_
        rw [if_pos (show ((n,NameKind.free).2==NameKind.free)=true from rfl),e1];exact e
      · intro y hy hf
        rcases z3n.mp hy with rfl | hy
        · exact J n c (by simp)
        · exact h2 y hy hf
      · obtain ⟨c2,e2⟩:=qdu (n:=n) (b:=c) (.inr ⟨c',e⟩)
        exact J x c2 e2
    · obtain ⟨cl,e,h1,h2,J⟩:=qa0 r acc (λ y hy=>hn y (z16 _ hy)) h
      refine ⟨cl,?_,h1,?_,J⟩
      · show ((if ((n,k).2==NameKind.free)=true then (cellOf env n >>=λ c=>pure (ForInStep.yield ((n,c)::acc))) else pure (ForInStep.yield acc)) >>=_)=_
        rw [if_neg (by simpa using hk)];exact e
      · intro y hy hf
        rcases z3n.mp hy with rfl | hy
        · exact absurd hf hk
        · exact h2 y hy hf
def qom {scope:Scope} {env:Env} (h:∀ y∈scope.names,y.2= .free ->∃ c,env.cells.lookup y.1=some c):
  ∃ cl,closureFor scope env=pure cl/\(∀ x c,cl.lookup x=some c ->env.cells.lookup x=some c)/\(∀ y∈scope.names,y.2= .free ->∃ c,cl.lookup y.1=some c):=by
 obtain ⟨cl,e,h1,h2,_⟩:=qa0 scope.names [] h (λ x c e=>by simp at e);refine ⟨cl,?_,h1,h2⟩;unfold closureFor;show ((forIn scope.names [] (λ x r=>if (x.2==NameKind.free)=true then (cellOf env x.1 >>=λ c=>pure (ForInStep.yield ((x.1,c)::r))) else pure (ForInStep.yield r)):Sem (List (Str×Addr))) >>=λ r=>pure r)=_;rw [e];rfl
def relK (env:Env) (x:Str) (k:NameKind):NameKind:=if (k== .free&&env.scope.kind== .function&&env.kindOf x==some .cell)=true then .cell else k
theorem q9g {env:Env} {x:Str}:∀ (names:List (Str×NameKind)),
    (names.map λ (n,k)=>if (k==NameKind.free&&env.scope.kind== .function&&env.kindOf n==some .cell)=true then (n,NameKind.cell) else (n,k)).lookup x=(names.lookup x).map (relK env x)
  | []=>rfl
  | (n,k)::r=>by
    have ih:=q9g (env:=env) (x:=x) r;have e:(if (k==NameKind.free&&env.scope.kind== .function&&env.kindOf n==some .cell)=true then (n,NameKind.cell) else (n,k))=(n,relK env n k):=by
      unfold relK;split <;> rfl
    show List.lookup x ((if (k==NameKind.free&&env.scope.kind== .function&&env.kindOf n==some .cell)=true then (n,NameKind.cell) else (n,k))::_)=_;rw [e,List.lookup_cons,List.lookup_cons];cases hx:x==n with
    | true=>
      have:=eq_of_beq hx;subst this;rfl
    | false=>exact ih
def qda {scope:Scope} {cl:List (Str×Addr)} {C:Addr} {env:Env} {x:Str}:(compEnvC scope cl C env).kindOf x=(scope.names.lookup x).map (relK env x):=q9g (env:=env) (x:=x) scope.names
def qsb {env:Env} {x:Str}:relK env x .free= .cell\/ relK env x .free= .free:=by
 unfold relK;split
 ·exact .inl rfl
 ·exact .inr rfl
def qyd {env:Env} {x:Str} {k:NameKind} (h:relK env x k= .cell\/ relK env x k= .free):k= .cell\/ k= .free:=by
 unfold relK at h;split at h
 ·rename_i z;simp only [z2m,beq_iff_eq] at z;exact .inr z.1.1
 ·exact h
def capt (caps:List (Option Nat)) (σ:St):St:=caps.map λ o=>match o with
 | none=>none
 | some j=>(σ[j]?).join
def qf4 (oN:xD) (osc:Scope) (N:xD) (caps:List (Option Nat)) (sc:Scope):Bool:=
 (sc.kind== .function)&&decide N.Nodup&&(N.length==caps.length)&&sc.names.all (λ y=> !(y.2== .cell))&&
 sc.names.all (λ y=> !(y.2== .local) || sc.names.lookup y.1==some .local)&&
 sc.names.all (λ y=> !(y.2== .free) || (osc.names.lookup y.1==some .cell || osc.names.lookup y.1==some .free))&&
 (N.zip caps).all (λ p=>match p.2 with
  | none=>true
  | some j=>oN[j]? ==some p.1&&sc.names.lookup p.1==some .free)
structure CompOk (oN:xD) (osc:Scope) (N:xD) (caps:List (Option Nat)) (sc:Scope):Prop where
 kind:sc.kind= .function
 nd:N.Nodup
 len:N.length=caps.length
 nocell:∀ y∈sc.names,y.2≠ .cell
 loc:∀ y∈sc.names,y.2= .local ->sc.names.lookup y.1=some .local
 fr:∀ y∈sc.names,y.2= .free ->osc.names.lookup y.1=some .cell\/ osc.names.lookup y.1=some .free
 cap:∀ (i j:Nat) (x:Str),N[i]? =some x ->caps[i]? =some (some j) ->oN[j]? =some x/\sc.names.lookup x=some .free
def qi8 {O:xD} {J:Scope} {N:xD} {caps:List (Option Nat)} {Z:Scope} (h:qf4 O J N caps Z=true):CompOk O J N caps Z:=by
  unfold qf4 at h;simp only [z2m,z2n,decide_eq_true_eq,beq_iff_eq,Bool.or_eq_true,Bool.not_eq_true',beq_eq_false_iff_ne,ne_eq] at h;obtain ⟨⟨⟨⟨⟨⟨h1,h2⟩,h3⟩,h4⟩,h5⟩,h6⟩,h7⟩:=h;refine ⟨h1,h2,h3,h4,λ y hy e=> ?_,λ y hy e=> ?_,λ i j x hi hj=> ?_⟩
  · rcases h5 y hy with z | z
    · exact absurd e z
    · exact z
  · rcases h6 y hy with z | z
    · exact absurd e z
    · exact z
  · have hm:(x,some j)∈N.zip caps:=by
      refine z18 (i:=i) ?_;rw [List.getElem?_zip_eq_some];exact ⟨hi,hj⟩
    have:=h7 _ hm
    simpa using this
def q3u (X:Cx) (N:xD) (scope:Scope) (cl:List (Str×Addr)) (C:Addr) (fp:List Addr) (s:Shared) (H:Hp):Cx:=
 {X with N:=N,s₀:=s,H₀:=H,env:=compEnvC scope cl C X.env,outer:=X.stack,ex:=fp,fn:=λ _=>false,pn:=[],xe:=λ _ _=>False}
section
variable {X:Cx} {xC:xG} {σ:St} {H:Hp} {s:Shared} {N:xD} {caps:List (Option Nat)} {scope:Scope} {cl:List (Str×Addr)} {fp:List Addr}
def quy (I:Inv X xC σ H s) (hf:∀ b∈fp,FpOk X xC H b) (ho:∀ b∈fp,∃ o,s.heap.get? b=some o) (S:CompOk X.N X.env.scope N caps scope)
    (c1:∀ x c,cl.lookup x=some c ->X.env.cells.lookup x=some c) (c2:∀ y∈scope.names,y.2= .free ->∃ c,cl.lookup y.1=some c)
    {h':Heap} {m:xE} {tk:Nat} (hn:h'.Ns s.heap.objs.size m) (hk:∀ b u,s.heap.get? b=some u ->h'.get? b=some u):
    Inv (q3u X N scope cl s.heap.objs.size fp s H) [] (capt caps σ) H {s with heap:=h',toks:=tk}:=by
  have a3:∀ b∈fp,b∉frs X.stack:=λ b hb z=>by
    obtain ⟨_,f1,f2,_⟩:=hf b hb;rcases z3n.mp (I.stkSub b z) with e | e
    · exact f1 e
    · exact f2 e
  have Z:∀ x,scope.names.lookup x=some .free ->∃ c,cl.lookup x=some c:=λ x e=>c2 (x,.free) (z1d e) rfl;refine ⟨⟨I.ok.mod,S.kind,I.ok.glob,I.ok.blt,z48 _,λ x y c e1 e2=>I.ok.inj x y c (c1 x c e1) (c1 y c e2),λ x hx=> ?_,λ x c z _=>absurd (show false=true from z) (by decide),I.ok.hd,I.ok.frames,.inl rfl,
    λ b hb=>⟨?_,λ x c e=>(hf b hb).2.2.2.2.1 x c (c1 x c e)⟩,I.bs,z41 I.ok.bsz I.sz,λ b o e hb=> ?_,a3,I.stack,I.stkFree⟩,
    rfl,I.bare,Un.kept hk,⟨m,hn,λ i x v e1 e2 e3=> ?_⟩,λ x c e=> ?_,I.hok.fresh (z48 _),λ x c e=>I.freeC x c (c1 x c e),λ p hp=>absurd (show p∈([]:xG) from hp) (by simp),I.hok.kept hk,?_⟩
  · have J:(scope.names.lookup x).map (relK X.env x)=some .cell\/ (scope.names.lookup x).map (relK X.env x)=some .free:=by
      rw [<- qda (cl:=cl) (C:=s.heap.objs.size)];exact hx
    cases e:scope.names.lookup x with
    | none=>
      rw [e] at J;rcases J with z | z <;> cases z
    | some k=>
      rw [e] at J;have z:relK X.env x k= .cell\/ relK X.env x k= .free:=by
        rcases J with z | z
        · exact .inl (Option.some.inj z)
        · exact .inr (Option.some.inj z)
      rcases qyd z with z | z
      · subst z
        exact absurd rfl (S.nocell _ (z1d e))
      · subst z
        exact Z x e
  · obtain ⟨o,e⟩:=ho b hb
    exact z40 (z3z e)
  · obtain ⟨_,_,_,f3,_⟩:=hf b hb
    rcases f3 with z | z
    · exact I.ok.noex b o e z
    · exact absurd (z1r (z3z e) (z41 I.ok.bsz z)) (z3p _)
  · have hi:i < caps.length:=by
      unfold capt at e2;obtain ⟨h1,_⟩:=z07.mp e2
      simpa using h1
    have O:(capt caps σ)[i]? =(caps[i]?).map λ o=>match o with
        | none=>none
        | some j=>(σ[j]?).join:=by
      unfold capt;rw [z22]
    rw [e2] at O;cases q:caps[i]? with
    | none=>
      rw [q] at O;cases O
    | some o=>
      rw [q] at O;cases o with
      | none=>
        cases (Option.some.inj O)
      | some j=>
        have ej:σ[j]? =some (some v):=by
          have z:some v=(σ[j]?).join:=Option.some.inj O;cases q2:σ[j]? with
          | none=>rw [q2] at z;cases z
          | some w=>rw [q2] at z;exact congrArg some z.symm
        obtain ⟨n1,n2⟩:=S.cap i j x e1 q;have a2:X.env.kindOf x=some .cell\/ X.env.kindOf x=some .free:=S.fr (x,.free) (z1d n2) rfl;obtain ⟨m0,_,hl⟩:=I.loc;obtain ⟨u,r,l⟩:=hl j x v n1 ej (.inr a2);refine ⟨u,r,?_⟩;rcases l with ⟨k,_⟩ | ⟨_,c,O,z⟩
        · rw [k] at a2
          rcases a2 with z | z <;> cases z
        · obtain ⟨c',e'⟩:=Z x n2
          have:c'=c:=Option.some.inj ((c1 x c' e').symm.trans O);subst this;refine .inr ⟨?_,c',e',?_⟩
          · have kk:(compEnvC scope cl s.heap.objs.size X.env).kindOf x=some (relK X.env x .free):=by rw [qda,n2];rfl
            rcases qsb (env:=X.env) (x:=x) with z | z
            · rw [z] at kk;exact .inl kk
            · rw [z] at kk;exact .inr kk
          · obtain ⟨o,a0,a1⟩:=z
            exact ⟨o,hk _ _ a0,a1⟩
  · obtain ⟨v,o,a0,a1⟩:=I.cell x c (c1 x c e)
    exact ⟨v,o,hk _ _ a0,a1⟩
  · show (capt caps σ).length=N.length
    unfold capt;rw [z30];exact S.len.symm
end
def PF (X:Cx) (ifs:List Expr) (t:TT):Prop:=
 ∀ (xC:xG) (s:Shared) (σ:St) (H:Hp) (Q:Bool ->Hp ->Prop),Inv X xC σ H s ->t σ H Q ->
  wpAny (model X.prog X.w) X.A (forIn ifs true λ c r=>if r=true then do let ok <- isTrue c X.env (eval c X.env);pure (ForInStep.yield ok) else pure (ForInStep.yield r)) (TP X xC σ Q) X.xe s
def tYes:TT:=λ _ H Q=>Q true H
section
variable {X:Cx}
def q3v:PF X [] tYes:=λ _ _ _ H _ I h=>z4e ⟨H,I,h⟩
def q9h {c:Expr} {t:TT} (hc:PT X c t):PF X [c] t:=by
 intro xC s σ H Q I h;rw [List.forIn_cons];refine z4f ?_;rw [if_pos rfl];refine z4f (thn (hc xC s σ H Q I h) λ ok s1 q=>z4e ?_);exact z4e q
end
def qlh {prog:Program} {w:World} {A:Around} {R:Result ->Shared ->Prop} {s:Shared} {elt J iter:Expr} {ifs:List Expr} {scope:Scope} {pos:Pos} {it acc:Value} {env:Env} (I:Nat ->Shared ->Prop)
  (turn:∀ n s,I n s ->wpAny (model prog w) A (pyNext it) (λ r s₁=>match r with
   | none=>R (.ok .next) s₁
   | some v=>wpAny (model prog w) A (letOwnedTupleGo J it v) (λ _ O=>wpAny (model prog w) A (assign J env v) (λ _ s₂=>
     wpAny (model prog w) A (forIn ifs true λ c r=>if r=true then do let ok <- isTrue c env (eval c env);pure (ForInStep.yield ok) else pure (ForInStep.yield r)) (λ ok s₃=>
      if ok=true then wpAny (model prog w) A (eval elt env) (λ x s₄=>
       wpAny (model prog w) A (call (.builtin "list.append") [acc,x]) (λ _ s₅=>∃ m,m < n/\I m s₅) (λ _ _=>False) s₄) (λ _ _=>False) s₃
      else ∃ m,m < n/\I m s₃) (λ _ _=>False) s₂) (λ _ _=>False) O) (λ _ _=>False) s₁) (λ _ _=>False) s)
  (n:Nat) (h:I n s):
  codeAny (model prog w) A (.compLoop (.ListComp elt [⟨J,iter,ifs,0⟩] scope pos) 0 it acc env) R s:=by
 refine codeAny_loop rfl I (λ n s hI=> ?_) n h;show wpAny _ A ((compTurn (.ListComp elt [⟨J,iter,ifs,0⟩] scope pos) 0 it acc env).onRaise (λ x=>do noteFrame x env;theTreesLotGoes x)) _ _ s;refine wpAny_noted ?_;rw [compTurn_list];refine z4f (wpAny_standAt (z4f (z4g (turn n s hI) (λ r s₁ h₁=> ?_) λ _ _ z=>False.elim z)));cases r with
 | none=>exact z4e h₁
 | some v=>
  refine z4f (z4g h₁ (λ _ O Z=> ?_) λ _ _ z=>False.elim z);refine z4f (z4g Z (λ _ s₂ h₂=>z4f (z4g h₂ (λ ok s₃ h₃=> ?_) λ _ _ z=>False.elim z)) λ _ _ z=>False.elim z);cases ok with
  | false=>exact z4e ⟨rfl,h₃⟩
  | true=>
   exact z4f (z4f (z4g h₃ (λ x s₄ h₄=>z4f (z4g h₄ (λ _ s₅ h₅=>z4e (z4e ⟨zr,h₅⟩)) λ _ _ z=>False.elim z)) λ _ _ z=>False.elim z))
def qx8 (J:It) (g:TG) (tf:TT) (te:TE) (D:Addr) (QE:Hp ->Prop) (W:Nat ->Nat ->St ->Hp ->Prop):Prop:=∀ i m σ H,W i m σ H ->
 (J.stop i H/\QE H)\/ (J.go i H/\∃ N:St ->Hp ->Prop,(∀ σ' H',N σ' H' ->∃ m',m' < m/\W (i+1) m' σ' H')/\∀ x H',J.yld i H x H' ->g x σ H' λ σ2 H2=>tf σ2 H2 λ b H3=>
  if b=true then te σ2 H3 λ v H4=>∃ xs,H4 D=some (.lst xs)/\xs.length < sizeLine/\N σ2 (upd H4 D (.lst (xs++ [v]))) else N σ2 H3)
def qq6 (caps:List (Option Nat)) (wi:TI) (g:TG) (tf:TT) (te:TE):TE:=λ σ H Q=>wi σ H λ J H1=>∀ D,H1 D=none ->
 ∃ W:Nat ->Nat ->St ->Hp ->Prop,(∃ m,W 0 m (capt caps σ) (upd H1 D (.lst [])))/\qx8 J g tf te D (λ H'=>Q (.ref D) H') W
section
variable {X:Cx} {xC:xG} {σ:St} {H:Hp} {s:Shared} {N:xD} {caps:List (Option Nat)} {scope:Scope} {elt tg iter:Expr} {ifs:List Expr} {wi:TI} {g:TG} {tf:TT} {te:TE} {pos:Pos}
def qi9 {RR:Value ->Addr ->Result ->Shared ->Prop} {cl:List (Str×Addr)} {Q:VK} (hc:X.calm=true) (S:CompOk X.N X.env.scope N caps scope) (hi:PI X tg iter wi)
  (hg:∀ cl C fp s H,PG (q3u X N scope cl C fp s H) tg g) (hf:∀ cl C fp s H,PF (q3u X N scope cl C fp s H) ifs tf) (he:∀ cl C fp s H,PE (q3u X N scope cl C fp s H) elt te)
  (c1:∀ x c,cl.lookup x=some c ->X.env.cells.lookup x=some c) (c2:∀ y∈scope.names,y.2= .free ->∃ c,cl.lookup y.1=some c)
  (I:Inv X xC σ H s) (h:qq6 caps wi g tf te σ H Q)
  (fin:∀ (D C:Addr) (m:xE) (H5:Hp) (s5:Shared),Inv X xC σ H5 s5 ->s5.heap.Ns C m ->FpOk X xC H5 C ->Q (.ref D) H5 ->RR (.ref D) C (.ok .next) s5):
  wpAny (model X.prog X.w) X.A (eval iter X.env) (λ x s₁=>wpAny (model X.prog X.w) X.A (pyIter x) (λ it s₂=>wpAny (model X.prog X.w) X.A (newList []) (λ acc s₃=>
   wpAny (model X.prog X.w) X.A (newFunctionEnv scope X.env.globals cl [] X.env.qual none .none (some X.env)) (λ a2 s₄=>
    codeAny (model X.prog X.w) X.A (.compStart (.ListComp elt [⟨tg,iter,ifs,0⟩] scope pos) 0 it acc {a2 with scope:=relabel scope X.env}) (RR acc a2.locals) s₄) X.xe s₃) X.xe s₂) X.xe s₁) X.xe s:=by
 refine thn (hi xC s σ H _ I h) λ v s1 h1=>thn h1 λ itv s2 h2=> ?_;obtain ⟨it,fp,tn,J,H2,e,I2,T,a9,f2,q⟩:=h2;subst e;have nD:H2 s2.heap.objs.size=none:=I2.hok.fresh (z48 _);obtain ⟨W,⟨m0,w0⟩,turn⟩:=q s2.heap.objs.size nD;refine z28 ?_;have I3:Inv X xC σ (upd H2 s2.heap.objs.size (.lst [])) {s2 with heap:=s2.heap.push {cls:= .type "list",data:= .seq ([]:xH).toArray}}:=
  I2.laid (t':=s2.toks) (o:= .lst []) (λ b ob e=>z0o _ e) (z48 _) ⟨z4b _,[],0,.nil,z1c _ rfl⟩
 have a8:∀ b∈fp,∃ o,s2.heap.get? b=some o:=λ b Z=>let ⟨o,e,_⟩:=T.obj 0 s2.heap a9 b Z;⟨o,e⟩
 have b9:∀ b∈fp,b≠s2.heap.objs.size:=λ b Z=>let ⟨o,e⟩:=a8 b Z;z40 (z3z e)
 generalize b8:({s2 with heap:=s2.heap.push {cls:= .type "list",data:= .seq ([]:xH).toArray}}:Shared)=s3 at I3;have eh:s3.heap=s2.heap.push {cls:= .type "list",data:= .seq ([]:xH).toArray}:=by rw [<- b8]
 generalize hD:s2.heap.objs.size=D at*;generalize b6:upd H2 D (.lst [])=H3 at I3 w0;have f3:∀ b∈fp,FpOk X xC H3 b:=λ b Z=>⟨by rw [<- b6,qh (b9 b Z)];exact (f2 b Z).1,(f2 b Z).2⟩;have c0:∀ b∈fp,∃ o,s3.heap.get? b=some o:=λ b Z=>let ⟨o,e⟩:=a8 b Z;⟨o,by rw [eh];exact z0o _ e⟩
 have c4:tn 0 s3.heap:=T.keep 0 _ _ a9 λ b Z o e=>by rw [eh];exact z0o _ e
 show wpAny (model X.prog X.w) X.A (newFunctionEnv scope X.env.globals cl [] X.env.qual none .none (some X.env)) _ X.xe s3;refine wpAny_newFunctionEnv S.nocell (by intro y hy;simp at hy) (λ h₁ a6 a7=> ?_) S.kind;have k1:∀ b u,s3.heap.get? b=some u ->h₁.get? b=some u:=λ b u e=>a7.extBut b u (z40 (z3z e)) (z0o _ e);have J0:=quy (tk:=s3.toks+([]:List (Str×Value)).length) I3 f3 c0 S c1 c2 a6 k1;generalize hC:s3.heap.objs.size=C at*;generalize O:q3u X N scope cl C fp s3 H3=X' at J0;have a0:tn 0 h₁:=T.keep 0 _ _ c4 λ b Z o e=>k1 b o e;have a1:∀ {H':Hp},(∀ b∈fp,H' b=none) ->∀ b∈fp,FpOk X' [] H' b:=λ {H'} hn b Z=>by
  subst O;exact ⟨hn b Z,(J0.ok.exf b Z).1,J0.ok.exfs b Z,.inl Z,(J0.ok.exf b Z).2,λ p hp=>absurd (show p∈([]:xG) from hp) (by simp)⟩
 have loop:∀ s4:Shared,s4={s3 with heap:=h₁,toks:=s3.toks+([]:List (Str×Value)).length} ->
   codeAny (model X.prog X.w) X.A (.compLoop (.ListComp elt [⟨tg,iter,ifs,0⟩] scope pos) 0 (.ref it) (.ref D) (compEnvC scope cl C X.env)) (RR (.ref D) C) s4:=by
  rintro s4 rfl;refine qlh (λ n s'=>∃ i σ' H',Inv X' [] σ' H' s'/\tn i s'.heap/\(∀ b∈fp,H' b=none)/\W i n σ' H') ?_ m0 ⟨0,_,H3,J0,a0,λ b Z=>(f3 b Z).1,w0⟩;rintro n s4 ⟨i,σ4,H4,J4,a0,a5,w4⟩;rcases turn i n σ4 H4 w4 with ⟨stop,qn⟩ | ⟨go,Nn,b7,step⟩
  ·have d:=T.done X' (by subst O;rfl) (by subst O;rfl) (by subst O;rfl) (by subst O;exact hc) i [] s4 σ4 H4 (λ _ _=>False) J4 (a1 a5) a0 stop;have eA:X'.A=X.A:=by subst O;rfl
   rw [eA] at d;refine z4g d (λ r s5 hr=> ?_) λ _ _ z=>z;obtain ⟨hr,J5⟩:=hr;subst hr;have I5:Inv X xC σ H4 s5:=by
    subst O;exact I3.call' J5.os J5.base J5.hok J5.bare λ b Z=>⟨(f3 b Z).2.2.2.1,(f3 b Z).2.1,(f3 b Z).2.2.2.2.1,(f3 b Z).2.2.2.2.2⟩
   obtain ⟨m,hn,_⟩:=J5.loc;have fr:=J5.free;subst O;exact fin D C m H4 s5 I5 hn (I3.fpOk (b:=C) (Nat.le_of_eq hC) fr) qn
  ·have d:=T.item X' (by subst O;rfl) (by subst O;rfl) (by subst O;rfl) (by subst O;exact hc) i [] s4 σ4 H4 (λ _ _=>False) J4 (a1 a5) a0 go;have eA:X'.A=X.A:=by subst O;rfl
   rw [eA] at d;refine z4g d (λ r s5 hr=> ?_) λ _ _ z=>z;obtain ⟨u,hr,h5⟩:=hr;subst hr;refine z4g h5 (λ _ s6 q6=> ?_) λ _ _ z=>z;obtain ⟨x,H6,J6,r6,y6,a4,b4⟩:=q6;have b3:=J6.pinned (a1 b4) (T.obj _ _ a4);have again:∀ {H9:Hp} {s9:Shared} {σ9:St},Inv X' ([]++qbc fp s6.heap) σ9 H9 s9 ->Nn σ9 H9 ->∃ m,m < n/\∃ i σ' H',Inv X' [] σ' H' s9/\tn i s9.heap/\(∀ b∈fp,H' b=none)/\W i m σ' H':=λ {H9 s9 σ9} J9 q9=>by
    obtain ⟨m',hm,w9⟩:=b7 σ9 H9 q9;refine ⟨m',hm,i+1,σ9,H9,J9.unpinned,T.keep _ _ _ a4 λ b Z o e=>(J9.pin (b,o) (z0w _ (z0w _ (q5k Z e)))).1,λ b Z=> ?_,w9⟩;obtain ⟨o,e,d⟩:=T.obj _ _ a4 b Z;exact (J9.pin (b,o) (z0w _ (z0w _ (q5k Z e)))).2.1
   subst O;refine z4g (hg cl C fp s3 H3 _ s6 σ4 H6 x u _ b3 r6 (step x H6 y6)) (λ _ s7 q7=> ?_) λ _ _ z=>z;obtain ⟨σ7,H7,J7,q7⟩:=q7;refine z4g (hf cl C fp s3 H3 _ s7 σ7 H7 _ J7 q7) (λ ok s8 q8=> ?_) λ _ _ z=>z;obtain ⟨H8,J8,q8⟩:=q8;cases ok with
   | false=>
    rw [if_neg (by decide)] at q8;rw [if_neg (by decide)];exact again J8 q8
   | true=>
    rw [if_pos rfl] at q8;rw [if_pos rfl];refine z4g (he cl C fp s3 H3 _ s8 σ7 H8 _ J8 q8) (λ v9 s9 q9=> ?_) λ _ _ z=>z;obtain ⟨y,H9,J9,r9,xs,b5,hz,q9⟩:=q9;refine z4g (q6x (X:=q3u X N scope cl C fp s3 H3) _ s9 σ7 H9 (.ref D) [y] (.ref D) [v9] (λ _ H'=>Nn σ7 H') J9 rfl (.cons r9 .nil) ⟨D,xs,y,zr,zr,b5,hz,q9⟩) (λ _ s10 a3=> ?_) λ _ _ z=>z;obtain ⟨_,H10,b2,_,a3⟩:=a3;exact again b2 a3
 exact codeAny_compStart_list (loop _ rfl) (T.self _ 0 _ _ _ a0 (loop _ rfl))
def q2b (hc:X.calm=true) (ho:qf4 X.N X.env.scope N caps scope=true) (hi:PI X tg iter wi)
  (hg:∀ cl C fp s H,PG (q3u X N scope cl C fp s H) tg g) (hf:∀ cl C fp s H,PF (q3u X N scope cl C fp s H) ifs tf) (he:∀ cl C fp s H,PE (q3u X N scope cl C fp s H) elt te)
  (hs:∀ x,foldedSetIterable iter X.env x=pure x:=by intro _;rfl):PE X (.ListComp elt [⟨tg,iter,ifs,0⟩] scope pos) (qq6 caps wi g tf te):=by
 intro xC s σ H Q I h;have S:=qi8 ho;obtain ⟨cl,O,c1,c2⟩:=qom (scope:=scope) (env:=X.env) (λ y hy e=>I.ok.has y.1 (S.fr y hy e));rw [eval_ListComp];refine wpAny_comprehension_free (use:=none) rfl hs O S.kind S.loc (qi9 (RR:=λ acc C=>compPost (model X.prog X.w) X.A X.xe none (EP X xC σ Q) acc C) hc S hi hg hf he c1 c2 I h ?_);intro D C m H5 s5 I5 hn J q;exact ⟨m,hn,λ h' sb=>⟨.ref D,H5,I5.turned (t':=s5.toks) (λ b o hb e=>(sb.2 b hb).trans e) J.1 J.2.1 J.2.2.2.1 J.2.2.2.2.1 J.2.2.2.2.2,zr,q⟩⟩
def qa1 {i:Nat} {x:Str} {px J:Pos} (hN:X.N.Nodup) (a3:X.N[i]? =some x) (hx:X.env.scope.names.lookup x=some .local) (hc:X.calm=true) (ho:qf4 X.N X.env.scope N caps scope=true) (hi:PI X tg iter wi)
  (hg:∀ cl C fp s H,PG (q3u X N scope cl C fp s H) tg g) (hf:∀ cl C fp s H,PF (q3u X N scope cl C fp s H) ifs tf) (he:∀ cl C fp s H,PE (q3u X N scope cl C fp s H) elt te)
  (a4:swapsWith (.ListComp elt [⟨tg,iter,ifs,0⟩] scope pos) (some (.Name x px)) J.line X.env=pure true:=by rfl)
  (hs:∀ x,foldedSetIterable iter X.env x=pure x:=by intro _;rfl):PS X (.Assign [.Name x px] (.ListComp elt [⟨tg,iter,ifs,0⟩] scope pos) J) (tAsg (qq6 caps wi g tf te) (qpu i)):=by
 intro xC s σ H D I h;have S:=qi8 ho;obtain ⟨cl,a2,c1,c2⟩:=qom (scope:=scope) (env:=X.env) (λ y hy e=>I.ok.has y.1 (S.fr y hy e));rw [exec_Assign_Name_used _ _ _ _ a4];refine z4f (wpAny_standAt (z4f ?_));show wpAny _ X.A (do let _ <- comprehension (.ListComp elt [⟨tg,iter,ifs,0⟩] scope pos) scope X.env _ (newList []) false (eval iter X.env) (some (assign (.Name x px) X.env))) _ _ s;refine z4f (z4g (wpAny_comprehension_free (use:=some (assign (.Name x px) X.env)) (Q:=λ _ s'=>SP X xC D .next s') rfl hs a2 S.kind S.loc
  (qi9 (RR:=λ acc C=>compPost (model X.prog X.w) X.A X.xe (some (assign (.Name x px) X.env)) (λ _ s'=>SP X xC D .next s') acc C) hc S hi hg hf he c1 c2 I h ?_)) (λ _ s' hq=>z4e (z4e hq)) λ _ _ e=>e)
 intro Da C m H5 s5 I5 hn Z q;obtain ⟨oC,es,ep,a0,hd,O⟩:=id hn;have a1:=I5.pinned (fp:=[C]) (λ b hb=>by
  have e:b=C:=by simpa using hb
  subst e;exact Z) (λ b hb=>by
  have e:b=C:=by simpa using hb
  subst e;exact ⟨oC,a0,λ v z=>by rw [hd] at z;cases z⟩)
 show wpAny _ X.A (assign (.Name x px) X.env (.ref Da)) _ _ _;refine wpAny_assign_Name (qdt a1 hN a3 (.inl hx) (v:= .ref Da) rfl (λ s6 I6=> ?_) (.inr hx));have pC:=I6.pin (C,oC) (z0w _ (z0w _ (q5k (by simp) a0)));refine ⟨m,⟨oC,es,ep,pC.1,hd,O⟩,λ h' sb=> ?_⟩;exact ⟨_,H5,I6.unpinned.turned (t':=s6.toks) (λ b o hb e=>(sb.2 b hb).trans e) Z.1 Z.2.1 Z.2.2.2.1 Z.2.2.2.2.1 Z.2.2.2.2.2,q⟩
end
def q20 {J:It} {g:TG} {tf:TT} {te:TE} {D:Addr} {QE:Hp ->Prop} {σ:St} {H:Hp} (n:Nat) (Pv:Nat ->St ->Hp ->Prop) (h0:Pv 0 σ H) (Z:∀ i σ H,i < n ->Pv i σ H ->J.go i H) (a0:∀ σ H,Pv n σ H ->J.stop n H/\QE H)
  (hs:∀ i σ H,i < n ->Pv i σ H ->∀ x H',J.yld i H x H' ->g x σ H' λ σ2 H2=>tf σ2 H2 λ b H3=>if b=true then te σ2 H3 λ v H4=>∃ xs,H4 D=some (.lst xs)/\xs.length < sizeLine/\Pv (i+1) σ2 (upd H4 D (.lst (xs++ [v]))) else Pv (i+1) σ2 H3):
  ∃ W:Nat ->Nat ->St ->Hp ->Prop,(∃ m,W 0 m σ H)/\qx8 J g tf te D QE W:=by
 refine ⟨λ i m σ H=>m=n - i/\i<=n/\Pv i σ H,⟨n,by simp,z4b _,h0⟩,?_⟩;rintro i m σ H ⟨rfl,hi,p⟩;by_cases O:i < n
 ·exact .inr ⟨Z i σ H O p,Pv (i+1),λ σ' H' p'=>⟨n - (i+1),by lia,zr,O,p'⟩,hs i σ H O p⟩
 ·have e:i=n:=by lia
  subst e;exact .inl (a0 σ H p)
def qsc {J:It} {g:TG} {tb:TS} {D:Ends} {σ:St} {H:Hp} (n:Nat) (Pv:Nat ->St ->Hp ->Prop) (h0:Pv 0 σ H) (Z:∀ i σ H,i < n ->Pv i σ H ->J.go i H) (a0:∀ σ H,Pv n σ H ->J.stop n H/\D.nx σ H)
  (hs:∀ i σ H,i < n ->Pv i σ H ->∀ x H',J.yld i H x H' ->g x σ H' λ σ2 H2=>tb {D with nx:=Pv (i+1),ct:=Pv (i+1),bk:=D.nx} σ2 H2):
  ∃ W:Nat ->Nat ->St ->Hp ->Prop,(∃ m,W 0 m σ H)/\∀ i m σ H,W i m σ H ->
   (J.stop i H/\D.nx σ H)\/ (J.go i H/\∃ N:St ->Hp ->Prop,(∀ σ' H',N σ' H' ->∃ m',m' < m/\W (i+1) m' σ' H')/\∀ x H',J.yld i H x H' ->g x σ H' λ σ2 H2=>tb {D with nx:=N,ct:=N,bk:=D.nx} σ2 H2):=by
 refine ⟨λ i m σ H=>m=n - i/\i<=n/\Pv i σ H,⟨n,by simp,z4b _,h0⟩,?_⟩;rintro i m σ H ⟨rfl,hi,p⟩;by_cases O:i < n
 ·exact .inr ⟨Z i σ H O p,Pv (i+1),λ σ' H' p'=>⟨n - (i+1),by lia,zr,O,p'⟩,hs i σ H O p⟩
 ·have e:i=n:=by lia
  subst e;exact .inl (a0 σ H p)
def Its (z:Str):It:=⟨λ i _=>i < z.cps.size,λ i H x H'=>H'=H/\∃ c,z.cps[i]? =some c/\x= .str ⟨#[c]⟩,λ i _=>i=z.cps.size⟩
def q10p {M:Model} {A:Around} {E:xB} {s:Shared} {tg:Expr} {it:Addr} {x:Str} {t:Tok} {Q:Unit ->Shared ->Prop} (hQ:Q () s):wpAny M A (letOwnedTupleGo tg (.ref it) (.str x t)) Q E s:=by
 unfold letOwnedTupleGo;cases tg <;> exact z4e hQ
def quz {P:Program} {w:World} {K:xA} {tg:Expr} (it:Addr) (z:Str) (t:Tok) (ty:String) (O:ty="str_ascii_iterator"\/ ty="str_iterator"):
  Turn P w K tg (Its z) [it] it (λ i h=>h.IsStrIter it ty z t i) where
 mem:=by simp
 obj:=λ i h st b J=>by
  have e:b=it:=by simpa using J
  subst e;obtain ⟨o,e,c,d⟩:=st;exact ⟨o,e,λ v z=>by rw [d] at z;cases z⟩
 keep:=λ i h h' st k=>let ⟨o,ho,r⟩:=st;⟨o,k it (by simp) o ho,r⟩
 item:=by
  intro X hP hw hK Z i xC s σ H E I hf st hg;subst hP hw hK;obtain ⟨f0,f1,f2,f3,f4,f5⟩:=hf it (by simp);have W:Walks X.prog X.w X.A it [it] [it] z.cps.size (SignAt z) (λ i h=>h.IsStrIter it ty z t i):=by
   rcases O with rfl | rfl
   ·exact Walks.strAscii (I.ok.hd Z) it z t
   ·exact Walks.strWide (I.ok.hd Z) it z t
  refine W.item i s _ _ hg st λ v h' tk hv a0 kk=> ?_;obtain ⟨c,u,hx,rfl⟩:=hv;have I1:Inv X xC σ H {s with heap:=h',toks:=tk}:=I.turned (λ b o J e=>kk b o (by simpa using J) e) f0 f1 f3 f4 f5;exact ⟨_,zr,q10p ⟨.str ⟨#[c]⟩,H,I1,⟨u,zr⟩,⟨zr,c,hx,zr⟩,a0,λ b J=>(hf b J).1⟩⟩
 done:=by
  intro X hP hw hK Z i xC s σ H E I hf st hg;subst hP hw hK;obtain ⟨f0,f1,f2,f3,f4,f5⟩:=hf it (by simp);have W:Walks X.prog X.w X.A it [it] [it] z.cps.size (SignAt z) (λ i h=>h.IsStrIter it ty z t i):=by
   rcases O with rfl | rfl
   ·exact Walks.strAscii (I.ok.hd Z) it z t
   ·exact Walks.strWide (I.ok.hd Z) it z t
  have e:i=z.cps.size:=hg;subst e;exact W.done s _ _ st λ h' tk kk=>⟨zr,I.turned (λ b o J e=>kk b o (by simpa using J) e) f0 f1 f3 f4 f5⟩
 self:=λ _ _ _ _ _ st h=>by
  rcases O with rfl | rfl
  ·exact wpAny_pyIter_striter_ascii st h
  ·exact wpAny_pyIter_striter_wide st h
section
variable {X:Cx} {tg:Expr}
def iStr (tl:TE):TI:=λ σ H R=>tl σ H λ x H1=>∃ z,x= .str z/\R (Its z) H1
def q10q {l:Expr} {tl:TE} (hl:PE X l tl):PI X tg l (iStr tl):=by
 intro xC s σ H R I h;refine thn (hl xC s σ H _ I h) λ v s1 O=> ?_;obtain ⟨x,H1,I1,r1,q1⟩:=O;obtain ⟨z,e,q⟩:=q1;subst e;obtain ⟨t,rfl⟩:=r1;have fin:∀ ty,(ty="str_ascii_iterator"\/ ty="str_iterator") ->PIE X xC σ tg R (.ref s1.heap.objs.size) {s1 with heap:=s1.heap.push {cls:= .type ty,data:= .fields #[.str z t,.int 0 0]}}:=λ ty J=>by
  refine ⟨s1.heap.objs.size,[s1.heap.objs.size],_,_,H1,zr,I1.kept (t':=s1.toks) λ b o e=>z0o _ e,quz _ z t ty J,⟨_,z1c _ rfl,zr,zr⟩,λ b hb=> ?_,q⟩;have e:b=s1.heap.objs.size:=by simpa using hb
  subst e;exact I1.fpOk (z48 _) (I1.hok.fresh (z48 _))
 cases Z:z.cps.all (· < 128)
 ·exact wpAny_pyIter_wide Z (fin _ (.inr rfl))
 ·exact wpAny_pyIter_ascii Z (fin _ (.inl rfl))
end
def cutS (z:Str) (lo hi:Option Int):Str:=⟨((z.cps.toList.drop (HT.sIx z.length 0 lo)).take (HT.sIx z.length z.length hi - HT.sIx z.length 0 lo)).toArray⟩
def qj1 (lo hi:Option Int) (n:Nat):Builtin.Str.strSliceIndices lo hi 1 n=(List.range (HT.sIx n n hi - HT.sIx n 0 lo)).map (HT.sIx n 0 lo+ ·):=by
 have h:Builtin.Str.strSliceIndices lo hi 1 n=sliceRange ((HT.sIx n 0 lo:Nat):Int) ((HT.sIx n n hi:Nat):Int) 1:=by
  unfold Builtin.Str.strSliceIndices;simp only [show (1:Int) > 0 by decide,if_true]
  congr 1
  ·cases lo with
   | none=>rfl
   | some i=>
    rw [<- HT.clip_eq i n 0];show max 0 (min (if i < 0 then i+(n:Int) else i) (n:Int))=_;split <;> lia
  ·cases hi with
   | none=>rfl
   | some i=>
    rw [<- HT.clip_eq i n n];show max 0 (min (if i < 0 then i+(n:Int) else i) (n:Int))=_;split <;> lia
 rw [h];unfold sliceRange;simp only [show (1:Int) > 0 by decide,if_true];have e2:(if ((HT.sIx n 0 lo:Nat):Int) < ((HT.sIx n n hi:Nat):Int) then (((HT.sIx n n hi:Nat):Int) - ((HT.sIx n 0 lo:Nat):Int)+1 - 1) / 1 else 0).toNat=HT.sIx n n hi - HT.sIx n 0 lo:=by
  split
  ·rw [Int.ediv_one];lia
  ·lia
 rw [e2]
 apply z1f
 intro k _
 lia
def qq7 (xs:Array Nat) (i k:Nat):(((List.range k).map (i+ ·)).filterMap (xs[·]?))=(xs.toList.drop i).take k:=by
 induction k with
 | zero=>simp
 | succ k ih=>
  rw [z35,z36,List.filterMap_append,ih,z3h]
  congr 1
  simp only [z3l,z44,List.getElem?_drop,z0x];cases h:xs[i+k]? <;> simp [h]
def qnq (z:Str) (lo hi:Option Int):(cutS z lo hi).length<=z.length:=by
 show ((z.cps.toList.drop _).take _).toArray.size<=z.length;rw [z23,z2g,z2h];have:z.cps.toList.length=z.length:=by simp [Str.length]
 lia
section
variable {X:Cx}
def rSlS:V ->Option Int ->Option Int ->Hp ->VK ->Prop:=λ x lo hi H Q=>∃ z,x= .str z/\z.length<=sizeLine/\Q (.str (cutS z lo hi)) H
def q10r:SlR X rSlS:=by
  intro xC s σ H x v vl vu lo hi sl Q I rx hs pl pu h;obtain ⟨z,rfl,Z,q⟩:=h;obtain ⟨t,rfl⟩:=rx;refine ⟨"str",_,F.slot_str_getitem.lookup,typeIs_str s z t,?_⟩;obtain ⟨l,rfl,el⟩:∃ l:Option (Int×Tok),vl=partValue l/\l.map (·.1)=lo:=by
    cases pl with
    | none=>exact ⟨none,rfl,rfl⟩
    | int i t=>exact ⟨some (i,t),rfl,rfl⟩
  obtain ⟨u,rfl,eu⟩:∃ u:Option (Int×Tok),vu=partValue u/\u.map (·.1)=hi:=by
    cases pu with
    | none=>exact ⟨none,rfl,rfl⟩
    | int i t=>exact ⟨some (i,t),rfl,rfl⟩
  refine wpAny_getItem_str_slice (l:=l) (u:=u) (st:=none) hs rfl ?_;have ep:slicePicked z l u none=(List.range (HT.sIx z.length z.length hi - HT.sIx z.length 0 lo)).map (HT.sIx z.length 0 lo+ ·):=by
    unfold slicePicked;rw [el,eu];exact qj1 lo hi z.length
  have ec:(slicePicked z l u none).filterMap (z.cps[·]?)=(z.cps.toList.drop (HT.sIx z.length 0 lo)).take (HT.sIx z.length z.length hi - HT.sIx z.length 0 lo):=by
    rw [ep,qq7]
  unfold sliceMade;split
  · rename_i hw
    have J:(slicePicked z l u none).length=z.length:=by simpa using hw
    have e:cutS z lo hi=z:=by
      have hl:z.cps.toList.length=z.length:=by simp [Str.length]
      rw [ep,z30,z29] at J;have h1:=HT.sIx_le z.length z.length (z48 _) hi;have O:HT.sIx z.length 0 lo=0\/ z.length=0:=by lia
      unfold cutS;rcases O with O | O
      · rw [J,O,List.drop_zero,z0n (by lia)]
      · have z0:z.cps.toList=[]:=List.eq_nil_of_length_eq_zero (by lia)
        rw [z0,List.drop_nil,List.take_nil];cases z with
        | mk cps=>
          congr 1
          exact (Array.toList_inj.mp z0).symm
    rw [e] at q;exact ⟨.str z,H,I,⟨t,zr⟩,q⟩
  · have e:(⟨((slicePicked z l u none).filterMap (z.cps[·]?)).toArray⟩:Str)=cutS z lo hi:=by
      unfold cutS;rw [ec]
    rw [e];exact ⟨z41 (qnq z lo hi) Z,.str (cutS z lo hi),H,I.tok _,⟨_,zr⟩,q⟩
end
def qsd (bs:List Bool):(List.range bs.length).all (λ i=>(bs[i]?).getD true)=bs.all id:=by
 rw [z2z,z2n,z2n]
 constructor
 ·intro h b hb;obtain ⟨i,hi,e⟩:=z12.mp hb;have:=h i (z3d.mpr hi);rw [z0d hi,e] at this;exact this
 ·intro h i hi;have J:=z3d.mp hi;rw [z0d J];exact h _ (z2k J)
def qon {bs:List Bool} {us:xH} (r:Vals (bs.map V.bl) us) {i:Nat} {v:Value} (h:us[i]? =some v):∃ b,bs[i]? =some b/\v= .bool b:=by
 have hl:=r.length;obtain ⟨hi,_⟩:=z07.mp h;rw [<- hl,z30] at hi;have e:(bs.map V.bl)[i]? =some (V.bl bs[i]):=by rw [z22,z0d hi];rfl
 obtain ⟨u,J,ru⟩:=r.get e;rw [h] at J;cases J
 exact ⟨bs[i],z0d hi,ru⟩
section
variable {X:Cx}
def q8x (hc:X.calm=true) (K:xA) (hK:X.K=K:=by rfl):q22 X (.builtin "all") (λ xs H Q=>∃ (p:Addr) (bs:List Bool),xs=[.ref p]/\SqL K H p (bs.map V.bl)/\Q (.bl (bs.all id)) H):=by
 subst hK;intro xC s σ H xs us Q I r h;obtain ⟨p,bs,rfl,hp,q⟩:=h;obtain ⟨u,rfl,ru⟩:=q33 r;cases ru
 obtain ⟨its,rv,pl,hz⟩:=I.list hp;have hl:its.toArray.size=bs.length:=by
  have:=rv.length;rw [z30] at this;rw [z23];exact this.symm
 have hh:X.A.in1.handled=none:=I.ok.hd hc;have O:p≠s.heap.objs.size:=λ e=>by
  obtain ⟨o,n,e1,_⟩:=pl;exact absurd (z3z e1) (by rw [e];exact z3p _)
 refine call_all_walk (z25 pl.isList ?_);refine ⟨s.heap.objs.size,_,_,_,_,_,λ i=>(bs[i]?).getD true,zr,Walks.list hh _ p O its.toArray,⟨⟨_,z1c _ rfl,zr,zr⟩,pl.isList.at λ o e=>z0o _ e⟩,?_,λ h' tk kk=> ?_⟩
 ·intro i v s' Q' E' hv hq;have Z:its[i]? =some v:=by simpa using hv
  obtain ⟨b,e,rfl⟩:=qon rv Z;have J:Q' ((bs[i]?).getD true) s':=hq;rw [e] at J;exact z24 J
 ·rw [hl,qsd];exact ⟨.bl _,H,I.kept λ b o e=>kk b o (by simp;exact z40 (z3z e)) (z0o _ e),rfl,q⟩
def tyTs:List String:=["NoneType","bool","int","str","list","tuple","dict"]
def tyNs:List String:=["bool","int","str","list","tuple","dict"]
def tyIs (T n:String):Bool:=T==n || (T=="bool"&&n=="int")
def qye:∀ T∈tyTs,∀ n∈tyNs,PySem.W.kitMeta n=true/\(PySem.fastBuiltinMro T).map (·.contains (Value.type n))=some (tyIs T n):=by decide+kernel
def qyf {K:xA} {T n:String} (hT:T∈tyTs) (hn:n∈tyNs):PySem.W.kitOne K (.type T) (.type n)=some (tyIs T n):=by
 obtain ⟨h1,h2⟩:=qye T hT n hn;unfold PySem.W.kitOne;split
 ·rename_i e;have e':=eq_of_beq e;injection e' with J;subst J;simp [tyIs]
 ·unfold PySem.W.kitCls;show (if PySem.W.kitMeta n=true then PySem.W.subIn K (.type T) (.type n) else none)=_;rw [if_pos h1];exact h2
def q12s {x:Str} {i:Int} {pos:Pos} (hg:Gl X x) (hm:∃ t,X.mg x=some (.int i t)) (hd:(x==("__debug__":Str))=false:=by decide):PE X (.Name x pos) (tC (.int i)):=by
 obtain ⟨t,e⟩:=hm;exact qog hg e ⟨t,zr⟩ hd
def qke {x z:Str} {pos:Pos} (hg:Gl X x) (hm:∃ t,X.mg x=some (.str z t)) (hd:(x==("__debug__":Str))=false:=by decide):PE X (.Name x pos) (tC (.str z)):=by
 obtain ⟨t,e⟩:=hm;exact qog hg e ⟨t,zr⟩ hd
def q5l {x:Str} {n:String} {pos:Pos} (hg:Gl X x) (hm:X.mg x=none) (hv:bootBuiltins x=some (.type n)) (hn:x≠"__name__":=by decide) (hd:(x==("__debug__":Str))=false:=by decide):PE X (.Name x pos) (tC (.ty n)):=
 qxr hg hm hv rfl hn hd
end
structure Top (K:xA) (mg:xE) (x:Str) (st:Stmt) (ps:xD):Prop where
 ex:∃ f fd,Fun K x x st f fd/\mg x=some (.ref f)/\∀ us:List Value,us.length=ps.length ->bindArgs fd ⟨us,[]⟩=pure (ps.zip us)
def q10s {K:xA} {h:Heap} {mg:xE} {x:Str} {st:Stmt} {ps:xD} {f:Addr} {oc:Value} {od O:Option Addr} {a0:Array (Option Value)} {kV J Z cdv ct:Value} (X:K.In h) (G:h.Ns mainGlobals mg)
  (b:∀ (kV J Z:Value) (O:Option Addr) (cdv ct:Value) (us:xH),us.length=ps.length ->bindArgs (PySem.W.fnOf x x (q1s st) (q1e st) (qc st) .none kV J Z O cdv ct) ⟨us,[]⟩=pure (ps.zip us))
  (a:PySem.W.nsIn K mainGlobals x=some (some (.ref f)))
  (l:K.lookup f=some ⟨oc,od,.func (PySem.W.fnOf x x (q1s st) (q1e st) (qc st) .none kV J Z O cdv ct),a0⟩) (c:PySem.W.codeIn K cdv x=true) (k:PySem.W.keepIn K (.ref f)=true):Top K mg x st ps:=by
 have F:=qsa (st:=st) l c k;exact ⟨f,_,F,z3r X G a,b kV J Z O cdv ct⟩
structure Def (P:Program) (w:World) (K:xA) (mg:xE) (base:Heap) (k:Nat) (x:Str) (ps:xD) (sp:Sp):Prop where
 ex:∃ f fd,FnOk P w K mg base CX0 k f fd ps sp/\mg x=some (.ref f)/\PySem.W.keepIn K (.ref f)=true/\Binds K fd ps []
theorem Top.ok {P:Program} {w:World} {K:xA} {mg:xE} {base:Heap} {x:Str} {st:Stmt} {N ps:xD} {k:Nat} {sp:Sp} (T:Top K mg x st ps) (S:FnScope N ps (qc st)) (len:∀ vs H Q E,sp vs H Q E ->vs.length=ps.length)
  (J:∀ (f:Addr) (cdv:Value) (A:Around) (outer:List Env) (s:Shared) (H:Hp) (vs:List V) (Q:VK) (E:XK),Room k (A.deeper (envOfC x (qc st) s.heap.objs.size f cdv)) ->sp vs H Q E ->
   ∃ t,PSs (cxOf CX0 P w K mg base N x (qc st) f cdv A outer s H E).nox (q1e st) t/\t {nx:=λ _ H'=>Q .non H',rt:=Q} (start N vs) H):Def P w K mg base (k+1) x ps sp:=by
 obtain ⟨f,fd,F,hm,hb⟩:=T.ex;exact ⟨f,fd,F.ok S len (J f),hm,F.kp,Binds.all hb⟩
def Top.fin {l:PySem.W.OpenLaw} {w:World} {K:xA} {mg:xE} {O:Addr} {x:Str} {st:Stmt} {N:xD} {k:Nat} {sp:Sp} (T:Top K mg "law" st [x]) (Z:mg "law"=some (.ref O)) (S:FnScope N [x] (qc st))
  (len:∀ vs H Q E,sp vs H Q E ->vs.length=[x].length)
  (J:∀ (base:Heap) (f:Addr) (cdv:Value) (A:Around) (outer:List Env) (s:Shared) (H:Hp) (vs:List V) (Q:VK) (E:XK),Room k (A.deeper (envOfC "law" (qc st) s.heap.objs.size f cdv)) ->sp vs H Q E ->
   ∃ t,PSs (cxOf CX0 l.prog w K mg base N "law" (qc st) f cdv A outer s H E).nox (q1e st) t/\t {nx:=λ _ H'=>Q .non H',rt:=Q} (start N vs) H):
  ∃ fd:FuncData,(∀ (s:Shared) (v:Value),BindsTo s fd ⟨[v],[]⟩ [(x,v)])/\∀ base:Heap,K.In base ->base.Ns mainGlobals mg ->FnOk l.prog w K mg base CX0 (k+1) O fd [x] sp:=by
 obtain ⟨f,fd,F,hm,hb⟩:=T.ex;have e:=Z.symm.trans hm;injection e with e;injection e with e;subst e;exact ⟨fd,λ s v=> .of_eq (hb [v] rfl),λ base _ _=>F.ok S len (J base O)⟩
section
variable {X:Cx} {k k':Nat} {x:Str} {ps:xD} {sp:Sp} {p pos:Pos} {e:Expr} {es:List Expr} {t:TA}
def qy (D:Def X.prog X.w X.K X.mg X.base k x ps sp) (hr:Room k' X.A) (hg:Gl X x) (ha:PA X (e::es) t) (O:k<=k':=by decide)
  (J:(x==("__debug__":Str))=false:=by decide) (he:starEach (e::es) X.env=(false,eval e X.env)::starEach es X.env:=by rfl) (Z:(backTo pos (starEach es X.env)).any (·.1)=false:=by rfl):
  PE X (.Call (.Name x p) (e::es) [] pos) (qx3 sp [] E0 t):=by
 obtain ⟨f,fd,F,hm,hk,hb⟩:=D.ex;exact qxy F (hr.mono O) hg hm hk hb .nil qcn ha J he Z
end
section
variable {X:Cx} {tg:Expr}
def q2r (K:xA) (hK:X.K=K:=by rfl):q22 X (.builtin "len") (λ xs H Q=>∃ x n,xs=[x]/\LenV K x H n/\Q (.int n) H):=by subst hK;exact qup
def q16 (K:xA) (hK:X.K=K:=by rfl):IxR X (rIxL K):=by subst hK;exact qy5
def q48 (K:xA) (hK:X.K=K:=by rfl):SlR X (rSlL K):=by subst hK;exact qy6
def q1a (K:xA) {l:Expr} {tl:TE} (hl:PE X l tl) (hK:X.K=K:=by rfl):PI X tg l (qx0 K tl):=by subst hK;exact qxs hl
def q65 (K:xA) {l:Expr} {tl:TE} (hl:PE X l tl) (hK:X.K=K:=by rfl):PI X tg l (iTup K tl):=by subst hK;exact q10g hl
def q10t (K:xA) (hK:X.K=K:=by rfl):OpR X (compareOp .In) (rIn K false):=by subst hK;exact qs1
def qse (K:xA) (hK:X.K=K:=by rfl):OpR X (compareOp .NotIn) (rIn K true):=by subst hK;exact qla
def qa2 (K:xA) (hK:X.K=K:=by rfl):q22 X (.type "list") (λ xs H Q=>∃ p ys,xs=[.ref p]/\(SqL K H p ys\/ SqT K H p ys)/\∀ l,H l=none ->Q (.ref l) (upd H l (.lst ys))):=by subst hK;exact qlb
def q6o (K:xA) (hK:X.K=K:=by rfl):q22 X (.type "tuple") (λ xs H Q=>∃ p ys,xs=[.ref p]/\((SqL K H p ys/\∀ l,H l=none ->Q (.ref l) (upd H l (.tup ys)))\/ (SqT K H p ys/\Q (.ref p) H))):=by subst hK;exact qj0
end
def qsf {α:Type} {xs:List α} {i:Int} (h0:0<=i) (h1:i < xs.length):∃ v,atI xs i=some v/\v∈xs:=by
 have J:i.toNat < xs.length:=by lia
 refine ⟨xs[i.toNat],?_,z2k J⟩;unfold atI ixN;rw [if_pos h0,if_pos h1];show xs[i.toNat]? =_;exact z0d J
def q10u {α:Type} {xs:List α} {i:Int} (h0:0<=i) (h1:i < xs.length):atI xs i=xs[i.toNat]? :=by
 unfold atI ixN;rw [if_pos h0,if_pos h1];rfl
def qf {H:Hp} {a:Addr} {o:HO} (h:H a=none):Same H (upd H a o):=λ b u e=>by
 rw [qh (qu e h)];exact e
def Same.set {H H':Hp} {a:Addr} {o:HO} (h:Same H H') (n:H a=none):Same H (upd H' a o):=λ b u e=>by
 rw [qh (qu e n)];exact h b u e
def Same.seqT {K:xA} {H H':Hp} {a:Addr} {xs:List V} (e:Same H H') (h:SqT K H a xs):SqT K H' a xs:=by
 rcases h with (h | ⟨o,h⟩) | h
 ·exact .inl (.inl (e _ _ h))
 ·exact .inl (.inr ⟨o,e _ _ h⟩)
 ·exact .inr h
def q25:Expr ->Bool
 | .Starred _ _=>false
 | _=>true
def qj2 {e:Expr} {es:List Expr} {env:Env} (h:q25 e=true):starEach (e::es) env=(false,eval e env)::starEach es env:=by
 cases e <;> first
  | rfl
  | cases h
def q2w {X:Cx} {e:Expr} {es:List Expr} {te:TE} {t:TA} (ha:PE X e te) (hr:PA X es t) (hs:q25 e=true:=by rfl):PA X (e::es) (q34 te t):=qxx ha hr (qj2 hs)
def q3w:bootBuiltins "len"=some (.builtin "len"):=by decide+kernel
def q1m:bootBuiltins "isinstance"=some (.builtin "isinstance"):=by decide+kernel
def qf5:bootBuiltins "all"=some (.builtin "all"):=by decide+kernel
def q10v:bootBuiltins "any"=some (.builtin "any"):=by decide+kernel
def q26:bootBuiltins "sorted"=some (.builtin "sorted"):=by decide+kernel
def qli:bootBuiltins "min"=some (.builtin "min"):=by decide+kernel
def q10w:bootBuiltins "max"=some (.builtin "max"):=by decide+kernel
def q10x:bootBuiltins "str"=some (.type "str"):=by decide+kernel
def q10y:bootBuiltins "int"=some (.type "int"):=by decide+kernel
def qco:bootBuiltins "bool"=some (.type "bool"):=by decide+kernel
def q66:bootBuiltins "list"=some (.type "list"):=by decide+kernel
def q85:bootBuiltins "tuple"=some (.type "tuple"):=by decide+kernel
def qgi:bootBuiltins "dict"=some (.type "dict"):=by decide+kernel
def qoo {α:Type} {l:List α} {i:Nat} {d:α} (h:i < l.length):l.getD i d=l[i]:=by
 rw [z06,z0d h];rfl
def qyg {α:Type} {l:List α} {i:Nat} {d:α} (h:l.length<=i):l.getD i d=d:=by
 rw [z06,List.getElem?_eq_none_iff.mpr h];rfl
def pa_1 {X:Cx} {J:Expr} {Z:TE} (h0:PE X J Z) (O:q25 J=true:=by rfl):PA X [J] (q34 Z tNil):=(q2w h0 q2g O)
def pa_2 {X:Cx} {J e1:Expr} {t0 t1:TE} (h0:PE X J t0) (h1:PE X e1 t1) (O:q25 J=true:=by rfl) (Z:q25 e1=true:=by rfl):PA X [J,e1] (q34 t0 (q34 t1 tNil)):=(q2w h0 (q2w h1 q2g Z) O)
def pa_3 {X:Cx} {J e1 e2:Expr} {t0 t1 t2:TE} (h0:PE X J t0) (h1:PE X e1 t1) (h2:PE X e2 t2) (O:q25 J=true:=by rfl) (Z:q25 e1=true:=by rfl) (a0:q25 e2=true:=by rfl):PA X [J,e1,e2] (q34 t0 (q34 t1 (q34 t2 tNil))):=(q2w h0 (q2w h1 (q2w h2 q2g a0) Z) O)
def pa_4 {X:Cx} {J e1 e2 e3:Expr} {t0 t1 t2 t3:TE} (h0:PE X J t0) (h1:PE X e1 t1) (h2:PE X e2 t2) (h3:PE X e3 t3) (O:q25 J=true:=by rfl) (Z:q25 e1=true:=by rfl) (a0:q25 e2=true:=by rfl) (a1:q25 e3=true:=by rfl):PA X [J,e1,e2,e3] (q34 t0 (q34 t1 (q34 t2 (q34 t3 tNil)))):=(q2w h0 (q2w h1 (q2w h2 (q2w h3 q2g a1) a0) Z) O)
def pa_5 {X:Cx} {J e1 e2 e3 O:Expr} {t0 t1 t2 t3 t4:TE} (h0:PE X J t0) (h1:PE X e1 t1) (h2:PE X e2 t2) (h3:PE X e3 t3) (h4:PE X O t4) (Z:q25 J=true:=by rfl) (a0:q25 e1=true:=by rfl) (a1:q25 e2=true:=by rfl) (a2:q25 e3=true:=by rfl) (a3:q25 O=true:=by rfl):PA X [J,e1,e2,e3,O] (q34 t0 (q34 t1 (q34 t2 (q34 t3 (q34 t4 tNil))))):=(q2w h0 (q2w h1 (q2w h2 (q2w h3 (q2w h4 q2g a3) a2) a1) a0) Z)
def q2x {X:Cx} {J s1:Stmt} {O t1:TS} (h0:PS X J O) (h1:PS X s1 t1):PSs X [J,s1] (tSeq O t1):=(qx h0 (qg h1))
def q2p {X:Cx} {J s1 O:Stmt} {Z t1 t2:TS} (h0:PS X J Z) (h1:PS X s1 t1) (h2:PS X O t2):PSs X [J,s1,O] (tSeq Z (tSeq t1 t2)):=(qx h0 (qx h1 (qg h2)))
def qkf {X:Cx} {J s1 O s3:Stmt} {Z t1 t2 t3:TS} (h0:PS X J Z) (h1:PS X s1 t1) (h2:PS X O t2) (h3:PS X s3 t3):PSs X [J,s1,O,s3] (tSeq Z (tSeq t1 (tSeq t2 t3))):=(qx h0 (qx h1 (qx h2 (qg h3))))
def qx9 {X:Cx} {J s1 O s3 Z:Stmt} {t0 t1 t2 t3 t4:TS} (h0:PS X J t0) (h1:PS X s1 t1) (h2:PS X O t2) (h3:PS X s3 t3) (h4:PS X Z t4):PSs X [J,s1,O,s3,Z] (tSeq t0 (tSeq t1 (tSeq t2 (tSeq t3 t4)))):=(qx h0 (qx h1 (qx h2 (qx h3 (qg h4)))))
def q12t {X:Cx} {J s1 O s3 Z s5:Stmt} {t0 t1 t2 t3 t4 t5:TS} (h0:PS X J t0) (h1:PS X s1 t1) (h2:PS X O t2) (h3:PS X s3 t3) (h4:PS X Z t4) (h5:PS X s5 t5):PSs X [J,s1,O,s3,Z,s5] (tSeq t0 (tSeq t1 (tSeq t2 (tSeq t3 (tSeq t4 t5))))):=(qx h0 (qx h1 (qx h2 (qx h3 (qx h4 (qg h5))))))
def q12u {X:Cx} {J s1 O s3 Z s5 s6:Stmt} {t0 t1 t2 t3 t4 t5 t6:TS} (h0:PS X J t0) (h1:PS X s1 t1) (h2:PS X O t2) (h3:PS X s3 t3) (h4:PS X Z t4) (h5:PS X s5 t5) (h6:PS X s6 t6):PSs X [J,s1,O,s3,Z,s5,s6] (tSeq t0 (tSeq t1 (tSeq t2 (tSeq t3 (tSeq t4 (tSeq t5 t6)))))):=(qx h0 (qx h1 (qx h2 (qx h3 (qx h4 (qx h5 (qg h6)))))))
def q12v {X:Cx} {J s1 O s3 Z s5 s6 s7:Stmt} {t0 t1 t2 t3 t4 t5 t6 t7:TS} (h0:PS X J t0) (h1:PS X s1 t1) (h2:PS X O t2) (h3:PS X s3 t3) (h4:PS X Z t4) (h5:PS X s5 t5) (h6:PS X s6 t6) (h7:PS X s7 t7):PSs X [J,s1,O,s3,Z,s5,s6,s7] (tSeq t0 (tSeq t1 (tSeq t2 (tSeq t3 (tSeq t4 (tSeq t5 (tSeq t6 t7))))))):=(qx h0 (qx h1 (qx h2 (qx h3 (qx h4 (qx h5 (qx h6 (qg h7))))))))
def q12w {X:Cx} {J s1 O:Stmt} {Z:List Stmt} {t0 t1 t2 u:TS} (h0:PS X J t0) (h1:PS X s1 t1) (h2:PS X O t2) (hu:PSs X Z u):PSs X (J::s1::O::Z) (tSeq t0 (tSeq t1 (tSeq t2 u))):=(qx h0 (qx h1 (qx h2 hu)))
def q10z {X:Cx} {J s1 O s3 Z s5 s6 s7 s8 s9:Stmt} {ss:List Stmt} {t0 t1 t2 t3 t4 t5 t6 t7 t8 t9 u:TS} (h0:PS X J t0) (h1:PS X s1 t1) (h2:PS X O t2) (h3:PS X s3 t3) (h4:PS X Z t4) (h5:PS X s5 t5) (h6:PS X s6 t6) (h7:PS X s7 t7) (h8:PS X s8 t8) (h9:PS X s9 t9) (hu:PSs X ss u):PSs X (J::s1::O::s3::Z::s5::s6::s7::s8::s9::ss) (tSeq t0 (tSeq t1 (tSeq t2 (tSeq t3 (tSeq t4 (tSeq t5 (tSeq t6 (tSeq t7 (tSeq t8 (tSeq t9 u)))))))))):=(qx h0 (qx h1 (qx h2 (qx h3 (qx h4 (qx h5 (qx h6 (qx h7 (qx h8 (qx h9 hu))))))))))
def qop {X:Cx} {body:List Stmt} {D:Ends} {σ:St} {H:Hp} (n:Nat) (C:St ->Hp ->Prop) (rest:∃ u,PSs X (body.drop n) u/\∀ σ H,C σ H ->u D σ H)
  (first:∀ u,PSs X (body.drop n) u ->(∀ σ H,C σ H ->u D σ H) ->∃ t,PSs X body t/\t D σ H):∃ t,PSs X body t/\t D σ H:=
 let ⟨u,h1,h2⟩:=rest
 first u h1 h2
mutual
inductive Dat (K:xA) (H:Hp):PyData ->V ->Prop
 | non:Dat K H .none .non
 | bl (b:Bool):Dat K H (.bool b) (.bl b)
 | int (i:Int):Dat K H (.int i) (.int i)
 | str (x:Str) (h:PyData.strOk x=true):Dat K H (.str x) (.str x)
 | lst {a:Addr} {xs:List V} {ds:List PyData}:SqL K H a xs ->Dats K H ds xs ->Dat K H (.list ds) (.ref a)
 | tup {a:Addr} {xs:List V} {ds:List PyData}:SqT K H a xs ->Dats K H ds xs ->Dat K H (.tuple ds) (.ref a)
inductive Dats (K:xA) (H:Hp):List PyData ->List V ->Prop
 | nil:Dats K H [] []
 | cons {d:PyData} {x:V} {ds:List PyData} {xs:List V}:Dat K H d x ->Dats K H ds xs ->Dats K H (d::ds) (x::xs)
end
section
variable {K:xA} {H H':Hp}
mutual
theorem Dat.same (s:Same H H'):∀ (d:PyData) (x:V),Dat K H d x ->Dat K H' d x
 | _,_,.non=> .non
 | _,_,.bl b=> .bl b
 | _,_,.int i=> .int i
 | _,_,.str x h=> .str x h
 | _,_,.lst h r=> .lst (s.seq h) (Dats.same s _ _ r)
 | _,_,.tup h r=> .tup (s.seqT h) (Dats.same s _ _ r)
theorem Dats.same (s:Same H H'):∀ (ds:List PyData) (xs:List V),Dats K H ds xs ->Dats K H' ds xs
 | _,_,.nil=> .nil
 | _,_,.cons a b=> .cons (Dat.same s _ _ a) (Dats.same s _ _ b)
end
mutual
theorem Dat.lay:∀ (d:PyData) (x:V),Dat K H d x ->d.canLay0=true
 | _,_,.non=>rfl
 | _,_,.bl _=>rfl
 | _,_,.int _=>rfl
 | _,_,.str _ h=>h
 | _,_,.lst _ r=>Dats.lay _ _ r
 | _,_,.tup _ r=>Dats.lay _ _ r
theorem Dats.lay:∀ (ds:List PyData) (xs:List V),Dats K H ds xs ->PyData.canLayAll0 ds=true
 | _,_,.nil=>rfl
 | _,_,.cons a b=>by rw [PyData.canLayAll0,Dat.lay _ _ a,Dats.lay _ _ b];rfl
end
end
section
variable {X:Cx} {xC:xG} {σ:St} {H:Hp} {s:Shared}
mutual
theorem Dat.reads (I:Inv X xC σ H s):∀ (d:PyData) (x:V) (u:Value),Dat X.K H d x ->RelV x u ->∃ as,Reads s.heap u d as
 | _,_,_,.non,r=>by cases r;exact ⟨_,.none⟩
 | _,_,_,.bl b,r=>by cases r;exact ⟨_,.bool b⟩
 | _,_,_,.int i,r=>by obtain ⟨t,rfl⟩:=r;exact ⟨_,.int i t⟩
 | _,_,_,.str x _,r=>by obtain ⟨t,rfl⟩:=r;exact ⟨_,.str x t⟩
 | _,_,_,.lst h q,r=>by
  cases r
  obtain ⟨its,rv,⟨o,n,e,c,_,d⟩,_⟩:=I.list h;obtain ⟨as,J⟩:=Dats.reads I _ _ _ q rv;exact ⟨_,.list e c d (by simpa using J)⟩
 | _,_,_,.tup h q,r=>by
  cases r
  obtain ⟨its,rv,⟨o,e,c,n,d⟩,_⟩:=I.tuple h;obtain ⟨as,J⟩:=Dats.reads I _ _ _ q rv;exact ⟨_,.tuple e c d (by simpa using J)⟩
theorem Dats.reads (I:Inv X xC σ H s):∀ (ds:List PyData) (xs:List V) (us:xH),Dats X.K H ds xs ->Vals xs us ->∃ as,ReadsAll s.heap us ds as
 | _,_,_,.nil,r=>by cases r;exact ⟨_,.nil⟩
 | _,_,_,.cons a b,r=>by
  cases r with
  | cons r1 r2=>
   obtain ⟨as,h1⟩:=Dat.reads I _ _ _ a r1;obtain ⟨bs,h2⟩:=Dats.reads I _ _ _ b r2;exact ⟨_,.cons h1 h2⟩
end
end
section
variable {X:Cx}
def qv0 {u d e:Nat} (hu:u+64 < cLine) (hd:d<=60):u+min d e < cLine:=by
 have:min d e<=d:=Nat.min_le_left _ _
 lia
def rEqD (K:xA):R2:=λ x y H Q=>∃ d e,Dat K H d x/\Dat K H e y/\d.depth<=60/\Q (.bl (PyData.eqv d e)) H
def qlj (hu:X.A.units+64 < cLine) (K:xA) (hK:X.K=K:=by rfl):OpR X (compareOp .Eq) (rEqD K):=by
 subst hK;intro xC s σ H x y v u Q I rx ry h;obtain ⟨d,e,hd,J,hz,q⟩:=h;obtain ⟨as,ra⟩:=Dat.reads I _ _ _ hd rx;obtain ⟨bs,rb⟩:=Dat.reads I _ _ _ J ry;exact SeqAt.rcAt_reads ra rb (Dat.lay _ _ hd) (Dat.lay _ _ J) (qv0 hu hz) X.prog X.w X.xe _ (q1b I q rfl)
end
def LtAt (A:Around) (s:Shared) (u v:Value) (r:Bool):Prop:=
 ∀ (prog:Program) (w:World) (E:xB) (Q:xB),Q (.bool r) s ->wpAny (model prog w) A (richCompare .Lt u v) Q E s
inductive LexAt (A:Around) (s:Shared):List Value ->List Value ->Bool ->Prop
 | nn:LexAt A s [] [] false
 | nc {v:Value} {vs:xH}:LexAt A s [] (v::vs) true
 | cn {u:Value} {us:xH}:LexAt A s (u::us) [] false
 | eq {u v:Value} {us vs:xH} {r:Bool}:SeqAt.EqAt A s u v true ->LexAt A s us vs r ->LexAt A s (u::us) (v::vs) r
 | lt {u v:Value} {us vs:xH} {r:Bool}:SeqAt.EqAt A s u v false ->LtAt A s u v r ->LexAt A s (u::us) (v::vs) r
section
open PySem.SeqAt
open PySem.AutoSeq1 (wpAny_loadPart')
open PySem.MeetsSeq PySem.MeetsSeq2 PySem.MeetsSeq3
def qbg (l b:Addr) (O J:Array Value) (n n2:Nat) (dd a4:Option Addr) (sl a6:Array (Option Value)) (r:Bool):
  Meets (Builtin.«tuple.__lt__» ⟨[.ref l,.ref b],[]⟩)
   (λ A R s=>s.heap.get? l=some {cls:= .type "tuple",dict:=dd,data:= .seq O n,slots:=sl}/\s.heap.get? b=some {cls:= .type "tuple",dict:=a4,data:= .seq J n2,slots:=a6}/\
    LexAt A.in1 s O.toList J.toList r/\R (.ok (.ret (.bool r))) s):=
 .of_wp λ prog w A R s h=>by
  obtain ⟨hp,g,d,tk,os⟩:=s;obtain ⟨hl,hb,hx,h⟩:=h;have f2:=AutoSeq1.sub_tuple_tuple
  wp_walk using wpAny_loadPart' hl,wpAny_loadPart' hb,wpAny_forIn_list _ (λ rest b s'=>b.1=none/\s'=⟨hp,g,d,tk,os⟩/\∃ (vs ws:xH),rest=vs.zip ws/\
   LexAt A.in1 ⟨hp,g,d,tk,os⟩ vs ws r/\vs.length+J.size=ws.length+O.size) _
  case turn=>
   rintro ⟨y,x⟩ rest b s' ⟨a1,rfl,vs,ws,hz,a2,Z⟩;cases a2 with
   | nn=>rw [List.zip_nil_left] at hz;cases hz
   | nc=>rw [List.zip_nil_left] at hz;cases hz
   | cn=>rw [List.zip_nil_right] at hz;cases hz
   | eq he hr=>
    rw [z1t] at hz;injection hz with a3 a0;injection a3 with hy hx;subst hy hx;simp only [z2i] at Z;refine z4f (he prog w _ _ ?_)
    wp_walk
    exact ⟨zr,zr,_,_,a0,hr,by lia⟩
   | lt he hr=>
    rw [z1t] at hz;injection hz with a3 a0;injection a3 with hy hx;subst hy hx;refine z4f (he prog w _ _ ?_);have a5:=hr prog w
    wp_walk using a5
    exact ⟨_,zr,by simpa using h⟩
  case fin=>
   rintro ⟨b1,b2⟩ s' ⟨a1,rfl,vs,ws,hz,a2,Z⟩;simp only at a1;subst a1;have hv:r=decide (O.size < J.size):=by
    cases a2 with
    | nn=>
     simp only [z34] at Z;exact (z2w (by lia)).symm
    | nc=>
     simp only [z34,z2i] at Z;exact (z3c (by lia)).symm
    | cn=>
     simp only [z34,z2i] at Z;exact (z2w (by lia)).symm
    | eq _ _=>rw [z1t] at hz;cases hz
    | lt _ _=>rw [z1t] at hz;cases hz
   rw [hv] at h
   wp_walk
   exact ⟨_,zr,by simpa [Builtin.Tuple.tupleCompareSizes] using h⟩
  case h=>
   exact ⟨rfl,rfl,O.toList,J.toList,rfl,hx,by simp;lia⟩
end
def qv1 {A:Around} {s:Shared} {l b:Addr} {O J:Array Value} {r:Bool} (hl:IsTup s.heap l O) (hb:IsTup s.heap b J) (hx:LexAt A.in1 s O.toList J.toList r) (hu:A.units < cLine):LtAt A s (.ref l) (.ref b) r:=by
 intro prog w E Q h;obtain ⟨⟨cls,dd,data,sl⟩,ho,hc,n,hd⟩:=id hl;obtain ⟨⟨a5,a3,a2,a4⟩,a1,Z,n2,a0⟩:=id hb;simp only at hc hd Z a0;subst hc hd Z a0;exact richCompare_meets_room (op:= .Lt) ⟨_,ho,zr⟩ ⟨_,a1,zr⟩ PySem.F.slot_tuple_lt PySem.F.entry_tuple_lt (PySem.F.args_tuple_lt_2 _ _) (qbg l b O J n n2 dd a3 sl a4 r)
  ⟨ho,a1,hx,show Value.bool r≠Value.notImplemented/\Q (.bool r) s from ⟨(λ x=>nomatch x),h⟩⟩ hu
section
variable {X:Cx}
end
def tyD:PyData ->String
 | .none=>"NoneType"
 | .bool _=>"bool"
 | .int _=>"int"
 | .str _=>"str"
 | .list _=>"list"
 | .tuple _=>"tuple"
 | .dict _=>"dict"
def q110 (d:PyData):tyD d∈tyTs:=by
 cases d <;> simp [tyD,tyTs]
section
variable {X:Cx}
def q2i (K:xA) (hK:X.K=K:=by rfl):q22 X (.builtin "isinstance") (λ xs H Q=>∃ x n d,xs=[x,.ty n]/\Dat K H d x/\n∈tyNs/\Q (.bl (tyIs (tyD d) n)) H):=by
 subst hK;intro xC s σ H xs us Q I r h;obtain ⟨x,n,d,rfl,hd,hn,q⟩:=h;obtain ⟨u,c,rfl,J,rc⟩:=qq0 r;cases rc
 have e:=qyf (K:=X.K) (q110 d) hn;have fin:∀ tk,EP X xC σ Q (.bool (tyIs (tyD d) n)) {s with toks:=tk}:=λ tk=>⟨.bl _,H,I.tok tk,rfl,q⟩;cases hd with
 | non=>cases J;exact z37 PySem.W.kitx_none I.kIn True.intro e (λ z=>nomatch z) fin
 | bl b=>cases J;exact z37 PySem.W.kitx_bool I.kIn True.intro e (λ z=>nomatch z) fin
 | int i=>obtain ⟨t,rfl⟩:=J;exact z37 PySem.W.kitx_int I.kIn True.intro e (λ z=>nomatch z) fin
 | str z h=>obtain ⟨t,rfl⟩:=J;exact z37 PySem.W.kitx_str I.kIn True.intro e (λ z=>nomatch z) fin
 | lst hq _=>
  cases J
  obtain ⟨its,_,⟨o,m,e1,c,_,_⟩,_⟩:=I.list hq;exact z37 PySem.W.kitx_list I.kIn ⟨o,e1,c⟩ e (λ z=>nomatch z) fin
 | tup hq _=>
  cases J
  obtain ⟨its,_,⟨o,e1,c,_⟩,_⟩:=I.tuple hq;exact z37 PySem.W.kitx_tuple I.kIn ⟨o,e1,c⟩ e (λ z=>nomatch z) fin
end
end L2
namespace L2
open PySem PySem.Spec PyProof.Rows PySem.W
def RawD (h:Heap) (d:Addr) (es:Array DictEntry) (ep:Nat):Prop:=∃ o,h.get? d=some o/\o.ExactDict/\o.data= .dict es ep
def RawD.lt {h:Heap} {d:Addr} {es:Array DictEntry} {ep:Nat} (x:RawD h d es ep):d < h.objs.size:=let ⟨_,e,_⟩:=x;z3z e
def RawD.ty {s:Shared} {d:Addr} {es:Array DictEntry} {ep:Nat} (x:RawD s.heap d es ep):s.TypeIs (.ref d) "dict":=let ⟨o,e,c,_⟩:=x;⟨o,e,c.1⟩
def RawD.at {h h':Heap} {d:Addr} {es:Array DictEntry} {ep:Nat} (x:RawD h d es ep) (k:∀ o,h.get? d=some o ->h'.get? d=some o):RawD h' d es ep:=let ⟨o,e,r⟩:=x;⟨o,k o e,r⟩
section
variable {prog:Program} {w:World} {A:Around} {E:xB} {s:Shared} {d it:Addr} {es:Array DictEntry} {ep i:Nat}
def qdv {Q:xB} (hd:(d==sysModules)=false) (x:RawD s.heap d es ep)
  (q:Q (.ref s.heap.objs.size) {s with heap:=s.heap.push {cls:= .type "dict_keyiterator",data:= .fields #[.ref d,.int 0 0,.int es.size 0,.int ep 0]}}):wpAny (model prog w) A (pyIter (.ref d)) Q E s:=by
 obtain ⟨o,ho,hc,J⟩:=id x;refine wpAny_pyIter_slot x.ty PySem.F.slot_dict_iter (z2o PySem.F.slot_dict_iter x.ty PySem.F.entry_dict_iter ?_ (PySem.F.args_dict_iter_1 _));unfold Builtin.«dict.__iter__» Builtin.Dict.dictSlotNone;refine z4f (z4f (wpAny_notOrdered_dict x.ty ?_));show wpAny _ _ (pure (Value.ref d)) _ _ s;refine z4e ?_;show wpAny _ _ (Builtin.Dict.showsAll d >>=_) _ _ s;unfold Builtin.Dict.showsAll;rw [if_neg (by rw [hd];exact z1l)];refine z4f (z4e (z4f (z2a ho J (z4f (z38 ho J ?_)))));refine z4f (z28 (z4e ⟨_,zr,"dict_keyiterator",_,⟨_,z1c _ rfl,zr⟩,z00.lookup,?_⟩))
 simpa [rawInt] using q
def qdw {e:DictEntry} {Q:Option Value ->Shared ->Prop} (J:s.heap.IsKeyIter it d i es.size ep) (x:RawD s.heap d es ep) (hx:es[i]? =some e)
  (q:∀ h',h'.IsKeyIter it d (i+1) es.size ep ->Heap.SameBut it s.heap h' ->Q (some e.key) {s with heap:=h'}):wpAny (model prog w) A (pyNext (.ref it)) Q E s:=by
 obtain ⟨o,ho,hc,hd⟩:=id J;obtain ⟨od,a0,hcd,Z⟩:=id x;unfold pyNext;refine z4f (z3m (wpAny_callSpecial?_slot (name:=Str.ofString "__next__") J.typeIs z00
  (z2o z00 J.typeIs PySem.F.entry_dict_keyiterator_next ?_ (PySem.F.args_dict_keyiterator_next_1 _))))
 refine z4f (z4e (z4f (z4f ?_)));refine z4f (z01 J.typeIs (z4e ?_));refine z4f (wpAny_fieldsOf ho hd ?_);simp only [show Builtin.Dict_items.ownsTuple "dict_keyiterator"=false by decide,z1k,if_false];show wpAny _ _ (if (Value.ref d==Value.none)=true then _ else _) _ _ s;rw [if_neg (show ¬ ((Value.ref d==Value.none)=true) from z1l)];refine z4f (z4e (z4f (z2a a0 Z ?_)));rw [if_neg (by simp)];refine z4f (z4e (z4f (z38 a0 Z ?_)));rw [if_neg (by simp)];refine z4e ?_;simp only [show ¬ ((i:Int) < 0) from by lia,if_false,z26,hx];refine z4f ?_;refine z4f (z01 J.typeIs (z4e ?_));refine z4f (wpAny_isOneOf_keyiter J.typeIs ?_);show wpAny _ _ (setField (.ref it) 1 (rawInt ((i:Int)+1)) >>=_) _ _ s;refine z4f (z3i ho hd (by simp) ?_);have O:(s.heap.update it (Obj.mapFields (·.setIfInBounds 1 (rawInt ((i:Int)+1))))).IsKeyIter it d (i+1) es.size ep:=
  ⟨_,z0z _ ho (Obj.isFreed_of_fields (Obj.data_mapFields hd _)),(Obj.cls_mapFields ..).trans hc,by rw [Obj.data_mapFields hd];simp [rawInt]⟩
 refine z4f (z3o ?_);refine z4f (wpAny_isOneOf_keyiter (s:={s with heap:=s.heap.update it (Obj.mapFields (·.setIfInBounds 1 (rawInt ((i:Int)+1))))}) O.typeIs ?_);show wpAny _ _ (pure e.key) _ _ _;exact z4e (z4e ⟨_,zr,z4e (q _ O (z1b ..))⟩)
def qgj {Q:Option Value ->Shared ->Prop} (hh:A.handled=none) (J:s.heap.IsKeyIter it d i es.size ep) (x:RawD s.heap d es ep) (hx:es.size<=i)
  (q:∀ h',Heap.ExtBut it s.heap h' ->Q none {s with heap:=h'}):wpAny (model prog w) A (pyNext (.ref it)) Q E s:=by
 obtain ⟨o,ho,hc,hd⟩:=id J;obtain ⟨od,Z,hcd,O⟩:=id x;unfold pyNext;refine z4f (z3m (wpAny_callSpecial?_slot (name:=Str.ofString "__next__") J.typeIs z00
  (z2o z00 J.typeIs PySem.F.entry_dict_keyiterator_next ?_ (PySem.F.args_dict_keyiterator_next_1 _))))
 refine z4f (z4e (z4f (z4f ?_)));refine z4f (z01 J.typeIs (z4e ?_));refine z4f (wpAny_fieldsOf ho hd ?_);simp only [show Builtin.Dict_items.ownsTuple "dict_keyiterator"=false by decide,z1k,if_false];show wpAny _ _ (if (Value.ref d==Value.none)=true then _ else _) _ _ s;rw [if_neg (show ¬ ((Value.ref d==Value.none)=true) from z1l)];refine z4f (z4e (z4f (z2a Z O ?_)));rw [if_neg (by simp)];refine z4f (z4e (z4f (z38 Z O ?_)));rw [if_neg (by simp)];refine z4e ?_;simp only [show ¬ ((i:Int) < 0) from by lia,if_false,z26,z0r hx];refine z4f ?_;refine z4f (z01 J.typeIs (z4e ?_));show wpAny _ _ (setField (.ref it) 0 .none >>=_) _ _ s;refine z4f (z3i ho hd (by simp) ?_);show wpAny _ _ (newExc (.type "StopIteration") [] >>=_) _ _ _;refine z4f ?_;simp only [newExc,newTuple];refine z4f (z28 ?_ (by size_fits));refine z4f (m:=firstArgMember _ _) (wpAny_of_eq (a:=Value.none) (by first | rfl | (simp only [firstArgMember];rfl)) ?_);refine z28 ?_ (by size_fits);simp only [raiseNew];refine z4f (wpAny_handled ?_);rw [show A.in1.handled=none from hh];refine z4f (z4e (wpAny_throw ?_));refine z4f (wpAny_isInstance (T:="StopIteration") (b:=true) ⟨_,z1c _ rfl,zr⟩ isSubtype_stop ?_);exact z4e (q _ (((z1b ..).extBut.push _).push _))
def qsg (hh:A.handled=none) (I d:Addr) (a2:d≠I) (es:Array DictEntry) (ep:Nat):
  Walks prog w A I [I,d] [I] es.size (λ i v=>∃ e,es[i]? =some e/\v=e.key) (λ i h=>h.IsKeyIter I d i es.size ep/\RawD h d es ep) where
 sub:=λ b J=>by simp at J;simp [J]
 frame:=λ _ _ _ st hk=>⟨st.1.at λ o e=>hk I (by simp) o e,st.2.at λ o e=>hk d (by simp) o e⟩
 item:=λ i s Q E hi st O=>by
  have hx:es[i]? =some es[i]:=z0b hi;refine qdw st.1 st.2 hx λ h' Z a0=> ?_;exact O es[i].key h' s.toks ⟨es[i],hx,zr⟩ ⟨Z,st.2.at λ o e=>a0.extBut d o a2 e⟩ λ b o J e=>a0.extBut b o (λ h=>J (by simp [h])) e
 done:=λ s Q E st O=>qgj hh st.1 st.2 (z48 _) λ h' a1=>O h' s.toks λ b o J e=>a1 b o (λ h=>J (by simp [h])) e
 self:=λ _ _ _ _ st O=>wpAny_pyIter_keyiter st.1 O
def qyh (lo:(d==sysModules)=false):KdlSrc prog w "dict" d d es.size (λ i v=>∃ e,es[i]? =some e/\v=e.key) (λ h=>RawD h d es ep) where
 type:=λ _ J=>J.ty
 there:=λ _ J=>⟨J.lt,J.lt⟩
 keep:=λ _ _ J hk=>J.at λ o e=>hk d (.inl rfl) o e
 notList:=by decide
 notTuple:=by decide
 hint:=λ _ _ _ _ J hq=>kdl_hint_dict J.ty hq
 iter:=λ _ _ hh J=>⟨_,_,(λ _ _ hq=>qdv lo J hq),qsg hh _ d (z40 J.lt) es ep,⟨⟨_,z1c _ rfl,rfl,rfl⟩,J.at λ o e=>z0o _ e⟩⟩
def q94 {R:List Value ->Shared ->Prop} (hh:A.handled=none) (lo:(d==sysModules)=false) (x:RawD s.heap d es ep) (hn:es.size<=sizeLine)
  (h:∀ (h':Heap) (tk:Nat),(∀ b o,s.heap.get? b=some o ->h'.get? b=some o) ->s.heap.objs.size<=h'.objs.size ->R (es.toList.map (·.key)) {s with heap:=h',toks:=tk}):wpAny (model prog w) A (collect (.ref d)) R E s:=by
 have fin:∀ (acc:Array Value),ItemsOf (λ i v=>∃ e,es[i]? =some e/\v=e.key) acc es.size ->acc.toList=es.toList.map (·.key):=λ acc Z=>by
  apply z21
  intro j;rw [z22,z0x,z0x];cases e:acc[j]? with
  | some v=>
   obtain ⟨e',he,rfl⟩:=Z.2 j v e;rw [he];rfl
  | none=>
   have:acc.size<=j:=by simpa using e
   rw [Z.1] at this;rw [z0r this];rfl
 unfold collect;refine z4f (wpAny_runValue (z39 entry_proto_collect' ?_));rw [Around.under_plainId PySem.F.plain_proto_collect _];show wpAny _ A.in1 (newList [] >>=λ l=>again (.builtin "list.__iadd__" ⟨[l,.ref d],[]⟩)) _ _ s;refine z4f (z28 ?_);refine z4e ⟨plainId_quiet z0j _,z39 entry_list_iadd' ?_⟩;rw [Around.under_plainId z0j _];have hS:(s.heap.push {cls:= .type "list",data:= .seq ([]:xH).toArray}).get? s.heap.objs.size=some {cls:= .type "list",data:= .seq #[]}:=z1c _ rfl;show wpAny _ A.in1 (Builtin.List.listExtendWith (.ref s.heap.objs.size) (.ref d) (.ref s.heap.objs.size)) _ _ _;have key:=kdl_extend (A:=A) (s:={s with heap:=s.heap.push {cls:= .type "list",data:= .seq ([]:xH).toArray}}) (qyh (prog:=prog) (w:=w) (es:=es) (ep:=ep) lo) hh (x.at λ o e=>z0o _ e) s.heap.objs.size
  (z42 x.lt) (z42 x.lt) (.ref s.heap.objs.size) 0 hS
  (R:=λ (q:Result) (s':Shared)=>∃ (h':Heap) (tk:Nat) (J:Array Value) (c':Nat),q= .ok (.ret (.ref s.heap.objs.size))/\s'={s with heap:=h',toks:=tk}/\(∀ b o,s.heap.get? b=some o ->h'.get? b=some o)/\
   h'.get? s.heap.objs.size=some {cls:= .type "list",dict:=none,data:= .seq J c',slots:=#[]}/\J.toList=es.toList.map (·.key))
  (λ h' tk J c' hk O a0=>⟨h',tk,J,c',rfl,rfl,λ b o e=>hk b o (z40 (z3z e)) (z0o _ e),O,fin J a0⟩) hn
 refine z4g key (λ f s' y=> ?_) λ e s' y=> ?_
 ·cases f with
  | done f=>
   obtain ⟨h',tk,J,c',e,rfl,hk,O,Z⟩:=y;cases e
   show wpAny _ A (load s.heap.objs.size >>=_) _ _ _;refine z4f (wpAny_load O (z4e ?_));show R J.toList _;rw [Z];exact h h' tk hk (z3y (z3z O))
  | again c=>
   refine ⟨y.1,z43 y.2 λ q s2 z=> ?_⟩;obtain ⟨h',tk,J,c',rfl,rfl,hk,O,Z⟩:=z;show wpAny _ A (load s.heap.objs.size >>=_) _ _ _;refine z4f (wpAny_load O (z4e ?_));show R J.toList _;rw [Z];exact h h' tk hk (z3y (z3z O))
 ·obtain ⟨_,_,_,_,e',_⟩:=y;cases e'
def qa3 {T:String} {o:Obj} {J:Array Value} {n:Nat} {l:Addr} {R:List Value ->Shared ->Prop} (hT:T="list"\/ T="tuple") (ho:s.heap.get? l=some o) (hc:o.cls= .type T) (hd:o.data= .seq J n) (hz:J.size<=sizeLine)
  (h:∀ (h':Heap) (tk:Nat),(∀ b o,s.heap.get? b=some o ->h'.get? b=some o) ->s.heap.objs.size<=h'.objs.size ->R J.toList {s with heap:=h',toks:=tk}):wpAny (model prog w) A (collect (.ref l)) R E s:=by
 unfold collect;refine z4f (wpAny_runValue (z39 entry_proto_collect' ?_));show wpAny _ _ (do again (.builtin "list.__iadd__" ⟨[<- newList [],.ref l],[]⟩)) _ _ s;refine z4f (wpAny_newList (z4e ⟨Code.quiet_builtin _ (by decide+kernel),z39 entry_list_iadd' ?_⟩));show wpAny _ _ (Builtin.List.listExtendWith (.ref s.heap.objs.size) (.ref l) (.ref s.heap.objs.size)) _ _ {s with heap:=s.heap.push (seqObj "list" #[] 0)};unfold Builtin.List.listExtendWith;have O:(s.heap.push (seqObj "list" #[] 0)).get? l=some o:=z0o _ ho;refine z4f (wpAny_typeOf (T:=T) ⟨o,O,hc⟩ ?_);have ht:((Value.type T==Value.type "list") || (Value.type T==Value.type "tuple"))=true:=by rcases hT with rfl | rfl <;> rfl
 rw [if_pos (by rw [Bool.or_assoc,ht];simp)];refine z4f (listItems_at O hd ?_);refine z4f (listItems_at (xs:=#[]) (n:=0) (z1c _ rfl) rfl ?_);rw [if_neg (by simp)];refine z4f (listUpdate_at (xs:=#[]) (n:=0) (z1c _ rfl) rfl ?_ (z4b _) (by rw [Array.size_append];simp;lia));refine z4e ?_;show wpAny (model prog w) A (load s.heap.objs.size >>=λ o=>match o.data with
   | .seq xs _=>pure xs.toList
   | _=>unsupported "internal:collect") R E {s with heap:=(s.heap.push (seqObj "list" #[] 0)).update s.heap.objs.size (Obj.mapSeq (· ++J))}
 refine z4f (wpAny_load (get?_update_seq (z1c _ rfl) _) ?_);show wpAny _ _ (pure ((#[]:Array Value)++J).toList) R E _;rw [show ((#[]:Array Value)++J).toList=J.toList by simp];refine z4e (h _ s.toks (λ b o e=> ?_) (by rw [Heap.size_update,size_push'];lia));exact (z0p _ _ (z42 (z3z e))).trans (z0o _ e)
def q4q {x:Value} {vs:xH} {rk:Value ->Int} {Q:xB} (hz:vs.length<=sizeLine)
  (hc:∀ (Z:Around) (E':xB) (R:List Value ->Shared ->Prop),Z.handled=A.handled ->(∀ h' tk,(∀ b o,s.heap.get? b=some o ->h'.get? b=some o) ->s.heap.objs.size<=h'.objs.size ->R vs {s with heap:=h',toks:=tk}) ->wpAny (model prog w) Z (collect x) R E' s)
  (hk:∀ (Z:Around) (s':Shared) (a:Addr),Z.units<=A.units+4 ->s.heap.objs.size<=a ->(∀ b o,s.heap.get? b=some o ->s'.heap.get? b=some o) ->Tim.Keys prog w Z s' a vs rk)
  (h:∀ (out:Array Value) (l:Addr) (n:Nat) (h':Heap) (tk:Nat),Tim.Sorted rk vs out.toList ->(∀ b o,s.heap.get? b=some o ->h'.get? b=some o) ->s.heap.objs.size<=l ->h'.get? l=some (seqObj "list" out n) ->Q (.ref l) {s with heap:=h',toks:=tk}):
  wpAny (model prog w) A (call (.builtin "sorted") [x]) Q E s:=by
 refine Calls.call_function_entry kind_sorted plain_sorted entry_sorted (args_sorted1 _) ?_;unfold Builtin.«sorted»;refine z4f (m:=checkCount "sorted" 1 1 _) (z4e ?_);refine z4f (hc _ _ _ rfl λ h1 tk keep hsz=> ?_);refine z4f (wpAny_newList ?_ hz);have O:(h1.push (seqObj "list" vs.toArray 0)).get? h1.objs.size=some (seqObj "list" vs.toArray 0):=z1c _ rfl;show wpAny _ _ _ _ _ {s with heap:=h1.push (seqObj "list" vs.toArray 0),toks:=tk};have J:∀ b o,s.heap.get? b=some o ->(h1.push (seqObj "list" vs.toArray 0)).get? b=some o:=λ b o e=>z0o _ (keep b o e);refine z4f (z3o (z2o slot_list_sort ⟨_,O,zr⟩ entry_list_sort (Tim.qaw O hz (hk _ _ _ ?_ hsz J) λ out so=>⟨_,zr,?_⟩) (args_list_sort _)))
 ·show A.units+2<=A.units+4
  lia
 ·have a0:∀ b o,s.heap.get? b=some o ->b≠h1.objs.size:=λ b o e=>z40 (z1r (z3z e) hsz);have u1:=z1b (h1.push (seqObj "list" vs.toArray 0)) h1.objs.size (Obj.mapSeq λ _=>(#[]:Array Value));obtain ⟨e1,g1⟩:∃ e1,((h1.push (seqObj "list" vs.toArray 0)).update h1.objs.size (Obj.mapSeq λ _=>(#[]:Array Value))).get? h1.objs.size=some (seqObj "list" #[] e1):=⟨_,get?_update_seq O λ _=>#[]⟩;have g2:=z0o (seqObj "list" #[] 0) (z0o (seqObj "tuple" vs.toArray 0) g1);have g3:=get?_update_seq g2 λ _=>out;have u4:=z1b (((((h1.push (seqObj "list" vs.toArray 0)).update h1.objs.size (Obj.mapSeq λ _=>(#[]:Array Value))).push (seqObj "tuple" vs.toArray 0)).push (seqObj "list" #[] 0))) h1.objs.size (Obj.mapSeq λ _=>out);refine z4e ⟨_,zr,h out h1.objs.size _ _ tk so (λ b o e=> ?_) hsz g3⟩;refine (u4.2 b (a0 b o e)).trans (z0o _ (z0o _ ((u1.2 b (a0 b o e)).trans (J b o e))))
end
end L2
namespace Tim
section
variable {α:Type}
def srt (lt:α ->α ->Bool) (l:List α):List α:=l.mergeSort λ a b=> !lt b a
def qo (lt:α ->α ->Bool) (l:List α):(srt lt l).Perm l:=List.mergeSort_perm _ _
def q1v {lt:α ->α ->Bool} (h:STO lt) (l:List α):(srt lt l).Pairwise λ a b=>lt b a=false:=by
 have:=List.pairwise_mergeSort (le:=λ a b=> !lt b a) (λ a b c h1 h2=>by
  cases e:lt c a with
  | false=>rfl
  | true=>
   rcases h.nt b e with q | q
   ·rw [q] at h2;cases h2
   ·rw [q] at h1;cases h1) (λ a b=>by
  cases e:lt b a with
  | false=>rfl
  | true=>
   rw [h.asym e];rfl) l
 exact List.Pairwise.imp (λ {a b} (z:(!lt b a)=true)=>by simpa using z) this
def q9i {lt:α ->α ->Bool} (h:STO lt) {l k:List α} (p:k.Perm l) (a:k.Pairwise λ a b=>lt b a=false):k=srt lt l:=h.uniq (p.trans (qo lt l).symm) a (q1v h l)
end
section
open PySem
def q3a {α:Type} {lt:α ->α ->Bool} (h:STO lt) (J:Value ->α) {vs out:xH} (O:Sorted (λ v=>rank lt (vs.map J) (J v)) vs out):out.map J=srt lt (vs.map J):=by
 refine q9i h (O.perm.map J) ?_;rw [List.pairwise_map];refine List.Pairwise.imp_of_mem (λ {x y} hx hy hr=> ?_) O.asc;have mx:J x∈vs.map J:=z45.mpr ⟨x,O.perm.mem_iff.mp hx,rfl⟩;have my:J y∈vs.map J:=z45.mpr ⟨y,O.perm.mem_iff.mp hy,rfl⟩;rw [qod (λ a _=>h.irr a) (λ a _ b _ c _=>h.tr a b c) (λ a _ b _ c _ z=>h.nt b z) my mx];exact z2w (by lia)
def qdx {α:Type} {lt:α ->α ->Bool} (h:STO lt) (J:Value ->α) {vs:xH} {x y:Value} (hx:x∈vs) (hy:y∈vs):lt (J x) (J y)=decide (rank lt (vs.map J) (J x) < rank lt (vs.map J) (J y)):=
 qod (λ a _=>h.irr a) (λ a _ b _ c _=>h.tr a b c) (λ a _ b _ c _ z=>h.nt b z) (z45.mpr ⟨x,hx,rfl⟩) (z45.mpr ⟨y,hy,rfl⟩)
end
end Tim
namespace L2
open PySem PySem.Spec PyProof.Rows PySem.W
def ql (x y:Str):Bool:=decide (x.cps.toList < y.cps.toList)
def q1n:Tim.STO ql:=by
 have h:=(Tim.qxo.lex).map (λ z:Str=>z.cps.toList) (λ a b e=>by
  cases a
  cases b
  congr
  exact Array.toList_inj.mp e)
 have e:ql=λ a b:Str=>Tim.lexB (λ x y:Nat=>decide (x < y)) a.cps.toList b.cps.toList:=by
  funext a b
  exact Tim.qoe _ _
 rw [e];exact h
def qz (a b:xD):Bool:=Tim.lexB ql a b
def q2c:Tim.STO qz:=q1n.lex
def sOf:Value ->Str
 | .str x _=>x
 | _=>""
def q67 {ws:xD}:∀ {us:xH},Vals (ws.map V.str) us ->us.map sOf=ws/\(∀ u∈us,∃ x t,u= .str x t)/\StrsAre us ws:=by
 induction ws with
 | nil=>
  intro us r;cases r
  exact ⟨rfl,(λ _ z=>nomatch z),.nil⟩
 | cons x ws ih=>
  intro us r;cases r with
  | cons r1 rr=>
   obtain ⟨t,rfl⟩:=r1;obtain ⟨a,b,c⟩:=ih rr;refine ⟨by rw [z3l,a];rfl,λ u J=> ?_,.cons x t c⟩;rcases z3n.mp J with rfl | J
   ·exact ⟨x,t,zr⟩
   ·exact b u J
theorem q49:∀ {us:xH},(∀ u∈us,∃ x t,u= .str x t) ->Vals ((us.map sOf).map V.str) us
 | [],_=> .nil
 | u::us,h=>by
  obtain ⟨x,t,rfl⟩:=h u (z1p ..);exact .cons ⟨t,zr⟩ (q49 λ v hv=>h v (z16 _ hv))
section
variable {prog:Program} {w:World} {A:Around} {s:Shared} {a:Addr}
def qbh {ws:xD} {vs:xH} (r:Vals (ws.map V.str) vs):Tim.Keys prog w A s a vs (λ v=>Tim.rank ql (vs.map sOf) (sOf v)):=by
 intro h2 s' _;obtain ⟨e1,e2,e3⟩:=q67 r;refine ⟨oneType',λ E Q q=> ?_,λ x hx y hy E Q q=> ?_⟩
 ·match vs,h2,e3 with
  | v1::v2::vr,_,e3=>
   rw [keyKind_strs e3];exact z4e q
 ·rw [<- Tim.qdx q1n sOf hx hy] at q;obtain ⟨x',t,rfl⟩:=e2 x hx;obtain ⟨y',u,rfl⟩:=e2 y hy;rw [keyLt'_oneType];exact oneLt_str q
end
section
variable {X:Cx}
def Inv.q3b {xC:xG} {σ:St} {H:Hp} {s:Shared} {xs:List V} {out:Array Value} {l:Addr} {n tk:Nat} {h':Heap} {Q:VK} (I:Inv X xC σ H s) (rv:Vals xs out.toList) (hz:xs.length<=sizeLine)
  (keep:∀ b o,s.heap.get? b=some o ->h'.get? b=some o) (hl:s.heap.objs.size<=l) (hg:h'.get? l=some (seqObj "list" out n)) (q:Q (.ref l) (upd H l (.lst xs))):EP X xC σ Q (.ref l) {s with heap:=h',toks:=tk}:=by
 refine ⟨.ref l,_,I.laid (a:=l) (o:= .lst xs) (t':=tk) keep hl ⟨hz,out.toList,n,rv,?_⟩,zr,q⟩;rw [Array.toArray_toList];exact hg
def q86 (K:xA) (hK:X.K=K:=by rfl):q22 X (.builtin "sorted") (λ xs H Q=>∃ p ws,xs=[.ref p]/\(SqL K H p (ws.map V.str)\/ SqT K H p (ws.map V.str))/\∀ l,H l=none ->Q (.ref l) (upd H l (.lst ((Tim.srt ql ws).map V.str)))):=by
 subst hK;intro xC s σ H xs us Q I r h;obtain ⟨p,ws,rfl,O,q⟩:=h;obtain ⟨u,rfl,ru⟩:=q33 r;cases ru
 obtain ⟨T,o,its,n,hT,ho,hc,hd,rv,hz⟩:∃ (T:String) (o:Obj) (its:xH) (n:Nat),(T="list"\/ T="tuple")/\s.heap.get? p=some o/\o.cls= .type T/\o.data= .seq its.toArray n/\Vals (ws.map V.str) its/\(ws.map V.str).length<=sizeLine:=by
  rcases O with O | O
  ·obtain ⟨its,rv,⟨o,n,e,c,_,d⟩,z⟩:=I.list O;exact ⟨"list",o,its,n,.inl rfl,e,c,d,rv,z⟩
  ·obtain ⟨its,rv,⟨o,e,c,n,d⟩,z⟩:=I.tuple O;exact ⟨"tuple",o,its,n,.inr rfl,e,c,d,rv,z⟩
 have hl:its.length<=sizeLine:=by rw [<- rv.length];exact hz
 obtain ⟨e1,e2,_⟩:=q67 rv;refine q4q (vs:=its) (rk:=λ v=>Tim.rank ql (its.map sOf) (sOf v)) hl (λ A' E' R _ k=>qa3 hT ho hc hd (by rw [z23];exact hl) (by rw [z1g];exact k)) (λ A' s' a _ _ _=>qbh rv) λ out l n h' tk so keep J hg=> ?_;have a0:∀ u∈out.toList,∃ x t,u= .str x t:=λ u hu=>e2 u (so.perm.mem_iff.mp hu);have ed:=Tim.q3a q1n sOf so;rw [e1] at ed;have Z:=q49 a0;rw [ed] at Z;exact I.q3b Z (by rw [z30,(Tim.qo ql ws).length_eq];rw [z30] at hz;exact hz) keep J hg (q l (I.hok.fresh J))
end
def TupAt (h:Heap) (v:Value) (p:xD):Prop:=∃ (b:Addr) (o:Obj) (its:Array Value) (n:Nat),v= .ref b/\h.get? b=some o/\o.cls= .type "tuple"/\o.data= .seq its n/\Vals (p.map V.str) its.toList
section
variable {prog:Program} {w:World} {A:Around} {E:xB} {s:Shared} {a:Addr}
def qlk (x y:Str) (t u:Tok):SeqAt.EqAt A s (.str x t) (.str y u) (decide (x=y)):=λ prog w E Q h=>wpAny_eqBool_str h
def qdb (x y:Str) (p q:xD):qz (x::p) (y::q)=if x=y then qz p q else ql x y:=rfl
theorem qa4:∀ (p q:xD) (us vs:xH),Vals (p.map V.str) us ->Vals (q.map V.str) vs ->LexAt A s us vs (qz p q)
 | [],[],_,_,r1,r2=>by cases r1;cases r2;exact .nn
 | [],_::_,_,_,r1,r2=>by cases r1;cases r2;exact .nc
 | _::_,[],_,_,r1,r2=>by cases r1;cases r2;exact .cn
 | x::p,y::q,_,_,r1,r2=>by
  cases r1 with
  | cons a1 r1=>
   cases r2 with
   | cons a2 r2=>
    obtain ⟨t,rfl⟩:=a1;obtain ⟨u,rfl⟩:=a2;have J:=qlk (A:=A) (s:=s) x y t u;rw [qdb];by_cases h:x=y
    ·rw [if_pos h];rw [z3c h] at J;exact .eq J (qa4 p q _ _ r1 r2)
    ·rw [if_neg h];rw [z2w h] at J;exact .lt J λ prog w E Q k=>(lt_str k:wpAny (model prog w) A (compareOp .Lt _ _) Q E s)
def qq8 (c:Bool) (x y:Str) (t u:Tok) {Q:Bool ->Shared ->Prop} (h:Q (ql x y) s):wpAny (model prog w) A (oneLt' c (.str x t) (.str y u)) Q E s:=by
 cases c with
 | true=>exact oneLt_str h
 | false=>exact kat_one _ _ (lt_str h)
theorem qdc {c fin:Bool} {Q:Bool ->Shared ->Prop}:∀ (p q:xD) (us vs:xH) (i:Nat),Vals (p.map V.str) us ->Vals (q.map V.str) vs ->fin=decide (us.length < vs.length) ->Q (qz p q) s ->KatLex prog w A c fin Q (us.zip vs) i s
 | [],[],_,_,i,r1,r2,hf,h=>by
  cases r1
  cases r2
  rw [List.zip_nil_left,hf];exact h
 | [],_::_,_,_,i,r1,r2,hf,h=>by
  cases r1
  cases r2
  rw [List.zip_nil_left,hf];refine kat_nil ?_;rw [z3c (by simp)];exact h
 | _::_,[],_,_,i,r1,r2,hf,h=>by
  cases r1
  cases r2
  rw [List.zip_nil_right,hf];refine kat_nil ?_;rw [z2w (by simp)];exact h
 | x::p,y::q,_,_,i,r1,r2,hf,h=>by
  cases r1 with
  | cons a1 r1=>
   cases r2 with
   | cons a2 r2=>
    obtain ⟨t,rfl⟩:=a1;obtain ⟨u,rfl⟩:=a2;rw [z1t];rw [qdb] at h;refine kat_cons (qlk x y t u prog w _ _ ?_);by_cases e:x=y
    ·rw [if_pos e] at h;rw [z3c e];exact kat_yes (qdc p q _ _ (i+1) r1 r2 (by rw [hf];simp) h)
    ·rw [if_neg e] at h;rw [z2w e];exact kat_no (qq8 _ x y t u h)
def qq9 {x y:Value} {p q:xD} (hx:TupAt s.heap x p) (hy:TupAt s.heap y q) (c:Bool):Tim.KLt prog w A s (tuples' c) x y (qz p q):=by
 obtain ⟨b,o,its,n,rfl,e1,_,d1,r1⟩:=hx;obtain ⟨b',o',its',n',rfl,e2,_,d2,r2⟩:=hy;intro E Q k;exact kat_lt e1 d1 e2 d2 (qdc p q _ _ 0 r1 r2 (by rw [z19,z19]) k)
def qyi {x y:Value} {p q:xD} (hx:TupAt s.heap x p) (hy:TupAt s.heap y q) (hu:A.units < cLine):LtAt A s x y (qz p q):=by
 obtain ⟨b,o,its,n,rfl,e1,c1,d1,r1⟩:=hx;obtain ⟨b',o',its',n',rfl,e2,c2,d2,r2⟩:=hy;exact qv1 ⟨o,e1,c1,n,d1⟩ ⟨o',e2,c2,n',d2⟩ (qa4 p q _ _ r1 r2) hu
def qnr {x y:Value} {p q:xD} (hx:TupAt s.heap x p) (hy:TupAt s.heap y q) (hu:A.units < cLine):Tim.KLt prog w A s general' x y (qz p q):=by
 intro E Q k;exact kat_one x y (qyi hx hy hu prog w E _ k)
def qyj {x y:Value} {p q:xD} (hx:TupAt s.heap x p) (hy:TupAt s.heap y q) (hu:A.units < cLine):Tim.KLt prog w A s oneType' x y (qz p q):=by
 obtain ⟨b,⟨cls,dd,data,sl⟩,its,n,rfl,e1,c1,d1,r1⟩:=hx;obtain ⟨b',⟨a0,O,J,Z⟩,its',n',rfl,e2,c2,d2,r2⟩:=hy;simp only at c1 d1 c2 d2;subst c1 d1 c2 d2;intro E Q k;rw [keyLt'_oneType,oneLt'_eq];simp only [if_true];refine z4f (wpAny_cRoomFor hu ?_);refine z4f (wpAny_callSpecialIfBound?_slot ⟨_,e1,zr⟩ PySem.F.slot_tuple_lt (call_meets PySem.F.slot_tuple_lt ⟨_,e1,zr⟩ PySem.F.entry_tuple_lt (PySem.F.args_tuple_lt_2 _ _) (qbg b b' its its' n n' dd O sl Z (qz p q)) ⟨e1,e2,qa4 p q _ _ r1 r2,?_⟩));exact z24 k
def TupAt.keep {h h':Heap} {v:Value} {p:xD} (x:TupAt h v p) (k:∀ b o,v= .ref b ->h.get? b=some o ->h'.get? b=some o):TupAt h' v p:=
 let ⟨b,o,its,n,e,g,r⟩:=x
 ⟨b,o,its,n,e,k b o e g,r⟩
theorem qdd:∀ (vs:xH) (ps:xF),Paired (TupAt s.heap) vs ps ->∃ fs:List (Option Value),(∀ (M:Model) (A:Around) (E:xB) (Q:List (Option Value) ->Shared ->Prop),Q fs s ->wpAny M A (vs.mapM firstOfTuple') Q E s)/\fs.length=vs.length/\
  ∀ f∈fs,∀ v,f=some v ->∃ x t,v= .str x t
 | [],[],_=>⟨[],λ M A E Q q=>by rw [List.mapM_nil];exact z4e q,rfl,λ _ z=>nomatch z⟩
 | v::vs,p::ps,.cons h hr=>by
  obtain ⟨fs,g1,g2,g3⟩:=qdd vs ps hr;obtain ⟨b,o,its,n,rfl,ho,hc,hd,r⟩:=h;refine ⟨its[0]? ::fs,λ M A E Q q=> ?_,by rw [z2i,g2,z2i],λ f hf v e=> ?_⟩
  ·rw [List.mapM_cons];refine z4f ?_;rw [kas_first_eq];refine z4f (Looks.here (show Looks M s.heap (typeOf (.ref b)) o.cls from (Looks.ld ho).andThen .now) ?_);rw [hc,if_neg (by decide)];refine z4f (listItems_at ho hd (z4e ?_));exact z4f (g1 M A E (λ bs s'=>wpAny M A (pure (its[0]? ::bs)) Q E s') (z4e q))
  ·rcases z3n.mp hf with rfl | hf
   ·obtain ⟨_,h2,_⟩:=q67 r;exact h2 v (by rw [<- z0x] at e;exact z18 e)
   ·exact g3 f hf v e
theorem qde:∀ (vs:xH),(∀ v∈vs,∃ x t,v= .str x t) ->vs.mapM typeOf=pure (vs.map λ _=>Value.type "str")
 | [],_=>by simp
 | v::vs,h=>by
  obtain ⟨x,t,rfl⟩:=h v (z1p ..);rw [List.mapM_cons,qde vs λ u hu=>h u (z16 _ hu)];show (pure (Value.type "str") >>=λ b=>pure _ >>=λ bs=>pure (b::bs))=_;simp
def qsh {vs:xH} {ps:xF} (h:Paired (TupAt s.heap) vs ps) (h2:2<=vs.length):∃ kd:SortKind,(kd=tuples' true\/ kd=general'\/ kd=oneType')/\∀ (M:Model) (A:Around) (E:xB) (Q:SortKind ->Shared ->Prop),Q kd s ->wpAny M A (keyKind' vs.toArray) Q E s:=by
 obtain ⟨fs,g1,g2,g3⟩:=qdd vs ps h;by_cases J:(fs.toArray.all λ x=>x.isSome)=true
 ·refine ⟨tuples' true,.inl rfl,λ M A E Q q=> ?_⟩;rw [kat_kind_eq,z2b,map_eq_pure_bind];refine z4f (z4f (g1 M A E _ (z4e ?_)));rw [if_pos J];refine z4f (z4d ?_);obtain ⟨f1,fr,e⟩:∃ f1 fr,fs=f1::fr:=by
   cases e:fs with
   | nil=>rw [e] at g2;simp at g2;lia
   | cons f1 fr=>exact ⟨f1,fr,rfl⟩
  have hs:∀ v∈fs.filterMap id,∃ x t,v= .str x t:=λ v Z=>by
   obtain ⟨f,hf,e⟩:=List.mem_filterMap.mp Z;exact g3 f hf v e
  have a0:fs.toArray.filterMap id=(fs.filterMap id).toArray:=by simp
  rw [a0,oneTypeOnly'_eq,z2b,qde _ hs];simp only [map_pure,pure_bind];have h0:∃ v O,fs.filterMap id=v::O:=by
   rw [e] at J ⊢;cases f1 with
   | none=>simp at J
   | some v=>exact ⟨v,fr.filterMap id,rfl⟩
  obtain ⟨v,O,ev⟩:=h0;rw [ev];have ha:((List.map (λ _=>Value.type "str") (v::O)).toArray.all λ x=>x==Value.type "str")=true:=by
   simp only [List.all_toArray,z46,z2n];intro _ _;rfl
  have hz:(List.map (λ _=>Value.type "str") (v::O)).toArray[0]? =some (Value.type "str"):=by simp
  rw [hz];simp only [ha,if_true,pure_bind];exact z4e q
 ·by_cases hf:(fs.toArray[0]?.bind id).isSome=true
  ·refine ⟨general',.inr (.inl rfl),λ M A E Q q=> ?_⟩;rw [kat_kind_eq,z2b,map_eq_pure_bind];refine z4f (z4f (g1 M A E _ (z4e ?_)));rw [if_neg J,if_pos hf];exact z4e q
  ·refine ⟨oneType',.inr (.inr rfl),λ M A E Q q=> ?_⟩;rw [kat_kind_eq,z2b,map_eq_pure_bind];refine z4f (z4f (g1 M A E _ (z4e ?_)));rw [if_neg J,if_neg hf,oneTypeOnly'_eq,z2b,map_eq_pure_bind];have a1:∀ v∈vs,Looks M s.heap (typeOf v) (.type "tuple"):=λ v Z=>by
    obtain ⟨p,b,o,its,n,rfl,ho,hc,_⟩:∃ p,TupAt s.heap v p:=by
     clear g1 g2 g3 J hf h2 q
     induction h with
     | nil=>cases Z
     | cons a r ih=>
      rcases z3n.mp Z with e | Z
      ·rw [e];exact ⟨_,a⟩
      ·exact ih Z
    rw [<- hc];exact (Looks.ld ho).andThen .now
   refine z4f (z4f (z4f (kas_mapM (r:=Value.type "tuple") _ (λ v Z Q' hq=>(a1 v Z).here hq) (z4e ?_))));obtain ⟨v,O,ev⟩:∃ v O,vs=v::O:=by
    cases e:vs with
    | nil=>rw [e] at h2;simp at h2
    | cons v O=>exact ⟨v,O,rfl⟩
   rw [ev];have ha:((List.map (λ _=>Value.type "tuple") (v::O)).toArray.all λ x=>x==Value.type "tuple")=true:=by
    simp only [List.all_toArray,z46,z2n];intro _ _;rfl
   have hz:(List.map (λ _=>Value.type "tuple") (v::O)).toArray[0]? =some (Value.type "tuple"):=by simp
   rw [hz];simp only [ha,if_true];exact z4e (z4e q)
theorem q4r {α β:Type} {F:α ->β ->Prop} {f:α ->β}:∀ {l:List α} {k:List β},Paired F l k ->(∀ x y,F x y ->f x=y) ->l.map f=k/\∀ x∈l,F x (f x)
 | _,_,.nil,_=>⟨rfl,λ _ z=>nomatch z⟩
 | _,_,.cons a r,h=>by
  obtain ⟨e,m⟩:=q4r r h;have e1:=h _ _ a;refine ⟨by rw [z3l,e,e1],λ x hx=> ?_⟩;rcases z3n.mp hx with rfl | hx
  ·rw [e1];exact a
  ·exact m x hx
def qia {vs:xH} {ps:xF} (J:Value ->List Str) (h:Paired (λ v p=>TupAt s.heap v p/\J v=p) vs ps) (ha:s.heap.objs.size<=a) {s1:Shared} (hk:∀ b o,s.heap.get? b=some o ->s1.heap.get? b=some o) (hu:A.units < cLine):
  Tim.Keys prog w A s1 a vs (λ v=>Tim.rank qz (vs.map J) (J v)):=by
 intro h2 s' keep;have up:∀ v p,TupAt s.heap v p ->TupAt s'.heap v p:=λ v p x=>x.keep λ b o _ e=>keep b o (z40 (z1r (z3z e) ha)) (hk b o e);obtain ⟨_,hm⟩:=q4r h λ _ _ z=>z.2;obtain ⟨kd,Z,O⟩:=qsh (s:=s') (Paired.mapP h λ v p z=>up v p z.1) h2;refine ⟨kd,λ E Q q=>O _ A E Q q,λ x hx y hy=> ?_⟩;rw [<- Tim.qdx q2c J hx hy];have tx:=up x _ (hm x hx).1;have ty:=up y _ (hm y hy).1;rcases Z with rfl | rfl | rfl
 ·exact qq9 tx ty true
 ·exact qnr tx ty hu
 ·exact qyj tx ty hu
end
def q68 (p:xD):(p.map (Sum.inr:Str ->Key)).map kV=p.map V.str:=by
 rw [z47];rfl
def decT (H:Hp):Value ->List Str
 | .ref a=>match H a with
  | some (.tup xs)=>xs.map λ x=>match x with | .str z=>z | _=>""
  | _=>[]
 | _=>[]
def qcp {H:Hp} {a:Addr} {p:xD} (h:H a=some (.tup (p.map V.str))):decT H (.ref a)=p:=by
 simp only [decT,h];rw [z47];exact (z1f λ _ _=>rfl).trans (z4c p)
section
variable {X:Cx}
def qkg (H:Hp) (vs:xH) (ps:xF):Prop:=Paired (λ v p=>∃ b,v=Value.ref b/\H b=some (.tup (p.map V.str))) vs ps
def qbi (hu:X.A.units+64 < cLine) (hc:X.calm=true) (K:xA) (hK:X.K=K:=by rfl):q22 X (.builtin "sorted") (λ xs H Q=>∃ (d:Addr) (kvs:List (List Str×V)),xs=[.ref d]/\H d=some (.dT (kvs.map λ kv=>(kv.1.map Sum.inr,kv.2)))/\
  ∀ l zs,H l=none ->Paired (λ x p=>∃ b,x=V.ref b/\H b=some (.tup (p.map V.str))) zs (Tim.srt qz (kvs.map (·.1))) ->Q (.ref l) (upd H l (.lst zs))):=by
 subst hK;intro xC s σ H xs us Q I r h;obtain ⟨d,kvs,rfl,hd,q⟩:=h;obtain ⟨u,rfl,ru⟩:=q33 r;cases ru
 obtain ⟨hz,a7,es0,O,o,es,ep,ho,hx,a0,a3,a6⟩:=I.hok d _ hd;have a1:es.size=kvs.length:=by
  rw [<- z19,a3,z30,<- O.length,z30]
 have J:qkg H (es.toList.map (·.key)) (kvs.map (·.1)):=by
  rw [a3,z47];clear hz a3 a0 a1 ho q hd a6;unfold qkg;revert O;generalize hk:(kvs.map λ kv=>(kv.1.map (Sum.inr:Str ->Key),kv.2))=ks;intro O
  induction O generalizing kvs with
  | nil=>
   have:kvs=[]:=by simpa using hk
   subst this;exact .nil
  | cons a rr ih=>
   cases kvs with
   | nil=>simp at hk
   | cons kv kvs=>
    rw [z3l,z2v] at hk;obtain ⟨rfl,hk⟩:=hk;refine .cons ⟨_,zr,?_⟩ (ih kvs hk);obtain ⟨_,a2,_⟩:=a;rw [q68] at a2;exact a2
 have a4:∀ v p,(∃ b,v=Value.ref b/\H b=some (.tup (p.map V.str))) ->TupAt s.heap v p:=λ v p ⟨b,e,hb⟩=>by
  obtain ⟨_,its,rv,o,e1,c,n,dd⟩:=I.hok b _ hb;exact ⟨b,o,its.toArray,n,e,e1,c,dd,by rw [z1g];exact rv⟩
 have Z:Paired (λ v p=>TupAt s.heap v p/\decT H v=p) (es.toList.map (·.key)) (kvs.map (·.1)):=Paired.mapP J λ v p z=>⟨a4 v p z,by
  obtain ⟨b,rfl,hb⟩:=z;exact qcp hb⟩
 have ev:(es.toList.map (·.key)).map (decT H)=kvs.map (·.1):=(q4r Z λ _ _ z=>z.2).1;have mem:∀ v∈es.toList.map (·.key),∃ b,v=Value.ref b/\H b=some (.tup ((decT H v).map V.str)):=(q4r (f:=decT H) J λ v p ⟨b,e,hb⟩=>by
  rw [e];exact qcp hb).2
 have hl:(es.toList.map (·.key)).length<=sizeLine:=by
  rw [z30,z19,a1];rw [z30] at hz;exact hz
 refine q4q (vs:=es.toList.map (·.key)) (rk:=λ v=>Tim.rank qz ((es.toList.map (·.key)).map (decT H)) (decT H v)) hl
  (λ A' E' R hh k=>q94 (hh.trans (I.ok.hd hc)) a7 ⟨o,ho,hx,a0⟩ (by rw [z30,z19] at hl;exact hl) k)
  (λ A' s' a hu' ha keep=>qia (s:=s) (decT H) Z ha keep (by lia)) λ out l n h' tk so keep a5 hg=> ?_
 have ed:=Tim.q3a q2c (decT H) so;rw [ev] at ed;have mo:∀ v∈out.toList,∃ b,v=Value.ref b/\H b=some (.tup ((decT H v).map V.str)):=λ v hv=>mem v (so.perm.mem_iff.mp hv);obtain ⟨zs,rv,hp⟩:∃ zs:List V,Vals zs out.toList/\Paired (λ x p=>∃ b,x=V.ref b/\H b=some (.tup (p.map V.str))) zs (out.toList.map (decT H)):=by
  revert mo;generalize out.toList=os;intro mo
  induction os with
  | nil=>exact ⟨[],.nil,.nil⟩
  | cons v os ih=>
   obtain ⟨zs,r1,r2⟩:=ih λ u hu=>mo u (z16 _ hu);obtain ⟨b,e,hb⟩:=mo v (z1p ..);exact ⟨.ref b::zs,.cons e r1,.cons ⟨b,zr,hb⟩ r2⟩
 rw [ed] at hp;refine I.q3b rv ?_ keep a5 hg (q l zs (I.hok.fresh a5) hp);rw [rv.length,so.perm.length_eq];exact hl
end
end L2
namespace L2
open PySem PySem.Spec PyProof.Rows
section
variable {X:Cx}
end
section
variable {X:Cx} {e:Expr} {lo hi:Option Expr} {se:Expr} {te:TE} {tl th ts:TO} {p2 pos:Pos}
end
def qcq {k:Int} {n:Nat} (h1:0<=k) (h2:k < 2^n):Builtin.Int.intBits k<=n+1:=by
  unfold Builtin.Int.intBits;split
  · exact z4b _
  · have hn:k.natAbs < 2^n:=by
      have:((k.natAbs:Nat):Int) < ((2^n:Nat):Int):=by
        rw [Int.natAbs_of_nonneg h1]
        push_cast
        exact h2
      exact Int.ofNat_lt.mp this
    have:k.natAbs.log2<=n:=by
      rcases Nat.eq_zero_or_pos k.natAbs with h0 | hp
      · rw [h0]
        show 0<=n;exact z4b _
      · exact z3y ((Nat.log2_lt (z42 hp)).mpr hn)
    lia
def q12x (i j:Int):Prop:=(0<=i/\i < 2^600)/\(0<=j/\j < 2^600)
section
variable {X:Cx}
def qyk:OpR X (binaryOp .Mult) (rI q12x λ i j=> .int (i*j)):=opI λ _ _ _ _ _ _ _ J q=>mul_int q (IntMulOk.of_bits (z41 (qcq J.1.1 J.1.2) (by decide)) (z41 (qcq J.2.1 J.2.2) (by decide)))
def q12y (K:xA):R2:=λ x y H Q=>∃ a b xs ys,x= .ref a/\y= .ref b/\SqT K H a xs/\SqT K H b ys/\xs.length+ys.length<=sizeLine/\∀ p H',Same H H' ->SqT K H' p (xs++ys) ->Q (.ref p) H'
def qoq (K:xA) (hK:X.K=K:=by rfl):OpR X (binaryOp .Add) (q12y K):=by
 subst hK;intro xC s σ H x y v u Q I rx ry h;obtain ⟨a,b,xs,ys,rfl,rfl,ha,hb,hz,q⟩:=h;by_cases hx:xs=[]
 ·subst hx;cases rx
  cases ry
  obtain ⟨its,r1,p1,_⟩:=I.tuple ha;obtain ⟨a0,r2,p2,_⟩:=I.tuple hb;have e0:its=[]:=r1.qcm.mpr rfl;subst e0;obtain ⟨⟨cls,dd,data,sl⟩,ho,hc,n,hd⟩:=id p1;obtain ⟨⟨a4,a2,a1,a3⟩,Z,J,n2,O⟩:=id p2;simp only at hc hd J O;subst hc hd J O;exact concat_meets ⟨_,ho,zr⟩ ⟨_,Z,zr⟩ noFill_tuple_add seq_tuple_add PySem.F.slot_tuple_add PySem.F.entry_tuple_add (PySem.F.args_tuple_add_2 _ _)
   (tuple_addW0 a b #[] a0.toArray n n2 dd a2 sl a3 rfl) ⟨ho,Z,⟨.ref b,H,I,rfl,q b H (Same.refl _) hb⟩⟩
 ·refine qy2 xC s σ H _ _ v u Q I rx ry ⟨a,b,xs,ys,zr,zr,ha,hb,hx,hz,λ e=> ?_,λ _ p hp=>q p _ (qf hp) (SqT.of qb)⟩;subst e;exact q a H (Same.refl _) (by rw [z31];exact ha)
end
def qsi (bs:List Bool):(List.range bs.length).any (λ i=>(bs[i]?).getD true)=bs.any id:=by
 rw [z2z,z2p,z2p]
 constructor
 ·rintro ⟨i,hi,h⟩;have J:=z3d.mp hi;rw [z0d J] at h;exact ⟨_,z2k J,h⟩
 ·rintro ⟨b,hb,h⟩;obtain ⟨i,hi,e⟩:=z12.mp hb;refine ⟨i,z3d.mpr hi,?_⟩;rw [z0d hi,e];exact h
section
variable {X:Cx}
def qsj (hc:X.calm=true) (K:xA) (hK:X.K=K:=by rfl):q22 X (.builtin "any") (λ xs H Q=>∃ (p:Addr) (bs:List Bool),xs=[.ref p]/\SqL K H p (bs.map V.bl)/\Q (.bl (bs.any id)) H):=by
 subst hK;intro xC s σ H xs us Q I r h;obtain ⟨p,bs,rfl,hp,q⟩:=h;obtain ⟨u,rfl,ru⟩:=q33 r;cases ru
 obtain ⟨its,rv,pl,hz⟩:=I.list hp;have hl:its.toArray.size=bs.length:=by
  have:=rv.length;rw [z30] at this;rw [z23];exact this.symm
 have hh:X.A.in1.handled=none:=I.ok.hd hc;have O:p≠s.heap.objs.size:=λ e=>by
  obtain ⟨o,n,e1,_⟩:=pl;exact absurd (z3z e1) (by rw [e];exact z3p _)
 refine call_any_walk (z25 pl.isList ?_);refine ⟨s.heap.objs.size,_,_,_,_,_,λ i=>(bs[i]?).getD true,zr,Walks.list hh _ p O its.toArray,⟨⟨_,z1c _ rfl,zr,zr⟩,pl.isList.at λ o e=>z0o _ e⟩,?_,λ h' tk kk=> ?_⟩
 ·intro i v s' Q' E' hv hq;have Z:its[i]? =some v:=by simpa using hv
  obtain ⟨b,e,rfl⟩:=qon rv Z;have J:Q' ((bs[i]?).getD true) s':=hq;rw [e] at J;exact z24 J
 ·rw [hl,qsi];exact ⟨.bl _,H,I.kept λ b o e=>kk b o (by simp;exact z40 (z3z e)) (z0o _ e),rfl,q⟩
def qqa {P:Program} {w:World} {es:List DictEntry} {vs:List (Key×Value)} (p:Pairs (q17 P w) es vs):∀ {kvs:List (Key×V)} {ws:xD},KV kvs vs ->kvs.map (·.1)=ws.map Sum.inr ->Vals (ws.map V.str) (es.map (·.key)):=by
 induction p with
 | nil=>
  intro kvs ws r h;cases r
  have:ws=[]:=by simpa using h.symm
  subst this;exact .nil
 | cons a b c ih=>
  intro kvs ws r h;cases r with
  | cons d f=>
   cases ws with
   | nil=>simp at h
   | cons x ws=>
    rw [z3l,z3l,z2v] at h;rw [<- d.1,h.1] at a;refine .cons ?_ (ih f h.2);rcases q1u (show q8u (Sum.inr x) _=true from a) with ⟨i,t,e1,_⟩ | ⟨x',t,e1,e2⟩
    ·cases e1
    ·cases e1
     exact ⟨t,e2⟩
def qj3 (hc:X.calm=true) (K:xA) (hK:X.K=K:=by rfl):q22 X (.builtin "sorted") (λ xs H Q=>∃ (d:Addr) (kvs:List (Key×V)) (ws:xD),xs=[.ref d]/\H d=some (.dK kvs)/\kvs.map (·.1)=ws.map Sum.inr/\
  ∀ l,H l=none ->Q (.ref l) (upd H l (.lst ((Tim.srt ql ws).map V.str)))):=by
 subst hK;intro xC s σ H xs us Q I r h;obtain ⟨d,kvs,ws,rfl,hd,hk,q⟩:=h;obtain ⟨u,rfl,ru⟩:=q33 r;cases ru
 obtain ⟨hz,a1,vs,a3,o,es,ep,ho,hx,J,_,a0,hnd⟩:=I.hok d _ hd;have rv:Vals (ws.map V.str) (es.toList.map (·.key)):=qqa a0 a3 hk;have wl:ws.length=kvs.length:=by
  have:=congrArg List.length hk;rw [z30,z30] at this;exact this.symm
 have hl:(es.toList.map (·.key)).length<=sizeLine:=by
  rw [<- rv.length,z30,wl];exact hz
 obtain ⟨e1,e2,_⟩:=q67 rv;refine q4q (vs:=es.toList.map (·.key)) (rk:=λ v=>Tim.rank ql ((es.toList.map (·.key)).map sOf) (sOf v)) hl (λ A' E' R hh k=>q94 (hh.trans (I.ok.hd hc)) a1 ⟨o,ho,hx,J⟩ (by rw [z30,z19] at hl;exact hl) k)
  (λ A' s' a _ _ _=>qbh rv) λ out l n h' tk so keep O hg=> ?_
 have a2:∀ u∈out.toList,∃ x t,u= .str x t:=λ u hu=>e2 u (so.perm.mem_iff.mp hu);have ed:=Tim.q3a q1n sOf so;rw [e1] at ed;have Z:=q49 a2;rw [ed] at Z;exact I.q3b Z (by rw [z30,(Tim.qo ql ws).length_eq,wl];exact hz) keep O hg (q l (I.hok.fresh O))
end
section
variable {prog:Program} {w:World} {A:Around} {R:Result ->Shared ->Prop} {I:Addr} {fp wr:List Addr} {n:Nat} {P:Nat ->Value ->Prop} {St:Nat ->Heap ->Prop}
end
section
variable {X:Cx} {e d:Expr} {t tk:TA} {p pos kpos:Pos}
end
def qib:entryFor table "dict.update.loop"=some Builtin.«dict.update.loop»:=entryFor_of_tree (by kernel_rfl)
def q8y:plainId "dict.update.loop"=true:=by decide+kernel
def qgk:typeLookup (.type "list") "keys"=pure none:=by rw [typeLookup_type,builtinLookup_eq_fast];kernel_rfl
section
variable {prog:Program} {w:World} {A:Around} {E:xB} {s:Shared}
def qyl {a:Addr} {o:Obj} {xs:Array Value} {k:Nat} {Q:Option Value ->Shared ->Prop} (hx:s.heap.get? a=some o) (hc:o.cls= .type "list") (J:o.data= .seq xs k) (hd:o.dict=none) (hA:A.handled=none)
  (h:∀ h' tk,(∀ b o,s.heap.get? b=some o ->h'.get? b=some o) ->Q none {s with heap:=h',toks:=tk}):wpAny (model prog w) A (getAttr? (.ref a) "keys") Q E s:=by
 obtain ⟨c,dct,dat,sl⟩:=o;simp only at hc J hd;subst hc J hd;obtain ⟨hp,g,d,tk,os⟩:=s;have hT:∀ O,(⟨hp,g,d,O,os⟩:Shared).TypeIs (.ref a) "list":=λ _=>⟨_,hx,rfl⟩;have f1:=sub_AttributeError;have f3:=PySem.F.slot_list_getattribute.lookup;have f4:=PySem.F.slot_list_getattribute.bind (.ref a);have f5:=am_list_getattr_none;unfold getAttr? getAttrBy? getAttrBy
 repeat (any_goals (first | assumption | exact hT _ | ((with_reducible show wpAny _ _ (call (Value.builtin "list.__getattribute__") _ _) _ _ _);refine call_meets PySem.F.slot_list_getattribute (hT _) am_entry_list_getattribute (PySem.F.args_list_getattribute_2 _ _) (meets_getattribute_miss_list a xs k sl "keys" _ qgk (by decide+kernel) (by show 4+100<=sizeLine;decide)) ⟨hx,hA,λ h' O e Z=> ?_⟩) | wp_step))
 obtain ⟨t',u',he⟩:=Z.there;show wpAny _ _ (getattributeRaised _ _ _ _ _ _ _) _ _ _;unfold getattributeRaised
 repeat (any_goals (first | assumption | wp_step))
 exact h h' O Z.of.keeps
end
def qf6 (f:Nat ->Str×Value):Nat ->Nat ->List (Key×Value) ->List (Key×Value)
 | 0,_,kvs=>kvs
 | k+1,i,kvs=>qf6 f k (i+1) (stored kvs (Sum.inr (f i).1) (f i).2)
def qqb {kvs:List (Key×Value)} {k:Key} {v:Value}:(stored kvs k v).length<=kvs.length+1:=by
 unfold stored;split
 ·rw [z30]
  lia
 ·rw [z1o];exact z48 _
section
variable {prog:Program} {w:World} {A:Around} {R:Result ->Shared ->Prop} {I:Addr} {fp wr:List Addr} {n:Nat} {P:Nat ->Value ->Prop} {St:Nat ->Heap ->Prop}
theorem qll {h0:Heap} (W:Walks prog w A.in1 I fp wr n P St) (d:Addr) (O:d∉fp) (a2:h0.get? d=none) (a1:∀ b∈wr,h0.get? b=none) (hn:n<=sizeLine) (f:Nat ->Str×Value) (hf:∀ i v,P i v ->∃ q t,v= .ref q/\IsTup h0 q #[.str (f i).1 t,(f i).2]):
  ∀ (k i:Nat) (s:Shared) (kvs:List (Key×Value)) (j:Int) (ti:Tok),i+k=n ->St i s.heap ->s.heap.DictOf (q17 prog w) d kvs ->kvs.length<=i ->(∀ b o,h0.get? b=some o ->s.heap.get? b=some o) ->
  (∀ h' tk,h'.DictOf (q17 prog w) d (qf6 f k i kvs) ->(∀ b o,h0.get? b=some o ->h'.get? b=some o) ->R (.ok (.ret .none)) {s with heap:=h',toks:=tk}) ->
  codeAny (model prog w) A (.builtin "dict.update.loop" ⟨[.ref d,.ref I,.int j ti,.none],[]⟩) R s
 | 0,i,s,kvs,j,ti,hk,a0,hm,hl,kp,hR=>by
  have hi:i=n:=by lia
  subst hi;have Z:d∉wr:=λ h=>O (W.sub _ h);refine z39 qib ?_;rw [Around.under_plainId q8y _];refine z4f (m:=pyNext (.ref I)) (W.done s _ _ a0 λ h' tk J=> ?_);show wpAny _ _ (Builtin.Dict.addKeywords d [] >>=λ _=>ret .none) _ _ _;obtain ⟨o,es,ep,ho,r⟩:=hm;exact z4f (z4e (z4e (hR h' tk ⟨o,es,ep,J d o Z ho,r⟩ λ b o e=>J b o (λ hb=>by rw [a1 b hb] at e;cases e) (kp b o e))))
 | k+1,i,s,kvs,j,ti,hk,a0,hm,hl,kp,hR=>by
  have a8:i < n:=by lia
  have Z:d∉wr:=λ h=>O (W.sub _ h);refine z39 qib ?_;rw [Around.under_plainId q8y _];refine z4f (m:=pyNext (.ref I)) (W.item i s _ _ a8 a0 λ v h' tk hP a5 J=> ?_);obtain ⟨q,t,rfl,oq,hq,hc,nq,a7⟩:=hf i v hP;have a6:∀ b o,h0.get? b=some o ->h'.get? b=some o:=λ b o e=>J b o (λ hb=>by rw [a1 b hb] at e;cases e) (kp b o e);have a9:h'.DictOf (q17 prog w) d kvs:=by
   obtain ⟨o,es,ep,ho,r⟩:=hm;exact ⟨o,es,ep,J d o Z ho,r⟩
  have a3:=a6 q _ hq;refine z4f (z3o (z4f (wpAny_tryCatch ?_)));unfold Builtin.Dict.pairItems;refine z4f (wpAny_typeOf (T:="tuple") ⟨oq,a3,hc⟩ ?_);rw [if_pos (by decide)];refine z4f (wpAny_seqItems a3 a7 (z4e ?_));show wpAny _ _ (holding [.str (f i).1 t,(f i).2] (dictSet d (.str (f i).1 t) (f i).2)) _ _ _;refine z3o (wpAny_dictSet_pairs (knd:=q17 prog w) (k:=Sum.inr (f i).1) (qd7 _ _ _ _) a9 (λ h2 b2 a4=> ?_) (by lia));have b4:∀ b o,h0.get? b=some o ->h2.get? b=some o:=λ b o e=>(a4.2 b (λ z=>by rw [z,a2] at e;cases e)).trans (a6 b o e);refine z4e ⟨plainId_quiet q8y _,qll W d O a2 a1 hn f hf k (i+1) _ _ (j+1) _ (by lia) (W.frame _ _ _ a5 λ b hb o e=>(a4.2 b (λ z=>O (z ▸ hb))).trans e) b2 (z41 qqb (z2q hl)) b4 λ h3 b6 b3 b5=> ?_⟩;exact hR h3 b6 b3 b5
end
def q46 (ps:List (Str×V)) (m:List (Key×V)):List (Key×V):=ps.foldl (λ m kv=>putK m (Sum.inr kv.1) kv.2) m
theorem qbj:∀ (ps:List (Str×V)) (m:List (Key×V)),(q46 ps m).length<=m.length+ps.length
 | [],m=>z48 _
 | p::ps,m=>by
  have h:(putK m (Sum.inr p.1) p.2).length<=m.length+1:=by
   unfold putK;split
   ·rw [z30]
    lia
   ·rw [z1o];exact z48 _
  have:=qbj ps (putK m (Sum.inr p.1) p.2);show (q46 ps (putK m (Sum.inr p.1) p.2)).length<=m.length+(ps.length+1)
  lia
def PRel (p:Str×V) (q:Str×Value):Prop:=p.1=q.1/\RelV p.2 q.2
theorem qor:∀ {ps:List (Str×V)} {us:List (Str×Value)} (_:Paired PRel ps us) (i:Nat) (hi:i < ps.length),PRel ps[i] (us.getD i ("",.none))
 | _,_,.nil,i,hi=>absurd hi (Nat.not_lt_zero _)
 | _,_,.cons a b,0,hi=>a
 | _,_,.cons a b,i+1,hi=>qor b i (Nat.lt_of_succ_lt_succ hi)
theorem qf7 {ps:List (Str×V)} {us:List (Str×Value)} (r:Paired PRel ps us):∀ (k i:Nat) (m:List (Key×V)) (vs:List (Key×Value)),i+k=us.length ->KV m vs ->KV (q46 (ps.drop i) m) (qf6 (λ i=>us.getD i ("",.none)) k i vs)
 | 0,i,m,vs,h,J=>by
  have hl:=Paired.length r;rw [List.drop_eq_nil_of_le (by lia)];exact J
 | k+1,i,m,vs,h,J=>by
  have hl:=Paired.length r;have hi:i < ps.length:=by lia
  rw [z09 hi];show KV (q46 (ps.drop (i+1)) (putK m (Sum.inr ps[i].1) ps[i].2)) (qf6 _ k (i+1) (stored vs (Sum.inr (us.getD i ("",.none)).1) (us.getD i ("",.none)).2));have O:=qor r i hi;rw [<- O.1];exact qf7 r k (i+1) _ _ (by lia) (J.put _ O.2)
section
variable {X:Cx}
def qqc (K:xA) (H:Hp) (y:V) (kv:Str×V):Prop:=∃ q,y=V.ref q/\SqT K H q [.str kv.1,kv.2]
def qsk {xC:xG} {σ:St} {H:Hp} {s:Shared} (I:Inv X xC σ H s) {ys:List V} {ps:List (Str×V)} (h:Paired (qqc X.K H) ys ps):∀ {its:xH},Vals ys its ->∃ us:List (Str×Value),Paired PRel ps us/\∀ i v,its[i]? =some v ->∃ q t,v= .ref q/\IsTup s.heap q #[.str (us.getD i ("",.none)).1 t,(us.getD i ("",.none)).2]:=by
 induction h with
 | nil=>
  intro its r;cases r
  exact ⟨[],.nil,λ i v e=>by simp at e⟩
 | cons a b ih=>
  intro its r;cases r with
  | cons r1 rr=>
   obtain ⟨us,h1,h2⟩:=ih rr;obtain ⟨q,rfl,hq⟩:=a;cases r1
   obtain ⟨it2,rv,tp,_⟩:=I.tuple hq;cases rv with
   | cons c1 c2=>
    cases c2 with
    | cons c3 c4=>
     cases c4
     obtain ⟨t,rfl⟩:=c1;refine ⟨(_,_)::us,.cons ⟨zr,c3⟩ h1,λ i v e=> ?_⟩;cases i with
     | zero=>
      have:v=Value.ref q:=by simpa using e.symm
      subst this;exact ⟨q,t,zr,tp⟩
     | succ i=>exact h2 i v (by simpa using e)
def qqd (hc:X.calm=true) (K:xA) (hK:X.K=K:=by rfl):q22 X (.type "dict") (λ xs H Q=>∃ (p:Addr) (ys:List V) (ps:List (Str×V)),xs=[.ref p]/\SqL K H p ys/\Paired (qqc K H) ys ps/\∀ d,H d=none ->Q (.ref d) (upd H d (.dK (q46 ps [])))):=by
 subst hK;intro xC s σ H xs vs Q I r h;obtain ⟨p,ys,ps,rfl,hp,hy,q⟩:=h;obtain ⟨u,rfl,ru⟩:=q33 r;cases ru
 obtain ⟨its,rv,⟨ol,nl,a5,Z,a3,O⟩,hz⟩:=I.list hp;obtain ⟨us,a6,b5⟩:=qsk I hy rv;have a7:us.length=its.length:=by rw [<- Paired.length a6,<- Paired.length hy,rv.length]
 have a4:p < s.heap.objs.size:=z3z a5;have hh:X.A.in1.in1.handled=none:=I.ok.hd hc;refine callType_codes (Q₁:=λ ob s1=>ob= .ref s.heap.objs.size/\s1={s with heap:=s.heap.push {cls:= .type "dict",data:= .dict #[]}}) PySem.F.kt_called_dict (PySem.F.kt_typeCall_dict_1 _) PySem.F.entry_dict_init (kt_code_dict_new _ ⟨rfl,rfl⟩) ?_;rintro ob s1 ⟨rfl,rfl⟩;have d0:(s.heap.push {cls:= .type "dict",data:= .dict #[]}).DictOf (q17 X.prog X.w) s.heap.objs.size []:=Heap.DictOf.new s.heap;have l0:(s.heap.push {cls:= .type "dict",data:= .dict #[]}).get? p=some ol:=z0o _ a5;refine ⟨d0.typeIs,PySem.F.args_dict_init_2 _ _,?_⟩;unfold Builtin.«dict.__init__»;refine z4f ?_;unfold Builtin.Dict.selfAndRest;refine z4f (wpAny_notOrdered_dict d0.typeIs (z4e ?_));show wpAny _ _ (Builtin.Dict.updateFrom "dict.__init__" s.heap.objs.size (.ref p) [] .none) _ _ _;unfold Builtin.Dict.updateFrom;refine z4f (wpAny_typeOf (T:="list") ⟨ol,l0,Z⟩ ?_);rw [if_pos (by decide)];refine z4f (qyl l0 Z O a3 hh λ h1 tk1 a0=> ?_);rw [if_pos (by rfl)];refine z4f (z4d ?_);have a8:PlainL h1 p its.toArray:=⟨ol,nl,a0 _ _ l0,Z,a3,O⟩;obtain ⟨od,b2,b3,b4,rd⟩:=d0;have a2:=a0 _ _ b4;have a1:s.heap.objs.size < h1.objs.size:=z3z a2;refine z4f (z25 a8.isList ?_);have J:∀ b,s.heap.objs.size<=b ->s.heap.get? b=none:=λ b hb=>by
  cases e:s.heap.get? b with
  | none=>rfl
  | some o=>exact absurd (z3z e) (Nat.not_lt_of_le hb)
 have hsz:us.length=its.toArray.size:=by rw [z23];exact a7
 have W0:Walks X.prog X.w X.A.in1.in1 h1.objs.size [h1.objs.size,p] [h1.objs.size] us.length (λ i v=>its.toArray[i]? =some v) (λ i h=>h.IsListIter h1.objs.size p i/\h.IsList p its.toArray):=by
  rw [hsz];exact Walks.list hh h1.objs.size p (z40 (Nat.lt_trans a4 a1)) its.toArray
 refine z4e ⟨plainId_quiet q8y _,qll (h0:=s.heap) (n:=us.length) (A:=X.A.in1) W0 s.heap.objs.size ?_ (J _ (z48 _)) ?_ (by rw [a7,<- rv.length];exact hz) (λ i=>us.getD i ("",.none)) ?_ us.length 0 _ [] 0 _ (z3x _) ⟨⟨_,z1c _ rfl,rfl,rfl⟩,a8.isList.at λ o e=>z0o _ e⟩ ⟨od,b2,b3,z0o _ a2,rd⟩ (z48 _) (λ b o e=>z0o _ (a0 _ _ (z0o _ e))) λ h' tk hm keep=> ?_⟩
 ·intro hb;simp only [z3n,z2r,or_false] at hb;rcases hb with e | e
  ·exact absurd e (z40 a1)
  ·exact absurd e.symm (z40 a4)
 ·intro b hb;rw [z1m.mp hb];exact J _ (z3y a1)
 ·intro i v hv;exact b5 i v (by simpa using hv)
 ·have a9:=qf7 a6 us.length 0 [] [] (z3x _) .nil;rw [List.drop_zero] at a9;refine ⟨zr,.ref s.heap.objs.size,_,I.laid (a:=s.heap.objs.size) (o:= .dK (q46 ps [])) (t':=tk) keep (z48 _) ⟨?_,beq_eq_false_iff_ne.mpr (Ne.symm (z40 I.big)),_,a9,hm⟩,zr,q _ (I.hok.fresh (z48 _))⟩;have h1:=qbj ps [];rw [z34,z3x] at h1;rw [<- Paired.length hy] at h1;exact z41 h1 hz
end
def Itd (a:Addr) (o:Obj) (kvs:List (Key×V)):It:=
 ⟨λ i H=>H a=some (.frz o (.dK kvs))/\i < kvs.length,λ i H x H'=>H'=H/\∃ kv,kvs[i]? =some kv/\x=kV kv.1,λ i H=>H a=some (.frz o (.dK kvs))/\kvs.length<=i⟩
def qv2 {P:Program} {w:World} {es:List DictEntry} {vs:List (Key×Value)} (p:Pairs (q17 P w) es vs):∀ {kvs:List (Key×V)} {i:Nat} {J:Key×V},KV kvs vs ->kvs[i]? =some J ->∃ e,es[i]? =some e/\RelV (kV J.1) e.key:=by
 induction p with
 | nil=>
  intro kvs i J r h;cases r
  simp at h
 | cons a b c ih=>
  intro kvs i J r h;cases r with
  | cons d f=>
   cases i with
   | zero=>
    simp at h
    subst h;refine ⟨_,zr,?_⟩;rw [<- d.1] at a;rcases q1u a with ⟨i,t,e1,e2⟩ | ⟨x',t,e1,e2⟩
    ·rw [e1];exact ⟨t,e2⟩
    ·rw [e1];exact ⟨t,e2⟩
   | succ i=>simpa using ih f (by simpa using h)
section
variable {X:Cx} {tg:Expr}
def Inv.freeze {xC:xG} {σ:St} {H:Hp} {s:Shared} {a:Addr} {o:Obj} {kvs:List (Key×V)} (I:Inv X xC σ H s) (e:H a=some (.dK kvs)) (ho:s.heap.get? a=some o):Inv X xC σ (upd H a (.frz o (.dK kvs))) s:=by
 have u:Un X.fs [] H (upd H a (.frz o (.dK kvs))) s.heap s.heap:=by
  refine ⟨λ b o q _ _ _=>q,λ b o q _ _ _=>⟨o.slots,q⟩,λ b J q n _=> ?_,λ b J q _=>⟨J,q⟩,λ b xs q=> ?_,λ b J u q=> ?_,λ b ps q=>⟨#[],?_⟩⟩
  ·rw [qh (λ z=>by rw [z,e] at n;cases n)];exact n
  ·rw [qh (λ z=>by rw [z,e] at q;cases q)];exact q
  ·rw [qh (λ z=>by rw [z,e] at q;cases q)];exact q
  ·rw [qh (λ z=>by rw [z,e] at q;cases q),q];simp
 have hok:HOk X.prog X.w (upd H a (.frz o (.dK kvs))) s.heap:=λ b J q=>by
  by_cases z:b=a
  ·subst z;rw [qb] at q;cases q
   have:=I.hok b _ e;exact ⟨ho,this⟩
  ·rw [qh z] at q;have hb:=I.hok b J q;exact hb.stay (λ c u _ g=>g) (λ c g=>by rw [qh (λ z=>by rw [z,e] at g;cases g)];exact g) λ c xs g=>by rw [qh (λ z=>by rw [z,e] at g;cases g)];exact g
 have:=I.un (t':=s.toks) u hok;exact this
def qsl {P:Program} {w:World} {K:xA} (a it:Addr) (o:Obj) (es:Array DictEntry) (ep:Nat) (kvs:List (Key×V)) (ho:o.ExactDict) (J:o.data= .dict es ep):Turn P w K tg (Itd a o kvs) [it] it (λ i h=>h.IsKeyIter it a i es.size ep) where
 mem:=by simp
 obj:=λ i h st b hb=>by
  have e:b=it:=by simpa using hb
  subst e;obtain ⟨o,e,c,d⟩:=st;exact ⟨o,e,λ v z=>by rw [d] at z;cases z⟩
 keep:=λ i h h' st k=>by
  obtain ⟨o,e,r⟩:=st;exact ⟨o,k it (by simp) o e,r⟩
 item:=by
  intro X hP hw hK hc i xC s σ H E I hf st hg;subst hP hw hK;obtain ⟨ha,hi⟩:=hg;obtain ⟨a0,hz,a7,vs,a2,o2,a5,a4,Z,a8,O,_,a1,a6⟩:=I.hok a _ ha;rw [a0] at Z;cases Z
  rw [J] at O;cases O
  obtain ⟨e,he,ru⟩:=qv2 a1 a2 (z0d hi);obtain ⟨f0,f1,f2,f3,f4,f5⟩:=hf it (by simp);refine qdw st ⟨o,a0,ho,J⟩ (e:=e) (by simpa using he) λ h' a3 sb=> ?_;have I1:Inv X xC σ H {s with heap:=h'}:=I.turned (t':=s.toks) (λ b o hb e=>(sb.2 b hb).trans e) f0 f1 f3 f4 f5;obtain ⟨oi,ei,ci,di⟩:=id a3;exact ⟨_,rfl,qcl (s:={s with heap:=h'}) ei ci di (by decide) ⟨kV kvs[i].1,H,I1,ru,⟨rfl,_,z0d hi,rfl⟩,a3,λ b hb=>(hf b hb).1⟩⟩
 done:=by
  intro X hP hw hK hc i xC s σ H E I hf st hg;subst hP hw hK;obtain ⟨ha,hi⟩:=hg;obtain ⟨a0,hz,a7,vs,a2,o2,a5,a4,Z,a8,O,_,a1,a6⟩:=I.hok a _ ha;rw [a0] at Z;cases Z
  rw [J] at O;cases O
  have hl:es.size=kvs.length:=by
   have h1:=a1.length;have h2:kvs.length=vs.length:=Paired.length a2;rw [z19] at h1
   lia
  obtain ⟨f0,f1,f2,f3,f4,f5⟩:=hf it (by simp);exact qgj (I.ok.hd hc) st ⟨o,a0,ho,J⟩ (by lia) λ h' eb=>⟨zr,I.turned (t':=s.toks) (λ b o hb e=>eb b o hb e) f0 f1 f3 f4 f5⟩
 self:=by
  intro A i s Q E st h;exact wpAny_pyIter_keyiter st h
def iDct (tl:TE):TI:=λ σ H R=>tl σ H λ x H1=>∃ a kvs,x= .ref a/\((H1 a=some (.dK kvs)/\∀ o,R (Itd a o kvs) (upd H1 a (.frz o (.dK kvs))))\/ ∃ o,H1 a=some (.frz o (.dK kvs))/\R (Itd a o kvs) H1)
def qdy {l:Expr} {tl:TE} (hl:PE X l tl):PI X tg l (iDct tl):=by
 intro xC s σ H R I h;refine thn (hl xC s σ H _ I h) λ v s1 a3=> ?_;obtain ⟨x,H1,I1,r1,q1⟩:=a3;obtain ⟨a,kvs,e,q⟩:=q1;subst e;cases r1
 obtain ⟨H2,o,I2,ha,q2⟩:∃ H2 o,Inv X xC σ H2 s1/\H2 a=some (.frz o (.dK kvs))/\R (Itd a o kvs) H2:=by
  rcases q with ⟨e,q⟩ | ⟨o,e,q⟩
  ·obtain ⟨hz,O,vs,a2,o,es,ep,ho,r⟩:=I1.hok a _ e;exact ⟨_,o,I1.freeze e ho,qb,q o⟩
  ·exact ⟨H1,o,I1,e,q⟩
 obtain ⟨a0,hz,O,vs,a2,o2,es,ep,Z,a1,J,_,hp2,hnd⟩:=I2.hok a _ ha;rw [a0] at Z;cases Z
 refine qdv O ⟨o,a0,a1,J⟩ ?_;refine ⟨s1.heap.objs.size,[s1.heap.objs.size],_,_,H2,zr,I2.kept (t':=s1.toks) λ b o e=>z0o _ e,qsl a _ o es ep kvs a1 J,⟨_,z1c _ rfl,zr,zr⟩,λ b hb=> ?_,q2⟩;have e:b=s1.heap.objs.size:=by simpa using hb
 subst e;exact I2.fpOk (z48 _) (I2.hok.fresh (z48 _))
def qv3 {a:Addr} {o:Obj} {kvs:List (Key×V)} {g:TG} {tb:TS} {D:Ends} {σ:St} {H:Hp} (Pv:Nat ->St ->Hp ->Prop) (h0:Pv 0 σ H) (hl:∀ i σ H,i<=kvs.length ->Pv i σ H ->H a=some (.frz o (.dK kvs)))
  (hs:∀ i J σ H,kvs[i]? =some J ->Pv i σ H ->g (kV J.1) σ H λ σ2 H2=>tb {D with nx:=Pv (i+1),ct:=Pv (i+1),bk:=D.nx} σ2 H2) (he:∀ σ H,Pv kvs.length σ H ->D.nx σ H):
  ∃ W:Nat ->Nat ->St ->Hp ->Prop,(∃ m,W 0 m σ H)/\∀ i m σ H,W i m σ H ->((Itd a o kvs).stop i H/\D.nx σ H)\/ ((Itd a o kvs).go i H/\∃ N:St ->Hp ->Prop,(∀ σ' H',N σ' H' ->∃ O,O < m/\W (i+1) O σ' H')/\∀ x H',(Itd a o kvs).yld i H x H' ->g x σ H' λ σ2 H2=>tb {D with nx:=N,ct:=N,bk:=D.nx} σ2 H2):=by
 refine qsc kvs.length Pv h0 (λ i σ H hi p=>⟨hl i σ H (z3y hi) p,hi⟩) (λ σ H p=>⟨⟨hl _ σ H (z48 _) p,z48 _⟩,he σ H p⟩) λ i σ H hi p x H' y=> ?_;obtain ⟨rfl,J,hk,rfl⟩:=y;exact hs i J σ H' hk p
def qf8:q22 X (.type "dict") (λ xs H Q=>∃ (a:Addr) (kvs:List (Key×V)),xs=[.ref a]/\Rd H a (.dK kvs)/\∀ d,H d=none ->Q (.ref d) (upd H d (.dK kvs))):=by
 intro xC s σ H xs us Q I r h;obtain ⟨a,kvs,rfl,ha,q⟩:=h;obtain ⟨u,rfl,ru⟩:=q33 r;cases ru
 obtain ⟨hz,Z,vs,J,hd⟩:=ha.ok I.hok;have hl:kvs.length=vs.length:=Paired.length J;refine kt_call_dict Z hd (by lia) λ h' O hs=> ?_;exact ⟨.ref s.heap.objs.size,_,I.laid (a:=s.heap.objs.size) (o:= .dK kvs) (t':=s.toks) (λ b o e=>(hs.2 b (z40 (z3z e))).trans (z0o _ e)) (z48 _) ⟨hz,beq_eq_false_iff_ne.mpr (Ne.symm (z40 I.big)),vs,J,O⟩,zr,q _ (I.hok.fresh (z48 _))⟩
end
section
variable {X:Cx} {e:Expr} {lo hi:Option Expr} {se:Expr} {te:TE} {tl th ts:TO} {p2 pos:Pos}
end
section
variable {prog:Program} {w:World} {A:Around} {E:xB} {s:Shared}
def qym {nm:String} {a b:Addr} {oa ob:Obj} {J eb:Array DictEntry} {pa pb:Nat} {Q:Bool ->Shared ->Prop} (na:(a==sysModules)=false) (nb:(b==sysModules)=false) (Z:s.heap.get? a=some oa) (O:oa.data= .dict J pa)
  (a1:s.heap.get? b=some ob) (a0:ob.data= .dict eb pb) (a4:KeysOf (q17 prog w) eb) (hsz:J.size=eb.size)
  (a3:∀ (i:Nat) (e:DictEntry),J[i]? =some e ->∃ k j f,(q17 prog w).is k e.key=true/\e.hash=(q17 prog w).hash k/\(eb.findIdx? λ g=>(q17 prog w).is k g.key)=some j/\eb[j]? =some f/\SeqAt.EqAt A s e.val f.val true)
  (q:Q true s):wpAny (model prog w) A (Builtin.Dict.samePairs nm a b) Q E s:=by
 unfold Builtin.Dict.samePairs Builtin.Dict.showsAll;rw [if_neg (by rw [na];exact z1l),if_neg (by rw [nb];exact z1l)];refine z4f (z4e ?_);refine z4f (z4e ?_);refine z4f (z2a Z O ?_);refine z4f (z2a a1 a0 ?_);rw [if_neg (by simp [hsz])];refine z4f (z38 Z O ?_);refine z4f ?_;rw [Std.Legacy.Range.forIn_eq_forIn_range'];simp only [Std.Legacy.Range.size,Nat.sub_zero,Nat.add_sub_cancel,Nat.div_one];refine wpAny_forIn_list _ (λ rest x s'=>s'=s/\x=(none,())/\∃ i,i<=J.size/\rest=List.range' i (J.size - i)) _ ?_ ?_ _ _ ⟨rfl,rfl,0,z4b _,by simp⟩
 ·rintro x rest st s' ⟨rfl,rfl,i,hi,hr⟩;have lt:i < J.size:=by
   rcases Nat.lt_or_ge i J.size with h | h
   ·exact h
   ·rw [Nat.sub_eq_zero_of_le h] at hr;cases hr
  have e2:J.size - i=(J.size - (i+1))+1:=by lia
  rw [e2,List.range'_succ,z2v] at hr;obtain ⟨rfl,hr⟩:=hr;refine z4f (z2a Z O ?_);have ge:=z0b lt;obtain ⟨k,j,f,h1,h2,h3,h4,h5⟩:=a3 x _ ge;rw [ge];have a2:wpAny (model prog w) A (holding [J[x].key,J[x].val] (do
     let __x <- dictFind b J[x].key J[x].hash
     match __x with
      | some j=>do
       let __do_lift <- dictEntries b
       match __do_lift[j]? with
        | some f=>holding [f.val] (eqBool J[x].val f.val)
        | x=>unsupported "internal:dict-equal"
      | x=>pure false)) (λ v s2=>v=true/\s2=s') E s':=by
   refine z3o (z4f ?_);rw [h2];refine wpAny_dictFind_of h1 a1 a0 a4 ?_;rw [h3];refine z4f (z2a a1 a0 ?_);rw [h4];exact z3o (h5 prog w _ _ ⟨zr,zr⟩)
  refine z4f (z4g a2 (λ v s2 hv=> ?_) λ _ _ z=>z);obtain ⟨rfl,rfl⟩:=hv;rw [if_neg (by decide)];refine z4f (z38 Z O ?_);rw [if_neg (by simp)];exact z4e ⟨zr,zr,x+1,lt,hr⟩
 ·rintro st s' ⟨rfl,rfl,i,hi,hr⟩;exact z4e q
end
def qbk {P:Program} {w:World} {es:List DictEntry} {vs:List (Key×Value)} (p:Pairs (q17 P w) es vs):∀ {i:Nat} {e:DictEntry},es[i]? =some e ->∃ J,vs[i]? =some J/\(q17 P w).is J.1 e.key=true/\e.val=J.2:=by
 induction p with
 | nil=>
  intro i e h;simp at h
 | cons a b c ih=>
  intro i e h;cases i with
  | zero=>
   simp at h
   subst h;exact ⟨_,zr,a,b⟩
  | succ i=>simpa using ih (by simpa using h)
def qsm {P:Program} {w:World} {es:List DictEntry} {vs:List (Key×Value)} (p:Pairs (q17 P w) es vs) {i:Nat} {kv:Key×Value} (h:vs[i]? =some kv):∃ e,es[i]? =some e:=by
 have hl:=p.length;have hi:=(z07.mp h).1;exact ⟨_,z0d (by lia)⟩
def qsn {kvs:List (Key×V)} {vs:List (Key×Value)} (r:KV kvs vs):∀ {i:Nat} {q:Key×Value},vs[i]? =some q ->∃ p,kvs[i]? =some p/\p.1=q.1/\RelV p.2 q.2:=by
 induction r with
 | nil=>
  intro i q h;simp at h
 | cons a b ih=>
  intro i q h;cases i with
  | zero=>
   simp at h
   subst h;exact ⟨_,zr,a⟩
  | succ i=>simpa using ih (by simpa using h)
def q111 {kvs:List (Key×V)} {vs:List (Key×Value)} (r:KV kvs vs) {i:Nat} {p:Key×V} (h:kvs[i]? =some p):∃ q,vs[i]? =some q/\p.1=q.1/\RelV p.2 q.2:=by
 have hl:kvs.length=vs.length:=Paired.length r;have hi:=(z07.mp h).1;obtain ⟨p',h',e⟩:=qsn r (z0d (show i < vs.length by lia));rw [h] at h';cases h'
 exact ⟨_,z0d (show i < vs.length by lia),e⟩
def qyn {F:(Key×V) ->(Key×V) ->Prop} {J O:List (Key×V)} (h:Paired F J O):∀ {i:Nat} {p:Key×V},J[i]? =some p ->∃ q,O[i]? =some q/\F p q:=by
 induction h with
 | nil=>
  intro i p h;simp at h
 | cons a b ih=>
  intro i p h;cases i with
  | zero=>
   simp at h
   subst h;exact ⟨_,zr,a⟩
  | succ i=>simpa using ih (by simpa using h)
section
variable {X:Cx}
def DatP (K:xA) (H:Hp) (p q:Key×V):Prop:=p.1=q.1/\∃ d,Dat K H d p.2/\Dat K H d q.2/\d.depth<=60
end
def q112:bootBuiltins "abs"=some (.builtin "abs"):=by decide+kernel
def cA (mg:xE) (x:Str):Addr:=match mg x with
 | some (.ref a)=>a
 | _=>0
def q8z {mg:xE} {x:Str} {C:Addr} (h:mg x=some (.ref C)):cA mg x=C:=by
 unfold cA;rw [h]
structure MTop (K:xA) (C:Addr) (m qual:Str) (st:Stmt) (ps:xD):Prop where
 ex:∃ f fd,Fun K m qual st f fd/\Meth K C m f/\∀ us:List Value,us.length=ps.length ->bindArgs fd ⟨us,[]⟩=pure (ps.zip us)
def qyo {K:xA} {C:Addr} {m qual:Str} {st:Stmt} {ps:xD} {f:Addr} {oc:Value} {od O:Option Addr} {a0:Array (Option Value)} {kV J Z cdv ct:Value}
  (b:∀ (kV J Z:Value) (O:Option Addr) (cdv ct:Value) (us:xH),us.length=ps.length ->bindArgs (PySem.W.fnOf m qual (q1s st) (q1e st) (qc st) .none kV J Z O cdv ct) ⟨us,[]⟩=pure (ps.zip us))
  (a:PySem.W.findIn K (.ref C) m=some (some (.ref f))) (i:PySem.W.isFn K (.ref f)=true)
  (l:K.lookup f=some ⟨oc,od,.func (PySem.W.fnOf m qual (q1s st) (q1e st) (qc st) .none kV J Z O cdv ct),a0⟩) (c:PySem.W.codeIn K cdv qual=true) (k:PySem.W.keepIn K (.ref f)=true):MTop K C m qual st ps:=
 ⟨f,_,qsa (st:=st) l c k,⟨a,i,k⟩,b kV J Z O cdv ct⟩
structure MDef (P:Program) (w:World) (K:xA) (mg:xE) (base:Heap) (k:Nat) (C:Addr) (m:Str) (ps:xD) (sp:Sp):Prop where
 ex:∃ f fd,FnOk P w K mg base CX0 k f fd ps sp/\Meth K C m f/\Binds K fd ps []
theorem MTop.ok {P:Program} {w:World} {K:xA} {mg:xE} {base:Heap} {C:Addr} {m qual:Str} {st:Stmt} {N ps:xD} {k:Nat} {sp:Sp} (T:MTop K C m qual st ps) (S:FnScope N ps (qc st)) (len:∀ vs H Q E,sp vs H Q E ->vs.length=ps.length)
  (J:∀ (f:Addr) (cdv:Value) (A:Around) (outer:List Env) (s:Shared) (H:Hp) (vs:List V) (Q:VK) (E:XK),Room k (A.deeper (envOfC qual (qc st) s.heap.objs.size f cdv)) ->sp vs H Q E ->
   ∃ t,PSs (cxOf CX0 P w K mg base N qual (qc st) f cdv A outer s H E).nox (q1e st) t/\t {nx:=λ _ H'=>Q .non H',rt:=Q} (start N vs) H):MDef P w K mg base (k+1) C m ps sp:=by
 obtain ⟨f,fd,F,hm,hb⟩:=T.ex;exact ⟨f,fd,F.ok S len (J f),hm,Binds.all hb⟩
section
variable {X:Cx} {k k':Nat} {C:Addr} {ps ks:xD} {sp:Sp} {x m:Str} {p pos apos:Pos} {e o:Expr} {es:List Expr} {ta:TE} {t tk:TA} {kws:List Keyword}
def qgl {pl:Sem Bool} (D:MDef X.prog X.w X.K X.mg X.base k C m ps sp) (c:Cls X.K C) (hr:Room k' X.A) (he:PE X o ta) (ha:PA X (e::es) t) (J:k<=k':=by decide)
  (Z:starEach (e::es) X.env=(false,eval e X.env)::starEach es X.env:=by rfl) (O:(backTo pos (starEach es X.env)).any (·.1)=false:=by rfl)
  (ht:eval (.Call (.Attribute o m apos) (e::es) [] pos) X.env=(do
   let ov <- eval o X.env
   standAt apos.atName
   let (f,first) <- holding [ov] (getMethod ov m pl)
   callWith pos f first (backTo pos (starEach (e::es) X.env)) (backToKw pos (keywordEach [] X.env))):=by rfl):
  PE X (.Call (.Attribute o m apos) (e::es) [] pos) (qx4 C m sp [] E0 ta t):=by
 obtain ⟨f,fd,F,hm,hb⟩:=D.ex;exact qxz he c hm F (hr.mono J) hb .nil qcn ha Z O ht
def q113 (C:Addr):TE:=λ _ H Q=>∀ x dx,H x=none ->H dx=none ->dx≠x ->Q (.ref x) (upd (upd H dx (.own x)) x (.ins C dx []))
def qso {xC:xG} {σ:St} {H:Hp} {s:Shared} {Q:VK} (J:PySem.W.makesIn X.K C=true) (hi:PySem.W.findIn X.K (.ref C) "__init__"=some (some (.builtin "object.__init__"))) (I:Inv X xC σ H s)
  (h:∀ x dx,H x=none ->H dx=none ->dx≠x ->Q (.ref x) (upd (upd H dx (.own x)) x (.ins C dx []))):wpAny (model X.prog X.w) X.A (call (.ref C) []) (EP X xC σ Q) X.xe s:=by
 have hq:=h (s.heap.objs.size+1) s.heap.objs.size (I.hok.fresh (Nat.le_succ _)) (I.hok.fresh (z48 _)) (z40 (z2l _));have I2:=Inv.made (C:=C) I;have Y:=PySem.W.makes_of (M:=model X.prog X.w) I.kIn J;refine wpAny_call (qrw I.kIn J hi (λ self=>PySem.W.Looks.of_pure (PySem.W.oi_bind self)) ?_);have g2:((s.heap.push PySem.W.emptyDict).push (PySem.W.instObj C s.heap.objs.size)).get? (s.heap.objs.size+1)=some (PySem.W.instObj C s.heap.objs.size):=by
  have:=z1c (s.heap.push PySem.W.emptyDict) (o:=PySem.W.instObj C s.heap.objs.size) rfl
  rwa [z3f] at this
 have t1:PySem.W.Looks (model X.prog X.w) ((s.heap.push PySem.W.emptyDict).push (PySem.W.instObj C s.heap.objs.size)) (typeOf (.ref (s.heap.objs.size+1))) (.ref C):=(PySem.W.Looks.ld g2).andThen .now;have t2:PySem.W.Looks (model X.prog X.w) ((s.heap.push PySem.W.emptyDict).push (PySem.W.instObj C s.heap.objs.size)) (isInstance (.ref (s.heap.objs.size+1)) (.type "object")) true:=t1.andThen (Y.top.keeps λ b o e=>z0o _ (z0o _ e));refine codeAny_call_builtin PySem.W.oi_plain PySem.W.entry_oi (@PySem.W.check_slot (model X.prog X.w) _ _ _ "object.__init__" "object" "__init__" (.ref (s.heap.objs.size+1)) [] [] _ PySem.W.oi_kind PySem.W.oi_split t2 (PySem.W.oi_args _) ?_);rw [PySem.W.oi_run];exact z4e ⟨zr,V.ref (s.heap.objs.size+1),_,I2,zr,hq⟩
def qa5 (hk:PySem.W.makesIn X.K C=true) (hi:PySem.W.findIn X.K (.ref C) "__init__"=some (some (.builtin "object.__init__"))) (kp:PySem.W.keepIn X.K (.ref C)=true) (hg:Gl X x) (hm:X.mg x=some (.ref C))
  (J:(x==("__debug__":Str))=false:=by decide):PE X (.Call (.Name x p) [] [] pos) (q113 C):=by
 intro xC s σ H Q I h;refine z1s (q9a I hg hm ?_ J);exact PySem.W.callWith_K0 I.kIn kp (qso hk hi I h)
structure FunD (K:xA) (x qual:Str) (st:Stmt) (f:Addr) (fd:FuncData):Prop where
 ex:∃ (oc:Value) (od:Option Addr) (dV kV doc pm:Value) (an:Option Addr) (cdv ct:Value) (osl:Array (Option Value)),
  fd=PySem.W.fnOf x qual (q1s st) (q1e st) (qc st) dV kV doc pm an cdv ct/\K.lookup f=some ⟨oc,od,.func fd,osl⟩/\PySem.W.codeIn K cdv qual=true
def FunD.ok {P:Program} {w:World} {K:xA} {mg:xE} {base:Heap} {x qual:Str} {st:Stmt} {f:Addr} {fd:FuncData} {N ps:xD} {k:Nat} {sp:Sp} (F:FunD K x qual st f fd) (S:FnScope N ps (qc st)) (len:∀ vs H Q E,sp vs H Q E ->vs.length=ps.length)
  (J:∀ (cdv:Value) (A:Around) (outer:List Env) (s:Shared) (H:Hp) (vs:List V) (Q:VK) (E:XK),Room k (A.deeper (envOfC qual (qc st) s.heap.objs.size f cdv)) ->sp vs H Q E ->
   ∃ t,PSs (cxOf CX0 P w K mg base N qual (qc st) f cdv A outer s H E).nox (q1e st) t/\t {nx:=λ _ H'=>Q .non H',rt:=Q} (start N vs) H):FnOk P w K mg base CX0 (k+1) f fd ps sp:=by
 obtain ⟨oc,od,dV,kV,doc,pm,an,cdv,ct,osl,rfl,lk,O⟩:=F.ex;refine qx5 lk O S len λ A outer s H vs Q E hr Z=> ?_;obtain ⟨t,h,q⟩:=J cdv A outer s H vs Q E hr Z;exact ⟨t,h.nox,q⟩
structure InitB (K:xA) (fd:FuncData) (y:Str) (dv:V):Prop where
 b0:∃ u,RelV dv u/\Binds K fd ["self",y] [u]
 b1:Binds K fd ["self",y] []
 bk:∀ (s:Shared) (v z:Value),K.In s.heap ->BindsTo s fd ⟨[v],[(y,z)]⟩ [("self",v),(y,z)]
structure ITop (K:xA) (C:Addr) (qual y:Str) (st:Stmt) (dv:V):Prop where
 ex:∃ f fd,FunD K "__init__" qual st f fd/\PySem.W.findIn K (.ref C) "__init__"=some (some (.ref f))/\PySem.W.isFn K (.ref f)=true/\InitB K fd y dv
def qos {K:xA} {C:Addr} {qual y:Str} {st:Stmt} {dv:V} {u:Value} {f:Addr} {oc:Value} {od Z:Option Addr} {a0:Array (Option Value)} {dV kV J pm cdv ct:Value}
    (a:PySem.W.findIn K (.ref C) "__init__"=some (some (.ref f))) (i:PySem.W.isFn K (.ref f)=true)
    (l:K.lookup f=some ⟨oc,od,.func (PySem.W.fnOf "__init__" qual (q1s st) (q1e st) (qc st) dV kV J pm Z cdv ct),a0⟩) (c:PySem.W.codeIn K cdv qual=true) (ru:RelV dv u)
    (h0:∀ (s:Shared) (v:Value),K.In s.heap ->BindsTo s (PySem.W.fnOf "__init__" qual (q1s st) (q1e st) (qc st) dV kV J pm Z cdv ct) ⟨[v],[]⟩ [("self",v),(y,u)])
    (h1:∀ (s:Shared) (v z:Value),K.In s.heap ->BindsTo s (PySem.W.fnOf "__init__" qual (q1s st) (q1e st) (qc st) dV kV J pm Z cdv ct) ⟨[v,z],[]⟩ [("self",v),(y,z)])
    (hk:∀ (s:Shared) (v z:Value),K.In s.heap ->BindsTo s (PySem.W.fnOf "__init__" qual (q1s st) (q1e st) (qc st) dV kV J pm Z cdv ct) ⟨[v],[(y,z)]⟩ [("self",v),(y,z)]):ITop K C qual y st dv:=by
  refine ⟨f,_,⟨oc,od,dV,kV,J,pm,Z,cdv,ct,a0,zr,l,c⟩,a,i,⟨u,ru,λ s us X hl=> ?_⟩,λ s us X hl=> ?_,hk⟩
  · have O:us.length=1:=by
      rw [z1o] at hl;exact Nat.succ.inj hl
    match us,O with
    | [v],_=>exact h0 s v X
  · have O:us.length=2:=by
      rw [z31] at hl;exact hl
    match us,O with
    | [v,z],_=>exact h1 s v z X
structure IDef (P:Program) (w:World) (K:xA) (mg:xE) (base:Heap) (k:Nat) (C:Addr) (y:Str) (dv:V) (sp:Sp):Prop where
 ex:∃ f fd,FnOk P w K mg base CX0 k f fd ["self",y] sp/\PySem.W.findIn K (.ref C) "__init__"=some (some (.ref f))/\PySem.W.isFn K (.ref f)=true/\InitB K fd y dv
theorem ITop.ok {P:Program} {w:World} {K:xA} {mg:xE} {base:Heap} {C:Addr} {qual y:Str} {st:Stmt} {dv:V} {N:xD} {k:Nat} {sp:Sp} (T:ITop K C qual y st dv) (S:FnScope N ["self",y] (qc st)) (len:∀ vs H Q E,sp vs H Q E ->vs.length=(["self",y]:xD).length)
  (J:∀ (f:Addr) (cdv:Value) (A:Around) (outer:List Env) (s:Shared) (H:Hp) (vs:List V) (Q:VK) (E:XK),Room k (A.deeper (envOfC qual (qc st) s.heap.objs.size f cdv)) ->sp vs H Q E ->
   ∃ t,PSs (cxOf CX0 P w K mg base N qual (qc st) f cdv A outer s H E).nox (q1e st) t/\t {nx:=λ _ H'=>Q .non H',rt:=Q} (start N vs) H):IDef P w K mg base (k+1) C y dv sp:=by
 obtain ⟨f,fd,F,h1,h2,h3⟩:=T.ex;exact ⟨f,fd,F.ok S len (J f),h1,h2,h3⟩
variable {y:Str} {dv:V}
def qsp (D:IDef X.prog X.w X.K X.mg X.base k C y dv sp) (hk:PySem.W.makesIn X.K C=true) (kp:PySem.W.keepIn X.K (.ref C)=true) (hr:Room k' X.A) (hg:Gl X x) (hm:X.mg x=some (.ref C)) (O:k+1<=k':=by decide)
  (J:(x==("__debug__":Str))=false:=by decide):PE X (.Call (.Name x p) [] [] pos) (qkd C sp [dv] E0 tNil):=by
 obtain ⟨f,fd,F,h1,h2,h3⟩:=D.ex;obtain ⟨u,ru,hb⟩:=h3.b0;exact qus ⟨hk,h1,h2,kp⟩ F (hr.mono O) hg hm hb (.cons ru .nil) qcn J
def qsq (D:IDef X.prog X.w X.K X.mg X.base k C y dv sp) (hk:PySem.W.makesIn X.K C=true) (kp:PySem.W.keepIn X.K (.ref C)=true) (hr:Room k' X.A) (hg:Gl X x) (hm:X.mg x=some (.ref C)) (ha:PA X (e::es) t) (O:k+1<=k':=by decide)
  (J:(x==("__debug__":Str))=false:=by decide) (he:starEach (e::es) X.env=(false,eval e X.env)::starEach es X.env:=by rfl) (Z:(backTo pos (starEach es X.env)).any (·.1)=false:=by rfl):PE X (.Call (.Name x p) (e::es) [] pos) (qkd C sp [] E0 t):=by
 obtain ⟨f,fd,F,h1,h2,h3⟩:=D.ex;exact qy0 ⟨hk,h1,h2,kp⟩ F (hr.mono O) hg hm h3.b1 .nil qcn ha J he Z
end
end L2
namespace L2
open PySem PySem.Spec PyProof.Rows PySem.W
def q19 (x y:Int):Bool:=decide (x < y)
def q1w:Tim.STO q19:=Tim.qxp
def iOf:Value ->Int
 | .int x _=>x
 | _=>0
def qdz {ws:List Int}:∀ {us:xH},Vals (ws.map V.int) us ->us.map iOf=ws/\(∀ u∈us,∃ x t,u= .int x t)/\IntsAre us ws:=by
 induction ws with
 | nil=>
  intro us r;cases r
  exact ⟨rfl,(λ _ z=>nomatch z),.nil⟩
 | cons x ws ih=>
  intro us r;cases r with
  | cons r1 rr=>
   obtain ⟨t,rfl⟩:=r1;obtain ⟨a,b,c⟩:=ih rr;refine ⟨by rw [z3l,a];rfl,λ u J=> ?_,.cons x t c⟩;rcases z3n.mp J with rfl | J
   ·exact ⟨x,t,zr⟩
   ·exact b u J
theorem q75:∀ {us:xH},(∀ u∈us,∃ x t,u= .int x t) ->Vals ((us.map iOf).map V.int) us
 | [],_=> .nil
 | u::us,h=>by
  obtain ⟨x,t,rfl⟩:=h u (z1p ..);exact .cons ⟨t,zr⟩ (q75 λ v hv=>h v (z16 _ hv))
section
variable {prog:Program} {w:World} {A:Around} {s:Shared} {a:Addr}
def qic {ws:List Int} {vs:xH} (r:Vals (ws.map V.int) vs):Tim.Keys prog w A s a vs (λ v=>Tim.rank q19 (vs.map iOf) (iOf v)):=by
 intro h2 s' _;obtain ⟨e1,e2,e3⟩:=qdz r;refine ⟨oneType',λ E Q q=> ?_,λ x hx y hy E Q q=> ?_⟩
 ·match vs,h2,e3 with
  | v1::v2::vr,_,e3=>
   rw [keyKind_ints e3];exact z4e q
 ·rw [<- Tim.qdx q1w iOf hx hy] at q;obtain ⟨x',t,rfl⟩:=e2 x hx;obtain ⟨y',u,rfl⟩:=e2 y hy;rw [keyLt'_oneType];exact oneLt_int q
end
section
variable {X:Cx}
def q87 (K:xA) (hK:X.K=K:=by rfl):q22 X (.builtin "sorted") (λ xs H Q=>∃ p ws,xs=[.ref p]/\(SqL K H p (ws.map V.int)\/ SqT K H p (ws.map V.int))/\∀ l,H l=none ->Q (.ref l) (upd H l (.lst ((Tim.srt q19 ws).map V.int)))):=by
 subst hK;intro xC s σ H xs us Q I r h;obtain ⟨p,ws,rfl,O,q⟩:=h;obtain ⟨u,rfl,ru⟩:=q33 r;cases ru
 obtain ⟨T,o,its,n,hT,ho,hc,hd,rv,hz⟩:∃ (T:String) (o:Obj) (its:xH) (n:Nat),(T="list"\/ T="tuple")/\s.heap.get? p=some o/\o.cls= .type T/\o.data= .seq its.toArray n/\Vals (ws.map V.int) its/\(ws.map V.int).length<=sizeLine:=by
  rcases O with O | O
  ·obtain ⟨its,rv,⟨o,n,e,c,_,d⟩,z⟩:=I.list O;exact ⟨"list",o,its,n,.inl rfl,e,c,d,rv,z⟩
  ·obtain ⟨its,rv,⟨o,e,c,n,d⟩,z⟩:=I.tuple O;exact ⟨"tuple",o,its,n,.inr rfl,e,c,d,rv,z⟩
 have hl:its.length<=sizeLine:=by rw [<- rv.length];exact hz
 obtain ⟨e1,e2,_⟩:=qdz rv;refine q4q (vs:=its) (rk:=λ v=>Tim.rank q19 (its.map iOf) (iOf v)) hl (λ A' E' R _ k=>qa3 hT ho hc hd (by rw [z23];exact hl) (by rw [z1g];exact k)) (λ A' s' a _ _ _=>qic rv) λ out l n h' tk so keep J hg=> ?_;have a0:∀ u∈out.toList,∃ x t,u= .int x t:=λ u hu=>e2 u (so.perm.mem_iff.mp hu);have ed:=Tim.q3a q1w iOf so;rw [e1] at ed;have Z:=q75 a0;rw [ed] at Z;exact I.q3b Z (by rw [z30,(Tim.qo q19 ws).length_eq];rw [z30] at hz;exact hz) keep J hg (q l (I.hok.fresh J))
end
end L2
namespace L2
open PySem PySem.Spec PyProof.Rows
section
variable {X:Cx} {xC:xG} {σ:St} {H:Hp} {s:Shared} {a:Addr} {kvs:List (Key×V)} {k:Key} {z:V} {u r:Value} {A:Around} {E:xB}
def q114 {Q:xB} (I:Inv X xC σ H s) (e:H a=some (.dK kvs)) (hl:kvs.length < sizeLine) (ry:RelV (kV k) u) (rz:RelV z r)
  (h1:∀ v w' s',valV kvs k=some v ->Inv X xC σ H s' ->RelV v w' ->Q w' s') (h2:valV kvs k=none ->∀ s',Inv X xC σ (upd H a (.dK (putK kvs k z))) s' ->Q r s'):
  wpAny (model X.prog X.w) A (call (.builtin "dict.setdefault") [.ref a,u,r]) Q E s:=by
 obtain ⟨zl,hd,vs,J,dd⟩:=qx7 I.hok e;have rv:=J.val k;refine call_meetsIn PySem.F.slot_dict_setdefault dd.typeIs PySem.F.entry_dict_setdefault (PySem.F.args_dict_setdefault_3 _ _ _) (kt_meets_setdefault (q17 X.prog X.w) a (q9x ry) hd r) ⟨vs,dd,by rw [<- J.length];exact zl,λ w' hw=> ?_,λ hn h' O hs=> ?_⟩
 ·cases Z:valV kvs k with
  | none=>
   rw [Z,hw] at rv;exact rv.elim
  | some v=>
   rw [Z,hw] at rv;exact h1 v w' _ Z (I.tok _) rv
 ·have hp:(putK kvs k z).length<=sizeLine:=by have:=q41 kvs k z;lia
  have he:∃ q,h'.get? a=some q:=let ⟨q,_,_,hq,_⟩:=O;⟨q,hq⟩
  refine h2 ?_ _ (qgf I (by rw [e];exact True.intro) hs he (qs4 hp hd (J.put k rz) O));cases Z:valV kvs k with
  | none=>rfl
  | some v=>
   rw [Z,hn] at rv;exact rv.elim
end
def q115 (td ty tx:TE):TE:=λ σ H Q=>td σ H λ x H1=>∃ a,x= .ref a/\IsD H1 a/\ty σ H1 λ y H2=>tx σ H2 λ z H3=>∃ kvs k,H3 a=some (.dK kvs)/\y=kV k/\kvs.length < sizeLine/\
 (∀ v,valV kvs k=some v ->Q v H3)/\(valV kvs k=none ->Q z (upd H3 a (.dK (putK kvs k z))))
section
variable {X:Cx} {o e f:Expr} {apos cpos:Pos} {td ty tx:TE}
def qlm (ho:PE X o td) (he:PE X e ty) (hf:PE X f tx) (m:M2 X o "setdefault" apos e f cpos):PE X (.Call (.Attribute o "setdefault" apos) [e,f] [] cpos) (q115 td ty tx):=by
 intro xC s σ H Q I h;refine wpAny_Call_method m.base m.few m.line PySem.F.plainAttrs_dict PySem.F.slot_dict_setdefault PySem.F.type_dict_setdefault (thn (ho xC s σ H _ I h) λ u s1 O=> ?_);obtain ⟨x,H1,I1,rx,a,ex,d,q1⟩:=O;subst ex;obtain rfl:u=Value.ref a:=rx;obtain ⟨t1,t2,_⟩:=qs7 I1 d;refine ⟨t1,t2,?_⟩;rw [m.trees];refine Calls.callWith_builtin rfl (Calls.evalArgs_plain (Calls.spliced_cons (thn (he xC s1 σ H1 _ I1 q1) λ iv s2 ⟨y,H2,I2,ry,q2⟩=>
  Calls.spliced_cons (thn (hf xC s2 σ H2 _ I2 q2) λ fv s3 ⟨z,H3,I3,rz,kvs,k,eH,ey,hl,q3,q4⟩=>Calls.spliced_nil ?_))))
 subst ey;exact q114 I3 eH hl ry rz (λ v w' s4 ev I4 J=>⟨_,H3,I4,J,q3 v ev⟩) λ en s4 I4=>⟨z,_,I4,rz,q4 en⟩
end
end L2
namespace L2
open PySem PySem.Spec PyProof.Rows PySem.W
def q1j (w:World):Bool:=w.params.followText "set-order"
def TxS (P:Program) (w:World) (h:Heap) (a:Addr) (xs:xD):Prop:=
 ∃ o es ep t,h.get? a=some o/\o.ExactSet/\o.data= .set es ep t/\ElemsOf (strKind P w) es.toList/\es.toList.map (λ e=>sOf e.2)=xs/\xs.Nodup/\es.size < scanBound/\t.fits es.size=true/\t.led= !q1j w/\(0 < es.size ->t.plain=false)
def qyp (t:SetTable) (j:Nat):(t.put j).1.led=t.led/\(t.put j).1.plain=t.plain:=⟨rfl,rfl⟩
def qns (t:SetTable) (n:Nat):(t.orStandIn n).led=t.led:=by
 unfold SetTable.orStandIn SetTable.standIn;split <;> rfl
def qqe (t:SetTable) (es:Array (Int×Value)) (h:Int) (x:Value):(layNew t es h x).2.1.led=t.led:=by
 unfold layNew;split
 ·dsimp only
  rw [qns];exact (qyp _ _).1
 ·rfl
def qnt (t:SetTable) (es:Array (Int×Value)) (n:Nat):(relayAll t es n).2.1.led=t.led/\(t.plain=false ->(relayAll t es n).2.1.plain=false):=by
 unfold relayAll;split
 ·rename_i t' order e;have e2:t'.led=t.led/\t'.plain=t.plain:=by
   unfold SetTable.relaid SetTable.laid at e;cases q:SetTable.layClean (SetTable.sizeAbove n - 1) (es.map (·.1)) with
   | none=>
    rw [q] at e;cases e
   | some ow=>
    rw [q] at e;cases e
    exact ⟨zr,zr⟩
  dsimp only
  split
  ·exact ⟨e2.1,λ z=>e2.2.trans z⟩
  ·exact ⟨zr,λ _=>rfl⟩
 ·exact ⟨zr,λ _=>rfl⟩
section
variable {P:Program} {w:World} {A:Around} {E:xB} {s:Shared} {a:Addr} {xs:xD}
def qbl {x:Str} {v:Value} (h:(strKind P w).is x v=true):sOf v=x/\∃ t,v= .str x t:=by
 obtain ⟨t,rfl⟩:=Value.isStrOf_shape (x:=x) (v:=v) h;exact ⟨zr,t,zr⟩
def qln {es:List (Int×Value)} (h:ElemsOf (strKind P w) es) (x:Str):x∈es.map (λ e=>sOf e.2)↔∃ e∈es,(strKind P w).is x e.2=true:=by
 constructor
 ·intro hx;obtain ⟨e,J,rfl⟩:=z45.mp hx;obtain ⟨⟨k,hk,_⟩,_⟩:=h e J;exact ⟨e,J,by rw [(qbl hk).1];exact hk⟩
 ·rintro ⟨e,J,hk⟩;exact z45.mpr ⟨e,J,(qbl hk).1⟩
def qid {h:Heap} {o:Obj} {es:Array (Int×Value)} {ep:Nat} {t:SetTable} (ho:h.get? a=some o) (Z:o.ExactSet) (hd:o.data= .set es ep t)
  {J:Array (Int×Value)} {t':SetTable} (O:ElemsOf (strKind P w) J.toList) (a0:(J.toList.map λ e=>sOf e.2).Nodup) (hb:J.size < scanBound) (hf:t'.fits J.size=true) (hl:t'.led= !q1j w) (hp:t'.plain=false):
  (h.update a (Obj.putSet J t')).get? a=some {o with data:= .set J (ep+1) t'}/\TxS P w (h.update a (Obj.putSet J t')) a (J.toList.map λ e=>sOf e.2):=by
 have hg:(h.update a (Obj.putSet J t')).get? a=some {o with data:= .set J (ep+1) t'}:=by
  have:=z0z (Obj.putSet J t') ho (by rw [putSet_of J t' hd];rfl);rw [putSet_of J t' hd] at this;exact this
 exact ⟨hg,_,J,ep+1,t',hg,Z,zr,O,zr,a0,hb,hf,hl,λ _=>hp⟩
def qv4 {x:Str} {t0:Tok} {Q:Bool ->Shared ->Prop} (hS:TxS P w s.heap a xs) (b7:xs.length+1 < scanBound)
  (h:∀ b h' ys,Heap.SameBut a s.heap h' ->TxS P w h' a ys ->(if x∈xs then ys=xs else ys.Perm (xs++ [x])) ->Q b {s with heap:=h'}):
  wpAny (model P w) A (setAddHashed a (.str x t0) ((strKind P w).hash x)) Q E s:=by
 obtain ⟨o,es,ep,t,ho,c1,hd,a2,a4,d4,hb,hf,a9,hpl⟩:=id hS;have a8:(strKind P w).is x (.str x t0)=true:=strKind_is P w x t0;have b8:(Value.str x t0).scannable=true:=rfl;have hn:es.size=xs.length:=by rw [<- a4,z30,z19]
 have d2:es.size+1 < scanBound:=by rw [hn];exact b7
 unfold setAddHashed setAddHashedIn;refine z3o (z4f (z2c ho hd hf ?_))
 dsimp only
 rw [byScan_of b8 hb a2];simp only [↓reduceIte];unfold setAddByScan;refine z4f ?_;refine z4f (z4d ?_);refine z4f (wpAny_setScan_of a8 ho hd hf a2 ?_);cases hr:List.findIdx? (λ e=>(strKind P w).is x e.2) es.toList with
 | some j=>
  dsimp only
  obtain ⟨hj,d5,_⟩:=List.findIdx?_eq_some_iff_getElem.mp hr;have hm:x∈xs:=by rw [<- a4];exact (qln a2 x).mpr ⟨_,z2k hj,d5⟩
  refine z4e (z4e ?_);have e:s={s with heap:=s.heap}:=by cases s;rfl
  have:=h false s.heap xs (Heap.SameBut.refl a s.heap) hS (by rw [if_pos hm]);rw [e];exact this
 | none=>
  dsimp only
  have hm:¬ x∈xs:=λ hx=>by
   rw [<- a4] at hx;obtain ⟨e,he,hp⟩:=(qln a2 x).mp hx;have:=List.findIdx?_eq_none_iff.mp hr e he;rw [hp] at this;cases this
  have c5:∀ (b:Bool) {s₁:Shared} {Q':Unit ->Shared ->Prop},Q' () s₁ ->wpAny (model P w) A (match b with | true=>rule "set.scan.the-table-gave-way" | false=>pure ()) Q' E s₁:=
   λ b s₁ Q' hq=>by cases b <;> first | exact z4e hq | exact z4d hq
  have O:=layNew_perm t es ((strKind P w).hash x) (.str x t0);have Z:=layNew_fits t es ((strKind P w).hash x) (.str x t0);have a6:=qqe t es ((strKind P w).hash x) (.str x t0);generalize hL:layNew t es ((strKind P w).hash x) (.str x t0)=L at O Z a6 ⊢;obtain ⟨J,t1,a0,d6⟩:=L
  dsimp only at O Z a6 ⊢
  rw [z20] at O;have a7:ElemsOf (strKind P w) J.toList:=(a2.push a8 b8).perm O;have b6:(J.toList.map λ e=>sOf e.2).Perm (xs++ [x]):=by
   have:=O.map λ e:Int×Value=>sOf e.2;rw [z36,a4] at this;exact this
  have b2:(xs++ [x]).Nodup:=z2d.mpr ⟨d4,by simp,λ u hu v hv e=>hm (by rw [z1m.mp hv] at e;exact e ▸ hu)⟩;have a1:J.size < scanBound:=by rw [<- z19,O.length_eq,z1o,z19];simpa using d2
  refine z4f (c5 _ ?_);have tail:∀ t2:SetTable,t2.fits J.size=true ->t2.led=t1.led ->t2.plain=false ->wpAny (model P w) A (do
    storeSet a J t2
    if (!a0&&t2.tooFull)=true then do
      (match (relayAll t2 J (SetTable.grown J.size)).2.2 with | true=>rule "set.scan.the-table-gave-way" | false=>pure ())
      storeSet a (relayAll t2 J (SetTable.grown J.size)).1 (relayAll t2 J (SetTable.grown J.size)).2.1
      pure (some true)
     else pure (some true)) (λ r s'=>∃ h' ys,r=some true/\s'={s with heap:=h'}/\Heap.SameBut a s.heap h'/\TxS P w h' a ys/\ys.Perm (xs++ [x])) E s:=λ t2 d3 c6 c7=>by
   refine z4f (wpAny_storeSet_of ho hd ?_ (fits_of_scanBound a1));obtain ⟨c4,d0⟩:=qid (P:=P) (w:=w) ho c1 hd a7 (b6.nodup_iff.mpr b2) a1 d3 (by rw [c6,a6,a9]) c7;have b4:=z1b s.heap a (Obj.putSet J t2);split
   ·have hp:=relayAll_perm t2 J (SetTable.grown J.size);have b5:=relayAll_fits t2 J (SetTable.grown J.size);have a5:=qnt t2 J (SetTable.grown J.size);generalize hRl:relayAll t2 J (SetTable.grown J.size)=Rl at hp b5 a5 ⊢;obtain ⟨a3,t3,c9⟩:=Rl
    dsimp only at hp b5 a5 ⊢
    have c0:ElemsOf (strKind P w) a3.toList:=a7.perm hp;have hsz:a3.size=J.size:=by rw [<- z19,hp.length_eq,z19]
    have b9:a3.size < scanBound:=by rw [hsz];exact a1
    have c8:(a3.toList.map λ e=>sOf e.2).Perm (xs++ [x]):=(hp.map _).trans b6;refine z4f (c5 _ ?_);refine z4f (wpAny_storeSet_of c4 rfl ?_ (fits_of_scanBound b9));obtain ⟨_,d1⟩:=qid (P:=P) (w:=w) c4 c1 rfl c0 (c8.nodup_iff.mpr b2) b9 b5 (by rw [a5.1,c6,a6,a9]) (a5.2 c7);exact z4e ⟨_,_,zr,zr,b4.trans (z1b _ a _),d1,c8⟩
   ·exact z4e ⟨_,_,zr,zr,b4,d0,b6⟩
  split
  ·rename_i b3;refine z4f ?_;rw [hashByValue_scannable 8 b8];refine z4e ?_;refine z4g (tail _ (SetTable.fits_plain_off Z) rfl rfl) (λ r s' z=> ?_) λ e s' z=>z;obtain ⟨h',ys,rfl,rfl,h1,h2,h3⟩:=z;exact z4e (h true h' ys h1 h2 (by rw [if_neg hm];exact h3))
  ·rename_i b3;refine z4f (z4e ?_);simp only [↓reduceIte];refine z4g (tail t1 Z rfl (by simpa using b3)) (λ r s' z=> ?_) λ e s' z=>z;obtain ⟨h',ys,rfl,rfl,h1,h2,h3⟩:=z;exact z4e (h true h' ys h1 h2 (by rw [if_neg hm];exact h3))
end
def TxS.keep {P:Program} {w:World} {h h':Heap} {a:Addr} {xs:xD} (x:TxS P w h a xs) (k:∀ o,h.get? a=some o ->h'.get? a=some o):TxS P w h' a xs:=by
 obtain ⟨o,es,ep,t,ho,r⟩:=x;exact ⟨o,es,ep,t,k o ho,r⟩
section
variable {prog:Program} {w:World} {A:Around} {R:Result ->Shared ->Prop} {I:Addr} {fp wr:List Addr} {G:Array GenState ->Array GenState ->Prop} {n:Nat} {P:Nat ->Value ->Prop} {St:Nat ->Shared ->Prop}
def InS (val:Nat ->Str) (i:Nat) (ys:xD):Prop:=(∀ x,x∈ys↔∃ j,j < i/\val j=x)/\ys.length<=i
def InS.next {val:Nat ->Str} {i:Nat} {ys zs:xD} (h:InS val i ys) (e:if val i∈ys then zs=ys else zs.Perm (ys++ [val i])):InS val (i+1) zs:=by
 have step:∀ x,(∃ j,j < i+1/\val j=x)↔(∃ j,j < i/\val j=x)\/ x=val i:=λ x=>by
  constructor
  ·rintro ⟨j,hj,rfl⟩;rcases Nat.lt_or_ge j i with h1 | h1
   ·exact .inl ⟨j,h1,zr⟩
   ·exact .inr (by rw [show j=i by lia])
  ·rintro (⟨j,hj,rfl⟩ | rfl)
   ·exact ⟨j,by lia,zr⟩
   ·exact ⟨i,z2l _,zr⟩
 by_cases c:val i∈ys
 ·rw [if_pos c] at e;subst e;refine ⟨λ x=> ?_,Nat.le_succ_of_le h.2⟩;rw [step,<- h.1 x];exact ⟨.inl,λ z=>z.elim id λ q=>q ▸ c⟩
 ·rw [if_neg c] at e;refine ⟨λ x=> ?_,?_⟩
  ·rw [step,e.mem_iff,z2u,z1m,h.1 x]
  ·rw [e.length_eq,z1o];exact z2q h.2
def qlo (W:WalksS prog w A.in1 I fp wr G n P St) (S:Addr) (a1:S∉fp) (val:Nat ->Str) (a7:∀ i v,P i v ->∃ t,v= .str (val i) t) (hb:n+1 < scanBound):
  ∀ (k i:Nat) (s:Shared) (ys:xD),n - i=k ->i<=n ->St i s ->TxS prog w s.heap S ys ->InS val i ys ->
   (∀ s' zs,Moved (S::wr) G s s' ->TxS prog w s'.heap S zs ->InS val n zs ->R (.ok (.ret .none)) s') ->
   codeAny (model prog w) A (.builtin "set.update.loop" ⟨[.ref S,.ref I],[]⟩) R s:=by
 have a2:S∉wr:=λ h=>a1 (W.sub _ h);have O:∀ b∈wr,b∈S::wr:=λ b hb=>z16 _ hb;intro k
 induction k with
 | zero=>
  intro i s ys hk hi Z hS J hR;have e:i=n:=by lia
  subst e;refine z39 F.entry_set_update_loop ?_;rw [Around.under_plainId F.plain_set_update_loop _];show wpAny _ A.in1 (pyNext (.ref I) >>=_) _ _ s;refine z4f (W.done s _ _ Z λ s' hm=> ?_);show wpAny _ A.in1 (ret Value.none) _ _ s';exact z4e (hR s' ys (hm.mono O) (hS.keep λ o e=>hm.heap S o a2 e) J)
 | succ k ih=>
  intro i s ys hk hi Z hS J hR;have a3:i < n:=by lia
  refine z39 F.entry_set_update_loop ?_;rw [Around.under_plainId F.plain_set_update_loop _];show wpAny _ A.in1 (pyNext (.ref I) >>=_) _ _ s;refine z4f (W.item i s _ _ a3 Z λ v s' hP a6 hm=> ?_);obtain ⟨t,rfl⟩:=a7 i v hP;have a8:TxS prog w s'.heap S ys:=hS.keep λ o e=>hm.heap S o a2 e;show wpAny _ A.in1 (holding [Value.str (val i) t] (setAdd S (.str (val i) t)) >>=_) _ _ s';refine z4f (z3o ?_);unfold setAdd;refine z3o ?_;refine z4f ((strKind prog w).pyHash (k:=val i) (strKind_is _ _ _ _) ?_);refine qv4 (s:={s' with toks:=s'.toks+1}) a8 (by have:=J.2;lia) λ b h' zs a5 a9 hz=> ?_;refine z4e ⟨plainId_quiet F.plain_set_update_loop _,ih (i+1) _ zs (by lia) a3 (W.frame _ s' _ _ a6 (Nat.le_succ _) λ b hb o e=> ?_) a9 (J.next hz) λ b2 us a4 a0 hu=> ?_⟩
  ·rw [a5.2 b (λ h:b=S=>a1 (by rw [<- h];exact hb))];exact e
  ·refine hR b2 us (Moved.trans W.gtrans ((hm.mono O).then_heap (Nat.le_succ _) λ b o hb e=> ?_) a4) a0 hu;rw [a5.2 b (λ h:b=S=>hb (by rw [h];exact z1p))];exact e
end
def qax {prog:Program} {w:World} {A:Around} {E:xB} {s:Shared} (a:Value) {Q₁:xB}
  (h:Q₁ (.ref s.heap.objs.size) {s with heap:=s.heap.push {cls:= .type "set",dict:=none,data:= .set #[] 0 (.fresh 0 0 (!q1j w))}}):
  codeAny (model prog w) A (.call (.builtin "set.__new__") ⟨[.type "set",a],[]⟩) (wants Q₁ E) s:=by
 refine codeAny_of_tree ?_;show wpAny _ A.in1 (do checkBuiltinCall "set.__new__" ⟨[.type "set",a],[]⟩;again (.builtin "set.__new__" ⟨[.type "set",a],[]⟩)) _ _ s;refine z4f (wpAny_of_eq (PySem.F.newCall_set_1 a) (z4e ⟨plainId_quiet F.plain_set_new _,z39 F.entry_set_new ?_⟩));rw [Around.under_plainId F.plain_set_new _];unfold Builtin.«set.__new__» Builtin.Frozenset.newClass;have J:=sub_set_self;obtain ⟨hp,g,d,tk,os⟩:=s
 dsimp only
 wp_walk
 refine z2s (z4e ?_)
 dsimp only
 simp only [newObj];refine z4f (wpAny_alloc (z4e ?_));exact z4e h
def qie {P:Program} {w:World} {h:Heap} {a:Addr} (e:h.get? a=some {cls:= .type "set",dict:=none,data:= .set #[] 0 (.fresh 0 0 (!q1j w))}):TxS P w h a []:=
 ⟨_,#[],0,_,e,⟨rfl,rfl,rfl⟩,rfl,λ e he=>by simp at he,rfl,z3g,by decide,by rfl,rfl,λ z=>absurd z (by decide)⟩
def qsr {vs:xH} {ws:xD} (h:StrsAre vs ws) (i:Nat) (v:Value) (e:vs[i]? =some v):∃ t,v= .str (ws.getD i "") t:=by
 induction h generalizing i with
 | nil=>simp at e
 | cons x t hr ih=>
  cases i with
  | zero=>
   simp at e
   exact ⟨t,e.symm⟩
  | succ i=>exact ih i (by simpa using e)
def sub_list_set':isSubtype (.type "list") (.type "set")=pure false:=by rw [isSubtype_type];kernel_rfl
def sub_list_frozenset':isSubtype (.type "list") (.type "frozenset")=pure false:=by rw [isSubtype_type];kernel_rfl
section
variable {prog:Program} {w:World} {A:Around} {E:xB} {s:Shared}
set_option maxHeartbeats 3200000 in
def qss {l:Addr} {J:Array Value} {ws:xD} {Q:xB} (hh:A.handled=none) (hl:s.heap.IsList l J) (hi:StrsAre J.toList ws) (hb:J.size+1 < scanBound)
  (h:∀ (h':Heap) (tk:Nat) (ys:xD),TxS prog w h' s.heap.objs.size ys ->InS (λ i=>ws.getD i "") J.size ys ->(∀ b o,b < s.heap.objs.size ->s.heap.get? b=some o ->h'.get? b=some o) ->Q (.ref s.heap.objs.size) {s with heap:=h',toks:=tk}):
  wpAny (model prog w) A (call (.type "set") [.ref l]) Q E s:=by
 obtain ⟨c,tl,c5⟩:=PySem.F.called_set.mro;have b9:=PySem.F.called_set.made;have c8:=PySem.F.called_set.sub;refine wpAny_call (codeAny_of_tree ?_);show wpAny _ _ (callAny (.type "set") _) _ _ _;refine z4e ⟨Code.quiet_builtin _ (by decide+kernel),z39 PySem.F.entry_type_call ?_⟩;rw [Around.under_plain (weight_type_call_type "set" [.ref l] []) rfl];have h1:=PySem.F.called_set.notType;have h2:=PySem.F.called_set.canCreate;have hct:=PySem.F.typeCall_set_1 (.ref l)
 repeat (any_goals (first | assumption | wp_step))
 refine z43 (qax (.ref l) (E:=E) (Q₁:=λ obj s₁=>obj= .ref s.heap.objs.size/\s₁={s with heap:=s.heap.push {cls:= .type "set",dict:=none,data:= .set #[] 0 (.fresh 0 0 (!q1j w))}}) ⟨rfl,rfl⟩) λ r s₁ hr=> ?_;cases r with
 | error e=>exact hr
 | ok fl=>
  cases fl with
  | ret obj=>
   obtain ⟨rfl,rfl⟩:=hr;have hS:(s.heap.push {cls:= .type "set",dict:=none,data:= .set #[] 0 (.fresh 0 0 (!q1j w))}).get? s.heap.objs.size=some {cls:= .type "set",dict:=none,data:= .set #[] 0 (.fresh 0 0 (!q1j w))}:=z1c _ rfl;have hT:Shared.TypeIs {s with heap:=s.heap.push {cls:= .type "set",dict:=none,data:= .set #[] 0 (.fresh 0 0 (!q1j w))}} (.ref s.heap.objs.size) "set":=⟨_,hS,rfl⟩;have hli:=PySem.F.called_set.init.lookup;have hbi:=PySem.F.called_set.init.bind (.ref s.heap.objs.size)
   repeat (any_goals (first | assumption | wp_step))
   refine z43 (codeAny_call_builtin (R:=wants (λ r s₂=>r= .none/\∃ h' tk ys,s₂={s with heap:=h',toks:=tk}/\TxS prog w h' s.heap.objs.size ys/\InS (λ i=>ws.getD i "") J.size ys/\
     (∀ b o,b < s.heap.objs.size ->s.heap.get? b=some o ->h'.get? b=some o)) E) PySem.F.called_set.init.plain PySem.F.entry_set_init (check_set_init_1 hT ?_)) λ r₂ s₂ a0=> ?_
   ·obtain ⟨ol,a7,a2,nl,a3⟩:=hl;obtain ⟨c9,a1,c0,O⟩:=ol;simp only at a2 a3;subst a2;subst a3;have a8:(s.heap.push {cls:= .type "set",dict:=none,data:= .set #[] 0 (.fresh 0 0 (!q1j w))}).get? l=some {cls:= .type "list",dict:=a1,data:= .seq J nl,slots:=O}:=z0o _ a7;have c7:=sub_list_set';have c6:=sub_list_frozenset';have hne:(Value.type "list"==Value.type "dict")=false:=by decide
    have a4:(s.heap.push {cls:= .type "set",dict:=none,data:= .set #[] 0 (.fresh 0 0 (!q1j w))}).IsList l J:=⟨_,a8,rfl,nl,rfl⟩;unfold Builtin.«set.__init__» noKeywords Builtin.Frozenset.updateFrom;generalize b3:pyIter=PI
    wp_walk
    subst b3;refine z25 a4 ?_;refine z4f (wpAny_runValue ?_);have a5:l < s.heap.objs.size:=z3z a7;have b7:A.in1.in1.in1.handled=none:=by simp [hh]
    have a6:l≠(s.heap.push {cls:= .type "set",dict:=none,data:= .set #[] 0 (.fresh 0 0 (!q1j w))}).objs.size:=by
     rw [z3f];exact z40 (z2e a5)
    have b4:s.heap.objs.size∉ [(s.heap.push {cls:= .type "set",dict:=none,data:= .set #[] 0 (.fresh 0 0 (!q1j w))}).objs.size,l]:=by
     rw [z3f];simp only [z3n,z1m,z2r,or_false,not_or];exact ⟨z40 (z2l _),z42 a5⟩
    have a9:∀ (i:Nat) (v:Value),J[i]? =some v ->∃ t,v= .str ((λ i=>ws.getD i "") i) t:=λ i v hv=>qsr hi i v (by rw [z0x];exact hv);refine qlo ((Walks.list b7 _ l a6 J).toS) s.heap.objs.size b4 (λ i=>ws.getD i "") a9 hb (J.size - 0) 0 _ [] (by lia) (z4b _)
     ⟨⟨_,z1c _ rfl,rfl,rfl⟩,(a4.push _)⟩ (qie (z0o _ hS)) ⟨λ x=>⟨(λ z=>nomatch z),λ ⟨j,z,_⟩=>absurd z (Nat.not_lt_zero _)⟩,z48 _⟩ ?hR
    case hR=>
     intro s' zs hm Z hz;obtain ⟨h',g',d',c4,c1⟩:=s';have eg:g'=s.gens:=hm.gens;have ed:d'=s.drawn:=hm.drawn;have eo:c1=s.os:=hm.os;subst eg;subst ed;subst eo;show wpAny _ _ _ _ _ _;refine z4e ?_;show wpAny _ _ (ret Value.none) _ _ _;refine z4e ⟨zr,h',c4,zs,zr,Z,hz,λ b o hb e=> ?_⟩;have b5:b≠s.heap.objs.size:=z40 hb;have b6:b≠(s.heap.push {cls:= .type "set",dict:=none,data:= .set #[] 0 (.fresh 0 0 (!q1j w))}).objs.size:=by
      rw [z3f];exact z40 (z2e hb)
     exact hm.heap b o (by simp only [z3n,z1m,z2r,or_false,not_or];exact ⟨b5,b6⟩) (z0o _ (z0o _ e))
   ·cases r₂ with
    | error e=>exact a0
    | ok b2=>
     cases b2 with
     | ret r=>
      obtain ⟨rfl,h',tk,ys,rfl,Z,hz,b8⟩:=a0
      repeat (any_goals (first | assumption | wp_step))
      exact h _ _ _ Z hz b8
     | _=>exact a0.elim
  | _=>exact hr.elim
end
def sub_tuple_set':isSubtype (.type "tuple") (.type "set")=pure false:=by rw [isSubtype_type];kernel_rfl
def sub_tuple_frozenset':isSubtype (.type "tuple") (.type "frozenset")=pure false:=by rw [isSubtype_type];kernel_rfl
section
variable {prog:Program} {w:World} {A:Around} {E:xB} {s:Shared}
set_option maxHeartbeats 3200000 in
def qqf {l:Addr} {J:Array Value} {ws:xD} {Q:xB} (hh:A.handled=none) (hl:s.heap.IsTuple l J) (hi:StrsAre J.toList ws) (hb:J.size+1 < scanBound)
  (h:∀ (h':Heap) (tk:Nat) (ys:xD),TxS prog w h' s.heap.objs.size ys ->InS (λ i=>ws.getD i "") J.size ys ->(∀ b o,b < s.heap.objs.size ->s.heap.get? b=some o ->h'.get? b=some o) ->Q (.ref s.heap.objs.size) {s with heap:=h',toks:=tk}):
  wpAny (model prog w) A (call (.type "set") [.ref l]) Q E s:=by
 obtain ⟨c,tl,c5⟩:=PySem.F.called_set.mro;have b9:=PySem.F.called_set.made;have c8:=PySem.F.called_set.sub;refine wpAny_call (codeAny_of_tree ?_);show wpAny _ _ (callAny (.type "set") _) _ _ _;refine z4e ⟨Code.quiet_builtin _ (by decide+kernel),z39 PySem.F.entry_type_call ?_⟩;rw [Around.under_plain (weight_type_call_type "set" [.ref l] []) rfl];have h1:=PySem.F.called_set.notType;have h2:=PySem.F.called_set.canCreate;have hct:=PySem.F.typeCall_set_1 (.ref l)
 repeat (any_goals (first | assumption | wp_step))
 refine z43 (qax (.ref l) (E:=E) (Q₁:=λ obj s₁=>obj= .ref s.heap.objs.size/\s₁={s with heap:=s.heap.push {cls:= .type "set",dict:=none,data:= .set #[] 0 (.fresh 0 0 (!q1j w))}}) ⟨rfl,rfl⟩) λ r s₁ hr=> ?_;cases r with
 | error e=>exact hr
 | ok fl=>
  cases fl with
  | ret obj=>
   obtain ⟨rfl,rfl⟩:=hr;have hS:(s.heap.push {cls:= .type "set",dict:=none,data:= .set #[] 0 (.fresh 0 0 (!q1j w))}).get? s.heap.objs.size=some {cls:= .type "set",dict:=none,data:= .set #[] 0 (.fresh 0 0 (!q1j w))}:=z1c _ rfl;have hT:Shared.TypeIs {s with heap:=s.heap.push {cls:= .type "set",dict:=none,data:= .set #[] 0 (.fresh 0 0 (!q1j w))}} (.ref s.heap.objs.size) "set":=⟨_,hS,rfl⟩;have hli:=PySem.F.called_set.init.lookup;have hbi:=PySem.F.called_set.init.bind (.ref s.heap.objs.size)
   repeat (any_goals (first | assumption | wp_step))
   refine z43 (codeAny_call_builtin (R:=wants (λ r s₂=>r= .none/\∃ h' tk ys,s₂={s with heap:=h',toks:=tk}/\TxS prog w h' s.heap.objs.size ys/\InS (λ i=>ws.getD i "") J.size ys/\
     (∀ b o,b < s.heap.objs.size ->s.heap.get? b=some o ->h'.get? b=some o)) E) PySem.F.called_set.init.plain PySem.F.entry_set_init (check_set_init_1 hT ?_)) λ r₂ s₂ a0=> ?_
   ·obtain ⟨ol,a7,a2,nl,a3⟩:=hl;obtain ⟨c9,a1,c0,O⟩:=ol;simp only at a2 a3;subst a2;subst a3;have a8:(s.heap.push {cls:= .type "set",dict:=none,data:= .set #[] 0 (.fresh 0 0 (!q1j w))}).get? l=some {cls:= .type "tuple",dict:=a1,data:= .seq J nl,slots:=O}:=z0o _ a7;have c7:=sub_tuple_set';have c6:=sub_tuple_frozenset';have hne:(Value.type "tuple"==Value.type "dict")=false:=by decide
    have a4:(s.heap.push {cls:= .type "set",dict:=none,data:= .set #[] 0 (.fresh 0 0 (!q1j w))}).IsTuple l J:=⟨_,a8,rfl,nl,rfl⟩;unfold Builtin.«set.__init__» noKeywords Builtin.Frozenset.updateFrom;generalize b3:pyIter=PI
    wp_walk
    subst b3;refine wpAny_pyIter_tuple a4 ?_;refine z4f (wpAny_runValue ?_);have a5:l < s.heap.objs.size:=z3z a7;have b7:A.in1.in1.in1.handled=none:=by simp [hh]
    have a6:l≠(s.heap.push {cls:= .type "set",dict:=none,data:= .set #[] 0 (.fresh 0 0 (!q1j w))}).objs.size:=by
     rw [z3f];exact z40 (z2e a5)
    have b4:s.heap.objs.size∉ [(s.heap.push {cls:= .type "set",dict:=none,data:= .set #[] 0 (.fresh 0 0 (!q1j w))}).objs.size,l]:=by
     rw [z3f];simp only [z3n,z1m,z2r,or_false,not_or];exact ⟨z40 (z2l _),z42 a5⟩
    have a9:∀ (i:Nat) (v:Value),J[i]? =some v ->∃ t,v= .str ((λ i=>ws.getD i "") i) t:=λ i v hv=>qsr hi i v (by rw [z0x];exact hv);refine qlo ((Walks.tuple b7 _ l a6 J).toS) s.heap.objs.size b4 (λ i=>ws.getD i "") a9 hb (J.size - 0) 0 _ [] (by lia) (z4b _)
     ⟨⟨_,z1c _ rfl,rfl,rfl⟩,(a4.push _)⟩ (qie (z0o _ hS)) ⟨λ x=>⟨(λ z=>nomatch z),λ ⟨j,z,_⟩=>absurd z (Nat.not_lt_zero _)⟩,z48 _⟩ ?hR
    case hR=>
     intro s' zs hm Z hz;obtain ⟨h',g',d',c4,c1⟩:=s';have eg:g'=s.gens:=hm.gens;have ed:d'=s.drawn:=hm.drawn;have eo:c1=s.os:=hm.os;subst eg;subst ed;subst eo;show wpAny _ _ _ _ _ _;refine z4e ?_;show wpAny _ _ (ret Value.none) _ _ _;refine z4e ⟨zr,h',c4,zs,zr,Z,hz,λ b o hb e=> ?_⟩;have b5:b≠s.heap.objs.size:=z40 hb;have b6:b≠(s.heap.push {cls:= .type "set",dict:=none,data:= .set #[] 0 (.fresh 0 0 (!q1j w))}).objs.size:=by
      rw [z3f];exact z40 (z2e hb)
     exact hm.heap b o (by simp only [z3n,z1m,z2r,or_false,not_or];exact ⟨b5,b6⟩) (z0o _ (z0o _ e))
   ·cases r₂ with
    | error e=>exact a0
    | ok b2=>
     cases b2 with
     | ret r=>
      obtain ⟨rfl,h',tk,ys,rfl,Z,hz,b8⟩:=a0
      repeat (any_goals (first | assumption | wp_step))
      exact h _ _ _ Z hz b8
     | _=>exact a0.elim
  | _=>exact hr.elim
end
theorem qa6 {α:Type}:∀ (l:List α) (i:Nat) (h:i < l.length),(l[i]::l.eraseIdx i).Perm l
 | x::r,0,_=> .refl _
 | x::r,i+1,h=>(List.Perm.swap x _ _).trans (List.Perm.cons x (qa6 r i (Nat.lt_of_succ_lt_succ h)))
section
variable {M:Model} {A:Around} {E:xB}
def qqg {s:Shared} {J:Source} {n:Nat} {Q:Nat ->Shared ->Prop} (hn:n≠0) (h:∀ i d,i < n ->Q i {s with drawn:=d}):wpAny M A (choose J n) Q E s:=
 λ _ _ _=>⟨hn,h _ _ (Nat.mod_lt _ (Nat.pos_of_ne_zero hn))⟩
theorem qlp {α:Type}:∀ (n:Nat) (xs:List α) (s:Shared) (Q:List α ->Shared ->Prop),n=xs.length ->(∀ ys d,ys.Perm xs ->Q ys {s with drawn:=d}) ->wpAny M A (drawOrder n xs) Q E s
 | 0,xs,s,Q,e,h=>by
  have:xs=[]:=z0k.mp e.symm;subst this;exact z4e (h [] s.drawn (.refl _))
 | n+1,[],s,Q,e,h=>by cases e
 | n+1,x::r,s,Q,e,h=>by
  unfold drawOrder;refine z4f (qqg (by simp) λ i d hi=> ?_);have hx:(x::r)[i]? =some (x::r)[i]:=z0d hi;rw [hx]
  dsimp only
  refine z4f (qlp n _ _ _ (by rw [List.length_eraseIdx,if_pos hi];exact (Nat.succ.inj e)) λ ys d2 hp=>z4e ?_);exact h _ d2 ((List.Perm.cons _ hp).trans (qa6 _ _ hi))
end
theorem qot {α:Type} (next:Nat ->Nat):∀ (n k:Nat) (left:List α) (out:Array α),n=left.length ->(pickOrder.go next n k left out).toList.Perm (out.toList++left)
 | 0,k,left,out,e=>by
  have:left=[]:=z0k.mp e.symm;subst this;unfold pickOrder.go;rw [z31]
 | n+1,k,left,out,e=>by
  unfold pickOrder.go;have hi:next k%left.length < left.length:=Nat.mod_lt _ (by lia);rw [z0d hi]
  dsimp only
  refine (qot next n (k+1) _ _ (by rw [List.length_eraseIdx,if_pos hi];lia)).trans ?_;rw [z20,z1y];exact List.Perm.append_left _ (qa6 _ _ hi)
def q90 {α:Type} (next:Nat ->Nat) (xs:Array α):(pickOrder next xs).toList.Perm xs.toList:=by
 unfold pickOrder;have:=qot next xs.size 0 xs.toList #[] (by simp)
 simpa using this
section
variable {prog:Program} {w:World} {A:Around} {E:xB} {s:Shared} {a:Addr}
def qnu {o:Obj} {es:Array (Int×Value)} {ep:Nat} {t:SetTable} {Q:Bool ->Shared ->Prop} (ho:s.heap.get? a=some o) (hd:o.data= .set es ep t) (hf:t.fits es.size=true) (h:Q (!q1j w&&(!t.plain&&decide (es.size > 1))) s):
  wpAny (model prog w) A (setDrawn a) Q E s:=by
 unfold setDrawn setsByText;refine z4f (z2c ho hd hf ?_);exact z4f (z4f (z2s (z4e (z4e h))))
end
def q2j:Slot "set_iterator" "__next__" "set_iterator.__next__":=
 .of (owner:="set_iterator") (n:="__next__") (by rw [typeLookup_type,builtinLookup_eq_fast];kernel_rfl) (by decide+kernel) (by decide+kernel) (by decide+kernel)
  (by first | exact .inl (by decide+kernel) | exact .inr (by decide+kernel)) (by rw [isSubtype_type];kernel_rfl)
def q76:entryFor table "set_iterator.__next__"=some Builtin.«set_iterator.__next__»:=entryFor_of_tree (by kernel_rfl)
def qlq:Manifest.owners.lookup (String.ofList ['r','o','t','a','r','e','t','i','_','t','e','s'].reverse)=some Manifest.sig_set_iterator:=by kernel_rfl
def q88 (a:Value):argsOk "set_iterator.__next__" ⟨[a],[]⟩:=by
 unfold argsOk;rw [signature?_of (id:="set_iterator.__next__") (n:=['_','_','t','x','e','n','_','_']) (o:=['r','o','t','a','r','e','t','i','_','t','e','s']) (by kernel_rfl) qlq]
 kernel_rfl
def qgm:entryFor table "set.__iter__"=some Builtin.«frozenset.__iter__»:=entryFor_alias (id':="frozenset.__iter__") (by kernel_rfl) rfl (by decide+kernel) (by kernel_rfl)
section
variable {prog:Program} {w:World} {A:Around} {E:xB} {s:Shared} {a I:Addr} {es:Array (Int×Value)} {ep:Nat} {t:SetTable}
def q2l (first:Value) (i:Nat) (a:Addr) (n ep:Nat):Obj:={cls:= .type "set_iterator",data:= .fields #[first,.int i 0,.ref a,.int n 0,.int ep 0]}
def q6p (ps:List Nat):Obj:={cls:= .type "tuple",data:= .seq (ps.map λ (i:Nat)=>rawInt i).toArray}
def qv5 {o:Obj} {Q:xB} (ho:s.heap.get? a=some o) (O:o.ExactSet) (hd:o.data= .set es ep t) (hf:t.fits es.size=true) (hsz:es.size<=sizeLine)
  (h1:(!q1j w&&(!t.plain&&decide (es.size > 1)))=true ->∀ (ps:List Nat) (d:Drawn),ps.Perm (List.range es.size) ->Q (.ref (s.heap.objs.size+1)) {s with heap:=(s.heap.push (q6p ps)).push (q2l (.ref s.heap.objs.size) 0 a es.size ep),drawn:=d})
  (h0:(!q1j w&&(!t.plain&&decide (es.size > 1)))=false ->Q (.ref s.heap.objs.size) {s with heap:=s.heap.push (q2l (.int 0 0) 0 a es.size ep)}):wpAny (model prog w) A (pyIter (.ref a)) Q E s:=by
 have ty:s.TypeIs (.ref a) "set":=⟨o,ho,O.1⟩;refine wpAny_pyIter_slot ty PySem.F.slot_set_iter (z2o PySem.F.slot_set_iter ty qgm ?_ (PySem.F.args_set_iter_1 _));unfold Builtin.«frozenset.__iter__» Builtin.Frozenset.slot0 Builtin.Frozenset.sizeOf;refine z4f (z4f ?_);show wpAny _ _ (pure (Value.ref a,([]:xH))) _ _ s;refine z4e ?_;refine z4e ?_;refine z4f (z4f (z1h ho hd hf (z4e ?_)));refine z4f (qnu ho hd hf ?_);have fin:∀ (first:Value) (J:Shared),(∀ Z,s.heap.get? a=some Z ->J.heap.get? a=some Z) ->Q (.ref J.heap.objs.size) {J with heap:=J.heap.push (q2l first 0 a es.size ep)} ->
   wpAny (model prog w) A.in1 (do ret (<- newFields "set_iterator" [first,rawInt 0,.ref a,rawInt es.size,rawInt (<- setEpoch a)])) (λ fin s'=>∃ v,fin=Fin.done (Flow.ret v)/\∃ T' r,s'.TypeIs v T'/\typeLookup (.type T') "__next__"=pure (some r)/\Q v s') E J:=λ first J hk hq=>by
  refine z4f (wpAny_setEpoch_of (hk _ ho) hd hf ?_);refine z4f (z28 (z4e ⟨_,zr,"set_iterator",_,⟨_,z1c _ rfl,zr⟩,q2j.lookup,?_⟩))
  simpa [rawInt,q2l] using hq
 cases hc:(!q1j w&&(!t.plain&&decide (es.size > 1))) with
 | true=>
  simp only [if_true];refine z4f (qlp es.size _ _ _ (by simp) λ ps d hp=> ?_);simp only [newTuple];refine z4f (z28 ?_ ?_)
  ·refine fin _ _ (λ Z e=>z0o _ e) ?_;have:=h1 hc ps d hp;show Q (.ref (s.heap.push (q6p ps)).objs.size) {s with heap:=(s.heap.push (q6p ps)).push (q2l (.ref s.heap.objs.size) 0 a es.size ep),drawn:=d};rw [z3f];exact this
  ·show (List.map (λ (i:Nat)=>rawInt i) ps).toArray.size<=sizeLine;rw [z23,z30,hp.length_eq,z29];exact hsz
 | false=>
  simp only [z1k,if_false];refine z4f (z4e ?_);exact fin _ s (λ _ e=>e) (h0 hc)
end
section
variable {prog:Program} {w:World} {A:Around} {E:xB} {s:Shared} {a I T:Addr} {es:Array (Int×Value)} {ep i:Nat} {t:SetTable} {o:Obj}
def qj4 {ps:List Nat} {p:Nat} {h:Int} {x:Value} {Q:Option Value ->Shared ->Prop} (J:s.heap.get? I=some (q2l (.ref T) i a es.size ep)) (hT:s.heap.get? T=some (q6p ps)) (ho:s.heap.get? a=some o) (hd:o.data= .set es ep t) (hf:t.fits es.size=true)
  (hp:ps[i]? =some p) (hx:es[p]? =some (h,x))
  (q:∀ h',h'.get? I=some (q2l (.ref T) (i+1) a es.size ep) ->Heap.SameBut I s.heap h' ->Q (some x) {s with heap:=h'}):wpAny (model prog w) A (pyNext (.ref I)) Q E s:=by
 have ty:s.TypeIs (.ref I) "set_iterator":=⟨_,J,rfl⟩;unfold pyNext;refine z4f (z3m (wpAny_callSpecial?_slot (name:=Str.ofString "__next__") ty q2j (z2o q2j ty q76 ?_ (q88 _))));unfold Builtin.«set_iterator.__next__»;refine z4f (z4e ?_);refine z4f (wpAny_fieldsOf J rfl ?_)
 dsimp only [z1g]
 refine z4f (z1h ho hd hf ?_);rw [if_neg (by simp)];have O:((ps.map λ (i:Nat)=>rawInt i).toArray)[i]? =some (rawInt p):=by
  rw [List.getElem?_toArray,z22,hp];rfl
 refine z4f (wpAny_seqItems hT rfl ?_)
 dsimp only
 rw [z26,O];show wpAny _ _ (setNextDrawn a ((p:Int)).toNat ((ep:Int)).toNat >>=_) _ _ s;rw [z26,z26];unfold setNextDrawn;refine z4f (z4f (z2c ho hd hf ?_))
 dsimp only
 rw [if_neg (by simp),hx];refine z4e ?_;refine z4f (z3i J rfl (by simp) ?_);refine z4e ⟨_,zr,z4e (q _ ?_ (z1b ..))⟩;have:=z0z (Obj.mapFields (·.setIfInBounds 1 (rawInt ((i:Int)+1)))) J rfl;exact this
def qf9 {Q:Option Value ->Shared ->Prop} (hh:A.handled=none) (q:∀ h',(∀ b o,s.heap.get? b=some o ->h'.get? b=some o) ->Q none {s with heap:=h'}):
  wpAny (model prog w) A.in1 (newExc (.type "StopIteration") [] >>=raiseNew (α:=Fin)) (λ fin s'=>∃ v,fin=Fin.done (Flow.ret v)/\wpAny (model prog w) A (pure (some v)) Q E s')
   (λ e s'=>wpAny (model prog w) A (do let d <- isInstance e (.type "StopIteration");if d=true then pure none else throw e) Q E s') s:=by
 refine z4f ?_;simp only [newExc,newTuple];refine z4f (z28 ?_ (by size_fits));refine z4f (m:=firstArgMember _ _) (wpAny_of_eq (a:=Value.none) (by first | rfl | (simp only [firstArgMember];rfl)) ?_);refine z28 ?_ (by size_fits);simp only [raiseNew];refine z4f (wpAny_handled ?_);rw [show A.in1.handled=none from hh];refine z4f (z4e (wpAny_throw ?_));refine z4f (wpAny_isInstance (T:="StopIteration") (b:=true) ⟨_,z1c _ rfl,zr⟩ isSubtype_stop ?_);exact z4e (q _ λ b o e=>z0o _ (z0o _ e))
def qlr {ps:List Nat} {Q:Option Value ->Shared ->Prop} (hh:A.handled=none) (J:s.heap.get? I=some (q2l (.ref T) i a es.size ep)) (hT:s.heap.get? T=some (q6p ps)) (ho:s.heap.get? a=some o) (hd:o.data= .set es ep t) (hf:t.fits es.size=true)
  (hp:ps[i]? =none) (q:∀ h',(∀ b o,b≠I ->s.heap.get? b=some o ->h'.get? b=some o) ->Q none {s with heap:=h'}):wpAny (model prog w) A (pyNext (.ref I)) Q E s:=by
 have ty:s.TypeIs (.ref I) "set_iterator":=⟨_,J,rfl⟩;unfold pyNext;refine z4f (z3m (wpAny_callSpecial?_slot (name:=Str.ofString "__next__") ty q2j (z2o q2j ty q76 ?_ (q88 _))));unfold Builtin.«set_iterator.__next__»;refine z4f (z4e ?_);refine z4f (wpAny_fieldsOf J rfl ?_)
 dsimp only [z1g]
 refine z4f (z1h ho hd hf ?_);rw [if_neg (by simp)];have O:((ps.map λ (i:Nat)=>rawInt i).toArray)[i]? =none:=by
  rw [List.getElem?_toArray,z22,hp];rfl
 refine z4f (wpAny_seqItems hT rfl ?_)
 dsimp only
 rw [z26,O]
 dsimp only
 have g1:=z0z (Obj.mapFields (·.setIfInBounds 0 (rawInt 0))) J rfl;refine z4f (z3i J rfl (by simp) ?_);refine z4f (z3i g1 rfl (by simp) ?_);refine qf9 hh λ h' k=>q h' λ b o hb e=>k b o ?_;exact (((z1b ..).trans (z1b ..)).2 b hb).trans e
def q116 (w:World) (a:Addr) (es:Array (Int×Value)) (ep:Nat) (t:SetTable) (k i:Nat) (nx:Option (Value×Nat)):Prop:=
 (q1j w=true/\nx=((pickOrder (w.params.setOrder a ep) es)[i]?).map λ e=>(e.2,k))\/
 (q1j w=false/\(!t.plain&&decide (es.size > 1))=false/\(!t.led&& !es.isEmpty)=false/\nx=match es[SetTable.below t.place k]?,t.place[SetTable.below t.place k]? with
  | some (_,x),some j=>some (x,j+1)
  | _,_=>none)
def qa7 {k:Nat} {nx:Option (Value×Nat)} {Q:Option Value ->Shared ->Prop} (hh:A.handled=none) (hI:s.heap.get? I=some (q2l (.int k 0) i a es.size ep)) (ho:s.heap.get? a=some o) (hd:o.data= .set es ep t) (hf:t.fits es.size=true) (hn:q116 w a es ep t k i nx)
  (q1:∀ x j h',nx=some (x,j) ->h'.get? I=some (q2l (.int j 0) (i+1) a es.size ep) ->Heap.SameBut I s.heap h' ->Q (some x) {s with heap:=h'})
  (q0:nx=none ->∀ h',(∀ b o,b≠I ->s.heap.get? b=some o ->h'.get? b=some o) ->Q none {s with heap:=h'}):wpAny (model prog w) A (pyNext (.ref I)) Q E s:=by
 have ty:s.TypeIs (.ref I) "set_iterator":=⟨_,hI,rfl⟩;unfold pyNext;refine z4f (z3m (wpAny_callSpecial?_slot (name:=Str.ofString "__next__") ty q2j (z2o q2j ty q76 ?_ (q88 _))));unfold Builtin.«set_iterator.__next__»;refine z4f (z4e ?_);refine z4f (wpAny_fieldsOf hI rfl ?_)
 dsimp only [z1g]
 refine z4f (z1h ho hd hf ?_);rw [if_neg (by simp)];refine z4f ?_;have Z:∀ x (j:Nat),nx=some (x,j) ->wpAny (model prog w) A.in1 (do
     setField (Value.ref I) 0 (rawInt j)
     setField (Value.ref I) 1 (rawInt ((i:Int)+1))
     ret x) (λ fin s'=>∃ v,fin=Fin.done (Flow.ret v)/\wpAny (model prog w) A (pure (some v)) Q E s')
    (λ e s'=>wpAny (model prog w) A (do let d <- isInstance e (.type "StopIteration");if d=true then pure none else throw e) Q E s') s:=λ x j en=>by
  have g1:=z0z (Obj.mapFields (·.setIfInBounds 0 (rawInt j))) hI rfl;have g2:=z0z (Obj.mapFields (·.setIfInBounds 1 (rawInt ((i:Int)+1)))) g1 rfl;refine z4f (z3i hI rfl (by simp) ?_);refine z4f (z3i g1 rfl (by simp) ?_);exact z4e ⟨_,zr,z4e (q1 x j _ en g2 ((z1b ..).trans (z1b ..)))⟩
 have O:nx=none ->wpAny (model prog w) A.in1 (do
     setField (Value.ref I) 2 Value.none
     let d <- newExc (Value.type "StopIteration") []
     raiseNew d) (λ fin s'=>∃ v,fin=Fin.done (Flow.ret v)/\wpAny (model prog w) A (pure (some v)) Q E s')
    (λ e s'=>wpAny (model prog w) A (do let d <- isInstance e (.type "StopIteration");if d=true then pure none else throw e) Q E s') s:=λ en=>by
  refine z4f (z3i hI rfl (by simp) ?_);refine qf9 hh λ h' k=>q0 en h' λ b o hb e=>k b o ?_;exact ((z1b ..).2 b hb).trans e
 unfold setNext;refine z4f (z2c ho hd hf ?_);unfold setsByText;refine z4f (z4f (z2s (z4e ?_)));rcases hn with ⟨hb,J⟩ | ⟨hb,h1,h2,J⟩
 ·rw [if_pos (show ({program:=(model prog w).prog,params:=(model prog w).w.params}:Setting).params.followText "set-order"=true from hb)]
  dsimp only
  rw [if_neg (by simp)];unfold setWalk;refine z4f (z4f (z2c ho hd hf ?_));unfold setsByText;refine z4f (z4f (z2s (z4e ?_)));rw [if_pos (show ({program:=(model prog w).prog,params:=(model prog w).w.params}:Setting).params.followText "set-order"=true from hb)];refine z4f (z2s (z4e (z4e ?_)))
  dsimp only
  have e':(pickOrder ((model prog w).w.params.setOrder a ep) es)[(i:Int).toNat]? =(pickOrder (w.params.setOrder a ep) es)[i]? :=by
   rw [z26];rfl
  rw [e'];cases e:(pickOrder (w.params.setOrder a ep) es)[i]? with
  | none=>
   rw [e] at J;exact O J
  | some y=>
   rw [e] at J;exact Z y.2 _ J
 ·rw [if_neg (show ¬ ({program:=(model prog w).prog,params:=(model prog w).w.params}:Setting).params.followText "set-order"=true from by rw [show ({program:=(model prog w).prog,params:=(model prog w).w.params}:Setting).params.followText "set-order"=false from hb];exact z1l)]
  dsimp only
  show wpAny _ _ (if (!t.plain&&decide (es.size > 1))=true then _ else _) _ _ s;rw [if_neg (by rw [h1];exact z1l)];show wpAny _ _ ((if (!t.led&& !es.isEmpty)=true then unsupported _ else pure ()) >>=_) _ _ s;rw [if_neg (by rw [h2];exact z1l)];refine z4f (z4e (z4e ?_));rw [z26];cases e1:es[SetTable.below t.place k]? with
  | none=>
   rw [e1] at J;exact O J
  | some y=>
   cases e2:t.place[SetTable.below t.place k]? with
   | none=>
    rw [e1,e2] at J;exact O J
   | some j=>
    rw [e1,e2] at J;exact Z y.2 _ J
end
def qbm:Slot "set_iterator" "__iter__" "set_iterator.__iter__":=
 .of (owner:="set_iterator") (n:="__iter__") (by rw [typeLookup_type,builtinLookup_eq_fast];kernel_rfl) (by decide+kernel) (by decide+kernel) (by decide+kernel)
  (by first | exact .inl (by decide+kernel) | exact .inr (by decide+kernel)) (by rw [isSubtype_type];kernel_rfl)
def qj5:entryFor table "set_iterator.__iter__"=some Builtin.«dict_keyiterator.__iter__»:=entryFor_alias (id':="dict_keyiterator.__iter__") (by kernel_rfl) rfl (by decide+kernel) (by kernel_rfl)
def qls (a:Value):argsOk "set_iterator.__iter__" ⟨[a],[]⟩:=by
 unfold argsOk;rw [signature?_of (id:="set_iterator.__iter__") (n:=['_','_','r','e','t','i','_','_']) (o:=['r','o','t','a','r','e','t','i','_','t','e','s']) (by kernel_rfl) qlq]
 kernel_rfl
section
variable {prog:Program} {w:World} {A:Around} {E:xB} {s:Shared} {a I T:Addr} {es:Array (Int×Value)} {ep:Nat} {t:SetTable} {o:Obj}
def qgn {first:Value} {i n:Nat} {Q:xB} (hI:s.heap.get? I=some (q2l first i a n ep)) (h:Q (.ref I) s):wpAny (model prog w) A (pyIter (.ref I)) Q E s:=by
 have ty:s.TypeIs (.ref I) "set_iterator":=⟨_,hI,rfl⟩;refine wpAny_pyIter_slot ty qbm (z2o qbm ty qj5 ?_ (qls _));show wpAny _ _ (ret (.ref I)) _ _ s;exact z4e ⟨_,zr,"set_iterator",_,ty,q2j.lookup,h⟩
def qnv {ps:List Nat} (hh:A.handled=none) (hT:T≠I) (ha:a≠I) (hd:o.data= .set es ep t) (hf:t.fits es.size=true) (Z:ps.Perm (List.range es.size)):
  Walks prog w A I [I,T,a] [I] es.size (λ i v=>∃ p h,ps[i]? =some p/\es[p]? =some (h,v)) (λ i h=>h.get? I=some (q2l (.ref T) i a es.size ep)/\h.get? T=some (q6p ps)/\h.get? a=some o) where
 sub:=λ b J=>by simp at J;simp [J]
 frame:=λ _ _ _ st hk=>⟨hk I (by simp) _ st.1,hk T (by simp) _ st.2.1,hk a (by simp) _ st.2.2⟩
 item:=λ i s Q E hi st O=>by
  have pl:ps.length=es.size:=by rw [Z.length_eq,z29]
  have h1:ps[i]? =some (ps[i]'(by lia)):=z0d (by lia);have hm:ps[i]'(by lia) < es.size:=z3d.mp (Z.mem_iff.mp (z2k (by lia)));generalize ps[i]'(by lia)=p at h1 hm;have h2:es[p]? =some es[p]:=z0b hm;refine qj4 (h:=es[p].1) (x:=es[p].2) st.1 st.2.1 st.2.2 hd hf h1 h2 λ h' g hs=> ?_;exact O _ h' s.toks ⟨p,es[p].1,h1,h2⟩ ⟨g,(hs.2 T hT).trans st.2.1,(hs.2 a ha).trans st.2.2⟩ λ b o J e=>(hs.2 b (λ z=>J (by simp [z]))).trans e
 done:=λ s Q E st O=>by
  have pl:ps.length=es.size:=by rw [Z.length_eq,z29]
  exact qlr hh st.1 st.2.1 st.2.2 hd hf (List.getElem?_eq_none (by lia)) λ h' k=>O h' s.toks λ b o J e=>k b o (λ z=>J (by simp [z])) e
 self:=λ _ _ _ _ st O=>qgn st.1 O
def qqh (hh:A.handled=none) (ha:a≠I) (hd:o.data= .set es ep t) (hf:t.fits es.size=true) (O:q1j w=true):
  Walks prog w A I [I,a] [I] es.size (λ i v=>∃ e,(pickOrder (w.params.setOrder a ep) es)[i]? =some e/\v=e.2) (λ i h=>h.get? I=some (q2l (.int 0 0) i a es.size ep)/\h.get? a=some o) where
 sub:=λ b O=>by simp at O;simp [O]
 frame:=λ _ _ _ st hk=>⟨hk I (by simp) _ st.1,hk a (by simp) _ st.2⟩
 item:=λ i s Q E hi st Z=>by
  have pl:(pickOrder (w.params.setOrder a ep) es).size=es.size:=by rw [<- z19,(q90 _ _).length_eq,z19]
  have h1:(pickOrder (w.params.setOrder a ep) es)[i]? =some ((pickOrder (w.params.setOrder a ep) es)[i]'(by lia)):=z0b (by lia);refine qa7 (k:=0) hh st.1 st.2 hd hf (.inl ⟨O,zr⟩) (λ x j h' J g hs=> ?_) λ J=> ?_
  ·rw [h1] at J;cases J
   exact Z _ h' s.toks ⟨_,h1,zr⟩ ⟨g,(hs.2 a ha).trans st.2⟩ λ b o O e=>(hs.2 b (λ z=>O (by simp [z]))).trans e
  ·rw [h1] at J;cases J
 done:=λ s Q E st Z=>by
  have pl:(pickOrder (w.params.setOrder a ep) es).size=es.size:=by rw [<- z19,(q90 _ _).length_eq,z19]
  have h1:(pickOrder (w.params.setOrder a ep) es)[es.size]? =none:=z0r (by lia);refine qa7 (k:=0) hh st.1 st.2 hd hf (.inl ⟨O,zr⟩) (λ x j h' J g hs=> ?_) λ J h' k=>Z h' s.toks λ b o O e=>k b o (λ z=>O (by simp [z])) e;rw [h1] at J;cases J
 self:=λ _ _ _ _ st Z=>qgn st.1 Z
def qst (hh:A.handled=none) (ha:a≠I) (hd:o.data= .set es ep t) (hf:t.fits es.size=true) (O:q1j w=false) (hl:t.led=true) (h1:es.size<=1):
  Walks prog w A I [I,a] [I] es.size (λ i v=>∃ e,es[i]? =some e/\v=e.2) (λ i h=>h.get? I=some (q2l (.int (((if i=0 then 0 else t.place.getD 0 0+1):Nat):Int) 0) i a es.size ep)/\h.get? a=some o) where
 sub:=λ b O=>by simp at O;simp [O]
 frame:=λ _ _ _ st hk=>⟨hk I (by simp) _ st.1,hk a (by simp) _ st.2⟩
 item:=λ i s Q E hi st Z=>by
  have i0:i=0:=by lia
  subst i0;have ps:t.place.size=es.size:=by
   unfold SetTable.fits at hf;simp at hf
   exact hf.1
  have e1:es[0]? =some (es[0]'(by lia)):=z0b (by lia);have e2:t.place[0]? =some (t.place.getD 0 0):=by
   rw [z0b (by lia)];simp [Array.getD,show 0 < t.place.size by lia]
  have eb:SetTable.below t.place 0=0:=by
   unfold SetTable.below;rw [show t.place.size=1 by lia];simp [SetTable.below.go]
  refine qa7 (k:=0) hh st.1 st.2 hd hf (.inr ⟨O,by simp;lia,by rw [hl];rfl,rfl⟩) (λ x j h' J g hs=> ?_) λ J=> ?_
  ·rw [eb,e1,e2] at J;cases J
   exact Z _ h' s.toks ⟨_,e1,zr⟩ ⟨g,(hs.2 a ha).trans st.2⟩ λ b o O e=>(hs.2 b (λ z=>O (by simp [z]))).trans e
  ·rw [eb,e1,e2] at J;cases J
 done:=λ s Q E st Z=>by
  have ps:t.place.size=es.size:=by
   unfold SetTable.fits at hf;simp at hf
   exact hf.1
  refine qa7 hh st.1 st.2 hd hf (.inr ⟨O,by simp;lia,by rw [hl];rfl,rfl⟩) (λ x j h' J g hs=> ?_) λ J h' k=>Z h' s.toks λ b o O e=>k b o (λ z=>O (by simp [z])) e;have e0:es[SetTable.below t.place (if es.size=0 then 0 else t.place.getD 0 0+1)]? =none:=by
   by_cases z:es.size=0
   ·exact z0r (by lia)
   ·rw [if_neg z];have:SetTable.below t.place (t.place.getD 0 0+1)=1:=by
     unfold SetTable.below;rw [show t.place.size=1 by lia];simp [SetTable.below.go,Array.getD,show 0 < t.place.size by lia]
    rw [this];exact z0r (by lia)
  rw [e0] at J;cases J
 self:=λ _ _ _ _ st Z=>qgn st.1 Z
end
section
variable {prog:Program} {w:World} {A:Around} {E:xB} {s:Shared} {a:Addr} {xs:xD}
def qv6 {Q:Bool ->Shared ->Prop} (Z:s.TypeIs (.ref a) "set") (h:Q false s):wpAny (model prog w) A (Builtin.List.listLengthHint (.ref a)) Q E s:=by
 unfold Builtin.List.listLengthHint;refine z4f (wpAny_specialOf Z PySem.F.slot_set_len.lookup ?_);generalize O:("set.__len__":String)=a0
 wp_delta
 rw [show splitId a0=some ("set","__len__") from by subst O;decide+kernel];subst O;refine z4f (wpAny_isInstance (T:="set") (b:=true) Z (by rw [isSubtype_type];kernel_rfl) ?_);refine wpAny_ite_split (λ J=>absurd J (by decide)) (λ _=> ?_);refine wpAny_ite_split (λ _=> ?_) (λ J=>absurd (by decide+kernel) J);refine z4f (wpAny_typeOf Z ?_);exact z4e h
def qbn {α:Type} {L:List α} {f:α ->Value} {P:Nat ->Value ->Prop} {acc:Array Value} {n:Nat} (hn:n=L.length) (hP:∀ i v,P i v ->∃ e,L[i]? =some e/\v=f e) (J:ItemsOf P acc n):acc.toList=L.map f:=by
 apply z21
 intro j;rw [z22,z0x];cases e:acc[j]? with
 | some v=>
  obtain ⟨e',he,rfl⟩:=hP j v (J.2 j v e);rw [he];rfl
 | none=>
  have:acc.size<=j:=by simpa using e
  rw [J.1] at this;rw [List.getElem?_eq_none (by lia)];rfl
def qi (prog:Program) (w:World) (A:Around) (s:Shared) (S:Addr) (xs:xD) (it:Value) (s1:Shared):Prop:=
 ∃ (J:Addr) (fp:List Addr) (n:Nat) (P:Nat ->Value ->Prop) (St:Nat ->Heap ->Prop) (h1:Heap) (d:Drawn),it= .ref J/\s1={s with heap:=h1,drawn:=d}/\(∀ b o,s.heap.get? b=some o ->h1.get? b=some o)/\
  Walks prog w A J fp [J] n P St/\St 0 h1/\S∉fp/\s.heap.objs.size<=J/\n<=sizeLine/\∀ acc,ItemsOf P acc n ->(acc.toList.map sOf).Perm xs/\∀ v∈acc.toList,∃ x t,v= .str x t
def qv7 (hh:A.handled=none) (x:TxS prog w s.heap a xs) {S:Addr} (hS:S < s.heap.objs.size) (a0:S≠a):wpAny (model prog w) A (pyIter (.ref a)) (qi prog w A s S xs) E s:=by
 obtain ⟨o,es,ep,t,ho,a4,hd,a3,a2,hnd,hb,hf,a1,a5⟩:=x;have al:a < s.heap.objs.size:=z3z ho;have hsz:es.size<=sizeLine:=fits_of_scanBound hb;have Z:∀ v∈es.toList.map (λ e=>e.2),∃ x t,v=Value.str x t:=λ v hv=>by
  obtain ⟨e,he,rfl⟩:=z45.mp hv;obtain ⟨⟨k,hk,_⟩,_⟩:=a3 e he;obtain ⟨_,t,ht⟩:=qbl hk;exact ⟨k,t,ht⟩
 have good:∀ l:List Value,l.Perm (es.toList.map λ e=>e.2) ->(l.map sOf).Perm xs/\∀ v∈l,∃ x t,v=Value.str x t:=λ l hp=>by
  refine ⟨?_,λ v hv=>Z v (hp.mem_iff.mp hv)⟩;have:=hp.map sOf;rw [z47] at this;rw [<- a2];exact this
 refine qv5 ho a4 hd hf hsz (λ hdr ps d hp=> ?_) (λ J=> ?_)
 ·have hT:((s.heap.push (q6p ps)).push (q2l (.ref s.heap.objs.size) 0 a es.size ep)).get? s.heap.objs.size=some (q6p ps):=z0o _ (z1c _ rfl);have hI:((s.heap.push (q6p ps)).push (q2l (.ref s.heap.objs.size) 0 a es.size ep)).get? (s.heap.objs.size+1)=some (q2l (.ref s.heap.objs.size) 0 a es.size ep):=by
   have:=z1c (s.heap.push (q6p ps)) (o:=q2l (.ref s.heap.objs.size) 0 a es.size ep) rfl
   rwa [z3f] at this
  refine ⟨_,_,_,_,_,_,d,zr,zr,λ b o e=>z0o _ (z0o _ e),qnv hh (z40 (z2l _)) (z40 (z2e al)) hd hf hp,⟨hI,hT,z0o _ (z0o _ ho)⟩,?_,Nat.le_succ _,hsz,λ acc ha=> ?_⟩
  ·simp only [z3n,z2r,or_false,not_or];exact ⟨z40 (z2e hS),z40 hS,a0⟩
  ·have e:=qbn (L:=ps) (f:=λ p=>((es[p]?).map (·.2)).getD .none) (by rw [hp.length_eq,z29]) (λ i v ⟨p,h,h1,h2⟩=>⟨p,h1,by rw [h2];rfl⟩) ha;refine good _ ?_;rw [e];refine (hp.map _).trans ?_;refine List.Perm.of_eq ?_
   apply z21
   intro j;have e2:es.toList[j]? =es[j]? :=z0x;rw [z22,z22,e2];by_cases hj:j < es.size
   ·rw [List.getElem?_range hj,z0b hj];simp [hj]
   ·rw [List.getElem?_eq_none (l:=List.range es.size) (by rw [z29];lia),z0r (by lia)];rfl
 ·have hI:(s.heap.push (q2l (.int 0 0) 0 a es.size ep)).get? s.heap.objs.size=some (q2l (.int 0 0) 0 a es.size ep):=z1c _ rfl;have sf:S∉ [s.heap.objs.size,a]:=by
   simp only [z3n,z2r,or_false,not_or];exact ⟨z40 hS,a0⟩
  cases O:q1j w with
  | true=>
   refine ⟨_,_,_,_,_,_,s.drawn,zr,zr,λ b o e=>z0o _ e,qqh hh (z40 al) hd hf O,⟨hI,z0o _ ho⟩,sf,z48 _,hsz,λ acc ha=> ?_⟩;have e:=qbn (L:=(pickOrder (w.params.setOrder a ep) es).toList) (f:=λ e=>e.2) (by rw [(q90 _ _).length_eq,z19]) (λ i v ⟨e,h1,h2⟩=>⟨e,by rw [z0x];exact h1,h2⟩) ha;refine good _ ?_;rw [e];exact (q90 _ _).map _
  | false=>
   have h1:es.size<=1:=by
    rw [O] at J;by_cases z:es.size<=1
    ·exact z
    ·have:=a5 (by lia);rw [this] at J;simp at J
     lia
   refine ⟨_,_,_,_,_,_,s.drawn,rfl,rfl,λ b o e=>z0o _ e,qst hh (z40 al) hd hf O (by rw [a1,O];rfl) h1,⟨hI,z0o _ ho⟩,sf,z48 _,hsz,λ acc ha=> ?_⟩;have e:=qbn (L:=es.toList) (f:=λ e=>e.2) (by rw [z19]) (λ i v ⟨e,h1,h2⟩=>⟨e,by rw [z0x];exact h1,h2⟩) ha;refine good _ ?_;rw [e]
end
section
variable {prog:Program} {w:World} {A:Around} {E:xB} {s:Shared} {a:Addr} {xs:xD}
def qfa (xs:xD) (vs:xH):Prop:=(vs.map sOf).Perm xs/\∀ v∈vs,∃ x t,v= .str x t
def qqi {R:Result ->Shared ->Prop} (hh:A.handled=none) (x:TxS prog w s.heap a xs) (S:Addr) (a1:S≠a) (res:Value) (c₀:Nat) (hS:s.heap.get? S=some {cls:= .type "list",data:= .seq #[] c₀})
  (hR:∀ h' tk d O c',(∀ b o,b≠S ->s.heap.get? b=some o ->h'.get? b=some o) ->h'.get? S=some {cls:= .type "list",dict:=none,data:= .seq O c',slots:=#[]} ->qfa xs O.toList ->R (.ok (.ret res)) {s with heap:=h',toks:=tk,drawn:=d}):
  wpAny (model prog w) A.in1 (Builtin.List.listExtendWith (.ref S) (.ref a) res)
   (λ fin s'=>match fin with | .done f=>R (.ok f) s' | .again c'=>c'.quiet=true/\codeAny (model prog w) A c' R s') (λ e s'=>R (.error e) s') s:=by
 obtain ⟨o,es,ep,t,ho,a6,rest⟩:=id x;have ty:s.TypeIs (.ref a) "set":=⟨o,ho,a6.1⟩;unfold Builtin.List.listExtendWith;refine z4f (wpAny_typeOf (T:="set") ty ?_);have h1:Builtin.List.listSameRef (.ref S) (.ref a)=false:=by simp [Builtin.List.listSameRef,a1]
 simp only [h1,show (Value.type "set"==Value.type "list")=false by decide,show (Value.type "set"==Value.type "tuple")=false by decide,Bool.or_false,z1k,if_false];refine z4f (z4g (qv7 (A:=A.in1) (E:=λ e s'=>R (.error e) s') hh x (z3z hS) a1) (λ it s1 good=> ?_) λ e s' z=>z);obtain ⟨J,fp,n,P,St,h2,d,rfl,rfl,keep,W,st,a2,hJ,hn,a4⟩:=good;have Z:=keep _ _ hS;have hSJ:S≠J:=z40 (z1r (z3z hS) hJ);have key:∀ (h:Heap) (c₁ tk:Nat),St 0 h ->(∀ b o,b≠S ->h2.get? b=some o ->h.get? b=some o) ->
   h.get? S=some {cls:= .type "list",data:= .seq #[] c₁} ->codeAny (model prog w) A (.builtin "list.extend.loop" ⟨[.ref S,.ref J,res],[]⟩) R {s with heap:=h,toks:=tk,drawn:=d}:=by
  intro h c₁ tk a9 hk Z;refine codeAny_extend_loopS W.toS hn S a2 res n 0 _ #[] c₁ rfl (z4b _) a9 Z (ItemsOf.nil _) λ s' O c' hm a7 ha=> ?_;rw [Moved.eq_with hm];refine hR s'.heap s'.toks d O c' (λ b o hb e=>hm.heap b o (λ a0=> ?_) (hk b o hb (keep b o e))) a7 (a4 O ha);rcases z3n.mp a0 with e' | a0
  ·exact hb e'
  ·have z:=z1m.mp a0;exact absurd (z3z e) (by rw [z];exact Nat.not_lt.mpr hJ)
 refine z4f (z3o (qv6 ⟨o,keep _ _ ho,a6.1⟩ ?_));refine wpAny_ite_split (λ _=> ?_) (λ _=>z4e ⟨plainId_quiet PySem.F.plain_extend_loop _,key _ c₀ _ st (λ b o _ e=>e) Z⟩);refine z4f (z4d ?_);refine z4f ?_;show wpAny _ _ (updateSeq S (·.push .none) >>=λ _=>updateSeq S (·.pop)) _ _ _;refine z4f (wpAny_updateSeq Z rfl ?_);have a3:=z0z (Obj.mapSeq (·.push Value.none)) Z rfl;refine wpAny_updateSeq (hz:=by seq_fits) a3 rfl ?_;have a8:=z0z (Obj.mapSeq (·.pop)) a3 rfl;refine z4e ⟨plainId_quiet PySem.F.plain_extend_loop _,key _ _ _ ?_ (λ b o hb e=> ?_) a8⟩
 ·refine W.frame 0 _ _ st λ b hb o e=> ?_;have a5:b≠S:=λ h=>a2 (h ▸ hb);exact (z0p _ _ (Ne.symm a5)).trans ((z0p _ _ (Ne.symm a5)).trans e)
 ·exact (z0p _ _ (Ne.symm hb)).trans ((z0p _ _ (Ne.symm hb)).trans e)
def qnw {R:List Value ->Shared ->Prop} (hh:A.handled=none) (x:TxS prog w s.heap a xs)
  (h:∀ (vs:xH) (h':Heap) (tk:Nat) (d:Drawn),qfa xs vs ->(∀ b o,s.heap.get? b=some o ->h'.get? b=some o) ->s.heap.objs.size<=h'.objs.size ->R vs {s with heap:=h',toks:=tk,drawn:=d}):wpAny (model prog w) A (collect (.ref a)) R E s:=by
 have al:a < s.heap.objs.size:=by
  obtain ⟨_,_,_,_,e,_⟩:=x;exact z3z e
 unfold collect;refine z4f (wpAny_runValue (z39 entry_proto_collect' ?_));rw [Around.under_plainId PySem.F.plain_proto_collect _];show wpAny _ A.in1 (newList [] >>=λ l=>again (.builtin "list.__iadd__" ⟨[l,.ref a],[]⟩)) _ _ s;refine z4f (z28 ?_);refine z4e ⟨plainId_quiet z0j _,z39 entry_list_iadd' ?_⟩;rw [Around.under_plainId z0j _];have hS:(s.heap.push {cls:= .type "list",data:= .seq ([]:xH).toArray}).get? s.heap.objs.size=some {cls:= .type "list",data:= .seq #[]}:=z1c _ rfl;show wpAny _ A.in1 (Builtin.List.listExtendWith (.ref s.heap.objs.size) (.ref a) (.ref s.heap.objs.size)) _ _ _;have key:=qqi (A:=A) (prog:=prog) (w:=w) (xs:=xs) (a:=a) (s:={s with heap:=s.heap.push {cls:= .type "list",data:= .seq ([]:xH).toArray}}) hh (x.keep λ o e=>z0o _ e) s.heap.objs.size
  (z42 al) (.ref s.heap.objs.size) 0 hS
  (R:=λ (q:Result) (s':Shared)=>∃ (h':Heap) (tk:Nat) (d:Drawn) (J:Array Value) (c':Nat),q= .ok (.ret (.ref s.heap.objs.size))/\s'={s with heap:=h',toks:=tk,drawn:=d}/\(∀ b o,s.heap.get? b=some o ->h'.get? b=some o)/\
   h'.get? s.heap.objs.size=some {cls:= .type "list",dict:=none,data:= .seq J c',slots:=#[]}/\qfa xs J.toList)
  (λ h' tk d J c' hk O Z=>⟨h',tk,d,J,c',rfl,rfl,λ b o e=>hk b o (z40 (z3z e)) (z0o _ e),O,Z⟩)
 refine z4g key (λ f s' y=> ?_) λ e s' y=> ?_
 ·cases f with
  | done f=>
   obtain ⟨h',tk,d,J,c',e,rfl,hk,O,ha⟩:=y;cases e
   show wpAny _ A (load s.heap.objs.size >>=_) _ _ _;refine z4f (wpAny_load O (z4e ?_));exact h J.toList h' tk d ha hk (z3y (z3z O))
  | again c=>
   refine ⟨y.1,z43 y.2 λ q s2 z=> ?_⟩;obtain ⟨h',tk,d,J,c',rfl,rfl,hk,O,ha⟩:=z;show wpAny _ A (load s.heap.objs.size >>=_) _ _ _;refine z4f (wpAny_load O (z4e ?_));exact h J.toList h' tk d ha hk (z3y (z3z O))
 ·obtain ⟨_,_,_,_,_,e',_⟩:=y;cases e'
def qnx {x:Value} {Pv:List Value ->Prop} {rk:List Value ->Value ->Int} {Q:xB} (hz:∀ vs,Pv vs ->vs.length<=sizeLine)
  (hc:∀ (Z:Around) (E':xB) (R:List Value ->Shared ->Prop),Z.handled=A.handled ->(∀ vs h' tk d,Pv vs ->(∀ b o,s.heap.get? b=some o ->h'.get? b=some o) ->s.heap.objs.size<=h'.objs.size ->R vs {s with heap:=h',toks:=tk,drawn:=d}) ->wpAny (model prog w) Z (collect x) R E' s)
  (hk:∀ (vs:xH) (Z:Around) (s':Shared) (a:Addr),Pv vs ->Z.units<=A.units+4 ->s.heap.objs.size<=a ->(∀ b o,s.heap.get? b=some o ->s'.heap.get? b=some o) ->Tim.Keys prog w Z s' a vs (rk vs))
  (h:∀ (vs:xH) (out:Array Value) (l:Addr) (n:Nat) (h':Heap) (tk:Nat) (d:Drawn),Pv vs ->Tim.Sorted (rk vs) vs out.toList ->(∀ b o,s.heap.get? b=some o ->h'.get? b=some o) ->s.heap.objs.size<=l ->h'.get? l=some (seqObj "list" out n) ->Q (.ref l) {s with heap:=h',toks:=tk,drawn:=d}):
  wpAny (model prog w) A (call (.builtin "sorted") [x]) Q E s:=by
 refine Calls.call_function_entry kind_sorted plain_sorted entry_sorted (args_sorted1 _) ?_;unfold Builtin.«sorted»;refine z4f (m:=checkCount "sorted" 1 1 _) (z4e ?_);refine z4f (hc _ _ _ rfl λ vs h1 tk d pv keep hsz=> ?_);have hz:=hz vs pv;refine z4f (wpAny_newList ?_ hz);have O:(h1.push (seqObj "list" vs.toArray 0)).get? h1.objs.size=some (seqObj "list" vs.toArray 0):=z1c _ rfl;show wpAny _ _ _ _ _ {s with heap:=h1.push (seqObj "list" vs.toArray 0),toks:=tk,drawn:=d};have J:∀ b o,s.heap.get? b=some o ->(h1.push (seqObj "list" vs.toArray 0)).get? b=some o:=λ b o e=>z0o _ (keep b o e);refine z4f (z3o (z2o slot_list_sort ⟨_,O,zr⟩ entry_list_sort (Tim.qaw O hz (hk vs _ _ _ pv ?_ hsz J) λ out so=>⟨_,zr,?_⟩) (args_list_sort _)))
 ·show A.units+2<=A.units+4
  lia
 ·have a0:∀ b o,s.heap.get? b=some o ->b≠h1.objs.size:=λ b o e=>z40 (z1r (z3z e) hsz);have u1:=z1b (h1.push (seqObj "list" vs.toArray 0)) h1.objs.size (Obj.mapSeq λ _=>(#[]:Array Value));obtain ⟨e1,g1⟩:∃ e1,((h1.push (seqObj "list" vs.toArray 0)).update h1.objs.size (Obj.mapSeq λ _=>(#[]:Array Value))).get? h1.objs.size=some (seqObj "list" #[] e1):=⟨_,get?_update_seq O λ _=>#[]⟩;have g2:=z0o (seqObj "list" #[] 0) (z0o (seqObj "tuple" vs.toArray 0) g1);have g3:=get?_update_seq g2 λ _=>out;have u4:=z1b (((((h1.push (seqObj "list" vs.toArray 0)).update h1.objs.size (Obj.mapSeq λ _=>(#[]:Array Value))).push (seqObj "tuple" vs.toArray 0)).push (seqObj "list" #[] 0))) h1.objs.size (Obj.mapSeq λ _=>out);refine z4e ⟨_,zr,h vs out h1.objs.size _ _ tk d pv so (λ b o e=> ?_) hsz g3⟩;refine (u4.2 b (a0 b o e)).trans (z0o _ (z0o _ ((u1.2 b (a0 b o e)).trans (J b o e))))
end
def SetH (P:Program) (w:World) (a:Addr) (ys:xD):HO:= .ext λ h=>TxS P w h a ys
def uniq (ws:xD):List Str:=Tim.srt ql ws.eraseDups
def q55 (ws:xD) (x:Str):x∈uniq ws↔x∈ws:=by
 unfold uniq;rw [(Tim.qo ql _).mem_iff];exact List.mem_eraseDups
section
variable {X:Cx} {xC:xG} {σ:St} {H:Hp} {s:Shared}
def Inv.drew {d:Drawn} (I:Inv X xC σ H s):Inv X xC σ H {s with drawn:=d}:=
 I.step (h':=s.heap) (g':=s.gens) (d':=d) (t':=s.toks) (ch:=[]) (λ _ z=>nomatch z) (λ _ _ _ _ _ e _=>e) (λ b o _ _ _ e _=>⟨o.slots,e⟩) (λ _ _ _ _ n=>n) (λ b o _ e=>⟨o,e⟩) (λ _ _ e=>e) (λ _ _ _ e=>e) (λ b ps e=>⟨#[],by rw [e];simp⟩) (λ _ e=>e) I.hok I.bare
def qsu (hc:X.calm=true) (P:Program) (w:World) (K:xA) (hK:X.K=K:=by rfl) (hP:X.prog=P:=by rfl) (hw:X.w=w:=by rfl):q22 X (.type "set") (λ xs H Q=>∃ (p:Addr) (ws:xD),xs=[.ref p]/\(SqL K H p (ws.map V.str)\/ SqT K H p (ws.map V.str))/\ws.length<=4000/\
  ∀ (l:Addr) (ys:xD),H l=none ->ys.Nodup ->(∀ x,x∈ys↔x∈ws) ->Q (.ref l) (upd H l (SetH P w l ys))):=by
 subst hK hP hw;intro xC s σ H xs us Q I r h;obtain ⟨p,ws,rfl,hp,hl,q⟩:=h;obtain ⟨u,rfl,ru⟩:=q33 r;cases ru
 have fin:∀ (its:xH),its.length=ws.length ->∀ (h':Heap) (tk:Nat) (ys:xD),TxS X.prog X.w h' s.heap.objs.size ys ->InS (λ i=>ws.getD i "") its.toArray.size ys ->(∀ b o,b < s.heap.objs.size ->s.heap.get? b=some o ->h'.get? b=some o) ->EP X xC σ Q (.ref s.heap.objs.size) {s with heap:=h',toks:=tk}:=λ its O h' tk ys hS a1 keep=>by
  have Z:∀ b o,s.heap.get? b=some o ->h'.get? b=some o:=λ b o e=>keep b o (z3z e) e;have J:ys.Nodup:=by
   obtain ⟨_,_,_,_,_,_,_,_,_,J,_⟩:=hS;exact J
  have a0:∃ o,h'.get? s.heap.objs.size=some o:=by
   obtain ⟨o,_,_,_,e,_⟩:=hS;exact ⟨o,e⟩
  refine ⟨.ref _,_,I.laid (a:=s.heap.objs.size) (o:=SetH X.prog X.w s.heap.objs.size ys) (t':=tk) Z (z48 _) ⟨hS,a0,λ h1 h2 z k=>z.keep k⟩,zr,q _ ys I.fresh J λ x=> ?_⟩;rw [a1.1 x,z23,O]
  constructor
  ·rintro ⟨j,hj,rfl⟩;show ws.getD j ""∈ws;rw [z06,z0d hj];exact z2k hj
  ·intro hx;obtain ⟨j,hj,e⟩:=z1i hx;refine ⟨j,hj,?_⟩;show ws.getD j ""=x;rw [z06,z0d hj];exact e
 have hh:=I.ok.hd hc;rcases hp with hp | hp
 ·obtain ⟨its,rv,⟨o,n,e,c,_,d⟩,z⟩:=I.list hp;have O:its.length=ws.length:=by rw [<- rv.length,z30]
  obtain ⟨_,_,e3⟩:=q67 rv;exact qss hh ⟨o,e,c,n,d⟩ (by rw [z1g];exact e3) (by rw [z23,O];unfold scanBound;lia) (fin its O)
 ·obtain ⟨its,rv,⟨o,e,c,n,d⟩,z⟩:=I.tuple hp;have O:its.length=ws.length:=by rw [<- rv.length,z30]
  obtain ⟨_,_,e3⟩:=q67 rv;exact qqf hh ⟨o,e,c,n,d⟩ (by rw [z1g];exact e3) (by rw [z23,O];unfold scanBound;lia) (fin its O)
theorem qa8:∀ (n:Nat) (l:xD),l.length<=n ->l.eraseDups.Nodup
 | 0,l,h=>by
  have:l=[]:=z0k.mp (by lia);subst this;exact z3g
 | n+1,[],_=>z3g
 | n+1,x::l,h=>by
  rw [List.eraseDups_cons];refine z32.mpr ⟨λ hx=> ?_,qa8 n _ (z41 (z10 _ _) (Nat.le_of_succ_le_succ h))⟩;have:=z2x.mp (List.mem_eraseDups.mp hx);simp at this
def qv8 {ws ys:xD} (hn:ys.Nodup) (hm:∀ x,x∈ys↔x∈ws):Tim.srt ql ys=uniq ws:=by
 unfold uniq;refine Tim.q9i q1n ((Tim.qo ql ys).trans ?_) (Tim.q1v q1n ys);refine (List.perm_ext_iff_of_nodup hn (qa8 _ _ (z48 _))).mpr λ x=> ?_;rw [hm x,List.mem_eraseDups]
def qlt (hc:X.calm=true) (P:Program) (w:World) (hP:X.prog=P:=by rfl) (hw:X.w=w:=by rfl):q22 X (.builtin "sorted") (λ xs H Q=>∃ (p:Addr) (ys:xD),xs=[.ref p]/\H p=some (SetH P w p ys)/\∀ l,H l=none ->Q (.ref l) (upd H l (.lst ((Tim.srt ql ys).map V.str)))):=by
 subst hP hw;intro xC s σ H xs us Q I r h;obtain ⟨p,ys,rfl,hp,q⟩:=h;obtain ⟨u,rfl,ru⟩:=q33 r;cases ru
 obtain ⟨hS,_,_⟩:ObjOk X.prog X.w H s.heap p (SetH X.prog X.w p ys):=I.hok p _ hp;have yl:ys.length<=sizeLine:=by
  obtain ⟨_,es,_,_,_,_,_,_,e,_,hb,_⟩:=id hS;rw [<- e,z30,z19];exact fits_of_scanBound hb
 have hh:=I.ok.hd hc;have Z:∀ vs,qfa ys vs ->Vals ((vs.map sOf).map V.str) vs:=λ vs z=>q49 z.2;refine qnx (Pv:=qfa ys) (rk:=λ vs v=>Tim.rank ql (vs.map sOf) (sOf v)) (λ vs z=>by rw [show vs.length=ys.length by rw [<- z.1.length_eq,z30]];exact yl)
  (λ A' E' R e k=>qnw (by rw [e];exact hh) hS λ vs h' tk d z=>k vs h' tk d z) (λ vs A' s' a z _ _ _=>qbh (Z vs z)) λ vs out l n h' tk d z so keep hl hg=> ?_
 have ed:=Tim.q3a q1n sOf so;have O:∀ u∈out.toList,∃ x t,u= .str x t:=λ u hu=>z.2 u (so.perm.mem_iff.mp hu);have J:=q49 O;have es:Tim.srt ql (vs.map sOf)=Tim.srt ql ys:=Tim.q9i q1n ((Tim.qo ql _).trans z.1) (Tim.q1v q1n _);rw [ed,es] at J;exact Inv.q3b (s:={s with drawn:=d}) I.drew J (by rw [z30,(Tim.qo ql ys).length_eq];exact yl) keep hl hg (q l (I.hok.fresh hl))
end
section
variable {X:Cx}
def Inv.thaw {xC:xG} {σ:St} {H:Hp} {s:Shared} {a:Addr} {o:Obj} {kvs:List (Key×V)} (I:Inv X xC σ H s) (e:H a=some (.frz o (.dK kvs))) (h0:∀ o u,X.H₀ a≠some (.frz o u)):Inv X xC σ (upd H a (.dK kvs)) s where
 ok:=I.ok
 os:=I.os
 bare:=I.bare
 base:=by
  refine ⟨I.base.keep,I.base.slot,λ b J q n hx=> ?_,I.base.there,λ b xs q=> ?_,λ b J u q=> ?_,λ b ps q=> ?_⟩
  ·have:=I.base.free b J q n hx;rw [qh (λ z=>by rw [z,e] at this;cases this)];exact this
  ·have:=I.base.tups b xs q;rw [qh (λ z=>by rw [z,e] at this;cases this)];exact this
  ·rw [qh (show b≠a from λ z=>h0 J u (by rw [<- z];exact q))];exact I.base.frzs b J u q
  ·obtain ⟨more,this⟩:=I.base.tbls b ps q;exact ⟨more,by rw [qh (λ z=>by rw [z,e] at this;cases this)];exact this⟩
 loc:=I.loc
 cell:=I.cell
 free:=by rw [qh (qu e I.free).symm];exact I.free
 freeC:=λ x c h=>by rw [qh (qu e (I.freeC x c h)).symm];exact I.freeC x c h
 pin:=λ p hp=>by
  obtain ⟨h1,h2,h3⟩:=I.pin p hp;exact ⟨h1,by rw [qh (qu e h2).symm];exact h2,h3⟩
 len:=I.len
 hok:=λ b J q=>by
  by_cases z:b=a
  ·subst z;rw [qb] at q;cases q
   obtain ⟨_,this⟩:=I.hok b _ e;exact this.stay (λ c u _ g=>g) (λ c g=>by rw [qh (λ z=>by rw [z,e] at g;cases g)];exact g) λ c xs g=>by rw [qh (λ z=>by rw [z,e] at g;cases g)];exact g
  ·rw [qh z] at q;have hb:=I.hok b J q;exact hb.stay (λ c u _ g=>g) (λ c g=>by rw [qh (λ z=>by rw [z,e] at g;cases g)];exact g) λ c xs g=>by rw [qh (λ z=>by rw [z,e] at g;cases g)];exact g
def q12z (H0:Hp) (te:TE):TE:=λ σ H Q=>te σ H λ v H1=>Q v H1\/ ∃ a o kvs,H1 a=some (.frz o (.dK kvs))/\(∀ o u,H0 a≠some (.frz o u))/\Q v (upd H1 a (.dK kvs))
def qou {e:Expr} {te:TE} (he:PE X e te):PE X e (q12z X.H₀ te):=by
 intro xC s σ H Q I h;refine thn (he xC s σ H _ I h) λ v s1 J=> ?_;obtain ⟨x,H1,I1,r1,q1⟩:=J;rcases q1 with q | ⟨a,o,kvs,e1,h0,q⟩
 ·exact ⟨x,H1,I1,r1,q⟩
 ·exact ⟨x,_,I1.thaw e1 h0,r1,q⟩
end
def q1x (H:Hp) (zs:List V) (ps:xF):Prop:=Paired (λ x p=>∃ b,x=V.ref b/\H b=some (.tup (p.map V.str))) zs ps
theorem qsv {H:Hp}:∀ {zs:List V} {ps:xF} {its:xH},q1x H zs ps ->Vals zs its ->qkg H its ps
 | _,_,_,.nil,.nil=> .nil
 | _,_,_,.cons ⟨b,e,hb⟩ r,.cons rv rr=>by
  subst e;exact .cons ⟨b,rv,hb⟩ (qsv r rr)
section
variable {X:Cx}
def qay (hu:X.A.units+64 < cLine) (K:xA) (hK:X.K=K:=by rfl):q22 X (.builtin "sorted") (λ xs H Q=>∃ (p:Addr) (zs:List V) (ps:xF),xs=[.ref p]/\SqL K H p zs/\q1x H zs ps/\
  ∀ (l:Addr) (us:List V),H l=none ->q1x H us (Tim.srt qz ps) ->Q (.ref l) (upd H l (.lst us))):=by
 subst hK;intro xC s σ H xs us Q I r h;obtain ⟨p,zs0,ps,rfl,hp,ht,q⟩:=h;obtain ⟨u,rfl,ru⟩:=q33 r;cases ru
 obtain ⟨its,a2,⟨o,n,e,c,_,d⟩,z⟩:=I.list hp;have J:qkg H its ps:=qsv ht a2;have a0:∀ v p,(∃ b,v=Value.ref b/\H b=some (.tup (p.map V.str))) ->TupAt s.heap v p:=λ v p ⟨b,e,Z⟩=>by
  obtain ⟨_,its,rv,o,e1,c,n,dd⟩:=I.hok b _ Z;exact ⟨b,o,its.toArray,n,e,e1,c,dd,by rw [z1g];exact rv⟩
 have O:Paired (λ v p=>TupAt s.heap v p/\decT H v=p) its ps:=Paired.mapP J λ v p z=>⟨a0 v p z,by
  obtain ⟨b,rfl,Z⟩:=z;exact qcp Z⟩
 have ev:its.map (decT H)=ps:=(q4r O λ _ _ z=>z.2).1;have mem:∀ v∈its,∃ b,v=Value.ref b/\H b=some (.tup ((decT H v).map V.str)):=(q4r (f:=decT H) J λ v p ⟨b,e,Z⟩=>by
  rw [e];exact qcp Z).2
 have hl:its.length<=sizeLine:=by
  rw [<- a2.length];exact z
 refine q4q (vs:=its) (rk:=λ v=>Tim.rank qz (its.map (decT H)) (decT H v)) hl
  (λ A' E' R _ k=>qa3 (.inl rfl) e c d (by rw [z23];exact hl) (by rw [z1g];exact k))
  (λ A' s' a hu' ha keep=>qia (s:=s) (decT H) O ha keep (by lia)) λ out l n h' tk so keep a1 hg=> ?_
 have ed:=Tim.q3a q2c (decT H) so;rw [ev] at ed;have mo:∀ v∈out.toList,∃ b,v=Value.ref b/\H b=some (.tup ((decT H v).map V.str)):=λ v hv=>mem v (so.perm.mem_iff.mp hv);obtain ⟨zs,rv,hp⟩:∃ zs:List V,Vals zs out.toList/\q1x H zs (out.toList.map (decT H)):=by
  revert mo;generalize out.toList=os;intro mo
  induction os with
  | nil=>exact ⟨[],.nil,.nil⟩
  | cons v os ih=>
   obtain ⟨zs,r1,r2⟩:=ih λ u hu=>mo u (z16 _ hu);obtain ⟨b,e,Z⟩:=mo v (z1p ..);exact ⟨.ref b::zs,.cons e r1,.cons ⟨b,zr,Z⟩ r2⟩
 rw [ed] at hp;refine I.q3b rv ?_ keep a1 hg (q l zs (I.hok.fresh a1) hp);rw [rv.length,so.perm.length_eq];exact hl
end
def qqj {P:Program} {w:World} {es:List DictEntry} {vs:List (Key×Value)} (p:Pairs (q17 P w) es vs):∀ {kvs:List (Key×V)} {ws:List Int},KV kvs vs ->kvs.map (·.1)=ws.map Sum.inl ->Vals (ws.map V.int) (es.map (·.key)):=by
 induction p with
 | nil=>
  intro kvs ws r h;cases r
  have:ws=[]:=by simpa using h.symm
  subst this;exact .nil
 | cons a b c ih=>
  intro kvs ws r h;cases r with
  | cons d f=>
   cases ws with
   | nil=>simp at h
   | cons x ws=>
    rw [z3l,z3l,z2v] at h;rw [<- d.1,h.1] at a;refine .cons ?_ (ih f h.2);rcases q1u (show q8u (Sum.inl x) _=true from a) with ⟨i,t,e1,e2⟩ | ⟨x',t,e1,_⟩
    ·cases e1
     exact ⟨t,e2⟩
    ·cases e1
section
variable {X:Cx}
def qj6 (hc:X.calm=true) (K:xA) (hK:X.K=K:=by rfl):q22 X (.builtin "sorted") (λ xs H Q=>∃ (d:Addr) (kvs:List (Key×V)) (ws:List Int),xs=[.ref d]/\H d=some (.dK kvs)/\kvs.map (·.1)=ws.map Sum.inl/\
  ∀ l,H l=none ->Q (.ref l) (upd H l (.lst ((Tim.srt q19 ws).map V.int)))):=by
 subst hK;intro xC s σ H xs us Q I r h;obtain ⟨d,kvs,ws,rfl,hd,hk,q⟩:=h;obtain ⟨u,rfl,ru⟩:=q33 r;cases ru
 obtain ⟨hz,a1,vs,a3,o,es,ep,ho,hx,J,_,a0,hnd⟩:=I.hok d _ hd;have rv:Vals (ws.map V.int) (es.toList.map (·.key)):=qqj a0 a3 hk;have wl:ws.length=kvs.length:=by
  have:=congrArg List.length hk;rw [z30,z30] at this;exact this.symm
 have hl:(es.toList.map (·.key)).length<=sizeLine:=by
  rw [<- rv.length,z30,wl];exact hz
 obtain ⟨e1,e2,_⟩:=qdz rv;refine q4q (vs:=es.toList.map (·.key)) (rk:=λ v=>Tim.rank q19 ((es.toList.map (·.key)).map iOf) (iOf v)) hl (λ A' E' R hh k=>q94 (hh.trans (I.ok.hd hc)) a1 ⟨o,ho,hx,J⟩ (by rw [z30,z19] at hl;exact hl) k)
  (λ A' s' a _ _ _=>qic rv) λ out l n h' tk so keep O hg=> ?_
 have a2:∀ u∈out.toList,∃ x t,u= .int x t:=λ u hu=>e2 u (so.perm.mem_iff.mp hu);have ed:=Tim.q3a q1w iOf so;rw [e1] at ed;have Z:=q75 a2;rw [ed] at Z;exact I.q3b Z (by rw [z30,(Tim.qo q19 ws).length_eq,wl];exact hz) keep O hg (q l (I.hok.fresh O))
end
def ItdT (a:Addr) (o:Obj) (kvs:List (List Key×V)):It:=
 ⟨λ i H=>H a=some (.frz o (.dT kvs))/\i < kvs.length,λ i H x H'=>H'=H/\∃ kv b,kvs[i]? =some kv/\x= .ref b/\H b=some (.tup (kv.1.map kV)),λ i H=>H a=some (.frz o (.dT kvs))/\kvs.length<=i⟩
section
variable {X:Cx} {tg:Expr}
def Inv.freezeT {xC:xG} {σ:St} {H:Hp} {s:Shared} {a:Addr} {o:Obj} {kvs:List (List Key×V)} (I:Inv X xC σ H s) (e:H a=some (.dT kvs)) (ho:s.heap.get? a=some o):Inv X xC σ (upd H a (.frz o (.dT kvs))) s:=by
 have u:Un X.fs [] H (upd H a (.frz o (.dT kvs))) s.heap s.heap:=by
  refine ⟨λ b o q _ _ _=>q,λ b o q _ _ _=>⟨o.slots,q⟩,λ b J q n _=> ?_,λ b J q _=>⟨J,q⟩,λ b xs q=> ?_,λ b J u q=> ?_,λ b ps q=>⟨#[],?_⟩⟩
  ·rw [qh (λ z=>by rw [z,e] at n;cases n)];exact n
  ·rw [qh (λ z=>by rw [z,e] at q;cases q)];exact q
  ·rw [qh (λ z=>by rw [z,e] at q;cases q)];exact q
  ·rw [qh (λ z=>by rw [z,e] at q;cases q),q];simp
 have st:∀ b J,ObjOk X.prog X.w H s.heap b J ->ObjOk X.prog X.w (upd H a (.frz o (.dT kvs))) s.heap b J:=λ b J hb=>hb.stay (λ c u _ g=>g) (λ c g=>by rw [qh (λ z=>by rw [z,e] at g;cases g)];exact g) λ c xs g=>by rw [qh (λ z=>by rw [z,e] at g;cases g)];exact g
 have hok:HOk X.prog X.w (upd H a (.frz o (.dT kvs))) s.heap:=λ b J q=>by
  by_cases z:b=a
  ·subst z;rw [qb] at q;cases q
   exact ⟨ho,st b _ (I.hok b _ e)⟩
  ·rw [qh z] at q;exact st b J (I.hok b J q)
 have:=I.un (t':=s.toks) u hok;exact this
theorem qlu {P:Program} {w:World} {H:Hp}:∀ {kvs:List (List Key×V)} {xs:List (List Key×Addr×Value)} {i:Nat} {J:List Key×V},Paired (λ (p:List Key×V) (q:List Key×Addr×Value)=>p.1=q.1/\H q.2.1=some (.tup (p.1.map kV))/\RelV p.2 q.2.2) kvs xs ->kvs[i]? =some J ->
  ∃ b e,(xs.map (entryOfKey (tupleKind (q17 P w))))[i]? =some e/\e.key= .ref b/\H b=some (.tup (J.1.map kV))
 | _,_,i,J,.nil,h=>by simp at h
 | _,_,0,J,.cons a r,h=>by
  simp at h
  subst h;exact ⟨_,_,zr,zr,a.2.1⟩
 | _,_,i+1,J,.cons a r,h=>by
  obtain ⟨b,e,h1,h2⟩:=qlu (P:=P) (w:=w) (i:=i) r (by simpa using h);exact ⟨b,e,by simpa using h1,h2⟩
def qqk {P:Program} {w:World} {K:xA} (a it:Addr) (o:Obj) (es:Array DictEntry) (ep:Nat) (kvs:List (List Key×V)) (ho:o.ExactDict) (J:o.data= .dict es ep):Turn P w K tg (ItdT a o kvs) [it] it (λ i h=>h.IsKeyIter it a i es.size ep) where
 mem:=by simp
 obj:=λ i h st b hb=>by
  have e:b=it:=by simpa using hb
  subst e;obtain ⟨o,e,c,d⟩:=st;exact ⟨o,e,λ v z=>by rw [d] at z;cases z⟩
 keep:=λ i h h' st k=>by
  obtain ⟨o,e,r⟩:=st;exact ⟨o,k it (by simp) o e,r⟩
 item:=by
  intro X hP hw hK hc i xC s σ H E I hf st hg;subst hP hw hK;obtain ⟨ha,hi⟩:=hg;obtain ⟨a0,hz,a7,xs,a2,o2,a5,a4,Z,a8,O,a1,a6⟩:=I.hok a _ ha;rw [a0] at Z;cases Z
  rw [J] at O;cases O
  obtain ⟨b,e,he,ek,hb⟩:=qlu (P:=X.prog) (w:=X.w) a2 (z0d hi);rw [<- a1] at he;obtain ⟨f0,f1,f2,f3,f4,f5⟩:=hf it (by simp);refine qdw st ⟨o,a0,ho,J⟩ (e:=e) (by simpa using he) λ h' a3 sb=> ?_;have I1:Inv X xC σ H {s with heap:=h'}:=I.turned (t':=s.toks) (λ b o hb e=>(sb.2 b hb).trans e) f0 f1 f3 f4 f5;obtain ⟨oi,ei,ci,di⟩:=id a3;rw [ek];exact ⟨_,rfl,qcl (s:={s with heap:=h'}) ei ci di (by decide) ⟨.ref b,H,I1,rfl,⟨rfl,_,b,z0d hi,rfl,hb⟩,a3,λ b hb=>(hf b hb).1⟩⟩
 done:=by
  intro X hP hw hK hc i xC s σ H E I hf st hg;subst hP hw hK;obtain ⟨ha,hi⟩:=hg;obtain ⟨a0,hz,a7,xs,a2,o2,a5,a4,Z,a8,O,a1,a6⟩:=I.hok a _ ha;rw [a0] at Z;cases Z
  rw [J] at O;cases O
  have hl:es.size=kvs.length:=by
   rw [<- z19,a1,z30];exact (Paired.length a2).symm
  obtain ⟨f0,f1,f2,f3,f4,f5⟩:=hf it (by simp);exact qgj (I.ok.hd hc) st ⟨o,a0,ho,J⟩ (by lia) λ h' eb=>⟨zr,I.turned (t':=s.toks) (λ b o hb e=>eb b o hb e) f0 f1 f3 f4 f5⟩
 self:=by
  intro A i s Q E st h;exact wpAny_pyIter_keyiter st h
def q130 (tl:TE):TI:=λ σ H R=>tl σ H λ x H1=>∃ a kvs,x= .ref a/\((H1 a=some (.dT kvs)/\∀ o,R (ItdT a o kvs) (upd H1 a (.frz o (.dT kvs))))\/ ∃ o,H1 a=some (.frz o (.dT kvs))/\R (ItdT a o kvs) H1)
def qv9 {l:Expr} {tl:TE} (hl:PE X l tl):PI X tg l (q130 tl):=by
 intro xC s σ H R I h;refine thn (hl xC s σ H _ I h) λ v s1 a3=> ?_;obtain ⟨x,H1,I1,r1,q1⟩:=a3;obtain ⟨a,kvs,e,q⟩:=q1;subst e;cases r1
 obtain ⟨H2,o,I2,ha,q2⟩:∃ H2 o,Inv X xC σ H2 s1/\H2 a=some (.frz o (.dT kvs))/\R (ItdT a o kvs) H2:=by
  rcases q with ⟨e,q⟩ | ⟨o,e,q⟩
  ·obtain ⟨hz,O,xs,a2,o,es,ep,ho,r⟩:=I1.hok a _ e;exact ⟨_,o,I1.freezeT e ho,qb,q o⟩
  ·exact ⟨H1,o,I1,e,q⟩
 obtain ⟨a0,hz,O,xs,a2,o2,es,ep,Z,a1,J,hes,hnd⟩:=I2.hok a _ ha;rw [a0] at Z;cases Z
 refine qdv O ⟨o,a0,a1,J⟩ ?_;refine ⟨s1.heap.objs.size,[s1.heap.objs.size],_,_,H2,zr,I2.kept (t':=s1.toks) λ b o e=>z0o _ e,qqk a _ o es ep kvs a1 J,⟨_,z1c _ rfl,zr,zr⟩,λ b hb=> ?_,q2⟩;have e:b=s1.heap.objs.size:=by simpa using hb
 subst e;exact I2.fpOk (z48 _) (I2.hok.fresh (z48 _))
end
def qsw {a:Addr} {o:Obj} {kvs:List (List Key×V)} {g:TG} {tb:TS} {D:Ends} {σ:St} {H:Hp} (Pv:Nat ->St ->Hp ->Prop) (h0:Pv 0 σ H) (hl:∀ i σ H,i<=kvs.length ->Pv i σ H ->H a=some (.frz o (.dT kvs)))
  (hs:∀ i J b σ H,kvs[i]? =some J ->H b=some (.tup (J.1.map kV)) ->Pv i σ H ->g (.ref b) σ H λ σ2 H2=>tb {D with nx:=Pv (i+1),ct:=Pv (i+1),bk:=D.nx} σ2 H2) (he:∀ σ H,Pv kvs.length σ H ->D.nx σ H):
  ∃ W:Nat ->Nat ->St ->Hp ->Prop,(∃ m,W 0 m σ H)/\∀ i m σ H,W i m σ H ->((ItdT a o kvs).stop i H/\D.nx σ H)\/ ((ItdT a o kvs).go i H/\∃ N:St ->Hp ->Prop,(∀ σ' H',N σ' H' ->∃ O,O < m/\W (i+1) O σ' H')/\∀ x H',(ItdT a o kvs).yld i H x H' ->g x σ H' λ σ2 H2=>tb {D with nx:=N,ct:=N,bk:=D.nx} σ2 H2):=by
 refine qsc kvs.length Pv h0 (λ i σ H hi p=>⟨hl i σ H (z3y hi) p,hi⟩) (λ σ H p=>⟨⟨hl _ σ H (z48 _) p,z48 _⟩,he σ H p⟩) λ i σ H hi p x H' y=> ?_;obtain ⟨rfl,J,b,hk,rfl,hb⟩:=y;exact hs i J b σ H' hk hb p
end L2
namespace L2
open PySem PySem.Spec PyProof.Rows
section
variable {X:Cx}
def q117 (K:xA):R2:=λ x y H Q=>∃ a b k1 k2,x= .ref a/\y= .ref b/\Rd H a (.dK k1)/\Rd H b (.dK k2)/\Paired (DatP K H) k1 k2/\Q (.bl true) H
def qva (hu:X.A.units+64 < cLine) (K:xA) (hK:X.K=K:=by rfl):OpR X (compareOp .Eq) (q117 K):=by
  subst hK;intro xC s σ H x y v u Q I rx ry h;obtain ⟨a,b,k1,k2,rfl,rfl,ra,rb,hp,q⟩:=h;cases rx
  cases ry
  obtain ⟨hz1,c8,v1,b3,o1,e1,p1,O,a4,b6,c5,a8,d3⟩:=ra.ok I.hok;obtain ⟨hz2,c9,v2,b4,o2,e2,p2,a2,a9,b7,c6,Z,a7⟩:=rb.ok I.hok;have l0:k1.length=k2.length:=Paired.length hp;have l1:k1.length=v1.length:=Paired.length b3;have l2:k2.length=v2.length:=Paired.length b4;have l3:=a8.length;have l4:=Z.length;rw [z19] at l3 l4;show wpAny _ _ (richCompare .Eq (.ref a) (.ref b)) _ _ s;refine wpAny_richCompare_same_room (T:="dict") ⟨o1,O,a4.1⟩ ⟨o2,a2,a9.1⟩ PySem.F.slot_dict_eq (z2o PySem.F.slot_dict_eq ⟨o1,O,a4.1⟩ PySem.F.entry_dict_eq ?_ (PySem.F.args_dict_eq_2 _ _)) (by lia);unfold Builtin.«dict.__eq__»;have T1:s.TypeIs (.ref a) "dict":=⟨o1,O,a4.1⟩;have T2:s.TypeIs (.ref b) "dict":=⟨o2,a2,a9.1⟩;have same:∀ nm (Q2:Bool ->Shared ->Prop) (E2:xB),Q2 true s ->wpAny (model X.prog X.w) X.A.in1 (Builtin.Dict.samePairs nm a b) Q2 E2 s:=λ nm Q2 E2 q2=>by
    refine qym c8 c9 O b6 a2 b7 c6 (by lia) (λ i e he=> ?_) q2;have b8:e1.toList[i]? =some e:=by simpa using he
    obtain ⟨kv,c7,i1,i2⟩:=qbk a8 b8;obtain ⟨pv,d0,pe,pr⟩:=qsn b3 c7;obtain ⟨qv,d2,qe,d,a1,a5,dz⟩:=qyn hp d0;obtain ⟨qw,a3,we,wr⟩:=q111 b4 d2;obtain ⟨f,hf⟩:=qsm Z a3;obtain ⟨qw2,a0,j1,j2⟩:=qbk Z hf;rw [a3] at a0;cases a0
    have ek:kv.1=qw.1:=by rw [<- pe,qe,we]
    obtain ⟨k',c4,b9⟩:=c5 e (Array.mem_of_getElem? he);have b5:k'=kv.1:=(q17 X.prog X.w).inj _ _ _ c4 i1;have J:e2[i]? =some f:=by simpa using hf
    have a6:i < e2.size:=(Array.getElem?_eq_some_iff.mp J).1;refine ⟨kv.1,i,f,i1,by rw [b9,b5],?_,J,?_⟩
    · rw [Array.findIdx?_eq_some_iff_getElem]
      refine ⟨a6,?_,λ j hj=> ?_⟩
      · have:e2[i]=f:=by
          have:=z0b a6;rw [this] at J;exact Option.some.inj J
        rw [this,ek];exact j1
      · intro z
        have c0:j < e2.size:=by lia
        obtain ⟨qj,d1,z1,_⟩:=qbk Z (i:=j) (e:=e2[j]) (by simp [c0]);have ej:kv.1=qj.1:=(q17 X.prog X.w).inj _ _ _ z z1;have m1:(v2.map (·.1))[j]? =some qw.1:=by rw [z22,d1];show some qj.1=_;rw [<- ej,ek]
        have m2:(v2.map (·.1))[i]? =some qw.1:=by rw [z22,a3];rfl
        obtain ⟨b1,c1⟩:=z07.mp m1;obtain ⟨b2,c2⟩:=z07.mp m2;have:=(z08.mp a7) j i b1 b2 hj;exact this (c1.trans c2.symm)
    · rw [i2,j2]
      obtain ⟨as,r1⟩:=Dat.reads I _ _ _ a1 pr;obtain ⟨bs,r2⟩:=Dat.reads I _ _ _ a5 wr;have hq:=SeqAt.eqAt_reads d d X.A.in1 s _ _ as bs r1 r2 (Dat.lay _ _ a1) (Dat.lay _ _ a5) (by
        have:X.A.in1.units=X.A.units+1:=rfl;rw [this];have:min d.depth d.depth<=d.depth:=Nat.min_le_left _ _
        lia)
      rw [SeqAt.eqv_refl _ (Dat.lay _ _ a1)] at hq;exact hq
  refine z4f (m:=Builtin.Dict.dictSlotArgs "__eq__" ⟨[.ref a,.ref b],[]⟩) ?_;unfold Builtin.Dict.dictSlotArgs;refine z4f (wpAny_notOrdered_dict T1 ?_);refine z4e ?_;refine z4f (wpAny_isInstance T2 isSubtype_dict_dict ?_);rw [if_neg (by decide)];refine z4f (m:=Builtin.Dict.addrOf (Value.ref a)) (z4e ?_);refine z4f (m:=Builtin.Dict.addrOf (Value.ref b)) (z4e ?_);refine z4f (same _ _ _ ?_);exact z4e ⟨_,rfl,(λ z=>nomatch z),q1b I q rfl⟩
end
section
variable {prog:Program} {w:World} {A:Around} {E:xB} {s:Shared}
end
section
variable {X:Cx}
end
section
variable {X:Cx}
end
section
variable {prog:Program} {w:World} {A:Around} {E:xB} {s:Shared}
end
section
variable {X:Cx} {xC:xG} {σ:St} {H:Hp} {s:Shared} {h':Heap}
end
section
variable {prog:Program} {w:World} {A:Around} {E:xB} {s:Shared}
end
section
variable {X:Cx} {elts:List Expr} {pt:Pos}
end
section
variable {X:Cx}
end
theorem MDef.imp {P:Program} {w:World} {K:xA} {mg:xE} {base:Heap} {k:Nat} {C:Addr} {m:Str} {ps:xD} {sp J:Sp} (D:MDef P w K mg base k C m ps sp) (h:∀ vs H Q E,J vs H Q E ->sp vs H Q E):MDef P w K mg base k C m ps J:=by
 obtain ⟨f,fd,F,hm,hb⟩:=D.ex;exact ⟨f,fd,F.imp h,hm,hb⟩
theorem MDef.mono {P:Program} {w:World} {K:xA} {mg:xE} {base:Heap} {j k:Nat} {C:Addr} {m:Str} {ps:xD} {sp:Sp} (D:MDef P w K mg base j C m ps sp) (h:j<=k):MDef P w K mg base k C m ps sp:=by
 obtain ⟨f,fd,F,hm,hb⟩:=D.ex;exact ⟨f,fd,F.mono h,hm,hb⟩
def qsx {ι:Type} (cls:ι ->Addr) (m:Str) (sp:ι ->Sp) (ta:TE) (t:TA):TE:=λ σ H Q=>ta σ H λ x H1=>∃ i a dx fs,x= .ref a/\H1 a=some (.ins (cls i) dx fs)/\fs.lookup m=none/\
 t σ H1 λ vs H2=>sp i (x::vs) H2 Q E0
section
variable {X:Cx} {k k':Nat} {ι:Type} {cls:ι ->Addr} {ps:xD} {sp:ι ->Sp} {x m:Str} {p pos apos:Pos} {e o:Expr} {es:List Expr} {ta:TE} {t:TA}
def q4a {pl:Sem Bool} (D:∀ i,MDef X.prog X.w X.K X.mg X.base k (cls i) m ps (sp i)) (c:∀ i,Cls X.K (cls i)) (hr:Room k' X.A) (he:PE X o ta) (ha:PA X (e::es) t) (J:k<=k':=by decide)
  (Z:starEach (e::es) X.env=(false,eval e X.env)::starEach es X.env:=by rfl) (O:(backTo pos (starEach es X.env)).any (·.1)=false:=by rfl)
  (ht:eval (.Call (.Attribute o m apos) (e::es) [] pos) X.env=(do
   let ov <- eval o X.env
   standAt apos.atName
   let (f,first) <- holding [ov] (getMethod ov m pl)
   callWith pos f first (backTo pos (starEach (e::es) X.env)) (backToKw pos (keywordEach [] X.env))):=by rfl):
  PE X (.Call (.Attribute o m apos) (e::es) [] pos) (qsx cls m sp ta t):=by
 intro xC s σ H Q I h;refine PySem.W.methodCall_KW (pl:=pl) (thn (he xC s σ H _ I h) λ u s1 a0=> ?_) ht;obtain ⟨x,H1,I1,rx,i,a,dx,fs,ex,ea,l,q⟩:=a0;obtain ⟨f,fd,F,hm,hb⟩:=(D i).ex;subst ex;obtain rfl:u=Value.ref a:=rx;refine q9w I1 ea (c i) hm l ?_;refine PySem.W.callWith_K (first:=[.ref a]) (h₀:=X.base) I.ok.mod.kin hm.kp (thn (ha pos xC s1 σ H1 _ I1 q) λ us s2 ⟨vs,H2,I2,r,q2⟩=>⟨I2.kIn,?_⟩) Z O;exact qf2 (us:= .ref a::us) (vs:= .ref a::vs) F (hr.mono J) hb .nil qcn I2 (.cons rfl r) (by rw [z31];exact q2)
def q5g {pl:Sem Bool} (D:∀ i,MDef X.prog X.w X.K X.mg X.base k (cls i) m ps (sp i)) (c:∀ i,Cls X.K (cls i)) (hr:Room k' X.A) (he:PE X o ta) (J:k<=k':=by decide)
  (ht:eval (.Call (.Attribute o m apos) [] [] pos) X.env=(do
   let ov <- eval o X.env
   standAt apos.atName
   let (f,first) <- holding [ov] (getMethod ov m pl)
   callWith pos f first (backTo pos (starEach [] X.env)) (backToKw pos (keywordEach [] X.env))):=by rfl):
  PE X (.Call (.Attribute o m apos) [] [] pos) (qsx cls m sp ta tNil):=by
 intro xC s σ H Q I h;refine PySem.W.methodCall_KW (pl:=pl) (thn (he xC s σ H _ I h) λ u s1 O=> ?_) ht;obtain ⟨x,H1,I1,rx,i,a,dx,fs,ex,ea,l,q⟩:=O;obtain ⟨f,fd,F,Z,hb⟩:=(D i).ex;subst ex;obtain rfl:u=Value.ref a:=rx;refine q9w I1 ea (c i) Z l ?_;exact PySem.W.callWith_K0 (first:=[.ref a]) I1.kIn Z.kp (qf2 (us:=[.ref a]) (vs:=[.ref a]) F (hr.mono J) hb .nil qcn I1 (.cons rfl .nil) q)
end
section
open PySem.AutoSeq1
end
section
variable {X:Cx}
end
section
variable {prog:Program} {w:World} {A:Around} {E:xB} {s:Shared}
end
section
variable {X:Cx} {elts:List Expr} {pt:Pos}
end
section
variable {X:Cx}
end
end L2
namespace L2
open PySem PySem.Spec PyProof.Rows PySem.W
section
variable {prog:Program} {w:World} {A:Around} {E:xB} {s:Shared}
end
section
variable {X:Cx}
section
variable {xC:xG} {σ:St} {H:Hp} {s:Shared} {a kS:Addr} {vs ks:xH} {rk:Value ->Int} {e e1:Nat} {P:PySem.Fin ->Shared ->Prop} {E:xB} {A:Around}
end
end
section
variable {X:Cx} {k k':Nat} {x p1:Str} {sp:Sp} {e:Expr} {t:TA} {p pos kpos xp:Pos}
end
end L2
namespace L2
open PySem PySem.Spec PyProof.Rows
section
variable {X:Cx}
end
section
variable {prog:Program} {w:World} {A:Around} {E:xB} {s:Shared}
end
section
variable {X:Cx} {elts:List Expr} {pt:Pos}
end
section
variable {prog:Program} {w:World} {A:Around} {E:xB} {s:Shared}
end
section
variable {X:Cx} {elts:List Expr} {pt:Pos}
end
section
variable {X:Cx} {k k':Nat} {C:Addr} {ps:xD} {sp:Sp} {x:Str} {p pos:Pos} {e:Expr} {es:List Expr} {t:TA}
end
end L2
namespace PySem
section
variable {prog:Program} {w:World} {K:Type} [DecidableEq K] {knd:HeapKind prog w K} {A:Around} {E:xB} {s:Shared} {d a:Addr} {k:K} {xs:List (K×Addr×Value)}
end
end PySem
namespace L2
open PySem PySem.Spec PyProof.Rows
section
variable {X:Cx} {xC:xG} {σ:St} {H:Hp} {s:Shared} {a b:Addr} {kvs:List (List Key×V)} {k:List Key} {z:V} {r:Value} {A:Around} {E:xB}
end
section
variable {X:Cx} {o e f:Expr} {apos cpos:Pos} {td ty tx:TE}
end
end L2
namespace L2
open PySem PySem.Spec PyProof.Rows PySem.W
section
variable {X:Cx} {tg:Expr}
def q131 {st:Stmt}:PS X st (λ _ _ _=>False):=λ _ _ _ _ _ _ h=>h.elim
def q132 (_ j:Int):Prop:=0 < j/\j.natAbs.log2 < 9000
def qvb:OpR X (binaryOp .FloorDiv) (rI q132 λ i j=> .int (i / j)):=opI λ i j _ _ _ _ _ J q=>by
 have h1:(0:Int) < j:=J.1;exact floordiv_int (by lia) (by rw [Int.fdiv_eq_ediv_of_nonneg i (by lia)];exact q) (.inl (PyProof.noPylong_of_log2 J.2))
def Itr3 (lo c:Int) (n:Nat):It:=⟨λ i _=>i < n,λ i H x H'=>H'=H/\x= .int (lo+i*c),λ i _=>n<=i⟩
def qny {P:Program} {w:World} {K:xA} {tg:Expr} (it:Addr) (lo c:Int) (n:Nat):Turn P w K tg (Itr3 lo c n) [it] it (λ i h=>IsRangeIter h it (lo+(i:Nat)*c) ((n:Int) - (i:Nat)) c) where
 mem:=by simp
 obj:=λ i h st b J=>by
  have e:b=it:=by simpa using J
  subst e;exact ⟨_,st,λ v z=>by
   have z':Data.fields _=Data.cell v:=z;cases z'⟩
 keep:=λ i h h' st k=>k it (by simp) _ st
 item:=by
  intro X hP hw hK hc i xC s σ H E I hf st hg;subst hP hw hK;obtain ⟨Z,f1,f2,f3,f4,f5⟩:=hf it (by simp);have W:=Walks.range (prog:=X.prog) (w:=X.w) (I.ok.hd hc) it lo c n;refine W.item i s _ _ hg st λ v h' tk hv O kk=> ?_;obtain ⟨t,rfl⟩:=hv;have I1:Inv X xC σ H {s with heap:=h',toks:=tk}:=I.turned (λ b o J e=>kk b o (by simpa using J) e) Z f1 f3 f4 f5;exact ⟨_,rfl,qcl (s:={s with heap:=h',toks:=tk}) (n:="range_iterator") O rfl rfl (by decide) ⟨.int (lo+i*c),H,I1,⟨t,rfl⟩,⟨rfl,rfl⟩,O,λ b J=>(hf b J).1⟩⟩
 done:=by
  intro X hP hw hK hc i xC s σ H E I hf st hg;subst hP hw hK;obtain ⟨Z,f1,f2,f3,f4,f5⟩:=hf it (by simp);exact wpAny_pyNext_range_end (I.ok.hd hc) st (by have:n<=i:=hg;lia) λ h' eb=>⟨rfl,I.turned (t':=s.toks) (λ b o J e=>eb b o J e) Z f1 f3 f4 f5⟩
 self:=λ _ _ _ _ _ st h=>wpAny_pyIter_rangeiter st h
def cnt3 (lo hi c:Int):Nat:=(Builtin.Range.rangeSize lo hi c).toNat
def qsy {xC:xG} {σ:St} {H:Hp} {s:Shared} {R:It ->Hp ->Prop} {E:xB} {lo hi c:Int} {t u v:Tok} {tk:Nat} (I:Inv X xC σ H s) (J:Builtin.Range.small lo hi c=true) (h0:0<=Builtin.Range.rangeSize lo hi c)
  (q:R (Itr3 lo c (cnt3 lo hi c)) H):wpAny (model X.prog X.w) X.A (pyIter (.ref s.heap.objs.size)) (PIE X xC σ tg R) E {s with heap:=s.heap.push {cls:= .type "range",data:= .fields #[.int lo t,.int hi u,.int c v]},toks:=tk}:=by
 refine wpAny_pyIter_range (IsRange.new ..) J ?_;have I1:Inv X xC σ H {s with heap:=s.heap.push {cls:= .type "range",data:= .fields #[.int lo t,.int hi u,.int c v]},toks:=tk}:=I.kept λ b o e=>z0o _ e;refine ⟨(s.heap.push {cls:= .type "range",data:= .fields #[.int lo t,.int hi u,.int c v]}).objs.size,[(s.heap.push {cls:= .type "range",data:= .fields #[.int lo t,.int hi u,.int c v]}).objs.size],_,_,H,zr,
  I1.kept (t':=tk) λ b o e=>z0o _ e,qny _ lo c (cnt3 lo hi c),?_,λ b hb=> ?_,q⟩
 ·have e1:lo+((0:Nat):Int)*c=lo:=by simp
  have e2:((cnt3 lo hi c:Nat):Int) - ((0:Nat):Int)=Builtin.Range.rangeSize lo hi c:=by unfold cnt3;lia
  show IsRangeIter _ _ (lo+((0:Nat):Int)*c) (((cnt3 lo hi c:Nat):Int) - ((0:Nat):Int)) c;rw [e1,e2];exact z1c _ rfl
 ·have e:b=(s.heap.push {cls:= .type "range",data:= .fields #[.int lo t,.int hi u,.int c v]}).objs.size:=by simpa using hb
  subst e;exact I1.fpOk (z48 _) (I1.hok.fresh (z48 _))
def q133 (ta:TA):TI:=λ σ H R=>ta σ H λ vs H1=>∃ i j c:Int,vs=[.int i,.int j,.int c]/\(0 < c/\c < 1073741824)/\Builtin.Range.small i j c=true/\0<=Builtin.Range.rangeSize i j c/\R (Itr3 i c (cnt3 i j c)) H1
def qsz {a b c:Expr} {ta:TA} {p pos:Pos} (hg:Gl X "range") (hm:X.mg "range"=none) (ha:PA X [a,b,c] ta) (hs:starEach [a,b,c] X.env=[(false,eval a X.env),(false,eval b X.env),(false,eval c X.env)]:=by rfl) (J:starEach [b,c] X.env=[(false,eval b X.env),(false,eval c X.env)]:=by rfl):
  PI X tg (.Call (.Name "range" p) [a,b,c] [] pos) (q133 ta):=by
 intro xC s σ H R I h;refine Call_ (qbb I hg hm boot_range (z03 (thn (ha pos xC s σ H _ I h) λ us s1 a0=> ?_) (by rw [hs,J]) (by rw [J];rfl)));obtain ⟨vs,H1,I1,r1,q1⟩:=a0;obtain ⟨i,j,k,e,⟨q1,q2⟩,q3,q4,q⟩:=q1;subst e;cases r1 with
 | cons r O=>
  cases O with
  | cons r' O=>
   cases O with
   | cons Z O=>
    cases O
    obtain ⟨t,rfl⟩:=r;obtain ⟨t',rfl⟩:=r';obtain ⟨t'',rfl⟩:=Z;exact call_range_3 (by lia) (qsy I1 q3 q4 q) (.inl (PyProof.noPylong_small (by lia)))
def qql {lo c:Int} {n:Nat} {g:TG} {tb:TS} {D:Ends} {σ:St} {H:Hp} (Pv:Nat ->St ->Hp ->Prop) (h0:Pv 0 σ H)
  (hs:∀ i σ H,i < n ->Pv i σ H ->g (.int (lo+i*c)) σ H λ σ2 H2=>tb {D with nx:=Pv (i+1),ct:=Pv (i+1),bk:=D.nx} σ2 H2) (hd:∀ σ H,Pv n σ H ->D.nx σ H):
  ∃ W:Nat ->Nat ->St ->Hp ->Prop,(∃ m,W 0 m σ H)/\∀ i m σ H,W i m σ H ->
   ((Itr3 lo c n).stop i H/\D.nx σ H)\/ ((Itr3 lo c n).go i H/\∃ N:St ->Hp ->Prop,(∀ σ' H',N σ' H' ->∃ O,O < m/\W (i+1) O σ' H')/\∀ x H',(Itr3 lo c n).yld i H x H' ->g x σ H' λ σ2 H2=>tb {D with nx:=N,ct:=N,bk:=D.nx} σ2 H2):=by
 refine ⟨λ i m σ H=>m=n - i/\i<=n/\Pv i σ H,⟨n,by simp,z4b _,h0⟩,?_⟩;rintro i m σ H ⟨rfl,hi,p⟩;by_cases J:i < n
 ·refine .inr ⟨J,Pv (i+1),λ σ' H' p'=>⟨n - (i+1),by lia,zr,J,p'⟩,λ x H' y=> ?_⟩;obtain ⟨e,y⟩:=y;subst e y;exact hs i σ _ J p
 ·have e:i=n:=by lia
  subst e;exact .inl ⟨z48 _,hd σ H p⟩
end
end L2
open PySem PySem.W PyProof.Rows
namespace L2
def us0 {p:List Value ->Prop} (h:p []):∀ us:List Value,us.length=0 ->p us:=λ _ e=>(z0k.mp e).symm ▸ h
def us1 {p:List Value ->Prop} (h:∀ a:Value,p [a]):∀ us:List Value,us.length=1 ->p us
 | [],e=>absurd e (by decide)
 | a::t,e=>us0 (p:=λ us=>p (a::us)) (h a) t (Nat.succ.inj e)
def us2 {p:List Value ->Prop} (h:∀ a b:Value,p [a,b]):∀ us:List Value,us.length=2 ->p us
 | [],e=>absurd e (by decide)
 | a::t,e=>us1 (p:=λ us=>p (a::us)) (h a) t (Nat.succ.inj e)
def us3 {p:List Value ->Prop} (h:∀ a b c:Value,p [a,b,c]):∀ us:List Value,us.length=3 ->p us
 | [],e=>absurd e (by decide)
 | a::t,e=>us2 (p:=λ us=>p (a::us)) (h a) t (Nat.succ.inj e)
def us4 {p:List Value ->Prop} (h:∀ a b c d:Value,p [a,b,c,d]):∀ us:List Value,us.length=4 ->p us
 | [],e=>absurd e (by decide)
 | a::t,e=>us3 (p:=λ us=>p (a::us)) (h a) t (Nat.succ.inj e)
def us5 {p:List Value ->Prop} (h:∀ a b c d e:Value,p [a,b,c,d,e]):∀ us:List Value,us.length=5 ->p us
 | [],e=>absurd e (by decide)
 | a::t,e=>us4 (p:=λ us=>p (a::us)) (h a) t (Nat.succ.inj e)
structure FiK (K:xA) (x:Str) (st:Stmt):Prop where
 ex:∃ (f:Addr) (oc:Value) (od an:Option Addr) (osl:Array (Option Value)) (kV doc pm cdv ct:Value),PySem.W.nsIn K mainGlobals x=some (some (.ref f))/\
  K.lookup f=some ⟨oc,od,.func (PySem.W.fnOf x x (q1s st) (q1e st) (qc st) .none kV doc pm an cdv ct),osl⟩/\PySem.W.codeIn K cdv x=true/\PySem.W.keepIn K (.ref f)=true
def fiK {K:xA} {x:Str} {st:Stmt} {f:Addr} {oc:Value} {od Z:Option Addr} {O:Array (Option Value)} {kV J pm cdv ct:Value} (a:PySem.W.nsIn K mainGlobals x=some (some (.ref f)))
  (l:K.lookup f=some ⟨oc,od,.func (PySem.W.fnOf x x (q1s st) (q1e st) (qc st) .none kV J pm Z cdv ct),O⟩) (c:PySem.W.codeIn K cdv x=true) (k:PySem.W.keepIn K (.ref f)=true):FiK K x st:=
 ⟨f,oc,od,Z,O,kV,J,pm,cdv,ct,a,l,c,k⟩
def FiK.top {K:xA} {h:Heap} {mg:xE} {x:Str} {st:Stmt} {ps:xD} (F:FiK K x st) (X:K.In h) (G:h.Ns mainGlobals mg)
  (b:∀ (kV J Z:Value) (O:Option Addr) (cdv ct:Value) (us:xH),us.length=ps.length ->bindArgs (PySem.W.fnOf x x (q1s st) (q1e st) (qc st) .none kV J Z O cdv ct) ⟨us,[]⟩=pure (ps.zip us)):Top K mg x st ps:=by
 obtain ⟨f,oc,od,O,osl,kV,J,Z,cdv,ct,a,l,c,k⟩:=F.ex;exact q10s X G b a l c k
structure MiK (K:xA) (x m qual:Str) (st:Stmt):Prop where
 ex:∃ (C f:Addr) (oc:Value) (od an:Option Addr) (osl:Array (Option Value)) (kV doc pm cdv ct:Value),PySem.W.nsIn K mainGlobals x=some (some (.ref C))/\PySem.W.findIn K (.ref C) m=some (some (.ref f))/\PySem.W.isFn K (.ref f)=true/\
  K.lookup f=some ⟨oc,od,.func (PySem.W.fnOf m qual (q1s st) (q1e st) (qc st) .none kV doc pm an cdv ct),osl⟩/\PySem.W.codeIn K cdv qual=true/\PySem.W.keepIn K (.ref f)=true
def miK {K:xA} {x m qual:Str} {st:Stmt} {C f:Addr} {oc:Value} {od Z:Option Addr} {O:Array (Option Value)} {kV J pm cdv ct:Value} (n:PySem.W.nsIn K mainGlobals x=some (some (.ref C)))
  (a:PySem.W.findIn K (.ref C) m=some (some (.ref f))) (i:PySem.W.isFn K (.ref f)=true)
  (l:K.lookup f=some ⟨oc,od,.func (PySem.W.fnOf m qual (q1s st) (q1e st) (qc st) .none kV J pm Z cdv ct),O⟩) (c:PySem.W.codeIn K cdv qual=true) (k:PySem.W.keepIn K (.ref f)=true):MiK K x m qual st:=
 ⟨C,f,oc,od,Z,O,kV,J,pm,cdv,ct,n,a,i,l,c,k⟩
def MiK.top {K:xA} {h:Heap} {mg:xE} {x m qual:Str} {st:Stmt} {ps:xD} (F:MiK K x m qual st) (X:K.In h) (G:h.Ns mainGlobals mg)
  (b:∀ (kV J Z:Value) (O:Option Addr) (cdv ct:Value) (us:xH),us.length=ps.length ->bindArgs (PySem.W.fnOf m qual (q1s st) (q1e st) (qc st) .none kV J Z O cdv ct) ⟨us,[]⟩=pure (ps.zip us)):MTop K (cA mg x) m qual st ps:=by
 obtain ⟨C,f,oc,od,O,osl,kV,J,Z,cdv,ct,n,a,i,l,c,k⟩:=F.ex;rw [q8z (z3r X G n)];exact qyo b a i l c k
structure CiK (K:xA) (x:Str):Prop where
 ex:∃ C:Addr,PySem.W.nsIn K mainGlobals x=some (some (.ref C))/\PySem.W.plainGet K C Str.empty=true/\PySem.W.hasDictIn K C=true/\PySem.W.plainOver K C=true/\
  PySem.W.findIn K (.ref C) "__setattr__"=some (some (.builtin "object.__setattr__"))/\PySem.W.makesIn K C=true/\PySem.W.keepIn K (.ref C)=true
def ciK {K:xA} {x:Str} {C:Addr} (n:PySem.W.nsIn K mainGlobals x=some (some (.ref C))) (pg:PySem.W.plainGet K C Str.empty=true) (hd:PySem.W.hasDictIn K C=true) (po:PySem.W.plainOver K C=true)
  (sa:PySem.W.findIn K (.ref C) "__setattr__"=some (some (.builtin "object.__setattr__"))) (mk:PySem.W.makesIn K C=true) (kc:PySem.W.keepIn K (.ref C)=true):CiK K x:=⟨C,n,pg,hd,po,sa,mk,kc⟩
section
variable {K:xA} {h:Heap} {mg:xE} {x a:Str} {v:Option (Option Value)}
def CiK.g (F:CiK K x) (X:K.In h) (G:h.Ns mainGlobals mg):mg x=some (.ref (cA mg x)):=by
 obtain ⟨C,n,_⟩:=F.ex;rw [q8z (z3r X G n)];exact z3r X G n
def CiK.cl (F:CiK K x) (X:K.In h) (G:h.Ns mainGlobals mg):Cls K (cA mg x):=by
 obtain ⟨C,n,pg,hd,po,sa,_⟩:=F.ex;rw [q8z (z3r X G n)];exact ⟨pg,hd,po,sa⟩
def CiK.mk' (F:CiK K x) (X:K.In h) (G:h.Ns mainGlobals mg):PySem.W.makesIn K (cA mg x)=true:=by
 obtain ⟨C,n,_,_,_,_,mk,_⟩:=F.ex;rw [q8z (z3r X G n)];exact mk
def CiK.kp (F:CiK K x) (X:K.In h) (G:h.Ns mainGlobals mg):PySem.W.keepIn K (.ref (cA mg x))=true:=by
 obtain ⟨C,n,_,_,_,_,_,kc⟩:=F.ex;rw [q8z (z3r X G n)];exact kc
structure AiK (K:xA) (x a:Str) (v:Option (Option Value)):Prop where
 ex:∃ C:Addr,PySem.W.nsIn K mainGlobals x=some (some (.ref C))/\PySem.W.findIn K (.ref C) a=v
def aiK {C:Addr} (n:PySem.W.nsIn K mainGlobals x=some (some (.ref C))) (f:PySem.W.findIn K (.ref C) a=v):AiK K x a v:=⟨C,n,f⟩
def AiK.at' (F:AiK K x a v) (X:K.In h) (G:h.Ns mainGlobals mg):PySem.W.findIn K (.ref (cA mg x)) a=v:=by
 obtain ⟨C,n,f⟩:=F.ex;rw [q8z (z3r X G n)];exact f
end
end L2
namespace L2
open PySem PySem.Spec PyProof.Rows PySem.Builtin.Str
section
variable {X:Cx}
variable {v1 v2 v3 e:Expr} {t1 t2 t3 te:TE} {pos:Pos}
end
end L2
namespace L2
open PySem PySem.Spec PyProof.Rows PySem.Builtin.Str PySem.StrLaws PySem.NumText
end L2
namespace L2
open PySem PySem.Spec PyProof.Rows PySem.W Builtin
section
variable {X:Cx}
end
section
variable {prog:Program} {w:World} {A:Around} {E:xB}
end
section
variable {X:Cx}
end
end L2
namespace L2
open PySem PySem.Spec PyProof.Rows
section
variable {prog:Program} {w:World} {A:Around} {R:Result ->Shared ->Prop} {I:Addr} {fp wr:List Addr} {n:Nat} {P:Nat ->Value ->Prop} {St:Nat ->Heap ->Prop}
end
section
variable {X:Cx} {e d:Expr} {t tk:TA} {p pos kpos:Pos}
end
section
variable {X:Cx}
end
end L2
namespace L2
open PySem PySem.Spec PyProof.Rows PySem.W
namespace Tab
end Tab
end L2
namespace L2
open PySem PySem.Spec PyProof.Rows PySem.W
namespace Tab
end Tab
end L2
namespace L2
open PySem PySem.Spec PyProof.Rows PySem.W
section
variable {P:Program} {w:World} {A:Around} {E:xB} {s:Shared}
end
section
variable {prog:Program} {w:World} {A:Around} {R:Result ->Shared ->Prop} {I:Addr} {fp wr:List Addr} {G:Array GenState ->Array GenState ->Prop} {n:Nat} {P:Nat ->Value ->Prop} {St:Nat ->Shared ->Prop}
end
section
variable {prog:Program} {w:World} {A:Around} {E:xB} {s:Shared}
end
section
variable {prog:Program} {w:World} {A:Around} {E:xB} {s:Shared} {a:Addr} {xs:List (Addr×List Str)}
end
section
variable {X:Cx} {xC:xG} {σ:St} {H:Hp} {s:Shared}
end
section
variable {X:Cx} {xC:xG} {σ:St} {H:Hp} {s:Shared}
end
end L2
namespace L2
open PySem PySem.Spec PyProof.Rows PySem.Builtin.Str PySem.StrLaws PySem.NumText
end L2
namespace Tim
open PySem PyProof.Rows
section
variable {M:Model} {A:Around} {E:xB} {s:Shared} {kd:SortKind} {S:Keyed ->Prop} {rk:Keyed ->Int} {n:Nat}
end
section
variable {prog:Program} {w:World} {A:Around} {E:xB} {s:Shared}
end
end Tim
namespace L2
open PySem PySem.Spec PyProof.Rows PySem.W
section
variable {prog:Program} {w:World} {A:Around} {E:xB} {s:Shared} {a:Addr}
end
section
variable {X:Cx} {xC:xG} {σ:St} {H:Hp} {s:Shared}
end
section
variable {prog:Program} {w:World} {A:Around} {E:xB} {s:Shared} {I:Addr} {fp:List Addr} {n:Nat} {P:Nat ->Value ->Prop} {St:Nat ->Heap ->Prop} {T:String}
end
section
variable {X:Cx} {e:Expr} {te:TE} {p1 p2 q1 q2:Pos}
end
section
variable {prog:Program} {w:World} {A:Around} {E:xB} {s:Shared}
end
section
variable {prog:Program} {w:World} {A:Around} {E:xB} {s:Shared} {I:Addr} {fp:List Addr} {n:Nat} {P:Nat ->Value ->Prop} {St:Nat ->Heap ->Prop} {T:String}
end
section
variable {X:Cx} {e:Expr} {te:TE} {p1 p2 q1 q2:Pos}
end
end L2
namespace L2
open PySem PySem.Spec PyProof.Rows
section
variable {X:Cx} {xC:xG} {σ:St} {H:Hp} {s:Shared} {a b:Addr} {kvs more:List (Key×V)} {A:Around} {E:xB}
end
section
variable {X:Cx} {o e:Expr} {apos cpos:Pos} {td ty:TE}
end
section
variable {X:Cx}
end
section
variable {P:Program} {w:World}
end
section
variable {P:Program} {w:World} {H:Hp} {h:Heap} {a:Addr}
end
section
variable {X:Cx} {xC:xG} {σ:St} {H:Hp} {s:Shared} {a b:Addr} {v d:V} {r:Value} {A:Around} {E:xB} {kvs:List (NK×V)} {k:NK}
end
section
variable {X:Cx} {P:Program} {w:World} {o i e f value:Expr} {pos pos' tpos apos cpos:Pos} {td ty tv tx:TE}
end
end L2
namespace L2
open PySem PySem.Spec PyProof.Rows PySem.W
section
variable {prog:Program} {w:World} {A:Around} {E:xB} {s:Shared}
end
section
variable {X:Cx} {P:Program} {w:World} {k k':Nat} {x p1:Str} {sp:Sp} {e:Expr} {t:TA} {p pos kpos xp:Pos}
end
end L2
namespace L2
open PySem PySem.Spec PyProof.Rows
section
variable {X:Cx}
end
section
variable {X:Cx}
end
section
variable {X:Cx}
end
def qxa (i j:Int):Prop:=(0<=i/\i < 2^1200)/\(0<=j/\j < 2^1200)
section
variable {X:Cx}
def qov:OpR X (binaryOp .Mult) (rI qxa λ i j=> .int (i*j)):=opI λ _ _ _ _ _ _ _ J q=>mul_int q (IntMulOk.of_bits (z41 (qcq J.1.1 J.1.2) (by decide)) (z41 (qcq J.2.1 J.2.2) (by decide)))
end
end L2
set_option maxHeartbeats 4000000
namespace Wy
open PySem L2
def top (i:Nat):Stmt:=PySem.Challenge.pw_whyrows_k32_whole_filled_and_reckoned.main.body.getD i (.Pass ⟨0,0,0,0⟩)
abbrev qa9:Stmt:=top 7
abbrev q4b:Stmt:=top 8
abbrev qbo:Stmt:=top 9
abbrev qbp:Stmt:=top 11
abbrev qaa:Stmt:=top 12
abbrev q77:Stmt:=top 13
abbrev qab:Stmt:=top 14
abbrev qgo:Stmt:=top 15
abbrev qac:Stmt:=top 17
abbrev q56:Stmt:=top 18
abbrev qe0:Stmt:=top 19
abbrev q89:Stmt:=top 21
abbrev q4c:Stmt:=top 22
abbrev qad:Stmt:=top 23
abbrev q43:Stmt:=top 26
abbrev q95:Stmt:=top 27
abbrev qae:Stmt:=top 28
abbrev q78:Stmt:=top 29
abbrev q57:Stmt:=top 30
abbrev q69:Stmt:=top 31
abbrev qbq:Stmt:=top 32
abbrev qe1:Stmt:=top 33
abbrev q5m:Stmt:=q12 (top 35) 0
abbrev q79:Stmt:=q12 (top 36) 0
abbrev q5n:Stmt:=q12 (top 36) 1
abbrev q7a:Stmt:=q12 (top 36) 2
abbrev q5o:Stmt:=q12 (top 36) 3
abbrev q7b:Stmt:=q12 (top 36) 4
abbrev q4t:Stmt:=q12 (top 36) 5
abbrev q8a:Stmt:=q12 (top 37) 0
abbrev q6a:Stmt:=q12 (top 37) 1
abbrev q8b:Stmt:=q12 (top 37) 2
abbrev q6b:Stmt:=q12 (top 37) 3
abbrev q8c:Stmt:=q12 (top 37) 4
abbrev q58:Stmt:=q12 (top 35) 0
abbrev q4d:Stmt:=q12 (top 38) 0
abbrev q4e:Stmt:=q12 (top 38) 1
abbrev q8d:Stmt:=q12 (top 38) 2
abbrev q6c:Stmt:=q12 (top 38) 3
abbrev q8e:Stmt:=q12 (top 38) 4
abbrev q6d:Stmt:=q12 (top 38) 5
abbrev q8f:Stmt:=q12 (top 38) 6
abbrev q59:Stmt:=q12 (top 38) 7
abbrev q3x:Stmt:=q12 (top 39) 0
abbrev q7c:Stmt:=q12 (top 39) 1
abbrev q5p:Stmt:=q12 (top 39) 2
abbrev q7d:Stmt:=q12 (top 39) 3
abbrev q5q:Stmt:=q12 (top 39) 4
abbrev q7e:Stmt:=q12 (top 39) 5
abbrev q4u:Stmt:=q12 (top 35) 0
abbrev q7f:Stmt:=q12 (top 40) 0
abbrev q5r:Stmt:=q12 (top 40) 1
abbrev q7g:Stmt:=q12 (top 40) 2
abbrev q5s:Stmt:=q12 (top 40) 3
abbrev q7h:Stmt:=q12 (top 40) 4
abbrev q4v:Stmt:=q12 (top 35) 0
abbrev q8g:Stmt:=q12 (top 41) 0
abbrev q6e:Stmt:=q12 (top 41) 1
abbrev q8h:Stmt:=q12 (top 41) 2
abbrev q6f:Stmt:=q12 (top 41) 3
abbrev q8i:Stmt:=q12 (top 41) 4
abbrev q5a:Stmt:=q12 (top 35) 0
abbrev q6g:Stmt:=top 43
abbrev qaf:Stmt:=top 44
abbrev q96:Stmt:=top 45
abbrev q8j:Stmt:=top 46
abbrev q7i:Stmt:=top 47
abbrev q7j:Stmt:=top 48
abbrev q7k:Stmt:=top 49
abbrev qbr:Stmt:=top 50
abbrev q8k:Stmt:=top 51
abbrev q4f:Stmt:=top 52
abbrev q8l:Stmt:=top 53
abbrev q5t:Stmt:=top 54
abbrev qqm:Stmt:=top 55
local macro_rules | `(tactic| k_updF)=>`(tactic| exact ⟨rfl,rfl,rfl,by decide+kernel,rfl,by decide+kernel,by decide+kernel⟩)
def qnz:FnScope ["thing"] ["thing"] (qc qa9):=by k_updF
def qb1:FnScope ["thing","first_signs"] ["thing","first_signs"] (qc q4b):=by k_updF
def qqn:FnScope ["thing"] ["thing"] (qc qbo):=by k_updF
def qqo:FnScope ["name"] ["name"] (qc qbp):=by k_updF
def qdf:FnScope ["ways_by_product","names","ways","product"] ["ways_by_product","names","ways"] (qc qaa):=by k_updF
def qgp:FnScope ["ways_by_product"] ["ways_by_product"] (qc q77):=by k_updF
def q6q:FnScope ["pairs","ways_by_product","names","ways"] ["pairs"] (qc qab):=by k_updF
def q6h:FnScope ["one","other","ways_by_product","names","ways","more_names","more_ways"] ["one","other"] (qc qgo):=by k_updF
def q4z:FnScope ["why","found","product","ways","name"] ["why"] (qc qac):=by k_updF
def q3e:FnScope ["product","ways","whys","so_far","name"] ["product","ways","whys"] (qc q56):=by k_updF
def q91:FnScope ["why","whys","pairs","product","ways"] ["why","whys"] (qc qe0):=by k_updF
def qaz:FnScope ["names","by","worths","name"] ["names","by","worths"] (qc q89):=by k_updF
def q2y:FnScope ["product","by","worths","worth","name"] ["product","by","worths"] (qc q4c):=by k_updF
def q50:FnScope ["why","by","worths","worth","product","ways"] ["why","by","worths"] (qc qad):=by k_updF
def qag:FnScope ["thing"] ["thing"] (qc q43):=by k_updF
def qlv:FnScope ["thing"] ["thing"] (qc q95):=by k_updF
def q6r:FnScope ["tree","words","node","word"] ["tree","words"] (qc qae):=by k_updF
def qgq:FnScope ["node","members"] ["node","members"] (qc q78):=by k_updF
def q3f:FnScope ["tree","words","members","nodes","node"] ["tree","words"] (qc q57):=by k_updF
def q35:FnScope ["sets","once","words","by_size"] ["sets"] (qc q69):=by k_updF
def q3q:FnScope ["sets","by_size","smaller","kept","size","least_here","words"] ["sets"] (qc qbq):=by k_updF
def qbs:FnScope ["one","other","together","words"] ["one","other"] (qc qe1):=by k_updF
def qgr:FnScope ["self","thing"] ["self","thing"] (qc q79):=by k_updF
def qe2:FnScope ["self"] ["self"] (qc q5n):=by k_updF
def qgs:FnScope ["self"] ["self"] (qc q7a):=by k_updF
def qe3:FnScope ["self","one","other"] ["self","one","other"] (qc q5o):=by k_updF
def qgt:FnScope ["self","one","other"] ["self","one","other"] (qc q7b):=by k_updF
def qbt:FnScope ["self","worth","many"] ["self","worth","many"] (qc q4t):=by k_updF
def qj7:FnScope ["self","thing"] ["self","thing"] (qc q8a):=by k_updF
def qfb:FnScope ["self"] ["self"] (qc q6a):=by k_updF
def qj8:FnScope ["self"] ["self"] (qc q8b):=by k_updF
def qfc:FnScope ["self","one","other"] ["self","one","other"] (qc q6b):=by k_updF
def qj9:FnScope ["self","one","other"] ["self","one","other"] (qc q8c):=by k_updF
def qcw:FnScope ["self","worth","many"] ["self","worth","many"] (qc q58):=by k_updF
def qja:FnScope ["self","many"] ["self","many"] (qc q4d):=by k_updF
def qb2:FnScope ["self","numbers"] ["self","numbers"] (qc q4e):=by k_updF
def qjb:FnScope ["self","thing"] ["self","thing"] (qc q8d):=by k_updF
def qfd:FnScope ["self"] ["self"] (qc q6c):=by k_updF
def qjc:FnScope ["self"] ["self"] (qc q8e):=by k_updF
def qfe:FnScope ["self","one","other"] ["self","one","other"] (qc q6d):=by k_updF
def q7l:FnScope ["self","one","other","sums","number"] ["self","one","other"] (qc q8f):=by k_updF
def qcx:FnScope ["self","worth","many"] ["self","worth","many"] (qc q59):=by k_updF
def qgu:FnScope ["self","top"] ["self","top"] (qc q3x):=by k_updF
def qgv:FnScope ["self","thing"] ["self","thing"] (qc q7c):=by k_updF
def qe4:FnScope ["self"] ["self"] (qc q5p):=by k_updF
def qgw:FnScope ["self"] ["self"] (qc q7d):=by k_updF
def qe5:FnScope ["self","one","other"] ["self","one","other"] (qc q5q):=by k_updF
def qgx:FnScope ["self","one","other"] ["self","one","other"] (qc q7e):=by k_updF
def qbu:FnScope ["self","worth","many"] ["self","worth","many"] (qc q4u):=by k_updF
def qgy:FnScope ["self","thing"] ["self","thing"] (qc q7f):=by k_updF
def qe6:FnScope ["self"] ["self"] (qc q5r):=by k_updF
def qgz:FnScope ["self"] ["self"] (qc q7g):=by k_updF
def qe7:FnScope ["self","one","other"] ["self","one","other"] (qc q5s):=by k_updF
def qh0:FnScope ["self","one","other"] ["self","one","other"] (qc q7h):=by k_updF
def qbv:FnScope ["self","worth","many"] ["self","worth","many"] (qc q4v):=by k_updF
def qjd:FnScope ["self","thing"] ["self","thing"] (qc q8g):=by k_updF
def qff:FnScope ["self"] ["self"] (qc q6e):=by k_updF
def qje:FnScope ["self"] ["self"] (qc q8h):=by k_updF
def qfg:FnScope ["self","one","other"] ["self","one","other"] (qc q6f):=by k_updF
def qjf:FnScope ["self","one","other"] ["self","one","other"] (qc q8i):=by k_updF
def qcy:FnScope ["self","worth","many"] ["self","worth","many"] (qc q5a):=by k_updF
def qfh:FnScope ["_law_script","_law_k"] ["_law_script","_law_k"] (qc q6g):=by k_updF
def q3c:FnScope ["_law_cell","_law_many","_law_rest","_law_found","_law_k","_law_one","_law_other"] ["_law_cell","_law_many"] (qc qaf):=by k_updF
def q2k:FnScope ["_law_x","_law_later","_law_rest","_law_word_here","_law_k"] ["_law_x"] (qc q96):=by k_updF
def q52:FnScope ["_law_cell","_law_many","_law_found","_law_x"] ["_law_cell","_law_many"] (qc q8j):=by k_updF
def q4s:FnScope ["_law_row_here","_law_words_here","_law_ways","_law_k","_law_product"] ["_law_row_here","_law_words_here"] (qc q7i):=by k_updF
def q9j:FnScope ["_law_one","_law_other","_law_word_here"] ["_law_one","_law_other"] (qc q7j):=by k_updF
def q3i:FnScope ["_law_row_here","_law_words_here","_law_kept","_law_x","_law_one"] ["_law_row_here","_law_words_here"] (qc q7k):=by k_updF
def qqp:FnScope ["_law_kind","_law_limit","_law_peak"] ["_law_kind","_law_limit","_law_peak"] (qc qbr):=by k_updF
def q53:FnScope ["_law_kind","_law_cell","_law_words_here","_law_limit","_law_peak","_law_row_here","_law_numbers"] ["_law_kind","_law_cell","_law_words_here","_law_limit","_law_peak"] (qc q8k):=by k_updF
def q44:FnScope ["_law_kind","_law_script","_law_words_here","_law_limit","_law_peak","_law_found","_law_k"] ["_law_kind","_law_script","_law_words_here","_law_limit","_law_peak"] (qc q4f):=by k_updF
def qjg:FnScope ["_law_found","_law_due"] ["_law_found","_law_due"] (qc q8l):=by k_updF
def q3r:FnScope ["_law_script","_law_words_here","_law_whys","_law_k","_law_row_here"] ["_law_script","_law_words_here"] (qc q5t):=by k_updF
def q36:FnScope ["_law_script","_law_way","_law_kind","_law_limit","_law_peak","_law_words_here","_law_why","_law_whys","_law_worths","_law_kept","_law_by_here","_law_inner","_law_name","_law_found"] ["_law_script"] (qc qqm):=by k_updF
structure Txt (K:xA) (mg:xE):Prop where
 b_abs:mg "abs"=none
 b_all:mg "all"=none
 b_any:mg "any"=none
 qg7:mg "bool"=none
 qn1:mg "dict"=none
 b_int:mg "int"=none
 q1t:mg "isinstance"=none
 b_len:mg "len"=none
 q8r:mg "list"=none
 b_max:mg "max"=none
 b_min:mg "min"=none
 q7z:mg "range"=none
 b_set:mg "set"=none
 q2e:mg "sorted"=none
 b_str:mg "str"=none
 q9t:mg "tuple"=none
 qg1:∃ t,mg "SMALL_LETTERS"=some (.str "abcdefghijklmnopqrstuvwxyz" t)
 qg3:∃ t,mg "FURTHER_SIGNS"=some (.str "abcdefghijklmnopqrstuvwxyz0123456789" t)
 qng:∃ t,mg "MOST_SIGNS"=some (.int 12 t)
 c_END:∃ t,mg "END"=some (.str "" t)
 qr8:Top K mg "is_whole" qa9 ["thing"]
 qcg:Top K mg "is_text_begun_by" q4b ["thing","first_signs"]
 qub:Top K mg "is_word" qbo ["thing"]
 qu8:Top K mg "of_fact" qbp ["name"]
 qrc:Top K mg "count_in" qaa ["ways_by_product","names","ways"]
 qk5:Top K mg "told_as_why" q77 ["ways_by_product"]
 qrb:Top K mg "gathered" qab ["pairs"]
 q106:Top K mg "times" qgo ["one","other"]
 qra:Top K mg "names_of" qac ["why"]
 qeq:Top K mg "product_filled" q56 ["product","ways","whys"]
 qwu:Top K mg "filled" qe0 ["why","whys"]
 qn4:Top K mg "ask_worths" q89 ["names","by","worths"]
 qch:Top K mg "product_reckoned" q4c ["product","by","worths"]
 qre:Top K mg "reckoned" qad ["why","by","worths"]
 qb5:Top K mg "is_tuple_of_words" q43 ["thing"]
 qo6:Top K mg "is_accord" q95 ["thing"]
 qrd:Top K mg "put_into" qae ["tree","words"]
 qk1:Top K mg "kids_within" q78 ["node","members"]
 qes:Top K mg "has_one_within" q57 ["tree","words"]
 qhu:Top K mg "once_by_size" q69 ["sets"]
 qu1:Top K mg "thinned" qbq ["sets"]
 qwt:Top K mg "agreed" qe1 ["one","other"]
 qhs:Top K mg "_law_cell_at" q6g ["_law_script","_law_k"]
 qrf:Top K mg "_law_row" qaf ["_law_cell","_law_many"]
 qo5:Top K mg "_law_word" q96 ["_law_x"]
 qnc:Top K mg "_law_words" q8j ["_law_cell","_law_many"]
 qk7:Top K mg "_law_why_by" q7i ["_law_row_here","_law_words_here"]
 qk4:Top K mg "_law_within" q7j ["_law_one","_law_other"]
 qjx:Top K mg "_law_accord" q7k ["_law_row_here","_law_words_here"]
 quc:Top K mg "_law_by" qbr ["_law_kind","_law_limit","_law_peak"]
 qn9:Top K mg "_law_worth" q8k ["_law_kind","_law_cell","_law_words_here","_law_limit","_law_peak"]
 qci:Top K mg "_law_many_worths" q4f ["_law_kind","_law_script","_law_words_here","_law_limit","_law_peak"]
 qnd:Top K mg "_law_alike" q8l ["_law_found","_law_due"]
 qg6:Top K mg "_law_fillings" q5t ["_law_script","_law_words_here"]
 t_law:Top K mg "law" qqm ["_law_script"]
 q12d:mg "Reckoning"=some (.ref (cA mg "Reckoning"))
 q12b:Cls K (cA mg "Reckoning")
 q129:PySem.W.makesIn K (cA mg "Reckoning")=true
 q12a:PySem.W.keepIn K (.ref (cA mg "Reckoning"))=true
 q12c:PySem.W.findIn K (.ref (cA mg "Reckoning")) "__init__"=some (some (.builtin "object.__init__"))
 qu5:NoAttr K (cA mg "Reckoning") "either"
 qu3:NoAttr K (cA mg "Reckoning") "nought"
 qr9:MTop K (cA mg "Reckoning") "repeated" "Reckoning.repeated" q5m ["self","worth","many"]
 qwo:mg "Counts"=some (.ref (cA mg "Counts"))
 qu2:Cls K (cA mg "Counts")
 qu7:PySem.W.makesIn K (cA mg "Counts")=true
 qu4:PySem.W.keepIn K (.ref (cA mg "Counts"))=true
 qu9:PySem.W.findIn K (.ref (cA mg "Counts")) "__init__"=some (some (.builtin "object.__init__"))
 qjv:MTop K (cA mg "Counts") "fits" "Counts.fits" q79 ["self","thing"]
 qg9:MTop K (cA mg "Counts") "nought" "Counts.nought" q5n ["self"]
 qk3:MTop K (cA mg "Counts") "unit" "Counts.unit" q7a ["self"]
 qg8:MTop K (cA mg "Counts") "either" "Counts.either" q5o ["self","one","other"]
 qk8:MTop K (cA mg "Counts") "both" "Counts.both" q7b ["self","one","other"]
 qd5:MTop K (cA mg "Counts") "repeated" "Counts.repeated" q4t ["self","worth","many"]
 q107:mg "Costs"=some (.ref (cA mg "Costs"))
 qwp:Cls K (cA mg "Costs")
 qws:PySem.W.makesIn K (cA mg "Costs")=true
 qwv:PySem.W.keepIn K (.ref (cA mg "Costs"))=true
 qwn:PySem.W.findIn K (.ref (cA mg "Costs")) "__init__"=some (some (.builtin "object.__init__"))
 qn6:MTop K (cA mg "Costs") "fits" "Costs.fits" q8a ["self","thing"]
 qho:MTop K (cA mg "Costs") "nought" "Costs.nought" q6a ["self"]
 qna:MTop K (cA mg "Costs") "unit" "Costs.unit" q8b ["self"]
 qht:MTop K (cA mg "Costs") "either" "Costs.either" q6b ["self","one","other"]
 qne:MTop K (cA mg "Costs") "both" "Costs.both" q8c ["self","one","other"]
 qer:MTop K (cA mg "Costs") "repeated" "Reckoning.repeated" q58 ["self","worth","many"]
 qpn:mg "Bests"=some (.ref (cA mg "Bests"))
 q4n:Cls K (cA mg "Bests")
 qn5:PySem.W.makesIn K (cA mg "Bests")=true
 qn3:PySem.W.keepIn K (.ref (cA mg "Bests"))=true
 q61:NoAttr K (cA mg "Bests") "most"
 qnb:ITop K (cA mg "Bests") "Bests.__init__" "many" q4d (.int 3)
 qcj:MTop K (cA mg "Bests") "least_ones" "Bests.least_ones" q4e ["self","numbers"]
 qnf:MTop K (cA mg "Bests") "fits" "Bests.fits" q8d ["self","thing"]
 qhr:MTop K (cA mg "Bests") "nought" "Bests.nought" q6c ["self"]
 qn8:MTop K (cA mg "Bests") "unit" "Bests.unit" q8e ["self"]
 qhn:MTop K (cA mg "Bests") "either" "Bests.either" q6d ["self","one","other"]
 qni:MTop K (cA mg "Bests") "both" "Bests.both" q8f ["self","one","other"]
 qet:MTop K (cA mg "Bests") "repeated" "Bests.repeated" q59 ["self","worth","many"]
 qn7:mg "Trusts"=some (.ref (cA mg "Trusts"))
 q93:Cls K (cA mg "Trusts")
 qiy:PySem.W.makesIn K (cA mg "Trusts")=true
 qix:PySem.W.keepIn K (.ref (cA mg "Trusts"))=true
 q8q:NoAttr K (cA mg "Trusts") "top"
 qk9:ITop K (cA mg "Trusts") "Trusts.__init__" "top" q3x (.int 100)
 qk2:MTop K (cA mg "Trusts") "fits" "Trusts.fits" q7c ["self","thing"]
 qg2:MTop K (cA mg "Trusts") "nought" "Trusts.nought" q5p ["self"]
 qjz:MTop K (cA mg "Trusts") "unit" "Trusts.unit" q7d ["self"]
 qg5:MTop K (cA mg "Trusts") "either" "Trusts.either" q5q ["self","one","other"]
 qk6:MTop K (cA mg "Trusts") "both" "Trusts.both" q7e ["self","one","other"]
 qd6:MTop K (cA mg "Trusts") "repeated" "Reckoning.repeated" q4u ["self","worth","many"]
 qwr:mg "Truths"=some (.ref (cA mg "Truths"))
 qua:Cls K (cA mg "Truths")
 qud:PySem.W.makesIn K (cA mg "Truths")=true
 qu0:PySem.W.keepIn K (.ref (cA mg "Truths"))=true
 qu6:PySem.W.findIn K (.ref (cA mg "Truths")) "__init__"=some (some (.builtin "object.__init__"))
 qk0:MTop K (cA mg "Truths") "fits" "Truths.fits" q7f ["self","thing"]
 qg4:MTop K (cA mg "Truths") "nought" "Truths.nought" q5r ["self"]
 qjy:MTop K (cA mg "Truths") "unit" "Truths.unit" q7g ["self"]
 qg0:MTop K (cA mg "Truths") "either" "Truths.either" q5s ["self","one","other"]
 qjw:MTop K (cA mg "Truths") "both" "Truths.both" q7h ["self","one","other"]
 qd4:MTop K (cA mg "Truths") "repeated" "Reckoning.repeated" q4v ["self","worth","many"]
 q105:mg "Hands"=some (.ref (cA mg "Hands"))
 qwy:Cls K (cA mg "Hands")
 qww:PySem.W.makesIn K (cA mg "Hands")=true
 qwx:PySem.W.keepIn K (.ref (cA mg "Hands"))=true
 qwq:PySem.W.findIn K (.ref (cA mg "Hands")) "__init__"=some (some (.builtin "object.__init__"))
 qn0:MTop K (cA mg "Hands") "fits" "Hands.fits" q8g ["self","thing"]
 qhp:MTop K (cA mg "Hands") "nought" "Hands.nought" q6e ["self"]
 qn2:MTop K (cA mg "Hands") "unit" "Hands.unit" q8h ["self"]
 qhq:MTop K (cA mg "Hands") "either" "Hands.either" q6f ["self","one","other"]
 qnh:MTop K (cA mg "Hands") "both" "Hands.both" q8i ["self","one","other"]
 qeu:MTop K (cA mg "Hands") "repeated" "Reckoning.repeated" q5a ["self","worth","many"]
def q11 {b:Bool} {A B:Prop} (e:b=false) (h:B):if b=true then A else B:=by
 subst e;exact iteF h
def q1y {b:Bool} {A B:Prop} (e:b=true) (h:A):if b=true then A else B:=by
 subst e;exact iteT h
def qah (z:Str):z.cps.toList.length=z.length:=by simp [Str.length]
def qlw (a b:Str):(a++b).cps.toList=a.cps.toList++b.cps.toList:=by
 show (a.cps++b.cps).toList=_;rw [z1a]
def qyq (a b:Str):(a++b).length=a.length+b.length:=by
 show (a.cps++b.cps).size=a.cps.size+b.cps.size;exact Array.size_append
def qvc {z:Str} (h:∀ c∈z.cps.toList,c < 0x110000):PyData.strOk z=true:=by
 unfold PyData.strOk;rw [<- Array.all_toList,z2n];exact λ c hc=>z3c (h c hc)
theorem qai {K:xA} {H:Hp}:∀ {ds:List PyData} {xs:List V} {i:Nat} {x:V},Dats K H ds xs ->xs[i]? =some x ->∃ d,ds[i]? =some d/\Dat K H d x
 | _,_,i,x,.nil,h=>by simp at h
 | _,_,0,x,.cons a b,h=>by
  simp at h
  subst h;exact ⟨_,zr,a⟩
 | _,_,i+1,x,.cons a b,h=>by
  obtain ⟨d,e,r⟩:=qai (i:=i) (x:=x) b (by simpa using h);exact ⟨d,by simpa using e,r⟩
theorem qaj {K:xA} {H:Hp}:∀ {ds:List PyData} {xs:List V},Dats K H ds xs ->ds.length=xs.length
 | _,_,.nil=>rfl
 | _,_,.cons a b=>by rw [z2i,z2i,qaj b]
def SameBut (d:Addr) (H H':Hp):Prop:=∀ b o,b≠d ->H b=some o ->H' b=some o
def SameBut.trans {d:Addr} {H H1 H2:Hp} (a:SameBut d H H1) (b:SameBut d H1 H2):SameBut d H H2:=λ c o n e=>b c o n (a c o n e)
def Same.but {d:Addr} {H H':Hp} (s:Same H H'):SameBut d H H':=λ b o _ e=>s b o e
theorem SameBut.upd (d:Addr) (H:Hp) (o:HO):SameBut d H (upd H d o):=λ b u n e=>by rw [qh n];exact e
def KeepT (H H':Hp):Prop:=∀ b ys,H b=some (.tup ys) ->H' b=some (.tup ys)
def Same.keepT {H H':Hp} (s:Same H H'):KeepT H H':=λ b ys e=>s b _ e
def KeepT.trans {H H1 H2:Hp} (a:KeepT H H1) (b:KeepT H1 H2):KeepT H H2:=λ c ys e=>b c ys (a c ys e)
theorem KeepT.upd {H H':Hp} {d:Addr} {xs ys:List V} (k:KeepT H H') (e:H' d=some (.lst xs)):KeepT H (upd H' d (.lst ys)):=λ b zs J=>by
 rw [qh (λ z=>by rw [z] at J;have:=k _ _ J;rw [e] at this;cases this)];exact k b zs J
abbrev Tab:=List (List Str×Int)
def encI (W:Tab):List (List Str×V):=W.map λ kv=>(kv.1,V.int kv.2)
def encD (W:Tab):HO:= .dT ((encI W).map λ kv=>(kv.1.map Sum.inr,kv.2))
def getA (W:Tab) (k:xD):Option Int:=(W.find? λ kv=>decide (kv.1=k)).map (·.2)
def putA (W:Tab) (k:xD) (v:Int):Tab:=if (W.any λ kv=>decide (kv.1=k))=true then W.map (λ kv=>if kv.1=k then (kv.1,v) else kv) else W++ [(k,v)]
def addA (W:Tab) (k:xD) (v:Int):Tab:=putA W k ((getA W k).getD 0+v)
def qcr {a b:xD}:a.map (Sum.inr:Str ->Key)=b.map Sum.inr↔a=b:=by
 constructor
 ·intro h;exact List.map_inj_right (λ x y e=>Sum.inr.inj e) |>.mp h
 ·intro h;rw [h]
def qyr (a b:xD):decide (a.map (Sum.inr:Str ->Key)=b.map Sum.inr)=decide (a=b):=decide_eq_decide.mpr qcr
def qe8 (W:Tab) (k:xD):valV ((encI W).map λ J=>(J.1.map (Sum.inr:Str ->Key),J.2)) (k.map Sum.inr)=(getA W k).map V.int:=by
 unfold valV getA encI
 induction W with
 | nil=>rfl
 | cons p W ih=>
  rw [z3l,z3l];by_cases e:p.1=k
  ·rw [z0s (by rw [e];simp),z0s (by simpa using e)];rfl
  ·rw [z0t (by simpa using λ q=>e (qcr.mp q)),z0t (by simpa using e)];exact ih
def qlx (W:Tab) (k:xD) (v:Int):putK ((encI W).map λ J=>(J.1.map (Sum.inr:Str ->Key),J.2)) (k.map Sum.inr) (V.int v)=(encI (putA W k v)).map λ J=>(J.1.map Sum.inr,J.2):=by
 unfold putK putA encI;have e1:((List.map (λ J:List Str×V=>(J.1.map (Sum.inr:Str ->Key),J.2)) (W.map λ J=>(J.1,V.int J.2))).any λ J=>decide (J.1=k.map Sum.inr))=W.any λ J=>decide (J.1=k):=by
  rw [List.any_map,List.any_map]
  congr 1
  funext J
  exact qyr J.1 k
 rw [e1];split
 ·rw [z47,z47,z47,z47];refine z1f λ J _=> ?_;show (if J.1.map (Sum.inr:Str ->Key)=k.map Sum.inr then (J.1.map Sum.inr,V.int v) else (J.1.map Sum.inr,V.int J.2))=_;by_cases h:J.1=k
  ·rw [if_pos (by rw [h])];show _=(((if J.1=k then (J.1,v) else J).1).map Sum.inr,V.int (if J.1=k then (J.1,v) else J).2);rw [if_pos h]
  ·rw [if_neg (λ q=>h (qcr.mp q))];show _=(((if J.1=k then (J.1,v) else J).1).map Sum.inr,V.int (if J.1=k then (J.1,v) else J).2);rw [if_neg h]
 ·rw [z36,z36];rfl
def qys (W:Tab) (k j:xD) (v:Int):getA (putA W k v) j=if j=k then some v else getA W j:=by
 have h:=q47 (κ:=List Str) (encI W) k j (V.int v);have e:∀ W:Tab,valV (κ:=List Str) (encI W) j=(getA W j).map V.int:=λ W=>by
  unfold valV getA encI
  induction W with
  | nil=>rfl
  | cons p W ih=>
   rw [z3l];by_cases e:p.1=j
   ·rw [z0s (by simpa using e),z0s (by simpa using e)];rfl
   ·rw [z0t (by simpa using e),z0t (by simpa using e)];exact ih
 have e2:putK (encI W) k (V.int v)=encI (putA W k v):=by
  unfold putK putA encI;rw [List.any_map];show (if (W.any λ J=>decide (J.1=k))=true then _ else _)=_;split
  ·rw [z47,z47];refine z1f λ J _=> ?_;show (if J.1=k then (J.1,V.int v) else (J.1,V.int J.2))=((if J.1=k then (J.1,v) else J).1,V.int (if J.1=k then (J.1,v) else J).2);split <;> rfl
  ·rw [z36];rfl
 rw [e2,e,e] at h;by_cases O:j=k
 ·rw [if_pos O] at h ⊢;cases q:getA (putA W k v) j with
  | none=>rw [q] at h;cases h
  | some n=>rw [q] at h;simpa using h
 ·rw [if_neg O] at h ⊢;cases q:getA (putA W k v) j with
  | none=>
   rw [q] at h;cases r:getA W j with
   | none=>rfl
   | some n=>rw [r] at h;cases h
  | some n=>
   rw [q] at h;cases r:getA W j with
   | none=>rw [r] at h;cases h
   | some m=>rw [r] at h;simpa using h
def qyt (W:Tab) (k j:xD) (v:Int):(getA (addA W k v) j).getD 0=(getA W j).getD 0+if j=k then v else 0:=by
 unfold addA;rw [qys];by_cases h:j=k
 ·subst h;rw [if_pos rfl,if_pos rfl];rfl
 ·rw [if_neg h,if_neg h,Int.add_zero]
def qe9 (W:Tab) (k:xD) (v:Int):(putA W k v).map (·.1)=if k∈W.map (·.1) then W.map (·.1) else W.map (·.1)++ [k]:=by
 unfold putA;have e:(W.any λ J=>decide (J.1=k))=decide (k∈W.map (·.1)):=by
  rw [z2z,z2p,decide_eq_true_iff,z45]
  constructor
  ·rintro ⟨p,O,h⟩;exact ⟨p,O,of_decide_eq_true h⟩
  ·rintro ⟨p,O,h⟩;exact ⟨p,O,z3c h⟩
 rw [e];by_cases h:k∈W.map (·.1)
 ·rw [if_pos (z3c h),if_pos h,z47];refine z1f λ J _=> ?_;show (if J.1=k then (J.1,v) else J).1=J.1;split <;> rfl
 ·rw [if_neg (by simpa using h),if_neg h,z36];rfl
def qt0 {W:Tab} (h:(W.map (·.1)).Nodup) (k:xD) (v:Int):((putA W k v).map (·.1)).Nodup:=by
 rw [qe9];split
 ·exact h
 ·rename_i hk;exact qgg h hk
def qyu {W:Tab} {k:xD} {v:Int} {j:xD}:j∈(putA W k v).map (·.1)↔j∈W.map (·.1)\/ j=k:=by
 rw [qe9];split
 ·rename_i hk
  constructor
  ·exact .inl
  ·rintro (h | rfl)
   ·exact h
   ·exact hk
 ·rw [z2u,z1m]
def qow (W:Tab) (k:xD) (v:Int):(putA W k v).length<=W.length+1:=by
 have:(putA W k v).length=((putA W k v).map (·.1)).length:=by rw [z30]
 rw [this,qe9];split
 ·rw [z30];lia
 ·rw [z1o,z30];exact z48 _
def told (W:Tab):Tab:=((Tim.srt qz (W.map (·.1))).map λ k=>(k,(getA W k).getD 0)).filter λ kv=>decide (0 < kv.2)
theorem q97 {α β:Type} {F:α ->β ->Prop} {x:α} {y:β}:∀ {xs:List α} {ys:List β},Paired F xs ys ->F x y ->Paired F (xs++ [x]) (ys++ [y])
 | _,_,.nil,h=> .cons h .nil
 | _,_,.cons a b,h=> .cons a (q97 b h)
def PlAt (H:Hp) (x:V) (kv:List Str×Int):Prop:=∃ q b,x= .ref q/\H q=some (.tup [.ref b,.int kv.2])/\H b=some (.tup (kv.1.map V.str))
def PlAt.keep {H H':Hp} {x:V} {J:List Str×Int} (h:PlAt H x J) (s:KeepT H H'):PlAt H' x J:=by
 obtain ⟨q,b,e,h1,h2⟩:=h;exact ⟨q,b,e,s _ _ h1,s _ _ h2⟩
theorem q9k {H H':Hp} (s:KeepT H H'):∀ {xs:List V} {ps:Tab},Paired (PlAt H) xs ps ->Paired (PlAt H') xs ps
 | _,_,.nil=> .nil
 | _,_,.cons a b=> .cons (a.keep s) (q9k s b)
def gath (ps:Tab):Tab:=ps.foldl (λ W p=>addA W (Tim.srt ql p.1) p.2) []
def q2t {ns:List Int} {k:Nat} (h:k < ns.length):atI (ns.map V.int) (k:Int)=some (V.int (ns.getD k 0)):=by
 rw [qoo h];exact q40 (by rw [z22,z0d h];rfl)
theorem qbw {K:xA} {H:Hp}:∀ ns:List Int,Dats K H (ns.map .int) (ns.map V.int)
 | []=> .nil
 | n::ns=> .cons (.int n) (qbw ns)
def qfi (ns:List Int):PyData.depthAll (ns.map .int)=0:=by
 induction ns with
 | nil=>rfl
 | cons x p ih=>
  show max (PyData.depth (.int x)) (PyData.depthAll (p.map .int))=0;rw [ih];rfl
def qvd (xs:List V) (n:Nat) (h:n<=xs.length):cutV xs (some (n:Int)) none=xs.drop n:=by
 unfold cutV;rw [HT.sIx_nat,HT.sIx_none,Nat.min_eq_left h,z0n (by rw [z2h];exact z48 _)]
variable {P:Program} {w:World} {K:xA} {mg:xE} {base:Heap}
def fur:Str:="abcdefghijklmnopqrstuvwxyz0123456789"
def q118:∀ c∈fur.cps.toList,c < 0x110000:=by decide+kernel
def Wz (n:Nat) (z:Str):Prop:=z.length<=n/\∀ c∈z.cps.toList,c∈fur.cps.toList
def Wz.ok {n:Nat} {z:Str} (h:Wz n z):PyData.strOk z=true:=qvc λ c hc=>q118 c (h.2 c hc)
def qyv (d:Nat):(⟨#[d]⟩:Str).length<=1:=z48 _
def qyw (o:Option Int):(o.map V.int).getD (V.int 0)=V.int (o.getD 0):=by cases o <;> rfl
def qea {W:Tab} (h:(W.map (·.1)).Nodup) {k:xD} (hk:k∈W.map (·.1)):∃ n,getA W k=some n/\(k,n)∈W:=by
 obtain ⟨⟨k',n⟩,hp,e⟩:=z45.mp hk;have e':k'=k:=e;subst e';unfold getA;cases q:W.find? λ kv=>decide (kv.1=k') with
 | none=>
  have:=List.find?_eq_none.mp q _ hp;simp at this
 | some x=>
  have h1:=List.find?_some q;have h2:=z0c q;obtain ⟨x1,x2⟩:=x;have:x1=k':=by simpa using h1
  subst this;exact ⟨x2,zr,h2⟩
theorem q2f {α β:Type} {F:α ->β ->Prop}:∀ {l:List α} {k:List β} {i:Nat} {x:α},Paired F l k ->l[i]? =some x ->∃ y,k[i]? =some y/\F x y
 | _,_,_,_,.nil,h=>by simp at h
 | _,_,0,_,.cons a _,h=>by
  simp at h
  subst h;exact ⟨_,zr,a⟩
 | _,_,i+1,x,.cons _ r,h=>by
  obtain ⟨y,e,f⟩:=q2f (i:=i) (x:=x) r (by simpa using h);exact ⟨y,by simpa using e,f⟩
def PairAt (K:xA) (H:Hp) (x:V) (p:List Str×Int):Prop:=∃ q b,x=V.ref q/\SqT K H q [.ref b,.int p.2]/\(SqL K H b (p.1.map V.str)\/ SqT K H b (p.1.map V.str))
def PairAt.same {K:xA} {H H':Hp} {x:V} {p:List Str×Int} (h:PairAt K H x p) (s:Same H H'):PairAt K H' x p:=by
 obtain ⟨q,b,e,h1,h2⟩:=h;exact ⟨q,b,e,s.seqT h1,h2.imp s.seq s.seqT⟩
def qbx (ps:Tab) (p:List Str×Int):gath (ps++ [p])=addA (gath ps) (Tim.srt ql p.1) p.2:=by
 unfold gath;rw [z2f];rfl
theorem q2q:∀ (n:Nat) (ps:Tab),ps.length=n ->((gath ps).map (·.1)).Nodup/\(gath ps).length<=n/\(∀ k,k∈(gath ps).map (·.1)↔k∈ps.map λ p=>Tim.srt ql p.1)/\
  ∀ k,((getA (gath ps) k).getD 0)=((ps.filter λ p=>decide (Tim.srt ql p.1=k)).map (·.2)).sum
 | 0,ps,h=>by
  have:ps=[]:=List.eq_nil_of_length_eq_zero h;subst this;exact ⟨z3g,z48 _,λ k=>by simp [gath],λ k=>rfl⟩
 | n+1,ps,h=>by
  obtain ⟨J,p,rfl⟩:∃ J p,ps=J++ [p]:=⟨ps.dropLast,ps.getLast (by intro e;rw [e] at h;simp at h),(List.dropLast_concat_getLast _).symm⟩;obtain ⟨h1,h2,h3,h4⟩:=q2q n J (by rw [z1o] at h;simp at h;exact h);rw [qbx];refine ⟨qt0 h1 _ _,z41 (qow _ _ _) (z2q h2),λ k=> ?_,λ k=> ?_⟩
  ·unfold addA;rw [qyu,h3,z36,z2u];simp
  ·rw [qyt,h4,z1u,z36,List.sum_append]
   congr 1
   by_cases e:k=Tim.srt ql p.1
   ·rw [if_pos e];simp [e]
   ·rw [if_neg e];have:¬ Tim.srt ql p.1=k:=λ q=>e q.symm;simp [this]
def qve (K:xA):Sp:=λ vs H Q _=>∃ (d a:Addr) (W:Tab) (ws:xD) (n:Int),vs=[.ref d,.ref a,.int n]/\H d=some (encD W)/\(SqL K H a (ws.map V.str)\/ SqT K H a (ws.map V.str))/\W.length < 100000/\
 ∀ H',SameBut d H H' ->H' d=some (encD (addA W (Tim.srt ql ws) n)) ->Q .non H'
def qdg (T:Txt K mg):Def P w K mg base 1 "count_in" ["ways_by_product","names","ways"] (qve K):=by
 refine T.qrc.ok qdf (λ vs H Q E h=> ?_) λ f cdv A outer s H vs Q E hr h=> ?_
 ·obtain ⟨d,a,W,ws,n,rfl,_⟩:=h;rfl
 ·obtain ⟨d,a,W,ws,n,rfl,hd,ha,hl,k⟩:=h;refine ⟨_,(q2x
   (qt (i:=3) qdf.nd rfl (Or.inl rfl) (q2h (q6o K) rfl T.q9t q85 (pa_1 (qp (q86 K) rfl T.q2e q26 (pa_1 (pv 1))))))
   (q5f (q2a hr) (pv 0) (pv 3) (qm q1l (qlg (q2a hr) (pv 0) (pv 3) qd ⟨rfl,rfl,rfl,rfl⟩) (pv 2)) rfl)),?_⟩
  refine ⟨_,zr,_,ws,zr,ha,λ l a0=> ?_⟩;have s1:=qf (o:=HO.lst ((Tim.srt ql ws).map V.str)) a0;refine ⟨_,_,zr,.inl ⟨SqL.of qb,λ t ht=> ?_⟩⟩;have s2:=qf (o:=HO.tup ((Tim.srt ql ws).map V.str)) ht;have J:=s2 _ _ (s1 _ _ hd);have Z:upd (upd H l (.lst ((Tim.srt ql ws).map V.str))) t (.tup ((Tim.srt ql ws).map V.str)) t=some (.tup (((Tim.srt ql ws).map (Sum.inr:Str ->Key)).map kV)):=by
   rw [qb,q68]
  have O:DGet (upd (upd H l (.lst ((Tim.srt ql ws).map V.str))) t (.tup ((Tim.srt ql ws).map V.str))) d (.ref t) ((getA W (Tim.srt ql ws)).map V.int):=by
   rw [<- qe8];exact DGet.t J Z
  refine ⟨_,zr,_,zr,.inr ⟨_,.inl J⟩,_,zr,_,O,_,zr,(getA W (Tim.srt ql ws)).getD 0,n,qyw _,zr,?_⟩;refine ⟨_,rfl,_,rfl,d,_,rfl,DPut.t J Z (by rw [z30];unfold encI;rw [z30];exact z1r hl (by decide)),?_⟩;refine k _ ((Same.but (s1.trans s2)).trans (SameBut.upd d _ _)) ?_;rw [qb,qlx];rfl
def qyx (K:xA):Sp:=λ vs H Q _=>∃ (d:Addr) (W:Tab),vs=[.ref d]/\H d=some (encD W)/\(W.map (·.1)).Nodup/\W.length < 100000/\(∀ kv∈W,∀ x∈kv.1,PyData.strOk x=true)/\
 ∀ l zs H',Same H H' ->H' l=some (.lst zs) ->H l=none ->(∀ H2,KeepT H' H2 ->Paired (PlAt H2) zs (told W)) ->Q (.ref l) H'
def q9l (T:Txt K mg):Def P w K mg base 1 "told_as_why" ["ways_by_product"] (qyx K):=by
 refine T.qk5.ok qgp (λ vs H Q E h=> ?_) λ f cdv A outer s H vs Q E hr h=> ?_
 ·obtain ⟨d,W,rfl,_⟩:=h;rfl
 ·obtain ⟨d,W,rfl,hd,b2,b6,hok,k⟩:=h;refine ⟨_,(qg (qk (q2b (N:=["product","ways_by_product"]) (caps:=[none,some 0]) rfl (by with_unfolding_all rfl) (q1a K (qp (qbi hr.units rfl K) rfl T.q2e q26 (pa_1 (pv 0)))) (λ _ _ _ _ _=>(qr (i:=0) (show (["product","ways_by_product"]:xD).Nodup by decide+kernel) rfl (Or.inl rfl))) (λ _ _ _ _ _=>q9h (q13 qpy (q4p (q2a hr) (pv 1) (pv 0) (λ _ _=>rfl)) qd (q14 _))) (λ _ _ _ _ _=>(q6w (pa_2 (pv 0) (q4p (q2a hr) (pv 1) (pv 0) (λ _ _=>rfl)))))))),?_⟩;refine ⟨_,zr,d,encI W,zr,hd,λ l zs hl hz=> ?_⟩;have ek:(encI W).map (·.1)=W.map (·.1):=by unfold encI;rw [z47];rfl
  rw [ek] at hz;have s1:=qf (o:=HO.lst zs) hl;refine ⟨l,zr,⟨_,SqL.of qb⟩,λ D hD=> ?_⟩;have b3:zs.length=(Tim.srt qz (W.map (·.1))).length:=Paired.length hz;have hlD:l≠D:=λ e=>by
   rw [e,qb] at hD;cases hD
  have a3:H D=none:=s1.free hD;generalize hS:Tim.srt qz (W.map (·.1))=S at*;have a1:∀ p∈S,p∈W.map (·.1):=λ p hp=>by
   rw [<- hS] at hp;exact (Tim.qo qz _).mem_iff.mp hp
  have a8:S.length<=100000:=by
   rw [<- hS,(Tim.qo qz _).length_eq,z30]
   lia
  refine q20 zs.length (λ i σ' H'=>(∃ v,σ'=[v,some (.ref d)])/\Same (upd H l (.lst zs)) H'/\∃ ys,H' D=some (.lst ys)/\ys.length<=i/\∀ H2,KeepT H' H2 ->Paired (PlAt H2) ys (((S.take i).map λ k=>(k,(getA W k).getD 0)).filter λ kv=>decide (0 < kv.2))) ⟨⟨_,rfl⟩,qf hD,[],qb,z4b _,λ _ _=> .nil⟩ (λ i σ' H' hi p=> ?_) (λ σ' H' p=>⟨?_,?_⟩) (λ i σ' H' hi p x H2 y=> ?_)
  ·obtain ⟨_,O,_⟩:=p;exact ⟨_,zs[i],SqL.of (O _ _ qb),z0d hi⟩
  ·obtain ⟨_,O,_⟩:=p;exact ⟨_,SqL.of (O _ _ qb),z48 _⟩
  ·obtain ⟨_,O,ys,e,_,hy⟩:=p;refine k D ys H' (s1.trans O) e a3 λ H2 h2=> ?_;have:=hy H2 h2;rw [b3,z2t] at this;unfold told;rw [hS];exact this
  ·obtain ⟨⟨v,rfl⟩,O,ys,e,a7,hy⟩:=p;obtain ⟨rfl,hx⟩:=y;have b5:=hx _ (SqL.of (O _ _ qb));obtain ⟨pr,a5,b,rfl,hb⟩:=q2f hz b5;have a6:pr∈S:=z18 a5;obtain ⟨n,hn,b7⟩:=qea b2 (a1 pr a6);have a4:=O _ _ (s1 _ _ hb);have Z:∀ {G:Hp},Same H2 G ->DGet G d (.ref b) (some (.int n)):=λ {G} sg=>by
    have e1:(some (V.int n))=valV ((encI W).map λ kv=>(kv.1.map (Sum.inr:Str ->Key),kv.2)) (pr.map Sum.inr):=by rw [qe8,hn];rfl
    rw [e1];exact DGet.t (sg _ _ (O _ _ (s1 _ _ hd))) (by rw [q68];exact sg _ _ a4)
   have J:((S.take (i+1)).map λ k=>(k,(getA W k).getD 0)).filter (λ kv=>decide (0 < kv.2))=((S.take i).map λ k=>(k,(getA W k).getD 0)).filter (λ kv=>decide (0 < kv.2))++(if 0 < n then [(pr,n)] else []):=by
    rw [z3h,a5,z36,z1u]
    congr 1
    show List.filter _ [(pr,(getA W pr).getD 0)]=_;rw [hn];show List.filter _ [(pr,n)]=_;by_cases h:0 < n
    ·rw [if_pos h];simp [h]
    ·rw [if_neg h];simp [h]
   refine ⟨_,zr,_,zr,d,_,zr,Z (Same.refl _),_,_,zr,zr,_,zr,ite2 (λ h1=> ?_) (λ h1=> ?_)⟩
   ·have a0:0 < n:=of_decide_eq_true h1;refine ⟨_,rfl,_,rfl,_,rfl,d,_,rfl,Z (Same.refl _),by show 2<=sizeLine;decide,λ q hq=> ?_⟩;have s3:=qf (o:=HO.tup [.ref b,.int n]) hq;have b4:q≠D:=λ z=>by
     rw [z,e] at hq;cases hq
    refine ⟨_,s3 _ _ e,Nat.lt_of_le_of_lt a7 (z1r (show i < 1000000 by lia) (by decide)),⟨_,rfl⟩,?_,ys++ [.ref q],qb,by rw [z1o];exact z2q a7,λ H4 h4=> ?_⟩
    ·exact (O.trans s3).set hD
    ·rw [J,if_pos a0];have a9:b≠D:=λ z=>by
      rw [z,a3] at hb;cases hb
     exact q97 (hy H4 λ b' o' a2=>h4 b' o' (by rw [qh (λ z=>by rw [z,e] at a2;cases a2)];exact s3 _ _ a2)) ⟨q,b,rfl,h4 q _ (by rw [qh b4,qb]),h4 b _ (by rw [qh a9];exact s3 _ _ a4)⟩
   ·have a0:¬ 0 < n:=λ h=>h1 (z3c h);refine ⟨⟨_,zr⟩,O,ys,e,by lia,λ H4 h4=> ?_⟩;rw [J,if_neg a0,z31];exact hy H4 h4
def qyy (K:xA):Sp:=λ vs H Q _=>∃ (a:Addr) (xs:List V) (ps:Tab),vs=[.ref a]/\SqL K H a xs/\Paired (PairAt K H) xs ps/\ps.length < 100000/\(∀ p∈ps,∀ x∈p.1,PyData.strOk x=true)/\
 ∀ l zs H',Same H H' ->H' l=some (.lst zs) ->H l=none ->(∀ H2,KeepT H' H2 ->Paired (PlAt H2) zs (told (gath ps))) ->Q (.ref l) H'
def qo0 (T:Txt K mg):Def P w K mg base 2 "gathered" ["pairs"] (qyy K):=by
 refine T.qrb.ok q6q (λ vs H Q E h=> ?_) λ f cdv A outer s H vs Q E hr h=> ?_
 ·obtain ⟨a,xs,ps,rfl,_⟩:=h;rfl
 ·obtain ⟨a,xs,ps,rfl,ha,hp,hl,hok,k⟩:=h;refine ⟨_,(q2p
   (qt (i:=1) q6q.nd rfl (Or.inl rfl) q9z)
   (q1i PassesOwn.never rfl (q1a K (pv 0)) (q9c rfl (q2n (qr (i:=2) q6q.nd rfl (Or.inl rfl)) (q2n (qr (i:=3) q6q.nd rfl (Or.inl rfl)) q7v))) (qg (q2s (qy (qdg T) hr rfl (pa_3 (pv 1) (pv 2) (pv 3))))))
   (qk (qy (q9l T) hr rfl (pa_1 (pv 1))))),?_⟩
  refine λ d hd=> ?_;have s1:=qf (o:=HO.dT []) hd;have a6:xs.length=ps.length:=Paired.length hp;refine ⟨_,zr,a,zr,⟨_,s1.seq ha⟩,q29 (xs:=xs) (λ i σ H'=>Same H H'/\H' d=some (encD (gath (ps.take i)))/\∃ v1 v2,σ=[some (.ref a),some (.ref d),v1,v2]) ⟨s1,qb,_,_,zr⟩ (λ i σ H' _ z=>z.1.seq ha) ?_ ?_⟩
  ·rintro i x σ H' hx ⟨Z,J,v1,v2,rfl⟩;obtain ⟨p,O,a4⟩:=q2f hp hx;obtain ⟨q,b,rfl,hq,hb⟩:=a4.same Z;have il:i < ps.length:=(z07.mp O).1;obtain ⟨_,gl,_,_⟩:=q2q (ps.take i).length (ps.take i) rfl;rw [z2g] at gl;refine ⟨_,_,zr,hq,zr,_,_,zr,_,_,zr,zr,?_⟩;refine ⟨_,zr,_,zr,_,zr,d,b,_,p.1,p.2,zr,J,hb,by lia,λ H2 s2 a0=> ?_⟩;refine ⟨λ c o hc=>s2 c o (λ z=>by rw [z,hd] at hc;cases hc) (Z c o hc),?_,_,_,rfl⟩;rw [z3h,O];show H2 d=some (encD (gath (ps.take i++ [p])));rw [qbx];exact a0
  ·rintro σ H' ⟨Z,J,v1,v2,rfl⟩;rw [a6,z2t] at J;obtain ⟨g1,g2,g3,g4⟩:=q2q ps.length ps rfl;have kok:∀ k∈(gath ps).map (·.1),∀ x∈k,PyData.strOk x=true:=λ k' hk x hx=>by
    obtain ⟨p,a5,e⟩:=z45.mp ((g3 k').mp hk);refine hok p a5 x ?_;have:x∈Tim.srt ql p.1:=by rw [show Tim.srt ql p.1=k' from e];exact hx
    exact (Tim.qo ql p.1).mem_iff.mp this
   refine ⟨_,zr,d,gath ps,zr,J,g1,by lia,λ kv a1=>kok _ (z45.mpr ⟨kv,a1,zr⟩),λ l zs H2 s2 a2 a3 hz=>k l zs H2 (Z.trans s2) a2 (Z.free a3) hz⟩
def Asc (p:xD):Prop:=p.Pairwise λ a b=>ql b a=false
def Rise (W:Tab):Prop:=(W.map (·.1)).Pairwise λ a b=>qz a b=true
theorem qby {α:Type} {lt:α ->α ->Bool} (h:Tim.STO lt):∀ {l:List α},l.Pairwise (λ a b=>lt b a=false) ->l.Nodup ->l.Pairwise λ a b=>lt a b=true
 | [],_,_=> .nil
 | a::l,h1,h2=>by
  obtain ⟨a1,a2⟩:=z1q.mp h1;obtain ⟨b1,b2⟩:=z32.mp h2;refine z1q.mpr ⟨λ b J=> ?_,qby h a2 b2⟩;cases e:lt a b with
  | true=>rfl
  | false=>exact absurd (h.tri a b e (a1 b J)) λ z=>b1 (z ▸ J)
def qt1 (W:Tab):((told W).map (·.1)).Sublist (Tim.srt qz (W.map (·.1))):=by
 unfold told;have:((Tim.srt qz (W.map (·.1))).map λ k=>(k,(getA W k).getD 0)).map (·.1)=Tim.srt qz (W.map (·.1)):=by
  rw [z47];exact z4c _
 have h2:=(List.filter_sublist (l:=(Tim.srt qz (W.map (·.1))).map λ k=>(k,(getA W k).getD 0)) (p:=λ kv=>decide (0 < kv.2))).map (·.1);rw [this] at h2;exact h2
def qvf (W:Tab):(told W).length<=W.length:=by
 have:=(qt1 W).length_le;rw [z30,(Tim.qo qz _).length_eq,z30] at this;exact this
def qeb {W:Tab} {J:List Str×Int}:J∈told W↔J.1∈W.map (·.1)/\J.2=(getA W J.1).getD 0/\0 < J.2:=by
 unfold told;rw [z2x,z45]
 constructor
 ·rintro ⟨⟨k,hk,rfl⟩,h⟩;exact ⟨(Tim.qo qz _).mem_iff.mp hk,zr,of_decide_eq_true h⟩
 ·rintro ⟨h1,h2,h3⟩;refine ⟨⟨J.1,(Tim.qo qz _).mem_iff.mpr h1,?_⟩,z3c h3⟩;rw [<- h2]
theorem qly:∀ {l:List Int} {n:Int},(∀ x∈l,0<=x) ->n∈l ->n<=l.sum
 | [],_,_,h=>nomatch h
 | x::l,n,J,h=>by
  have hs:0<=l.sum:=by
   clear h;have:∀ y∈l,0<=y:=λ y hy=>J y (z16 _ hy);clear J
   induction l with
   | nil=>exact z4a _
   | cons y l ih=>
    rw [z3s];have h1:=this y (z1p ..);have h2:=ih λ z hz=>this z (z16 _ hz)
    lia
  rw [z3s];rcases z3n.mp h with rfl | h
  ·lia
  ·have h1:=J x (z1p ..);have h2:=qly (λ y hy=>J y (z16 _ hy)) h
   lia
def qvg {W:Tab} {k:xD} {v:Int} {J:List Str×Int} (h:J∈putA W k v):J∈W\/ J=(k,v):=by
 unfold putA at h;split at h
 ·obtain ⟨x,hx,e⟩:=z45.mp h;by_cases q:x.1=k
  ·rw [if_pos q] at e;exact .inr (by rw [<- e,q])
  ·rw [if_neg q] at e;exact .inl (e ▸ hx)
 ·rcases z2u.mp h with h | h
  ·exact .inl h
  ·exact .inr (z1m.mp h)
theorem q1r {α β:Type} {F:α ->β ->Prop}:∀ {xs J:List α} {ys O:List β},Paired F xs ys ->Paired F J O ->Paired F (xs++J) (ys++O)
 | _,_,_,_,.nil,h=>h
 | _,_,_,_,.cons a b,h=> .cons a (q1r b h)
theorem qif {K:xA} {H:Hp}:∀ {xs:List V} {W:Tab},Paired (PlAt H) xs W ->Paired (PairAt K H) xs W
 | _,_,.nil=> .nil
 | _,_,.cons ⟨q,b,e,h1,h2⟩ r=> .cons ⟨q,b,e,SqT.of h1,.inr (SqT.of h2)⟩ (qif r)
def qt2 (J:List Str×Int) (W:Tab) (p:xD):getA (J::W) p=if J.1=p then some J.2 else getA W p:=by
 unfold getA;by_cases h:J.1=p
 ·rw [z0s (by simpa using h),if_pos h];rfl
 ·rw [z0t (by simpa using h),if_neg h]
def mulP (p q:List Str×Int):List Str×Int:=(p.1++q.1,p.2*q.2)
def prods (A B:Tab):Tab:=A.flatMap λ p=>B.map (mulP p)
def qqq {A B:Tab} {i:Nat} {p:List Str×Int} (h:A[i]? =some p):prods (A.take (i+1)) B=prods (A.take i) B++B.map (mulP p):=by
 unfold prods;rw [z3h,h,z1j]
 congr 1
 simp
def qbz (A B:Tab):(prods A B).length=A.length*B.length:=by
 induction A with
 | nil=>simp [prods]
 | cons p A ih=>
  have e:prods (p::A) B=B.map (mulP p)++prods A B:=rfl;rw [e,z1o,z30,ih,z2i,Nat.add_mul]
  lia
def q92 {A B:Tab} {r:List Str×Int} (h:r∈prods A B):∃ p∈A,∃ q∈B,r=mulP p q:=by
 obtain ⟨p,hp,h⟩:=List.mem_flatMap.mp h;obtain ⟨q,hq,e⟩:=z45.mp h;exact ⟨p,hp,q,hq,e.symm⟩
def qvh (K:xA):Sp:=λ vs H Q _=>∃ (a b:Addr) (xs ys:List V) (A B:Tab),vs=[.ref a,.ref b]/\H a=some (.lst xs)/\H b=some (.lst ys)/\Paired (PlAt H) xs A/\Paired (PlAt H) ys B/\A.length<=200/\B.length<=200/\(∀ p∈A++B,(∀ x∈p.1,PyData.strOk x=true)/\p.1.length<=1000/\0<=p.2/\p.2 < 2^600)/\
 ∀ l zs H',Same H H' ->H' l=some (.lst zs) ->H l=none ->(∀ H2,KeepT H' H2 ->Paired (PlAt H2) zs (told (gath (prods A B)))) ->Q (.ref l) H'
def qvi (T:Txt K mg):Def P w K mg base 2 "times" ["one","other"] (qvh K):=by
 refine T.q106.ok q6h (λ vs H Q E h=> ?_) λ f cdv A outer s H vs Q E hr h=> ?_
 ·obtain ⟨a,b,xs,ys,A,B,rfl,_⟩:=h;rfl
 ·obtain ⟨a,b,xs,ys,A,B,rfl,ha,hb,hA,hB,la,lb,hok,k⟩:=h;refine ⟨_,(q2p
   (qt (i:=2) q6h.nd rfl (Or.inl rfl) q9z)
   (q1i PassesOwn.never rfl (q1a K (pv 0)) (q9c rfl (q2n (qr (i:=3) q6h.nd rfl (Or.inl rfl)) (q2n (qr (i:=4) q6h.nd rfl (Or.inl rfl)) q7v))) (qg (q1i PassesOwn.never rfl (q1a K (pv 1)) (q9c rfl (q2n (qr (i:=5) q6h.nd rfl (Or.inl rfl)) (q2n (qr (i:=6) q6h.nd rfl (Or.inl rfl)) q7v))) (qg (q2s (qy (qdg T) hr rfl (pa_3 (pv 2) (qm (qoq K) (pv 3) (pv 5)) (qm qyk (pv 4) (pv 6)))))))))
   (qk (qy (q9l T) hr rfl (pa_1 (pv 2))))),?_⟩
  have l1:=Paired.length hA;have l2:=Paired.length hB;have J:∀ i j:Nat,i<=200 ->j<=200 ->i*j<=40000:=λ i j hi hj=>z41 (z3j hi hj) (by decide);refine λ d hd=> ?_;have s1:=qf (o:=HO.dT []) hd;refine ⟨_,zr,a,zr,⟨_,SqL.of (s1 _ _ ha)⟩,q29 (xs:=xs) (λ i σ G=>Same H G/\(∃ v1 v2 v3 v4,σ=[some (.ref a),some (.ref b),some (.ref d),v1,v2,v3,v4])/\G d=some (encD (gath (prods (A.take i) B)))) ⟨s1,⟨_,_,_,_,zr⟩,qb⟩ (λ i σ G _ z=>SqL.of (z.1 _ _ ha)) ?_ ?_⟩
  ·rintro i x σ G hx ⟨sg,⟨v1,v2,v3,v4,rfl⟩,hW⟩;obtain ⟨p,a0,b3⟩:=q2f hA hx;obtain ⟨q,b1,rfl,hq,a4⟩:=b3.keep (Same.keepT sg);have hp:=hok p (z17 _ (z18 a0));have il:i < A.length:=(z07.mp a0).1;refine ⟨_,_,zr,SqT.of hq,zr,_,_,zr,_,_,zr,zr,?_⟩;refine ⟨_,rfl,b,rfl,⟨_,SqL.of (sg _ _ hb)⟩,q29 (xs:=ys) (λ j σ F=>Same H F/\F b1=some (.tup (p.1.map V.str))/\(∃ v3 v4,σ=[some (.ref a),some (.ref b),some (.ref d),some (.ref b1),some (.int p.2),v3,v4])/\F d=some (encD (gath (prods (A.take i) B++(B.take j).map (mulP p))))) ⟨sg,a4,⟨_,_,rfl⟩,by rw [List.take_zero,z44,z31];exact hW⟩ (λ j σ F _ z=>SqL.of (z.1 _ _ hb)) ?_ ?_⟩
   ·rintro j y σ F hy ⟨sf,O,⟨v3,v4,rfl⟩,Z⟩;obtain ⟨r,a1,b6⟩:=q2f hB hy;obtain ⟨q2,b2,rfl,b5,a5⟩:=b6.keep (Same.keepT sf);have hr:=hok r (z0w _ (z18 a1));have jl:j < B.length:=(z07.mp a1).1;refine ⟨_,_,zr,SqT.of b5,zr,_,_,zr,_,_,zr,zr,?_⟩;refine ⟨_,zr,_,zr,_,zr,b1,b2,_,_,zr,zr,SqT.of O,SqT.of a5,?_,λ t F2 a2 ht=> ?_⟩
    ·rw [z30,z30];exact z41 (show p.1.length+r.1.length<=1000000 by have:=hp.2.1;have:=hr.2.1;lia) (by decide)
    ·rw [<- z36] at ht;have a3:=a2 _ _ Z;obtain ⟨_,gl,_,_⟩:=q2q _ (prods (A.take i) B++(B.take j).map (mulP p)) rfl;rw [z1o,z30,qbz,z2g,z2g] at gl;have g2:=J (min i A.length) B.length (by lia) lb;refine ⟨_,zr,_,zr,_,_,zr,zr,⟨⟨hp.2.2.1,hp.2.2.2⟩,⟨hr.2.2.1,hr.2.2.2⟩⟩,d,t,_,p.1++r.1,p.2*r.2,zr,a3,.inr ht,by lia,λ F3 s3 a6=> ?_⟩;refine ⟨λ c o hc=>s3 c o (λ z=>by rw [z,hd] at hc;cases hc) (a2 _ _ (sf c o hc)),s3 b1 _ (λ z=>by rw [z,Z] at O;cases O) (a2 _ _ O),⟨_,_,rfl⟩,?_⟩;rw [z3h,a1,z36,<- z1y];show F3 d=some (encD (gath ((prods (A.take i) B++(B.take j).map (mulP p))++ [mulP p r])));rw [qbx];exact a6
   ·rintro σ F ⟨sf,O,⟨v3,v4,rfl⟩,Z⟩;rw [l2,z2t,<- qqq a0] at Z;exact ⟨sf,⟨_,_,_,_,zr⟩,Z⟩
  ·rintro σ G ⟨sg,⟨v1,v2,v3,v4,rfl⟩,hW⟩;rw [l1,z2t] at hW;obtain ⟨g1,g2,g3,g4⟩:=q2q (prods A B).length (prods A B) rfl;have gl:=qbz A B;have g5:=J A.length B.length la lb;refine ⟨_,zr,d,gath (prods A B),zr,hW,g1,by lia,λ kv a7 x hx=> ?_,λ l zs H2 s2 a8 a9 hz=>k l zs H2 (sg.trans s2) a8 (sg.free a9) hz⟩;obtain ⟨p,b4,e⟩:=z45.mp ((g3 kv.1).mp (z45.mpr ⟨kv,a7,rfl⟩));have b7:x∈p.1:=by
    have:x∈Tim.srt ql p.1:=by rw [show Tim.srt ql p.1=kv.1 from e];exact hx
    exact (Tim.qo ql p.1).mem_iff.mp this
   obtain ⟨p1,h1,p2,h2,rfl⟩:=q92 b4;rcases z2u.mp b7 with h | h
   ·exact (hok p1 (z17 _ h1)).1 x h
   ·exact (hok p2 (z0w _ h2)).1 x h
def lin (F:List Str ->Int) (ps:Tab):Int:=(ps.map λ p=>p.2*F p.1).sum
def qox (F:List Str ->Int) (ps J:Tab):lin F (ps++J)=lin F ps+lin F J:=by
 unfold lin;rw [z36,List.sum_append]
def q3d (F:List Str ->Int) (p:List Str×Int) (ps:Tab):lin F (p::ps)=p.2*F p.1+lin F ps:=rfl
def qvj (ps:Tab) (k:xD):(getA (gath ps) k).getD 0=lin (λ n=>if Tim.srt ql n=k then 1 else 0) ps:=by
 rw [(q2q ps.length ps rfl).2.2.2]
 induction ps with
 | nil=>rfl
 | cons p ps J=>
  rw [q3d];by_cases e:Tim.srt ql p.1=k
  ·rw [List.filter_cons_of_pos (by simpa using e),z3l,z3s,J,if_pos e,Int.mul_one]
  ·rw [List.filter_cons_of_neg (by simpa using e),J,if_neg e,Int.mul_zero,Int.zero_add]
def qt3 (F:List Str ->Int) (A B:Tab):lin F (prods A B)=lin (λ n=>lin (λ m=>F (n++m)) B) A:=by
 induction A with
 | nil=>rfl
 | cons p A J=>
  have e:prods (p::A) B=B.map (mulP p)++prods A B:=rfl;rw [e,qox,q3d,J]
  congr 1
  clear J e
  induction B with
  | nil=>show (0:Int)=p.2*0;rw [Int.mul_zero]
  | cons q B J=>
   rw [z3l,q3d,q3d,Int.mul_add,J]
   congr 1
   show p.2*q.2*F (p.1++q.1)=p.2*(q.2*F (p.1++q.1));rw [Int.mul_assoc]
def qyz (c:Int) (F:List Str ->Int) (ps:Tab):lin (λ n=>c*F n) ps=c*lin F ps:=by
 induction ps with
 | nil=>show (0:Int)=c*0;rw [Int.mul_zero]
 | cons p ps ih=>
  rw [q3d,q3d,ih,Int.mul_add]
  congr 1
  rw [<- Int.mul_assoc,Int.mul_comm p.2 c,Int.mul_assoc]
def tg (ps:Tab):Tab:=told (gath ps)
def PI (F:List Str ->Int):Prop:=∀ n m:List Str,n.Perm m ->F n=F m
theorem qoy {α:Type} (f g:α ->Int):∀ l:List α,(l.map λ x=>f x+g x).sum=(l.map f).sum+(l.map g).sum
 | []=>rfl
 | x::l=>by
  rw [z3l,z3l,z3l,z3s,z3s,z3s,qoy f g l]
  lia
theorem qlz {α:Type} (f:α ->Int) (h:∀ x,f x=0):∀ l:List α,(l.map f).sum=0
 | []=>rfl
 | x::l=>by rw [z3l,z3s,h,qlz f h l];rfl
theorem qm0:∀ {l:List Int},(∀ x∈l,0<=x) ->0<=l.sum
 | [],_=>z4a _
 | x::l,h=>by
  rw [z3s];have h1:=h x (z1p ..);have h2:=qm0 λ y hy=>h y (z16 _ hy)
  lia
theorem qm1 (F:List Str ->Int) (c:Int) (a:xD):∀ {S:xF},S.Nodup ->(S.map λ k=>(c*if a=k then 1 else 0)*F k).sum=if a∈S then c*F a else 0
 | [],_=>rfl
 | k::S,h=>by
  obtain ⟨h1,h2⟩:=z32.mp h;rw [z3l,z3s,qm1 F c a h2];by_cases e:a=k
  ·subst e;rw [if_pos rfl,if_neg h1,if_pos (z1p ..),Int.mul_one,Int.add_zero]
  ·rw [if_neg e,Int.mul_zero,Int.zero_mul,Int.zero_add];by_cases J:a∈S
   ·rw [if_pos J,if_pos (z16 _ J)]
   ·rw [if_neg J,if_neg (λ z=>(z3n.mp z).elim e J)]
theorem qoz (F:List Str ->Int) {S:xF} (J:S.Nodup):∀ {ps:Tab},(∀ p∈ps,Tim.srt ql p.1∈S) ->(S.map λ k=>lin (λ n=>if Tim.srt ql n=k then 1 else 0) ps*F k).sum=lin (λ n=>F (Tim.srt ql n)) ps
 | [],_=>qlz _ (λ k=>Int.zero_mul _) S
 | p::ps,h=>by
  have e:(S.map λ k=>lin (λ n=>if Tim.srt ql n=k then 1 else 0) (p::ps)*F k)=S.map λ k=>(p.2*if Tim.srt ql p.1=k then 1 else 0)*F k+lin (λ n=>if Tim.srt ql n=k then 1 else 0) ps*F k:=z1f λ k _=>by rw [q3d,Int.add_mul]
  rw [e,qoy,qm1 F p.2 _ J,if_pos (h p (z1p ..)),qoz F J λ q hq=>h q (z16 _ hq)];rfl
theorem qp0 (F:List Str ->Int):∀ {W:Tab},(∀ p∈W,0<=p.2) ->lin F (W.filter λ kv=>decide (0 < kv.2))=lin F W
 | [],_=>rfl
 | p::W,h=>by
  have J:=qp0 F λ q hq=>h q (z16 _ hq);by_cases e:0 < p.2
  ·rw [List.filter_cons_of_pos (by simpa using e),q3d,q3d,J]
  ·have e0:p.2=0:=by have:=h p (z1p ..);lia
   rw [List.filter_cons_of_neg (by simpa using e),q3d,e0,Int.zero_mul,Int.zero_add,J]
def qt4 {F G:List Str ->Int} (h:∀ n,F n=G n) (ps:Tab):lin F ps=lin G ps:=by
 have:F=G:=funext h;rw [this]
abbrev NN (ps:Tab):Prop:=∀ p∈ps,0<=p.2
def q119 {F:List Str ->Int} (hF:PI F) {ps:Tab} (h:NN ps):lin F (tg ps)=lin F ps:=by
  obtain ⟨h1,h2,h3,h4⟩:=q2q ps.length ps rfl;unfold tg told;rw [qp0]
  · have e:lin F ((Tim.srt qz ((gath ps).map (·.1))).map λ k=>(k,(getA (gath ps) k).getD 0))=((Tim.srt qz ((gath ps).map (·.1))).map λ k=>lin (λ n=>if Tim.srt ql n=k then 1 else 0) ps*F k).sum:=by
      unfold lin;rw [z47]
      congr 1
      refine z1f λ k _=> ?_;show (getA (gath ps) k).getD 0*F k=_;rw [qvj];rfl
    rw [e,qoz F ((Tim.qo qz _).nodup_iff.mpr h1) λ p J=>(Tim.qo qz _).mem_iff.mpr ((h3 _).mpr (z45.mpr ⟨p,J,rfl⟩))];exact qt4 (λ n=>hF _ _ (Tim.qo ql n)) ps
  · intro p J
    obtain ⟨k,_,rfl⟩:=z45.mp J;show 0<=(getA (gath ps) k).getD 0;rw [h4];refine qm0 λ x hx=> ?_;obtain ⟨q,hq,rfl⟩:=z45.mp hx;exact h q (z2x.mp hq).1
def q11a {ps:Tab}:∀ p∈tg ps,1<=p.2:=λ p hp=>(qeb.mp hp).2.2
def qqr (ps:Tab):NN (tg ps):=λ p hp=>z3w (by decide) (q11a p hp)
def qm2 {A B:Tab} (hA:NN A) (hB:NN B):NN (prods A B):=λ r hr=>by
 obtain ⟨p,hp,q,hq,rfl⟩:=q92 hr;exact z3k (hA p hp) (hB q hq)
def wsum (W:Tab):Int:=(W.map (·.2)).sum
def q4g (W:Tab):wsum W=lin (λ _=>1) W:=by
 unfold wsum lin
 congr 1
 exact z1f λ p _=>(Int.mul_one p.2).symm
def qvk (c:Int):PI λ _=>c:=λ _ _ _=>rfl
def Bd (n L:Nat) (b:Int) (W:Tab):Prop:=W.length<=n/\∀ p∈W,(∀ x∈p.1,PyData.strOk x=true)/\p.1.length<=L/\0<=p.2/\p.2<=b
def Bd.nn {n L:Nat} {b:Int} {W:Tab} (h:Bd n L b W):NN W:=λ p hp=>(h.2 p hp).2.2.1
def Bd.le {n L n' L':Nat} {b J:Int} {W:Tab} (h:Bd n L b W) (h1:n<=n') (h2:L<=L') (h3:b<=J):Bd n' L' J W:=
 ⟨z41 h.1 h1,λ p hp=>let ⟨a,b,c,d⟩:=h.2 p hp;⟨a,z41 b h2,c,z3w d h3⟩⟩
theorem qt5 {b:Int} (h0:0<=b):∀ {l:List Int},(∀ x∈l,x<=b) ->l.sum<=l.length*b
 | [],_=>by simp
 | x::l,h=>by
  rw [z3s,z2i,Int.natCast_add,Int.add_mul];have h1:=h x (z1p ..);have h2:=qt5 h0 λ y hy=>h y (z16 _ hy);have:((1:Nat):Int)*b=b:=Int.one_mul b
  lia
def qz0 {W:Tab} (h:NN W):0<=wsum W:=qm0 λ x hx=>by
 obtain ⟨p,hp,rfl⟩:=z45.mp hx;exact h p hp
theorem Bd.wsum {n L:Nat} {b:Int} {W:Tab} (h:Bd n L b W) (h0:0<=b):wsum W<=n*b:=by
 refine z3w (qt5 h0 λ x hx=> ?_) (Int.mul_le_mul_of_nonneg_right ?_ h0)
 ·obtain ⟨r,hr,rfl⟩:=z45.mp hx;exact (h.2 r hr).2.2.2
 ·rw [z30];have:=h.1
  lia
abbrev BW (W:Tab):Prop:=Bd 200 1000 (2^599) W
def WA (H:Hp) (l:Addr) (W:Tab):Prop:=∃ xs,H l=some (.lst xs)/\Paired (PlAt H) xs W/\BW W
def WA.same {H H':Hp} {l:Addr} {W:Tab} (h:WA H l W) (s:Same H H'):WA H' l W:=by
 obtain ⟨xs,h1,h2,h3⟩:=h;exact ⟨xs,s _ _ h1,q9k (Same.keepT s) h2,h3⟩
def WA.bd {H:Hp} {l:Addr} {W:Tab} (h:WA H l W):BW W:=by
 obtain ⟨xs,h1,h2,h3⟩:=h;exact h3
noncomputable def WA.xs {H : Hp} {l : Addr} {W : Tab} (h : WA H l W) : List V := Classical.choose h
theorem WA.lst {H:Hp} {l:Addr} {W:Tab} (h:WA H l W):H l=some (.lst h.xs):=(Classical.choose_spec h).1
def WA.prd {H:Hp} {l:Addr} {W:Tab} (h:WA H l W):Paired (PlAt H) h.xs W:=(Classical.choose_spec h).2.1
def WA.copy {H:Hp} {l q:Addr} {W:Tab} (h:WA H l W) (hq:H q=none):WA (upd H q (.lst h.xs)) q W:=⟨h.xs,qb,q9k (Same.keepT (qf hq)) h.prd,h.bd⟩
def WA.ok2 {H G:Hp} {a b:Addr} {A B:Tab} (wa:WA H a A) (wb:WA G b B):∀ p∈A++B,(∀ x∈p.1,PyData.strOk x=true)/\p.1.length<=1000/\0<=p.2/\p.2 < 2^600:=λ p hp=>by
 have h:(∀ x∈p.1,PyData.strOk x=true)/\p.1.length<=1000/\0<=p.2/\p.2<=2^599:=(z2u.mp hp).elim (wa.bd.2 p) (wb.bd.2 p);exact ⟨h.1,h.2.1,h.2.2.1,z1v h.2.2.2 (by decide)⟩
def WA.res {H:Hp} {l:Addr} {zs:List V} {ps:Tab} (hl:H l=some (.lst zs)) (hz:∀ H2,KeepT H H2 ->Paired (PlAt H2) zs (told (gath ps))) (bd:BW (tg ps)):WA H l (tg ps):=⟨zs,hl,hz H λ _ _ z=>z,bd⟩
def q134 (W:Tab) (ns:xD):Prop:=(ns.Pairwise λ a b=>ql a b=true)/\∀ x,x∈ns↔∃ kv∈W,x∈kv.1
def qvl {kvs:List (Key×V)} {k:Key} (v:V) (h:k∈kvs.map (·.1)):(putK kvs k v).map (·.1)=kvs.map (·.1):=by
 obtain ⟨p,hp,e⟩:=z45.mp h;unfold putK;rw [if_pos (z2p.mpr ⟨p,hp,z3c e⟩),z47];refine z1f λ J _=> ?_;show (if J.1=k then (J.1,v) else J).1=J.1;split <;> rfl
def qt6 {kvs:List (Key×V)} {k:Key} (v:V) (h:¬ k∈kvs.map (·.1)):(putK kvs k v).map (·.1)=kvs.map (·.1)++ [k]:=by
 unfold putK;rw [if_neg,z36]
 ·rfl
 ·intro z;obtain ⟨p,hp,e⟩:=z2p.mp z;exact h (z45.mpr ⟨p,hp,of_decide_eq_true e⟩)
def qm3 (H:Hp) (d:Addr) (ws:xD) (v:V):Prop:=∃ kvs,H d=some (.dK kvs)/\kvs.map (·.1)=ws.map Sum.inr/\ws.Nodup/\∀ kv∈kvs,kv.2=v
def qp1 {x:Str} {ws:xD}:(Sum.inr x:Key)∈ws.map Sum.inr↔x∈ws:=by
 rw [z45]
 constructor
 ·rintro ⟨y,hy,e⟩;cases e
  exact hy
 ·exact λ h=>⟨x,h,zr⟩
def qm4 {kvs:List (Key×V)} {k:Key} {v:V} (h:∀ O∈kvs,O.2=v):∀ O∈putK kvs k v,O.2=v:=λ O J=>by
 unfold putK at J;split at J
 ·obtain ⟨x,hx,e⟩:=z45.mp J;by_cases q:x.1=k
  ·rw [if_pos q] at e;rw [<- e]
  ·rw [if_neg q] at e;exact e ▸ h x hx
 ·rcases z2u.mp J with g | g
  ·exact h O g
  ·rw [z1m.mp g]
def qvm {H:Hp} {d:Addr} {ws:xD} {v:V} {x:Str} {kvs:List (Key×V)} (h1:kvs.map (·.1)=ws.map Sum.inr) (h2:ws.Nodup) (O:∀ kv∈kvs,kv.2=v):∃ J,qm3 (upd H d (.dK (putK kvs (Sum.inr x) v))) d J v/\(∀ y,y∈J↔y∈ws\/ y=x)/\J.length<=ws.length+1:=by
 by_cases h:x∈ws
 ·refine ⟨ws,⟨_,qb,?_,h2,qm4 O⟩,λ y=>⟨.inl,λ z=>z.elim id λ e=>e ▸ h⟩,Nat.le_succ _⟩;rw [qvl v (by rw [h1];exact qp1.mpr h),h1]
 ·refine ⟨ws++ [x],⟨_,qb,?_,qgg h2 h,qm4 O⟩,λ y=>by rw [z2u,z1m],by rw [z1o];exact z48 _⟩;rw [qt6 v (by rw [h1];exact λ z=>h (qp1.mp z)),h1,z36];rfl
def qvn:Sp:=λ vs H Q _=>∃ (l:Addr) (W:Tab),vs=[.ref l]/\WA H l W/\∀ p ns H',Same H H' ->H p=none ->H' p=some (.lst (ns.map V.str)) ->q134 W ns ->ns.length<=200000 ->Q (.ref p) H'
def qvo {W:Tab} {n L:Nat} (h:∀ p∈W,p.1.length<=L) (hn:W.length<=n):(W.flatMap (·.1)).length<=n*L:=by
 have:(W.flatMap (·.1)).length<=W.length*L:=by
  clear hn
  induction W with
  | nil=>simp
  | cons p W ih=>
   rw [List.flatMap_cons,z1o,z2i,Nat.add_mul];have h1:=h p (z1p ..);have h2:=ih λ q hq=>h q (z16 _ hq)
   lia
 exact z41 this (Nat.mul_le_mul_right _ hn)
def qo1 (T:Txt K mg):Def P w K mg base 1 "names_of" ["why"] qvn:=by
 refine T.qra.ok q4z (λ vs H Q E h=> ?_) λ f cdv A outer s H vs Q E hr h=> ?_
 ·obtain ⟨l,W,rfl,_⟩:=h;rfl
 ·obtain ⟨l,W,rfl,⟨xs,hl,hp,hb⟩,k⟩:=h;refine ⟨_,(q2p
   (qt (i:=1) q4z.nd rfl (Or.inl rfl) q54)
   (q1i PassesOwn.never rfl (q1a K (pv 0)) (q9c rfl (q2n (qr (i:=2) q4z.nd rfl (Or.inl rfl)) (q2n (qr (i:=3) q4z.nd rfl (Or.inl rfl)) q7v))) (qg (q1i PassesOwn.never rfl (q65 K (pv 2)) (qr (i:=4) q4z.nd rfl (Or.inl rfl)) (qg (q5f (q2a hr) (pv 1) (pv 4) q4o rfl)))))
   (qk (qp (qj3 rfl K) rfl T.q2e q26 (pa_1 (pv 1))))),?_⟩
  refine λ d hd=> ?_;have s1:=qf (o:=HO.dK []) hd;have xl:=Paired.length hp;have fl:∀ i,((W.take i).flatMap (·.1)).length<=200000:=λ i=>qvo (n:=200) (L:=1000) (λ p hp=>(hb.2 p (z15 hp)).2.1) (z41 (by rw [z2g];lia) hb.1);refine ⟨_,rfl,l,rfl,⟨_,SqL.of (s1 _ _ hl)⟩,q29 (xs:=xs) (λ i σ G=>Same H G/\(∃ v1 v2 v3,σ=[some (.ref l),some (.ref d),v1,v2,v3])/\∃ ws,qm3 G d ws (.bl true)/\(∀ x,x∈ws↔x∈(W.take i).flatMap (·.1))/\ws.length<=((W.take i).flatMap (·.1)).length) ⟨s1,⟨_,_,_,rfl⟩,[],⟨[],qb,rfl,z3g,λ _ z=>nomatch z⟩,λ x=>by simp,z4b _⟩ (λ i σ G _ z=>SqL.of (z.1 _ _ hl)) ?_ ?_⟩
  ·rintro i x σ G hx ⟨sg,⟨v1,v2,v3,rfl⟩,ws,hk,hm,J⟩;obtain ⟨kv,a5,a6⟩:=q2f hp hx;obtain ⟨q,b,rfl,hq,a2⟩:=a6.keep (Same.keepT sg);refine ⟨_,_,zr,SqT.of hq,zr,_,_,zr,_,_,zr,zr,?_⟩;have a0:(W.take (i+1)).flatMap (·.1)=(W.take i).flatMap (·.1)++kv.1:=by
    rw [z3h,a5,z1j];simp
   have a4:=fl (i+1);rw [a0,z1o] at a4;refine ⟨_,rfl,b,rfl,⟨_,SqT.of a2⟩,q9d (xs:=kv.1.map V.str) (λ j σ F=>Same H F/\F b=some (.tup (kv.1.map V.str))/\(∃ v3,σ=[some (.ref l),some (.ref d),some (.ref b),some (.int kv.2),v3])/\∃ ws,qm3 F d ws (.bl true)/\(∀ x,x∈ws↔x∈(W.take i).flatMap (·.1)\/ x∈kv.1.take j)/\ws.length<=((W.take i).flatMap (·.1)).length+j) ⟨sg,a2,⟨_,rfl⟩,ws,hk,λ x=>by rw [hm x];simp,J⟩ (λ j σ F _ z=>SqT.of z.2.1) ?_ ?_⟩
   ·rintro j y σ F hy ⟨sf,fb,⟨v3,rfl⟩,ws,⟨kvs,O,Z,a1,a3⟩,hm,J⟩;rw [z22] at hy;obtain ⟨z,hz,rfl⟩:=z0q.mp hy;have jl:j < kv.1.length:=(z07.mp hz).1;have kl:kvs.length=ws.length:=by
     have:=congrArg List.length Z;rw [z30,z30] at this;exact this
    obtain ⟨a7,g1,g2,g3⟩:=qvm (H:=F) (d:=d) (x:=z) Z a1 a3;refine ⟨_,rfl,_,rfl,d,_,rfl,DPut.k (k:=Sum.inr z) O (by rw [kl];exact z1r (show ws.length < 1000000 by lia) (by decide)),?_⟩;refine ⟨λ c o hc=>by rw [qh (λ e=>by rw [e,hd] at hc;cases hc)];exact sf c o hc,by rw [qh (λ e=>by rw [e,O] at fb;cases fb)];exact fb,⟨_,rfl⟩,a7,g1,λ x=> ?_,by lia⟩;rw [g2,hm,z3h,hz,or_assoc];simp
   ·rintro σ F ⟨sf,fb,⟨v3,rfl⟩,ws,hk,hm,J⟩;rw [z30,z2t] at hm;rw [z30] at J;refine ⟨sf,⟨_,_,_,zr⟩,ws,hk,λ x=> ?_,?_⟩
    ·rw [hm,a0,z2u]
    ·rw [a0,z1o];exact J
  ·rintro σ G ⟨sg,⟨v1,v2,v3,rfl⟩,ws,⟨kvs,O,Z,a1,a3⟩,hm,J⟩;rw [xl,z2t] at hm;have fl2:=fl xs.length;refine ⟨_,zr,d,kvs,ws,zr,O,Z,λ p hp=> ?_⟩;refine k p _ _ (sg.trans (qf hp)) (sg.free hp) qb ⟨qby q1n (Tim.q1v q1n _) ((Tim.qo ql _).nodup_iff.mpr a1),λ x=> ?_⟩ ?_
   ·rw [(Tim.qo ql _).mem_iff,hm,List.mem_flatMap]
   ·rw [(Tim.qo ql _).length_eq]
    lia
def qz1 {H:Hp} {l t J:Addr} {z:Str} (hz:PyData.strOk z=true) (h0:H J=none) (h1:upd H J (.tup [.str z]) t=none) (h2:upd (upd H J (.tup [.str z])) t (.tup [.ref J,.int 1]) l=none):WA (upd (upd (upd H J (.tup [.str z])) t (.tup [.ref J,.int 1])) l (.lst [.ref t])) l [([z],1)]:=by
 refine ⟨_,qb,.cons ⟨t,J,rfl,(qf h2) _ _ qb,(qf h2) _ _ ((qf h1) _ _ qb)⟩ .nil,(by show 1<=200;decide),λ p hp=> ?_⟩;rw [z1m.mp hp];refine ⟨λ x hx=> ?_,by show 1<=1000;decide,?_,?_⟩
 ·rw [z1m.mp hx];exact hz
 ·show (0:Int)<=1;decide
 ·show (1:Int)<=2^599;decide
def qz2:Sp:=λ vs H Q _=>∃ (z:Str),vs=[.str z]/\PyData.strOk z=true/\∀ l H',Same H H' ->H l=none ->WA H' l [([z],1)] ->Q (.ref l) H'
def qqs (T:Txt K mg):Def P w K mg base 1 "of_fact" ["name"] qz2:=by
 refine T.qu8.ok qqo (λ vs H Q E h=> ?_) λ f cdv A outer s H vs Q E hr h=> ?_
 ·obtain ⟨z,rfl,_⟩:=h;rfl
 ·obtain ⟨z,rfl,hz,k⟩:=h;refine ⟨_,(qg (qk (q24 (pa_1 (q6w (pa_2 (q6w (pa_1 (pv 0))) qd)))))),?_⟩;refine ⟨_,rfl,by show 1<=sizeLine;decide,λ t0 h0=>⟨by show 2<=sizeLine;decide,λ t h1=>⟨by show 1<=sizeLine;decide,λ l h2=> ?_⟩⟩⟩;have sm:=(qf (o:=HO.tup [.str z]) h0).trans ((qf (o:=HO.tup [.ref t0,.int 1]) h1).trans (qf (o:=HO.lst [.ref t]) h2));exact k l _ sm (((qf h0).trans (qf h1)).free h2) (qz1 hz h0 h1 h2)
abbrev Sub:=Str ->Tab
def NS (D:Sub):Prop:=∀ x,NN (D x)
def fillP (D:Sub) (S:Tab):List Str ->Tab
 | []=>S
 | x::p=>fillP D (tg (prods S (D x))) p
theorem qak (D:Sub) (x:Str):∀ (p:xD) (S:Tab),fillP D S (p++ [x])=tg (prods (fillP D S p) (D x))
 | [],S=>rfl
 | y::p,S=>qak D x p _
theorem qec {D:Sub}:∀ (p:xD) {S:Tab},NN S ->NN (fillP D S p)
 | [],_,h=>h
 | _::p,_,_=>qec p (qqr _)
def q1z (D:Sub) (W:Tab):Tab:=W.flatMap λ p=>fillP D [([],p.2)] p.1
def qm5 {w:Int} (h:0<=w):NN [(([]:xD),w)]:=λ p hp=>by
 rw [z1m.mp hp];exact h
def qp2 {D:Sub} {W:Tab} (h:NN W):NN (q1z D W):=λ r hr=>by
 obtain ⟨p,hp,hr⟩:=List.mem_flatMap.mp hr;exact qec p.1 (qm5 (h p hp)) r hr
def qqt (x:Str):Tab:=[([x],1)]
def qz3 (x:Str):NN (qqt x):=λ p hp=>by
 rw [z1m.mp hp];show (0:Int)<=1;decide
def Bs (n L:Nat) (c:Int) (W:Tab):Prop:=W.length<=n/\(∀ p∈W,(∀ x∈p.1,PyData.strOk x=true)/\p.1.length<=L/\0<=p.2)/\wsum W<=c
def Bs.nn {n L:Nat} {c:Int} {W:Tab} (h:Bs n L c W):NN W:=λ p hp=>(h.2.1 p hp).2.2
def Bs.bw {n L:Nat} {c:Int} {W:Tab} (h:Bs n L c W) (h1:n<=200) (h2:L<=1000) (h3:c<=2^599):BW W:=⟨z41 h.1 h1,λ p J=>by
 obtain ⟨a,b,d⟩:=h.2.1 p J;refine ⟨a,z41 b h2,d,z3w (z3w ?_ h.2.2) h3⟩;exact qly (λ x hx=>by obtain ⟨q,hq,rfl⟩:=z45.mp hx;exact h.nn q hq) (z45.mpr ⟨p,J,rfl⟩)⟩
def Bs.le {n L n' L':Nat} {c c':Int} {W:Tab} (h:Bs n L c W) (h1:n<=n') (h2:L<=L') (h3:c<=c'):Bs n' L' c' W:=
 ⟨z41 h.1 h1,λ p hp=>let ⟨a,b,d⟩:=h.2.1 p hp;⟨a,z41 b h2,d⟩,z3w h.2.2 h3⟩
theorem Bs.tg {n L:Nat} {c:Int} {W:Tab} (h:Bs n L c W):Bs n L c (tg W):=by
 obtain ⟨g1,g2,g3,g4⟩:=q2q W.length W rfl;refine ⟨z41 (qvf _) (z41 g2 h.1),λ p hp=> ?_,?_⟩
 ·obtain ⟨m1,m2,m3⟩:=qeb.mp hp;obtain ⟨q,hq,e⟩:=z45.mp ((g3 p.1).mp m1);have e':Tim.srt ql q.1=p.1:=e;obtain ⟨c1,c2,c3⟩:=h.2.1 q hq;refine ⟨λ x hx=>c1 x ((Tim.qo ql _).mem_iff.mp (e' ▸ hx)),?_,by lia⟩;rw [<- e',(Tim.qo ql _).length_eq];exact c2
 ·rw [q4g,q119 (qvk 1) h.nn,<- q4g];exact h.2.2
def Bs.app {n m L:Nat} {c d:Int} {A B:Tab} (J:Bs n L c A) (O:Bs m L d B):Bs (n+m) L (c+d) (A++B):=
 ⟨by rw [z1o];exact Nat.add_le_add J.1 O.1,λ p hp=>(z2u.mp hp).elim (J.2.1 p) (O.2.1 p),by rw [q4g,qox,<- q4g,<- q4g];have:=J.2.2;have:=O.2.2;lia⟩
def qqu (A B:Tab):wsum (prods A B)=wsum A*wsum B:=by
 rw [q4g,qt3,q4g A,q4g B];have:∀ c:Int,lin (λ _=>c) A=lin (λ _=>1) A*c:=λ c=>by
  have:=qyz c (λ _=>1) A;rw [Int.mul_one] at this;rw [this,Int.mul_comm]
 exact this _
theorem Bs.prods {n m L M:Nat} {c d:Int} {A B:Tab} (O:Bs n L c A) (J:Bs m M d B) (h0:0<=c):Bs (n*m) (L+M) (c*d) (prods A B):=
 ⟨by rw [qbz];exact z3j O.1 J.1,λ r hr=>by
  obtain ⟨p,hp,q,hq,rfl⟩:=q92 hr;obtain ⟨a1,a2,a3⟩:=O.2.1 p hp;obtain ⟨b1,b2,b3⟩:=J.2.1 q hq;refine ⟨λ x hx=>(z2u.mp hx).elim (a1 x) (b1 x),?_,z3k a3 b3⟩;show (p.1++q.1).length<=_;rw [z1o];exact Nat.add_le_add a2 b2,by
  rw [qqu];exact Int.mul_le_mul O.2.2 J.2.2 (qz0 J.nn) h0⟩
def qp3 {d:Int} (h:1<=d) {a b:Nat} (J:a<=b):d^a<=d^b:=by
 obtain ⟨k,rfl⟩:=Nat.exists_eq_add_of_le J;clear J
 induction k with
 | zero=>exact z4a _
 | succ k ih=>
  rw [<- Nat.add_assoc,Int.pow_succ];have h1:=z02 h (Int.pow_nonneg (m:=a+k) (show (0:Int)<=d by lia));rw [Int.mul_one] at h1;exact z3w ih h1
theorem Bs.fillP {m M:Nat} {d:Int} {D:Sub} (hd:0<=d):∀ (p:xD) (_:∀ x∈p,Bs m M d (D x)) {n L:Nat} {c:Int} {S:Tab},Bs n L c S ->0<=c ->Bs (n*m^p.length) (L+p.length*M) (c*d^p.length) (fillP D S p)
 | [],_,n,L,c,S,h,_=>by
  refine h.le ?_ ?_ ?_ <;> simp
 | x::p,J,n,L,c,S,h,h0=>by
  have ih:=Bs.fillP hd p (λ y hy=>J y (z16 _ hy)) (h.prods (J x (z1p ..)) h0).tg (z3k h0 hd);refine ih.le ?_ ?_ ?_
  ·rw [z2i,Nat.pow_succ,Nat.mul_assoc,Nat.mul_comm m];exact z48 _
  ·rw [z2i,Nat.add_mul]
   lia
  ·rw [z2i,Int.pow_succ,Int.mul_assoc,Int.mul_comm d];exact z4a _
theorem Bs.flat {m M:Nat} {d:Int} {D:Sub} (Z:∀ x,PyData.strOk x=true ->Bs m M d (D x)) (hm:1<=m) (hd:1<=d) {L:Nat}:∀ {W:Tab} {n:Nat} {c:Int},Bs n L c W ->Bs (n*m^L) (L*M) (c*d^L) (q1z D W)
 | [],n,c,h=>⟨z4b _,λ _ z=>(nomatch z),by
  have:(0:Int)<=c:=h.2.2;exact z3k this (Int.pow_nonneg (by lia))⟩
 | p::W,n,c,h=>by
  obtain ⟨hl,hp,hc⟩:=h;obtain ⟨n,rfl⟩:∃ k,n=k+1:=⟨n - 1,by rw [z2i] at hl;lia⟩;obtain ⟨a1,J,O⟩:=hp p (z1p ..);have hW:Bs n L (c - p.2) W:=⟨by rw [z2i] at hl;lia,λ q hq=>hp q (z16 _ hq),by
   have e:wsum (p::W)=p.2+wsum W:=rfl
   lia⟩
  have ih:=Bs.flat Z hm hd hW;have h1:Bs 1 0 p.2 [([],p.2)]:=⟨z48 _,λ q hq=>by
   rw [z1m.mp hq];exact ⟨λ _ z=>(nomatch z),z48 _,O⟩,by show p.2+0<=p.2;lia⟩
  have f1:=(Bs.fillP (by lia) p.1 (λ x hx=>Z x (a1 x hx)) h1 O).le (n':=m^L) (L':=L*M) (c':=p.2*d^L) (by rw [Nat.one_mul];exact Nat.pow_le_pow_right hm J) (by rw [z3x];exact Nat.mul_le_mul_right M J) (z02 (qp3 hd J) O);have e:q1z D (p::W)=Wy.fillP D [([],p.2)] p.1++q1z D W:=rfl;rw [e];refine (f1.app ih).le ?_ (z48 _) ?_
  ·rw [Nat.add_mul,Nat.one_mul]
   lia
  ·rw [<- Int.add_mul];exact Int.le_of_eq (by congr 1;lia)
def FP (H:Hp) (kv:Key×V) (p:Str×Tab):Prop:=kv.1=Sum.inr p.1/\∃ l,kv.2= .ref l/\WA H l p.2
abbrev Fill:=List (Str×Tab)
def FD (H:Hp) (d:Addr) (D:Fill):Prop:=∃ kvs,Rd H d (.dK kvs)/\Paired (FP H) kvs D
def fget (D:Fill) (x:Str):Option Tab:=(D.find? λ p=>decide (p.1=x)).map (·.2)
def sb (D:Fill):Sub:=λ x=>(fget D x).getD (qqt x)
theorem q6i {H H':Hp} (s:Same H H'):∀ {kvs:List (Key×V)} {D:Fill},Paired (FP H) kvs D ->Paired (FP H') kvs D
 | _,_,.nil=> .nil
 | _,_,.cons ⟨e,l,e2,w⟩ r=> .cons ⟨e,l,e2,w.same s⟩ (q6i s r)
def Rd.same {H H':Hp} {d:Addr} {o:HO} (h:Rd H d o) (s:Same H H'):Rd H' d o:=h.imp (s _ _) λ ⟨ob,e⟩=>⟨ob,s _ _ e⟩
theorem FD.same {H H':Hp} {d:Addr} {D:Fill} (h:FD H d D) (s:Same H H'):FD H' d D:=by
 obtain ⟨kvs,h1,h2⟩:=h;exact ⟨kvs,Wy.Rd.same h1 s,q6i s h2⟩
theorem qm6 (x:Str) {H:Hp}:∀ {kvs:List (Key×V)} {D:Fill},Paired (FP H) kvs D ->(valV kvs (Sum.inr x)=none/\fget D x=none)\/ ∃ l W,valV kvs (Sum.inr x)=some (.ref l)/\fget D x=some W/\WA H l W
 | _,_,.nil=> .inl ⟨rfl,rfl⟩
 | J::kvs,p::D,.cons ⟨e,l,e2,w⟩ r=>by
  by_cases h:p.1=x
  ·refine .inr ⟨l,p.2,?_,?_,w⟩
   ·unfold valV;rw [z0s (by rw [e,h];simp),<- e2];rfl
   ·unfold fget;rw [z0s (by simpa using h)];rfl
  ·have hk:¬ J.1=Sum.inr x:=λ z=>h (by rw [e] at z;injection z);have e1:valV (J::kvs) (Sum.inr x)=valV kvs (Sum.inr x):=by
    unfold valV;rw [z0t (by simpa using hk)]
   have e3:fget (p::D) x=fget D x:=by
    unfold fget;rw [z0t (by simpa using h)]
   rw [e1,e3];exact qm6 x r
def q11b {H:Hp} {l t J:Addr} {w:Int} (hb:BW [([],w)]) (h0:H J=none) (h1:upd H J (.tup []) t=none) (h2:upd (upd H J (.tup [])) t (.tup [.ref J,.int w]) l=none):WA (upd (upd (upd H J (.tup [])) t (.tup [.ref J,.int w])) l (.lst [.ref t])) l [([],w)]:=
 ⟨_,qb,.cons ⟨t,J,rfl,(qf h2) _ _ qb,(qf h2) _ _ ((qf h1) _ _ qb)⟩ .nil,hb⟩
def qqv:Sp:=λ vs H Q _=>∃ (b d:Addr) (p:xD) (n:Int) (D:Fill),vs=[.ref b,.int n,.ref d]/\H b=some (.tup (p.map V.str))/\FD H d D/\(∀ x∈p,PyData.strOk x=true)/\(∀ i,BW (fillP (sb D) [([],n)] (p.take i)))/\
 ∀ l H',Same H H' ->H l=none ->WA H' l (fillP (sb D) [([],n)] p) ->Q (.ref l) H'
def qcz (T:Txt K mg):Def P w K mg base 3 "product_filled" ["product","ways","whys"] qqv:=by
 refine T.qeq.ok q3e (λ vs H Q E h=> ?_) λ f cdv A outer s H vs Q E hr h=> ?_
 ·obtain ⟨b,d,p,n,D,rfl,_⟩:=h;rfl
 ·obtain ⟨b,d,p,n,D,rfl,hb,hD,hok,a0,k⟩:=h;refine ⟨_,(q2p
   (qt (i:=3) q3e.nd rfl (Or.inl rfl) (q24 (pa_1 (q6w (pa_2 (q6w q2g) (pv 1))))))
   (q1i PassesOwn.never rfl (q65 K (pv 0)) (qr (i:=4) q3e.nd rfl (Or.inl rfl)) (qg (qt (i:=3) q3e.nd rfl (Or.inl rfl) (qy (qvi T) hr rfl (pa_2 (pv 3) (qlg (q2a hr) (pv 2) (pv 4) (qy (qqs T) hr rfl (pa_1 (pv 4))) ⟨rfl,rfl,rfl,rfl⟩))))))
   (qk (pv 3))),?_⟩
  refine ⟨by show 0<=sizeLine;decide,λ t0 h0=>⟨_,rfl,by show 2<=sizeLine;decide,λ t h1=>⟨by show 1<=sizeLine;decide,λ l h2=> ?_⟩⟩⟩;have s1:=(qf (o:=HO.tup []) h0).trans ((qf (o:=HO.tup [.ref t0,.int n]) h1).trans (qf (o:=HO.lst [.ref t]) h2));have J:H l=none:=((qf h0).trans (qf h1)).free h2;have w1:=q11b (show BW [([],n)] from a0 0) h0 h1 h2;generalize upd (upd (upd H t0 (.tup [])) t (.tup [.ref t0,.int n])) l (.lst [.ref t])=H1 at*;refine ⟨_,zr,b,zr,⟨_,SqT.of (s1 _ _ hb)⟩,q9d (xs:=p.map V.str) (λ i σ G=>Same H G/\∃ l v,σ=[some (.ref b),some (.int n),some (.ref d),some (.ref l),v]/\H l=none/\WA G l (fillP (sb D) [([],n)] (p.take i))) ⟨s1,l,_,zr,J,w1⟩ (λ i σ G _ z=>SqT.of (z.1 _ _ hb)) ?_ ?_⟩
  ·rintro i x σ G hx ⟨sg,l,v,rfl,J,wl⟩;rw [z22] at hx;obtain ⟨z,hz,rfl⟩:=z0q.mp hx;have b3:=z18 hz;have a5:=hD.same sg;obtain ⟨kvs,a3,a9⟩:=a5;have bi:=a0 (i+1);have Z:p.take (i+1)=p.take i++ [z]:=by
    rw [z3h,hz];rfl
   rw [Z,qak] at bi;refine ⟨_,zr,_,zr,d,zr,.inl ⟨_,a3⟩,_,zr,_,zr,z,zr,hok z b3,λ lf G2 s2 _ wf=> ?_⟩;have a2:=q6i s2 a9;have a4:=Wy.Rd.same a3 s2;have a1:DGet G2 d (.str z) (valV kvs (Sum.inr z)):= .inl ⟨kvs,Sum.inr z,a4,rfl,rfl⟩;obtain ⟨lw,a7,ww⟩:∃ lw,(valV kvs (Sum.inr z)).getD (.ref lf)= .ref lw/\WA G2 lw (sb D z):=by
    rcases qm6 z a2 with ⟨e1,e2⟩ | ⟨l2,W2,e1,e2,w2⟩
    ·exact ⟨lf,by rw [e1];rfl,by unfold sb;rw [e2];exact wf⟩
    ·exact ⟨l2,by rw [e1];rfl,by unfold sb;rw [e2];exact w2⟩
   refine ⟨_,a1,?_⟩;rw [a7];have O:=wl.same s2;refine ⟨_,_,_,_,_,_,zr,O.lst,ww.lst,O.prd,ww.prd,O.bd.1,ww.bd.1,O.ok2 ww,λ o zs G3 s3 a6 a8 b2=> ?_⟩;refine ⟨sg.trans (s2.trans s3),o,_,zr,(sg.trans s2).free a8,?_⟩;rw [Z,qak];exact WA.res a6 b2 bi
  ·rintro σ G ⟨sg,l,v,rfl,J,wl⟩;rw [z30,z2t] at wl;exact ⟨_,zr,k l G sg J wl⟩
def qt7 (D:Fill) (W:Tab):Prop:=(∀ p∈W,∀ i,BW (fillP (sb D) [([],p.2)] (p.1.take i)))/\(q1z (sb D) W).length<=10000/\BW (tg (q1z (sb D) W))
def qt8:Sp:=λ vs H Q _=>∃ (l d:Addr) (W:Tab) (D:Fill),vs=[.ref l,.ref d]/\WA H l W/\FD H d D/\qt7 D W/\∀ q H',Same H H' ->H q=none ->WA H' q (tg (q1z (sb D) W)) ->Q (.ref q) H'
def qig {D:Sub} {W:Tab} {i:Nat} {p:List Str×Int} (h:W[i]? =some p):q1z D (W.take (i+1))=q1z D (W.take i)++fillP D [([],p.2)] p.1:=by
 unfold q1z;rw [z3h,h,z1j]
 congr 1
 simp
def qjh {D:Sub} (W:Tab) (i:Nat):(q1z D (W.take i)).length<=(q1z D W).length:=by
 have:q1z D W=q1z D (W.take i)++q1z D (W.drop i):=by
  unfold q1z;rw [<- z1j,z0v]
 rw [this,z1o]
 lia
def qt9 (T:Txt K mg):Def P w K mg base 4 "filled" ["why","whys"] qt8:=by
 refine T.qwu.ok q91 (λ vs H Q E h=> ?_) λ f cdv A outer s H vs Q E hr h=> ?_
 ·obtain ⟨l,d,W,D,rfl,_⟩:=h;rfl
 ·obtain ⟨l,d,W,D,rfl,⟨xs,hl,hp,hb⟩,hD,⟨f1,f2,f3⟩,k⟩:=h;have xl:=Paired.length hp;refine ⟨_,(q2p
   (qt (i:=2) q91.nd rfl (Or.inl rfl) (q24 q2g))
   (q1i PassesOwn.never rfl (q1a K (pv 0)) (q9c rfl (q2n (qr (i:=3) q91.nd rfl (Or.inl rfl)) (q2n (qr (i:=4) q91.nd rfl (Or.inl rfl)) q7v))) (qg (q2s (q7s z0l z0e z0f q6y (pv 2) (pa_1 (qy (qcz T) hr rfl (pa_3 (pv 3) (pv 4) (pv 1))))))))
   (qk (qy (qo0 T) hr rfl (pa_1 (pv 2))))),?_⟩
  refine ⟨by decide,λ pr a0=> ?_⟩;have s0:=qf (o:=HO.lst []) a0;refine ⟨_,zr,l,zr,⟨_,SqL.of (s0 _ _ hl)⟩,q29 (xs:=xs) (λ i σ G=>Same H G/\(∃ v1 v2,σ=[some (.ref l),some (.ref d),some (.ref pr),v1,v2])/\∃ ys,G pr=some (.lst ys)/\∀ H2,KeepT G H2 ->Paired (PlAt H2) ys (q1z (sb D) (W.take i))) ⟨s0,⟨_,_,zr⟩,[],qb,λ _ _=> .nil⟩ (λ i σ G _ z=>SqL.of (z.1 _ _ hl)) ?_ ?_⟩
  ·rintro i x σ G hx ⟨Z,⟨v1,v2,rfl⟩,ys,hy,J⟩;obtain ⟨kv,O,a5⟩:=q2f hp hx;obtain ⟨q,b,rfl,hq,a3⟩:=a5.keep (Same.keepT Z);have hm:=z18 O;refine ⟨_,_,zr,SqT.of hq,zr,_,_,zr,_,_,zr,zr,?_⟩;refine ⟨_,zr,.inl ⟨zr,_,SqL.of hy⟩,_,zr,_,zr,_,zr,b,d,kv.1,kv.2,D,zr,a3,hD.same Z,(hb.2 kv hm).1,f1 kv hm,λ lp G2 s2 hlp wp=> ?_⟩;have a2:=s2 _ _ hy;have yl:ys.length=(q1z (sb D) (W.take i)).length:=Paired.length (J G λ _ _ z=>z);have zl:=Paired.length wp.prd;have fl:=qjh (D:=sb D) W (i+1);rw [qig O,z1o] at fl;refine ⟨_,_,_,_,rfl,rfl,a2,wp.lst,z41 (show ys.length+wp.xs.length<=1000000 by lia) (by decide),?_⟩;refine ⟨(Z.trans s2).set a0,⟨_,_,zr⟩,ys++wp.xs,qb,λ H5 h5=> ?_⟩;rw [qig O];have kk:KeepT G2 H5:=(KeepT.upd (λ b ys e=>e) a2).trans h5;exact q1r (J H5 ((Same.keepT s2).trans kk)) (q9k kk wp.prd)
  ·rintro σ G ⟨Z,⟨v1,v2,rfl⟩,ys,hy,J⟩;rw [xl,z2t] at J;have a1:=J G λ _ _ z=>z;refine ⟨_,zr,pr,ys,q1z (sb D) W,zr,SqL.of hy,qif a1,by lia,λ p a4 x hx=> ?_,λ q zs G2 s2 hq a6 hz=> ?_⟩
   ·obtain ⟨r,a7,a8⟩:=List.mem_flatMap.mp a4;have:=f1 r a7 r.1.length;rw [z2t] at this;exact (this.2 p a8).1 x hx
   ·exact k q G2 (Z.trans s2) (Z.free a6) (WA.res hq hz f3)
def qqw {n L:Nat} {c:Int} {W:Tab} (h:Bs n L c W) {p:List Str×Int} (hp:p∈W):p.2<=c:=
 z3w (qly (λ x hx=>by obtain ⟨q,hq,rfl⟩:=z45.mp hx;exact h.nn q hq) (z45.mpr ⟨p,hp,rfl⟩)) h.2.2
def qz4 {D:Fill} {W:Tab} {n L m M:Nat} {c d:Int} (hW:Bs n L c W) (hD:∀ x,PyData.strOk x=true ->Bs m M d (sb D x)) (hm:1<=m) (hd:1<=d) (h1:n*m^L<=200) (h2:L*M<=1000) (Z:c*d^L<=2^599) (h4:m^L<=200):qt7 D W/\Bs (n*m^L) (L*M) (c*d^L) (tg (q1z (sb D) W)):=by
 have hf:=Bs.flat hD hm hd hW;refine ⟨⟨λ p O i=> ?_,z41 hf.1 (z41 h1 (by decide)),hf.tg.bw h1 h2 Z⟩,hf.tg⟩;obtain ⟨a1,a2,J⟩:=hW.2.1 p O;have hl:(p.1.take i).length<=L:=z41 (by rw [z2g];lia) a2;have hs:Bs 1 0 p.2 [([],p.2)]:=⟨z48 _,λ q hq=>by
  rw [z1m.mp hq];exact ⟨λ _ z=>(nomatch z),z48 _,J⟩,by show p.2+0<=p.2;lia⟩
 refine (Bs.fillP (by lia) (p.1.take i) (λ x hx=>hD x (a1 x (z15 hx))) hs J).bw ?_ ?_ ?_
 ·rw [Nat.one_mul];exact z41 (Nat.pow_le_pow_right hm hl) h4
 ·rw [z3x];exact z41 (Nat.mul_le_mul_right M hl) h2
 ·refine z3w (Int.mul_le_mul (qqw hW O) (qp3 hd hl) (Int.pow_nonneg (by lia)) ?_) Z;exact z3w J (qqw hW O)
def qz5 {x:Str} (h:PyData.strOk x=true):Bs 1 1 1 (qqt x):=⟨z48 _,λ p hp=>by
 rw [z1m.mp hp];refine ⟨λ y hy=>by rw [z1m.mp hy];exact h,z48 _,?_⟩;show (0:Int)<=1;decide,by show (1:Int)+0<=1;decide⟩
def q135 {D:Fill} (h:∀ p∈D,NN p.2):NS (sb D):=λ x=>by
 unfold sb;cases e:fget D x with
 | none=>exact qz3 x
 | some W=>
  unfold fget at e;obtain ⟨p,hp,rfl⟩:=z0q.mp e;exact h p (z0c hp)
def qz6 (K:xA):Sp:=λ vs H Q _=>∃ (a:Addr) (ns:List Int) (k:Int),vs=[.ref a,.int k]/\SqL K H a (ns.map V.int)/\0<=k/\Q (.int (ns.getD k.toNat 0)) H
def q37 (T:Txt K mg):Def P w K mg base 1 "_law_cell_at" ["_law_script","_law_k"] (qz6 K):=by
 refine T.qhs.ok qfh (λ vs H Q E h=> ?_) λ f cdv A outer s H vs Q E hr h=> ?_
 ·obtain ⟨a,ns,k,rfl,_⟩:=h;rfl
 ·obtain ⟨a,ns,k,rfl,O,h0,q⟩:=h;refine ⟨_,(q2x
   (q1g (q13 qx1 (pv 1) (qp (q2r K) rfl T.b_len q3w (pa_1 (pv 0))) (q14 _)) (qg (qk (q1h (q16 K) (pv 0) (pv 1) (λ _ _=>rfl)))) q18)
   (qk qd)),?_⟩
  refine ⟨_,zr,_,zr,_,_,zr,.inl ⟨_,O,zr⟩,_,_,zr,zr,_,zr,?_⟩;rw [z30];refine ite2 (λ h1=> ?_) (λ h1=> ?_)
  ·have J:k < ns.length:=by simpa using h1
   have hk:k.toNat < ns.length:=by lia
   refine ⟨_,zr,_,zr,_,_,_,V.int (ns.getD k.toNat 0),zr,zr,O,?_,q⟩;rw [q10u h0 (by rw [z30];exact J),z22,z0d hk,qoo hk];rfl
  ·have J:¬ k < ns.length:=by simpa using h1
   have e:ns.getD k.toNat 0=0:=by
    exact qyg (by lia)
   rw [e] at q;exact q
def kidV (kvs:List (Key×V)) (w:Str):Option Addr:=match valV kvs (Sum.inr w) with
 | some (.ref b)=>some b
 | _=>none
def q8m (H:Hp) (a:Addr):List (Key×V):=match H a with
 | some (.dK kvs)=>kvs
 | _=>[]
def go (H:Hp):Addr ->List Str ->Option Addr
 | a,[]=>some a
 | a,w::ws=>(kidV (q8m H a) w).bind λ b=>go H b ws
theorem q3j (H:Hp):∀ (x y:xD) (a:Addr),go H a (x++y)=(go H a x).bind λ b=>go H b y
 | [],y,a=>rfl
 | w::x,y,a=>by
  show (kidV (q8m H a) w).bind (λ b=>go H b (x++y))=((kidV (q8m H a) w).bind λ b=>go H b x).bind λ b=>go H b y;cases kidV (q8m H a) w with
  | none=>rfl
  | some b=>exact q3j H x y b
def q1o {H:Hp} {a:Addr} {kvs:List (Key×V)} (e:H a=some (.dK kvs)) (w:Str) (ws:xD):go H a (w::ws)=(kidV kvs w).bind λ b=>go H b ws:=by
 show (kidV (q8m H a) w).bind (λ b=>go H b ws)=_;rw [show q8m H a=kvs by unfold q8m;rw [e]]
structure Nodes (H:Hp) (r:Addr):Prop where
 node:∀ p a,go H r p=some a ->∃ kvs,H a=some (.dK kvs)
 inj:∀ p q a,go H r p=some a ->go H r q=some a ->p=q
def qz7 (kvs:List (Key×V)) (w u:Str) (m:Addr):kidV (putK kvs (Sum.inr w) (.ref m)) u=if u=w then some m else kidV kvs u:=by
 unfold kidV;rw [q47];by_cases h:u=w
 ·rw [if_pos h,if_pos (by rw [h])]
 ·rw [if_neg h,if_neg (λ z=>h (by injection z))]
def q11c {H:Hp} {r a m:Addr} {p:xD} {w:Str} {kvs:List (Key×V)} (N:Nodes H r) (ha:go H r p=some a) (hk:H a=some (.dK kvs)) (hn:kidV kvs w=none) (hm:H m=none):
    ∀ (y x:xD) (b:Addr),go H r x=some b ->go (upd (upd H m (.dK [])) a (.dK (putK kvs (Sum.inr w) (.ref m)))) b y=if x++y=p++ [w] then some m else go H b y:=by
  have a2:a≠m:=qu hk hm;have a3:go H r (p++ [w])=none:=by
    rw [q3j,ha];show go H a [w]=none;rw [q1o hk,hn];rfl
  intro y
  induction y with
  | nil=>
    intro x b O;rw [z31,if_neg (λ z=>by rw [z,a3] at O;cases O)];rfl
  | cons u ys ih=>
    intro x b O;obtain ⟨kb,J⟩:=N.node x b O;have step:∀ c,kidV kb u=some c ->go H r (x++ [u])=some c:=λ c Z=>by
      rw [q3j,O];show go H b [u]=some c;rw [q1o J,Z];rfl
    by_cases e:b=a
    · subst e
      have ex:x=p:=N.inj x p b O ha;subst ex;rw [hk] at J;cases J
      have e':upd (upd H m (.dK [])) b (.dK (putK kvs (Sum.inr w) (.ref m))) b=some (.dK (putK kvs (Sum.inr w) (.ref m))):=qb;rw [q1o e',qz7,q1o hk];by_cases hu:u=w
      · subst hu
        rw [if_pos rfl,hn];show go _ m ys=_;cases ys with
        | nil=>
          rw [if_pos rfl];rfl
        | cons v vs=>
          have em:upd (upd H m (.dK [])) b (.dK (putK kvs (Sum.inr u) (.ref m))) m=some (.dK []):=by rw [qh a2.symm,qb]
          rw [q1o em,if_neg (λ z=>by
            have:=List.append_cancel_left z;simp at this)]
          rfl
      · rw [if_neg hu]
        cases Z:kidV kvs u with
        | none=>
          rw [if_neg (λ z=>by
            have:=List.append_cancel_left z;simp at this
            exact hu this.1)]
          rfl
        | some c=>
          show go _ c ys=if _ then _ else go H c ys
          rw [ih (x++ [u]) c (step c Z),z1y];rfl
    · have a1:b≠m:=qu J hm
      have e':upd (upd H m (.dK [])) a (.dK (putK kvs (Sum.inr w) (.ref m))) b=some (.dK kb):=by rw [qh e,qh a1];exact J
      rw [q1o e',q1o J];cases Z:kidV kb u with
      | none=>
        rw [if_neg (λ z=> ?_)]
        · rfl
        · have:go H r (x++u::ys)=none:=by
            rw [q3j,O];show go H b (u::ys)=none;rw [q1o J,Z];rfl
          have h2:x=p:=by
            have hl:=congrArg List.length z;rw [z1o,z1o,z2i,z0y] at hl;by_cases hy:ys=[]
            · subst hy
              exact (List.append_inj' z rfl).1
            · exfalso
              have a0:x.length < p.length:=by
                have:0 < ys.length:=List.length_pos_iff.mpr hy
                lia
              have a4:x++ [u] <+:p:=by
                have h3:x++ [u] <+:p++ [w]:=⟨ys,by rw [z1y];exact z⟩;exact List.prefix_of_prefix_length_le h3 (List.prefix_append _ _) (by rw [z1o];exact a0)
              obtain ⟨t,ht⟩:=a4;rw [<- ht,q3j,q3j,O] at ha;have:go H b [u]=none:=by
                rw [q1o J,Z];rfl
              simp [this] at ha
          subst h2;rw [O] at ha;cases ha
          exact e rfl
      | some c=>
        show go _ c ys=if _ then _ else go H c ys
        rw [ih (x++ [u]) c (step c Z),z1y];rfl
def Ks (kvs:List (Key×V)) (us:xD):Prop:=kvs.map (·.1)=us.map Sum.inr/\us.Nodup
def qed (kvs:List (Key×V)) (k:Key):(valV kvs k).isSome=true↔∃ kv∈kvs,kv.1=k:=by
 unfold valV;rw [Option.isSome_map,List.find?_isSome];simp
def Ks.mem {kvs:List (Key×V)} {us:xD} (h:Ks kvs us) (w:Str):w∈us↔(valV kvs (.inr w)).isSome=true:=by
 rw [qed]
 constructor
 ·intro hw;have:(Sum.inr w:Key)∈kvs.map (·.1):=by
   rw [h.1];exact z45.mpr ⟨w,hw,zr⟩
  obtain ⟨O,hk,e⟩:=z45.mp this;exact ⟨O,hk,e⟩
 ·rintro ⟨O,hk,e⟩;have:(Sum.inr w:Key)∈us.map Sum.inr:=by
   rw [<- h.1,<- e];exact z45.mpr ⟨O,hk,zr⟩
  obtain ⟨u,hu,J⟩:=z45.mp this;injection J with J;rw [<- J];exact hu
def Ks.put {kvs:List (Key×V)} {us:xD} (h:Ks kvs us) (w:Str) (v:V):∃ O,Ks (putK kvs (.inr w) v) O:=by
 unfold putK;split
 ·refine ⟨us,?_,h.2⟩;rw [z47,<- h.1]
  apply z1f
  intro J _;show (if J.1=Sum.inr w then (J.1,v) else J).1=J.1;split <;> rfl
 ·rename_i z;refine ⟨us++ [w],by rw [z36,z36,h.1];rfl,?_⟩;rw [z2d];refine ⟨h.2,by simp,λ a Z b hb e=>z ?_⟩;have eb:b=w:=by simpa using hb
  rw [e,eb,h.mem,qed] at Z;obtain ⟨J,hk,ek⟩:=Z;exact z2p.mpr ⟨J,hk,z3c ek⟩
def Ks.len {kvs:List (Key×V)} {us:xD} (h:Ks kvs us):us.length=kvs.length:=by
 have:=congrArg List.length h.1;rw [z30,z30] at this;exact this.symm
def Ks.get {kvs:List (Key×V)} {us:xD} (h:Ks kvs us) {i:Nat} {J:Key×V} (e:kvs[i]? =some J):∃ w,us[i]? =some w/\J.1= .inr w:=by
 have:(us.map (Sum.inr:Str ->Key))[i]? =some J.1:=by rw [<- h.1,z22,e];rfl
 rw [z22] at this;obtain ⟨w,hw,e⟩:=z0q.mp this;exact ⟨w,hw,e.symm⟩
structure PathOk (H0 H:Hp) (r:Addr) (S:List Str ->Prop) (n:Nat):Prop where
 nodes:Nodes H r
 dom:∀ p,(∃ a,go H r p=some a)↔S p
 new:∀ p a,go H r p=some a ->H0 a=none
 size:∀ p a kvs,go H r p=some a ->H a=some (.dK kvs) ->kvs.length<=n
 refs:∀ p a kvs w v,go H r p=some a ->H a=some (.dK kvs) ->valV kvs (Sum.inr w)=some v ->∃ b,v= .ref b
 nd:∀ p a kvs,go H r p=some a ->H a=some (.dK kvs) ->∃ us,Ks kvs us
def qta {H:Hp} {r m:Addr} {o:HO} (N:Nodes H r) (hm:H m=none):∀ (y x:xD) (b:Addr),go H r x=some b ->go (upd H m o) b y=go H b y:=by
 intro y
 induction y with
 | nil=>exact λ _ _ _=>rfl
 | cons u ys ih=>
  intro x b O;obtain ⟨kb,J⟩:=N.node x b O;have e':upd H m o b=some (.dK kb):=by rw [qh (qu J hm)];exact J
  rw [q1o e',q1o J];cases hc:kidV kb u with
  | none=>rfl
  | some c=>
   refine ih (x++ [u]) c ?_;rw [q3j,O];show go H b [u]=some c;rw [q1o J,hc];rfl
def PathOk.lay {H0 H:Hp} {r m:Addr} {S:List Str ->Prop} {n:Nat} {o:HO} (T:PathOk H0 H r S n) (hm:H m=none):PathOk H0 (upd H m o) r S n:=by
 have g:∀ x,go (upd H m o) r x=go H r x:=λ x=>qta T.nodes hm x [] r rfl;have O:∀ x b kb,go H r x=some b ->upd H m o b=some (.dK kb) ->H b=some (.dK kb):=λ x b kb J e=>by
  obtain ⟨kc,Z⟩:=T.nodes.node x b J;rw [qh (qu Z hm)] at e;exact e
 refine ⟨⟨λ x b J=> ?_,λ x y b hx hy=> ?_⟩,λ x=> ?_,λ x b J=> ?_,λ x b kb J e=> ?_,λ x b kb w v J e hv=> ?_,λ x b kb J e=> ?_⟩
 ·rw [g] at J;obtain ⟨kc,Z⟩:=T.nodes.node x b J;exact ⟨kc,by rw [qh (qu Z hm)];exact Z⟩
 ·rw [g] at hx hy;exact T.nodes.inj x y b hx hy
 ·rw [g];exact T.dom x
 ·rw [g] at J;exact T.new x b J
 ·rw [g] at J;exact T.size x b kb J (O x b kb J e)
 ·rw [g] at J;exact T.refs x b kb w v J (O x b kb J e) hv
 ·rw [g] at J;exact T.nd x b kb J (O x b kb J e)
def qih {H0 H:Hp} {r a m:Addr} {S:List Str ->Prop} {n:Nat} {p:xD} {w:Str} {kvs:List (Key×V)} (T:PathOk H0 H r S n) (s0:Same H0 H) (ha:go H r p=some a) (hk:H a=some (.dK kvs)) (hn:kidV kvs w=none) (hm:H m=none):
  PathOk H0 (upd (upd H m (.dK [])) a (.dK (putK kvs (Sum.inr w) (.ref m)))) r (λ x=>S x\/ x=p++ [w]) (n+1)/\go (upd (upd H m (.dK [])) a (.dK (putK kvs (Sum.inr w) (.ref m)))) r (p++ [w])=some m:=by
 have g:∀ x,go (upd (upd H m (.dK [])) a (.dK (putK kvs (Sum.inr w) (.ref m)))) r x=if x=p++ [w] then some m else go H r x:=λ x=>q11c T.nodes ha hk hn hm x [] r rfl
 have a1:a≠m:=qu hk hm;have hM:upd (upd H m (.dK [])) a (.dK (putK kvs (Sum.inr w) (.ref m))) m=some (.dK []):=by rw [qh a1.symm,qb]
 generalize hH:upd (upd H m (.dK [])) a (.dK (putK kvs (Sum.inr w) (.ref m)))=H' at*;have Z:∀ b kb,H b=some (.dK kb) ->(b=a/\kb=kvs/\H' b=some (.dK (putK kvs (Sum.inr w) (.ref m))))\/ H' b=some (.dK kb):=λ b kb e=>by
  by_cases z:b=a
  ·subst z;rw [hk] at e;cases e
   exact .inl ⟨rfl,rfl,by rw [<- hH,qb]⟩
  ·exact .inr (by rw [<- hH,qh z,qh (qu e hm)];exact e)
 refine ⟨⟨⟨λ x b J=> ?_,λ x y b hx hy=> ?_⟩,λ x=> ?_,λ x b J=> ?_,λ x b kb J e=> ?_,λ x b kb u v J e hv=> ?_,λ x b kb J e=> ?_⟩,by rw [g,if_pos rfl]⟩
 ·rw [g] at J;by_cases z:x=p++ [w]
  ·rw [if_pos z] at J;cases J
   exact ⟨_,hM⟩
  ·rw [if_neg z] at J;obtain ⟨kb,e⟩:=T.nodes.node x b J;rcases Z b kb e with ⟨_,_,q⟩ | q
   ·exact ⟨_,q⟩
   ·exact ⟨_,q⟩
 ·rw [g] at hx hy;by_cases z1:x=p++ [w]
  ·by_cases z2:y=p++ [w]
   ·rw [z1,z2]
   ·rw [if_pos z1] at hx;rw [if_neg z2] at hy;cases hx
    obtain ⟨kb,e⟩:=T.nodes.node y _ hy;rw [hm] at e;cases e
  ·by_cases z2:y=p++ [w]
   ·rw [if_neg z1] at hx;rw [if_pos z2] at hy;cases hy
    obtain ⟨kb,e⟩:=T.nodes.node x _ hx;rw [hm] at e;cases e
   ·rw [if_neg z1] at hx;rw [if_neg z2] at hy;exact T.nodes.inj x y b hx hy
 ·rw [g];by_cases z:x=p++ [w]
  ·rw [if_pos z];exact ⟨λ _=> .inr z,λ _=>⟨m,zr⟩⟩
  ·rw [if_neg z,T.dom x];exact ⟨.inl,λ q=>q.elim id λ q=>absurd q z⟩
 ·rw [g] at J;by_cases z:x=p++ [w]
  ·rw [if_pos z] at J;cases J
   exact s0.free hm
  ·rw [if_neg z] at J;exact T.new x b J
 ·rw [g] at J;by_cases z:x=p++ [w]
  ·rw [if_pos z] at J;cases J
   rw [hM] at e;cases e
   exact z4b _
  ·rw [if_neg z] at J;obtain ⟨kc,O⟩:=T.nodes.node x b J;have hs:=T.size x b kc J O;rcases Z b kc O with ⟨_,rfl,q⟩ | q
   ·rw [q] at e;cases e
    have:=q41 kc (Sum.inr w) (V.ref m)
    lia
   ·rw [q] at e;cases e
    lia
 ·rw [g] at J;by_cases z:x=p++ [w]
  ·rw [if_pos z] at J;cases J
   rw [hM] at e;cases e
   cases hv
  ·rw [if_neg z] at J;obtain ⟨kc,O⟩:=T.nodes.node x b J;rcases Z b kc O with ⟨_,rfl,q⟩ | q
   ·rw [q] at e;cases e
    rw [q47] at hv;by_cases hu:(Sum.inr u:Key)=Sum.inr w
    ·rw [if_pos hu] at hv;cases hv
     exact ⟨m,zr⟩
    ·rw [if_neg hu] at hv;exact T.refs x b _ u v J O hv
   ·rw [q] at e;cases e
    exact T.refs x b _ u v J O hv
 ·rw [g] at J;by_cases z:x=p++ [w]
  ·rw [if_pos z] at J;cases J
   rw [hM] at e;cases e
   exact ⟨[],zr,z3g⟩
  ·rw [if_neg z] at J;obtain ⟨kc,O⟩:=T.nodes.node x b J;obtain ⟨us,a0⟩:=T.nd x b kc J O;rcases Z b kc O with ⟨_,rfl,q⟩ | q
   ·rw [q] at e;cases e
    exact a0.put w (.ref m)
   ·rw [q] at e;cases e
    exact ⟨us,a0⟩
def endW:Str:=""
def q15 {n:Nat} (h:n < 1000000):n < sizeLine:=z1r h (by decide)
def q11d:Sp:=λ vs H Q _=>∃ (H0:Hp) (r t:Addr) (ws:xD) (S:List Str ->Prop) (n:Nat),vs=[.ref r,.ref t]/\H0 t=some (.tup (ws.map V.str))/\Same H0 H/\PathOk H0 H r S n/\n+ws.length<=900000/\¬ S (ws++ [endW])/\
 ∀ H' S',Same H0 H' ->PathOk H0 H' r S' (n+ws.length+1) ->(∀ x,S' x↔S x\/ x <+:ws++ [endW]) ->Q .non H'
def qo2 (T:Txt K mg):Def P w K mg base 1 "put_into" ["tree","words"] q11d:=by
  refine T.qrd.ok q6r (λ vs H Q E h=> ?_) λ f cdv A outer s H vs Q E hr h=> ?_
  · obtain ⟨H0,r,t,ws,S,n,rfl,_⟩:=h
    rfl
  · obtain ⟨H0,r,t,ws,S,n,rfl,ht,s0,T0,hn,hS,q⟩:=h
    refine ⟨_,(q2p
      (qt (i:=2) q6r.nd rfl (Or.inl rfl) (pv 0))
      (q1i PassesOwn.never rfl (q65 K (pv 1)) (qr (i:=3) q6r.nd rfl (Or.inl rfl)) (qg (qt (i:=2) q6r.nd rfl (Or.inl rfl) (qlm (pv 2) (pv 3) q54 ⟨rfl,rfl,rfl,rfl⟩))))
      (q5f (q2a hr) (pv 2) (qke rfl T.c_END) q54 rfl)),?_⟩
    refine ⟨_,zr,?_⟩;refine ⟨_,rfl,t,rfl,⟨_,SqT.of (s0 _ _ ht)⟩,q9d (xs:=ws.map V.str) (λ i σ H'=>∃ (c:Addr) (v:Option V) (S':List Str ->Prop),σ=[some (.ref r),some (.ref t),some (.ref c),v]/\Same H0 H'/\PathOk H0 H' r S' (n+i)/\(∀ x,S' x↔S x\/ x <+:ws.take i)/\go H' r (ws.take i)=some c)
      ⟨r,none,S,rfl,s0,T0,λ x=>⟨.inl,λ z=>z.elim id λ z=> ?_⟩,rfl⟩ (λ i σ H' _ z=>by obtain ⟨_,_,_,_,z,_⟩:=z;exact SqT.of (z _ _ ht)) ?_ ?_⟩
    · have:x=[]:=by simpa using z
      rw [this];exact (T0.dom []).mp ⟨r,zr⟩
    · rintro i x σ H1 hx ⟨c,v,S',rfl,s1,O,J,hc⟩
      rw [z22] at hx;obtain ⟨u,hu,rfl⟩:=z0q.mp hx;have il:i < ws.length:=(z07.mp hu).1;obtain ⟨kvs,Z⟩:=O.nodes.node _ c hc;have et:ws.take (i+1)=ws.take i++ [u]:=by
        rw [z3h,hu];rfl
      have a0:∀ x,x <+:ws.take (i+1)↔x <+:ws.take i\/ x=ws.take i++ [u]:=λ x=>by
        rw [et,List.prefix_concat_iff];exact or_comm
      refine ⟨_,zr,c,zr,.inl ⟨kvs,.inl Z⟩,_,zr,λ m hm=> ?_⟩;have sz:=O.size _ c kvs hc Z;have a1:c≠m:=qu Z hm;refine ⟨kvs,Sum.inr u,by rw [qh a1];exact Z,rfl,q15 (by lia),λ v hv=> ?_,λ hv=> ?_⟩
      · obtain ⟨b,rfl⟩:=O.refs _ c kvs u v hc Z hv
        have hg:go (upd H1 m (.dK [])) r (ws.take (i+1))=some b:=by
          rw [qta O.nodes hm _ [] r rfl,et,q3j,hc];show go H1 c [u]=some b;rw [q1o Z];unfold kidV;rw [hv];rfl
        have T2:=O.lay (o:=HO.dK []) hm;refine ⟨b,_,S',zr,s1.trans (qf hm),⟨T2.nodes,T2.dom,T2.new,λ p a k h1 h2=>Nat.le_succ_of_le (T2.size p a k h1 h2),T2.refs,T2.nd⟩,λ x=> ?_,hg⟩;have a2:S' (ws.take (i+1)):=(T2.dom _).mp ⟨b,hg⟩;rw [J x,a0]
        constructor
        · rintro (z | z)
          · exact .inl z
          · exact .inr (.inl z)
        · rintro (z | z | z)
          · exact .inl z
          · exact .inr z
          · rw [z,<- et]
            exact (J _).mp a2
      · have hk:kidV kvs u=none:=by
          unfold kidV;rw [hv]
        obtain ⟨T2,hg⟩:=qih O s1 hc Z hk hm;refine ⟨m,_,_,rfl,?_,T2,λ x=> ?_,by rw [et];exact hg⟩
        · exact (s1.trans (qf hm)).set (O.new _ c hc)
        · show S' x\/ x=ws.take i++ [u]↔_
          rw [J x,a0,or_assoc]
    · rintro σ H1 ⟨c,v,S',rfl,s1,O,J,hc⟩
      rw [z30] at O;rw [z30,z2t] at hc;rw [z30,z2t] at J;obtain ⟨kvs,Z⟩:=O.nodes.node _ c hc;have sz:=O.size _ c kvs hc Z;intro m hm;have a1:c≠m:=qu Z hm;have hk:kidV kvs endW=none:=by
        cases e:kidV kvs endW with
        | none=>rfl
        | some b=>
          have:S' (ws++ [endW]):=(O.dom _).mp ⟨b,by
            rw [q3j,hc];show go H1 c [endW]=some b;rw [q1o Z,e];rfl⟩
          rcases (J _).mp this with z | z
          · exact absurd z hS
          · have:=z.length_le
            rw [z1o,z0y] at this
            lia
      obtain ⟨T2,hg⟩:=qih O s1 hc Z hk hm;refine ⟨_,rfl,c,_,rfl,DPut.k (k:=Sum.inr endW) (by rw [qh a1];exact Z) (q15 (by lia)),?_⟩;refine q _ _ ((s1.trans (qf hm)).set (O.new _ c hc)) T2 λ x=> ?_;show S' x\/ x=ws++ [endW]↔_;rw [J x,List.prefix_concat_iff,or_assoc,or_comm (a:=x=ws++ [endW])]
def kidR (kvs:List (Key×V)) (w:Str):V:=(valV kvs (.inr w)).getD .non
def qz8:Sp:=λ vs H Q _=>∃ (a m:Addr) (kvs mvs:List (Key×V)) (us ms:xD),vs=[.ref a,.ref m]/\a≠m/\H a=some (.dK kvs)/\H m=some (.dK mvs)/\Ks kvs us/\Ks mvs ms/\us.length<=900000/\ms.length<=900000/\
 ∀ p (ws:xD) H',Same H H' ->H p=none ->H' p=some (.lst (ws.map (kidR kvs))) ->ws.Nodup ->(∀ w,w∈ws↔w∈us/\w∈ms) ->Q (.ref p) H'
def qh1 {kvs:List (Key×V)} {w:Str} (h:(valV kvs (.inr w)).isSome=true):valV kvs (.inr w)=some (kidR kvs w):=by
 unfold kidR;cases e:valV kvs (.inr w) with
 | none=>rw [e] at h;cases h
 | some v=>rfl
def qh2 (T:Txt K mg):Def P w K mg base 1 "kids_within" ["node","members"] qz8:=by
 refine T.qk1.ok qgq (λ vs H Q E h=> ?_) λ f cdv A outer s H vs Q E hr h=> ?_
 ·obtain ⟨a,m,kvs,a1,us,ms,rfl,_⟩:=h;rfl
 ·obtain ⟨a,m,kvs,a1,us,ms,rfl,a2,ha,hm,k1,k2,l1,l2,k⟩:=h;have e1:=k1.len;have e2:=k2.len;refine ⟨_,(q2x
   (q1g (q13 qx1 (qp qi7 rfl T.b_len q3w (pa_1 (pv 0))) (qp qi7 rfl T.b_len q3w (pa_1 (pv 1))) (q14 _)) (qg (qk (qou (q2b (N:=["word","node","members"]) (caps:=[none,some 0,some 1]) rfl (by with_unfolding_all rfl) (qdy (pv 0)) (λ _ _ _ _ _=>(qr (i:=0) (show (["word","node","members"]:xD).Nodup by decide+kernel) rfl (Or.inl rfl))) (λ _ _ _ _ _=>q9h (qf1 (qlf (q2a hr) (pv 0) (pv 2)))) (λ _ _ _ _ _=>(q4p (q2a hr) (pv 1) (pv 0) (λ _ _=>rfl))))))) q18)
   (qk (qou (q2b (N:=["word","node"]) (caps:=[none,some 0]) rfl (by with_unfolding_all rfl) (qdy (pv 1)) (λ _ _ _ _ _=>(qr (i:=0) (show (["word","node"]:xD).Nodup by decide+kernel) rfl (Or.inl rfl))) (λ _ _ _ _ _=>q9h (qf1 (qlf (q2a hr) (pv 0) (pv 1)))) (λ _ _ _ _ _=>(q4p (q2a hr) (pv 1) (pv 0) (λ _ _=>rfl))))))),?_⟩
  refine ⟨_,zr,a,kvs,zr,ha,_,zr,m,a1,zr,hm,_,_,zr,zr,_,zr,ite2 (λ _=> ?_) (λ _=> ?_)⟩
  ·refine ⟨_,zr,a,kvs,zr,.inl ⟨ha,λ o D hD=> ?_⟩⟩;have O:D≠a:=λ z=>by rw [z,qb] at hD;cases hD
   have Z:H D=none:=by rw [qh O] at hD;exact hD
   refine q20 kvs.length (λ i σ' H'=>(∃ v,σ'=[v,some (.ref a),some (.ref m)])/\(∀ b u,b≠a ->H b=some u ->H' b=some u)/\H' a=some (.frz o (.dK kvs))/\H' D=some (.lst (((us.take i).filter λ w=>decide (w∈ms)).map (kidR kvs)))) ⟨⟨_,rfl⟩,(λ b u hb e=>by rw [qh (qu e Z),qh hb];exact e),by rw [qh O.symm,qb],qb⟩ (λ i σ' H' hi p=>⟨p.2.2.1,hi⟩) (λ σ' H' p=>⟨⟨p.2.2.1,z48 _⟩,?_⟩) (λ i σ' H' hi p x H2 y=> ?_)
   ·obtain ⟨_,sm,ea,eD⟩:=p;refine .inr ⟨a,o,kvs,ea,(λ o u z=>by have z':H a=some (.frz o u):=z;rw [ha] at z';cases z'),?_⟩;rw [<- e1,z2t] at eD;refine k D _ _ (λ b u e=> ?_) Z (by rw [qh O];exact eD) (k1.2.filter _) λ w=>by rw [z2x];simp
    by_cases z:b=a
    ·subst z;rw [ha] at e;cases e
     exact qb
    ·rw [qh z];exact sm b u z e
   ·obtain ⟨⟨v,rfl⟩,sm,ea,eD⟩:=p;obtain ⟨rfl,kv,hk,rfl⟩:=y;obtain ⟨w,hw,ew⟩:=k1.get hk;rw [ew];have J:(us.take (i+1)).filter (λ w=>decide (w∈ms))=(us.take i).filter (λ w=>decide (w∈ms))++(if w∈ms then [w] else []):=by
     rw [z3h,hw,z1u]
     congr 1
     by_cases z:w∈ms
     ·rw [if_pos z];simp [z]
     ·rw [if_neg z];simp [z]
    refine ⟨_,zr,_,zr,m,_,zr,DGet.k (k:=Sum.inr w) (sm m _ a2.symm hm),_,zr,ite2 (λ h1=> ?_) (λ h1=> ?_)⟩
    ·have a0:w∈ms:=(k2.mem w).mpr h1;have hu:w∈us:=z18 hw;refine ⟨_,zr,_,zr,a,kidR kvs w,zr,.inl ⟨kvs,.inr w,.inr ⟨o,ea⟩,zr,(qh1 ((k1.mem w).mp hu)).symm⟩,?_⟩;refine ⟨_,eD,?_,⟨_,rfl⟩,(λ b u hb e=>by rw [qh (qu e Z)];exact sm b u hb e),by rw [qh O.symm];exact ea,?_⟩
     ·rw [z30];exact q15 (by have:=z10 (λ w=>decide (w∈ms)) (us.take i);rw [z2g] at this;lia)
     ·rw [qb,J,if_pos a0,z36];rfl
    ·have a0:w∉ms:=λ z=>h1 ((k2.mem w).mp z);exact ⟨⟨_,rfl⟩,sm,ea,by rw [J,if_neg a0,z31];exact eD⟩
  ·refine ⟨_,zr,m,a1,zr,.inl ⟨hm,λ o D hD=> ?_⟩⟩;have O:D≠m:=λ z=>by rw [z,qb] at hD;cases hD
   have Z:H D=none:=by rw [qh O] at hD;exact hD
   refine q20 a1.length (λ i σ' H'=>(∃ v,σ'=[v,some (.ref a)])/\(∀ b u,b≠m ->H b=some u ->H' b=some u)/\H' m=some (.frz o (.dK a1))/\H' D=some (.lst (((ms.take i).filter λ w=>decide (w∈us)).map (kidR kvs)))) ⟨⟨_,rfl⟩,(λ b u hb e=>by rw [qh (qu e Z),qh hb];exact e),by rw [qh O.symm,qb],qb⟩ (λ i σ' H' hi p=>⟨p.2.2.1,hi⟩) (λ σ' H' p=>⟨⟨p.2.2.1,z48 _⟩,?_⟩) (λ i σ' H' hi p x H2 y=> ?_)
   ·obtain ⟨_,sm,ea,eD⟩:=p;refine .inr ⟨m,o,a1,ea,(λ o u z=>by have z':H m=some (.frz o u):=z;rw [hm] at z';cases z'),?_⟩;rw [<- e2,z2t] at eD;refine k D _ _ (λ b u e=> ?_) Z (by rw [qh O];exact eD) (k2.2.filter _) λ w=>by rw [z2x,and_comm];simp
    by_cases z:b=m
    ·subst z;rw [hm] at e;cases e
     exact qb
    ·rw [qh z];exact sm b u z e
   ·obtain ⟨⟨v,rfl⟩,sm,ea,eD⟩:=p;obtain ⟨rfl,kv,hk,rfl⟩:=y;obtain ⟨w,hw,ew⟩:=k2.get hk;rw [ew];have J:(ms.take (i+1)).filter (λ w=>decide (w∈us))=(ms.take i).filter (λ w=>decide (w∈us))++(if w∈us then [w] else []):=by
     rw [z3h,hw,z1u]
     congr 1
     by_cases z:w∈us
     ·rw [if_pos z];simp [z]
     ·rw [if_neg z];simp [z]
    refine ⟨_,zr,_,zr,a,_,zr,DGet.k (k:=Sum.inr w) (sm a _ a2 ha),_,zr,ite2 (λ h1=> ?_) (λ h1=> ?_)⟩
    ·have a0:w∈us:=(k1.mem w).mpr h1;refine ⟨_,zr,_,zr,a,kidR kvs w,zr,?_,?_⟩
     ·rw [<- qh1 h1];exact DGet.k (sm a _ a2 ha)
     refine ⟨_,eD,?_,⟨_,rfl⟩,(λ b u hb e=>by rw [qh (qu e Z)];exact sm b u hb e),by rw [qh O.symm];exact ea,?_⟩
     ·rw [z30];exact q15 (by have:=z10 (λ w=>decide (w∈us)) (ms.take i);rw [z2g] at this;lia)
     ·rw [qb,J,if_pos a0,z36];rfl
    ·have a0:w∉us:=λ z=>h1 ((k1.mem w).mp z);exact ⟨⟨_,rfl⟩,sm,ea,by rw [J,if_neg a0,z31];exact eD⟩
def mu (acc:xF) (p:xD):Nat:=1+(acc.map λ q=>if p <+:q++ [endW] then q.length+2 - p.length else 0).sum
theorem qm7 {α:Type} (f g:α ->Nat):∀ l:List α,(l.map λ x=>f x+g x).sum=(l.map f).sum+(l.map g).sum
 | []=>rfl
 | x::l=>by
  rw [z3l,z3l,z3l,z3s,z3s,z3s,qm7 f g l]
  lia
theorem qc0 {α:Type} {f:α ->Nat}:∀ {l:List α},(∀ x∈l,f x=0) ->(l.map f).sum=0
 | [],_=>rfl
 | x::l,h=>by
  rw [z3l,z3s,h x (z1p ..),qc0 λ y hy=>h y (z16 _ hy)]
theorem qh3 {α:Type} {f g:α ->Nat}:∀ {l:List α},(∀ x∈l,f x<=g x) ->(l.map f).sum<=(l.map g).sum
 | [],_=>z48 _
 | x::l,h=>by
  rw [z3l,z3l,z3s,z3s];exact Nat.add_le_add (h x (z1p ..)) (qh3 λ y hy=>h y (z16 _ hy))
theorem qh4 {α:Type} {f:α ->Nat}:∀ {l:List α},(∀ x∈l,1<=f x) ->l.length<=(l.map f).sum
 | [],_=>z48 _
 | x::l,h=>by
  rw [z3l,z3s,z2i];have:=h x (z1p ..);have:=qh4 λ y hy=>h y (z16 _ hy)
  lia
def qz9 {p q:xD} {w v:Str} (h1:p++ [w] <+:q) (h2:p++ [v] <+:q):w=v:=by
 obtain ⟨s,rfl⟩:=h1;obtain ⟨t,e⟩:=h2;rw [z1y,z1y] at e;have:=List.append_cancel_left e;simp at this
 exact this.1.symm
theorem qp4 (p q:xD) (c:Nat):∀ {ws:xD},ws.Nodup ->(ws.map λ w=>if p++ [w] <+:q then c else 0).sum<=if p <+:q then c else 0
 | [],_=>z4b _
 | w::ws,nd=>by
  rw [z3l,z3s];have J:=z32.mp nd;by_cases h:p++ [w] <+:q
  ·have hp:p <+:q:=(List.prefix_append p [w]).trans h;rw [if_pos h,if_pos hp,qc0 λ v hv=>if_neg λ z=>J.1 (by rw [qz9 h z];exact hv)]
   lia
  ·rw [if_neg h,z3x];exact qp4 p q c J.2
theorem qm8 (p:xD) {ws:xD} (nd:ws.Nodup):∀ acc:List (List Str),(ws.map λ w=>(acc.map λ q=>if p++ [w] <+:q++ [endW] then q.length+2 - p.length else 0).sum).sum<=(acc.map λ q=>if p <+:q++ [endW] then q.length+2 - p.length else 0).sum
 | []=>Nat.le_of_eq (qc0 λ _ _=>rfl)
 | q::acc=>by
  have e:(ws.map λ w=>((q::acc).map λ q=>if p++ [w] <+:q++ [endW] then q.length+2 - p.length else 0).sum)=ws.map λ w=>(if p++ [w] <+:q++ [endW] then q.length+2 - p.length else 0)+(acc.map λ q=>if p++ [w] <+:q++ [endW] then q.length+2 - p.length else 0).sum:=by
   apply z1f
   intro w _;rw [z3l,z3s]
  rw [e,qm7,z3l,z3s];exact Nat.add_le_add (qp4 p (q++ [endW]) _ nd) (qm8 p nd acc)
theorem qtb {p:xD} {w:Str}:∀ {acc:xF},(∃ q∈acc,p++ [w] <+:q++ [endW]) ->mu acc (p++ [w])<=(acc.map λ q=>if p++ [w] <+:q++ [endW] then q.length+2 - p.length else 0).sum
 | [],h=>by
  obtain ⟨_,h,_⟩:=h;cases h
 | q::acc,h=>by
  unfold mu;rw [z3l,z3s,z3l,z3s];have all:(acc.map λ q=>if p++ [w] <+:q++ [endW] then q.length+2 - (p++ [w]).length else 0).sum<=(acc.map λ q=>if p++ [w] <+:q++ [endW] then q.length+2 - p.length else 0).sum:=qh3 λ q _=>by
   split
   ·rw [z1o]
    lia
   ·exact z48 _
  by_cases hq:p++ [w] <+:q++ [endW]
  ·rw [if_pos hq,if_pos hq];have hl:=hq.length_le;rw [z1o,z1o,z0y,z0y] at hl;have e1:(p++ [w]).length=p.length+1:=by rw [z1o];rfl
   lia
  ·rw [if_neg hq,if_neg hq];have:∃ q∈acc,p++ [w] <+:q++ [endW]:=by
    obtain ⟨q',h1,h2⟩:=h;rcases z3n.mp h1 with rfl | h1
    ·exact absurd h2 hq
    ·exact ⟨q',h1,h2⟩
   have:=qtb this;unfold mu at this
   lia
def qza {acc:xF} {p ws:xD} (nd:ws.Nodup) (h:∀ w∈ws,∃ q∈acc,p++ [w] <+:q++ [endW]):((ws.map λ w=>p++ [w]).map (mu acc)).sum < mu acc p:=by
 rw [z47];have h1:(ws.map (mu acc∘λ w=>p++ [w])).sum<=(ws.map λ w=>(acc.map λ q=>if p++ [w] <+:q++ [endW] then q.length+2 - p.length else 0).sum).sum:=qh3 λ w hw=>qtb (h w hw);have h2:=qm8 p nd acc;show _ < 1+_
 lia
def qo3 {α β:Type} {F:α ->β ->Prop} {xs:List α} {ps:List β} (h:Paired F xs ps):xs≠ [] ->∃ ys y J p,xs=ys++ [y]/\ps=J++ [p]/\Paired F ys J/\F y p:=by
 induction h with
 | nil=>exact λ z=>absurd rfl z
 | @cons a b as bs h1 h2 ih=>
  intro _;cases as with
  | nil=>
   cases h2
   exact ⟨[],a,[],b,zr,zr,.nil,h1⟩
  | cons c cs=>
   obtain ⟨ys,y,J,p,e1,e2,h3,h4⟩:=ih (by simp);exact ⟨a::ys,y,b::J,p,by rw [e1];rfl,by rw [e2];rfl,.cons h1 h3,h4⟩
theorem qii {α β γ:Type} {F:α ->β ->Prop} {f:γ ->α} {g:γ ->β}:∀ {l:List γ},(∀ x∈l,F (f x) (g x)) ->Paired F (l.map f) (l.map g)
 | [],_=> .nil
 | x::l,h=> .cons (h x (z1p ..)) (qii λ y hy=>h y (z16 _ hy))
structure Paths (acc:xF) (S:List Str ->Prop):Prop where
 dom:∀ p,S p↔p=[]\/ ∃ q∈acc,p <+:q++ [endW]
 ne:∀ q∈acc,endW∉q
def qp5 {p q:xD} (h:p++ [endW] <+:q++ [endW]) (hq:endW∉q):p=q:=by
 rcases List.prefix_concat_iff.mp h with e | h
 ·exact List.append_cancel_right e
 ·exact absurd (h.subset (by simp)) hq
theorem qij (w:Str):∀ (ws:xD) (m:List (Key×V)),(valV (q46 (ws.map λ w=>(w,V.bl true)) m) (.inr w)).isSome=true↔w∈ws\/ (valV m (.inr w)).isSome=true
 | [],m=>by simp [q46]
 | x::ws,m=>by
  show (valV (q46 (ws.map λ w=>(w,V.bl true)) (putK m (.inr x) (.bl true))) (.inr w)).isSome=true↔_;rw [qij w ws,q47];by_cases e:w=x
  ·subst e;rw [if_pos rfl];simp
  ·rw [if_neg (λ z=>e (by injection z)),z3n];simp [e]
theorem qm9:∀ (ws:xD) (m:List (Key×V)) {us:xD},Ks m us ->∃ J,Ks (q46 (ws.map λ w=>(w,V.bl true)) m) J
 | [],m,us,h=>⟨us,h⟩
 | x::ws,m,us,h=>by
  obtain ⟨J,h'⟩:=h.put x (.bl true);exact qm9 ws _ h'
def q11e:Sp:=λ vs H Q _=>∃ (H0:Hp) (r t:Addr) (ws:xD) (acc:xF) (S:List Str ->Prop) (n:Nat),vs=[.ref r,.ref t]/\H t=some (.tup (ws.map V.str))/\PathOk H0 H r S n/\n<=900000/\ws.length<=1000/\Paths acc S/\mu acc []<=900000/\
 ∀ H',Same H H' ->Q (.bl (decide (∃ q∈acc,∀ w∈q,w∈ws))) H'
def qd0 (T:Txt K mg):Def P w K mg base 2 "has_one_within" ["tree","words"] q11e:=by
  refine T.qes.ok q3f (λ vs H Q E h=> ?_) λ f cdv A outer s H vs Q E hr h=> ?_
  · obtain ⟨H0,r,t,ws,acc,S,n,rfl,_⟩:=h
    rfl
  · obtain ⟨H0,r,t,ws,acc,S,n,rfl,ht,T0,hn,hl,hP,d1,k⟩:=h
    refine ⟨_,(qkf
      (qt (i:=2) q3f.nd rfl (Or.inl rfl) (q2h (qqd rfl K) rfl T.qn1 qgi (pa_1 (q2b (N:=["word"]) (caps:=[none]) rfl (by with_unfolding_all rfl) (q65 K (pv 1)) (λ _ _ _ _ _=>(qr (i:=0) (show (["word"]:xD).Nodup by decide+kernel) rfl (Or.inl rfl))) (λ _ _ _ _ _=>q3v) (λ _ _ _ _ _=>(q6w (pa_2 (pv 0) q4o)))))))
      (qt (i:=3) q3f.nd rfl (Or.inl rfl) (q24 (pa_1 (pv 0))))
      (ql3 PassesOwn.never (q13 qpy (qp (q2r K) rfl T.b_len q3w (pa_1 (pv 3))) qd (q14 _)) (q2p
      (qt (i:=4) q3f.nd rfl (Or.inl rfl) (q10i z0l PySem.F.slot_list_pop PySem.F.type_list_pop q10j (pv 3)))
      (q1g (qf1 (qlf (q2a hr) (qke rfl T.c_END) (pv 4))) (qg (qk q4o)) q18)
      (q2s (q7s z0l z0e z0f q6y (pv 3) (pa_1 (qy (qh2 T) hr rfl (pa_2 (pv 4) (pv 2))))))))
      (qk q4o)),?_⟩
    refine ⟨_,zr,t,zr,⟨_,SqT.of ht⟩,λ D hD=> ?_⟩;refine q20 (ws.map V.str).length (λ i σ' H'=>(∃ v,σ'=[v])/\Same H H'/\∃ ys,H' D=some (.lst ys)/\ys.length=i/\∀ H2,KeepT H' H2 ->Paired (qqc K H2) ys ((ws.take i).map λ w=>(w,V.bl true))) ⟨⟨_,zr⟩,qf hD,[],qb,zr,λ _ _=> .nil⟩ (λ i σ' H' hi p=> ?_) (λ σ' H' p=>⟨?_,?_⟩) (λ i σ' H' hi p x H2 y=> ?_)
    · obtain ⟨_,sm,_⟩:=p
      exact ⟨_,(ws.map V.str)[i],SqT.of (sm _ _ ht),z0d hi⟩
    · obtain ⟨_,sm,_⟩:=p
      exact ⟨_,SqT.of (sm _ _ ht),z48 _⟩
    · obtain ⟨_,s1,ys,ey,ly,hy⟩:=p
      have c0:=hy H' λ _ _ e=>e;rw [z30,z2t] at c0;refine ⟨D,ys,_,zr,SqL.of ey,c0,λ m hm=> ?_⟩;have s2:=s1.trans (qf (o:=HO.dK (q46 (ws.map λ w=>(w,V.bl true)) [])) hm);have em:=qb (H:=H') (a:=m) (o:=HO.dK (q46 (ws.map λ w=>(w,V.bl true)) []));obtain ⟨ms,b6⟩:=qm9 ws [] (us:=[]) ⟨rfl,z3g⟩;have c6:∀ w,w∈ms↔w∈ws:=λ w=>by
        rw [b6.mem,qij];simp [valV]
      have lms:ms.length<=1000:=by
        rw [b6.len];have:=qbj (ws.map λ w=>(w,V.bl true)) [];rw [z30] at this;simp at this
        lia
      have c8:H m=none:=s1.free hm;generalize upd H' m (.dK (q46 (ws.map λ w=>(w,V.bl true)) []))=G at*;generalize q46 (ws.map λ w=>(w,V.bl true)) []=d6 at*;refine ⟨_,rfl,by show 1<=sizeLine;decide,λ q hq=> ?_⟩;have hqH:H q=none:=s2.free hq;refine ⟨λ mm σ H'=>∃ (v:Option V) (xs:List V) (ps:xF),σ=[some (.ref r),some (.ref t),some (.ref m),some (.ref q),v]/\Same G H'/\H' q=some (.lst xs)/\Paired (λ x p=>∃ b,x=V.ref b/\go H r p=some b) xs ps/\(∀ p∈ps,∀ w∈p,w∈ws)/\(∀ u∈acc,(∀ w∈u,w∈ws) ->∃ p∈ps,p <+:u)/\mm=(ps.map (mu acc)).sum/\mm<=900000,
        ⟨mu acc [],none,[.ref r],[[]],rfl,qf hq,qb,.cons ⟨r,rfl,rfl⟩ .nil,(λ p hp w hw=>by rw [z1m.mp hp] at hw;cases hw),(λ u _ _=>⟨[],by simp,List.nil_prefix⟩),by simp,d1⟩,?_⟩
      rintro mm σ G1 ⟨v,xs,ps,rfl,s3,eq,b5,b4,b2,c9,d7⟩;have lxs:xs.length<=900000:=by
        have h1:=Paired.length b5;have h2:=qh4 (f:=mu acc) (l:=ps) λ p _=>by unfold mu;lia
        lia
      refine ⟨_,zr,_,_,zr,.inl ⟨_,SqL.of eq,zr⟩,_,_,zr,zr,_,zr,ite2 (λ h1=> ?_) (λ h1=> ?_)⟩
      · have d2:xs≠ []:=λ z=>by
          rw [z] at h1;exact absurd h1 (by decide)
        obtain ⟨a5,y,qs,p,rfl,rfl,d5,b,rfl,hb⟩:=qo3 b5 d2;refine ⟨λ σ' G'=>∃ m',m' < mm/\∃ (v:Option V) (xs:List V) (ps:xF),σ'=[some (.ref r),some (.ref t),some (.ref m),some (.ref q),v]/\Same G G'/\G' q=some (.lst xs)/\Paired (λ x p=>∃ b,x=V.ref b/\go H r p=some b) xs ps/\(∀ p∈ps,∀ w∈p,w∈ws)/\(∀ u∈acc,(∀ w∈u,w∈ws) ->∃ p∈ps,p <+:u)/\m'=(ps.map (mu acc)).sum/\m'<=900000,λ _ _ z=>z,?_⟩;obtain ⟨kvs,Z⟩:=T0.nodes.node p b hb;obtain ⟨us,a8⟩:=T0.nd p b kvs hb Z;have sz:=T0.size p b kvs hb Z;refine ⟨_,zr,.inl ⟨zr,_,SqL.of eq⟩,_,_,.ref b,zr,zr,eq,by simp,?_⟩;rw [List.dropLast_concat];have s4:Same G (upd G1 q (.lst a5)):=s3.set hq;have e4:=qb (H:=G1) (a:=q) (o:=HO.lst a5);generalize upd G1 q (.lst a5)=G2 at*;have a9:=s4 _ _ (s2 _ _ Z);have c4:∀ w,(valV kvs (.inr w)).isSome=true ->∃ c,kidR kvs w= .ref c/\go H r (p++ [w])=some c:=λ w hw=>by
          have hv:=qh1 hw;obtain ⟨c,ec⟩:=T0.refs p b kvs w _ hb Z hv;refine ⟨c,ec,?_⟩;rw [q3j,hb];show go H b [w]=some c;rw [q1o Z];unfold kidV;rw [hv,ec];rfl
        have b3:∀ w,(valV kvs (.inr w)).isSome=true ->∃ u∈acc,p++ [w] <+:u++ [endW]:=λ w hw=>by
          obtain ⟨c,_,hc⟩:=c4 w hw;rcases (hP.dom _).mp ((T0.dom _).mp ⟨c,hc⟩) with z | z
          · simp at z
          · exact z
        refine ⟨_,zr,b,_,zr,DGet.k (k:=Sum.inr endW) a9,_,zr,ite2 (λ h2=> ?_) (λ h2=> ?_)⟩
        · obtain ⟨u,hu,a0⟩:=b3 endW h2
          have c7:=qp5 a0 (hP.ne u hu);have kk:=k G2 (s2.trans s4);rw [z3c ⟨u,hu,by rw [<- c7];exact b4 p (by simp)⟩] at kk;exact kk
        · refine ⟨_,rfl,.inl ⟨rfl,_,SqL.of e4⟩,_,rfl,_,rfl,b,m,kvs,d6,us,ms,rfl,qu Z c8,a9,s4 _ _ em,a8,b6,by rw [a8.len];lia,by lia,λ c a1 G3 s5 hc ec nd a3=> ?_⟩
          have c1:∀ w∈a1,(valV kvs (.inr w)).isSome=true:=λ w hw=>(a8.mem w).mp ((a3 w).mp hw).1;have hlt:=qza (acc:=acc) (p:=p) nd λ w hw=>b3 w (c1 w hw);have d0:((qs++a1.map λ w=>p++ [w]).map (mu acc)).sum < mm:=by
            rw [c9,z36,z36,List.sum_append,List.sum_append];simp only [z3l,z44,z3s,List.sum_nil]
            lia
          have a4:Paired (λ x p=>∃ b,x=V.ref b/\go H r p=some b) (a5++a1.map (kidR kvs)) (qs++a1.map λ w=>p++ [w]):=q1r d5 (qii λ w hw=>c4 w (c1 w hw));have c5:(a5++a1.map (kidR kvs)).length<=900000:=by
            have h1:=Paired.length a4;have h2:=qh4 (f:=mu acc) (l:=qs++a1.map λ w=>p++ [w]) λ p _=>by unfold mu;lia
            lia
          rw [z1o] at c5;refine ⟨q,c,_,_,zr,zr,s5 _ _ e4,ec,z3y (q15 (by lia)),?_⟩;refine ⟨_,d0,_,_,_,zr,(s4.trans s5).set hq,qb,a4,λ p' J w hw=> ?_,λ u hu a7=> ?_,zr,by lia⟩
          · rcases z2u.mp J with J | J
            · exact b4 p' (z2u.mpr (.inl J)) w hw
            · obtain ⟨w',d4,rfl⟩:=z45.mp J
              rcases z2u.mp hw with hw | hw
              · exact b4 p (by simp) w hw
              · rw [z1m.mp hw]
                exact (c6 w').mp ((a3 w').mp d4).2
          · obtain ⟨p',J,a0⟩:=b2 u hu a7
            rcases z2u.mp J with J | J
            · exact ⟨p',z2u.mpr (.inl J),a0⟩
            · rw [z1m.mp J] at a0
              obtain ⟨tl,a6⟩:=a0;cases tl with
              | nil=>
                rw [z31] at a6;refine absurd ?_ h2;obtain ⟨c',a2⟩:=(T0.dom (p++ [endW])).mpr ((hP.dom _).mpr (.inr ⟨u,hu,by rw [a6];exact List.prefix_refl _⟩));rw [q3j,hb] at a2;have O:go H b [endW]=some c':=a2;rw [q1o Z] at O;cases e:valV kvs (.inr endW) with
                | none=>
                  unfold kidV at O;rw [e] at O;cases O
                | some _=>rfl
              | cons w' tl=>
                have b8:p++ [w'] <+:u:=⟨tl,by rw [<- a6];simp⟩;refine ⟨p++ [w'],z2u.mpr (.inr (z45.mpr ⟨w',(a3 w').mpr ⟨?_,(c6 w').mpr (a7 w' (by rw [<- a6];simp))⟩,rfl⟩)),b8⟩;obtain ⟨c',a2⟩:=(T0.dom (p++ [w'])).mpr ((hP.dom _).mpr (.inr ⟨u,hu,b8.trans (List.prefix_append _ _)⟩));rw [q3j,hb] at a2;have O:go H b [w']=some c':=a2;rw [q1o Z] at O;rw [a8.mem];cases e:valV kvs (.inr w') with
                | none=>
                  unfold kidV at O;rw [e] at O;cases O
                | some _=>rfl
      · have b7:xs=[]:=by
          cases xs with
          | nil=>rfl
          | cons x xs=>exact absurd (by simp) h1
        subst b7;cases b5
        have kk:=k G1 (s2.trans s3);rw [z2w (by
          rintro ⟨u,hu,a7⟩;obtain ⟨p,hp,_⟩:=b2 u hu a7;cases hp)] at kk
        exact kk
    · obtain ⟨⟨v,rfl⟩,sm,ys,ey,ly,hy⟩:=p
      obtain ⟨rfl,hx⟩:=y;have b9:=hx _ (SqT.of (sm _ _ ht));rw [z22] at b9;obtain ⟨z,hz,rfl⟩:=z0q.mp b9;refine ⟨_,rfl,by show 2<=sizeLine;decide,λ p hp=> ?_⟩;have s2:=qf (o:=HO.tup [.str z,.bl true]) hp;have d3:p≠D:=(qu ey hp).symm;refine ⟨_,s2 _ _ ey,by rw [ly];exact q15 (by rw [z30] at hi;lia),⟨_,rfl⟩,(sm.trans s2).set hD,ys++ [.ref p],qb,by rw [z1o,ly];rfl,λ G hG=> ?_⟩;rw [z3h,hz,z36];refine q1r (hy G λ b zs e=>hG b zs ?_) (.cons ⟨p,zr,SqT.of (hG p _ (by rw [qh d3,qb]))⟩ .nil);rw [qh (λ z=>by rw [z,ey] at e;cases e)];exact s2 _ _ e
def q11f:bootBuiltins "set"=some (.type "set"):=by decide+kernel
def encB (U:xF):List (List Key×V):=U.map λ u=>(u.map Sum.inr,V.bl true)
def addU (U:xF) (u:xD):List (List Str):=if u∈U then U else U++ [u]
def qvp (U:xF) (u:xD):putK (encB U) (u.map Sum.inr) (V.bl true)=encB (addU U u):=by
 have any:((encB U).any λ J=>decide (J.1=u.map Sum.inr))=decide (u∈U):=by
  rw [z2z,z2p,decide_eq_true_iff]
  constructor
  ·rintro ⟨J,hk,e⟩;obtain ⟨v,hv,rfl⟩:=z45.mp hk;have:=qcr.mp (of_decide_eq_true e);rw [<- this];exact hv
  ·intro h;exact ⟨_,z45.mpr ⟨u,h,zr⟩,z3c rfl⟩
 unfold putK addU;rw [any];by_cases h:u∈U
 ·rw [if_pos (z3c h),if_pos h];unfold encB;rw [z47]
  apply z1f
  intro v _;show (if v.map (Sum.inr:Str ->Key)=u.map Sum.inr then (v.map Sum.inr,V.bl true) else (v.map Sum.inr,V.bl true))=_;split <;> rfl
 ·rw [if_neg (by simpa using h),if_neg h];unfold encB;rw [z36];rfl
def qvq {U:xF} {u v:xD}:v∈addU U u↔v∈U\/ v=u:=by
 unfold addU;by_cases h:u∈U
 ·rw [if_pos h];exact ⟨.inl,λ z=>z.elim id λ z=>by rw [z];exact h⟩
 ·rw [if_neg h,z2u,z1m]
def qzb {U:xF} {u:xD} (h:U.Nodup):(addU U u).Nodup:=by
 unfold addU;by_cases J:u∈U
 ·rw [if_pos J];exact h
 ·rw [if_neg J,z2d];exact ⟨h,by simp,λ a ha b hb e=>J (by rw [<- z1m.mp hb,<- e];exact ha)⟩
def qvr {U:xF} {u:xD}:(addU U u).length<=U.length+1:=by
 unfold addU;split
 ·lia
 ·rw [z1o];exact z48 _
def szF (U:xF) (n:Int):List (List Str):=U.filter λ u=>decide ((u.length:Int)=n)
structure Mid (H0 H:Hp) (kvs:List (Key×V)) (ns:List Int) (U:xF):Prop where
 keys:kvs.map (·.1)=ns.map Sum.inl
 nd:ns.Nodup
 has:∀ n∈ns,∃ c xs,valV kvs (.inl n)=some (.ref c)/\H c=some (.lst xs)/\q1x H xs (szF U n)/\H0 c=none
 inj:∀ n m c,valV kvs (.inl n)=some (.ref c) ->valV kvs (.inl m)=some (.ref c) ->n=m
 all:∀ u∈U,(u.length:Int)∈ns
def qcs {kvs:List (Key×V)} {ns:List Int} (h:kvs.map (·.1)=ns.map Sum.inl) (n:Int):n∈ns↔(valV kvs (.inl n)).isSome=true:=by
 rw [qed]
 constructor
 ·intro hn;have:(Sum.inl n:Key)∈kvs.map (·.1):=by
   rw [h];exact z45.mpr ⟨n,hn,zr⟩
  obtain ⟨O,hk,e⟩:=z45.mp this;exact ⟨O,hk,e⟩
 ·rintro ⟨O,hk,e⟩;have:(Sum.inl n:Key)∈ns.map Sum.inl:=by
   rw [<- h,<- e];exact z45.mpr ⟨O,hk,zr⟩
  obtain ⟨m,hm,J⟩:=z45.mp this;injection J with J;rw [<- J];exact hm
theorem q1q {H H':Hp} (k:KeepT H H'):∀ {zs:List V} {ps:xF},q1x H zs ps ->q1x H' zs ps
 | _,_,.nil=> .nil
 | _,_,.cons ⟨b,e,hb⟩ h=> .cons ⟨b,e,k _ _ hb⟩ (q1q k h)
def Mid.same {J H H':Hp} {kvs:List (Key×V)} {ns:List Int} {U:xF} (M:Mid J H kvs ns U) (s:Same H H'):Mid J H' kvs ns U:=
 ⟨M.keys,M.nd,λ n hn=>by
  obtain ⟨c,xs,h1,h2,h3,h4⟩:=M.has n hn;exact ⟨c,xs,h1,s _ _ h2,q1q (λ b ys e=>s b _ e) h3,h4⟩,M.inj,M.all⟩
def qzc (U:xF) (u:xD) (n:Int):szF (U++ [u]) n=szF U n++(if (u.length:Int)=n then [u] else []):=by
 unfold szF;rw [z1u]
 congr 1
 by_cases h:(u.length:Int)=n
 ·rw [if_pos h];simp [h]
 ·rw [if_neg h];simp [h]
def Mid.more {H0 H:Hp} {kvs:List (Key×V)} {ns:List Int} {U:xF} {u:xD} {c b:Addr} {xs:List V} (M:Mid H0 H kvs ns U) (O:valV kvs (.inl (u.length:Int))=some (.ref c)) (hx:H c=some (.lst xs)) (hb:H b=some (.tup (u.map V.str))):
  Mid H0 (upd H c (.lst (xs++ [.ref b]))) kvs ns (U++ [u]):=by
 have Z:KeepT H (upd H c (.lst (xs++ [.ref b]))):=KeepT.upd (λ _ _ e=>e) hx;have hn:(u.length:Int)∈ns:=(qcs M.keys _).mpr (by rw [O];rfl);refine ⟨M.keys,M.nd,λ n hn=> ?_,M.inj,λ v J=> ?_⟩
 ·obtain ⟨c',a0,h1,h2,h3,h4⟩:=M.has n hn;rw [qzc];by_cases e:(u.length:Int)=n
  ·subst e;rw [O] at h1;cases h1
   rw [hx] at h2;cases h2
   refine ⟨c,_,O,qb,?_,h4⟩;rw [if_pos rfl];exact q1r (q1q Z h3) (.cons ⟨b,zr,Z _ _ hb⟩ .nil)
  ·have ne:c'≠c:=λ z=>e (M.inj _ _ c O (by rw [<- z];exact h1));refine ⟨c',a0,h1,by rw [qh ne];exact h2,?_,h4⟩;rw [if_neg e,z31];exact q1q Z h3
 ·rcases z2u.mp J with J | J
  ·exact M.all v J
  ·rw [z1m.mp J];exact hn
def Mid.new {Z H:Hp} {kvs:List (Key×V)} {ns:List Int} {U:xF} {n:Int} {e:Addr} (M:Mid Z H kvs ns U) (hn:valV kvs (.inl n)=none) (he:H e=some (.lst [])) (h0:Z e=none) (O:∀ m c,valV kvs (.inl m)=some (.ref c) ->c≠e):
  Mid Z H (putK kvs (.inl n) (.ref e)) (ns++ [n]) U:=by
 have nn:n∉ns:=λ z=>by
  have:=(qcs M.keys n).mp z;rw [hn] at this;cases this
 refine ⟨?_,?_,λ m J=> ?_,λ m m' c h1 h2=> ?_,λ v hv=>z2u.mpr (.inl (M.all v hv))⟩
 ·rw [qut _ hn,z36,z36,M.keys];rfl
 ·rw [z2d];exact ⟨M.nd,by simp,λ a ha b hb e=>nn (by rw [<- z1m.mp hb,<- e];exact ha)⟩
 ·rw [q47];rcases z2u.mp J with J | J
  ·obtain ⟨c,xs,h1,h2⟩:=M.has m J;refine ⟨c,xs,?_,h2⟩;rw [if_neg (λ z=>nn (by injection z with z;rw [<- z];exact J))];exact h1
  ·rw [z1m.mp J];refine ⟨e,[],if_pos rfl,he,?_,h0⟩;have:szF U n=[]:=by
    unfold szF;rw [List.filter_eq_nil_iff];intro v hv z;have:=M.all v hv;rw [of_decide_eq_true z] at this;exact nn this
   rw [this];exact .nil
 ·rw [q47] at h1 h2;by_cases e1:(Sum.inl m:Key)=Sum.inl n
  ·by_cases e2:(Sum.inl m':Key)=Sum.inl n
   ·injection e1 with e1;injection e2 with e2;rw [e1,e2]
   ·rw [if_pos e1] at h1;rw [if_neg e2] at h2;cases h1
    exact absurd rfl (O _ _ h2)
  ·by_cases e2:(Sum.inl m':Key)=Sum.inl n
   ·rw [if_neg e1] at h1;rw [if_pos e2] at h2;cases h2
    exact absurd rfl (O _ _ h1)
   ·rw [if_neg e1] at h1;rw [if_neg e2] at h2;exact M.inj _ _ c h1 h2
def qfj (K:xA) (H:Hp) (xs:List V) (ss:xF):Prop:=Paired (λ x s=>∃ b,x=V.ref b/\(SqL K H b (s.map V.str)\/ SqT K H b (s.map V.str))) xs ss
theorem qik {K:xA} {H:Hp}:∀ {xs:List V} {J:xF} {i:Nat} {x:V},qfj K H xs J ->xs[i]? =some x ->∃ s b,J[i]? =some s/\x=V.ref b/\(SqL K H b (s.map V.str)\/ SqT K H b (s.map V.str))
 | _,_,i,x,.nil,h=>by simp at h
 | _,_,0,x,.cons ⟨b,e,hb⟩ _,h=>by
  simp at h
  subst h;exact ⟨_,b,zr,e,hb⟩
 | _,_,i+1,x,.cons _ r,h=>by
  obtain ⟨s,b,e,q⟩:=qik (i:=i) (x:=x) r (by simpa using h);exact ⟨s,b,by simpa using e,q⟩
def qzd (K:xA):Sp:=λ vs H Q _=>∃ (l:Addr) (xs:List V) (ss:xF),vs=[.ref l]/\SqL K H l xs/\qfj K H xs ss/\ss.length<=20000/\(∀ s∈ss,s.length<=4000)/\
 ∀ d kvs ns (U:xF) H',Same H H' ->H d=none ->H' d=some (.dK kvs) ->Mid H H' kvs ns U ->(∀ u,u∈U↔∃ s∈ss,u=uniq s) ->U.Nodup ->U.length<=ss.length ->Q (.ref d) H'
def qfk (T:Txt K mg):Def P w K mg base 1 "once_by_size" ["sets"] (qzd K):=by
 refine T.qhu.ok q35 (λ vs H Q E h=> ?_) λ f cdv A outer s H vs Q E hr h=> ?_
 ·obtain ⟨l,xs,ss,rfl,_⟩:=h;rfl
 ·obtain ⟨l,xs,ss,rfl,hl,hx,h1,h2,k⟩:=h;have lx:xs.length=ss.length:=Paired.length hx;refine ⟨_,(qx9
   (qt (i:=1) q35.nd rfl (Or.inl rfl) q9z)
   (q1i PassesOwn.never rfl (q1a K (pv 0)) (qr (i:=2) q35.nd rfl (Or.inl rfl)) (qg (q5f (q2a hr) (pv 1) (q2h (q6o K) rfl T.q9t q85 (pa_1 (qp (qlt rfl P w) rfl T.q2e q26 (pa_1 (q2h (qsu rfl P w K) rfl T.b_set q11f (pa_1 (pv 2))))))) q4o rfl)))
   (qt (i:=3) q35.nd rfl (Or.inl rfl) q54)
   (q1i PassesOwn.never rfl (qv9 (pv 1)) (qr (i:=2) q35.nd rfl (Or.inl rfl)) (qg (q2s (q7s z0l z0g z0h q6x (qlm (pv 3) (qp (q2r K) rfl T.b_len q3w (pa_1 (pv 2))) (q24 q2g) ⟨rfl,rfl,rfl,rfl⟩) (pa_1 (pv 2))))))
   (qk (pv 3))),?_⟩
  intro o ho;have t0:=qf (o:=HO.dT []) ho;refine ⟨_,rfl,l,rfl,⟨_,t0.seq hl⟩,q29 (xs:=xs) (λ i σ H'=>∃ (v:Option V) (U:xF),σ=[some (.ref l),some (.ref o),v,none]/\Same H H'/\H' o=some (.dT (encB U))/\U.Nodup/\U.length<=i/\∀ u,u∈U↔∃ s∈ss.take i,u=uniq s)
   ⟨none,[],rfl,t0,qb,z3g,z48 _,λ u=>by simp⟩ (λ i σ H' _ z=>by obtain ⟨_,_,_,z,_⟩:=z;exact z.seq hl) ?_ ?_⟩
  ·rintro i x σ H1 a6 ⟨v,U,rfl,s1,e1,nd,lu,hU⟩;obtain ⟨st,b,hs,rfl,hb⟩:=qik hx a6;have il:i < xs.length:=(z07.mp a6).1;have a8:SqL K H1 b (st.map V.str)\/ SqT K H1 b (st.map V.str):=hb.elim (λ z=> .inl (s1.seq z)) (λ z=> .inr (s1.seqT z));refine ⟨_,zr,_,zr,b,st,zr,a8,h2 st (z18 hs),λ e ys he b6 b5=> ?_⟩;have s2:=qf (o:=SetH P w e ys) he;refine ⟨e,ys,zr,qb,λ g hg=> ?_⟩;rw [qv8 b6 b5];have s3:=qf (o:=HO.lst ((uniq st).map V.str)) hg;refine ⟨_,_,zr,.inl ⟨SqL.of qb,λ t ht=> ?_⟩⟩;have J:=qf (o:=HO.tup ((uniq st).map V.str)) ht;refine ⟨o,_,rfl,DPut.t (k:=(uniq st).map Sum.inr) (J _ _ (s3 _ _ (s2 _ _ e1))) (by rw [q68];exact qb) (by unfold encB;rw [z30];exact q15 (by lia)),?_⟩;rw [qvp];refine ⟨_,addU U (uniq st),zr,(s1.trans (s2.trans (s3.trans J))).set ho,qb,qzb nd,z41 qvr (by lia),λ u=> ?_⟩;rw [qvq,hU,z3h,hs]
   constructor
   ·rintro (⟨s,h1,h2⟩ | h)
    ·exact ⟨s,z2u.mpr (.inl h1),h2⟩
    ·exact ⟨st,z2u.mpr (.inr (by simp)),h⟩
   ·rintro ⟨s,h1,h2⟩;rcases z2u.mp h1 with h1 | h1
    ·exact .inl ⟨s,h1,h2⟩
    ·have:s=st:=by simpa using h1
     rw [this] at h2;exact .inr h2
  ·rintro σ H1 ⟨v,U,rfl,s1,e1,nd,lu,hU⟩;rw [lx,z2t] at hU;intro d hd;have a2:H d=none:=s1.free hd;have s2:=qf (o:=HO.dK []) hd;have eo:=s2 _ _ e1;have a3:d≠o:=(qu e1 hd).symm;refine ⟨_,rfl,o,_,rfl,.inl ⟨eo,λ ob=>qsw (λ i σ H'=>∃ (v:Option V) (kvs:List (Key×V)) (ns:List Int),σ=[some (.ref l),some (.ref o),v,some (.ref d)]/\Same H H'/\H' o=some (.frz ob (.dT (encB U)))/\H' d=some (.dK kvs)/\kvs.length<=i/\Mid H H' kvs ns (U.take i))
    ⟨v,[],[],rfl,(s1.trans s2).set ho,qb,by rw [qh a3,qb],z48 _,⟨rfl,z3g,(λ _ z=>nomatch z),(λ n m c h _=>nomatch h),λ u hu=>by simp at hu⟩⟩ (λ i σ H' _ z=>by obtain ⟨_,_,_,_,_,z,_⟩:=z;exact z) ?_ ?_⟩⟩
   ·rintro i kv b σ H2 hk hb ⟨v,kvs,ns,rfl,s3,e3,ed,lk,M⟩;have il:i < (encB U).length:=(z07.mp hk).1;have iu:i < U.length:=by unfold encB at il;rw [z30] at il;exact il
    obtain ⟨u,hu,rfl⟩:∃ u,U[i]? =some u/\kv=(u.map Sum.inr,V.bl true):=by
     unfold encB at hk;rw [z22] at hk;obtain ⟨u,h1,h2⟩:=z0q.mp hk;exact ⟨u,h1,h2.symm⟩
    have Z:H2 b=some (.tup (u.map V.str)):=by rw [hb,q68]
    have et:U.take (i+1)=U.take i++ [u]:=by rw [z3h,hu];rfl
    refine ⟨_,rfl,d,rfl,.inl ⟨kvs,.inl ed⟩,_,rfl,_,_,rfl,.inr ⟨_,SqT.of Z,rfl⟩,by show 0<=sizeLine;decide,λ e he=> ?_⟩;rw [z30];have J:=qf (o:=HO.lst []) he;have a4:H e=none:=s3.free he;have M1:=M.same J;have szs:U.length<=20000:=by lia
    have a7:∀ n,(szF (U.take i) n).length<=20000:=λ n=>by
     have:=z10 (λ u:List Str=>decide ((u.length:Int)=n)) (U.take i);rw [z2g] at this;unfold szF
     lia
    refine ⟨kvs,.inl (u.length:Int),J _ _ ed,zr,q15 (by lia),λ v hv=> ?_,λ hv=> ?_⟩
    ·obtain ⟨c,zs,g1,O,g3,g4⟩:=M1.has _ ((qcs M1.keys _).mpr (by rw [hv];rfl));rw [hv] at g1;cases g1
     have lz:=Paired.length g3;refine ⟨.inl ⟨rfl,_,SqL.of O⟩,_,rfl,c,_,_,rfl,rfl,O,q15 (by have:=a7 (u.length:Int);lia),?_⟩;have b2:c≠o:=λ z=>by rw [z,J _ _ e3] at O;cases O
     have a1:c≠d:=λ z=>by rw [z,J _ _ ed] at O;cases O
     rw [et];exact ⟨_,kvs,ns,rfl,(s3.trans J).set g4,by rw [qh b2.symm];exact J _ _ e3,by rw [qh a1.symm];exact J _ _ ed,by lia,M1.more hv O (J _ _ Z)⟩
    ·have a5:e≠d:=(qu ed he).symm;have b3:e≠o:=(qu e3 he).symm;have M2:=M1.new hv qb a4 λ m c hm z=>by
      obtain ⟨c',xs',q1,q2,_⟩:=M.has m ((qcs M.keys m).mpr (by rw [hm];rfl));rw [hm] at q1;cases q1
      rw [z] at q2;rw [q2] at he;cases he
     have M3:Mid H (upd (upd H2 e (.lst [])) d (.dK (putK kvs (.inl (u.length:Int)) (.ref e)))) (putK kvs (.inl (u.length:Int)) (.ref e)) (ns++ [(u.length:Int)]) (U.take i):=by
      refine ⟨M2.keys,M2.nd,λ n hn=> ?_,M2.inj,M2.all⟩;obtain ⟨c,zs,g1,O,g3,g4⟩:=M2.has n hn;have a1:c≠d:=λ z=>by rw [z,J _ _ ed] at O;cases O
      refine ⟨c,zs,g1,by rw [qh a1];exact O,q1q (λ b' ys a0=> ?_) g3,g4⟩;rw [qh (λ z=>by rw [z,J _ _ ed] at a0;cases a0)];exact a0
     have ee:upd (upd H2 e (.lst [])) d (.dK (putK kvs (.inl (u.length:Int)) (.ref e))) e=some (.lst []):=by rw [qh a5,qb]
     have b4:valV (putK kvs (.inl (u.length:Int)) (.ref e)) (.inl (u.length:Int))=some (.ref e):=by rw [q47,if_pos rfl]
     have a9:upd (upd H2 e (.lst [])) d (.dK (putK kvs (.inl (u.length:Int)) (.ref e))) b=some (.tup (u.map V.str)):=by
      rw [qh (λ z=>by rw [z,ed] at Z;cases Z)];exact J _ _ Z
     refine ⟨.inl ⟨rfl,_,SqL.of ee⟩,_,rfl,e,_,_,rfl,rfl,ee,by show 0 < sizeLine;decide,?_⟩;have s5:Same H (upd (upd H2 e (.lst [])) d (.dK (putK kvs (.inl (u.length:Int)) (.ref e)))):=(s3.trans J).set a2;rw [et];refine ⟨_,_,_,zr,s5.set a4,?_,?_,z41 (q41 _ _ _) (by lia),M3.more b4 ee a9⟩
     ·rw [qh b3.symm,qh a3.symm];exact J _ _ e3
     ·rw [qh a5.symm,qb]
   ·rintro σ H2 ⟨v,kvs,ns,rfl,s3,e3,ed,lk,M⟩;have lU:(encB U).length=U.length:=by unfold encB;rw [z30]
    rw [lU,z2t] at M;refine ⟨_,zr,k d kvs ns U H2 s3 a2 ed M hU nd (by lia)⟩
def Up (F:xF) (x:xD):Prop:=∃ f∈F,∀ w∈f,w∈x
def Norm (r:xD):Prop:=r.Pairwise λ a b=>ql a b=true
structure Acc (R:xF):Prop where
 srt:R.Pairwise λ a b=>qz a b=true
 norm:∀ r∈R,Norm r
 anti:∀ r∈R,∀ q∈R,(∀ w∈r,w∈q) ->r=q
def q5h {α:Type} {lt:α ->α ->Bool} (h:Tim.STO lt) {l:List α} (a:l.Pairwise λ a b=>lt b a=false) (n:l.Nodup):l.Pairwise λ a b=>lt a b=true:=
 (List.Pairwise.and a n).imp λ {x y} z=>by
  cases e:lt x y with
  | true=>rfl
  | false=>exact absurd (h.tri x y e z.1) z.2
def qfl {α:Type} {lt:α ->α ->Bool} (h:Tim.STO lt) {l:List α} (a:l.Pairwise λ a b=>lt a b=true):l.Pairwise λ a b=>lt b a=false:=
 a.imp λ {x y} z=>by
  cases e:lt y x with
  | false=>rfl
  | true=>
   have:=h.tr x y x z e;rw [h.irr] at this;cases this
def q4h {α:Type} {lt:α ->α ->Bool} (h:Tim.STO lt) {l:List α} (a:l.Pairwise λ a b=>lt a b=true):l.Nodup:=
 a.imp λ {x y} z e=>by
  rw [e,h.irr] at z;cases z
def qil {α:Type} [DecidableEq α] {lt:α ->α ->Bool} (h:Tim.STO lt) {l k:List α} (a:l.Pairwise λ a b=>lt a b=true) (b:k.Pairwise λ a b=>lt a b=true) (m:∀ x,x∈l↔x∈k):l=k:=
 h.uniq ((List.perm_ext_iff_of_nodup (q4h h a) (q4h h b)).mpr m) (qfl h a) (qfl h b)
def qh5 {r q:xD} (hr:Norm r) (hq:Norm q) (h1:∀ w∈r,w∈q) (h2:∀ w∈q,w∈r):r=q:=qil q1n hr hq λ x=>⟨h1 x,h2 x⟩
def q70 (s:xD):Norm (uniq s):=q5h q1n (Tim.q1v q1n _) ((Tim.qo ql _).nodup_iff.mpr (qa8 _ _ (z48 _)))
theorem q5u {α:Type} [DecidableEq α]:∀ {u v:List α},u.Nodup ->(∀ w∈u,w∈v) ->u.length<=v.length
 | [],_,_,_=>z4b _
 | x::u,v,nd,h=>by
  have J:=z32.mp nd;have hx:=h x (z1p ..);have:=q5u (u:=u) (v:=v.erase x) J.2 λ w hw=>(List.mem_erase_of_ne (λ e=>J.1 (by rw [<- e];exact hw))).mpr (h w (z16 _ hw));rw [List.length_erase_of_mem hx] at this;have:=List.length_pos_of_mem hx;rw [z2i]
  lia
def qvs (s:xD):(uniq s).length<=s.length:=q5u (q4h q1n (q70 s)) λ w hw=>(q55 s w).mp hw
def qma {r q:xD} (hr:Norm r) (hq:Norm q) (h1:∀ w∈r,w∈q) (hl:q.length<=r.length):r=q:=by
 refine qh5 hr hq h1 λ w hw=> ?_;have nr:=q4h q1n hr
 apply Classical.byContradiction
 intro hn;have:=q5u (u:=w::r) (v:=q) (z32.mpr ⟨hn,nr⟩) λ x hx=>by
  rcases z3n.mp hx with rfl | hx
  ·exact hw
  ·exact h1 x hx
 rw [z2i] at this
 lia
def qtc {R Q:xF} (hR:Acc R) (J:Acc Q) (h:∀ x,Up R x↔Up Q x):R=Q:=by
 have one:∀ {A B:xF},Acc A ->Acc B ->(∀ x,Up A x↔Up B x) ->∀ r∈A,r∈B:=λ {A B} Z hB h r hr=>by
  obtain ⟨q,hq,h1⟩:=(h r).mp ⟨r,hr,λ _ z=>z⟩;obtain ⟨r',O,h2⟩:=(h q).mpr ⟨q,hq,λ _ z=>z⟩;have e:=Z.anti r' O r hr λ w hw=>h1 w (h2 w hw);subst e;rw [qh5 (Z.norm _ hr) (hB.norm _ hq) h2 h1];exact hq
 exact qil q2c hR.srt J.srt λ x=>⟨one hR J h x,one J hR (λ y=>(h y).symm) x⟩
structure ThI (U:xF) (szs:List Int) (i:Nat) (acc:xF):Prop where
 sub:∀ u∈acc,u∈U/\(u.length:Int)∈szs.take i
 cov:∀ u∈U,(u.length:Int)∈szs.take i ->∃ q∈acc,∀ w∈q,w∈u
 anti:∀ u∈acc,∀ q∈acc,(∀ w∈u,w∈q) ->u=q
 nd:acc.Nodup
def lst (U acc:xF) (n:Int):List (List Str):=(szF U n).filter λ u=> !decide (∃ q∈acc,∀ w∈q,w∈u)
def q6j {U acc:xF} {n:Int} {u:xD}:u∈lst U acc n↔u∈U/\(u.length:Int)=n/\¬ ∃ q∈acc,∀ w∈q,w∈u:=by
 unfold lst szF;rw [z2x,z2x];simp [and_assoc]
def ThI.step {U:xF} {O:List Int} {i:Nat} {acc:xF} {n:Int} (T:ThI U O i acc) (hs:O.Pairwise λ a b=>q19 a b=true) (hi:O[i]? =some n) (nU:U.Nodup) (hU:∀ u∈U,Norm u):ThI U O (i+1) (acc++lst U acc n):=by
 have et:O.take (i+1)=O.take i++ [n]:=by rw [z3h,hi];rfl
 have Z:∀ m∈O.take i,m < n:=λ m hm=>by
  obtain ⟨j,hj,e⟩:=z1i hm;rw [z2g] at hj;obtain ⟨a0,en⟩:=z07.mp hi;have:=(z08.mp hs) j i (by lia) a0 (by lia);rw [z1z] at e;rw [en,e] at this;exact of_decide_eq_true this
 refine ⟨λ u J=> ?_,λ u J hl=> ?_,λ u J q hq h=> ?_,?_⟩
 ·rw [et];rcases z2u.mp J with J | J
  ·exact ⟨(T.sub u J).1,z2u.mpr (.inl (T.sub u J).2)⟩
  ·obtain ⟨h1,h2,_⟩:=q6j.mp J;exact ⟨h1,z2u.mpr (.inr (by rw [h2];simp))⟩
 ·rw [et] at hl;rcases z2u.mp hl with hl | hl
  ·obtain ⟨q,h1,h2⟩:=T.cov u J hl;exact ⟨q,z2u.mpr (.inl h1),h2⟩
  ·have e:(u.length:Int)=n:=by simpa using hl
   by_cases z:∃ q∈acc,∀ w∈q,w∈u
   ·obtain ⟨q,h1,h2⟩:=z;exact ⟨q,z2u.mpr (.inl h1),h2⟩
   ·exact ⟨u,z2u.mpr (.inr (q6j.mpr ⟨J,e,z⟩)),λ _ z=>z⟩
 ·rcases z2u.mp J with J | J
  ·rcases z2u.mp hq with hq | hq
   ·exact T.anti u J q hq h
   ·exact absurd ⟨u,J,h⟩ (q6j.mp hq).2.2
  ·obtain ⟨u1,u2,_⟩:=q6j.mp J;rcases z2u.mp hq with hq | hq
   ·have l1:=Z _ (T.sub q hq).2;have:=q5u (q4h q1n (hU u u1)) h
    lia
   ·obtain ⟨q1,q2,_⟩:=q6j.mp hq;exact qma (hU u u1) (hU q q1) h (by lia)
 ·rw [z2d];refine ⟨T.nd,(nU.filter _).filter _,λ a ha b hb e=> ?_⟩;subst e;exact (q6j.mp hb).2.2 ⟨a,ha,λ _ z=>z⟩
def q11g {acc:xF} {B:Nat} (h:∀ q∈acc,q.length<=B):mu acc []<=1+acc.length*(B+2):=by
 unfold mu;have:∀ acc:List (List Str),(∀ q∈acc,q.length<=B) ->(acc.map λ q=>if [] <+:q++ [endW] then q.length+2 - ([]:xD).length else 0).sum<=acc.length*(B+2):=λ acc=>by
  induction acc with
  | nil=>exact λ _=>z4b _
  | cons q acc ih=>
   intro h;have h1:=h q (z1p ..);have h2:=ih λ x hx=>h x (z16 _ hx);rw [z3l,z3s,if_pos List.nil_prefix,z2i,Nat.succ_mul];have e0:([]:xD).length=0:=rfl
   lia
 have:=this acc h
 lia
open Classical in
noncomputable def restT (H : Hp) (r : Addr) : Hp := fun b => if ∃ p, go H r p = some b then none else H b
def qtd (H:Hp) (r:Addr):Same (restT H r) H:=λ b o e=>by
 unfold restT at e;split at e
 ·cases e
 ·exact e
def qte {H:Hp} {r b:Addr} {p:xD} (h:go H r p=some b):restT H r b=none:=by
 unfold restT;exact if_pos ⟨p,h⟩
def PathOk.other {H0 H:Hp} {r b:Addr} {S:List Str ->Prop} {n:Nat} {o:HO} (T:PathOk H0 H r S n) (h:H b=some o) (hn:∀ kvs,o≠ .dK kvs):restT H r b=some o:=by
 unfold restT;rw [if_neg]
 ·exact h
 ·rintro ⟨p,hp⟩;obtain ⟨kvs,e⟩:=T.nodes.node p b hp;rw [h] at e;exact hn kvs (Option.some.inj e)
def PathOk.bas {H0 H:Hp} {r:Addr} {S:List Str ->Prop} {n:Nat} (T:PathOk H0 H r S n):PathOk (restT H r) H r S n:=⟨T.nodes,T.dom,λ _ _ h=>qte h,T.size,T.refs,T.nd⟩
def PathOk.back {H1 H H':Hp} {r:Addr} {S Z:List Str ->Prop} {n n':Nat} (T:PathOk H1 H r S n) (s1:Same H1 H) (s2:Same (restT H r) H') (J:PathOk (restT H r) H' r Z n'):PathOk H1 H' r Z n'/\Same H1 H':=by
 have O:∀ a o,H1 a=some o ->restT H r a=some o:=λ a o e=>by
  unfold restT;rw [if_neg]
  ·exact s1 _ _ e
  ·rintro ⟨p,hp⟩;rw [T.new p a hp] at e;cases e
 refine ⟨⟨J.nodes,J.dom,λ p a h=> ?_,J.size,J.refs,J.nd⟩,λ a o e=>s2 _ _ (O a o e)⟩;have:=J.new p a h;cases e:H1 a with
 | none=>rfl
 | some o=>
  rw [O a o e] at this;cases this
def qze {H H':Hp} {r:Addr} (N:Nodes H r) (k:∀ b kvs,H b=some (.dK kvs) ->H' b=some (.dK kvs)):∀ (y x:xD) (b:Addr),go H r x=some b ->go H' b y=go H b y:=by
 intro y
 induction y with
 | nil=>exact λ _ _ _=>rfl
 | cons u ys ih=>
  intro x b O;obtain ⟨kb,J⟩:=N.node x b O;rw [q1o (k _ _ J),q1o J];cases hc:kidV kb u with
  | none=>rfl
  | some c=>
   refine ih (x++ [u]) c ?_;rw [q3j,O];show go H b [u]=some c;rw [q1o J,hc];rfl
def PathOk.keep {H0 H H':Hp} {r:Addr} {S:List Str ->Prop} {n:Nat} (T:PathOk H0 H r S n) (k:∀ b kvs,H b=some (.dK kvs) ->H' b=some (.dK kvs)):PathOk H0 H' r S n:=by
 have g:∀ x,go H' r x=go H r x:=λ x=>qze T.nodes k x [] r rfl;have O:∀ x b kb,go H r x=some b ->H' b=some (.dK kb) ->H b=some (.dK kb):=λ x b kb J e=>by
  obtain ⟨kc,Z⟩:=T.nodes.node x b J;rw [k _ _ Z] at e;rw [Z];exact e
 refine ⟨⟨λ x b J=> ?_,λ x y b hx hy=> ?_⟩,λ x=> ?_,λ x b J=> ?_,λ x b kb J e=> ?_,λ x b kb w v J e hv=> ?_,λ x b kb J e=> ?_⟩
 ·rw [g] at J;obtain ⟨kc,Z⟩:=T.nodes.node x b J;exact ⟨kc,k _ _ Z⟩
 ·rw [g] at hx hy;exact T.nodes.inj x y b hx hy
 ·rw [g];exact T.dom x
 ·rw [g] at J;exact T.new x b J
 ·rw [g] at J;exact T.size x b kb J (O x b kb J e)
 ·rw [g] at J;exact T.refs x b kb w v J (O x b kb J e) hv
 ·rw [g] at J;exact T.nd x b kb J (O x b kb J e)
theorem q4i {H:Hp}:∀ {xs:List V} {ps:xF} {i:Nat} {x:V},q1x H xs ps ->xs[i]? =some x ->∃ p b,ps[i]? =some p/\x=V.ref b/\H b=some (.tup (p.map V.str))
 | _,_,i,x,.nil,h=>by simp at h
 | _,_,0,x,.cons ⟨b,e,hb⟩ _,h=>by
  simp at h
  subst h;exact ⟨_,b,zr,e,hb⟩
 | _,_,i+1,x,.cons _ r,h=>by
  obtain ⟨s,b,e,q⟩:=q4i (i:=i) (x:=x) r (by simpa using h);exact ⟨s,b,by simpa using e,q⟩
def qzf (K:xA):Sp:=λ vs H Q _=>∃ (l:Addr) (xs:List V) (ss:xF),vs=[.ref l]/\SqL K H l xs/\qfj K H xs ss/\ss.length<=20000/\(∀ s∈ss,s.length<=30/\endW∉s)/\
 ∀ p zs (R:xF) H',Same H H' ->H p=none ->H' p=some (.lst zs) ->q1x H' zs R ->Acc R ->(∀ x,Up R x↔Up ss x) ->Q (.ref p) H'
def qal (T:Txt K mg):Def P w K mg base 3 "thinned" ["sets"] (qzf K):=by
 refine T.qu1.ok q3q (λ vs H Q E h=> ?_) λ f cdv A outer s H vs Q E hr h=> ?_
 ·obtain ⟨l,xs,ss,rfl,_⟩:=h;rfl
 ·obtain ⟨l,xs,ss,rfl,hl,hx,l1,l2,k⟩:=h;refine ⟨_,(qx9
   (qt (i:=1) q3q.nd rfl (Or.inl rfl) (qy (qfk T) hr rfl (pa_1 (pv 0))))
   (qt (i:=2) q3q.nd rfl (Or.inr rfl) q54)
   (qt (i:=3) q3q.nd rfl (Or.inl rfl) (q24 q2g))
   (q1i PassesOwn.never rfl (q1a K (qp (qj6 rfl K) rfl T.q2e q26 (pa_1 (pv 1)))) (qr (i:=4) q3q.nd rfl (Or.inl rfl)) (q2p
   (qa1 (i:=5) q3q.nd rfl rfl (N:=["words","smaller"]) (caps:=[none,some 2]) rfl (by with_unfolding_all rfl) (q1a K (q4p (q2a hr) (pv 1) (pv 4) (λ _ _=>rfl))) (λ _ _ _ _ _=>(qr (i:=0) (show (["words","smaller"]:xD).Nodup by decide+kernel) rfl (Or.inl rfl))) (λ _ _ _ _ _=>q9h (q5j (q6t (qy (qd0 T) hr rfl (pa_2 (pv 1) (pv 0)))))) (λ _ _ _ _ _=>(pv 0)))
   (q1i PassesOwn.never rfl (q1a K (pv 5)) (qr (i:=6) q3q.nd rfl (Or.inl rfl)) (qg (q2s (qy (qo2 T) hr rfl (pa_2 (pv 2) (pv 6))))))
   (q2s (q7s z0l z0e z0f q6y (pv 3) (pa_1 (pv 5))))))
   (qk (qp (qay hr.units K) rfl T.q2e q26 (pa_1 (pv 3))))),?_⟩
  refine ⟨_,zr,l,xs,ss,zr,hl,hx,l1,λ s hs=>z41 (l2 s hs).1 (by decide),λ d kvs ns U H1 s1 hd ed M hU nU lU=> ?_⟩;have a3:∀ u∈U,Norm u:=λ u J=>by
   obtain ⟨s,_,rfl⟩:=(hU u).mp J;exact q70 s
  have a2:∀ u∈U,u.length<=30:=λ u J=>by
   obtain ⟨s,hs,rfl⟩:=(hU u).mp J;exact z41 (qvs s) (l2 s hs).1
  have d3:∀ u∈U,endW∉u:=λ u J=>by
   obtain ⟨s,hs,rfl⟩:=(hU u).mp J;exact λ z=>(l2 s hs).2 ((q55 s _).mp z)
  intro r b5;have t1:=qf (o:=HO.dK []) b5;refine ⟨by show 0<=sizeLine;decide,λ q hq=> ?_⟩;have t2:=qf (o:=HO.lst []) hq;have hqr:q≠r:=(qu qb hq).symm;have c7:H1 q=none:=t1.free hq;refine ⟨_,zr,d,kvs,ns,zr,t2 _ _ (t1 _ _ ed),M.keys,λ sl a8=> ?_⟩;have t3:=qf (o:=HO.lst ((Tim.srt q19 ns).map V.int)) a8;have d4:sl≠r:=(qu (t2 _ _ qb) a8).symm;have b6:sl≠q:=(qu qb a8).symm;have b8:(Tim.srt q19 ns).Pairwise λ a b=>q19 a b=true:=q5h q1w (Tim.q1v q1w _) ((Tim.qo q19 _).nodup_iff.mpr M.nd);have a6:∀ n,n∈Tim.srt q19 ns↔n∈ns:=λ n=>(Tim.qo q19 ns).mem_iff;have er:upd (upd (upd H1 r (.dK [])) q (.lst [])) sl (.lst ((Tim.srt q19 ns).map V.int)) r=some (.dK []):=(t2.trans t3) _ _ qb;have b9:upd (upd (upd H1 r (.dK [])) q (.lst [])) sl (.lst ((Tim.srt q19 ns).map V.int)) q=some (.lst []):=t3 _ _ qb;have b2:upd (upd (upd H1 r (.dK [])) q (.lst [])) sl (.lst ((Tim.srt q19 ns).map V.int)) sl=some (.lst ((Tim.srt q19 ns).map V.int)):=qb;have s2:Same H1 (upd (upd (upd H1 r (.dK [])) q (.lst [])) sl (.lst ((Tim.srt q19 ns).map V.int))):=t1.trans (t2.trans t3);generalize upd (upd (upd H1 r (.dK [])) q (.lst [])) sl (.lst ((Tim.srt q19 ns).map V.int))=G at*;generalize Tim.srt q19 ns=a4 at*;have P0:PathOk H1 G r (λ p=>p=[]) 0:=by
   have g:∀ p a,go G r p=some a ->p=[]/\a=r:=λ p a h=>by
    cases p with
    | nil=>exact ⟨rfl,(Option.some.inj h).symm⟩
    | cons w ws=>
     rw [q1o er] at h;cases h
   refine ⟨⟨λ p a h=> ?_,λ p q' a h1 h2=> ?_⟩,λ p=>⟨λ ⟨a,h⟩=>(g p a h).1,λ h=>⟨r,by rw [h];rfl⟩⟩,λ p a h=> ?_,λ p a kvs h e=> ?_,λ p a kvs w v h e hv=> ?_,λ p a kvs h e=> ?_⟩
   ·rw [(g p a h).2];exact ⟨[],er⟩
   ·rw [(g p a h1).1,(g q' a h2).1]
   ·rw [(g p a h).2];exact b5
   ·rw [(g p a h).2,er] at e;cases e
    exact z48 _
   ·rw [(g p a h).2,er] at e;cases e
    cases hv
   ·rw [(g p a h).2,er] at e;cases e
    exact ⟨[],zr,z3g⟩
  refine ⟨sl,rfl,⟨_,SqL.of b2⟩,q29 (xs:=a4.map V.int) (λ i σ H'=>∃ (v1 v2 v3:Option V) (zs:List V) (acc:xF) (S:List Str ->Prop) (n:Nat),σ=[some (.ref l),some (.ref d),some (.ref r),some (.ref q),v1,v2,v3]/\Same H1 H'/\H' q=some (.lst zs)/\H' sl=some (.lst (a4.map V.int))/\q1x H1 zs acc/\PathOk H1 H' r S n/\Paths acc S/\n<=acc.length*31/\ThI U a4 i acc)
   ⟨none,none,none,[],[],λ p=>p=[],0,rfl,s2,b9,b2,.nil,P0,⟨λ p=>by simp,λ _ z=>nomatch z⟩,z4b _,⟨(λ _ z=>nomatch z),(λ u J h=>by simp at h),(λ _ z=>nomatch z),z3g⟩⟩ (λ i σ H' _ z=>by obtain ⟨_,_,_,_,_,_,_,_,_,_,z,_⟩:=z;exact SqL.of z) ?_ ?_⟩
  ·rintro i x σ H2 hx ⟨v1,v2,v3,zs,acc,S,n,rfl,s3,eq,es,hz,T2,hP,hn,TI⟩;rw [z22] at hx;obtain ⟨m,hm,rfl⟩:=z0q.mp hx;have d1:m∈ns:=(a6 m).mp (z18 hm);obtain ⟨c,ys,hv,hc,hy,_⟩:=M.has m d1;have a5:∀ u∈acc,u∈U:=λ u J=>(TI.sub u J).1;have d5:acc.length<=U.length:=q5u TI.nd a5;have a7:=TI.step b8 hm nU a3;have a9:(acc++lst U acc m).length<=U.length:=q5u a7.nd λ u J=>(a7.sub u J).1;rw [z1o] at a9;have c5:mu acc []<=900000:=by
    have:=q11g (acc:=acc) (B:=30) λ u J=>a2 u (a5 u J)
    lia
   have dg:DGet H2 d (V.int m) (some (.ref c)):=by
    rw [<- hv];exact DGet.k (k:=Sum.inl m) (s3 _ _ ed)
   have ly:=Paired.length hy;refine ⟨_,zr,_,zr,d,_,zr,dg,c,zr,⟨_,SqL.of (s3 _ _ hc)⟩,λ D hD=> ?_⟩;have hD1:H1 D=none:=s3.free hD;have lsz:(szF U m).length<=U.length:=z10 _ _;refine q20 ys.length (λ j σ' H'=>(∃ v,σ'=[v,some (.ref r)])/\Same H2 H'/\∃ ws,H' D=some (.lst ws)/\q1x H1 ws (((szF U m).take j).filter λ u=> !decide (∃ q∈acc,∀ w∈q,w∈u))/\ws.length<=j) ⟨⟨_,rfl⟩,qf hD,[],qb,.nil,z48 _⟩ (λ j σ' H' hj p=> ?_) (λ σ' H' p=>⟨?_,?_⟩) (λ j σ' H' hj p x H3 y=> ?_)
   ·obtain ⟨_,sm,_⟩:=p;exact ⟨_,ys[j],SqL.of (sm _ _ (s3 _ _ hc)),z0d hj⟩
   ·obtain ⟨_,sm,_⟩:=p;exact ⟨_,SqL.of (sm _ _ (s3 _ _ hc)),z48 _⟩
   ·obtain ⟨_,sm,ws,eD,hw,lw⟩:=p;rw [ly,z2t] at hw;have hw:q1x H1 ws (lst U acc m):=hw;have b7:ws.length=(lst U acc m).length:=Paired.length hw;have T3:=T2.keep (H':=H') λ b kb e=>sm _ _ e;refine ⟨_,rfl,D,rfl,⟨_,SqL.of eD⟩,q29 (xs:=ws) (λ j σ G'=>∃ (v:Option V) (S':List Str ->Prop) (n':Nat),σ=[some (.ref l),some (.ref d),some (.ref r),some (.ref q),some (.int m),some (.ref D),v]/\Same H1 G'/\G' q=some (.lst zs)/\G' sl=some (.lst (a4.map V.int))/\G' D=some (.lst ws)/\PathOk H1 G' r S' n'/\Paths (acc++(lst U acc m).take j) S'/\n'<=(acc.length+j)*31)
     ⟨v3,S,n,rfl,s3.trans sm,sm _ _ eq,sm _ _ es,eD,T3,by rw [List.take_zero,z31];exact hP,hn⟩ (λ j σ H' _ z=>by obtain ⟨_,_,_,_,_,_,_,z,_⟩:=z;exact SqL.of z) ?_ ?_⟩
    ·rintro j x σ G1 hx ⟨v,S',n',rfl,g1,gq,gs,gD,T4,Z,b3⟩;obtain ⟨u,b,J,rfl,hb⟩:=q4i hw hx;have jl:j < (lst U acc m).length:=(z07.mp J).1;have c8:u∈lst U acc m:=z18 J;obtain ⟨uU,ul,un⟩:=q6j.mp c8;have lu:=a2 u uU;have c1:=g1 _ _ hb;have et:(lst U acc m).take (j+1)=(lst U acc m).take j++ [u]:=by rw [z3h,J];rfl
     have d2:(lst U acc m).Nodup:=(nU.filter _).filter _;refine ⟨_,rfl,_,rfl,restT G1 r,r,b,u,S',n',rfl,T4.other c1 (λ _ z=>nomatch z),qtd _ _,T4.bas,by lia,?_,λ G2 S2 g2 T5 c0=> ?_⟩
     ·intro z;rcases (Z.dom _).mp z with z | ⟨q',a1,b4⟩
      ·simp at z
      ·have e:=qp5 b4 (Z.ne q' a1);subst e;rcases z2u.mp a1 with h | h
       ·exact un ⟨u,h,λ _ z=>z⟩
       ·obtain ⟨j',c4,e'⟩:=z1i h;rw [z2g] at c4;rw [z1z] at e';obtain ⟨_,eu⟩:=z07.mp J;exact (z08.mp d2) j' j (by lia) jl (by lia) (e'.trans eu.symm)
     ·obtain ⟨T6,g3⟩:=T4.back g1 g2 T5;have c6:n'+u.length+1<=(acc.length+(j+1))*31:=by lia
      refine ⟨_,S2,_,rfl,g3,g2 _ _ (T4.other gq (λ _ z=>nomatch z)),g2 _ _ (T4.other gs (λ _ z=>nomatch z)),g2 _ _ (T4.other gD (λ _ z=>nomatch z)),T6,⟨λ p=> ?_,λ q' a1=> ?_⟩,c6⟩
      ·rw [c0,Z.dom,et]
       constructor
       ·rintro ((h | ⟨q',h1,h2⟩) | h)
        ·exact .inl h
        ·refine .inr ⟨q',?_,h2⟩;rw [<- z1y];exact z2u.mpr (.inl h1)
        ·exact .inr ⟨u,by simp,h⟩
       ·rintro (h | ⟨q',h1,h2⟩)
        ·exact .inl (.inl h)
        ·rw [<- z1y] at h1;rcases z2u.mp h1 with h1 | h1
         ·exact .inl (.inr ⟨q',h1,h2⟩)
         ·rw [z1m.mp h1] at h2;exact .inr h2
      ·rw [et,<- z1y] at a1;rcases z2u.mp a1 with h1 | h1
       ·exact Z.ne q' h1
       ·rw [z1m.mp h1];exact d3 u uU
    ·rintro σ G1 ⟨v,S',n',rfl,g1,gq,gs,gD,T4,Z,b3⟩;rw [b7,z2t] at Z;have lz:=Paired.length hz;refine ⟨_,zr,.inl ⟨zr,_,SqL.of gq⟩,_,zr,q,D,_,_,zr,zr,gq,gD,z3y (q15 (by lia)),?_⟩;have kq:∀ b kb,G1 b=some (.dK kb) ->upd G1 q (.lst (zs++ws)) b=some (.dK kb):=λ b kb e=>by
      rw [qh (λ z=>by rw [z,gq] at e;cases e)];exact e
     exact ⟨_,_,_,_,acc++lst U acc m,S',n',rfl,g1.set c7,qb,by rw [qh b6];exact gs,q1r hz hw,T4.keep kq,Z,by rw [z1o,<- b7];exact b3,a7⟩
   ·obtain ⟨⟨v,rfl⟩,sm,ws,eD,hw,lw⟩:=p;obtain ⟨rfl,hx⟩:=y;have d0:=hx _ (SqL.of (sm _ _ (s3 _ _ hc)));obtain ⟨u,b,J,rfl,hb⟩:=q4i hy d0;have uU:u∈U:=(z2x.mp (z18 J)).1;have a0:((szF U m).take (j+1)).filter (λ u=> !decide (∃ q∈acc,∀ w∈q,w∈u))=((szF U m).take j).filter (λ u=> !decide (∃ q∈acc,∀ w∈q,w∈u))++(if (!decide (∃ q∈acc,∀ w∈q,w∈u))=true then [u] else []):=by
     rw [z3h,J,z1u]
     congr 1
     show List.filter _ [u]=_;rw [z2j,List.filter_nil]
    have T3:=T2.keep (H':=H3) λ b kb e=>sm _ _ e;refine ⟨_,zr,_,zr,H1,r,b,u,acc,S,n,zr,sm _ _ (s3 _ _ hb),T3,by lia,z41 (a2 u uU) (by decide),hP,c5,λ H4 s4=>⟨_,zr,ite2 (λ h1=> ?_) (λ h1=> ?_)⟩⟩
    ·refine ⟨_,rfl,_,s4 _ _ eD,q15 (by lia),⟨_,rfl⟩,(sm.trans s4).set hD,_,qb,?_,by rw [z1o];show _+1<=_;lia⟩;rw [a0,if_pos h1];exact q1r hw (.cons ⟨b,zr,hb⟩ .nil)
    ·refine ⟨⟨_,zr⟩,sm.trans s4,ws,s4 _ _ eD,?_,by lia⟩;rw [a0,if_neg h1,z31];exact hw
  ·rintro σ H2 ⟨v1,v2,v3,zs,acc,S,n,rfl,s3,eq,es,hz,T2,hP,hn,TI⟩;rw [z30] at TI;have cov:∀ u∈U,∃ q∈acc,∀ w∈q,w∈u:=λ u J=>TI.cov u J (by rw [z2t,a6];exact M.all u J);refine ⟨_,zr,q,zs,acc,zr,SqL.of eq,q1q (λ b ys e=>s3 b _ e) hz,λ p us hp c9=> ?_⟩;have s4:=qf (o:=HO.lst us) hp;have O:∀ x,x∈Tim.srt qz acc↔x∈acc:=λ x=>(Tim.qo qz acc).mem_iff;refine k p us (Tim.srt qz acc) _ (s1.trans (s3.trans s4)) (s1.free (s3.free hp)) qb (q1q (λ b ys e=>s4 b _ e) c9) ⟨q5h q2c (Tim.q1v q2c _) ((Tim.qo qz _).nodup_iff.mpr TI.nd),λ x hx=>a3 x (TI.sub x ((O x).mp hx)).1,λ x hx y hy h=>TI.anti x ((O x).mp hx) y ((O y).mp hy) h⟩ λ x=> ?_
   constructor
   ·rintro ⟨u,J,h⟩;obtain ⟨s,hs,rfl⟩:=(hU u).mp (TI.sub u ((O u).mp J)).1;exact ⟨s,hs,λ w hw=>h w ((q55 s w).mpr hw)⟩
   ·rintro ⟨s,hs,h⟩;obtain ⟨q',h1,h2⟩:=cov (uniq s) ((hU _).mpr ⟨s,hs,rfl⟩);exact ⟨q',(O q').mpr h1,λ w hw=>h w ((q55 s w).mp (h2 w hw))⟩
def qct (K:xA) (H:Hp) (zs:List V) (C:xF):Prop:=Paired (λ x s=>∃ b,x=V.ref b/\SqT K H b (s.map V.str)) zs C
theorem qam {K:xA} {H H':Hp} (k:∀ b xs,SqT K H b xs ->SqT K H' b xs):∀ {zs:List V} {C:xF},qct K H zs C ->qct K H' zs C
 | _,_,.nil=> .nil
 | _,_,.cons ⟨b,e,hb⟩ h=> .cons ⟨b,e,k _ _ hb⟩ (qam k h)
theorem qan {K:xA} {H:Hp}:∀ {zs:List V} {C:xF},qct K H zs C ->qfj K H zs C
 | _,_,.nil=> .nil
 | _,_,.cons ⟨b,e,hb⟩ h=> .cons ⟨b,e,.inr hb⟩ (qan h)
def qcu {K:xA} {H:Hp} {t b:Addr} {zs ys xs:List V} (J:H t=some (.lst zs)) (h:SqT K H b xs):SqT K (upd H t (.lst ys)) b xs:=by
 rcases h with (h | ⟨o,h⟩) | h
 ·exact .inl (.inl (by rw [qh (λ z=>by rw [z,J] at h;cases h)];exact h))
 ·exact .inl (.inr ⟨o,by rw [qh (λ z=>by rw [z,J] at h;cases h)];exact h⟩)
 ·exact .inr h
def q5v (A B:xF):List (List Str):=A.flatMap λ a=>B.map λ b=>a++b
def qc1 {A B:xF} {c:xD}:c∈q5v A B↔∃ a∈A,∃ b∈B,c=a++b:=by
 unfold q5v;rw [List.mem_flatMap]
 constructor
 ·rintro ⟨a,J,h⟩;obtain ⟨b,O,rfl⟩:=z45.mp h;exact ⟨a,J,b,O,zr⟩
 ·rintro ⟨a,J,b,O,rfl⟩;exact ⟨a,J,z45.mpr ⟨b,O,zr⟩⟩
def qim (A B:xF):(q5v A B).length=A.length*B.length:=by
 unfold q5v
 induction A with
 | nil=>simp
 | cons a A ih=>
  rw [List.flatMap_cons,z1o,ih,z30,z2i,Nat.succ_mul]
  lia
def qqx (A B:xF) (a:xD):q5v (A++ [a]) B=q5v A B++B.map λ b=>a++b:=by
 unfold q5v;rw [z1j];simp
def q2m {A B:xF} {x:xD}:Up (q5v A B) x↔Up A x/\Up B x:=by
 constructor
 ·rintro ⟨c,hc,h⟩;obtain ⟨a,J,b,O,rfl⟩:=qc1.mp hc;exact ⟨⟨a,J,λ w hw=>h w (z2u.mpr (.inl hw))⟩,b,O,λ w hw=>h w (z2u.mpr (.inr hw))⟩
 ·rintro ⟨⟨a,J,h1⟩,b,O,h2⟩;exact ⟨a++b,qc1.mpr ⟨a,J,b,O,zr⟩,λ w hw=>(z2u.mp hw).elim (h1 w) (h2 w)⟩
def qtf (K:xA):Sp:=λ vs H Q _=>∃ (a b:Addr) (xs ys:List V) (A B:xF),vs=[.ref a,.ref b]/\SqL K H a xs/\SqL K H b ys/\q1x H xs A/\q1x H ys B/\A.length*B.length<=20000/\B.length<=20000/\(∀ r∈A,r.length<=15/\endW∉r)/\(∀ r∈B,r.length<=15/\endW∉r)/\
 ∀ p zs (R:xF) H',Same H H' ->H p=none ->H' p=some (.lst zs) ->q1x H' zs R ->Acc R ->(∀ x,Up R x↔Up A x/\Up B x) ->Q (.ref p) H'
def qtg (T:Txt K mg):Def P w K mg base 4 "agreed" ["one","other"] (qtf K):=by
 refine T.qwt.ok qbs (λ vs H Q E h=> ?_) λ f cdv A outer s H vs Q E hr h=> ?_
 ·obtain ⟨a,b,xs,ys,A,B,rfl,_⟩:=h;rfl
 ·obtain ⟨a,b,xs,ys,FA,FB,rfl,ha,hb,hA,hB,lA,lB,oA,oB,k⟩:=h;have lx:=Paired.length hA;have ly:=Paired.length hB;refine ⟨_,(q2p
   (qt (i:=2) qbs.nd rfl (Or.inl rfl) (q24 q2g))
   (q1i PassesOwn.never rfl (q1a K (pv 0)) (qr (i:=3) qbs.nd rfl (Or.inr rfl)) (qg (q2s (q7s z0l z0e z0f q6y (pv 2) (pa_1 (q2b (N:=["more_words","words"]) (caps:=[none,some 3]) rfl (by with_unfolding_all rfl) (q1a K (pv 1)) (λ _ _ _ _ _=>(qr (i:=0) (show (["more_words","words"]:xD).Nodup by decide+kernel) rfl (Or.inl rfl))) (λ _ _ _ _ _=>q3v) (λ _ _ _ _ _=>(qm (qoq K) (pv 1) (pv 0)))))))))
   (qk (qy (qal T) hr rfl (pa_1 (pv 2))))),?_⟩
  refine ⟨by show 0<=sizeLine;decide,λ t ht=> ?_⟩;have s0:=qf (o:=HO.lst []) ht;refine ⟨_,zr,a,zr,⟨_,s0.seq ha⟩,q29 (xs:=xs) (λ i σ H'=>∃ (v:Option V) (zs:List V),σ=[some (.ref a),some (.ref b),some (.ref t),v]/\Same H H'/\H' t=some (.lst zs)/\qct K H' zs (q5v (FA.take i) FB))
   ⟨none,[],rfl,s0,qb,.nil⟩ (λ i σ H' _ z=>by obtain ⟨_,_,_,z,_⟩:=z;exact z.seq ha) ?_ ?_⟩
  ·rintro i x σ H1 hx ⟨v,zs,rfl,s1,et,hz⟩;obtain ⟨wa,ba,Z,rfl,a2⟩:=q4i hA hx;have lz:=Paired.length hz;rw [qim,z2g] at lz;have il:i < FA.length:=(z07.mp Z).1;have lz2:zs.length<=20000:=by rw [lz];exact z41 (z3j (by lia) (z48 _)) lA
   refine ⟨_,zr,.inl ⟨zr,_,SqL.of et⟩,_,zr,b,zr,⟨_,s1.seq hb⟩,λ D hD=> ?_⟩;refine q20 ys.length (λ j σ' H'=>(∃ v,σ'=[v,some (.ref ba)])/\Same H1 H'/\∃ us,H' D=some (.lst us)/\(∀ H2,(∀ b xs,SqT K H' b xs ->SqT K H2 b xs) ->qct K H2 us ((FB.take j).map λ b=>wa++b))) ⟨⟨_,zr⟩,qf hD,[],qb,λ _ _=> .nil⟩ (λ j σ' H' hj p=> ?_) (λ σ' H' p=>⟨?_,?_⟩) (λ j σ' H' hj p x H3 y=> ?_)
   ·obtain ⟨_,J,_⟩:=p;exact ⟨_,ys[j],(s1.trans J).seq hb,z0d hj⟩
   ·obtain ⟨_,J,_⟩:=p;exact ⟨_,(s1.trans J).seq hb,z48 _⟩
   ·obtain ⟨_,J,us,eD,hu⟩:=p;have O:=hu H' λ _ _ z=>z;have lu:=Paired.length O;rw [z30,z2g] at lu;rw [ly,z2t] at hu;refine ⟨t,D,_,_,zr,zr,J _ _ et,eD,z3y (q15 (by lia)),?_⟩;have a1:FA.take (i+1)=FA.take i++ [wa]:=by rw [z3h,Z];rfl
    refine ⟨_,zs++us,zr,(s1.trans J).set ht,qb,?_⟩;rw [a1,qqx];exact q1r (qam (λ b xs h=>qcu (J _ _ et) (J.seqT h)) hz) (hu _ λ b xs h=>qcu (J _ _ et) h)
   ·obtain ⟨⟨v,rfl⟩,J,us,eD,hu⟩:=p;obtain ⟨rfl,a5⟩:=y;have a4:=a5 _ ((s1.trans J).seq hb);obtain ⟨wb,bb,a0,rfl,a3⟩:=q4i hB a4;have O:=hu H3 λ _ _ z=>z;have lu:=Paired.length O;rw [z30,z2g] at lu;have o1:=oA wa (z18 Z);have o2:=oB wb (z18 a0);refine ⟨_,rfl,_,rfl,_,_,_,_,rfl,rfl,SqT.of (J _ _ (s1 _ _ a2)),SqT.of (J _ _ (s1 _ _ a3)),z3y (q15 (by rw [z30,z30];lia)),λ p H4 s4 hp=> ?_⟩;rw [<- z36] at hp;refine ⟨_,s4 _ _ eD,q15 (by lia),⟨_,zr⟩,(J.trans s4).set hD,us++ [.ref p],qb,λ H5 h5=> ?_⟩;rw [z3h,a0,z36];exact q1r (hu H5 λ b xs h=>h5 b xs (qcu (s4 _ _ eD) (s4.seqT h))) (.cons ⟨p,zr,h5 _ _ (qcu (s4 _ _ eD) hp)⟩ .nil)
  ·rintro σ H1 ⟨v,zs,rfl,s1,et,hz⟩;rw [lx,z2t] at hz;have lz:=Paired.length hz;refine ⟨_,rfl,t,zs,q5v FA FB,rfl,SqL.of et,qan hz,by rw [qim];exact lA,λ c hc=> ?_,λ p us R H2 s2 hp ep hR aR uR=> ?_⟩
   ·obtain ⟨x,hx,y,hy,rfl⟩:=qc1.mp hc;have o1:=oA x hx;have o2:=oB y hy;refine ⟨by rw [z1o];lia,λ z=> ?_⟩;rcases z2u.mp z with z | z
    ·exact o1.2 z
    ·exact o2.2 z
   ·exact k p us R H2 (s1.trans s2) (s1.free hp) ep hR aR λ x=>by rw [uR,q2m]
def qth {R A B:xF} (hR:Acc R) (h:∀ x,Up R x↔Up A x/\Up B x):∀ r∈R,∃ a∈A,∃ b∈B,∀ w∈r,w∈a\/ w∈b:=λ r hr=>by
 obtain ⟨⟨a,O,h1⟩,b,Z,h2⟩:=(h r).mp ⟨r,hr,λ _ z=>z⟩;refine ⟨a,O,b,Z,?_⟩;obtain ⟨q,hq,J⟩:=(h (a++b)).mpr ⟨⟨a,O,λ w hw=>z2u.mpr (.inl hw)⟩,b,Z,λ w hw=>z2u.mpr (.inr hw)⟩;have e:=hR.anti q hq r hr λ w hw=>(z2u.mp (J w hw)).elim (h1 w) (h2 w);subst e;exact λ w hw=>z2u.mp (J w hw)
theorem qh6:∀ (W:xD) (R:xF),R.Nodup ->(∀ r∈R,Norm r/\∀ w∈r,w∈W) ->R.length<=2^W.length
 | [],R,nd,h=>by
  have:∀ r∈R,r=[]:=λ r hr=>by
   cases r with
   | nil=>rfl
   | cons w r=>exact absurd ((h _ hr).2 w (z1p ..)) (by simp)
  exact q5u (v:=[[]]) nd λ r hr=>by rw [this r hr];simp
 | x::W,R,nd,h=>by
  have e:R.length=(R.filter λ r=>decide (x∈r)).length+(R.filter λ r=> !decide (x∈r)).length:=by
   induction R with
   | nil=>rfl
   | cons r R ih=>
    have:=ih (z32.mp nd).2 λ q hq=>h q (z16 _ hq);by_cases z:x∈r <;> simp [z] <;> lia
  have h0:(R.filter λ r=> !decide (x∈r)).length<=2^W.length:=qh6 W _ (nd.filter _) λ r hr=>by
   obtain ⟨h1,h2⟩:=z2x.mp hr;refine ⟨(h r h1).1,λ w hw=> ?_⟩;rcases z3n.mp ((h r h1).2 w hw) with rfl | z
   ·exact absurd hw (by simpa using h2)
   ·exact z
  have h1:((R.filter λ r=>decide (x∈r)).map λ r=>r.filter λ w=>decide (w≠x)).length<=2^W.length:=by
   refine qh6 W _ ?_ λ q hq=> ?_
   ·refine List.pairwise_map.mpr ((nd.filter _).imp_of_mem λ {a b} ha hb O e=>O ?_);obtain ⟨a1,a2⟩:=z2x.mp ha;obtain ⟨b1,b2⟩:=z2x.mp hb;have J:∀ (p q:xD),x∈q ->(p.filter λ w=>decide (w≠x))=(q.filter λ w=>decide (w≠x)) ->∀ w∈p,w∈q:=λ p q hq e w hw=>by
     by_cases z:w=x
     ·rw [z];exact hq
     ·have:w∈p.filter λ w=>decide (w≠x):=z2x.mpr ⟨hw,z3c z⟩;rw [e] at this;exact (z2x.mp this).1
    exact qh5 (h a a1).1 (h b b1).1 (J a b (of_decide_eq_true b2) e) (J b a (of_decide_eq_true a2) e.symm)
   ·obtain ⟨r,hr,rfl⟩:=z45.mp hq;obtain ⟨r1,_⟩:=z2x.mp hr;refine ⟨List.Pairwise.filter _ (h r r1).1,λ w hw=> ?_⟩;obtain ⟨w1,w2⟩:=z2x.mp hw;rcases z3n.mp ((h r r1).2 w w1) with z | z
    ·exact absurd z (of_decide_eq_true w2)
    ·exact z
  rw [z30] at h1;rw [z2i,Nat.pow_succ]
  lia
structure Of (n:Nat) (W:xD) (R:xF):Prop where
 top:n<=10
 few:W.length<=n
 ne:endW∉W
 sub:∀ r∈R,∀ w∈r,w∈W
def Of.len {n:Nat} {W:xD} {R:xF} (h:Of n W R) {r:xD} (hr:r∈R) (nr:Norm r):r.length<=10/\endW∉r:=
 ⟨by have:=q5u (q4h q1n nr) (h.sub r hr);have:=h.few;have:=h.top;lia,λ z=>h.ne (h.sub r hr _ z)⟩
def Of.card {n:Nat} {W:xD} {R:xF} (h:Of n W R) (a:Acc R):R.length<=2^n:=by
 have h1:=qh6 W R (q4h q2c a.srt) λ r hr=>⟨a.norm r hr,h.sub r hr⟩;exact z41 h1 (Nat.pow_le_pow_right (by decide) h.few)
def Of.cards {n:Nat} {W:xD} {R:xF} (h:Of n W R) (a:Acc R):R.length<=1024:=
 z41 (h.card a) (z41 (Nat.pow_le_pow_right (by decide) h.top) (by decide))
def qp6 (a b:Str):eqV (.str a) (.str b)=decide (a=b):=by
 show (a==b)=_;by_cases h:a=b <;> simp [h]
def qmb (x:Str) (ws:xD):inV (.str x) (ws.map V.str)=decide (x∈ws):=by
 unfold inV;rw [z2z,z2p,decide_eq_true_iff]
 constructor
 ·rintro ⟨y,hy,h⟩;obtain ⟨z,hz,rfl⟩:=z45.mp hy;rw [qp6] at h;have:=of_decide_eq_true h;exact this ▸ hz
 ·intro h;exact ⟨.str x,z45.mpr ⟨x,h,rfl⟩,by rw [qp6];simp⟩
def qin (ws:xD):(ws.map V.str).all q7r=true:=by
 rw [z2n];intro x hx;obtain ⟨z,_,rfl⟩:=z45.mp hx;rfl
def qti:Sp:=λ vs H Q _=>∃ (a b:Addr) (r q:xD),vs=[.ref a,.ref b]/\H a=some (.tup (r.map V.str))/\H b=some (.tup (q.map V.str))/\Q (.bl (decide (∀ x∈r,x∈q))) H
def q9m (T:Txt K mg):Def P w K mg base 1 "_law_within" ["_law_one","_law_other"] qti:=by
 refine T.qk4.ok q9j (λ vs H Q E h=> ?_) λ f cdv A outer s H vs Q E hr h=> ?_
 ·obtain ⟨a,b,r,q,rfl,_⟩:=h;rfl
 ·obtain ⟨a,b,r,q,rfl,O,hb,k⟩:=h;refine ⟨_,(q2x
   (q1i PassesOwn.never rfl (q65 K (pv 0)) (qr (i:=2) q9j.nd rfl (Or.inl rfl)) (qg (q1g (q13 (qse K) (pv 2) (pv 1) (by with_unfolding_all rfl)) (qg (qk q4o)) q18)))
   (qk q4o)),?_⟩
  refine ⟨_,rfl,a,rfl,⟨_,SqT.of O⟩,q9d (xs:=r.map V.str) (λ i σ H'=>H'=H/\(∃ v,σ=[some (.ref a),some (.ref b),v])/\∀ x∈r.take i,x∈q) ⟨rfl,⟨_,rfl⟩,λ x hx=>by simp at hx⟩ (λ i σ H' _ z=>by rw [z.1];exact SqT.of O) ?_ ?_⟩
  ·rintro i x σ H1 hx ⟨rfl,⟨v,rfl⟩,J⟩;rw [z22] at hx;obtain ⟨z,hz,rfl⟩:=z0q.mp hx;refine ⟨_,zr,_,zr,b,_,zr,.inr (SqT.of hb),zr,qin q,_,zr,?_⟩;rw [qmb];refine ite2 (λ h1=> ?_) (λ h1=> ?_)
   ·have hn:z∉q:=by simpa using h1
    rw [z2w (λ y=>hn (y z (z18 hz)))] at k;exact k
   ·have hn:z∈q:=by simpa using h1
    refine ⟨zr,⟨_,zr⟩,λ y hy=> ?_⟩;rw [z3h,hz] at hy;rcases z2u.mp hy with hy | hy
    ·exact J y hy
    ·rw [show y=z by simpa using hy];exact hn
  ·rintro σ H1 ⟨rfl,⟨v,rfl⟩,J⟩;rw [z30,z2t] at J;rw [z3c J] at k;exact k
def q5w {A B:xF} {x:xD}:Up (A++B) x↔Up A x\/ Up B x:=by
 constructor
 ·rintro ⟨a,J,h⟩;rcases z2u.mp J with J | J
  ·exact .inl ⟨a,J,h⟩
  ·exact .inr ⟨a,J,h⟩
 ·rintro (⟨a,J,h⟩ | ⟨a,J,h⟩)
  ·exact ⟨a,z2u.mpr (.inl J),h⟩
  ·exact ⟨a,z2u.mpr (.inr J),h⟩
def qfm {R S:xF} (hR:Acc R) (h:∀ x,Up R x↔Up S x):∀ r∈R,∃ s∈S,∀ w∈r,w∈s:=λ r hr=>by
 obtain ⟨s,J,h1⟩:=(h r).mp ⟨r,hr,λ _ z=>z⟩;obtain ⟨q,hq,h2⟩:=(h s).mpr ⟨s,J,λ _ z=>z⟩;have e:=hR.anti q hq r hr λ w hw=>h1 w (h2 w hw);subst e;exact ⟨s,J,h2⟩
def Of.agr {n:Nat} {W:xD} {A B C:xF} (a:Of n W A) (b:Of n W B) (hC:Acc C) (h:∀ x,Up C x↔Up A x/\Up B x):Of n W C:=⟨a.top,a.few,a.ne,λ r hr w hw=>by
 obtain ⟨x,hx,y,hy,z⟩:=qth hC h r hr;exact (z w hw).elim (a.sub x hx w) (b.sub y hy w)⟩
def Of.thin {n:Nat} {W:xD} {A B C:xF} (a:Of n W A) (b:Of n W B) (hC:Acc C) (h:∀ x,Up C x↔Up (A++B) x):Of n W C:=⟨a.top,a.few,a.ne,λ r hr w hw=>by
 obtain ⟨x,hx,z⟩:=qfm hC h r hr;exact (z2u.mp hx).elim (λ q=>a.sub x q w (z w hw)) (λ q=>b.sub x q w (z w hw))⟩
theorem qio {K:xA} {H:Hp}:∀ {zs:List V} {C:xF},q1x H zs C ->qfj K H zs C
 | _,_,.nil=> .nil
 | _,_,.cons ⟨b,e,hb⟩ h=> .cons ⟨b,e,.inr (SqT.of hb)⟩ (qio h)
def dR (r:xD):PyData:= .tuple (r.map .str)
theorem qtj {K:xA} {H:Hp}:∀ {r:xD},(∀ w∈r,PyData.strOk w=true) ->Dats K H (r.map .str) (r.map V.str)
 | [],_=> .nil
 | w::r,h=> .cons (.str w (h w (z1p ..))) (qtj λ x hx=>h x (z16 _ hx))
theorem qmc {K:xA} {H:Hp}:∀ {zs:List V} {R:xF},q1x H zs R ->(∀ r∈R,∀ w∈r,PyData.strOk w=true) ->Dats K H (R.map dR) zs
 | _,_,.nil,_=> .nil
 | _,_,.cons ⟨b,e,hb⟩ t,h=>by
  rw [e];exact .cons (.tup (SqT.of hb) (qtj (h _ (z1p ..)))) (qmc t λ r hr=>h r (z16 _ hr))
def qzg (r:xD):PyData.depthAll (r.map .str)=0:=by
 induction r with
 | nil=>rfl
 | cons x p ih=>
  show max (PyData.depth (.str x)) (PyData.depthAll (p.map .str))=0;rw [ih];rfl
def qp7 (R:xF):PyData.depthAll (R.map dR)<=1:=by
 induction R with
 | nil=>exact z4b _
 | cons r R ih=>
  show max (PyData.depth (dR r)) (PyData.depthAll (R.map dR))<=1;refine Nat.max_le.mpr ⟨?_,ih⟩;show PyData.depthAll (r.map .str)+1<=1;rw [qzg];exact z48 _
def addN:V ->V ->V
 | .int i,.int j=> .int (i+j)
 | _,_=> .non
def minN:V ->V ->V
 | .non,y=>y
 | x,.non=>x
 | .int i,.int j=> .int (if j < i then j else i)
 | x,_=>x
def IsN (x:V):Prop:=x= .non\/ ∃ i,x= .int i
def sp_k (v:V):Sp:=λ vs H Q _=>∃ p:Addr,vs=[.ref p]/\Q v H
def qqy (f:Int ->Int ->Int):Sp:=λ vs H Q _=>∃ (p:Addr) (i j:Int),vs=[.ref p,.int i,.int j]/\Q (.int (f i j)) H
def q11h:Sp:=λ vs H Q _=>∃ (p:Addr) (i j:Int),vs=[.ref p,.int i,.int j]/\qxa i j/\Q (.int (i*j)) H
def qxb (f:V ->V ->V):Sp:=λ vs H Q _=>∃ (p:Addr) (x y:V),vs=[.ref p,x,y]/\IsN x/\IsN y/\Q (f x y) H
def qxc (f:Bool ->Bool ->Bool):Sp:=λ vs H Q _=>∃ (p:Addr) (x y:Bool),vs=[.ref p,.bl x,.bl y]/\Q (.bl (f x y)) H
def qee (T:Txt K mg):MDef P w K mg base 1 (cA mg "Counts") "nought" ["self"] (sp_k (.int 0)):=by
 refine T.qg9.ok qe2 (λ vs H Q E h=> ?_) λ f cdv A outer s H vs Q E hr h=> ?_
 ·obtain ⟨p,rfl,_⟩:=h;rfl
 ·obtain ⟨p,rfl,q⟩:=h;exact ⟨_,(qg (qk qd)),q⟩
def qh7 (T:Txt K mg):MDef P w K mg base 1 (cA mg "Counts") "unit" ["self"] (sp_k (.int 1)):=by
 refine T.qk3.ok qgs (λ vs H Q E h=> ?_) λ f cdv A outer s H vs Q E hr h=> ?_
 ·obtain ⟨p,rfl,_⟩:=h;rfl
 ·obtain ⟨p,rfl,q⟩:=h;exact ⟨_,(qg (qk qd)),q⟩
def qef (T:Txt K mg):MDef P w K mg base 1 (cA mg "Counts") "either" ["self","one","other"] (qqy (· + ·)):=by
 refine T.qg8.ok qe3 (λ vs H Q E h=> ?_) λ f cdv A outer s H vs Q E hr h=> ?_
 ·obtain ⟨p,i,j,rfl,_⟩:=h;rfl
 ·obtain ⟨p,i,j,rfl,q⟩:=h;exact ⟨_,(qg (qk (qm q1l (pv 1) (pv 2)))),⟨_,zr,_,zr,_,_,zr,zr,q⟩⟩
def qh8 (T:Txt K mg):MDef P w K mg base 1 (cA mg "Counts") "both" ["self","one","other"] q11h:=by
 refine T.qk8.ok qgt (λ vs H Q E h=> ?_) λ f cdv A outer s H vs Q E hr h=> ?_
 ·obtain ⟨p,i,j,rfl,_⟩:=h;rfl
 ·obtain ⟨p,i,j,rfl,b,q⟩:=h;exact ⟨_,(qg (qk (qm qov (pv 1) (pv 2)))),⟨_,zr,_,zr,_,_,zr,zr,b,q⟩⟩
def qfn (T:Txt K mg):MDef P w K mg base 1 (cA mg "Costs") "nought" ["self"] (sp_k .non):=by
 refine T.qho.ok qfb (λ vs H Q E h=> ?_) λ f cdv A outer s H vs Q E hr h=> ?_
 ·obtain ⟨p,rfl,_⟩:=h;rfl
 ·obtain ⟨p,rfl,q⟩:=h;exact ⟨_,(qg (qk q4w)),q⟩
def qji (T:Txt K mg):MDef P w K mg base 1 (cA mg "Costs") "unit" ["self"] (sp_k (.int 0)):=by
 refine T.qna.ok qj8 (λ vs H Q E h=> ?_) λ f cdv A outer s H vs Q E hr h=> ?_
 ·obtain ⟨p,rfl,_⟩:=h;rfl
 ·obtain ⟨p,rfl,q⟩:=h;exact ⟨_,(qg (qk qd)),q⟩
def qfo (T:Txt K mg):MDef P w K mg base 1 (cA mg "Costs") "either" ["self","one","other"] (qxb minN):=by
 refine T.qht.ok qfc (λ vs H Q E h=> ?_) λ f cdv A outer s H vs Q E hr h=> ?_
 ·obtain ⟨p,x,y,rfl,_⟩:=h;rfl
 ·obtain ⟨p,x,y,rfl,hx,hy,q⟩:=h;refine ⟨_,(q2p
   (q1g (q13 q81 (pv 1) q4w (q14 _)) (qg (qk (pv 2))) q18)
   (q1g (q13 q81 (pv 2) q4w (q14 _)) (qg (qk (pv 1))) q18)
   (qk (qp (qbd rfl) rfl T.b_min qli (pa_2 (pv 1) (pv 2))))),?_⟩
  rcases hx with rfl | ⟨i,rfl⟩
  ·exact ⟨_,zr,zr,_,zr,q1y rfl ⟨_,zr,q⟩⟩
  ·rcases hy with rfl | ⟨j,rfl⟩
   ·exact ⟨_,zr,zr,_,zr,q11 rfl ⟨_,zr,zr,_,zr,q1y rfl ⟨_,zr,q⟩⟩⟩
   ·exact ⟨_,zr,zr,_,zr,q11 rfl ⟨_,zr,zr,_,zr,q11 rfl ⟨_,zr,_,zr,_,_,zr,q⟩⟩⟩
def qjj (T:Txt K mg):MDef P w K mg base 1 (cA mg "Costs") "both" ["self","one","other"] (qxb addN):=by
 refine T.qne.ok qj9 (λ vs H Q E h=> ?_) λ f cdv A outer s H vs Q E hr h=> ?_
 ·obtain ⟨p,x,y,rfl,_⟩:=h;rfl
 ·obtain ⟨p,x,y,rfl,hx,hy,q⟩:=h;refine ⟨_,(q2x
   (q1g (PW.pt (qck (q13 q81 (pv 1) q4w (q14 _)) (q9b (q13 q81 (pv 2) q4w (q14 _))))) (qg (qk q4w)) q18)
   (qk (qm q1l (pv 1) (pv 2)))),?_⟩
  rcases hx with rfl | ⟨i,rfl⟩
  ·exact ⟨_,zr,zr,_,zr,q1y rfl q⟩
  ·rcases hy with rfl | ⟨j,rfl⟩
   ·exact ⟨_,zr,zr,_,zr,q11 rfl ⟨_,zr,zr,_,zr,q1y rfl q⟩⟩
   ·exact ⟨_,zr,zr,_,zr,q11 rfl ⟨_,zr,zr,_,zr,q11 rfl ⟨_,zr,_,zr,_,_,zr,zr,q⟩⟩⟩
def qvt (C:Addr):Sp:=λ vs H Q _=>∃ (p dx:Addr) (v:V),vs=[.ref p,v]/\H p=some (.ins C dx [])/\Q .non (upd H p (.ins C dx [("top",v)]))
def q9n (T:Txt K mg):IDef P w K mg base 1 (cA mg "Trusts") "top" (.int 100) (qvt (cA mg "Trusts")):=by
 refine T.qk9.ok qgu (λ vs H Q E h=> ?_) λ f cdv A outer s H vs Q E hr h=> ?_
 ·obtain ⟨p,dx,v,rfl,_⟩:=h;rfl
 ·obtain ⟨p,dx,v,rfl,hp,q⟩:=h;exact ⟨_,(qg (qry (pv 0) (pv 1) rfl)),⟨_,rfl,_,rfl,p,_,dx,_,rfl,hp,T.q93,T.q8q,(by show 0 < 1000;decide),q⟩⟩
def qeg (T:Txt K mg):MDef P w K mg base 1 (cA mg "Trusts") "nought" ["self"] (sp_k (.int 0)):=by
 refine T.qg2.ok qe4 (λ vs H Q E h=> ?_) λ f cdv A outer s H vs Q E hr h=> ?_
 ·obtain ⟨p,rfl,_⟩:=h;rfl
 ·obtain ⟨p,rfl,q⟩:=h;exact ⟨_,(qg (qk qd)),q⟩
def qvu (C:Addr):Sp:=λ vs H Q _=>∃ (p dx:Addr) (v:V),vs=[.ref p]/\H p=some (.ins C dx [("top",v)])/\Q v H
def qh9 (T:Txt K mg):MDef P w K mg base 1 (cA mg "Trusts") "unit" ["self"] (qvu (cA mg "Trusts")):=by
 refine T.qjz.ok qgw (λ vs H Q E h=> ?_) λ f cdv A outer s H vs Q E hr h=> ?_
 ·obtain ⟨p,dx,v,rfl,_⟩:=h;rfl
 ·obtain ⟨p,dx,v,rfl,hp,q⟩:=h;exact ⟨_,(qg (qk (qbf (pv 0) rfl))),⟨_,zr,p,_,dx,_,v,zr,hp,T.q93,T.q8q,zr,q⟩⟩
def qeh (T:Txt K mg):MDef P w K mg base 1 (cA mg "Trusts") "either" ["self","one","other"] (qqy λ i j=>if j > i then j else i):=by
 refine T.qg5.ok qe5 (λ vs H Q E h=> ?_) λ f cdv A outer s H vs Q E hr h=> ?_
 ·obtain ⟨p,i,j,rfl,_⟩:=h;rfl
 ·obtain ⟨p,i,j,rfl,q⟩:=h;exact ⟨_,(qg (qk (qp (qru rfl) rfl T.b_max q10w (pa_2 (pv 1) (pv 2))))),⟨_,zr,_,zr,_,_,zr,q⟩⟩
def qha (T:Txt K mg):MDef P w K mg base 1 (cA mg "Trusts") "both" ["self","one","other"] (qqy λ i j=>if j < i then j else i):=by
 refine T.qk6.ok qgx (λ vs H Q E h=> ?_) λ f cdv A outer s H vs Q E hr h=> ?_
 ·obtain ⟨p,i,j,rfl,_⟩:=h;rfl
 ·obtain ⟨p,i,j,rfl,q⟩:=h;exact ⟨_,(qg (qk (qp (qbd rfl) rfl T.b_min qli (pa_2 (pv 1) (pv 2))))),⟨_,zr,_,zr,_,_,zr,q⟩⟩
def qei (T:Txt K mg):MDef P w K mg base 1 (cA mg "Truths") "nought" ["self"] (sp_k (.bl false)):=by
 refine T.qg4.ok qe6 (λ vs H Q E h=> ?_) λ f cdv A outer s H vs Q E hr h=> ?_
 ·obtain ⟨p,rfl,_⟩:=h;rfl
 ·obtain ⟨p,rfl,q⟩:=h;exact ⟨_,(qg (qk q4o)),q⟩
def qhb (T:Txt K mg):MDef P w K mg base 1 (cA mg "Truths") "unit" ["self"] (sp_k (.bl true)):=by
 refine T.qjy.ok qgz (λ vs H Q E h=> ?_) λ f cdv A outer s H vs Q E hr h=> ?_
 ·obtain ⟨p,rfl,_⟩:=h;rfl
 ·obtain ⟨p,rfl,q⟩:=h;exact ⟨_,(qg (qk q4o)),q⟩
def qej (T:Txt K mg):MDef P w K mg base 1 (cA mg "Truths") "either" ["self","one","other"] (qxc (· || ·)):=by
 refine T.qg0.ok qe7 (λ vs H Q E h=> ?_) λ f cdv A outer s H vs Q E hr h=> ?_
 ·obtain ⟨p,i,j,rfl,_⟩:=h;rfl
 ·obtain ⟨p,i,j,rfl,q⟩:=h;refine ⟨_,(qg (qk (qwz (pv 1) (q4x (pv 2))))),⟨_,zr,_,zr,?_⟩⟩;cases i with
  | true=>exact iteT q
  | false=>exact iteF ⟨_,rfl,q⟩
def qhc (T:Txt K mg):MDef P w K mg base 1 (cA mg "Truths") "both" ["self","one","other"] (qxc (· && ·)):=by
 refine T.qjw.ok qh0 (λ vs H Q E h=> ?_) λ f cdv A outer s H vs Q E hr h=> ?_
 ·obtain ⟨p,i,j,rfl,_⟩:=h;rfl
 ·obtain ⟨p,i,j,rfl,q⟩:=h;refine ⟨_,(qg (qk (q6u (pv 1) (q4x (pv 2))))),⟨_,zr,_,zr,?_⟩⟩;cases i with
  | true=>exact iteT ⟨_,rfl,q⟩
  | false=>exact iteF q
def q1d (m:Int) (ns:List Int):List Int:=(Tim.srt q19 ns).take m.toNat
def sums (a b:List Int):List Int:=a.flatMap λ x=>b.map λ y=>x+y
def qvv (a b:List Int):(sums a b).length=a.length*b.length:=by
 unfold sums
 induction a with
 | nil=>simp
 | cons x a ih=>rw [List.flatMap_cons,z1o,ih,z30,z2i,Nat.succ_mul,Nat.add_comm]
def qek (xs:List V) {m:Int} (h:0<=m):cutV xs none (some m)=xs.take m.toNat:=by
 obtain ⟨n,rfl⟩:=z0m h;unfold cutV;rw [HT.sIx_nat,HT.sIx_none,List.drop_zero];show xs.take (min n xs.length - 0)=xs.take n;rw [Nat.sub_zero,<- List.take_eq_take_min]
def BeAt (mg:xE) (H:Hp) (p:Addr) (m:Int):Prop:=∃ dx,H p=some (.ins (cA mg "Bests") dx [("most",.int m)])
def BeAt.same {mg:xE} {H H':Hp} {p:Addr} {m:Int} (h:BeAt mg H p m) (s:Same H H'):BeAt mg H' p m:=by
 obtain ⟨dx,e⟩:=h;exact ⟨dx,s _ _ e⟩
def qvw (C:Addr):Sp:=λ vs H Q _=>∃ (p dx:Addr) (v:V),vs=[.ref p,v]/\H p=some (.ins C dx [])/\Q .non (upd H p (.ins C dx [("most",v)]))
def qb0 (T:Txt K mg):IDef P w K mg base 1 (cA mg "Bests") "many" (.int 3) (qvw (cA mg "Bests")):=by
 refine T.qnb.ok qja (λ vs H Q E h=> ?_) λ f cdv A outer s H vs Q E hr h=> ?_
 ·obtain ⟨p,dx,v,rfl,_⟩:=h;rfl
 ·obtain ⟨p,dx,v,rfl,hp,q⟩:=h;exact ⟨_,(qg (qry (pv 0) (pv 1) rfl)),⟨_,rfl,_,rfl,p,_,dx,_,rfl,hp,T.q4n,T.q61,(by show 0 < 1000;decide),q⟩⟩
def qvx (mg:xE):Sp:=λ vs H Q _=>∃ (p b:Addr) (m:Int) (ns:List Int),vs=[.ref p,.ref b]/\BeAt mg H p m/\0<=m/\H b=some (.lst (ns.map V.int))/\∀ l H',Same H H' ->H l=none ->H' l=some (.lst ((q1d m ns).map V.int)) ->Q (.ref l) H'
def q45 (T:Txt K mg):MDef P w K mg base 1 (cA mg "Bests") "least_ones" ["self","numbers"] (qvx mg):=by
 refine T.qcj.ok qb2 (λ vs H Q E h=> ?_) λ f cdv A outer s H vs Q E hr h=> ?_
 ·obtain ⟨p,b,m,ns,rfl,_⟩:=h;rfl
 ·obtain ⟨p,b,m,ns,rfl,⟨dx,hp⟩,m0,hb,q⟩:=h;refine ⟨_,(qg (qk (q3p (q48 K) (qp (q87 K) rfl T.q2e q26 (pa_1 (pv 1))) q7w (q31 (qbf (pv 0) rfl))))),?_⟩;refine ⟨_,zr,b,ns,zr,.inl (SqL.of hb),λ l hl=> ?_⟩;have s1:=qf (o:=HO.lst ((Tim.srt q19 ns).map V.int)) hl;refine ⟨_,zr,p,_,dx,_,_,zr,s1 _ _ hp,T.q4n,T.q61,zr,_,zr,_,_,zr,SqL.of qb,λ l2 J=> ?_⟩;rw [qek _ m0,<- List.map_take];exact q l2 _ (s1.trans (qf J)) (s1.free J) qb
def qqz:Sp:=λ vs H Q _=>∃ p:Addr,vs=[.ref p]/\∀ l,H l=none ->Q (.ref l) (upd H l (.lst []))
def qfp (T:Txt K mg):MDef P w K mg base 1 (cA mg "Bests") "nought" ["self"] qqz:=by
 refine T.qhr.ok qfd (λ vs H Q E h=> ?_) λ f cdv A outer s H vs Q E hr h=> ?_
 ·obtain ⟨p,rfl,_⟩:=h;rfl
 ·obtain ⟨p,rfl,q⟩:=h;exact ⟨_,(qg (qk (q24 q2g))),⟨by decide,q⟩⟩
def qvy:Sp:=λ vs H Q _=>∃ p:Addr,vs=[.ref p]/\∀ l,H l=none ->Q (.ref l) (upd H l (.lst [.int 0]))
def qjk (T:Txt K mg):MDef P w K mg base 1 (cA mg "Bests") "unit" ["self"] qvy:=by
 refine T.qn8.ok qjc (λ vs H Q E h=> ?_) λ f cdv A outer s H vs Q E hr h=> ?_
 ·obtain ⟨p,rfl,_⟩:=h;rfl
 ·obtain ⟨p,rfl,q⟩:=h;exact ⟨_,(qg (qk (q24 (pa_1 qd)))),⟨by show 1<=sizeLine;decide,q⟩⟩
def qtk (mg:xE) (g:List Int ->List Int ->List Int):Sp:=λ vs H Q _=>∃ (p a b:Addr) (m:Int) (xs ys:List Int),vs=[.ref p,.ref a,.ref b]/\BeAt mg H p m/\0<=m/\H a=some (.lst (xs.map V.int))/\H b=some (.lst (ys.map V.int))/\xs.length<=20/\ys.length<=20/\
 ∀ l H',Same H H' ->H l=none ->H' l=some (.lst ((q1d m (g xs ys)).map V.int)) ->Q (.ref l) H'
def qfq (T:Txt K mg):MDef P w K mg base 2 (cA mg "Bests") "either" ["self","one","other"] (qtk mg (· ++ ·)):=by
 refine T.qhn.ok qfe (λ vs H Q E h=> ?_) λ f cdv A outer s H vs Q E hr h=> ?_
 ·obtain ⟨p,a,b,m,xs,ys,rfl,_⟩:=h;rfl
 ·obtain ⟨p,a,b,m,xs,ys,rfl,O,m0,ha,hb,lx,ly,q⟩:=h;refine ⟨_,(qg (qk (qgl (q45 T) T.q4n hr (pv 0) (pa_1 (qm qld (pv 1) (pv 2)))))),?_⟩;obtain ⟨dx,J⟩:=id O;refine ⟨_,rfl,p,dx,_,rfl,J,rfl,_,rfl,_,rfl,a,b,_,_,rfl,rfl,ha,hb,by rw [z30,z30];exact z3y (q1p (by lia)),λ c hc=> ?_⟩;have s1:=qf (o:=HO.lst (xs.map V.int++ys.map V.int)) hc;exact ⟨p,c,m,xs++ys,zr,O.same s1,m0,by rw [qb,z36],λ l H' s' hl e=>q l H' (s1.trans s') (s1.free hl) e⟩
def qjl (T:Txt K mg):MDef P w K mg base 2 (cA mg "Bests") "both" ["self","one","other"] (qtk mg sums):=by
 refine T.qni.ok q7l (λ vs H Q E h=> ?_) λ f cdv A outer s H vs Q E hr h=> ?_
 ·obtain ⟨p,a,b,m,xs,ys,rfl,_⟩:=h;rfl
 ·obtain ⟨p,a,b,m,xs,ys,rfl,hp,m0,ha,hb,lx,ly,q⟩:=h;refine ⟨_,(q2p
   (qt (i:=3) q7l.nd rfl (Or.inl rfl) (q24 q2g))
   (q1i PassesOwn.never rfl (q1a K (pv 1)) (qr (i:=4) q7l.nd rfl (Or.inr rfl)) (qg (q2s (q7s z0l z0e z0f q6y (pv 3) (pa_1 (q2b (N:=["more","number"]) (caps:=[none,some 4]) rfl (by with_unfolding_all rfl) (q1a K (pv 2)) (λ _ _ _ _ _=>(qr (i:=0) (show (["more","number"]:xD).Nodup by decide+kernel) rfl (Or.inl rfl))) (λ _ _ _ _ _=>q3v) (λ _ _ _ _ _=>(qm q1l (pv 1) (pv 0)))))))))
   (qk (qgl (q45 T) T.q4n hr (pv 0) (pa_1 (pv 3))))),?_⟩
  refine ⟨by decide,λ S hS=> ?_⟩;refine ⟨_,rfl,a,rfl,⟨_,SqL.of (qf hS _ _ ha)⟩,q29 (xs:=xs.map V.int) (λ i σ H'=>∃ v:Option V,σ=[some (.ref p),some (.ref a),some (.ref b),some (.ref S),v]/\Same H H'/\H' S=some (.lst ((sums (xs.take i) ys).map V.int))) ⟨none,rfl,qf hS,qb⟩ (λ i σ H' _ z=>by obtain ⟨_,_,z,_⟩:=z;exact SqL.of (z _ _ ha)) ?_ ?_⟩
  ·rintro i x σ H' hx ⟨v,rfl,s1,h1⟩;rw [z22] at hx;obtain ⟨n,Z,rfl⟩:=z0q.mp hx;have il:i < xs.length:=(z07.mp Z).1;have J:=s1 _ _ hb;refine ⟨_,zr,.inl ⟨zr,_,SqL.of h1⟩,_,zr,b,zr,⟨_,SqL.of J⟩,λ D hD=> ?_⟩;refine q20 (ys.map V.int).length (λ i σ' G=>(∃ v,σ'=[v,some (.int n)])/\Same H' G/\G D=some (.lst (((ys.take i).map λ y=>n+y).map V.int))) ⟨⟨_,zr⟩,qf hD,qb⟩ (λ i σ' G hi p=> ?_) (λ σ' G p=>⟨?_,?_⟩) (λ i σ' G hi p x H2 y=> ?_)
   ·obtain ⟨_,O,_⟩:=p;exact ⟨_,_,SqL.of (O _ _ J),z0d hi⟩
   ·obtain ⟨_,O,_⟩:=p;exact ⟨_,SqL.of (O _ _ J),z48 _⟩
   ·obtain ⟨_,O,e⟩:=p;rw [z30,z2t] at e;have el:(sums (xs.take i) ys).length<=400:=by
     rw [qvv,z2g];exact z3j (show min i xs.length<=20 by lia) ly
    refine ⟨S,D,_,_,rfl,rfl,O _ _ h1,e,by rw [z30,z30,z30];exact z3y (q1p (by lia)),_,rfl,(s1.trans O).set hS,?_⟩;rw [qb,z3h,Z,<- z36]
    congr 3
    unfold sums;rw [z1j];show _=_++List.flatMap _ [n];rw [List.flatMap_cons,List.flatMap_nil,z31]
   ·obtain ⟨⟨v,rfl⟩,O,e⟩:=p;obtain ⟨rfl,hx⟩:=y;have a1:=hx _ (SqL.of (O _ _ J));rw [z22] at a1;obtain ⟨z,a2,rfl⟩:=z0q.mp a1;refine ⟨_,zr,_,zr,_,_,zr,zr,?_⟩;refine ⟨_,e,by rw [z30,z30,z2g];exact q1p (by lia),⟨_,rfl⟩,O.set hD,?_⟩;rw [qb,z3h,a2,z36,z36];rfl
  ·rintro σ H' ⟨v,rfl,s1,h1⟩;rw [z30,z2t] at h1;obtain ⟨dx,a0⟩:=hp.same s1;exact ⟨_,zr,p,dx,_,zr,a0,zr,_,zr,p,S,m,sums xs ys,zr,⟨dx,a0⟩,m0,h1,λ l H2 s2 hl e=>q l H2 (s1.trans s2) (s1.free hl) e⟩
def q11i:Sp:=λ vs H Q _=>∃ o,vs=[o]/\∀ p,H p=none ->Q (.ref p) (upd H p (.lst []))
def qfr (T:Txt K mg):MDef P w K mg base 1 (cA mg "Hands") "nought" ["self"] q11i:=by
 refine T.qhp.ok qff (λ vs H Q E h=> ?_) λ f cdv A outer s H vs Q E hr h=> ?_
 ·obtain ⟨o,rfl,_⟩:=h;rfl
 ·obtain ⟨o,rfl,k⟩:=h;exact ⟨_,(qg (qk (q24 q2g))),by show 0<=sizeLine;decide,λ p hp=>k p hp⟩
def q11j:Sp:=λ vs H Q _=>∃ o,vs=[o]/\∀ p e H',Same H H' ->H p=none ->H' p=some (.lst [.ref e]) ->H' e=some (.tup []) ->Q (.ref p) H'
def qjm (T:Txt K mg):MDef P w K mg base 1 (cA mg "Hands") "unit" ["self"] q11j:=by
 refine T.qn2.ok qje (λ vs H Q E h=> ?_) λ f cdv A outer s H vs Q E hr h=> ?_
 ·obtain ⟨o,rfl,_⟩:=h;rfl
 ·obtain ⟨o,rfl,k⟩:=h;refine ⟨_,(qg (qk (q24 (pa_1 (q6w q2g))))),by show 0<=sizeLine;decide,λ e he=>⟨by show 1<=sizeLine;decide,λ p J=> ?_⟩⟩;have s1:=qf (o:=HO.tup []) he;have O:=qf (o:=HO.lst [.ref e]) J;exact k p e _ (s1.trans O) (s1.free J) qb (O _ _ qb)
def qzh:Sp:=λ vs H Q _=>∃ (o:V) (a b:Addr) (xs ys:List V) (A B:xF),vs=[o,.ref a,.ref b]/\H a=some (.lst xs)/\H b=some (.lst ys)/\q1x H xs A/\q1x H ys B/\A.length<=2000/\B.length<=2000/\(∀ r∈A,r.length<=15/\endW∉r)/\(∀ r∈B,r.length<=15/\endW∉r)/\
 ∀ p zs (R:xF) H',Same H H' ->H p=none ->H' p=some (.lst zs) ->q1x H' zs R ->Acc R ->(∀ x,Up R x↔Up (A++B) x) ->Q (.ref p) H'
def qfs (T:Txt K mg):MDef P w K mg base 4 (cA mg "Hands") "either" ["self","one","other"] qzh:=by
 refine T.qhq.ok qfg (λ vs H Q E h=> ?_) λ f cdv A outer s H vs Q E hr h=> ?_
 ·obtain ⟨o,a,b,xs,ys,A,B,rfl,_⟩:=h;rfl
 ·obtain ⟨o,a,b,xs,ys,FA,FB,rfl,ha,hb,J,O,lA,lB,wA,wB,k⟩:=h;have l1:=Paired.length J;have l2:=Paired.length O;refine ⟨_,(qg (qk (qy (qal T) hr rfl (pa_1 (qm qld (pv 1) (pv 2)))))),?_⟩;refine ⟨_,zr,_,zr,a,b,_,_,zr,zr,ha,hb,z3y (q15 (by lia)),λ c hc=> ?_⟩;have s1:=qf (o:=HO.lst (xs++ys)) hc;refine ⟨c,xs++ys,FA++FB,rfl,SqL.of qb,qio (q1q (λ b ys e=>s1 b _ e) (q1r J O)),by rw [z1o];lia,λ r hr=> ?_,λ p zs R H' s2 hp ep tp aR uR=>k p zs R H' (s1.trans s2) (s1.free hp) ep tp aR uR⟩;have:=(z2u.mp hr).elim (wA r) (wB r);exact ⟨by lia,this.2⟩
def qvz (K:xA):Sp:=λ vs H Q E=>∃ o ws,vs=o::ws/\qtf K ws H Q E
def qjn (T:Txt K mg):MDef P w K mg base 5 (cA mg "Hands") "both" ["self","one","other"] (qvz K):=by
 refine T.qnh.ok qjf (λ vs H Q E h=> ?_) λ f cdv A outer s H vs Q E hr h=> ?_
 ·obtain ⟨o,ws,rfl,a,b,xs,ys,A,B,rfl,_⟩:=h;rfl
 ·obtain ⟨o,ws,rfl,a,b,xs,ys,FA,FB,rfl,h⟩:=h;exact ⟨_,(qg (qk (qy (qtg T) hr rfl (pa_2 (pv 1) (pv 2))))),_,zr,_,zr,a,b,xs,ys,FA,FB,zr,h⟩
def insI (x:Int):List Int ->List Int
 | []=>[x]
 | y::ys=>if x < y then x::y::ys else y::insI x ys
def upTo (x:Int) (l:List Int):Nat:=(l.filter λ y=>decide (y<=x)).length
def AscI (l:List Int):Prop:=l.Pairwise λ a b=>q19 b a=false
theorem qc2 (x:Int):∀ l,(insI x l).Perm (x::l)
 | []=> .refl _
 | y::ys=>by
  unfold insI;split
  ·exact .refl _
  ·exact ((qc2 x ys).cons y).trans (.swap _ _ _)
theorem qmd (x:Int):∀ l,AscI l ->AscI (insI x l)
 | [],_=>z0i _ _
 | y::ys,h=>by
  have h1:=z1q.mp h;unfold insI;split
  ·rename_i c;refine z1q.mpr ⟨λ z hz=> ?_,h⟩;rcases z3n.mp hz with rfl | hz
   ·exact z2w (by lia)
   ·have:=of_decide_eq_false (h1.1 z hz);exact z2w (by lia)
  ·rename_i c;refine z1q.mpr ⟨λ z hz=> ?_,qmd x ys h1.2⟩;rcases z3n.mp ((qc2 x ys).mem_iff.mp hz) with rfl | hz
   ·exact z2w c
   ·exact h1.1 z hz
def qw0 (x:Int) (l:List Int):Tim.srt q19 (x::l)=insI x (Tim.srt q19 l):=
 (Tim.q9i q1w ((qc2 x _).trans ((Tim.qo q19 l).cons x)) (qmd x _ (Tim.q1v q1w l))).symm
theorem qip (x:Int):∀ (l:List Int) (m:Nat),AscI l ->m<=upTo x l ->(insI x l).take m=l.take m
 | _,0,_,_=>rfl
 | [],m+1,_,h=>by
  have:upTo x []=0:=rfl
  lia
 | y::ys,m+1,h,hm=>by
  have h1:=z1q.mp h;unfold insI;split
  ·rename_i c
   exfalso
   have:upTo x (y::ys)=0:=by
    unfold upTo;rw [z0k,List.filter_eq_nil_iff];intro z hz;rcases z3n.mp hz with rfl | hz
    ·simp;lia
    ·have:=of_decide_eq_false (h1.1 z hz);simp;lia
   lia
  ·rename_i c;rw [List.take_succ_cons,List.take_succ_cons,qip x ys m h1.2];have:upTo x (y::ys)=upTo x ys+1:=by
    unfold upTo;rw [List.filter_cons_of_pos (by simp;lia),z2i]
   lia
def qtl {x:Int} {a b:List Int} (p:a.Perm b):upTo x a=upTo x b:=(p.filter _).length_eq
def qao (x:Int) (a b:List Int):upTo x (a++b)=upTo x a+upTo x b:=by
 unfold upTo;rw [z1u,z1o]
def qw1 {x:Int} {a:List Int} (h:∀ y∈a,y<=x):upTo x a=a.length:=by
 unfold upTo;rw [List.filter_eq_self.mpr λ y hy=>z3c (h y hy)]
def q38 {m:Int} {a b:List Int} (p:a.Perm b):q1d m a=q1d m b:=by
 unfold q1d;rw [Tim.q9i q1w ((Tim.qo q19 a).trans p) (Tim.q1v q1w a)]
theorem q7t {m:Int} {S:List Int}:∀ T:List Int,(∀ t∈T,m.toNat<=upTo t S) ->q1d m (T++S)=q1d m S
 | [],_=>rfl
 | t::T,h=>by
  have ih:=q7t (m:=m) (S:=S) T λ t ht=>h t (z16 _ ht);rw [<- ih];show (Tim.srt q19 (t::(T++S))).take _=_;rw [qw0,qip t _ _ (Tim.q1v q1w _)]
  ·rfl
  ·rw [qtl (Tim.qo q19 _),qao];have:=h t (z1p ..)
   lia
def qdh (m:Int) (a:List Int):∃ R:List Int,(q1d m a++R).Perm a/\(R=[]\/ (q1d m a).length=m.toNat)/\∀ p∈q1d m a,∀ r∈R,p<=r:=by
 refine ⟨(Tim.srt q19 a).drop m.toNat,?_,?_,?_⟩
 ·unfold q1d;rw [z0v];exact Tim.qo q19 a
 ·unfold q1d;rw [z2g];by_cases h:(Tim.srt q19 a).length<=m.toNat
  ·exact .inl (List.drop_eq_nil_of_le h)
  ·right
   lia
 ·intro p hp r hr;have h:=Tim.q1v q1w a;rw [<- z0v m.toNat (Tim.srt q19 a),z11] at h;have:=of_decide_eq_false (h.2.2 p hp r hr)
  lia
def q7x (m:Int) (a b:List Int):q1d m (q1d m a++b)=q1d m (a++b):=by
 obtain ⟨R,h1,h2,h3⟩:=qdh m a;have e:(R++(q1d m a++b)).Perm (a++b):=by
  rw [<- z1y];exact ((z0u).trans h1).append_right b
 rw [<- q38 e]
 symm
 refine q7t R λ t J=> ?_;rcases h2 with rfl | h2
 ·cases J
 ·rw [qao,qw1 λ y hy=>h3 y hy t J]
  lia
def q9o (m:Int) (a b:List Int):q1d m (a++q1d m b)=q1d m (a++b):=by
 rw [q38 z0u,q7x,q38 z0u]
def qme (a b c:List Int):sums (a++b) c=sums a c++sums b c:=z1j
def qtm {a b c:List Int} (p:a.Perm b):(sums a c).Perm (sums b c):=p.flatMap_right _
def qmf (a:List Int):sums a []=[]:=by
 induction a with
 | nil=>rfl
 | cons x a ih=>
  show []++sums a []=[];exact ih
def qr0 (a:List Int) (y:Int) (b:List Int):(sums a (y::b)).Perm (a.map (λ x=>x+y)++sums a b):=by
 induction a with
 | nil=>exact .refl _
 | cons x a ih=>
  show ((x+y)::(b.map (λ z=>x+z)++sums a (y::b))).Perm ((x+y)::(a.map (λ x=>x+y)++(b.map (λ z=>x+z)++sums a b)));refine .cons _ ?_;refine (ih.append_left _).trans ?_;rw [<- z1y,<- z1y];exact z0u.append_right _
def qc3 (a b:List Int):(sums a b).Perm (sums b a):=by
 induction b with
 | nil=>rw [qmf];exact .refl _
 | cons y b ih=>
  refine (qr0 a y b).trans ?_;have:sums (y::b) a=a.map (λ x=>y+x)++sums b a:=rfl;rw [this,z1f (g:=λ x=>y+x) λ x _=>Int.add_comm x y];exact ih.append_left _
def qr1 (a b c:List Int):sums (sums a b) c=sums a (sums b c):=by
 unfold sums;rw [List.flatMap_assoc]
 congr 1
 funext x
 rw [List.flatMap_map,List.map_flatMap]
 congr 1
 funext y
 rw [z47]
 congr 1
 funext z
 exact Int.add_assoc x y z
def qel (m:Int) (a b:List Int):q1d m (sums (q1d m a) b)=q1d m (sums a b):=by
 obtain ⟨R,h1,h2,h3⟩:=qdh m a;have e:(sums R b++sums (q1d m a) b).Perm (sums a b):=by
  rw [<- qme];exact qtm ((z0u).trans h1)
 rw [<- q38 e]
 symm
 refine q7t _ λ t J=> ?_;rcases h2 with rfl | h2
 ·cases J
 ·obtain ⟨r,hr,J⟩:=List.mem_flatMap.mp J;obtain ⟨y,hy,rfl⟩:=z45.mp J;have key:∀ P:List Int,(∀ p∈P,p<=r) ->P.length<=upTo (r+y) (sums P b):=by
   intro P
   induction P with
   | nil=>intro _;exact z4b _
   | cons p P ih=>
    intro O;have h4:=ih λ q hq=>O q (z16 _ hq);have:sums (p::P) b=b.map (λ z=>p+z)++sums P b:=rfl;rw [this,qao,z2i];have:1<=upTo (r+y) (b.map λ z=>p+z):=by
     unfold upTo;refine List.length_pos_of_mem (a:=p+y) (z2x.mpr ⟨z45.mpr ⟨y,hy,zr⟩,z3c ?_⟩);have:=O p (z1p ..)
     lia
    lia
  have:=key (q1d m a) λ p hp=>h3 p hp r hr
  lia
def qw3 (m:Int) (a b:List Int):q1d m (sums a (q1d m b))=q1d m (sums a b):=by
 rw [q38 (qc3 _ _),qel,q38 (qc3 _ _)]
def q5x {m:Int} {a:List Int} (h:AscI a) (hl:a.length<=m.toNat):q1d m a=a:=by
 unfold q1d;rw [<- Tim.q9i q1w (.refl a) h,z0n hl]
def qc4 (m:Int) (a:List Int):AscI (q1d m a):=(Tim.q1v q1w a).sublist (List.take_sublist _ _)
def minS (F:xF):List (List Str):=(F.map uniq).filter λ u=> !(F.map uniq).any λ v=>decide ((∀ w∈v,w∈u)/\v≠u)
def nubF:List (List Str) ->List (List Str)
 | []=>[]
 | x::l=>if x∈l then nubF l else x::nubF l
theorem qap {x:xD}:∀ {l:xF},x∈nubF l↔x∈l
 | []=>Iff.rfl
 | y::l=>by
  unfold nubF;split
  ·rename_i h;rw [qap,z3n];exact ⟨.inr,λ z=>z.elim (λ e=>e ▸ h) id⟩
  ·rw [z3n,z3n,qap]
theorem qhd:∀ l:List (List Str),(nubF l).Nodup
 | []=>z3g
 | y::l=>by
  unfold nubF;split
  ·exact qhd l
  ·rename_i h;exact z32.mpr ⟨λ z=>h (qap.mp z),qhd l⟩
def q3s (F:xF):List (List Str):=Tim.srt qz (nubF (minS F))
def q5i {F:xF} {r:xD}:r∈q3s F↔r∈minS F:=by
 unfold q3s;rw [(Tim.qo qz _).mem_iff,qap]
def q6k {F:xF} {r:xD}:r∈minS F↔(∃ f∈F,uniq f=r)/\∀ f∈F,(∀ w∈uniq f,w∈r) ->uniq f=r:=by
 unfold minS;rw [z2x,z45];refine and_congr Iff.rfl ?_
 constructor
 ·intro h f hf hw
  apply Classical.byContradiction
  intro hn;have:((F.map uniq).any λ v=>decide ((∀ w∈v,w∈r)/\v≠r))=true:=z2p.mpr ⟨uniq f,z45.mpr ⟨f,hf,rfl⟩,z3c ⟨hw,hn⟩⟩;rw [this] at h;cases h
 ·intro h;have:((F.map uniq).any λ v=>decide ((∀ w∈v,w∈r)/\v≠r))=false:=by
   rw [List.any_eq_false];intro v hv;obtain ⟨f,hf,rfl⟩:=z45.mp hv;intro z;have z:=of_decide_eq_true z;exact z.2 (h f hf z.1)
  rw [this];rfl
def q3l (F:xF):Acc (q3s F):=by
 refine ⟨q5h q2c (Tim.q1v q2c _) ((Tim.qo qz _).nodup_iff.mpr (qhd _)),λ r hr=> ?_,λ r hr q hq h=> ?_⟩
 ·obtain ⟨⟨f,_,rfl⟩,_⟩:=q6k.mp (q5i.mp hr);exact q70 f
 ·obtain ⟨⟨f,hf,rfl⟩,_⟩:=q6k.mp (q5i.mp hr);exact (q6k.mp (q5i.mp hq)).2 f hf h
theorem qp8 {F:xF}:∀ (n:Nat) (f:xD),f∈F ->(uniq f).length<=n ->∃ r∈minS F,∀ w∈r,w∈uniq f
 | n,f,hf,hn=>by
  by_cases z:∀ g∈F,(∀ w∈uniq g,w∈uniq f) ->uniq g=uniq f
  ·exact ⟨uniq f,q6k.mpr ⟨⟨f,hf,zr⟩,z⟩,λ _ z=>z⟩
  ·obtain ⟨g,z⟩:=Classical.not_forall.mp z;obtain ⟨hg,z⟩:=Classical.not_imp.mp z;obtain ⟨hw,J⟩:=Classical.not_imp.mp z;have hl:(uniq g).length < (uniq f).length:=by
    apply Classical.byContradiction
    intro q;exact J (qma (q70 g) (q70 f) hw (by lia))
   match n with
   | 0=>lia
   | n+1=>
    obtain ⟨r,hr,h⟩:=qp8 n g hg (by lia);exact ⟨r,hr,λ w q=>hw w (h w q)⟩
def q2o {F:xF} {x:xD}:Up (q3s F) x↔Up F x:=by
 constructor
 ·rintro ⟨r,hr,h⟩;obtain ⟨⟨f,hf,rfl⟩,_⟩:=q6k.mp (q5i.mp hr);exact ⟨f,hf,λ w hw=>h w ((q55 f w).mpr hw)⟩
 ·rintro ⟨f,hf,h⟩;obtain ⟨r,hr,h1⟩:=qp8 _ f hf (z48 _);exact ⟨r,q5i.mpr hr,λ w hw=>h w ((q55 f w).mp (h1 w hw))⟩
def q4j {A B:xF} (h:∀ x,Up A x↔Up B x):q3s A=q3s B:=qtc (q3l A) (q3l B) λ x=>q2o.trans ((h x).trans q2o.symm)
def q8n {A R:xF} (a:Acc R) (h:∀ x,Up R x↔Up A x):R=q3s A:=qtc a (q3l A) λ x=>(h x).trans q2o.symm
def q11k {x:xD}:Up [[]] x↔True:=⟨λ _=>trivial,λ _=>⟨[],z1m.mpr rfl,λ _ z=>nomatch z⟩⟩
def qzi {x:xD}:Up [] x↔False:=⟨(λ ⟨_,z,_⟩=>nomatch z),False.elim⟩
inductive Wo where
 | num (i:Int) | non | nums (l:List Int) | tr (b:Bool) | acc (R:xF)
inductive Kd where
 | counts | costs | bests (m:Int) | trusts (t:Int) | truths | hands
def Kd.ok:Kd ->Prop
 | .bests m=>1<=m/\m<=9
 | .trusts t=>0<=t
 | _=>True
structure HOk (W:xD):Prop where
 few:W.length<=7
 ne:endW∉W
 ok:∀ w∈W,PyData.strOk w=true
inductive qi (W:xD):Kd ->Wo ->Prop where
 | counts {i:Int} (h:0<=i):qi W .counts (.num i)
 | costN (i:Int):qi W .costs (.num i)
 | costX:qi W .costs .non
 | bests {m:Int} {l:List Int} (h:AscI l) (hl:l.length<=m.toNat):qi W (.bests m) (.nums l)
 | trusts {t i:Int} (h:0<=i) (h2:i<=t):qi W (.trusts t) (.num i)
 | truths (b:Bool):qi W .truths (.tr b)
 | hands {R:xF} (a:Acc R) (o:Of 7 W R):qi W .hands (.acc R)
def noW:Kd ->Wo
 | .counts=> .num 0
 | .costs=> .non
 | .bests _=> .nums []
 | .trusts _=> .num 0
 | .truths=> .tr false
 | .hands=> .acc []
def unW:Kd ->Wo
 | .counts=> .num 1
 | .costs=> .num 0
 | .bests _=> .nums [0]
 | .trusts t=> .num t
 | .truths=> .tr true
 | .hands=> .acc [[]]
def eiW:Kd ->Wo ->Wo ->Wo
 | .counts,.num i,.num j=> .num (i+j)
 | .costs,.non,y=>y
 | .costs,.num i,.num j=> .num (if j < i then j else i)
 | .bests m,.nums a,.nums b=> .nums (q1d m (a++b))
 | .trusts _,.num i,.num j=> .num (if j > i then j else i)
 | .truths,.tr a,.tr b=> .tr (a || b)
 | .hands,.acc A,.acc B=> .acc (q3s (A++B))
 | _,x,_=>x
def boW:Kd ->Wo ->Wo ->Wo
 | .counts,.num i,.num j=> .num (i*j)
 | .costs,.num i,.num j=> .num (i+j)
 | .bests m,.nums a,.nums b=> .nums (q1d m (sums a b))
 | .trusts _,.num i,.num j=> .num (if j < i then j else i)
 | .truths,.tr a,.tr b=> .tr (a&&b)
 | .hands,.acc A,.acc B=> .acc (q3s (q5v A B))
 | _,_,_=> .non
def Of.nil {W:xD} (h:HOk W):Of 7 W []:=⟨by decide,h.few,h.ne,λ _ z=>nomatch z⟩
def Of.one {W:xD} (h:HOk W):Of 7 W [[]]:=⟨by decide,h.few,h.ne,λ r hr w hw=>by rw [z1m.mp hr] at hw;cases hw⟩
def qtn:Acc []:=⟨List.Pairwise.nil,(λ _ z=>nomatch z),λ _ z=>nomatch z⟩
def q11l:Acc [[]]:=⟨z0i _ _,(λ r hr=>by rw [z1m.mp hr];exact List.Pairwise.nil),λ r hr q hq _=>by rw [z1m.mp hr,z1m.mp hq]⟩
def q5y {A:xF} (a:Acc A):q3s A=A:=(q8n a λ _=>Iff.rfl).symm
section
variable {W:xD} {k:Kd} {a b c:Wo}
def qem (m:Int) (l:List Int):(q1d m l).length<=m.toNat:=by
 unfold q1d;rw [z2g]
 lia
def qzj (hW:HOk W):qi W k (noW k)\/ ∃ t,k= .trusts t:=by
 cases k with
 | counts=>exact .inl (.counts (z4a _))
 | costs=>exact .inl .costX
 | bests m=>exact .inl (.bests List.Pairwise.nil (z4b _))
 | trusts t=>exact .inr ⟨t,rfl⟩
 | truths=>exact .inl (.truths _)
 | hands=>exact .inl (.hands qtn (.nil hW))
def q4k (hW:HOk W) (hk:k.ok):qi W k (noW k):=by
 rcases qzj (k:=k) hW with h | ⟨t,rfl⟩
 ·exact h
 ·exact .trusts (z4a _) hk
def q9p (hW:HOk W) (hk:k.ok):qi W k (unW k):=by
 cases k with
 | counts=>exact .counts (by decide)
 | costs=>exact .costN _
 | bests m=>
  have:1<=m:=hk.1;exact .bests (z0i _ _) (by show 1<=m.toNat;lia)
 | trusts t=>exact .trusts hk (z4a _)
 | truths=>exact .truths _
 | hands=>exact .hands q11l (.one hW)
def q5z (ha:qi W k a) (J:qi W k b):qi W k (eiW k a b):=by
 cases ha with
 | counts h=>cases J with | counts h'=>exact .counts (by lia)
 | costN i=>cases J with
  | costN j=>exact .costN _
  | costX=>exact .costN _
 | costX=>exact J
 | bests h hl=>cases J with | bests h' hl'=>exact .bests (qc4 _ _) (qem _ _)
 | trusts h h2=>cases J with
  | trusts h' h2'=>
   refine .trusts ?_ ?_ <;> split <;> lia
 | truths x=>cases J with | truths y=>exact .truths _
 | hands x o=>cases J with | hands y o'=>exact .hands (q3l _) (o.thin o' (q3l _) λ _=>q2o)
def q71 (ha:qi W k a) (J:qi W k b):qi W k (boW k a b):=by
 cases ha with
 | counts h=>cases J with | counts h'=>exact .counts (z3k h h')
 | costN i=>cases J with
  | costN j=>exact .costN _
  | costX=>exact .costX
 | costX=>cases J with
  | costN j=>exact .costX
  | costX=>exact .costX
 | bests h hl=>cases J with | bests h' hl'=>exact .bests (qc4 _ _) (qem _ _)
 | trusts h h2=>cases J with
  | trusts h' h2'=>
   refine .trusts ?_ ?_ <;> split <;> lia
 | truths x=>cases J with | truths y=>exact .truths _
 | hands x o=>cases J with | hands y o'=>exact .hands (q3l _) (o.agr o' (q3l _) λ _=>q2o.trans q2m)
def qhe (ha:qi W k a) (J:qi W k b):eiW k a b=eiW k b a:=by
 cases ha with
 | counts h=>cases J with | counts h'=>exact congrArg Wo.num (Int.add_comm _ _)
 | costN i=>cases J with
  | costN j=>
   refine congrArg Wo.num ?_;split <;> split <;> lia
  | costX=>rfl
 | costX=>cases J with
  | costN j=>rfl
  | costX=>rfl
 | bests h hl=>cases J with | bests h' hl'=>exact congrArg Wo.nums (q38 z0u)
 | trusts h h2=>cases J with
  | trusts h' h2'=>
   refine congrArg Wo.num ?_;split <;> split <;> lia
 | truths x=>cases J with | truths y=>exact congrArg Wo.tr (Bool.or_comm _ _)
 | hands x o=>cases J with | hands y o'=>exact congrArg Wo.acc (q4j λ _=>by rw [q5w,q5w,or_comm])
def q5b (ha:qi W k a) (O:qi W k b) (J:qi W k c):eiW k (eiW k a b) c=eiW k a (eiW k b c):=by
 cases ha with
 | counts h=>cases O with | counts h'=>cases J with | counts Z=>exact congrArg Wo.num (Int.add_assoc _ _ _)
 | costN i=>cases O with
  | costN j=>cases J with
   | costN l=>
    refine congrArg Wo.num ?_
    repeat' split
    all_goals lia
   | costX=>rfl
  | costX=>cases J with
   | costN l=>rfl
   | costX=>rfl
 | costX=>rfl
 | bests h hl=>cases O with | bests h' hl'=>cases J with | bests Z a1=>exact congrArg Wo.nums (by rw [q7x,q9o,z1y])
 | trusts h h2=>cases O with
  | trusts h' h2'=>cases J with
   | trusts Z a0=>
    refine congrArg Wo.num ?_
    repeat' split
    all_goals lia
 | truths x=>cases O with | truths y=>cases J with | truths z=>exact congrArg Wo.tr (Bool.or_assoc _ _ _)
 | hands x o=>cases O with | hands y o'=>cases J with | hands z o''=>exact congrArg Wo.acc (q4j λ _=>by rw [q5w,q5w,q2o,q2o,q5w,q5w,or_assoc])
def qkh (ha:qi W k a):eiW k a (noW k)=a:=by
 cases ha with
 | counts h=>exact congrArg Wo.num (Int.add_zero _)
 | costN i=>rfl
 | costX=>rfl
 | bests h hl=>exact congrArg Wo.nums (by rw [z31];exact q5x h hl)
 | trusts h h2=>
  refine congrArg Wo.num ?_;split <;> lia
 | truths x=>exact congrArg Wo.tr (Bool.or_false _)
 | hands x o=>exact congrArg Wo.acc (by rw [z31];exact q5y x)
def qaq (hW:HOk W) (hk:k.ok) (J:qi W k a):eiW k (noW k) a=a:=(qhe (q4k hW hk) J).trans (qkh J)
def q6l (ha:qi W k a) (J:qi W k b):boW k a b=boW k b a:=by
 cases ha with
 | counts h=>cases J with | counts h'=>exact congrArg Wo.num (Int.mul_comm _ _)
 | costN i=>cases J with
  | costN j=>exact congrArg Wo.num (Int.add_comm _ _)
  | costX=>rfl
 | costX=>cases J with
  | costN j=>rfl
  | costX=>rfl
 | bests h hl=>cases J with | bests h' hl'=>exact congrArg Wo.nums (q38 (qc3 _ _))
 | trusts h h2=>cases J with
  | trusts h' h2'=>
   refine congrArg Wo.num ?_;split <;> split <;> lia
 | truths x=>cases J with | truths y=>exact congrArg Wo.tr (Bool.and_comm _ _)
 | hands x o=>cases J with | hands y o'=>exact congrArg Wo.acc (q4j λ _=>by rw [q2m,q2m,and_comm])
def qar (ha:qi W k a) (O:qi W k b) (J:qi W k c):boW k (boW k a b) c=boW k a (boW k b c):=by
 cases ha with
 | counts h=>cases O with | counts h'=>cases J with | counts Z=>exact congrArg Wo.num (Int.mul_assoc _ _ _)
 | costN i=>cases O with
  | costN j=>cases J with
   | costN l=>exact congrArg Wo.num (Int.add_assoc _ _ _)
   | costX=>rfl
  | costX=>cases J with
   | costN l=>rfl
   | costX=>rfl
 | costX=>cases O with
  | costN j=>cases J with
   | costN l=>rfl
   | costX=>rfl
  | costX=>cases J with
   | costN l=>rfl
   | costX=>rfl
 | bests h hl=>cases O with | bests h' hl'=>cases J with | bests Z a1=>exact congrArg Wo.nums (by rw [qel,qw3,qr1])
 | trusts h h2=>cases O with
  | trusts h' h2'=>cases J with
   | trusts Z a0=>
    refine congrArg Wo.num ?_
    repeat' split
    all_goals lia
 | truths x=>cases O with | truths y=>cases J with | truths z=>exact congrArg Wo.tr (Bool.and_assoc _ _ _)
 | hands x o=>cases O with | hands y o'=>cases J with | hands z o''=>exact congrArg Wo.acc (q4j λ _=>by rw [q2m,q2m,q2o,q2o,q2m,q2m,and_assoc])
def qr2 (ha:qi W k a) (O:qi W k b) (J:qi W k c):boW k (eiW k a b) c=eiW k (boW k a c) (boW k b c):=by
 cases ha with
 | counts h=>cases O with | counts h'=>cases J with | counts Z=>exact congrArg Wo.num (Int.add_mul _ _ _)
 | costN i=>cases O with
  | costN j=>cases J with
   | costN l=>
    refine congrArg Wo.num ?_;split <;> split <;> lia
   | costX=>rfl
  | costX=>cases J with
   | costN l=>rfl
   | costX=>rfl
 | costX=>cases O with
  | costN j=>cases J with
   | costN l=>rfl
   | costX=>rfl
  | costX=>cases J with
   | costN l=>rfl
   | costX=>rfl
 | bests h hl=>cases O with | bests h' hl'=>cases J with | bests Z a1=>exact congrArg Wo.nums (by rw [qel,q7x,q9o,qme])
 | trusts h h2=>cases O with
  | trusts h' h2'=>cases J with
   | trusts Z a0=>
    refine congrArg Wo.num ?_
    repeat' split
    all_goals lia
 | truths x=>cases O with | truths y=>cases J with | truths z=>exact congrArg Wo.tr (Bool.and_or_distrib_right _ _ _)
 | hands x o=>cases O with | hands y o'=>cases J with | hands z o''=>exact congrArg Wo.acc (q4j λ _=>by rw [q2m,q5w,q2o,q2o,q2o,q5w,q2m,q2m,or_and_right])
def qr3 (ha:qi W k a):boW k a (noW k)=noW k:=by
 cases ha with
 | counts h=>exact congrArg Wo.num (Int.mul_zero _)
 | costN i=>rfl
 | costX=>rfl
 | bests h hl=>exact congrArg Wo.nums (by rw [qmf];exact q5x List.Pairwise.nil (z4b _))
 | trusts h h2=>
  refine congrArg Wo.num ?_;split <;> lia
 | truths x=>exact congrArg Wo.tr (Bool.and_false _)
 | hands x o=>exact congrArg Wo.acc ((q4j λ _=>by rw [q2m,qzi];exact ⟨λ z=>z.2,False.elim⟩).trans (q5y qtn))
def qki (ha:qi W k a):boW k a (unW k)=a:=by
 cases ha with
 | counts h=>exact congrArg Wo.num (Int.mul_one _)
 | costN i=>exact congrArg Wo.num (Int.add_zero _)
 | costX=>rfl
 | @bests m l h hl=>
  have:sums l [0]=l:=by
   unfold sums;rw [show (λ x:Int=>[0].map λ y=>x+y)=λ x=>[x] from funext λ x=>by show [x+0]=[x];rw [Int.add_zero]];exact List.flatMap_singleton' l
  exact congrArg Wo.nums (by rw [this];exact q5x h hl)
 | trusts h h2=>
  refine congrArg Wo.num ?_;split <;> lia
 | truths x=>exact congrArg Wo.tr (Bool.and_true _)
 | hands x o=>exact congrArg Wo.acc ((q4j λ _=>by rw [q2m,q11k,and_true]).trans (q5y x))
def qr4 (hW:HOk W) (hk:k.ok) (J:qi W k a):boW k (unW k) a=a:=(q6l (q9p hW hk) J).trans (qki J)
end
def WV (H:Hp):Wo ->V ->Prop
 | .num i,x=>x= .int i
 | .non,x=>x= .non
 | .tr b,x=>x= .bl b
 | .nums l,x=>∃ p,x= .ref p/\H p=some (.lst (l.map V.int))
 | .acc R,x=>∃ p zs,x= .ref p/\H p=some (.lst zs)/\q1x H zs R
def WV.same {H H':Hp} {w:Wo} {x:V} (h:WV H w x) (s:Same H H'):WV H' w x:=by
 cases w with
 | num i=>exact h
 | non=>exact h
 | tr b=>exact h
 | nums l=>
  obtain ⟨p,e,h⟩:=h;exact ⟨p,e,s _ _ h⟩
 | acc R=>
  obtain ⟨p,zs,e,h,t⟩:=h;exact ⟨p,zs,e,s _ _ h,q1q (λ b ys z=>s b _ z) t⟩
def dW:Wo ->PyData
 | .num i=> .int i
 | .non=> .none
 | .tr b=> .bool b
 | .nums l=> .list (l.map .int)
 | .acc R=> .list (R.map dR)
def WV.dat {K:xA} {W:xD} {k:Kd} {H:Hp} {w:Wo} {x:V} (hW:HOk W) (g:qi W k w) (h:WV H w x):Dat K H (dW w) x:=by
 cases g with
 | counts _=>cases h;exact .int _
 | costN _=>cases h;exact .int _
 | costX=>cases h;exact .non
 | bests _ _=>
  obtain ⟨p,rfl,h⟩:=h;exact .lst (SqL.of h) (qbw _)
 | trusts _ _=>cases h;exact .int _
 | truths _=>cases h;exact .bl _
 | hands a o=>
  obtain ⟨p,zs,rfl,h,t⟩:=h;exact .lst (SqL.of h) (qmc t λ r hr w hw=>hW.ok w (o.sub r hr w hw))
def qmg (w:Wo):(dW w).depth<=60:=by
 cases w with
 | num i=>exact z4b _
 | non=>exact z4b _
 | tr b=>exact z4b _
 | nums l=>exact z41 (z2q (Nat.le_of_eq (qfi l))) (by decide)
 | acc R=>exact z41 (z2q (qp7 R)) (by decide)
def NewV (H:Hp) (x:V):Prop:=∀ p,x= .ref p ->H p=none
def q3k {H:Hp} {p:Addr} (h:H p=none):NewV H (.ref p):=λ q e=>by cases e;exact h
def q27 {H:Hp} (i:Int):NewV H (.int i):=λ _ e=>nomatch e
def qc5 {H:Hp} (b:Bool):NewV H (.bl b):=λ _ e=>nomatch e
def q7y {H:Hp}:NewV H .non:=λ _ e=>nomatch e
def NewV.back {H H':Hp} {x:V} (s:Same H H') (h:NewV H' x):NewV H x:=λ p e=>s.free (h p e)
def clsK (mg:xE):Kd ->Addr
 | .counts=>cA mg "Counts"
 | .costs=>cA mg "Costs"
 | .bests _=>cA mg "Bests"
 | .trusts _=>cA mg "Trusts"
 | .truths=>cA mg "Truths"
 | .hands=>cA mg "Hands"
def fsK:Kd ->List (Str×V)
 | .bests m=>[("most",.int m)]
 | .trusts t=>[("top",.int t)]
 | _=>[]
def meN:List Str:=["nought","unit","either","both","fits","repeated"]
def qcv {m:Str} (J:m∈meN) (k:Kd):(fsK k).lookup m=none:=by
 cases k with
 | bests n=>
  have:(m=="most")=false:=by
   rw [beq_eq_false_iff_ne];intro e;subst e;exact absurd J (by decide)
  show (match m=="most" with | true=>some _ | false=>List.lookup m [])=none;rw [this];rfl
 | trusts t=>
  have:(m=="top")=false:=by
   rw [beq_eq_false_iff_ne];intro e;subst e;exact absurd J (by decide)
  show (match m=="top" with | true=>some _ | false=>List.lookup m [])=none;rw [this];rfl
 | _=>rfl
def qc6 (k:Kd):(fsK k).lookup ("nought":Str)=none:=qcv (by decide) k
def q11m (k:Kd):(fsK k).lookup ("unit":Str)=none:=qcv (by decide) k
def qc7 (k:Kd):(fsK k).lookup ("either":Str)=none:=qcv (by decide) k
def q11n (k:Kd):(fsK k).lookup ("both":Str)=none:=qcv (by decide) k
def q11o (k:Kd):(fsK k).lookup ("fits":Str)=none:=qcv (by decide) k
def q11p (k:Kd):(fsK k).lookup ("repeated":Str)=none:=qcv (by decide) k
def ByAt (mg:xE) (H:Hp) (o:Addr) (k:Kd):Prop:=∃ dx,H o=some (.ins (clsK mg k) dx (fsK k))
def ByAt.same {mg:xE} {H H':Hp} {o:Addr} {k:Kd} (h:ByAt mg H o k) (s:Same H H'):ByAt mg H' o k:=by
 obtain ⟨dx,e⟩:=h;exact ⟨dx,s _ _ e⟩
def szW:Wo ->Int
 | .num i=>i
 | _=>0
def q136 (mg:xE) (k:Kd):Sp:=λ vs H Q _=>∃ o,vs=[.ref o]/\ByAt mg H o k/\∀ z H',Same H H' ->NewV H z ->WV H' (noW k) z ->Q z H'
def q137 (mg:xE) (k:Kd):Sp:=λ vs H Q _=>∃ o,vs=[.ref o]/\ByAt mg H o k/\∀ z H',Same H H' ->NewV H z ->WV H' (unW k) z ->Q z H'
def q138 (mg:xE) (k:Kd):Sp:=λ vs H Q _=>∃ (o:Addr) (x y:V) (a b:Wo) (W:xD),vs=[.ref o,x,y]/\ByAt mg H o k/\k.ok/\qi W k a/\qi W k b/\WV H a x/\WV H b y/\∀ z H',Same H H' ->NewV H z ->WV H' (eiW k a b) z ->Q z H'
def q139 (mg:xE) (k:Kd):Sp:=λ vs H Q _=>∃ (o:Addr) (x y:V) (a b:Wo) (W:xD),vs=[.ref o,x,y]/\ByAt mg H o k/\k.ok/\qi W k a/\qi W k b/\WV H a x/\WV H b y/\(k= .counts ->szW a < 2^1200/\szW b < 2^1200)/\∀ z H',Same H H' ->NewV H z ->WV H' (boW k a b) z ->Q z H'
def LtW (k:Kd) (B:Int) (a:Wo):Prop:=k= .counts ->szW a < B
def LtW.mono {k:Kd} {A B:Int} {a:Wo} (h:LtW k A a) (hB:A<=B):LtW k B a:=λ e=>Int.lt_of_lt_of_le (h e) hB
def LtW.and {k:Kd} {A B:Int} {a b:Wo} (h:LtW k A a) (h2:LtW k B b):k= .counts ->szW a < A/\szW b < B:=λ e=>⟨h e,h2 e⟩
def LtW.bo {W:xD} {k:Kd} {A B:Int} {a b:Wo} (h:LtW k A a) (ga:qi W k a) (gb:qi W k b) (h2:LtW k B b) (hA:0<=A) (hB:0<=B):LtW k (A*B) (boW k a b):=λ e=>by
 subst e;cases ga with | counts i=>cases gb with | counts j=>
  have h1:=h rfl;have h2:=h2 rfl;exact z1v (z02 (z3v h2) i) (Int.mul_lt_mul_of_pos_right h1 (z1v j h2))
def LtW.ei {W:xD} {k:Kd} {A B:Int} {a b:Wo} (h:LtW k A a) (ga:qi W k a) (gb:qi W k b) (h2:LtW k B b):LtW k (A+B) (eiW k a b):=λ e=>by
 subst e;cases ga with | counts i=>cases gb with | counts j=>
  have h1:=h rfl;have h2:=h2 rfl;exact Int.add_lt_add h1 h2
def q13a (k:Kd):LtW k (2^1200) (noW k):=λ e=>by subst e;show (0:Int) < _;decide+kernel
def wd7 {W:xD} {R:xF} (a:Acc R) (o:Of 7 W R):∀ r∈R,r.length<=15/\endW∉r:=λ r hr=>⟨z41 (o.len hr (a.norm r hr)).1 (by decide),(o.len hr (a.norm r hr)).2⟩
def q39 (T:Txt K mg) (k:Kd):Cls K (clsK mg k):=by
 cases k with
 | counts=>exact T.qu2
 | costs=>exact T.qwp
 | bests _=>exact T.q4n
 | trusts _=>exact T.q93
 | truths=>exact T.qua
 | hands=>exact T.qwy
def q72 (T:Txt K mg) (k:Kd):MDef P w K mg base 1 (clsK mg k) "nought" ["self"] (q136 mg k):=by
 cases k with
 | counts=>exact (qee T).imp λ vs H Q E ⟨o,e,_,q⟩=>⟨o,e,q _ _ (Same.refl _) (q27 _) rfl⟩
 | costs=>exact (qfn T).imp λ vs H Q E ⟨o,e,_,q⟩=>⟨o,e,q _ _ (Same.refl _) q7y rfl⟩
 | bests _=>exact (qfp T).imp λ vs H Q E ⟨o,e,_,q⟩=>⟨o,e,λ l hl=>q _ _ (qf hl) (q3k hl) ⟨l,rfl,qb⟩⟩
 | trusts _=>exact (qeg T).imp λ vs H Q E ⟨o,e,_,q⟩=>⟨o,e,q _ _ (Same.refl _) (q27 _) rfl⟩
 | truths=>exact (qei T).imp λ vs H Q E ⟨o,e,_,q⟩=>⟨o,e,q _ _ (Same.refl _) (qc5 _) rfl⟩
 | hands=>exact (qfr T).imp λ vs H Q E ⟨o,e,_,q⟩=>⟨_,e,λ l hl=>q _ _ (qf hl) (q3k hl) ⟨l,[],rfl,qb,.nil⟩⟩
def qzk (T:Txt K mg) (k:Kd):MDef P w K mg base 1 (clsK mg k) "unit" ["self"] (q137 mg k):=by
 cases k with
 | counts=>exact (qh7 T).imp λ vs H Q E ⟨o,e,_,q⟩=>⟨o,e,q _ _ (Same.refl _) (q27 _) rfl⟩
 | costs=>exact (qji T).imp λ vs H Q E ⟨o,e,_,q⟩=>⟨o,e,q _ _ (Same.refl _) (q27 _) rfl⟩
 | bests _=>exact (qjk T).imp λ vs H Q E ⟨o,e,_,q⟩=>⟨o,e,λ l hl=>q _ _ (qf hl) (q3k hl) ⟨l,rfl,qb⟩⟩
 | trusts t=>exact (qh9 T).imp λ vs H Q E ⟨o,e,⟨dx,h⟩,q⟩=>⟨o,dx,.int t,e,h,q _ _ (Same.refl _) (q27 _) rfl⟩
 | truths=>exact (qhb T).imp λ vs H Q E ⟨o,e,_,q⟩=>⟨o,e,q _ _ (Same.refl _) (qc5 _) rfl⟩
 | hands=>exact (qjm T).imp λ vs H Q E ⟨o,e,_,q⟩=>⟨_,e,λ p t H' s hp h1 h2=>q _ _ s (q3k hp) ⟨p,_,rfl,h1,.cons ⟨t,rfl,h2⟩ .nil⟩⟩
def q73 (T:Txt K mg) (k:Kd):MDef P w K mg base 4 (clsK mg k) "either" ["self","one","other"] (q138 mg k):=by
 cases k with
 | counts=>
  refine (MDef.mono (qef T) (by decide)).imp λ vs H Q E J=> ?_;obtain ⟨o,x,y,a,b,W,e,_,_,ga,gb,O,Z,q⟩:=J;cases ga with | counts h=>cases gb with | counts h'=>
   cases O;cases Z
   exact ⟨o,_,_,e,q _ _ (Same.refl _) (q27 _) rfl⟩
 | costs=>
  refine (MDef.mono (qfo T) (by decide)).imp λ vs H Q E J=> ?_;obtain ⟨o,x,y,a,b,W,e,_,_,ga,gb,O,Z,q⟩:=J;cases ga with
  | costN i=>cases gb with
   | costN j=>cases O;cases Z;exact ⟨o,_,_,e,.inr ⟨_,rfl⟩,.inr ⟨_,rfl⟩,q _ _ (Same.refl _) (q27 _) rfl⟩
   | costX=>cases O;cases Z;exact ⟨o,_,_,e,.inr ⟨_,rfl⟩,.inl rfl,q _ _ (Same.refl _) (q27 _) rfl⟩
  | costX=>cases gb with
   | costN j=>cases O;cases Z;exact ⟨o,_,_,e,.inl rfl,.inr ⟨_,rfl⟩,q _ _ (Same.refl _) (q27 _) rfl⟩
   | costX=>cases O;cases Z;exact ⟨o,_,_,e,.inl rfl,.inl rfl,q _ _ (Same.refl _) q7y rfl⟩
 | bests m=>
  refine (MDef.mono (qfq T) (by decide)).imp λ vs H Q E J=> ?_;obtain ⟨o,x,y,a,b,W,e,⟨dx,hb⟩,hk,ga,gb,O,Z,q⟩:=J;cases ga with | bests h hl=>cases gb with | bests h' hl'=>
   obtain ⟨pa,rfl,ea⟩:=O;obtain ⟨pb,rfl,eb⟩:=Z;have:m<=9:=hk.2;have:1<=m:=hk.1;exact ⟨o,pa,pb,m,_,_,e,⟨dx,hb⟩,by lia,ea,eb,by lia,by lia,λ l H' s hl e=>q _ _ s (q3k hl) ⟨l,zr,e⟩⟩
 | trusts t=>
  refine (MDef.mono (qeh T) (by decide)).imp λ vs H Q E J=> ?_;obtain ⟨o,x,y,a,b,W,e,_,_,ga,gb,O,Z,q⟩:=J;cases ga with | trusts h h2=>cases gb with | trusts h' h2'=>
   cases O;cases Z
   exact ⟨o,_,_,e,q _ _ (Same.refl _) (q27 _) rfl⟩
 | truths=>
  refine (MDef.mono (qej T) (by decide)).imp λ vs H Q E J=> ?_;obtain ⟨o,x,y,a,b,W,e,_,_,ga,gb,O,Z,q⟩:=J;cases ga with | truths h=>cases gb with | truths h'=>
   cases O;cases Z
   exact ⟨o,_,_,e,q _ _ (Same.refl _) (qc5 _) rfl⟩
 | hands=>
  refine (MDef.mono (qfs T) (by decide)).imp λ vs H Q E J=> ?_;obtain ⟨o,x,y,a,b,W,e,_,_,ga,gb,O,Z,q⟩:=J;cases ga with | hands A oA=>cases gb with | hands B oB=>
   obtain ⟨pa,za,rfl,ea,ta⟩:=O;obtain ⟨pb,zb,rfl,eb,tb⟩:=Z;have lA:=oA.cards A;have lB:=oB.cards B;refine ⟨_,pa,pb,za,zb,_,_,e,ea,eb,ta,tb,by lia,by lia,wd7 A oA,wd7 B oB,λ p zs R H' s hp ep tp aR uR=>q _ _ s (q3k hp) ⟨p,zs,zr,ep,?_⟩⟩;rw [<- q8n aR uR];exact tp
def qzl (T:Txt K mg) (k:Kd):MDef P w K mg base 5 (clsK mg k) "both" ["self","one","other"] (q139 mg k):=by
 cases k with
 | counts=>
  refine (MDef.mono (qh8 T) (by decide)).imp λ vs H Q E J=> ?_;obtain ⟨o,x,y,a,b,W,e,_,_,ga,gb,O,Z,sz,q⟩:=J;cases ga with | counts h=>cases gb with | counts h'=>
   cases O;cases Z
   have sz:=sz rfl;exact ⟨o,_,_,e,⟨⟨h,sz.1⟩,h',sz.2⟩,q _ _ (Same.refl _) (q27 _) rfl⟩
 | costs=>
  refine (MDef.mono (qjj T) (by decide)).imp λ vs H Q E J=> ?_;obtain ⟨o,x,y,a,b,W,e,_,_,ga,gb,O,Z,_,q⟩:=J;cases ga with
  | costN i=>cases gb with
   | costN j=>cases O;cases Z;exact ⟨o,_,_,e,.inr ⟨_,rfl⟩,.inr ⟨_,rfl⟩,q _ _ (Same.refl _) (q27 _) rfl⟩
   | costX=>cases O;cases Z;exact ⟨o,_,_,e,.inr ⟨_,rfl⟩,.inl rfl,q _ _ (Same.refl _) q7y rfl⟩
  | costX=>cases gb with
   | costN j=>cases O;cases Z;exact ⟨o,_,_,e,.inl rfl,.inr ⟨_,rfl⟩,q _ _ (Same.refl _) q7y rfl⟩
   | costX=>cases O;cases Z;exact ⟨o,_,_,e,.inl rfl,.inl rfl,q _ _ (Same.refl _) q7y rfl⟩
 | bests m=>
  refine (MDef.mono (qjl T) (by decide)).imp λ vs H Q E J=> ?_;obtain ⟨o,x,y,a,b,W,e,⟨dx,hb⟩,hk,ga,gb,O,Z,_,q⟩:=J;cases ga with | bests h hl=>cases gb with | bests h' hl'=>
   obtain ⟨pa,rfl,ea⟩:=O;obtain ⟨pb,rfl,eb⟩:=Z;have:m<=9:=hk.2;have:1<=m:=hk.1;exact ⟨o,pa,pb,m,_,_,e,⟨dx,hb⟩,by lia,ea,eb,by lia,by lia,λ l H' s hl e=>q _ _ s (q3k hl) ⟨l,zr,e⟩⟩
 | trusts t=>
  refine (MDef.mono (qha T) (by decide)).imp λ vs H Q E J=> ?_;obtain ⟨o,x,y,a,b,W,e,_,_,ga,gb,O,Z,_,q⟩:=J;cases ga with | trusts h h2=>cases gb with | trusts h' h2'=>
   cases O;cases Z
   exact ⟨o,_,_,e,q _ _ (Same.refl _) (q27 _) rfl⟩
 | truths=>
  refine (MDef.mono (qhc T) (by decide)).imp λ vs H Q E J=> ?_;obtain ⟨o,x,y,a,b,W,e,_,_,ga,gb,O,Z,_,q⟩:=J;cases ga with | truths h=>cases gb with | truths h'=>
   cases O;cases Z
   exact ⟨o,_,_,e,q _ _ (Same.refl _) (qc5 _) rfl⟩
 | hands=>
  refine (MDef.mono (qjn T) (by decide)).imp λ vs H Q E J=> ?_;obtain ⟨o,x,y,a,b,W,e,_,_,ga,gb,O,Z,_,q⟩:=J;cases ga with | hands A oA=>cases gb with | hands B oB=>
   obtain ⟨pa,za,rfl,ea,ta⟩:=O;obtain ⟨pb,zb,rfl,eb,tb⟩:=Z;have lA:=oA.card A;have lB:=oB.card B;refine ⟨_,_,e,pa,pb,za,zb,_,_,zr,SqL.of ea,SqL.of eb,ta,tb,z41 (z3j lA lB) (by decide),z41 lB (by decide),wd7 A oA,wd7 B oB,λ p zs R H' s hp ep tp aR uR=>q _ _ s (q3k hp) ⟨p,zs,zr,ep,?_⟩⟩;rw [<- q8n aR λ x=>(uR x).trans q2m.symm];exact tp
def cutL (ns:List Int) (lo hi:Option Int):List Int:=(ns.drop (HT.sIx ns.length 0 lo)).take (HT.sIx ns.length ns.length hi - HT.sIx ns.length 0 lo)
def qxd (ns:List Int) (lo hi:Option Int):cutV (ns.map V.int) lo hi=(cutL ns lo hi).map V.int:=by
 unfold cutV cutL;rw [z30,List.map_take,List.map_drop]
def qw4 (ns:List Int) (lo hi:Option Int):(cutL ns lo hi).length<=ns.length:=by
 unfold cutL;rw [z2g,z2h]
 lia
def qzm (ns:List Int) (lo hi:Nat):(cutL ns (some (lo:Int)) (some (hi:Int))).length<=hi - lo:=by
 unfold cutL;rw [HT.sIx_nat,HT.sIx_nat,z2g]
 lia
def qhf {u x:xD}:Up [u] x↔∀ w∈u,w∈x:=⟨λ ⟨f,hf,h⟩=>by rw [z1m.mp hf] at h;exact h,λ h=>⟨u,z1m.mpr rfl,h⟩⟩
def qhg {A B:xF} {x:xD}:Up (A++B) x↔Up A x\/ Up B x:=by
 constructor
 ·rintro ⟨a,J,h⟩;rcases z2u.mp J with J | J
  ·exact .inl ⟨a,J,h⟩
  ·exact .inr ⟨a,J,h⟩
 ·rintro (⟨a,J,h⟩ | ⟨a,J,h⟩)
  ·exact ⟨a,z2u.mpr (.inl J),h⟩
  ·exact ⟨a,z2u.mpr (.inr J),h⟩
def q11q {J F:xF} {u o:xD} (h:∀ x,Up J x↔Up F x) (hu:∀ x:List Str,(∀ w∈u,w∈x)↔∀ w∈o,w∈x):∀ x,Up (J.filter (λ r=> !decide (∀ x∈u,x∈r))++ [u]) x↔Up (F++ [o]) x:=λ x=>by
 rw [qhg,qhg,qhf,qhf,<- hu,<- h]
 constructor
 ·rintro (⟨r,hr,z⟩ | z)
  ·exact .inl ⟨r,(z2x.mp hr).1,z⟩
  ·exact .inr z
 ·rintro (⟨r,hr,z⟩ | z)
  ·by_cases q:∀ x∈u,x∈r
   ·exact .inr λ w hw=>z w (q w hw)
   ·exact .inl ⟨r,z2x.mpr ⟨hr,by rw [z2w q];rfl⟩,z⟩
  ·exact .inr z
def q11r {J F:xF} {u o:xD} (h:∀ x,Up J x↔Up F x) (hu:∀ x:List Str,(∀ w∈u,w∈x)↔∀ w∈o,w∈x) (hw:∃ r∈J,∀ x∈r,x∈u):∀ x,Up J x↔Up (F++ [o]) x:=λ x=>by
 rw [qhg,qhf,<- hu,<- h]
 constructor
 ·exact .inl
 ·rintro (z | z)
  ·exact z
  ·obtain ⟨r,hr,q⟩:=hw;exact ⟨r,hr,λ w hw=>z w (q w hw)⟩
def vi {a b:Int} (h:decide (V.int a=V.int b)=true):a=b:=by
 have:=of_decide_eq_true h;injection this
def vin {a b:Int} (h:¬ decide (V.int a=V.int b)=true):a≠b:=λ e=>h (z3c (congrArg V.int e))
def q3g:Kd ->Int
 | .counts=>0
 | .costs=>1
 | .bests _=>2
 | .trusts _=>3
 | .truths=>4
 | .hands=>5
def ofK (m t:Int):Kd ->Prop
 | .bests n=>n=m
 | .trusts n=>n=t
 | _=>True
def q13b {c m t:Int} (h0:0<=c) (h6:c < 6) (hm:1<=m/\m<=9) (ht:0<=t):∃ k:Kd,q3g k=c/\ofK m t k/\k.ok:=by
 by_cases e0:c=0
 ·exact ⟨.counts,e0.symm,trivial,trivial⟩
 by_cases e1:c=1
 ·exact ⟨.costs,e1.symm,trivial,trivial⟩
 by_cases e2:c=2
 ·exact ⟨.bests m,e2.symm,zr,hm⟩
 by_cases e3:c=3
 ·exact ⟨.trusts t,e3.symm,zr,ht⟩
 by_cases e4:c=4
 ·exact ⟨.truths,e4.symm,trivial,trivial⟩
 exact ⟨.hands,by show 5=c;lia,trivial,trivial⟩
def q4l {H:Hp} {x dx C:Addr} {fs:List (Str×V)} (nx:H x=none) (J:H dx=none):Same H (upd (upd H dx (.own x)) x (.ins C dx fs)):=λ c o e=>by
 rw [qh (qu e nx),qh (qu e J)];exact e
def q13c (mg:xE):Sp:=λ vs H Q _=>∃ (k:Kd) (m t:Int),vs=[.int (q3g k),.int m,.int t]/\ofK m t k/\∀ o H',Same H H' ->ByAt mg H' o k ->Q (.ref o) H'
def qr5 (T:Txt K mg):Def P w K mg base 3 "_law_by" ["_law_kind","_law_limit","_law_peak"] (q13c mg):=by
 refine T.quc.ok qqp (λ vs H Q E h=> ?_) λ f cdv A outer s H vs Q E hr h=> ?_
 ·obtain ⟨k,m,t,rfl,_⟩:=h;rfl
 ·obtain ⟨k,m,t,rfl,hk,q⟩:=h;refine ⟨_,(q12v
   (q1g (q13 q28 (pv 0) qd (q14 _)) (qg (qk (qa5 T.qu7 T.qu9 T.qu4 rfl T.qwo))) q18)
   (q1g (q13 q28 (pv 0) qd (q14 _)) (qg (qk (qa5 T.qws T.qwn T.qwv rfl T.q107))) q18)
   (q1g (PW.pt (ql2 (q13 q28 (pv 0) qd (q14 _)) (qgc (q13 q28 (pv 1) qd (q14 _))))) (qg (qk (qsp (qb0 T) T.qn5 T.qn3 hr rfl T.qpn))) q18)
   (q1g (q13 q28 (pv 0) qd (q14 _)) (qg (qk (qsq (qb0 T) T.qn5 T.qn3 hr rfl T.qpn (pa_1 (pv 1))))) q18)
   (q1g (PW.pt (ql2 (q13 q28 (pv 0) qd (q14 _)) (qgc (q13 q28 (pv 2) qd (q14 _))))) (qg (qk (qsp (q9n T) T.qiy T.qix hr rfl T.qn7))) q18)
   (q1g (q13 q28 (pv 0) qd (q14 _)) (qg (qk (qsq (q9n T) T.qiy T.qix hr rfl T.qn7 (pa_1 (pv 2))))) q18)
   (q1g (q13 q28 (pv 0) qd (q14 _)) (qg (qk (qa5 T.qud T.qu6 T.qu0 rfl T.qwr))) q18)
   (qk (qa5 T.qww T.qwq T.qwx rfl T.q105))),?_⟩
  cases k with
  | counts=>exact ⟨_,rfl,rfl,_,rfl,q1y rfl λ x dx nx J O=>q _ _ (q4l nx J) ⟨dx,qb⟩⟩
  | costs=>exact ⟨_,rfl,rfl,_,rfl,q11 rfl ⟨_,rfl,rfl,_,rfl,q1y rfl λ x dx nx J O=>q _ _ (q4l nx J) ⟨dx,qb⟩⟩⟩
  | bests n=>
   cases (show n=m from hk)
   refine ⟨_,zr,zr,_,zr,q11 rfl ⟨_,zr,zr,_,zr,q11 rfl ⟨_,zr,zr,_,zr,q1y rfl ?_⟩⟩⟩;refine ⟨_,zr,zr,_,zr,ite2 (λ h=> ?_) (λ h=> ?_)⟩
   ·cases vi h
    intro x dx nx J O;refine ⟨x,dx,_,zr,qb,zr,?_⟩;rw [q64];exact q _ _ (q4l nx J) ⟨dx,qb⟩
   ·refine ⟨_,zr,zr,_,zr,q1y rfl ?_⟩;refine ⟨_,zr,λ x dx nx J O=> ?_⟩;refine ⟨x,dx,_,zr,qb,zr,?_⟩;rw [q64];exact q _ _ (q4l nx J) ⟨dx,qb⟩
  | trusts n=>
   cases (show n=t from hk)
   refine ⟨_,zr,zr,_,zr,q11 rfl ⟨_,zr,zr,_,zr,q11 rfl ⟨_,zr,zr,_,zr,q11 rfl ⟨_,zr,zr,_,zr,q11 rfl ⟨_,zr,zr,_,zr,q1y rfl ?_⟩⟩⟩⟩⟩;refine ⟨_,zr,zr,_,zr,ite2 (λ h=> ?_) (λ h=> ?_)⟩
   ·cases vi h
    intro x dx nx J O;refine ⟨x,dx,_,zr,qb,zr,?_⟩;rw [q64];exact q _ _ (q4l nx J) ⟨dx,qb⟩
   ·refine ⟨_,zr,zr,_,zr,q1y rfl ?_⟩;refine ⟨_,zr,λ x dx nx J O=> ?_⟩;refine ⟨x,dx,_,zr,qb,zr,?_⟩;rw [q64];exact q _ _ (q4l nx J) ⟨dx,qb⟩
  | truths=>
   refine ⟨_,zr,zr,_,zr,q11 rfl ⟨_,zr,zr,_,zr,q11 rfl ⟨_,zr,zr,_,zr,q11 rfl ⟨_,zr,zr,_,zr,q11 rfl ⟨_,zr,zr,_,zr,q11 rfl ⟨_,zr,zr,_,zr,q11 rfl ⟨_,zr,zr,_,zr,q1y rfl ?_⟩⟩⟩⟩⟩⟩⟩;exact λ x dx nx J O=>q _ _ (q4l nx J) ⟨dx,qb⟩
  | hands=>
   refine ⟨_,zr,zr,_,zr,q11 rfl ⟨_,zr,zr,_,zr,q11 rfl ⟨_,zr,zr,_,zr,q11 rfl ⟨_,zr,zr,_,zr,q11 rfl ⟨_,zr,zr,_,zr,q11 rfl ⟨_,zr,zr,_,zr,q11 rfl ⟨_,zr,zr,_,zr,q11 rfl ?_⟩⟩⟩⟩⟩⟩⟩;exact λ x dx nx J O=>q _ _ (q4l nx J) ⟨dx,qb⟩
def qmh {ns:List Int} {i:Int} (h0:0<=i) (h1:i < (ns.length:Int)):atI (ns.map V.int) i=some (V.int (ns.getD i.toNat 0)):=by
 obtain ⟨j,rfl⟩:=z0m h0;exact q2t (by lia)
def absI (i:Int):Int:=if i < 0 then -i else i
def qw5 {W:xD} {F:xF} (hW:HOk W) (h:∀ f∈F,∀ w∈f,w∈W):Of 7 W (q3s F):=⟨by decide,hW.few,hW.ne,λ r hr w hw=>by
 obtain ⟨⟨f,hf,rfl⟩,_⟩:=q6k.mp (q5i.mp hr);exact h f hf w ((q55 f w).mp hw)⟩
def repL (l:List Int) (j:Int):List Int:=(List.replicate j.toNat l).flatten
def repW:Kd ->Wo ->Int ->Wo
 | .counts,.num i,n=> .num (i*n)
 | .bests m,.nums l,n=> .nums (q1d m (repL l (if m < n then m else n)))
 | k,w,n=>if n=0 then noW k else eiW k w w
def qmi (l:List Int) {i j:Int} (hi:0<=i) (hj:0<=j):repL l (i+j)=repL l i++repL l j:=by
 unfold repL;rw [show (i+j).toNat=i.toNat+j.toNat by lia,<- List.replicate_append_replicate,List.flatten_append]
def qw6 {l:List Int} {j t:Int} (h:t∈repL l j):t∈l:=by
 obtain ⟨k,hk,J⟩:=List.mem_flatten.mp h;rw [(List.mem_replicate.mp hk).2] at J;exact J
theorem qiq {l:List Int} {t:Int} (h:t∈l):∀ j:Nat,j<=upTo t ((List.replicate j l).flatten)
 | 0=>z4b _
 | j+1=>by
  rw [z1e,z27,qao];have:=qiq h j;have:1<=upTo t l:=List.length_pos_of_mem (a:=t) (z2x.mpr ⟨h,z3c (z4a _)⟩)
  lia
def qen {m:Int} (l:List Int) {j:Int} (hm:0<=m) (hj:0<=j):q1d m (repL l (if m < j then m else j))=q1d m (repL l j):=by
  split
  · have e:repL l j=repL l (j - m)++repL l m:=by
      rw [<- qmi l (by lia) hm]
      congr 1
      lia
    rw [e];exact (q7t (S:=repL l m) (repL l (j - m)) λ t ht=>qiq (qw6 ht) m.toNat).symm
  · rfl
section
variable {W:xD} {k:Kd} {a:Wo}
def qp9 (h:qi W k a) (h1:q3g k≠0) (h2:q3g k≠2):eiW k a a=a:=by
 cases h with
 | counts h=>exact absurd rfl h1
 | costN i=>exact congrArg Wo.num (by split <;> lia)
 | costX=>rfl
 | bests h hl=>exact absurd rfl h2
 | trusts h h2=>exact congrArg Wo.num (by split <;> lia)
 | truths b=>exact congrArg Wo.tr (Bool.or_self _)
 | hands x o=>exact congrArg Wo.acc ((q4j λ _=>by rw [q5w,or_self]).trans (q5y x))
def q42 (hW:HOk W) (hk:k.ok) (h:qi W k a) {n:Int} (hn:0<=n):qi W k (repW k a n):=by
 cases h with
 | counts h=>exact .counts (z3k h hn)
 | bests h hl=>exact .bests (qc4 _ _) (qem _ _)
 | costN i=>
  show qi W _ (if _ then _ else _);split
  ·exact q4k hW hk
  ·exact q5z (.costN i) (.costN i)
 | costX=>
  show qi W _ (if _ then _ else _);split
  ·exact q4k hW hk
  ·exact q5z .costX .costX
 | trusts h h2=>
  show qi W _ (if _ then _ else _);split
  ·exact q4k hW hk
  ·exact q5z (.trusts h h2) (.trusts h h2)
 | truths b=>
  show qi W _ (if _ then _ else _);split
  ·exact q4k hW hk
  ·exact q5z (.truths b) (.truths b)
 | hands x o=>
  show qi W _ (if _ then _ else _);split
  ·exact q4k hW hk
  ·exact q5z (.hands x o) (.hands x o)
def qc8 (h:qi W k a) (h1:q3g k≠0) (h2:q3g k≠2) (n:Int):repW k a n=if n=0 then noW k else a:=by
 have e:=qp9 h h1 h2;cases h with
 | counts h=>exact absurd rfl h1
 | bests h hl=>exact absurd rfl h2
 | costN i=>show (if _ then _ else _)=_;rw [e]
 | costX=>rfl
 | trusts h h2=>show (if _ then _ else _)=_;rw [e]
 | truths b=>show (if _ then _ else _)=_;rw [e]
 | hands x o=>show (if _ then _ else _)=_;rw [e]
def qft (hW:HOk W) (hk:k.ok) (h:qi W k a):repW k a 0=noW k:=by
 by_cases h1:q3g k=0
 ·cases h with
  | counts h=>exact congrArg Wo.num (Int.mul_zero _)
  | _=>cases h1
 by_cases h2:q3g k=2
 ·cases h with
  | @bests m l h hl=>
   have:1<=m:=hk.1;refine congrArg Wo.nums ?_;rw [if_neg (by lia)];exact q5x List.Pairwise.nil (z4b _)
  | _=>cases h2
 rw [qc8 h h1 h2,if_pos rfl]
def q9q (hW:HOk W) (hk:k.ok) (h:qi W k a) {n p:Int} (hn:0<=n) (J:0<=p):repW k a (n+p)=eiW k (repW k a n) (repW k a p):=by
 by_cases h1:q3g k=0
 ·cases h with
  | counts h=>exact congrArg Wo.num (Int.mul_add _ _ _)
  | _=>cases h1
 by_cases h2:q3g k=2
 ·cases h with
  | @bests m l h hl=>
   have:1<=m:=hk.1;refine congrArg Wo.nums ?_;rw [q7x,q9o,qen l (by lia) (by lia),qmi l hn J];rw [<- q7x,<- q9o m _ (repL l p),<- qen l (by lia) hn,<- qen l (by lia) J,q7x,q9o]
  | _=>cases h2
 have gn:=q4k (k:=k) hW hk;rw [qc8 h h1 h2,qc8 h h1 h2,qc8 h h1 h2];by_cases e1:n=0
 ·rw [if_pos e1,qaq hW hk (by split;exact gn;exact h),e1,Int.zero_add]
 ·rw [if_neg e1,if_neg (by lia)];by_cases e2:p=0
  ·rw [if_pos e2,qkh h]
  ·rw [if_neg e2,qp9 h h1 h2]
end
def qas (mg:xE) (k:Kd):Sp:=λ vs H Q _=>∃ (o:Addr) (x:V) (n:Int) (a:Wo) (W:xD),vs=[.ref o,x,.int n]/\ByAt mg H o k/\k.ok/\HOk W/\qi W k a/\WV H a x/\0<=n/\(k= .counts ->szW a < 2^1200/\n < 2^1200)/\∀ z H',Same H H' ->NewV H z ->WV H' (repW k a n) z ->Q z H'
def qc9 (T:Txt K mg):MDef P w K mg base 1 (cA mg "Counts") "repeated" ["self","worth","many"] (qas mg .counts):=by
 refine T.qd5.ok qbt (λ vs H Q E h=> ?_) λ f cdv A outer s H vs Q E hr h=> ?_
 ·obtain ⟨o,x,n,a,W,rfl,_⟩:=h;rfl
 ·obtain ⟨o,x,n,a,W,rfl,_,_,_,ga,va,hn,sz,q⟩:=h;have sz:=sz rfl;cases ga with | counts h=>
   cases va
   exact ⟨_,(qg (qk (qm qov (pv 1) (pv 2)))),⟨_,zr,_,zr,_,_,zr,zr,⟨⟨h,sz.1⟩,hn,sz.2⟩,q _ _ (Same.refl _) (q27 _) rfl⟩⟩
def qd1 (T:Txt K mg) (m:Int):MDef P w K mg base 2 (cA mg "Bests") "repeated" ["self","worth","many"] (qas mg (.bests m)):=by
 refine T.qet.ok qcx (λ vs H Q E h=> ?_) λ f cdv A outer s H vs Q E hr h=> ?_
 ·obtain ⟨o,x,n,a,W,rfl,_⟩:=h;rfl
 ·obtain ⟨o,x,n,a,W,rfl,⟨dx,J⟩,hk,_,ga,va,hn,sz,q⟩:=h;cases ga with | @bests _ l h hl=>
   obtain ⟨p,rfl,e⟩:=va;have m9:m<=9:=hk.2;have m1:1<=m:=hk.1;have b0:0<=(if m < n then m else n):=by split <;> lia
   have b9:(if m < n then m else n)<=9:=by split <;> lia
   refine ⟨_,(qg (qk (qgl (q45 T) T.q4n hr (pv 0) (pa_1 (qm q10k (pv 1) (qp (qbd rfl) rfl T.b_min qli (pa_2 (pv 2) (qbf (pv 0) rfl)))))))),?_⟩;refine ⟨_,zr,o,dx,_,zr,J,zr,_,zr,_,zr,_,zr,o,_,dx,_,_,zr,J,T.q4n,T.q61,zr,_,_,zr,p,_,_,zr,zr,e,by lia,by lia,?_,λ c hc=> ?_⟩
   ·rw [z30];refine z41 (z3j (show l.length<=9 by lia) (show (if m < n then m else n).toNat<=9 by lia)) (by decide)
   ·have s1:=qf (o:=HO.lst (List.replicate (if m < n then m else n).toNat (l.map V.int)).flatten) hc;refine ⟨o,c,m,repL l (if m < n then m else n),rfl,⟨dx,s1 _ _ J⟩,by lia,?_,λ l2 H' s' O e2=>q _ _ (s1.trans s') (q3k (s1.free O)) ⟨l2,rfl,e2⟩⟩;rw [qb]
    congr 2
    unfold repL;rw [List.map_flatten,List.map_replicate]
def qd2 (T:Txt K mg):MDef P w K mg base 5 (cA mg "Costs") "repeated" ["self","worth","many"] (qas mg .costs):=by
 refine T.qer.ok qcw (λ vs H Q E h=> ?_) λ f cdv A outer s H vs Q E hr h=> ?_
 ·obtain ⟨o,x,n,a,W,rfl,_⟩:=h;rfl
 ·obtain ⟨o,x,n,a,W,rfl,⟨dx,J⟩,hk,_,O,va,hn,sz,q⟩:=h;have eq:repW .costs a n=if n=0 then noW .costs else eiW .costs a a:=by cases O <;> rfl
  rw [eq] at q;refine ⟨_,(q2x
   (q1g (q13 q28 (pv 2) qd (q14 _)) (qg (qk (q5g (q72 T) (q39 T) hr (pv 0)))) q18)
   (qk (q4a (q73 T) (q39 T) hr (pv 0) (pa_2 (pv 1) (pv 1))))),?_⟩
  refine ⟨_,zr,zr,_,zr,ite2 (λ h=> ?_) (λ h=> ?_)⟩
  ·rw [if_pos (vi h)] at q;exact ⟨_,zr,.costs,o,dx,_,zr,J,qc6 .costs,o,zr,⟨dx,J⟩,λ z H' s' Z vz=>q z H' s' Z vz⟩
  ·rw [if_neg (vin h)] at q;exact ⟨_,zr,.costs,o,dx,_,zr,J,qc7 .costs,_,zr,_,zr,o,_,_,a,a,W,zr,⟨dx,J⟩,hk,O,O,va,va,λ z H' s' Z vz=>q z H' s' Z vz⟩
def qca (T:Txt K mg) (t:Int):MDef P w K mg base 5 (cA mg "Trusts") "repeated" ["self","worth","many"] (qas mg (.trusts t)):=by
 refine T.qd6.ok qbu (λ vs H Q E h=> ?_) λ f cdv A outer s H vs Q E hr h=> ?_
 ·obtain ⟨o,x,n,a,W,rfl,_⟩:=h;rfl
 ·obtain ⟨o,x,n,a,W,rfl,⟨dx,J⟩,hk,_,O,va,hn,sz,q⟩:=h;have eq:repW (.trusts t) a n=if n=0 then noW (.trusts t) else eiW (.trusts t) a a:=by cases O <;> rfl
  rw [eq] at q;refine ⟨_,(q2x
   (q1g (q13 q28 (pv 2) qd (q14 _)) (qg (qk (q5g (q72 T) (q39 T) hr (pv 0)))) q18)
   (qk (q4a (q73 T) (q39 T) hr (pv 0) (pa_2 (pv 1) (pv 1))))),?_⟩
  refine ⟨_,zr,zr,_,zr,ite2 (λ h=> ?_) (λ h=> ?_)⟩
  ·rw [if_pos (vi h)] at q;exact ⟨_,zr,(.trusts t),o,dx,_,zr,J,qc6 (.trusts t),o,zr,⟨dx,J⟩,λ z H' s' Z vz=>q z H' s' Z vz⟩
  ·rw [if_neg (vin h)] at q;exact ⟨_,zr,(.trusts t),o,dx,_,zr,J,qc7 (.trusts t),_,zr,_,zr,o,_,_,a,a,W,zr,⟨dx,J⟩,hk,O,O,va,va,λ z H' s' Z vz=>q z H' s' Z vz⟩
def qcb (T:Txt K mg):MDef P w K mg base 5 (cA mg "Truths") "repeated" ["self","worth","many"] (qas mg .truths):=by
 refine T.qd4.ok qbv (λ vs H Q E h=> ?_) λ f cdv A outer s H vs Q E hr h=> ?_
 ·obtain ⟨o,x,n,a,W,rfl,_⟩:=h;rfl
 ·obtain ⟨o,x,n,a,W,rfl,⟨dx,J⟩,hk,_,O,va,hn,sz,q⟩:=h;have eq:repW .truths a n=if n=0 then noW .truths else eiW .truths a a:=by cases O <;> rfl
  rw [eq] at q;refine ⟨_,(q2x
   (q1g (q13 q28 (pv 2) qd (q14 _)) (qg (qk (q5g (q72 T) (q39 T) hr (pv 0)))) q18)
   (qk (q4a (q73 T) (q39 T) hr (pv 0) (pa_2 (pv 1) (pv 1))))),?_⟩
  refine ⟨_,zr,zr,_,zr,ite2 (λ h=> ?_) (λ h=> ?_)⟩
  ·rw [if_pos (vi h)] at q;exact ⟨_,zr,.truths,o,dx,_,zr,J,qc6 .truths,o,zr,⟨dx,J⟩,λ z H' s' Z vz=>q z H' s' Z vz⟩
  ·rw [if_neg (vin h)] at q;exact ⟨_,zr,.truths,o,dx,_,zr,J,qc7 .truths,_,zr,_,zr,o,_,_,a,a,W,zr,⟨dx,J⟩,hk,O,O,va,va,λ z H' s' Z vz=>q z H' s' Z vz⟩
def qd3 (T:Txt K mg):MDef P w K mg base 5 (cA mg "Hands") "repeated" ["self","worth","many"] (qas mg .hands):=by
 refine T.qeu.ok qcy (λ vs H Q E h=> ?_) λ f cdv A outer s H vs Q E hr h=> ?_
 ·obtain ⟨o,x,n,a,W,rfl,_⟩:=h;rfl
 ·obtain ⟨o,x,n,a,W,rfl,⟨dx,J⟩,hk,_,O,va,hn,sz,q⟩:=h;have eq:repW .hands a n=if n=0 then noW .hands else eiW .hands a a:=by cases O <;> rfl
  rw [eq] at q;refine ⟨_,(q2x
   (q1g (q13 q28 (pv 2) qd (q14 _)) (qg (qk (q5g (q72 T) (q39 T) hr (pv 0)))) q18)
   (qk (q4a (q73 T) (q39 T) hr (pv 0) (pa_2 (pv 1) (pv 1))))),?_⟩
  refine ⟨_,zr,zr,_,zr,ite2 (λ h=> ?_) (λ h=> ?_)⟩
  ·rw [if_pos (vi h)] at q;exact ⟨_,zr,.hands,o,dx,_,zr,J,qc6 .hands,o,zr,⟨dx,J⟩,λ z H' s' Z vz=>q z H' s' Z vz⟩
  ·rw [if_neg (vin h)] at q;exact ⟨_,zr,.hands,o,dx,_,zr,J,qc7 .hands,_,zr,_,zr,o,_,_,a,a,W,zr,⟨dx,J⟩,hk,O,O,va,va,λ z H' s' Z vz=>q z H' s' Z vz⟩
def qo4 (T:Txt K mg) (k:Kd):MDef P w K mg base 5 (clsK mg k) "repeated" ["self","worth","many"] (qas mg k):=by
 cases k with
 | counts=>exact MDef.mono (qc9 T) (by decide)
 | costs=>exact qd2 T
 | bests m=>exact MDef.mono (qd1 T m) (by decide)
 | trusts t=>exact qca T t
 | truths=>exact qcb T
 | hands=>exact qd3 T
def small:Str:="abcdefghijklmnopqrstuvwxyz"
def q9r (fs:Str):List Nat ->Bool
 | []=>false
 | c::r=>decide (c∈fs.cps.toList)&&r.all λ d=>decide (d∈fur.cps.toList)
def txtB (fs z:Str):Bool:=decide (1<=z.length)&&decide (z.length<=12)&&q9r fs z.cps.toList
def txtD (fs:Str):PyData ->Bool
 | .str z=>txtB fs z
 | _=>false
def q4m:PyData ->Bool
 | .int _=>true
 | _=>false
def shD:PyData ->Prop
 | .str z=>z.length<=200
 | _=>True
def qzn {K:xA} {H:Hp} {d:PyData} {x:V} (h:Dat K H d x):(∃ z,d= .str z/\x= .str z)\/ (tyIs (tyD d) "str"=false/\∀ fs,txtD fs d=false):=by
 cases h with
 | str z _=>exact .inl ⟨z,rfl,rfl⟩
 | non=>exact .inr ⟨rfl,λ _=>rfl⟩
 | bl _=>exact .inr ⟨rfl,λ _=>rfl⟩
 | int _=>exact .inr ⟨rfl,λ _=>rfl⟩
 | lst _ _=>exact .inr ⟨rfl,λ _=>rfl⟩
 | tup _ _=>exact .inr ⟨rfl,λ _=>rfl⟩
def qmj {fs z:Str} (h:¬ (1<=z.length/\z.length<=12)):txtB fs z=false:=by
 unfold txtB;by_cases h1:1<=z.length
 ·have h2:¬ z.length<=12:=λ q=>h ⟨h1,q⟩;simp [h2]
 ·simp [h1]
def qpa {fs z:Str} (h1:1<=z.length) (h2:z.length<=12):txtB fs z=q9r fs z.cps.toList:=by
 unfold txtB;simp [h1,h2]
def qfu {z:Str} (h:1<=z.length):∃ c r,z.cps.toList=c::r:=by
 have:=qah z;cases e:z.cps.toList with
 | nil=>rw [e] at this;simp at this;lia
 | cons c r=>exact ⟨c,r,rfl⟩
def qw7 {z:Str} (h:1<=z.length):(cutS z (some 1) none).cps.toList=z.cps.toList.tail:=by
 have e1:HT.sIx z.length 0 (some 1)=1:=by
  have:=HT.sIx_nat z.length 0 1;rw [show ((1:Nat):Int)=1 from rfl] at this;rw [this]
  lia
 have hl:=qah z;unfold cutS;rw [e1,HT.sIx_none];show ((z.cps.toList.drop 1).take (z.length - 1)).toArray.toList=_;rw [z1g,z0n (by rw [z2h];lia),List.drop_one]
def qw8 (K:xA):Sp:=λ vs H Q _=>∃ x fs d,vs=[x,.str fs]/\Dat K H d x/\shD d/\∀ H',Same H H' ->Q (.bl (txtD fs d)) H'
def qb3 (T:Txt K mg):Def P w K mg base 1 "is_text_begun_by" ["thing","first_signs"] (qw8 K):=by
 refine T.qcg.ok qb1 (λ vs H Q E h=> ?_) λ f cdv A outer s H vs Q E hr h=> ?_
 ·obtain ⟨x,fs,d,rfl,_⟩:=h;rfl
 ·obtain ⟨x,fs,d,rfl,hd,hz,k⟩:=h;refine ⟨_,(q2x
   (q1g (PW.pt (qck (q5j (q6t (qp (q2i K) rfl T.q1t q1m (pa_2 (pv 0) (q5l rfl T.b_str q10x))))) (q9b (q5j (qun qkc qkc qd (qp (q2r K) rfl T.b_len q3w (pa_1 (pv 0))) (q12s rfl T.qng)))))) (qg (qk q4o)) q18)
   (qk (q6u (q3z qhy (q1h ql8 (pv 0) qd (λ _ _=>rfl)) (pv 1) (by with_unfolding_all rfl)) (q4x (qp (q8x rfl K) rfl T.b_all qf5 (pa_1 (q2b (N:=["sign"]) (caps:=[none]) rfl (by with_unfolding_all rfl) (q10q (q3p q10r (pv 0) (q31 qd) q7w)) (λ _ _ _ _ _=>(qr (i:=0) (show (["sign"]:xD).Nodup by decide+kernel) rfl (Or.inl rfl))) (λ _ _ _ _ _=>q3v) (λ _ _ _ _ _=>(q3z qhy (pv 0) (qke rfl T.qg3) (by with_unfolding_all rfl)))))))))),?_⟩
  rcases qzn hd with ⟨z,rfl,rfl⟩ | ⟨ty,hn⟩
  ·have hz:z.length<=200:=hz;have O:z.length<=sizeLine:=z41 hz (by decide);have no:¬ (1<=z.length/\z.length<=12) ->Q (.bl false) H:=λ q=>by
    have:=k H (Same.refl H);rw [show txtD fs (.str z)=false from qmj q] at this;exact this
   refine ⟨_,zr,_,_,_,zr,hd,by decide,_,zr,?_⟩;refine q11 (show (!tyIs "str" "str")=false by decide) ?_;refine ⟨_,zr,_,_,zr,⟨O,zr⟩,_,_,zr,zr,_,zr,?_⟩;refine ite2 (λ h1=> ?_) (λ h1=> ?_)
   ·refine ⟨_,_,zr,zr,_,zr,?_⟩;refine ite2 (λ h2=> ?_) (λ h2=> ?_)
    ·exact no λ q=>by simp at h2;lia
    ·have l1:1<=z.length:=by simp at h1;lia
     have l2:z.length<=12:=by simp at h2;lia
     obtain ⟨c,r,J⟩:=qfu l1;have et:txtD fs (.str z)=q9r fs z.cps.toList:=qpa (fs:=fs) l1 l2;rw [J] at et;refine ⟨_,rfl,_,_,c,rfl,rfl,O,(by rw [J];exact q40 (j:=0) rfl),_,rfl,_,_,rfl,rfl,_,rfl,?_⟩;rw [StrLaws.found_one];refine ite2 (λ h3=> ?_) (λ h3=> ?_)
     ·refine ⟨_,zr,_,zr,_,zr,O,_,zr,λ D hD=> ?_⟩;have Z:(cutS z (some 1) none).cps.toList=r:=by rw [qw7 l1,J];rfl
      have hrl:r.length<=12:=by
       have:=qah z;rw [J,z2i] at this
       lia
      have a0:(cutS z (some 1) none).cps.size=r.length:=by rw [<- Z,z19]
      refine q20 r.length (λ i σ' H'=>(∃ v,σ'=[v])/\H'=upd H D (.lst ((r.take i).map λ c=>V.bl (decide (c∈fur.cps.toList))))) ⟨⟨_,rfl⟩,rfl⟩ (λ i σ' H' hi _=>by show i < _;rw [a0];exact hi) (λ σ' H' p=>⟨a0.symm,?_⟩) (λ i σ' H' hi p x H2 y=> ?_)
      ·obtain ⟨_,rfl⟩:=p;refine ⟨D,r.map λ c=>decide (c∈fur.cps.toList),rfl,SqL.of (by rw [qb,z2t,z47];rfl),?_⟩;have:=k (upd H D (.lst ((r.take r.length).map λ c=>V.bl (decide (c∈fur.cps.toList))))) (qf hD);rw [et] at this;have e2:q9r fs (c::r)=(r.map λ c=>decide (c∈fur.cps.toList)).all id:=by
        show (decide (c∈fs.cps.toList)&&_)=_;rw [h3,z3t,z46];rfl
       rw [e2] at this;exact this
      ·obtain ⟨⟨v,rfl⟩,rfl⟩:=p;obtain ⟨rfl,c',hc,rfl⟩:=y;have a1:r[i]? =some c':=by rw [<- Z,z0x];exact hc
       refine ⟨_,zr,_,_,zr,zr,_,qb,?_,⟨_,zr⟩,?_⟩
       ·rw [z30,z2g];exact q1p (by lia)
       ·rw [q64,StrLaws.found_one,z3h,a1,z36];rfl
     ·have:=k H (Same.refl H);rw [et] at this;have e2:q9r fs (c::r)=false:=by
       show (decide (c∈fs.cps.toList)&&_)=_;rw [Bool.eq_false_iff.mpr h3,z3e]
      rw [e2] at this;exact this
   ·refine ⟨_,zr,iteT ?_⟩;exact no λ q=>by simp at h1;lia
  ·refine ⟨_,zr,_,_,_,zr,hd,by decide,_,zr,?_⟩;refine q1y (by rw [ty];rfl) (iteT ?_);have:=k H (Same.refl H);rw [hn] at this;exact this
def qzo (K:xA) (fs:Str):Sp:=λ vs H Q _=>∃ x d,vs=[x]/\Dat K H d x/\shD d/\∀ H',Same H H' ->Q (.bl (txtD fs d)) H'
def qr6 (T:Txt K mg):Def P w K mg base 2 "is_word" ["thing"] (qzo K small):=by
 refine T.qub.ok qqn (λ vs H Q E h=> ?_) λ f cdv A outer s H vs Q E hr h=> ?_
 ·obtain ⟨x,d,rfl,_⟩:=h;rfl
 ·obtain ⟨x,d,rfl,hd,hz,k⟩:=h;refine ⟨_,(qg (qk (qy (qb3 T) hr rfl (pa_2 (pv 0) (qke rfl T.qg1))))),?_⟩;exact ⟨_,zr,_,_,d,zr,hd,hz,k⟩
def qw9 (K:xA):Sp:=λ vs H Q _=>∃ x d,vs=[x]/\Dat K H d x/\Q (.bl (q4m d)) H
def q6s (T:Txt K mg):Def P w K mg base 1 "is_whole" ["thing"] (qw9 K):=by
 refine T.qr8.ok qnz (λ vs H Q E h=> ?_) λ f cdv A outer s H vs Q E hr h=> ?_
 ·obtain ⟨x,d,rfl,_⟩:=h;rfl
 ·obtain ⟨x,d,rfl,hd,k⟩:=h;refine ⟨_,(qg (qk (q6u (qp (q2i K) rfl T.q1t q1m (pa_2 (pv 0) (q5l rfl T.b_int q10y))) (q4x (q10e (qp (q2i K) rfl T.q1t q1m (pa_2 (pv 0) (q5l rfl T.qg7 qco)))))))),?_⟩;refine ⟨_,zr,_,_,_,zr,hd,by decide,_,zr,ite2 (λ h1=> ?_) (λ h1=> ?_)⟩
  ·refine ⟨_,zr,_,_,_,zr,hd,by decide,_,zr,?_⟩;cases hd <;> first | exact k | (exact absurd h1 z1l)
  ·cases hd <;> first | exact k | (exact absurd rfl h1)
def strD:PyData ->Str
 | .str z=>z
 | _=>endW
def intD:PyData ->Int
 | .int i=>i
 | _=>0
def setD:PyData ->List Str
 | .tuple es=>es.map strD
 | _=>[]
def twB:PyData ->Bool
 | .tuple es=>es.all (txtD small)
 | _=>false
def accB:PyData ->Bool
 | .list ds=>ds.all twB&&decide (ds.map setD=q3s (ds.map setD))
 | _=>false
def fitB:Kd ->PyData ->Bool
 | .counts,.int i=>decide (0<=i)
 | .costs,.none=>true
 | .costs,.int _=>true
 | .bests m,.list ds=>decide ((ds.length:Int)<=m)&&(ds.all q4m&&decide (ds.map intD=Tim.srt q19 (ds.map intD)))
 | .trusts t,.int i=>decide (0<=i)&&decide (i<=t)
 | .truths,.bool _=>true
 | .hands,d=>accB d
 | _,_=>false
def okT:PyData ->Prop
 | .tuple es=>es.length<=10/\∀ x∈es,shD x
 | _=>True
def okF:PyData ->Prop
 | .list ds=>ds.length<=2000/\∀ e∈ds,okT e
 | _=>True
def qcc {K:xA} {H:Hp} {d:PyData} {x:V} (h:Dat K H d x):(∃ i,d= .int i/\x= .int i)\/ (q4m d=false/\∀ i,d≠ .int i):=by
 cases h with
 | int i=>exact .inl ⟨i,rfl,rfl⟩
 | non=>exact .inr ⟨rfl,λ _ z=>nomatch z⟩
 | bl _=>exact .inr ⟨rfl,λ _ z=>nomatch z⟩
 | str _ _=>exact .inr ⟨rfl,λ _ z=>nomatch z⟩
 | lst _ _=>exact .inr ⟨rfl,λ _ z=>nomatch z⟩
 | tup _ _=>exact .inr ⟨rfl,λ _ z=>nomatch z⟩
def qpb {K:xA} {H:Hp} {d:PyData} {x:V} (h:Dat K H d x):(∃ a xs ds,d= .list ds/\x= .ref a/\SqL K H a xs/\Dats K H ds xs)\/ (tyIs (tyD d) "list"=false/\(∀ ds,d≠ .list ds)):=by
 cases h with
 | lst a b=>exact .inl ⟨_,_,_,rfl,rfl,a,b⟩
 | non=>exact .inr ⟨rfl,λ _ z=>nomatch z⟩
 | bl _=>exact .inr ⟨rfl,λ _ z=>nomatch z⟩
 | int _=>exact .inr ⟨rfl,λ _ z=>nomatch z⟩
 | str _ _=>exact .inr ⟨rfl,λ _ z=>nomatch z⟩
 | tup _ _=>exact .inr ⟨rfl,λ _ z=>nomatch z⟩
def qmk {K:xA} {H:Hp} {d:PyData} {x:V} (h:Dat K H d x):(∃ a xs ds,d= .tuple ds/\x= .ref a/\SqT K H a xs/\Dats K H ds xs)\/ (tyIs (tyD d) "tuple"=false/\twB d=false):=by
 cases h with
 | tup a b=>exact .inl ⟨_,_,_,rfl,rfl,a,b⟩
 | non=>exact .inr ⟨rfl,rfl⟩
 | bl _=>exact .inr ⟨rfl,rfl⟩
 | int _=>exact .inr ⟨rfl,rfl⟩
 | str _ _=>exact .inr ⟨rfl,rfl⟩
 | lst _ _=>exact .inr ⟨rfl,rfl⟩
theorem qfv {K:xA} {H:Hp}:∀ {ds:List PyData} {xs:List V},Dats K H ds xs ->ds.all q4m=true ->xs=(ds.map intD).map V.int/\ds=(ds.map intD).map PyData.int
 | _,_,.nil,_=>⟨rfl,rfl⟩
 | d::ds,x::xs,.cons h t,e=>by
  rw [List.all_cons,z2m] at e;rcases qcc h with ⟨i,rfl,rfl⟩ | ⟨n,_⟩
  ·obtain ⟨a,b⟩:=qfv t e.2;exact ⟨by rw [z3l,z3l,<- a];rfl,by rw [z3l,z3l,<- b];rfl⟩
  ·rw [n] at e;exact absurd e.1 z1l
theorem qfw {K:xA} {H:Hp}:∀ {es:List PyData} {xs:List V},Dats K H es xs ->es.all (txtD small)=true ->xs=(es.map strD).map V.str/\es=(es.map strD).map PyData.str/\(∀ w∈es.map strD,PyData.strOk w=true/\txtB small w=true)
 | _,_,.nil,_=>⟨rfl,rfl,λ _ z=>nomatch z⟩
 | d::ds,x::xs,.cons h t,e=>by
  rw [List.all_cons,z2m] at e;cases h with
  | str z hz=>
   obtain ⟨a,b,c⟩:=qfw t e.2;refine ⟨by rw [z3l,z3l,<- a];rfl,by rw [z3l,z3l,<- b];rfl,λ w hw=> ?_⟩;rcases z3n.mp hw with rfl | hw
   ·exact ⟨hz,e.1⟩
   ·exact c w hw
  | non=>exact absurd e.1 z1l
  | bl _=>exact absurd e.1 z1l
  | int _=>exact absurd e.1 z1l
  | lst _ _=>exact absurd e.1 z1l
  | tup _ _=>exact absurd e.1 z1l
theorem qpc {K:xA} {H:Hp}:∀ {ds:List PyData} {xs:List V},Dats K H ds xs ->ds.all twB=true ->qct K H xs (ds.map setD)/\ds=(ds.map setD).map dR/\∀ s∈ds.map setD,∀ w∈s,PyData.strOk w=true/\txtB small w=true
 | _,_,.nil,_=>⟨.nil,rfl,λ _ z=>nomatch z⟩
 | d::ds,x::xs,.cons h t,e=>by
  rw [List.all_cons,z2m] at e;rcases qmk h with ⟨a,ys,es,rfl,rfl,Z,J⟩ | ⟨_,n⟩
  ·obtain ⟨b,c,g⟩:=qpc t e.2;obtain ⟨b1,c1,g1⟩:=qfw J e.1;refine ⟨.cons ⟨a,rfl,by rw [b1] at Z;exact Z⟩ b,?_,λ s O=> ?_⟩
   ·rw [z3l,z3l,<- c];exact congrArg (· ::ds) (congrArg PyData.tuple c1)
   ·rcases z3n.mp O with rfl | O
    ·exact g1
    ·exact g s O
  ·rw [n] at e;exact absurd e.1 z1l
theorem qir:∀ p q:List Str,PyData.eqvAll (p.map .str) (q.map .str)=decide (p=q)
 | [],[]=>by rw [z44,PyData.eqvAll];rfl
 | [],_::_=>by rw [z44,z3l,PyData.eqvAll];rfl
 | _::_,[]=>by rw [z44,z3l,PyData.eqvAll];rfl
 | x::p,y::q=>by
  have es:PyData.eqv (.str x) (.str y)=decide (x=y):=by
   show (x==y)=_;by_cases h:x=y <;> simp [h]
  rw [z3l,z3l,PyData.eqvAll,es,qir p q];by_cases h:x=y
  ·by_cases h2:p=q <;> simp [h,h2]
  ·simp [h]
theorem qis:∀ p q:List (List Str),PyData.eqvAll (p.map dR) (q.map dR)=decide (p=q)
 | [],[]=>by rw [z44,PyData.eqvAll];rfl
 | [],_::_=>by rw [z44,z3l,PyData.eqvAll];rfl
 | _::_,[]=>by rw [z44,z3l,PyData.eqvAll];rfl
 | x::p,y::q=>by
  have es:PyData.eqv (dR x) (dR y)=decide (x=y):=by
   unfold dR;rw [PyData.eqv,qir]
  rw [z3l,z3l,PyData.eqvAll,es,qis p q];by_cases h:x=y
  ·by_cases h2:p=q <;> simp [h,h2]
  ·simp [h]
theorem qit:∀ p q:List Int,PyData.eqvAll (p.map .int) (q.map .int)=decide (p=q)
 | [],[]=>by rw [z44,PyData.eqvAll];rfl
 | [],_::_=>by rw [z44,z3l,PyData.eqvAll];rfl
 | _::_,[]=>by rw [z44,z3l,PyData.eqvAll];rfl
 | x::p,y::q=>by
  have es:PyData.eqv (.int x) (.int y)=decide (x=y):=by
   show (x==y)=_;by_cases h:x=y <;> simp [h]
  rw [z3l,z3l,PyData.eqvAll,es,qit p q];by_cases h:x=y
  ·by_cases h2:p=q <;> simp [h,h2]
  ·simp [h]
def q11s {z:Str} (h:txtB small z=true):z≠endW:=λ e=>by
 subst e;exact absurd h (by decide+kernel)
def q8o (K:xA) (mg:xE) (k:Kd):Sp:=λ vs H Q _=>∃ (o:Addr) (x:V) (d:PyData),vs=[.ref o,x]/\ByAt mg H o k/\Dat K H d x/\okF d/\∀ H',Same H H' ->Q (.bl (fitB k d)) H'
def qhh (T:Txt K mg):MDef P w K mg base 2 (cA mg "Counts") "fits" ["self","thing"] (q8o K mg .counts):=by
 refine T.qjv.ok qgr (λ vs H Q E h=> ?_) λ f cdv A outer s H vs Q E hr h=> ?_
 ·obtain ⟨o,x,d,rfl,_⟩:=h;rfl
 ·obtain ⟨o,x,d,rfl,_,hd,_,q⟩:=h;refine ⟨_,(qg (qk (q6u (qy (q6s T) hr rfl (pa_1 (pv 1))) (q4x (q3z q12l (pv 1) qd (q14 _)))))),?_⟩;have q:=q H (Same.refl H);refine ⟨_,zr,x,d,zr,hd,_,zr,?_⟩;rcases qcc hd with ⟨i,rfl,rfl⟩ | ⟨n,hn⟩
  ·exact q1y rfl ⟨_,zr,_,_,zr,zr,q⟩
  ·refine q11 n ?_;have e:fitB .counts d=false:=by
    cases d with
    | int i=>exact absurd rfl (hn i)
    | _=>rfl
   rw [e] at q;exact q
def qjo (T:Txt K mg):MDef P w K mg base 2 (cA mg "Costs") "fits" ["self","thing"] (q8o K mg .costs):=by
 refine T.qn6.ok qj7 (λ vs H Q E h=> ?_) λ f cdv A outer s H vs Q E hr h=> ?_
 ·obtain ⟨o,x,d,rfl,_⟩:=h;rfl
 ·obtain ⟨o,x,d,rfl,_,hd,_,q⟩:=h;refine ⟨_,(qg (qk (qwz (q3z q81 (pv 1) q4w (q14 _)) (q4x (qy (q6s T) hr rfl (pa_1 (pv 1))))))),?_⟩;have q:=q H (Same.refl H);refine ⟨_,zr,zr,_,zr,?_⟩;cases hd with
  | non=>exact q1y rfl q
  | bl b=>exact q11 rfl ⟨_,rfl,_,_,rfl,.bl b,q⟩
  | int i=>exact q11 rfl ⟨_,rfl,_,_,rfl,.int i,q⟩
  | str z hz=>exact q11 rfl ⟨_,rfl,_,_,rfl,.str z hz,q⟩
  | lst a b=>exact q11 rfl ⟨_,rfl,_,_,rfl,.lst a b,q⟩
  | tup a b=>exact q11 rfl ⟨_,rfl,_,_,rfl,.tup a b,q⟩
def qhi (T:Txt K mg) (t:Int):MDef P w K mg base 2 (cA mg "Trusts") "fits" ["self","thing"] (q8o K mg (.trusts t)):=by
  refine T.qk2.ok qgv (λ vs H Q E h=> ?_) λ f cdv A outer s H vs Q E hr h=> ?_
  · obtain ⟨o,x,d,rfl,_⟩:=h
    rfl
  · obtain ⟨o,x,d,rfl,⟨dx,hp⟩,hd,_,q⟩:=h
    refine ⟨_,(qg (qk (q6u (qy (q6s T) hr rfl (pa_1 (pv 1))) (q4x (qum qkc qkc qd (pv 1) (qbf (pv 0) rfl)))))),?_⟩;have q:=q H (Same.refl H);refine ⟨_,zr,x,d,zr,hd,_,zr,?_⟩;rcases qcc hd with ⟨i,rfl,rfl⟩ | ⟨n,hn⟩
    · refine q1y rfl ⟨_,zr,_,_,zr,zr,_,zr,ite2 (λ h1=> ?_) (λ h1=> ?_)⟩
      · refine ⟨_,zr,o,_,dx,_,_,zr,hp,T.q93,T.q8q,zr,_,_,zr,zr,?_⟩
        have e:fitB (.trusts t) (.int i)=decide (i<=t):=by
          show (decide (0<=i)&&decide (i<=t))=_;rw [h1,z3t]
        rw [e] at q;exact q
      · have e:fitB (.trusts t) (.int i)=false:=by
          show (decide (0<=i)&&decide (i<=t))=_;rw [Bool.eq_false_iff.mpr h1,z3e]
        rw [e] at q;exact q
    · refine q11 n ?_
      have e:fitB (.trusts t) d=false:=by
        cases d with
        | int i=>exact absurd rfl (hn i)
        | _=>rfl
      rw [e] at q;exact q
def qhj (T:Txt K mg):MDef P w K mg base 1 (cA mg "Truths") "fits" ["self","thing"] (q8o K mg .truths):=by
 refine T.qk0.ok qgy (λ vs H Q E h=> ?_) λ f cdv A outer s H vs Q E hr h=> ?_
 ·obtain ⟨o,x,d,rfl,_⟩:=h;rfl
 ·obtain ⟨o,x,d,rfl,_,hd,_,q⟩:=h;refine ⟨_,(qg (qk (qp (q2i K) rfl T.q1t q1m (pa_2 (pv 1) (q5l rfl T.qg7 qco))))),?_⟩;have q:=q H (Same.refl H);refine ⟨_,zr,x,_,d,zr,hd,by decide,?_⟩;cases hd <;> exact q
def qjp (T:Txt K mg) (m:Int):MDef P w K mg base 2 (cA mg "Bests") "fits" ["self","thing"] (q8o K mg (.bests m)):=by
 refine T.qnf.ok qjb (λ vs H Q E h=> ?_) λ f cdv A outer s H vs Q E hr h=> ?_
 ·obtain ⟨o,x,d,rfl,_⟩:=h;rfl
 ·obtain ⟨o,x,d,rfl,⟨dx,hp⟩,hd,hz,q⟩:=h;refine ⟨_,(q2x
   (q1g (PW.pt (qck (q5j (q6t (qp (q2i K) rfl T.q1t q1m (pa_2 (pv 1) (q5l rfl T.q8r q66))))) (q9b (q13 qpy (qp (q2r K) rfl T.b_len q3w (pa_1 (pv 1))) (qbf (pv 0) rfl) (q14 _))))) (qg (qk q4o)) q18)
   (qk (q6u (qp (q8x rfl K) rfl T.b_all qf5 (pa_1 (q2b (N:=["part"]) (caps:=[none]) rfl (by with_unfolding_all rfl) (q1a K (pv 1)) (λ _ _ _ _ _=>(qr (i:=0) (show (["part"]:xD).Nodup by decide+kernel) rfl (Or.inl rfl))) (λ _ _ _ _ _=>q3v) (λ _ _ _ _ _=>(qy (q6s T) hr rfl (pa_1 (pv 0))))))) (q4x (q3z (qlj hr.units K) (pv 1) (qp (q87 K) rfl T.q2e q26 (pa_1 (pv 1))) (q14 _)))))),?_⟩
  refine ⟨_,zr,x,_,d,zr,hd,by decide,_,zr,?_⟩;rcases qpb hd with ⟨a,xs,ds,rfl,rfl,hl,O⟩ | ⟨ty,hn⟩
  ·refine q11 (show (!tyIs "list" "list")=false by decide) ?_;have el:=qaj O;have hz1:ds.length<=2000:=hz.1;refine ⟨_,zr,_,_,zr,.inl ⟨_,hl,zr⟩,_,zr,o,_,dx,_,_,zr,hp,T.q4n,T.q61,zr,_,_,zr,zr,_,zr,?_⟩;rw [<- el];refine ite2 (λ h1=> ?_) (λ h1=> ?_)
   ·have q:=q H (Same.refl H);have e:fitB (.bests m) (.list ds)=false:=by
     have:¬ (ds.length:Int)<=m:=Int.not_le.mpr (of_decide_eq_true h1);show (decide ((ds.length:Int)<=m)&&_)=false;rw [z2w this,z3e]
    rw [e] at q;exact q
   ·have hm:(ds.length:Int)<=m:=Int.not_lt.mp λ z=>h1 (z3c z);refine ⟨_,zr,a,zr,⟨_,hl⟩,λ D hD=> ?_⟩;refine q20 xs.length (λ i σ' H'=>(∃ v,σ'=[v])/\Same H H'/\H' D=some (.lst (((ds.take i).map q4m).map V.bl))) ⟨⟨_,zr⟩,qf hD,qb⟩ (λ i σ' H' hi p=> ?_) (λ σ' H' p=>⟨?_,?_⟩) (λ i σ' H' hi p x H2 y=> ?_)
    ·obtain ⟨_,J,_⟩:=p;exact ⟨xs,xs[i],J.seq hl,z0d hi⟩
    ·obtain ⟨_,J,_⟩:=p;exact ⟨xs,J.seq hl,z48 _⟩
    ·obtain ⟨_,J,e⟩:=p;refine ⟨D,ds.map q4m,rfl,SqL.of (by rw [e,<- el,z2t]),_,rfl,?_⟩;have e2:(ds.map q4m).all id=ds.all q4m:=by rw [z46];rfl
     rw [e2];have ef:fitB (.bests m) (.list ds)=(ds.all q4m&&decide (ds.map intD=Tim.srt q19 (ds.map intD))):=by
      show (decide ((ds.length:Int)<=m)&&_)=_;rw [z3c hm,z3t]
     refine ite2 (λ h2=> ?_) (λ h2=> ?_)
     ·obtain ⟨ex,ed⟩:=qfv O h2;refine ⟨_,rfl,_,rfl,a,ds.map intD,rfl,.inl (by rw [<- ex];exact J.seq hl),λ l a1=> ?_⟩;have s2:=qf (o:=HO.lst ((Tim.srt q19 (ds.map intD)).map V.int)) a1;have sA:=J.trans s2;refine ⟨.list ((ds.map intD).map .int),.list ((Tim.srt q19 (ds.map intD)).map .int),?_,.lst (SqL.of qb) (qbw _),?_,?_⟩
      ·rw [<- ed];exact Dat.same sA _ _ hd
      ·show PyData.depthAll ((ds.map intD).map .int)+1<=60;rw [qfi];decide
      ·have q:=q _ sA;rw [ef,h2,z3t,<- qit] at q;exact q
     ·have q:=q _ J;rw [ef,Bool.eq_false_iff.mpr h2,z3e] at q;exact q
    ·obtain ⟨⟨v,rfl⟩,J,e⟩:=p;obtain ⟨rfl,hx⟩:=y;obtain ⟨d,Z,a0⟩:=qai (Dats.same J _ _ O) (hx xs (J.seq hl));refine ⟨_,zr,x,d,zr,a0,_,e,?_,⟨_,zr⟩,J.set hD,?_⟩
     ·rw [z30,z30,z2g];exact q15 (by lia)
     ·rw [qb,z3h,Z,z36,z36];rfl
  ·refine q1y (by rw [ty];rfl) (iteT ?_);have q:=q H (Same.refl H);have e:fitB (.bests m) d=false:=by
    cases d with
    | list ds=>exact absurd rfl (hn ds)
    | _=>rfl
   rw [e] at q;exact q
def q13d (K:xA):Sp:=λ vs H Q _=>∃ (x:V) (d:PyData),vs=[x]/\Dat K H d x/\okT d/\∀ H',Same H H' ->Q (.bl (twB d)) H'
def qat (T:Txt K mg):Def P w K mg base 3 "is_tuple_of_words" ["thing"] (q13d K):=by
 refine T.qb5.ok qag (λ vs H Q E h=> ?_) λ f cdv A outer s H vs Q E hr h=> ?_
 ·obtain ⟨x,d,rfl,_⟩:=h;rfl
 ·obtain ⟨x,d,rfl,hd,hz,q⟩:=h;refine ⟨_,(qg (qk (q6u (qp (q2i K) rfl T.q1t q1m (pa_2 (pv 0) (q5l rfl T.q9t q85))) (q4x (qp (q8x rfl K) rfl T.b_all qf5 (pa_1 (q2b (N:=["part"]) (caps:=[none]) rfl (by with_unfolding_all rfl) (q65 K (pv 0)) (λ _ _ _ _ _=>(qr (i:=0) (show (["part"]:xD).Nodup by decide+kernel) rfl (Or.inl rfl))) (λ _ _ _ _ _=>q3v) (λ _ _ _ _ _=>(qy (qr6 T) hr rfl (pa_1 (pv 0))))))))))),?_⟩;refine ⟨_,zr,x,_,d,zr,hd,by decide,_,zr,?_⟩;rcases qmk hd with ⟨a,xs,ds,rfl,rfl,ht,Z⟩ | ⟨ty,hn⟩
  ·refine q1y (show tyIs "tuple" "tuple"=true by decide) ?_;have el:=qaj Z;have hz1:ds.length<=10:=hz.1;refine ⟨_,zr,a,zr,⟨_,ht⟩,λ D hD=> ?_⟩;refine q20 xs.length (λ i σ' H'=>(∃ v,σ'=[v])/\Same H H'/\H' D=some (.lst (((ds.take i).map (txtD small)).map V.bl))) ⟨⟨_,zr⟩,qf hD,qb⟩ (λ i σ' H' hi p=> ?_) (λ σ' H' p=>⟨?_,?_⟩) (λ i σ' H' hi p x H2 y=> ?_)
   ·obtain ⟨_,J,_⟩:=p;exact ⟨xs,xs[i],J.seqT ht,z0d hi⟩
   ·obtain ⟨_,J,_⟩:=p;exact ⟨xs,J.seqT ht,z48 _⟩
   ·obtain ⟨_,J,e⟩:=p;refine ⟨D,ds.map (txtD small),rfl,SqL.of (by rw [e,<- el,z2t]),?_⟩;rw [z46];exact q _ J
   ·obtain ⟨⟨v,rfl⟩,J,e⟩:=p;obtain ⟨rfl,hx⟩:=y;obtain ⟨d,O,a0⟩:=qai (Dats.same J _ _ Z) (hx xs (J.seqT ht));refine ⟨_,zr,x,d,zr,a0,hz.2 d (z18 O),λ H3 s3=>⟨_,s3 _ _ e,?_,⟨_,zr⟩,(J.trans s3).set hD,?_⟩⟩
    ·rw [z30,z30,z2g];exact q1p (by lia)
    ·rw [qb,z3h,O,z36,z36];rfl
  ·refine q11 ty ?_;have q:=q H (Same.refl H);rw [hn] at q;exact q
def q11t (K:xA):Sp:=λ vs H Q _=>∃ (x:V) (d:PyData),vs=[x]/\Dat K H d x/\okF d/\∀ H',Same H H' ->Q (.bl (accB d)) H'
def qml (T:Txt K mg):Def P w K mg base 4 "is_accord" ["thing"] (q11t K):=by
 refine T.qo6.ok qlv (λ vs H Q E h=> ?_) λ f cdv A outer s H vs Q E hr h=> ?_
 ·obtain ⟨x,d,rfl,_⟩:=h;rfl
 ·obtain ⟨x,d,rfl,hd,hz,q⟩:=h;refine ⟨_,(q2x
   (q1g (PW.pt (qck (q5j (q6t (qp (q2i K) rfl T.q1t q1m (pa_2 (pv 0) (q5l rfl T.q8r q66))))) (q9b (q5j (q6t (qp (q8x rfl K) rfl T.b_all qf5 (pa_1 (q2b (N:=["part"]) (caps:=[none]) rfl (by with_unfolding_all rfl) (q1a K (pv 0)) (λ _ _ _ _ _=>(qr (i:=0) (show (["part"]:xD).Nodup by decide+kernel) rfl (Or.inl rfl))) (λ _ _ _ _ _=>q3v) (λ _ _ _ _ _=>(qy (qat T) hr rfl (pa_1 (pv 0)))))))))))) (qg (qk q4o)) q18)
   (qk (q3z (qlj hr.units K) (pv 0) (qy (qal T) hr rfl (pa_1 (pv 0))) (q14 _)))),?_⟩
  refine ⟨_,zr,x,_,d,zr,hd,by decide,_,zr,?_⟩;rcases qpb hd with ⟨a,xs,ds,rfl,rfl,hl,O⟩ | ⟨ty,hn⟩
  ·refine q11 (show (!tyIs "list" "list")=false by decide) ?_;have el:=qaj O;have hz1:ds.length<=2000:=hz.1;refine ⟨_,zr,a,zr,⟨_,hl⟩,λ D hD=> ?_⟩;refine q20 xs.length (λ i σ' H'=>(∃ v,σ'=[v])/\Same H H'/\H' D=some (.lst (((ds.take i).map twB).map V.bl))) ⟨⟨_,zr⟩,qf hD,qb⟩ (λ i σ' H' hi p=> ?_) (λ σ' H' p=>⟨?_,?_⟩) (λ i σ' H' hi p x H2 y=> ?_)
   ·obtain ⟨_,J,_⟩:=p;exact ⟨xs,xs[i],J.seq hl,z0d hi⟩
   ·obtain ⟨_,J,_⟩:=p;exact ⟨xs,J.seq hl,z48 _⟩
   ·obtain ⟨_,J,e⟩:=p;refine ⟨D,ds.map twB,rfl,SqL.of (by rw [e,<- el,z2t]),_,rfl,?_⟩;have e2:(ds.map twB).all id=ds.all twB:=by rw [z46];rfl
    rw [e2];have ef:accB (.list ds)=(ds.all twB&&decide (ds.map setD=q3s (ds.map setD))):=rfl;cases h2:ds.all twB with
    | true=>
     refine q11 rfl ?_;obtain ⟨ts,ed,ok⟩:=qpc O h2;refine ⟨_,rfl,_,rfl,a,xs,ds.map setD,rfl,J.seq hl,qan (qam (λ _ _ z=>J.seqT z) ts),by rw [z30];lia,λ r hr=> ?_,λ p zs R H3 s3 hp ep tp aR uR=> ?_⟩
     ·refine ⟨?_,λ z=>q11s ((ok r hr _ z).2) rfl⟩;obtain ⟨e,he,rfl⟩:=z45.mp hr;have ho:=hz.2 e he;cases e with
      | tuple es=>
       show (es.map strD).length<=30;rw [z30];exact z41 ho.1 (by decide)
      | _=>exact z4b _
     ·have eR:=q8n aR uR;have a1:∀ r∈R,∀ w∈r,PyData.strOk w=true:=λ r hr w hw=>by
       obtain ⟨s,hs,z⟩:=qfm aR uR r hr;exact (ok s hs w (z w hw)).1
      refine ⟨.list ((ds.map setD).map dR),.list (R.map dR),?_,.lst (SqL.of ep) (qmc tp a1),?_,?_⟩
      ·rw [<- ed];exact Dat.same (J.trans s3) _ _ hd
      ·exact z41 (z2q (qp7 _)) (by decide)
      ·have q:=q _ (J.trans s3);rw [ef,h2,z3t,<- eR,<- qis] at q;exact q
    | false=>
     refine q1y rfl ?_;have q:=q _ J;rw [ef,h2,z3e] at q;exact q
   ·obtain ⟨⟨v,rfl⟩,J,e⟩:=p;obtain ⟨rfl,hx⟩:=y;obtain ⟨d,Z,a0⟩:=qai (Dats.same J _ _ O) (hx xs (J.seq hl));refine ⟨_,zr,x,d,zr,a0,hz.2 d (z18 Z),λ H3 s3=>⟨_,s3 _ _ e,?_,⟨_,zr⟩,(J.trans s3).set hD,?_⟩⟩
    ·rw [z30,z30,z2g];exact q15 (by lia)
    ·rw [qb,z3h,Z,z36,z36];rfl
  ·refine q1y (by rw [ty];rfl) (iteT ?_);have q:=q H (Same.refl H);have e:accB d=false:=by
    cases d with
    | list ds=>exact absurd rfl (hn ds)
    | _=>rfl
   rw [e] at q;exact q
def qjq (T:Txt K mg):MDef P w K mg base 5 (cA mg "Hands") "fits" ["self","thing"] (q8o K mg .hands):=by
 refine T.qn0.ok qjd (λ vs H Q E h=> ?_) λ f cdv A outer s H vs Q E hr h=> ?_
 ·obtain ⟨o,x,d,rfl,_⟩:=h;rfl
 ·obtain ⟨o,x,d,rfl,_,hd,hz,q⟩:=h;exact ⟨_,(qg (qk (qy (qml T) hr rfl (pa_1 (pv 1))))),_,zr,x,d,zr,hd,hz,q⟩
def qzp (T:Txt K mg) (k:Kd):MDef P w K mg base 5 (clsK mg k) "fits" ["self","thing"] (q8o K mg k):=by
 cases k with
 | counts=>exact MDef.mono (qhh T) (by decide)
 | costs=>exact MDef.mono (qjo T) (by decide)
 | bests m=>exact MDef.mono (qjp T m) (by decide)
 | trusts t=>exact MDef.mono (qhi T t) (by decide)
 | truths=>exact MDef.mono (qhj T) (by decide)
 | hands=>exact qjq T
def qwa {W:xD} {k:Kd} {a:Wo} (g:qi W k a) (hk:k.ok) (hW:∀ w∈W,txtB small w=true):fitB k (dW a)=true:=by
 cases g with
 | counts h=>exact z3c h
 | costN i=>rfl
 | costX=>rfl
 | @bests m l h hl=>
  have J:(l.map PyData.int).map intD=l:=by rw [z47];exact z4c _
  have e1:(l.map PyData.int).all q4m=true:=by rw [z46];exact z2n.mpr λ _ _=>rfl
  show (decide (((l.map PyData.int).length:Int)<=m)&&((l.map PyData.int).all q4m&&decide ((l.map PyData.int).map intD=Tim.srt q19 ((l.map PyData.int).map intD))))=true;rw [J,e1,z30,z3c (show l=Tim.srt q19 l from q1w.uniq (Tim.qo q19 l).symm h (Tim.q1v q1w l)),z3t,Bool.and_true];have:1<=m:=hk.1;exact z3c (by lia)
 | trusts h h2=>
  show (decide _&&decide _)=true;rw [z3c h,z3c h2];rfl
 | truths b=>rfl
 | @hands R a o=>
  have J:(R.map dR).map setD=R:=by
   rw [z47]
   conv=>rhs;rw [<- z4c R]
   refine z1f λ r _=> ?_;show (r.map PyData.str).map strD=r;rw [z47];exact z4c _
  have e1:(R.map dR).all twB=true:=by
   rw [z46];refine z2n.mpr λ r hr=> ?_;show (r.map PyData.str).all (txtD small)=true;rw [z46];exact z2n.mpr λ w hw=>hW w (o.sub r hr w hw)
  show ((R.map dR).all twB&&decide ((R.map dR).map setD=q3s ((R.map dR).map setD)))=true;rw [J,e1,z3c (q5y a).symm];rfl
def qto {W:xD} {k:Kd} {a:Wo} (g:qi W k a) (hk:k.ok) (hW:∀ w∈W,txtB small w=true):okF (dW a):=by
 cases g with
 | counts h=>trivial
 | costN i=>trivial
 | costX=>trivial
 | @bests m l h hl=>
  have:m<=9:=hk.2;refine ⟨by rw [z30];lia,λ e J=> ?_⟩;obtain ⟨i,_,rfl⟩:=z45.mp J;trivial
 | trusts h h2=>trivial
 | truths b=>trivial
 | @hands R a o=>
  refine ⟨by rw [z30];exact z41 (o.cards a) (by decide),λ e J=> ?_⟩;obtain ⟨r,hr,rfl⟩:=z45.mp J;refine ⟨by rw [z30];exact (o.len hr (a.norm r hr)).1,λ x hx=> ?_⟩;obtain ⟨w,hw,rfl⟩:=z45.mp hx;have t:=hW w (o.sub r hr w hw);show w.length<=200
  apply Classical.byContradiction
  intro z;rw [qmj (λ q=>z (z41 q.2 (by decide)))] at t;cases t
def rkP (k:Kd) (g:Str ->Wo) (p:xD):Wo:=p.foldl (λ a n=>boW k a (g n)) (unW k)
def rkS (k:Kd) (l:List Wo):Wo:=l.foldl (eiW k) (noW k)
def rkT (k:Kd) (g:Str ->Wo) (p:List Str×Int):Wo:=repW k (rkP k g p.1) p.2
def rkY (k:Kd) (g:Str ->Wo) (Y:Tab):Wo:=rkS k (Y.map (rkT k g))
section
variable {W:xD} {k:Kd} {g:Str ->Wo}
def qmm (p:xD) (n:Str):rkP k g (p++ [n])=boW k (rkP k g p) (g n):=by
 unfold rkP;rw [z2f];rfl
def q23 (hW:HOk W) (hk:k.ok) (hg:∀ z,qi W k (g z)) (p:xD):qi W k (rkP k g p):=by
 unfold rkP;have:∀ (p:xD) (a:Wo),qi W k a ->qi W k (p.foldl (λ a n=>boW k a (g n)) a):=λ p=>by
  induction p with
  | nil=>exact λ a h=>h
  | cons n p ih=>exact λ a h=>ih _ (q71 h (hg n))
 exact this p _ (q9p hW hk)
theorem qau (hW:HOk W) (hk:k.ok) (J:∀ z,qi W k (g z)):∀ (p:xD) (a:Wo),qi W k a ->p.foldl (λ a n=>boW k a (g n)) a=boW k a (rkP k g p)
 | [],a,O=>(qki O).symm
 | n::p,a,O=>by
  show p.foldl (λ a n=>boW k a (g n)) (boW k a (g n))=boW k a (p.foldl (λ a n=>boW k a (g n)) (boW k (unW k) (g n)));rw [qau hW hk J p _ (q71 O (J n)),qau hW hk J p _ (q71 (q9p hW hk) (J n)),qr4 hW hk (J n),qar O (J n) (q23 hW hk J p)]
def qzq (hW:HOk W) (hk:k.ok) (J:∀ z,qi W k (g z)) (p q:xD):rkP k g (p++q)=boW k (rkP k g p) (rkP k g q):=by
 show (p++q).foldl _ _=_;rw [z2f];exact qau hW hk J q _ (q23 hW hk J p)
def q5c (hW:HOk W) (hk:k.ok) (J:∀ z,qi W k (g z)) (n:Str) (p:xD):rkP k g (n::p)=boW k (g n) (rkP k g p):=by
 show p.foldl _ (boW k (unW k) (g n))=_;rw [qr4 hW hk (J n)];exact qau hW hk J p _ (J n)
def qwb (hW:HOk W) (hk:k.ok) (J:∀ z,qi W k (g z)) {p q:xD} (h:p.Perm q):rkP k g p=rkP k g q:=by
 induction h with
 | nil=>rfl
 | cons n _ ih=>rw [q5c hW hk J,q5c hW hk J,ih]
 | swap a b l=>rw [q5c hW hk J,q5c hW hk J,q5c hW hk J,q5c hW hk J,<- qar (J b) (J a) (q23 hW hk J l),q6l (J b) (J a),qar (J a) (J b) (q23 hW hk J l)]
 | trans _ _ i1 i2=>exact i1.trans i2
def q8p (hW:HOk W) (hk:k.ok) {l:List Wo} (h:∀ a∈l,qi W k a):qi W k (rkS k l):=by
 have:∀ (l:List Wo) (a:Wo),(∀ b∈l,qi W k b) ->qi W k a ->qi W k (l.foldl (eiW k) a):=λ l=>by
  induction l with
  | nil=>exact λ a _ h=>h
  | cons n l ih=>exact λ a hl h=>ih _ (λ b hb=>hl b (z16 _ hb)) (q5z h (hl n (z1p ..)))
 exact this l _ h (q4k hW hk)
theorem qav (hW:HOk W) (hk:k.ok):∀ (l:List Wo) (a:Wo),(∀ b∈l,qi W k b) ->qi W k a ->l.foldl (eiW k) a=eiW k a (rkS k l)
 | [],a,_,O=>(qkh O).symm
 | b::l,a,hl,O=>by
  have Z:=hl b (z1p ..);have J:∀ c∈l,qi W k c:=λ c hc=>hl c (z16 _ hc);show l.foldl (eiW k) (eiW k a b)=eiW k a (l.foldl (eiW k) (eiW k (noW k) b));rw [qav hW hk l _ J (q5z O Z),qav hW hk l _ J (q5z (q4k hW hk) Z),qaq hW hk Z,q5b O Z (q8p hW hk J)]
def q5d (hW:HOk W) (hk:k.ok) {a:Wo} {l:List Wo} (h:∀ b∈a::l,qi W k b):rkS k (a::l)=eiW k a (rkS k l):=by
 have J:=h a (z1p ..);show l.foldl (eiW k) (eiW k (noW k) a)=_;rw [qaq hW hk J];exact qav hW hk l _ (λ b hb=>h b (z16 _ hb)) J
def qzr (hW:HOk W) (hk:k.ok) {l m:List Wo} (hl:∀ b∈l,qi W k b) (hm:∀ b∈m,qi W k b):rkS k (l++m)=eiW k (rkS k l) (rkS k m):=by
 show (l++m).foldl _ _=_;rw [z2f];exact qav hW hk m _ hm (q8p hW hk hl)
def qwc (l:List Wo) (a:Wo):rkS k (l++ [a])=eiW k (rkS k l) a:=by
 unfold rkS;rw [z2f];rfl
def qwd (hW:HOk W) (hk:k.ok) {l m:List Wo} (h:l.Perm m) (hl:∀ b∈l,qi W k b):rkS k l=rkS k m:=by
 induction h with
 | nil=>rfl
 | @cons a l m p ih=>
  have hm:∀ b∈a::m,qi W k b:=λ b J=>hl b ((p.cons a).mem_iff.mpr J);rw [q5d hW hk hl,q5d hW hk hm,ih λ b J=>hl b (z16 _ J)]
 | swap a b l=>
  have h2:∀ c∈a::b::l,qi W k c:=λ c O=>hl c ((List.Perm.swap a b l).mem_iff.mpr O);have J:=hl b (by simp);have Z:=hl a (by simp);have hL:∀ c∈l,qi W k c:=λ c O=>hl c (by simp [O]);rw [q5d hW hk hl,q5d hW hk h2,q5d hW hk (λ c O=>hl c (z16 _ O)),q5d hW hk (λ c O=>h2 c (z16 _ O)),<- q5b J Z (q8p hW hk hL),qhe J Z,q5b Z J (q8p hW hk hL)]
 | trans p _ i1 i2=>exact (i1 hl).trans (i2 λ b J=>hl b (p.mem_iff.mpr J))
def qkj (hW:HOk W) (hk:k.ok) {a:Wo} (h:qi W k a):repW k a 1=a:=by
 by_cases h0:q3g k=0
 ·cases h with
  | counts _=>show Wo.num (_*1)=_;rw [Int.mul_one]
  | costN _=>exact absurd h0 (by decide)
  | costX=>exact absurd h0 (by decide)
  | bests _ _=>exact absurd (show (2:Int)=0 from h0) (by decide)
  | trusts _ _=>exact absurd (show (3:Int)=0 from h0) (by decide)
  | truths _=>exact absurd h0 (by decide)
  | hands _ _=>exact absurd h0 (by decide)
 by_cases h2:q3g k=2
 ·cases h with
  | counts _=>exact absurd h2 (by decide)
  | costN _=>exact absurd h2 (by decide)
  | costX=>exact absurd h2 (by decide)
  | @bests m l hl hn=>
   have m1:1<=m:=hk.1;show Wo.nums (q1d m (repL l (if m < 1 then m else 1)))=_;rw [if_neg (by lia)];have:repL l 1=l:=by
    show (List.replicate (Int.toNat 1) l).flatten=l;rw [show Int.toNat 1=1 from rfl];simp
   rw [this,q5x hl hn]
  | trusts _ _=>exact absurd (show (3:Int)=2 from h2) (by decide)
  | truths _=>exact absurd h2 (by decide)
  | hands _ _=>exact absurd h2 (by decide)
 ·rw [qc8 h h0 h2,if_neg (by decide)]
def qxe (J:qi W k a) (O:qi W k b) (Z:qi W k c):boW k a (eiW k b c)=eiW k (boW k a b) (boW k a c):=by
 rw [q6l J (q5z O Z),qr2 O Z J,q6l O J,q6l Z J]
def qxf (hW:HOk W) (hk:k.ok) {a:Wo} (J:qi W k a):boW k (noW k) a=noW k:=by
 rw [q6l (q4k hW hk) J,qr3 J]
theorem qmn (hW:HOk W) (hk:k.ok) {a b:Wo} (O:qi W k a) (J:qi W k b):∀ m:Nat,boW k a (repW k b (m:Int))=repW k (boW k a b) (m:Int)
 | 0=>by
  rw [show ((0:Nat):Int)=0 from rfl,qft hW hk J,qft hW hk (q71 O J),qr3 O]
 | m+1=>by
  have Z:(0:Int)<=(m:Int):=Int.natCast_nonneg m;rw [show ((m+1:Nat):Int)=(m:Int)+1 from rfl,q9q hW hk J Z (by decide),q9q hW hk (q71 O J) Z (by decide),qkj hW hk J,qkj hW hk (q71 O J),qxe O (q42 hW hk J Z) J,qmn hW hk O J m]
theorem qmo (hW:HOk W) (hk:k.ok) {a b:Wo} (J:qi W k a) (O:qi W k b) (m:Nat):∀ n:Nat,boW k (repW k a (n:Int)) (repW k b (m:Int))=repW k (boW k a b) ((n:Int)*(m:Int))
 | 0=>by
  rw [show ((0:Nat):Int)=0 from rfl,Int.zero_mul,qft hW hk J,qft hW hk (q71 J O),qxf hW hk (q42 hW hk O (Int.natCast_nonneg m))]
 | n+1=>by
  have hn:(0:Int)<=(n:Int):=Int.natCast_nonneg n;have Z:(0:Int)<=(m:Int):=Int.natCast_nonneg m;rw [show ((n+1:Nat):Int)=(n:Int)+1 from rfl,Int.add_mul,Int.one_mul,q9q hW hk J hn (by decide),qkj hW hk J,qr2 (q42 hW hk J hn) J (q42 hW hk O Z),qmo hW hk J O m n,qmn hW hk J O m,q9q hW hk (q71 J O) (z3k hn Z) Z]
def qzs (hW:HOk W) (hk:k.ok) {a b:Wo} (ha:qi W k a) (hb:qi W k b) {n m:Int} (hn:0<=n) (hm:0<=m):boW k (repW k a n) (repW k b m)=repW k (boW k a b) (n*m):=by
 obtain ⟨n,rfl⟩:=z0m hn;obtain ⟨m,rfl⟩:=z0m hm;exact qmo hW hk ha hb m n
def q3t (hW:HOk W) (hk:k.ok) (hg:∀ z,qi W k (g z)) {p:List Str×Int} (h:0<=p.2):qi W k (rkT k g p):=q42 hW hk (q23 hW hk hg p.1) h
def q74 (hW:HOk W) (hk:k.ok) (hg:∀ z,qi W k (g z)) {Y:Tab} (h:NN Y):∀ a∈Y.map (rkT k g),qi W k a:=λ a ha=>by
 obtain ⟨p,hp,rfl⟩:=z45.mp ha;exact q3t hW hk hg (h p hp)
def q1k (hW:HOk W) (hk:k.ok) (hg:∀ z,qi W k (g z)) {Y:Tab} (h:NN Y):qi W k (rkY k g Y):=q8p hW hk (q74 hW hk hg h)
def qmp (Y:Tab) (p:List Str×Int):rkY k g (Y++ [p])=eiW k (rkY k g Y) (rkT k g p):=by
 unfold rkY;rw [z36];exact qwc _ _
def qpd (hW:HOk W) (hk:k.ok) (J:∀ z,qi W k (g z)) {A B:Tab} (hA:NN A) (hB:NN B):rkY k g (A++B)=eiW k (rkY k g A) (rkY k g B):=by
 unfold rkY;rw [z36];exact qzr hW hk (q74 hW hk J hA) (q74 hW hk J hB)
def q2d (hW:HOk W) (hk:k.ok) (hg:∀ z,qi W k (g z)) {p:List Str×Int} {A:Tab} (h:NN (p::A)):rkY k g (p::A)=eiW k (rkT k g p) (rkY k g A):=q5d hW hk (q74 hW hk hg h)
def qwe (hW:HOk W) (hk:k.ok) (hg:∀ z,qi W k (g z)) {A B:Tab} (h:A.Perm B) (hA:NN A):rkY k g A=rkY k g B:=qwd hW hk (h.map _) (q74 hW hk hg hA)
theorem qpe (hW:HOk W) (hk:k.ok) (hg:∀ z,qi W k (g z)) {v:Int} (hv:0<=v) (key:xD):∀ {Y:Tab},NN Y ->(Y.map (·.1)).Nodup ->(Y.any λ J=>decide (J.1=key))=true ->
    rkY k g (Y.map λ J=>if J.1=key then (J.1,(getA Y key).getD 0+v) else J)=eiW k (rkY k g Y) (rkT k g (key,v))
  | [],_,_,h=>by cases h
  | p::Y,hn,nd,h=>by
    have O:NN Y:=λ q hq=>hn q (z16 _ hq);have Z:=hn p (z1p ..);obtain ⟨n1,n2⟩:=z32.mp (by rw [z3l] at nd;exact nd);have gP:=λ q:List Str=>q23 (k:=k) (g:=g) hW hk hg q;by_cases e:p.1=key
    · have ne:∀ q∈Y,q.1≠key:=λ q hq z=>n1 (by rw [e,<- z];exact z45.mpr ⟨q,hq,rfl⟩)
      have e1:getA (p::Y) key=some p.2:=by
        unfold getA;rw [z0s (by simpa using e)];rfl
      have e2:Y.map (λ J=>if J.1=key then (J.1,(some p.2).getD 0+v) else J)=Y:=by
        conv=>rhs;rw [<- z4c Y]
        exact z1f λ q hq=>if_neg (ne q hq)
      rw [e1,z3l,if_pos e,e2];have a0:NN ((p.1,p.2+v)::Y):=λ q hq=>by
        rcases z3n.mp hq with rfl | hq
        · exact Int.add_nonneg Z hv
        · exact O q hq
      show rkY k g ((p.1,p.2+v)::Y)=_;rw [q2d hW hk hg a0,q2d hW hk hg hn];show eiW k (repW k (rkP k g p.1) (p.2+v)) (rkY k g Y)=eiW k (eiW k (repW k (rkP k g p.1) p.2) (rkY k g Y)) (repW k (rkP k g key) v);have a:=q42 hW hk (gP p.1) Z;have b:=q42 hW hk (gP p.1) hv;have c:=q1k hW hk hg O;rw [q9q hW hk (gP p.1) Z hv,e] at*;rw [q5b a b c,qhe b c,<- q5b a c b]
    · have h':(Y.any λ J=>decide (J.1=key))=true:=by
        rw [z3q,z2w e,Bool.false_or] at h;exact h
      have e1:getA (p::Y) key=getA Y key:=by
        unfold getA;rw [z0t (by simpa using e)]
      have ih:=qpe hW hk hg hv key O n2 h';rw [e1,z3l,if_neg e];have a0:NN (Y.map λ J=>if J.1=key then (J.1,(getA Y key).getD 0+v) else J):=λ q hq=>by
        obtain ⟨r,hr,rfl⟩:=z45.mp hq;by_cases z:r.1=key
        · rw [if_pos z]
          have:0<=(getA Y key).getD 0:=by
            unfold getA;cases f:Y.find? λ J=>decide (J.1=key) with
            | none=>exact z4a _
            | some s=>exact O s (z0c f)
          exact Int.add_nonneg this hv
        · rw [if_neg z]
          exact O r hr
      rw [q2d hW hk hg (λ q hq=>by
        rcases z3n.mp hq with rfl | hq
        · exact Z
        · exact a0 q hq),ih,q2d hW hk hg hn]
      exact (q5b (q3t hW hk hg Z) (q1k hW hk hg O) (q3t hW hk hg (p:=(key,v)) hv)).symm
def qzt {Y:Tab} {key:xD} (h:¬ (Y.any λ J=>decide (J.1=key))=true):getA Y key=none:=by
 unfold getA;cases f:Y.find? λ J=>decide (J.1=key) with
 | none=>rfl
 | some s=>exact absurd (z2p.mpr ⟨s,z0c f,List.find?_some f⟩) h
def qzu (hW:HOk W) (hk:k.ok) (hg:∀ z,qi W k (g z)) {v:Int} (hv:0<=v) (key:xD) {Y:Tab} (hn:NN Y) (nd:(Y.map (·.1)).Nodup):rkY k g (addA Y key v)=eiW k (rkY k g Y) (rkT k g (key,v)):=by
 unfold addA putA;by_cases h:(Y.any λ kv=>decide (kv.1=key))=true
 ·rw [if_pos h];exact qpe hW hk hg hv key hn nd h
 ·rw [if_neg h,qzt h];show rkY k g (Y++ [(key,0+v)])=_;rw [Int.zero_add];exact qmp _ _
end
section
variable {W:xD} {k:Kd} {g:Str ->Wo}
def q11u {Y:Tab} {key:xD} {v:Int} (nd:(Y.map (·.1)).Nodup):((addA Y key v).map (·.1)).Nodup:=by
 unfold addA putA;split
 ·rw [z47];have:((λ J:List Str×Int=>J.1)∘λ J:List Str×Int=>if J.1=key then (J.1,(getA Y key).getD 0+v) else J)=λ J=>J.1:=by
   funext J
   show (if J.1=key then (J.1,(getA Y key).getD 0+v) else J).1=J.1;split <;> rfl
  rw [this];exact nd
 ·rename_i h;rw [z36];refine z2d.mpr ⟨nd,by simp,λ a ha b hb e=> ?_⟩;have:b=key:=by simpa using hb
  subst this;subst e;obtain ⟨q,hq,e⟩:=z45.mp ha;exact h (z2p.mpr ⟨q,hq,z3c e⟩)
def q11v {Y:Tab} {key:xD} {v:Int} (hn:NN Y) (J:0<=v):NN (addA Y key v):=λ q hq=>by
 have h0:0<=(getA Y key).getD 0:=by
  unfold getA;cases f:Y.find? λ kv=>decide (kv.1=key) with
  | none=>exact z4a _
  | some s=>exact hn s (z0c f)
 unfold addA putA at hq;split at hq
 ·obtain ⟨r,hr,rfl⟩:=z45.mp hq;by_cases z:r.1=key
  ·rw [if_pos z];exact Int.add_nonneg h0 J
  ·rw [if_neg z];exact hn r hr
 ·rcases z2u.mp hq with hq | hq
  ·exact hn q hq
  ·rw [z1m.mp hq];exact Int.add_nonneg h0 J
theorem qmq (hW:HOk W) (hk:k.ok) (J:∀ z,qi W k (g z)):∀ (ps Y:Tab),NN ps ->NN Y ->(Y.map (·.1)).Nodup ->NN (ps.foldl (λ W p=>addA W (Tim.srt ql p.1) p.2) Y)/\((ps.foldl (λ W p=>addA W (Tim.srt ql p.1) p.2) Y).map (·.1)).Nodup/\rkY k g (ps.foldl (λ W p=>addA W (Tim.srt ql p.1) p.2) Y)=eiW k (rkY k g Y) (rkY k g ps)
 | [],Y,_,Z,nd=>⟨Z,nd,(qkh (q1k hW hk J Z)).symm⟩
 | p::ps,Y,hp,Z,nd=>by
  have O:=hp p (z1p ..);have a0:NN ps:=λ q hq=>hp q (z16 _ hq);obtain ⟨a,b,c⟩:=qmq hW hk J ps (addA Y (Tim.srt ql p.1) p.2) a0 (q11v Z O) (q11u nd);refine ⟨a,b,?_⟩;show rkY k g (ps.foldl _ (addA Y (Tim.srt ql p.1) p.2))=_;rw [c,qzu hW hk J O _ Z nd,q2d hW hk J hp];have e:rkT k g (Tim.srt ql p.1,p.2)=rkT k g p:=by
   show repW k (rkP k g (Tim.srt ql p.1)) p.2=repW k (rkP k g p.1) p.2;rw [qwb hW hk J (Tim.qo ql p.1)]
  rw [e];exact q5b (q1k hW hk J Z) (q3t hW hk J O) (q1k hW hk J a0)
theorem qhk (hW:HOk W) (hk:k.ok) (J:∀ z,qi W k (g z)):∀ {Y:Tab},NN Y ->rkY k g (Y.filter λ kv=>decide (0 < kv.2))=rkY k g Y
  | [],_=>rfl
  | p::Y,h=>by
    have Z:=h p (z1p ..);have O:NN Y:=λ q hq=>h q (z16 _ hq);have hF:NN (Y.filter λ kv=>decide (0 < kv.2)):=λ q hq=>O q (z2x.mp hq).1;by_cases e:0 < p.2
    · rw [List.filter_cons_of_pos (by simpa using e),q2d hW hk J (λ q hq=>by
        rcases z3n.mp hq with rfl | hq
        · exact Z
        · exact hF q hq),q2d hW hk J h,qhk hW hk J O]
    · rw [List.filter_cons_of_neg (by simpa using e),q2d hW hk J h,qhk hW hk J O]
      have e0:p.2=0:=by lia
      have:rkT k g p=noW k:=by
        show repW k (rkP k g p.1) p.2=_;rw [e0];exact qft hW hk (q23 hW hk J p.1)
      rw [this,qaq hW hk (q1k hW hk J O)]
theorem qpf:∀ {Y:Tab} {p:List Str×Int},(Y.map (·.1)).Nodup ->p∈Y ->getA Y p.1=some p.2
 | q::Y,p,nd,h=>by
  obtain ⟨n1,n2⟩:=z32.mp (by rw [z3l] at nd;exact nd);rw [qt2];rcases z3n.mp h with rfl | h
  ·rw [if_pos rfl]
  ·rw [if_neg (λ e=>n1 (by rw [e];exact z45.mpr ⟨p,h,rfl⟩))];exact qpf n2 h
def qtp {Y:Tab} (nd:(Y.map (·.1)).Nodup):(told Y).Perm (Y.filter λ kv=>decide (0 < kv.2)):=by
 have e:(Y.map (·.1)).map (λ k=>(k,(getA Y k).getD 0))=Y:=by
  rw [z47]
  conv=>rhs;rw [<- z4c Y]
  refine z1f λ p hp=> ?_;show (p.1,(getA Y p.1).getD 0)=p;rw [qpf nd hp];rfl
 unfold told;refine List.Perm.filter _ ?_
 conv=>rhs;rw [<- e]
 exact (Tim.qo qz _).map _
def qtq (hW:HOk W) (hk:k.ok) (J:∀ z,qi W k (g z)) {ps:Tab} (h:NN ps):rkY k g (tg ps)=rkY k g ps:=by
 obtain ⟨a,b,c⟩:=qmq hW hk J ps [] h (λ _ z=>nomatch z) z3g;have c':rkY k g (gath ps)=rkY k g ps:=by
  have:rkY k g (gath ps)=eiW k (rkY k g []) (rkY k g ps):=c;rw [this];exact qaq hW hk (q1k hW hk J h)
 rw [<- c',<- qhk hW hk J (Y:=gath ps) a];exact qwe hW hk J (qtp b) (qqr ps)
def qzv (hW:HOk W) (hk:k.ok) (J:∀ z,qi W k (g z)) {p q:List Str×Int} (hp:0<=p.2) (hq:0<=q.2):rkT k g (mulP p q)=boW k (rkT k g p) (rkT k g q):=by
 show repW k (rkP k g (p.1++q.1)) (p.2*q.2)=boW k (repW k (rkP k g p.1) p.2) (repW k (rkP k g q.1) q.2);rw [qzq hW hk J,qzs hW hk (q23 hW hk J p.1) (q23 hW hk J q.1) hp hq]
theorem qmr (hW:HOk W) (hk:k.ok) (J:∀ z,qi W k (g z)) {p:List Str×Int} (O:0<=p.2):∀ {B:Tab},NN B ->NN (B.map (mulP p))/\rkY k g (B.map (mulP p))=boW k (rkT k g p) (rkY k g B)
 | [],_=>⟨(λ _ z=>nomatch z),(qr3 (q3t hW hk J O)).symm⟩
 | q::B,h=>by
  have hq:=h q (z1p ..);have Z:NN B:=λ r hr=>h r (z16 _ hr);obtain ⟨a,b⟩:=qmr hW hk J O Z;have hn:NN (mulP p q::B.map (mulP p)):=λ r hr=>by
   rcases z3n.mp hr with rfl | hr
   ·exact z3k O hq
   ·exact a r hr
  refine ⟨hn,?_⟩;rw [z3l,q2d hW hk J hn,b,qzv hW hk J O hq,q2d hW hk J h,qxe (q3t hW hk J O) (q3t hW hk J hq) (q1k hW hk J Z)]
theorem qiu (hW:HOk W) (hk:k.ok) (J:∀ z,qi W k (g z)) {B:Tab} (O:NN B):∀ {A:Tab},NN A ->rkY k g (prods A B)=boW k (rkY k g A) (rkY k g B)
 | [],_=>(qxf hW hk (q1k hW hk J O)).symm
 | p::A,h=>by
  have hp:=h p (z1p ..);have Z:NN A:=λ r hr=>h r (z16 _ hr);obtain ⟨a,b⟩:=qmr hW hk J hp O;show rkY k g (B.map (mulP p)++prods A B)=_;rw [qpd hW hk J a (qm2 Z O),b,qiu hW hk J O Z,q2d hW hk J h,qr2 (q3t hW hk J hp) (q1k hW hk J Z) (q1k hW hk J O)]
def qzw (hW:HOk W) (hk:k.ok) (J:∀ z,qi W k (g z)) (z:Str):rkY k g [([z],1)]=g z:=by
 show eiW k (noW k) (repW k (boW k (unW k) (g z)) 1)=g z;rw [qr4 hW hk (J z),qkj hW hk (J z),qaq hW hk (J z)]
end
def WD (H:Hp) (d:Addr) (f:Str ->Option Wo):Prop:=∃ kvs,Rd H d (.dK kvs)/\∀ z,f z=none\/ ∃ a v,f z=some a/\valV kvs (Sum.inr z)=some v/\WV H a v
theorem WD.same {H H':Hp} {d:Addr} {f:Str ->Option Wo} (h:WD H d f) (s:Same H H'):WD H' d f:=by
 obtain ⟨kvs,hr,hv⟩:=h;refine ⟨kvs,?_,λ z=> ?_⟩
 ·rcases hr with hr | ⟨o,hr⟩
  ·exact .inl (s _ _ hr)
  ·exact .inr ⟨o,s _ _ hr⟩
 ·rcases hv z with h | ⟨a,v,e1,e2,hw⟩
  ·exact .inl h
  ·exact .inr ⟨a,v,e1,e2,hw.same s⟩
def WD.get {H:Hp} {d:Addr} {f:Str ->Option Wo} (h:WD H d f) {z:Str} {a:Wo} (e:f z=some a):∃ v,DGet H d (.str z) (some v)/\WV H a v:=by
 obtain ⟨kvs,hr,hv⟩:=h;rcases hv z with e1 | ⟨b,v,e1,e2,hw⟩
 ·rw [e1] at e;cases e
 ·rw [e1] at e;cases e
  exact ⟨v,.inl ⟨kvs,Sum.inr z,hr,zr,e2.symm⟩,hw⟩
def gOf (k:Kd) (f:Str ->Option Wo) (z:Str):Wo:=(f z).getD (noW k)
structure FOk (W:xD) (k:Kd) (f:Str ->Option Wo):Prop where
 hk:k.ok
 hW:HOk W
 tW:∀ w∈W,txtB small w=true
 good:∀ z a,f z=some a ->qi W k a
 lt:∀ z,LtW k (2^1200) (gOf k f z)
def FOk.g {W:xD} {k:Kd} {f:Str ->Option Wo} (h:FOk W k f) (z:Str):qi W k (gOf k f z):=by
 unfold gOf;cases e:f z with
 | none=>exact q4k h.hW h.hk
 | some a=>exact h.good z a e
def q13e (K:xA) (mg:xE):Sp:=λ vs H Q _=>∃ (b o d:Addr) (p:xD) (k:Kd) (f:Str ->Option Wo) (W:xD),vs=[.ref b,.ref o,.ref d]/\H b=some (.tup (p.map V.str))/\ByAt mg H o k/\WD H d f/\FOk W k f/\(∀ n∈p,∃ a,f n=some a)/\(∀ i,LtW k (2^1200) (rkP k (gOf k f) (p.take i)))/\∀ z H',Same H H' ->NewV H z\/ p≠ [] ->WV H' (rkP k (gOf k f) p) z ->Q z H'
def qb4 (T:Txt K mg):Def P w K mg base 6 "product_reckoned" ["product","by","worths"] (q13e K mg):=by
 refine T.qch.ok q2y (λ vs H Q E h=> ?_) λ f cdv A outer s H vs Q E hr h=> ?_
 ·obtain ⟨b,o,d,p,k,f,W,rfl,_⟩:=h;rfl
 ·obtain ⟨b,o,d,p,k,ff,W,rfl,hb,hB,hd,ok,a1,a2,q⟩:=h;refine ⟨_,(q2p
   (qt (i:=3) q2y.nd rfl (Or.inl rfl) (q5g (qzk T) (q39 T) hr (pv 1)))
   (q1i PassesOwn.never rfl (q65 K (pv 0)) (qr (i:=4) q2y.nd rfl (Or.inl rfl)) (qg (qt (i:=3) q2y.nd rfl (Or.inl rfl) (q4a (qzl T) (q39 T) hr (pv 1) (pa_2 (pv 3) (q4p (q2a hr) (pv 2) (pv 4) (λ _ _=>rfl)))))))
   (qk (pv 3))),?_⟩
  obtain ⟨dx,a0⟩:=id hB;refine ⟨_,zr,k,o,dx,_,zr,a0,q11m k,o,zr,hB,λ z0 H1 s1 n0 w0=> ?_⟩;refine ⟨_,zr,b,zr,⟨_,SqT.of (s1 _ _ hb)⟩,q9d (xs:=p.map V.str) (λ i σ G=>Same H G/\∃ z v,σ=[some (.ref b),some (.ref o),some (.ref d),some z,v]/\NewV H z/\WV G (rkP k (gOf k ff) (p.take i)) z) ⟨s1,z0,_,zr,n0,w0⟩ (λ i σ G _ z=>SqT.of (z.1 _ _ hb)) ?_ ?_⟩
  ·rintro i x σ G hx ⟨J,z,v,rfl,nz,wz⟩;rw [z22] at hx;obtain ⟨n,hn,rfl⟩:=z0q.mp hx;obtain ⟨a,ha⟩:=a1 n (z18 hn);obtain ⟨u,hu,wu⟩:=(hd.same J).get ha;obtain ⟨dx,O⟩:=hB.same J;have ga:=ok.good n a ha;have eg:gOf k ff n=a:=by
    unfold gOf;rw [ha];rfl
   have Z:=ok.lt n;rw [eg] at Z;refine ⟨_,zr,k,o,dx,_,zr,O,q11n k,_,zr,_,zr,_,zr,d,_,zr,hu,o,z,u,_,a,W,zr,⟨dx,O⟩,ok.hk,q23 ok.hW ok.hk ok.g _,ga,wz,wu,(a2 i).and Z,λ z2 G2 s2 n2 w2=> ?_⟩;refine ⟨J.trans s2,z2,_,zr,n2.back J,?_⟩;rw [z3h,hn];show WV G2 (rkP k (gOf k ff) (p.take i++ [n])) z2;rw [qmm,eg];exact w2
  ·rintro σ G ⟨J,z,v,rfl,nz,wz⟩;rw [z30,z2t] at wz;exact ⟨_,zr,q z G J (.inl nz) wz⟩
def YOk (k:Kd) (g:Str ->Wo) (Y:Tab):Prop:=∀ p∈Y,p.2 < 2^1200/\∀ i,LtW k (2^1200) (rkP k g (p.1.take i))
def q11w (K:xA) (mg:xE):Sp:=λ vs H Q _=>∃ (p o d:Addr) (ns:xD) (k:Kd) (f:Str ->Option Wo) (W:xD),vs=[.ref p,.ref o,.ref d]/\H p=some (.lst (ns.map V.str))/\ByAt mg H o k/\WD H d f/\FOk W k f/\(∀ n∈ns,∃ a,f n=some a)/\∀ H',Same H H' ->Q .non H'
def qjr (T:Txt K mg):Def P w K mg base 6 "ask_worths" ["names","by","worths"] (q11w K mg):=by
 refine T.qn4.ok qaz (λ vs H Q E h=> ?_) λ f cdv A outer s H vs Q E hr h=> ?_
 ·obtain ⟨p,o,d,ns,k,f,W,rfl,_⟩:=h;rfl
 ·obtain ⟨p,o,d,ns,k,ff,W,rfl,hp,hB,hd,ok,a0,q⟩:=h;refine ⟨_,(qg (q1i PassesOwn.never rfl (q1a K (pv 0)) (qr (i:=3) qaz.nd rfl (Or.inl rfl)) (qg (q1g (PW.pt (qck (qf1 (qs6 (q2a hr) (pv 3) (pv 2))) (q9b (q5j (q6t (q4a (qzp T) (q39 T) hr (pv 1) (pa_1 (q4p (q2a hr) (pv 2) (pv 3) (λ _ _=>rfl))))))))) (qg q131) q18)))),?_⟩;refine ⟨_,zr,p,zr,⟨_,SqL.of hp⟩,q29 (xs:=ns.map V.str) (λ i σ G=>Same H G/\∃ v,σ=[some (.ref p),some (.ref o),some (.ref d),v]) ⟨Same.refl _,_,zr⟩ (λ i σ G _ z=>SqL.of (z.1 _ _ hp)) ?_ ?_⟩
  ·rintro i x σ G hx ⟨O,v,rfl⟩;rw [z22] at hx;obtain ⟨z,hz,rfl⟩:=z0q.mp hx;obtain ⟨a,ha⟩:=a0 z (z18 hz);obtain ⟨u,hu,wu⟩:=(hd.same O).get ha;obtain ⟨dx,J⟩:=hB.same O;have Z:=ok.good z a ha;refine ⟨_,zr,_,zr,d,_,zr,hu,_,zr,q11 rfl ?_⟩;refine ⟨_,zr,k,o,dx,_,zr,J,q11o k,_,zr,_,zr,d,_,zr,hu,o,u,dW a,zr,⟨dx,J⟩,wu.dat ok.hW Z,qto Z ok.hk ok.tW,λ H2 s2=> ?_⟩;rw [qwa Z ok.hk ok.tW];exact ⟨_,zr,iteF ⟨O.trans s2,_,zr⟩⟩
  ·rintro σ G ⟨O,v,rfl⟩;exact q _ O
def q13f (K:xA) (mg:xE):Sp:=λ vs H Q _=>∃ (l o d:Addr) (Y:Tab) (k:Kd) (f:Str ->Option Wo) (W:xD),vs=[.ref l,.ref o,.ref d]/\WA H l Y/\ByAt mg H o k/\WD H d f/\FOk W k f/\(∀ p∈Y,∀ n∈p.1,∃ a,f n=some a)/\YOk k (gOf k f) Y/\∀ z H',Same H H' ->NewV H z ->WV H' (rkY k (gOf k f) Y) z ->Q z H'
def q98 (T:Txt K mg):Def P w K mg base 7 "reckoned" ["why","by","worths"] (q13f K mg):=by
 refine T.qre.ok q50 (λ vs H Q E h=> ?_) λ f cdv A outer s H vs Q E hr h=> ?_
 ·obtain ⟨l,o,d,Y,k,f,W,rfl,_⟩:=h;rfl
 ·obtain ⟨l,o,d,Y,k,ff,W,rfl,hl,hB,hd,ok,a4,hY,q⟩:=h;refine ⟨_,(qkf
   (q2s (qy (qjr T) hr rfl (pa_3 (qy (qo1 T) hr rfl (pa_1 (pv 0))) (pv 1) (pv 2))))
   (qt (i:=3) q50.nd rfl (Or.inl rfl) (q5g (q72 T) (q39 T) hr (pv 1)))
   (q1i PassesOwn.never rfl (q1a K (pv 0)) (q9c rfl (q2n (qr (i:=4) q50.nd rfl (Or.inl rfl)) (q2n (qr (i:=5) q50.nd rfl (Or.inl rfl)) q7v))) (qg (qt (i:=3) q50.nd rfl (Or.inl rfl) (q4a (q73 T) (q39 T) hr (pv 1) (pa_2 (pv 3) (q4a (qo4 T) (q39 T) hr (pv 1) (pa_2 (qy (qb4 T) hr rfl (pa_3 (pv 4) (pv 1) (pv 2))) (pv 5))))))))
   (qk (pv 3))),?_⟩
  refine ⟨_,zr,l,Y,zr,hl,λ p ns H1 s1 _ hp a9 _=> ?_⟩;refine ⟨_,zr,_,zr,p,o,d,ns,k,ff,W,zr,hp,hB.same s1,hd.same s1,ok,λ n hn=> ?_,λ H2 s2=> ?_⟩
  ·obtain ⟨J,Z,hx⟩:=(a9.2 n).mp hn;exact a4 J Z n hx
  have a0:=s1.trans s2;obtain ⟨dx,a2⟩:=hB.same a0;refine ⟨_,zr,k,o,dx,_,zr,a2,qc6 k,o,zr,⟨dx,a2⟩,λ z0 H3 s3 n0 w0=> ?_⟩;have a1:=a0.trans s3;obtain ⟨xs,a6,a5,a3⟩:=hl.same a1;have xl:=Paired.length a5;refine ⟨_,zr,l,zr,⟨_,SqL.of a6⟩,q29 (xs:=xs) (λ i σ G=>Same H3 G/\∃ z v1 v2,σ=[some (.ref l),some (.ref o),some (.ref d),some z,v1,v2]/\NewV H z/\WV G (rkY k (gOf k ff) (Y.take i)) z) ⟨Same.refl _,z0,_,_,zr,n0.back a0,w0⟩ (λ i σ G _ z=>SqL.of (z.1 _ _ a6)) ?_ ?_⟩
  ·rintro i x σ G hx ⟨sg,z,v1,v2,rfl,nz,wz⟩;obtain ⟨J,Z,b2⟩:=q2f a5 hx;obtain ⟨qa,b,rfl,hq,a8⟩:=b2.keep (Same.keepT sg);have hm:=z18 Z;have sH:=a1.trans sg;obtain ⟨dx,O⟩:=hB.same sH;have a7:0<=J.2:=(a3.2 J hm).2.2.1;have b4:NN Y:=λ p hp=>(a3.2 p hp).2.2.1;have gP:=q23 ok.hW ok.hk ok.g J.1;refine ⟨_,_,zr,SqT.of hq,zr,_,_,zr,_,_,zr,zr,?_⟩;refine ⟨_,zr,k,o,dx,_,zr,O,qc7 k,_,zr,_,zr,k,o,dx,_,zr,O,q11p k,_,zr,_,zr,_,zr,b,o,d,J.1,k,ff,W,zr,a8,⟨dx,O⟩,hd.same sH,ok,a4 J hm,(hY J hm).2,λ u G2 s2 _ wu=> ?_⟩;have b3:LtW k (2^1200) (rkP k (gOf k ff) J.1):=by
    have:=(hY J hm).2 J.1.length;rw [z2t] at this;exact this
   refine ⟨_,zr,o,u,J.2,_,W,zr,⟨dx,s2 _ _ O⟩,ok.hk,ok.hW,gP,wu,a7,λ e=>⟨b3 e,(hY J hm).1⟩,λ y G3 s3 _ wy=> ?_⟩;refine ⟨o,z,y,_,_,W,zr,⟨dx,(s2.trans s3) _ _ O⟩,ok.hk,q1k ok.hW ok.hk ok.g (λ p hp=>b4 p (z15 hp)),q42 ok.hW ok.hk gP a7,wz.same (s2.trans s3),wy,λ y2 G4 s4 n4 w4=> ?_⟩;have sA:=s2.trans (s3.trans s4);refine ⟨sg.trans sA,y2,_,_,zr,n4.back (sH.trans (s2.trans s3)),?_⟩;rw [z3h,Z];show WV G4 (rkY k (gOf k ff) (Y.take i++ [J])) y2;rw [qmp];exact w4
  ·rintro σ G ⟨sg,z,v1,v2,rfl,nz,wz⟩;rw [xl,z2t] at wz;exact ⟨_,zr,q z G (a1.trans sg) nz wz⟩
def Ws (z:Str):Prop:=∀ c r,z.cps.toList=c::r ->c∈small.cps.toList
def q11x {d:Nat} (h:d∈small.cps.toList):Ws ⟨#[d]⟩:=λ c r e=>by
 injection (show [d]=c::r from e) with e1 e2;subst e1;exact h
def q11y {a b:Str} (h:Ws a) (k:a.cps.toList=[] ->Ws b):Ws (a++b):=λ c r e=>by
 rw [qlw] at e;cases J:a.cps.toList with
 | nil=>
  rw [J,List.nil_append] at e;exact k J c r e
 | cons x xs=>
  rw [J,List.cons_append] at e;injection e with e1 _;subst e1;exact h _ _ J
def q11z {z:Str} (h:Wz 12 z) (h1:1<=z.length) (hs:Ws z):txtB small z=true:=by
 rw [qpa h1 h.1];obtain ⟨c,r,e⟩:=qfu h1;rw [e];show (decide _&&_)=true;rw [z3c (hs c r e),z3t];exact z2n.mpr λ d hd=>z3c (h.2 d (by rw [e];exact z16 _ hd))
def rowR (c:Int):Nat ->Int
 | 0=>c / 2
 | i+1=>if c%2=1 then rowR c i / 10^24 else rowR c i
def rowO (c:Int) (i:Nat):Int:=(rowR c i%2147483629+7919*(0+(i:Int))+(0+(i:Int))*(0+(i:Int))+1)*48271%2147483647
def rowX (c:Int) (i:Nat):Int:=if c%2=1 then rowR c i%10^24 else rowO c i*((rowO c i+31*(0+(i:Int)))*69621%998244353)+rowO c i / 7
def rowF (c m:Int):List Int:=(List.range m.toNat).map (rowX c)
def qpg (c:Int) (i:Nat):0<=rowO c i/\rowO c i < 2147483647:=⟨z3a _ (by decide),z1w _ (by decide)⟩
def qzx (c:Int) (i:Nat):0<=rowX c i/\rowX c i < 10^24:=by
 unfold rowX;split
 ·exact ⟨z3a _ (by decide),z1w _ (by decide)⟩
 ·obtain ⟨a,b⟩:=qpg c i;have J:0<=(rowO c i+31*(0+(i:Int)))*69621%998244353:=z3a _ (by decide);have t1:(rowO c i+31*(0+(i:Int)))*69621%998244353 < 998244353:=z1w _ (by decide);generalize (rowO c i+31*(0+(i:Int)))*69621%998244353=t at*;generalize rowO c i=o at*;have h1:0<=o*t:=z3k a J;have h2:o*t<=2147483647*t:=Int.mul_le_mul_of_nonneg_right (by lia) J
  lia
def q6m {c m:Int} (h:0<=m):(rowF c m).length=m.toNat:=by
 unfold rowF;rw [z30,z29]
def qhl {c m n:Int} (h:n∈rowF c m):0<=n/\n < 10^24:=by
 obtain ⟨i,_,rfl⟩:=z45.mp h;exact qzx c i
def qwf (c m:Int) (k:Nat):0<=(rowF c m).getD k 0/\(rowF c m).getD k 0 < 10^24:=by
 rw [z06];cases e:(rowF c m)[k]? with
 | none=>exact ⟨z4a _,by decide⟩
 | some z=>exact qhl (z18 e)
def qzy:Sp:=λ vs H Q _=>∃ c m:Int,vs=[.int c,.int m]/\0<=m/\m<=100/\∀ p H',Same H H' ->H p=none ->H' p=some (.lst ((rowF c m).map V.int)) ->Q (.ref p) H'
def q51 (T:Txt K mg):Def P w K mg base 1 "_law_row" ["_law_cell","_law_many"] qzy:=by
 refine T.qrf.ok q3c (λ vs H Q E h=> ?_) λ f cdv A outer s H vs Q E hr h=> ?_
 ·obtain ⟨c,m,rfl,_⟩:=h;rfl
 ·obtain ⟨c,m,rfl,m0,m1,k⟩:=h;refine ⟨_,(qkf
   (qt (i:=2) q3c.nd rfl (Or.inl rfl) (qm q3y (pv 0) qd))
   (qt (i:=3) q3c.nd rfl (Or.inl rfl) (q24 q2g))
   (q1i PassesOwn.never rfl (q6v rfl T.q7z (pa_1 (pv 1))) (qr (i:=4) q3c.nd rfl (Or.inl rfl)) (qg (q1g (q13 q28 (qm q1f (pv 0) qd) qd (q14 _)) (q2x
   (q2s (q7s z0l z0g z0h q6x (pv 3) (pa_1 (qm q1f (pv 2) (qm ql4 qd qd)))))
   (qt (i:=2) q3c.nd rfl (Or.inl rfl) (qm qvb (pv 2) (qm ql4 qd qd)))) (q2p
   (qt (i:=5) q3c.nd rfl (Or.inl rfl) (qm q1f (qm q4y (qm q1l (qm q1l (qm q1l (qm q1f (pv 2) qd) (qm q4y qd (pv 4))) (qm q4y (pv 4) (pv 4))) qd) qd) qd))
   (qt (i:=6) q3c.nd rfl (Or.inl rfl) (qm q1f (qm q4y (qm q1l (pv 5) (qm q4y qd (pv 4))) qd) qd))
   (q2s (q7s z0l z0g z0h q6x (pv 3) (pa_1 (qm q1l (qm q4y (pv 5) (pv 6)) (qm q3y (pv 5) qd)))))))))
   (qk (pv 3))),?_⟩
  refine ⟨_,zr,_,_,zr,zr,⟨by decide,by decide⟩,?_⟩;refine ⟨by decide,λ p Z=> ?_⟩;refine ⟨_,zr,_,zr,by lia,by lia,q8v (lo:=0) (n:=m.toNat) (λ i σ H'=>∃ (O v1 v2:Option V),σ=[some (.int c),some (.int m),some (.int (rowR c i)),some (.ref p),O,v1,v2]/\H'=upd H p (.lst (((List.range i).map (rowX c)).map V.int)))
   ⟨none,none,none,rfl,rfl⟩ ?_ ?_⟩
  ·rintro i σ H' hi ⟨O,v1,v2,rfl,rfl⟩;have lw:(((List.range i).map (rowX c)).map V.int).length < sizeLine:=by rw [z30,z30,z29];exact q1p (by lia)
   refine ⟨_,rfl,_,_,rfl,rfl,(by show (0:Int) < 2;decide),rfl,_,rfl,ite2 (λ h=> ?_) (λ h=> ?_)⟩
   ·have J:c%2=1:=vi h;have e1:rowR c (i+1)=rowR c i / 10^24:=if_pos J;have e2:rowX c i=rowR c i%10^24:=if_pos J;refine ⟨_,rfl,.inl ⟨rfl,_,SqL.of qb⟩,_,rfl,_,_,rfl,rfl,⟨by decide,by decide,by decide⟩,_,_,rfl,rfl,(by show (0:Int) < 10^24;decide),_,_,_,rfl,rfl,qb,lw,?_⟩;refine ⟨_,rfl,_,_,rfl,rfl,⟨by decide,by decide,by decide⟩,_,_,rfl,rfl,⟨by show (0:Int) < 10^24;decide,by show Nat.log2 (Int.natAbs (10^24)) < 9000;decide+kernel⟩,?_⟩;refine ⟨_,_,_,by rw [e1];rfl,?_⟩;rw [q64,z35,z36,z36];show _=upd H p (.lst (_++ [V.int (rowX c i)]));rw [e2];rfl
   ·have J:¬ c%2=1:=vin h;have e1:rowR c (i+1)=rowR c i:=if_neg J;have e2:rowX c i=rowO c i*((rowO c i+31*(0+(i:Int)))*69621%998244353)+rowO c i / 7:=if_neg J;have ro:=qpg c i;refine ⟨_,rfl,_,_,rfl,rfl,(by show (0:Int) < 2147483629;decide),_,rfl,_,_,rfl,rfl,.inl ⟨by decide,by decide⟩,_,_,rfl,rfl,_,rfl,_,rfl,_,_,rfl,rfl,.inl ⟨by show -(2^64) < (0+(i:Int));lia,by show (0+(i:Int)) < 2^64;lia⟩,_,_,rfl,rfl,_,_,rfl,rfl,_,_,rfl,rfl,.inr ⟨by decide,by decide⟩,_,_,rfl,rfl,(by show (0:Int) < 2147483647;decide),?_⟩;refine ⟨_,rfl,_,rfl,_,_,rfl,rfl,.inl ⟨by decide,by decide⟩,_,_,rfl,rfl,_,_,rfl,rfl,.inr ⟨by decide,by decide⟩,_,_,rfl,rfl,(by show (0:Int) < 998244353;decide),?_⟩;refine ⟨_,rfl,.inl ⟨rfl,_,SqL.of qb⟩,_,rfl,_,rfl,_,_,rfl,rfl,.inl ⟨by show -(2^64) < rowO c i;lia,by show rowO c i < 2^64;lia⟩,_,rfl,_,_,rfl,rfl,⟨by decide,by decide⟩,_,_,rfl,rfl,_,_,_,rfl,rfl,qb,lw,?_⟩;refine ⟨_,_,_,by rw [e1];rfl,?_⟩;rw [q64,z35,z36,z36];show _=upd H p (.lst (_++ [V.int (rowX c i)]));rw [e2];rfl
  ·rintro σ H' ⟨O,v1,v2,rfl,rfl⟩;exact ⟨_,zr,k p _ (qf Z) Z qb⟩
def lat:Str:="0123456789abcdefghijklmnopqrstuvwxyz"
def latC (i:Int):Nat:=lat.cps.toList.getD i.toNat 0
def q13g:∀ k:Nat,k < 36 ->lat.cps.toList[k]? =some (lat.cps.toList.getD k 0)/\lat.cps.toList.getD k 0∈fur.cps.toList:=by decide+kernel
def q13h:∀ k:Nat,k < 26 ->lat.cps.toList.getD (10+k) 0∈small.cps.toList:=by decide+kernel
def qfx {i:Int} (h0:0<=i) (h1:i < 36):atI lat.cps.toList i=some (latC i)/\latC i∈fur.cps.toList:=by
 obtain ⟨n,rfl⟩:=z0m h0;obtain ⟨a,b⟩:=q13g n (by lia);exact ⟨q40 a,b⟩
def qtr {i:Int} (h0:0<=i) (h1:i < 26):latC (10+i)∈small.cps.toList:=by
 obtain ⟨n,rfl⟩:=z0m h0;have:=q13h n (by lia);unfold latC;rw [show ((10:Int)+(n:Int)).toNat=10+n by lia];exact this
def qms:lat.length<=sizeLine:=by
 have:lat.length=36:=by decide+kernel
 rw [this];decide
def wdR (x:Int):Nat ->Int
 | 0=>x / 12 / 26
 | i+1=>wdR x i / 36
def wdS (x:Int):Nat ->Str
 | 0=>⟨#[latC (10+x / 12%26)]⟩
 | i+1=>wdS x i++⟨#[latC (wdR x i%36)]⟩
def q3h (x:Int):Str:=wdS x (x%12).toNat
theorem qfy (x:Int):∀ i:Nat,(wdS x i).length=i+1/\(∀ c∈(wdS x i).cps.toList,c∈fur.cps.toList)/\Ws (wdS x i)
 | 0=>by
  have a:0<=x / 12%26:=z3a _ (by decide);have b:x / 12%26 < 26:=z1w _ (by decide);refine ⟨zr,λ c hc=> ?_,q11x (qtr a b)⟩;have:c=latC (10+x / 12%26):=z1m.mp (show c∈ [latC (10+x / 12%26)] from hc);rw [this];exact (qfx (by lia) (by lia)).2
 | i+1=>by
  obtain ⟨a,b,c⟩:=qfy x i;have h0:0<=wdR x i%36:=z3a _ (by decide);have h1:wdR x i%36 < 36:=z1w _ (by decide);refine ⟨?_,λ z hz=> ?_,?_⟩
  ·show (wdS x i++(⟨#[latC (wdR x i%36)]⟩:Str)).length=_;rw [qyq,a];rfl
  ·have J:z∈(wdS x i++(⟨#[latC (wdR x i%36)]⟩:Str)).cps.toList:=hz;rw [qlw] at J;rcases z2u.mp J with h | h
   ·exact b z h
   ·have:z=latC (wdR x i%36):=z1m.mp (show z∈ [latC (wdR x i%36)] from h);rw [this];exact (qfx h0 h1).2
  ·exact q11y c λ e=>absurd a (by rw [<- qah,e];exact λ z=>nomatch z)
def qcd (x:Int):((q3h x).length:Int)=x%12+1:=by
 have:0<=x%12:=z3a _ (by decide);unfold q3h;rw [(qfy x _).1]
 lia
def qts (x:Int):txtB small (q3h x)=true/\Wz 12 (q3h x)/\1<=(q3h x).length:=by
 have h1:x%12 < 12:=z1w _ (by decide);have hl:=qcd x;have h0:0<=x%12:=z3a _ (by decide);obtain ⟨a,b,c⟩:=qfy x (x%12).toNat;have J:Wz 12 (q3h x):=⟨by lia,b⟩;exact ⟨q11z J (by lia) c,J,by lia⟩
def q120:Sp:=λ vs H Q _=>∃ x:Int,vs=[.int x]/\Q (.str (q3h x)) H
def qce (T:Txt K mg):Def P w K mg base 1 "_law_word" ["_law_x"] q120:=by
 refine T.qo5.ok q2k (λ vs H Q E h=> ?_) λ f cdv A outer s H vs Q E hr h=> ?_
 ·obtain ⟨x,rfl,_⟩:=h;rfl
 ·obtain ⟨x,rfl,k⟩:=h;refine ⟨_,(q12t
   (qt (i:=1) q2k.nd rfl (Or.inl rfl) q10d)
   (qt (i:=2) q2k.nd rfl (Or.inl rfl) (qm q3y (pv 0) qd))
   (qt (i:=3) q2k.nd rfl (Or.inl rfl) (q1h ql8 (pv 1) (qm q1l qd (qm q1f (pv 2) qd)) (λ _ _=>rfl)))
   (qt (i:=2) q2k.nd rfl (Or.inl rfl) (qm q3y (pv 2) qd))
   (q1i PassesOwn.never rfl (q6v rfl T.q7z (pa_1 (qm q1f (pv 0) qd))) (qr (i:=4) q2k.nd rfl (Or.inl rfl)) (q2x
   (qt (i:=3) q2k.nd rfl (Or.inl rfl) (qm qpz (pv 3) (q1h ql8 (pv 1) (qm q1f (pv 2) qd) (λ _ _=>rfl))))
   (qt (i:=2) q2k.nd rfl (Or.inl rfl) (qm q3y (pv 2) qd))))
   (qk (pv 3))),?_⟩
  have a0:0<=x / 12%26:=z3a _ (by decide);have a1:x / 12%26 < 26:=z1w _ (by decide);have b0:0<=x%12:=z3a _ (by decide);have b1:x%12 < 12:=z1w _ (by decide);obtain ⟨O,l2⟩:=qfx (i:=10+x / 12%26) (by lia) (by lia);refine ⟨_,zr,_,_,zr,zr,⟨by decide,by decide⟩,?_⟩;refine ⟨_,rfl,_,rfl,_,_,rfl,rfl,(by show (0:Int) < 26;decide),_,_,rfl,rfl,_,_,_,rfl,rfl,qms,O,?_⟩;refine ⟨_,zr,_,_,zr,zr,⟨by decide,by decide⟩,?_⟩;refine ⟨_,rfl,_,_,rfl,rfl,(by show (0:Int) < 12;decide),_,rfl,by lia,by lia,q8v (lo:=0) (n:=(x%12).toNat) (λ i σ H'=>H'=H/\∃ J:Option V,σ=[some (.int x),some (.str lat),some (.int (wdR x i)),some (.str (wdS x i)),J]) ⟨rfl,none,rfl⟩ ?_ ?_⟩
  ·rintro i σ H' hi ⟨rfl,J,rfl⟩;have c0:0<=wdR x i%36:=z3a _ (by decide);have c1:wdR x i%36 < 36:=z1w _ (by decide);obtain ⟨O,l2⟩:=qfx c0 c1;refine ⟨_,rfl,_,rfl,_,rfl,_,_,rfl,rfl,(by show (0:Int) < 36;decide),_,_,_,rfl,rfl,qms,O,_,_,rfl,rfl,?_,?_⟩
   ·rw [(qfy x i).1];exact z41 (Nat.add_le_add_left (qyv _) _) (z41 (show i+1+1<=1000 by lia) (by decide))
   ·exact ⟨_,zr,_,_,zr,zr,⟨by decide,by decide⟩,zr,_,zr⟩
  ·rintro σ H' ⟨rfl,J,rfl⟩;exact ⟨_,zr,k⟩
def qwg {x y:Int} (h:x%12≠y%12):q3h x≠q3h y:=λ e=>by
 have a:=qcd x;have b:=qcd y;rw [e] at a
 lia
def qtt {x:Int} {ws:xD}:∀ t:Nat,t<=12 ->(∀ j:Nat,j < t ->q3h (x+j)∈ws) ->t<=ws.length:=λ t ht h=>by
 have nd:((List.range t).map λ (j:Nat)=>q3h (x+j)).Nodup:=by
  refine List.pairwise_map.mpr (List.Pairwise.imp_of_mem ?_ (List.nodup_range (n:=t)));intro a b J O hab;have J:=z3d.mp J;have O:=z3d.mp O;exact qwg (by lia)
 have:=q5u nd (v:=ws) λ w hw=>by
  obtain ⟨j,hj,rfl⟩:=z45.mp hw;exact h j (z3d.mp hj)
 rw [z30,z29] at this;exact this
def qzz:Sp:=λ vs H Q _=>∃ c m:Int,vs=[.int c,.int m]/\0<=m/\m<=7/\∀ p (ws:xD) H',Same H H' ->H p=none ->H' p=some (.lst (ws.map V.str)) ->ws.length=m.toNat ->ws.Nodup ->(∀ z∈ws,txtB small z=true/\Wz 12 z/\1<=z.length) ->Q (.ref p) H'
def qjs (T:Txt K mg):Def P w K mg base 2 "_law_words" ["_law_cell","_law_many"] qzz:=by
 refine T.qnc.ok q52 (λ vs H Q E h=> ?_) λ f cdv A outer s H vs Q E hr h=> ?_
 ·obtain ⟨c,m,rfl,_⟩:=h;rfl
 ·obtain ⟨c,m,rfl,m0,m1,k⟩:=h;refine ⟨_,(q2p
   (qt (i:=2) q52.nd rfl (Or.inl rfl) (q24 q2g))
   (q1i PassesOwn.never rfl (q1a K (qy (q51 T) hr rfl (pa_2 (pv 0) (pv 1)))) (qr (i:=3) q52.nd rfl (Or.inl rfl)) (q2x
   (ql3 PassesOwn.never (q13 (q10t K) (qy (qce T) hr rfl (pa_1 (pv 3))) (pv 2) (by with_unfolding_all rfl)) (qg (qt (i:=3) q52.nd rfl (Or.inl rfl) (qm q1l (pv 3) qd))))
   (q2s (q7s z0l z0g z0h q6x (pv 2) (pa_1 (qy (qce T) hr rfl (pa_1 (pv 3))))))))
   (qk (pv 2))),?_⟩
  refine ⟨by decide,λ q hq=> ?_⟩;have s0:=qf (o:=HO.lst []) hq;refine ⟨_,zr,_,zr,c,m,zr,m0,by lia,λ p H1 s1 Z hp=> ?_⟩;have sq:H1 q=some (.lst []):=s1 _ _ qb;have a1:q≠p:=λ e=>by rw [e,qb] at Z;cases Z
  refine ⟨p,rfl,⟨_,SqL.of hp⟩,q29 (xs:=(rowF c m).map V.int) (λ i σ G=>∃ (v:Option V) (ws:xD),σ=[some (.int c),some (.int m),some (.ref q),v]/\Same H G/\G p=some (.lst ((rowF c m).map V.int))/\G q=some (.lst (ws.map V.str))/\ws.length=i/\ws.Nodup/\∀ z∈ws,txtB small z=true/\Wz 12 z/\1<=z.length)
   ⟨none,[],rfl,s0.trans s1,hp,sq,rfl,z3g,λ _ z=>nomatch z⟩ (λ i σ G _ z=>by obtain ⟨_,_,_,_,z,_⟩:=z;exact SqL.of z) ?_ ?_⟩
  ·rintro i x σ G hx ⟨v,ws,rfl,sg,gp,O,wl,nd,hw⟩;have il:i < (rowF c m).length:=by
    have:=(z07.mp hx).1;rw [z30] at this;exact this
   rw [q6m m0] at il;rw [z22] at hx;obtain ⟨n,hni,rfl⟩:=z0q.mp hx;refine ⟨λ d σ F=>∃ t:Nat,d=ws.length - t/\t<=ws.length/\σ=[some (.int c),some (.int m),some (.ref q),some (.int (n+t))]/\F=G/\∀ j:Nat,j < t ->q3h (n+j)∈ws,⟨_,0,rfl,z4b _,by show _=[_,_,_,some (V.int (n+0))];rw [Int.add_zero];rfl,rfl,λ j z=>absurd z (Nat.not_lt_zero _)⟩,?_⟩;rintro d σ F ⟨t,rfl,ht,rfl,rfl,hj⟩;refine ⟨_,zr,n+t,zr,_,zr,q,_,zr,.inl (SqL.of O),zr,qin ws,_,zr,?_⟩;show if inV (V.str (q3h (n+t))) (ws.map V.str)=true then _ else _
   rw [qmb];refine ite2 (λ h1=> ?_) (λ h1=> ?_)
   ·have J:q3h (n+t)∈ws:=by simpa using h1
    have a2:t+1<=ws.length:=qtt (x:=n) (t+1) (by lia) λ j a0=>by
     by_cases e:j < t
     ·exact hj j e
     ·rw [show j=t by lia];exact J
    refine ⟨λ σ' H'=>∃ t':Nat,t'=t+1/\σ'=[some (.int c),some (.int m),some (.ref q),some (.int (n+t'))]/\H'=F,?_,?_⟩
    ·rintro σ' H' ⟨t',rfl,rfl,rfl⟩;refine ⟨ws.length - (t+1),by lia,t+1,zr,a2,zr,zr,λ j a0=> ?_⟩;by_cases e:j < t
     ·exact hj j e
     ·rw [show j=t by lia];exact J
    ·exact ⟨_,rfl,_,_,rfl,rfl,t+1,rfl,by rw [show n+((t+1:Nat):Int)=n+t+1 by lia];rfl,rfl⟩
   ·have J:q3h (n+t)∉ws:=by simpa using h1
    have a3:=qts (n+t);refine ⟨_,rfl,.inl ⟨rfl,_,SqL.of O⟩,_,rfl,n+t,rfl,_,_,_,rfl,rfl,O,by rw [z30,wl];exact q1p (by lia),?_⟩;refine ⟨_,ws++ [q3h (n+t)],rfl,sg.set hq,by rw [qh a1.symm];exact gp,by rw [qb,z36];rfl,by rw [z1o,wl];rfl,?_,λ z hz=> ?_⟩
    ·rw [z2d];refine ⟨nd,by simp,λ a ha b hb e=> ?_⟩;rw [z1m.mp hb] at e;exact J (by rw [<- e];exact ha)
    ·rcases z2u.mp hz with hz | hz
     ·exact hw z hz
     ·rw [z1m.mp hz];exact a3
  ·rintro σ G ⟨v,ws,rfl,sg,gp,O,wl,nd,hw⟩;rw [z30,q6m m0] at wl;exact ⟨_,zr,k q ws G sg hq O wl nd hw⟩
def W6 (ws:xD) (W:Tab):Prop:=Rise W/\Bd 6 3 (10^24) W/\∀ p∈W,1<=p.2/\Asc p.1/\∀ z∈p.1,z∈ws
def W6.bw {ws:xD} {W:Tab} (h:W6 ws W):BW W:=h.2.1.le (by decide) (by decide) (by decide)
def rng5:∀ n:Nat,n < 7 ->Builtin.Range.small 0 ((5*n:Nat):Int) 5=true/\0<=Builtin.Range.rangeSize 0 ((5*n:Nat):Int) 5/\cnt3 0 ((5*n:Nat):Int) 5=n:=by decide+kernel
def q100:Sp:=λ vs H Q _=>∃ (ra wa:Addr) (is:List Int) (ws:xD) (n:Nat),vs=[.ref ra,.ref wa]/\H ra=some (.lst (is.map V.int))/\is.length=5*n/\n<=6/\H wa=some (.lst (ws.map V.str))/\1<=ws.length/\(∀ z∈ws,PyData.strOk z=true)/\
 ∀ l W H',Same H H' ->H l=none ->WA H' l W ->W.length<=n ->W6 ws W ->Q (.ref l) H'
def q9s (T:Txt K mg):Def P w K mg base 1 "_law_why_by" ["_law_row_here","_law_words_here"] q100:=by
 refine T.qk7.ok q4s (λ vs H Q E h=> ?_) λ f cdv A outer s H vs Q E hr h=> ?_
 ·obtain ⟨ra,wa,is,ws,n,rfl,_⟩:=h;rfl
 ·obtain ⟨ra,wa,is,ws,nn,rfl,c4,f6,n6,f4,wl,hok,k⟩:=h;refine ⟨_,(q2p
   (qt (i:=2) q4s.nd rfl (Or.inr rfl) q9z)
   (q1i PassesOwn.never rfl (qsz rfl T.q7z (pa_3 qd (qp (q2r K) rfl T.b_len q3w (pa_1 (pv 0))) qd)) (qr (i:=3) q4s.nd rfl (Or.inl rfl)) (q2x
   (qt (i:=4) q4s.nd rfl (Or.inl rfl) (q2h (q6o K) rfl T.q9t q85 (pa_1 (qp (q86 K) rfl T.q2e q26 (pa_1 (q2b (N:=["_law_x","_law_words_here"]) (caps:=[none,some 1]) rfl (by with_unfolding_all rfl) (q1a K (q3p (q48 K) (pv 0) (q31 (qm q1l (pv 3) qd)) (q31 (qm q1l (qm q1l (pv 3) qd) (qm q1f (q1h (q16 K) (pv 0) (pv 3) (λ _ _=>rfl)) qd))))) (λ _ _ _ _ _=>(qr (i:=0) (show (["_law_x","_law_words_here"]:xD).Nodup by decide+kernel) rfl (Or.inl rfl))) (λ _ _ _ _ _=>q3v) (λ _ _ _ _ _=>(q1h (q16 K) (pv 1) (qm q1f (pv 0) (qp (q2r K) rfl T.b_len q3w (pa_1 (pv 1)))) (λ _ _=>rfl)))))))))
   (q5f (q2a hr) (pv 2) (pv 4) (qm q1l qd (qm q1f (qm q3y (q1h (q16 K) (pv 0) (qm q1l (pv 3) qd) (λ _ _=>rfl)) qd) (q1h (q16 K) (q24 (pa_2 qd (qm ql4 qd qd))) (qm q1f (q1h (q16 K) (pv 0) (qm q1l (pv 3) qd) (λ _ _=>rfl)) qd) (λ _ _=>rfl)))) rfl)))
   (qk (q2b (N:=["_law_product","_law_ways"]) (caps:=[none,some 2]) rfl (by with_unfolding_all rfl) (q1a K (qp (qbi hr.units rfl K) rfl T.q2e q26 (pa_1 (pv 2)))) (λ _ _ _ _ _=>(qr (i:=0) (show (["_law_product","_law_ways"]:xD).Nodup by decide+kernel) rfl (Or.inl rfl))) (λ _ _ _ _ _=>q3v) (λ _ _ _ _ _=>(q6w (pa_2 (pv 0) (q4p (q2a hr) (pv 1) (pv 0) (λ _ _=>rfl)))))))),?_⟩
  refine λ d hd=> ?_;have s1:=qf (o:=HO.dT []) hd;have c5:=s1 _ _ c4;obtain ⟨g1,g2,g3⟩:=rng5 nn (by lia);have el:((is.map V.int).length:Int)=((5*nn:Nat):Int):=by rw [z30,f6]
  refine ⟨_,rfl,_,_,rfl,.inl ⟨_,SqL.of c5,rfl⟩,_,_,_,rfl,⟨by decide,by decide⟩,by rw [el];exact g1,by rw [el];exact g2,?_⟩;rw [el,g3];refine qql (lo:=0) (c:=5) (n:=nn) (λ i σ G=>Same H G/\(∃ v1 v2,σ=[some (.ref ra),some (.ref wa),some (.ref d),v1,v2])/\∃ W:Tab,G d=some (encD W)/\(W.map (·.1)).Nodup/\W.length<=i/\∀ J∈W,1<=J.2/\Asc J.1/\J.1.length<=3/\(∀ z∈J.1,z∈ws)/\J.2<=10^24) ⟨s1,⟨_,_,rfl⟩,[],qb,z3g,z48 _,λ _ z=>nomatch z⟩ ?_ ?_
  ·rintro i σ G hi ⟨sg,⟨v1,v2,rfl⟩,W,hW,a1,b6,a7⟩;have hp:=sg _ _ c4;have d1:atI (is.map V.int) (0+(i:Int)*5)=some (V.int (is.getD (5*i) 0)):=by
    rw [show (0+(i:Int)*5)=((5*i:Nat):Int) by lia];exact q2t (by lia)
   have a9:atI (is.map V.int) (0+(i:Int)*5+4)=some (V.int (is.getD (5*i+4) 0)):=by
    rw [show (0+(i:Int)*5+4)=((5*i+4:Nat):Int) by lia];exact q2t (by lia)
   refine ⟨_,rfl,_,rfl,_,_,rfl,rfl,_,rfl,_,rfl,_,_,rfl,rfl,_,rfl,_,rfl,_,_,_,_,rfl,rfl,SqL.of hp,d1,_,_,rfl,rfl,(by show (0:Int) < 4;decide),_,_,rfl,rfl,_,rfl,_,_,rfl,SqL.of hp,λ q hq=> ?_⟩;obtain ⟨ms,em,lm⟩:∃ ms:List Int,cutV (is.map V.int) (some (0+(i:Int)*5+1)) (some (0+(i:Int)*5+1+is.getD (5*i) 0%4))=ms.map V.int/\ms.length<=3:=by
    refine ⟨_,qxd is _ _,?_⟩;have h0:0<=is.getD (5*i) 0%4:=z3a _ (by decide);have h1:is.getD (5*i) 0%4 < 4:=z1w _ (by decide);obtain ⟨r,hr⟩:=z0m h0;rw [hr,show (0+(i:Int)*5+1)=((5*i+1:Nat):Int) by lia,show ((5*i+1:Nat):Int)+(r:Int)=((5*i+1+r:Nat):Int) by lia];exact z41 (qzm is (5*i+1) (5*i+1+r)) (by lia)
   rw [em];have t2:=qf (o:=HO.lst (ms.map V.int)) hq;refine ⟨q,zr,⟨_,SqL.of qb⟩,λ D hD=> ?_⟩;have t3:=qf (o:=HO.lst []) hD;refine q20 (ms.map V.int).length (λ i σ' H'=>(∃ v,σ'=[v,some (.ref wa)])/\Same (upd G q (.lst (ms.map V.int))) H'/\∃ ys:List Str,H' D=some (.lst (ys.map V.str))/\ys.length=i/\∀ y∈ys,y∈ws) ⟨⟨_,rfl⟩,t3,[],qb,rfl,λ _ z=>nomatch z⟩ (λ i σ' H' hi p=> ?_) (λ σ' H' p=>⟨?_,?_⟩) (λ i σ' H' hi p x H2 y=> ?_)
   ·obtain ⟨_,O,_⟩:=p;exact ⟨_,(ms.map V.int)[i],SqL.of (O _ _ qb),z0d hi⟩
   ·obtain ⟨_,O,_⟩:=p;exact ⟨_,SqL.of (O _ _ qb),z48 _⟩
   ·obtain ⟨_,O,ys,e,yl,hy⟩:=p;rw [z30] at yl;refine ⟨_,ys,zr,.inl (SqL.of e),λ l d7=> ?_⟩;have u1:=qf (o:=HO.lst ((Tim.srt ql ys).map V.str)) d7;refine ⟨_,_,zr,.inl ⟨SqL.of qb,λ t ht=> ?_⟩⟩;have u2:=qf (o:=HO.tup ((Tim.srt ql ys).map V.str)) ht;have uA:=t2.trans (O.trans (u1.trans u2));have c1:=uA _ _ hp;have d6:=uA _ _ hW;have f0:upd (upd H' l (.lst ((Tim.srt ql ys).map V.str))) t (.tup ((Tim.srt ql ys).map V.str)) t=some (.tup (((Tim.srt ql ys).map (Sum.inr:Str ->Key)).map kV)):=by
     rw [qb,q68]
    generalize upd (upd H' l (.lst ((Tim.srt ql ys).map V.str))) t (.tup ((Tim.srt ql ys).map V.str))=H6 at*;have d0:(Tim.srt ql ys).length=ys.length:=(Tim.qo ql _).length_eq;have c0:((encI W).map λ J=>(J.1.map (Sum.inr:Str ->Key),J.2)).length=W.length:=by rw [z30];unfold encI;rw [z30]
    refine ⟨_,rfl,_,rfl,_,_,rfl,rfl,_,_,_,_,rfl,rfl,SqL.of c1,a9,_,_,rfl,rfl,⟨by decide,by decide⟩,_,_,rfl,rfl,⟨by decide,by decide,by decide⟩,by show 2<=sizeLine;decide,λ L hL=> ?_⟩;have u3:=qf (o:=HO.lst [V.int 3,V.int (10^24)]) hL;obtain ⟨v,d4,hv⟩:=qsf (xs:=[V.int 3,V.int (10^24)]) (i:=is.getD (5*i+4) 0%2) (z3a _ (by decide)) (z1w _ (by decide));refine ⟨_,rfl,_,rfl,_,_,rfl,rfl,_,_,_,_,rfl,rfl,SqL.of (u3 _ _ c1),a9,_,_,rfl,rfl,(by show (0:Int) < 2;decide),_,_,_,v,rfl,rfl,SqL.of qb,d4,?_⟩;simp only [z3n,z2r,or_false] at hv;have fin:∀ n:Int,1<=n ->n<=10^24 ->(Same H (upd (upd H6 L (.lst [V.int 3,V.int (10^24)])) d (.dT (putK ((encI W).map λ J=>(J.1.map Sum.inr,J.2)) ((Tim.srt ql ys).map Sum.inr) (V.int n))))/\∃ W':Tab,upd (upd H6 L (.lst [V.int 3,V.int (10^24)])) d (.dT (putK ((encI W).map λ J=>(J.1.map Sum.inr,J.2)) ((Tim.srt ql ys).map Sum.inr) (V.int n))) d=some (encD W')/\(W'.map (·.1)).Nodup/\W'.length<=i+1/\∀ J∈W',1<=J.2/\Asc J.1/\J.1.length<=3/\(∀ z∈J.1,z∈ws)/\J.2<=10^24):=λ n d9 e0=>by
     refine ⟨(sg.trans (uA.trans u3)).set hd,putA W (Tim.srt ql ys) n,by rw [qb,qlx];rfl,qt0 a1 _ _,z41 (qow _ _ _) (z2q b6),λ J a8=> ?_⟩;rcases qvg a8 with h | h
     ·exact a7 J h
     ·rw [h];exact ⟨d9,Tim.q1v q1n _,by rw [d0];lia,λ z hz=>hy z ((Tim.qo ql _).mem_iff.mp hz),e0⟩
    have b8:=u3 _ _ d6;have c6:=u3 _ _ f0;have c9:((encI W).map λ J=>(J.1.map (Sum.inr:Str ->Key),J.2)).length < sizeLine:=by rw [c0];exact q1p (by lia)
    rcases hv with rfl | rfl
    ·have h0:0<=is.getD (5*i+4) 0 / 2%3:=z3a _ (by decide);have h1:is.getD (5*i+4) 0 / 2%3 < 3:=z1w _ (by decide);refine ⟨_,_,rfl,rfl,(by show (0:Int) < 3;decide),_,_,rfl,rfl,_,rfl,_,rfl,d,_,rfl,DPut.t b8 c6 c9,?_⟩;obtain ⟨f1,f2⟩:=fin (1+is.getD (5*i+4) 0 / 2%3) (by lia) (by lia);exact ⟨f1,⟨_,_,zr⟩,f2⟩
    ·have h0:0<=is.getD (5*i+4) 0 / 2%10^24:=z3a _ (by decide);have h1:is.getD (5*i+4) 0 / 2%10^24 < 10^24:=z1w _ (by decide);refine ⟨_,_,rfl,rfl,(by show (0:Int) < 10^24;decide),_,_,rfl,rfl,_,rfl,_,rfl,d,_,rfl,DPut.t b8 c6 c9,?_⟩;obtain ⟨f1,f2⟩:=fin (1+is.getD (5*i+4) 0 / 2%10^24) (by lia) (by lia);exact ⟨f1,⟨_,_,zr⟩,f2⟩
   ·obtain ⟨⟨v,rfl⟩,O,ys,e,yl,hy⟩:=p;obtain ⟨rfl,hx⟩:=y;have a3:=hx _ (SqL.of (O _ _ qb));rw [z22] at a3;obtain ⟨n,e4,rfl⟩:=z0q.mp a3;have c7:=O _ _ (t2 _ _ (sg _ _ f4));have wp:(0:Int) < ((ws.map V.str).length:Int):=by rw [z30];lia
    have e8:=z3a n (show ((ws.map V.str).length:Int)≠0 by lia);have e9:=z1w n wp;obtain ⟨v2,f3,d8⟩:=qsf (xs:=ws.map V.str) (i:=n%((ws.map V.str).length:Int)) e8 e9;obtain ⟨z,hz,rfl⟩:=z45.mp d8;refine ⟨_,zr,_,zr,_,zr,_,_,zr,.inl ⟨_,SqL.of c7,zr⟩,_,_,zr,zr,wp,_,_,_,_,zr,zr,SqL.of c7,f3,?_⟩;have il:i < ms.length:=(z07.mp e4).1;refine ⟨_,e,by rw [z30,yl];exact q1p (by lia),⟨_,rfl⟩,O.set hD,ys++ [z],by rw [qb,z36];rfl,by rw [z1o,yl];rfl,λ y f5=> ?_⟩;rcases z2u.mp f5 with h | h
    ·exact hy y h
    ·rw [z1m.mp h];exact hz
  ·rintro σ G ⟨sg,⟨v1,v2,rfl⟩,W,hW,a1,b6,a7⟩;refine ⟨_,zr,d,encI W,zr,hW,λ l zs hl hz=> ?_⟩;have ek:(encI W).map (·.1)=W.map (·.1):=by unfold encI;rw [z47];rfl
   rw [ek] at hz;have u1:=qf (o:=HO.lst zs) hl;refine ⟨l,zr,⟨_,SqL.of qb⟩,λ D2 a6=> ?_⟩;have e5:zs.length=(Tim.srt qz (W.map (·.1))).length:=Paired.length hz;have a4:G D2=none:=u1.free a6;have d2:(Tim.srt qz (W.map (·.1))).length=W.length:=by
    rw [(Tim.qo qz _).length_eq,z30]
   have a0:∀ p∈Tim.srt qz (W.map (·.1)),p∈W.map (·.1):=λ p hp=>(Tim.qo qz _).mem_iff.mp hp;have d3:(Tim.srt qz (W.map (·.1))).Pairwise λ a b=>qz a b=true:=qby q2c (Tim.q1v q2c _) ((Tim.qo qz _).nodup_iff.mpr a1);generalize Tim.srt qz (W.map (·.1))=S at*;refine q20 zs.length (λ i σ' H'=>(∃ v,σ'=[v,some (.ref d)])/\Same (upd G l (.lst zs)) H'/\∃ ys,H' D2=some (.lst ys)/\(∀ H2,KeepT H' H2 ->Paired (PlAt H2) ys ((S.take i).map λ k=>(k,(getA W k).getD 0)))/\ys.length=i) ⟨⟨_,zr⟩,qf a6,[],qb,λ _ _=> .nil,zr⟩ (λ i σ' H' hi p=> ?_) (λ σ' H' p=>⟨?_,?_⟩) (λ i σ' H' hi p x H2 y=> ?_)
   ·obtain ⟨_,O,_⟩:=p;exact ⟨_,zs[i],SqL.of (O _ _ qb),z0d hi⟩
   ·obtain ⟨_,O,_⟩:=p;exact ⟨_,SqL.of (O _ _ qb),z48 _⟩
   ·obtain ⟨_,O,ys,e,c8,yl⟩:=p;rw [e5,z2t] at c8;have Z:∀ J∈S.map λ k=>(k,(getA W k).getD 0),1<=J.2/\Asc J.1/\J.1.length<=3/\(∀ z∈J.1,z∈ws)/\J.2<=10^24:=λ J a8=>by
     obtain ⟨pr,a2,rfl⟩:=z45.mp a8;obtain ⟨n,hn,a5⟩:=qea a1 (a0 pr a2);have:=a7 _ a5;rw [hn];exact this
    have w5:W6 ws (S.map λ k=>(k,(getA W k).getD 0)):=by
     refine ⟨?_,⟨by rw [z30];lia,λ p hp=> ?_⟩,λ p hp=>⟨(Z p hp).1,(Z p hp).2.1,(Z p hp).2.2.2.1⟩⟩
     ·unfold Rise;rw [z47];exact (z4c S).symm ▸ d3
     ·obtain ⟨b1,b2,b3,b4,b5⟩:=Z p hp;exact ⟨λ x hx=>hok x (b4 x hx),b3,by lia,b5⟩
    exact k D2 _ H' (sg.trans (u1.trans O)) (sg.free a4) ⟨ys,e,c8 H' (λ _ _ z=>z),w5.bw⟩ (by rw [z30];lia) w5
   ·obtain ⟨⟨v,rfl⟩,O,ys,e2,e7,yl⟩:=p;obtain ⟨rfl,hx⟩:=y;have a3:=hx _ (SqL.of (O _ _ qb));obtain ⟨pr,a2,b,rfl,hb⟩:=q2f hz a3;obtain ⟨n,hn,a5⟩:=qea a1 (a0 pr (z18 a2));have b7:=O _ _ (u1 _ _ hb);have b9:DGet H2 d (.ref b) (some (.int n)):=by
     have e1:(some (V.int n))=valV ((encI W).map λ J=>(J.1.map (Sum.inr:Str ->Key),J.2)) (pr.map Sum.inr):=by rw [qe8,hn];rfl
     rw [e1];exact DGet.t (O _ _ (u1 _ _ hW)) (by rw [q68];exact b7)
    refine ⟨_,rfl,_,rfl,_,rfl,d,_,rfl,b9,by show 2<=sizeLine;decide,λ q hq=> ?_⟩;have u3:=qf (o:=HO.tup [.ref b,.int n]) hq;have e6:q≠D2:=λ z=>by
     rw [z,e2] at hq;cases hq
    have d5:b≠D2:=λ z=>by
     rw [z,a4] at hb;cases hb
    refine ⟨_,u3 _ _ e2,by rw [yl];exact q1p (by lia),⟨_,rfl⟩,(O.trans u3).set a6,ys++ [.ref q],qb,λ H5 h5=> ?_,by rw [z1o,yl];rfl⟩;rw [z3h,a2,z36];refine q97 (e7 H5 (((Same.keepT u3).upd (u3 _ _ e2)).trans h5)) ⟨q,b,rfl,h5 q _ ?_,h5 b _ (by rw [qh d5];exact u3 _ _ b7)⟩;rw [qh e6,qb];show some (HO.tup [V.ref b,V.int n])=some (HO.tup [V.ref b,V.int ((getA W pr).getD 0)]);rw [hn];rfl
def pw2 (k:Nat):Int:=[1,2,4,8].getD k 1
def bitB (x:Int) (k:Nat):Bool:=decide (V.int (x / pw2 k%2)=V.int 1)
def bitN (ws:xD) (x:Int) (n:Nat):List Str:=((List.range n).filter (bitB x)).map λ k=>ws.getD k endW
def bitW (ws:xD) (x:Int):List Str:=bitN ws x ws.length
def q121:∀ k:Nat,k < 4 ->atI [V.int 1,V.int 2,V.int 4,V.int 8] (0+(k:Int))=some (V.int (pw2 k))/\0 < pw2 k/\pw2 k < 1073741824
 | 0,_=>⟨q40 (j:=0) rfl,by decide,by decide⟩
 | 1,_=>⟨q40 (j:=1) rfl,by decide,by decide⟩
 | 2,_=>⟨q40 (j:=2) rfl,by decide,by decide⟩
 | 3,_=>⟨q40 (j:=3) rfl,by decide,by decide⟩
 | n+4,h=>absurd h (by lia)
def qtu (ws:xD):(List.range ws.length).map (λ k=>ws.getD k endW)=ws:=by
 refine List.ext_getElem (by rw [z30,z29]) λ i h1 h2=> ?_;rw [List.getElem_map,List.getElem_range,z06,z0d h2];rfl
def qmt (ws:xD) (x:Int):(bitW ws x).Sublist ws:=by
 have h:=List.Sublist.map (λ k=>ws.getD k endW) (List.filter_sublist (p:=bitB x) (l:=List.range ws.length));rw [qtu] at h;exact h
def qiv (ws:xD) (x:Int) (n:Nat):bitN ws x (n+1)=bitN ws x n++if bitB x n=true then [ws.getD n endW] else []:=by
 unfold bitN;rw [z35,z1u,z36]
 congr 1
 rw [z2j,List.filter_nil];split <;> rfl
def qwh (ws:xD) (x:Int) (n:Nat):(bitN ws x n).length<=n:=by
 unfold bitN;rw [z30];exact z41 (z10 _ _) (Nat.le_of_eq z29)
def q122:Sp:=λ vs H Q _=>∃ (ca wa:Addr) (cs:List Int) (ws:xD) (n:Nat),vs=[.ref ca,.ref wa]/\H ca=some (.lst (cs.map V.int))/\cs.length<=100/\H wa=some (.lst (ws.map V.str))/\n<=10/\ws.length<=n/\ws.length<=4/\ws.Nodup/\endW∉ws/\
 ∀ p zs (R:xF) H',Same H H' ->H p=none ->H' p=some (.lst zs) ->q1x H' zs R ->Acc R ->Of n ws R ->R.length<=cs.length ->(∀ x,Up R x↔Up (cs.map (bitW ws)) x) ->Q (.ref p) H'
def qhm (T:Txt K mg):Def P w K mg base 2 "_law_accord" ["_law_row_here","_law_words_here"] q122:=by
  refine T.qjx.ok q3i (λ vs H Q E h=> ?_) λ f cdv A outer s H vs Q E hr h=> ?_
  · obtain ⟨ca,wa,cs,ws,nn,rfl,_⟩:=h
    rfl
  · obtain ⟨ca,wa,cs,ws,nn,rfl,b9,cl,d1,c4,d3,wl4,d4,d5,k⟩:=h
    refine ⟨_,(q2p
      (qt (i:=2) q3i.nd rfl (Or.inl rfl) (q24 q2g))
      (q1i PassesOwn.never rfl (q1a K (pv 0)) (qr (i:=3) q3i.nd rfl (Or.inr rfl)) (q2x
      (qt (i:=4) q3i.nd rfl (Or.inr rfl) (q2h (q6o K) rfl T.q9t q85 (pa_1 (qp (q86 K) rfl T.q2e q26 (pa_1 (q2b (N:=["_law_k","_law_words_here","_law_x"]) (caps:=[none,some 1,some 3]) rfl (by with_unfolding_all rfl) (q6v rfl T.q7z (pa_1 (qp (q2r K) rfl T.b_len q3w (pa_1 (pv 1))))) (λ _ _ _ _ _=>(qr (i:=0) (show (["_law_k","_law_words_here","_law_x"]:xD).Nodup by decide+kernel) rfl (Or.inl rfl))) (λ _ _ _ _ _=>q9h (q13 q28 (qm q1f (qm q3y (pv 2) (q1h (q16 K) (q24 (pa_4 qd qd qd qd)) (pv 0) (λ _ _=>rfl))) qd) qd (q14 _))) (λ _ _ _ _ _=>(q1h (q16 K) (pv 1) (pv 0) (λ _ _=>rfl)))))))))
      (q1g (q5j (q6t (qp (qsj rfl K) rfl T.b_any q10v (pa_1 (q2b (N:=["_law_old","_law_one"]) (caps:=[none,some 4]) rfl (by with_unfolding_all rfl) (q1a K (pv 2)) (λ _ _ _ _ _=>(qr (i:=0) (show (["_law_old","_law_one"]:xD).Nodup by decide+kernel) rfl (Or.inl rfl))) (λ _ _ _ _ _=>q3v) (λ _ _ _ _ _=>(qy (q9m T) hr rfl (pa_2 (pv 0) (pv 1))))))))) (qg (qt (i:=2) q3i.nd rfl (Or.inl rfl) (qm qld (q2b (N:=["_law_old","_law_one"]) (caps:=[none,some 4]) rfl (by with_unfolding_all rfl) (q1a K (pv 2)) (λ _ _ _ _ _=>(qr (i:=0) (show (["_law_old","_law_one"]:xD).Nodup by decide+kernel) rfl (Or.inl rfl))) (λ _ _ _ _ _=>q9h (q5j (q6t (qy (q9m T) hr rfl (pa_2 (pv 1) (pv 0)))))) (λ _ _ _ _ _=>(pv 0))) (q24 (pa_1 (pv 4)))))) q18)))
      (qk (qp (qay hr.units K) rfl T.q2e q26 (pa_1 (pv 2))))),?_⟩
    refine ⟨by show 0<=sizeLine;decide,λ k0 c8=> ?_⟩;have s0:=qf (o:=HO.lst []) c8;refine ⟨_,rfl,ca,rfl,⟨_,SqL.of (s0 _ _ b9)⟩,q29 (xs:=cs.map V.int) (λ i σ H'=>∃ (v1 v2:Option V) (kq:Addr) (zs:List V) (J:xF),σ=[some (.ref ca),some (.ref wa),some (.ref kq),v1,v2]/\Same H H'/\H' kq=some (.lst zs)/\q1x H' zs J/\J.length<=i/\(∀ r∈J,Norm r/\∀ x∈r,x∈ws)/\(∀ r∈J,∀ q∈J,(∀ x∈r,x∈q) ->r=q)/\J.Nodup/\∀ x,Up J x↔Up ((cs.take i).map (bitW ws)) x)
      ⟨none,none,k0,[],[],rfl,s0,qb,.nil,z48 _,(λ _ z=>nomatch z),(λ _ z=>nomatch z),z3g,λ _=>Iff.rfl⟩ (λ i σ H' _ z=>by obtain ⟨_,_,_,_,_,_,z,_⟩:=z;exact SqL.of (z _ _ b9)) ?_ ?_⟩
    · rintro i x σ H0 hx ⟨v1,v2,kq,zs,J,rfl,s1,ek,hz,lk,hN,a3,b4,a8⟩
      rw [z22] at hx;obtain ⟨c,c0,rfl⟩:=z0q.mp hx;have icl:i < cs.length:=(z07.mp c0).1;have lzk:=Paired.length hz;have a9:(cs.take (i+1)).map (bitW ws)=(cs.take i).map (bitW ws)++ [bitW ws c]:=by rw [z3h,c0,z36];rfl
      have c1:=s1 _ _ d1;have d2:((ws.map V.str).length:Int).toNat=ws.length:=by rw [z30];lia
      refine ⟨_,rfl,_,_,rfl,.inl ⟨_,SqL.of c1,rfl⟩,_,rfl,by lia,by rw [z30];lia,λ D hD=> ?_⟩;rw [d2];refine q20 ws.length (λ j σ' G=>(∃ v,σ'=[v,some (.ref wa),some (.int c)])/\Same H0 G/\G D=some (.lst ((bitN ws c j).map V.str))) ⟨⟨_,zr⟩,qf hD,qb⟩ (λ j σ' G hj p=>hj) (λ σ' G p=>⟨z48 _,?_⟩) (λ j σ' G hj p x H2 y=> ?_)
      · obtain ⟨_,Z,eD⟩:=p
        have eD:G D=some (.lst ((bitW ws c).map V.str)):=eD;refine ⟨D,bitW ws c,zr,.inl (SqL.of eD),λ e2 c5=> ?_⟩;have u2:=qf (o:=HO.lst ((Tim.srt ql (bitW ws c)).map V.str)) c5;refine ⟨_,_,zr,.inl ⟨SqL.of qb,λ t ht=> ?_⟩⟩;have u3:=qf (o:=HO.tup ((Tim.srt ql (bitW ws c)).map V.str)) ht;have uA:=u2.trans u3;have et:=qb (H:=upd G e2 (.lst ((Tim.srt ql (bitW ws c)).map V.str))) (a:=t) (o:=HO.tup ((Tim.srt ql (bitW ws c)).map V.str));have sub:=qmt ws c;have nu:Norm (Tim.srt ql (bitW ws c)):=q5h q1n (Tim.q1v q1n _) ((Tim.qo ql _).nodup_iff.mpr (d4.sublist sub));have wu:∀ x∈Tim.srt ql (bitW ws c),x∈ws:=λ x hx=>sub.subset ((Tim.qo ql _).mem_iff.mp hx);have hU:∀ x:List Str,(∀ w∈Tim.srt ql (bitW ws c),w∈x)↔∀ w∈bitW ws c,w∈x:=λ x=>Iff.of_eq (forall_congr λ w=>by rw [(Tim.qo ql _).mem_iff]);have sB:=Z.trans uA;have a1:=sB _ _ ek;have a4:q1x (upd (upd G e2 (.lst ((Tim.srt ql (bitW ws c)).map V.str))) t (.tup ((Tim.srt ql (bitW ws c)).map V.str))) zs J:=q1q (λ b ys z=>sB b _ z) hz;generalize upd (upd G e2 (.lst ((Tim.srt ql (bitW ws c)).map V.str))) t (.tup ((Tim.srt ql (bitW ws c)).map V.str))=G1 at*;generalize Tim.srt ql (bitW ws c)=u at*;refine ⟨_,zr,kq,zr,⟨_,SqL.of a1⟩,λ D hD=> ?_⟩;refine q20 zs.length (λ j σ' H'=>(∃ v,σ'=[v,some (.ref t)])/\Same G1 H'/\H' D=some (.lst (((J.take j).map λ r=>decide (∀ x∈r,x∈u)).map V.bl))) ⟨⟨_,zr⟩,qf hD,qb⟩ (λ j σ' H' hj p=> ?_) (λ σ' H' p=>⟨?_,?_⟩) (λ j σ' H' hj p x H3 y=> ?_)
        · obtain ⟨_,Z,_⟩:=p
          exact ⟨_,zs[j],SqL.of (Z _ _ a1),z0d hj⟩
        · obtain ⟨_,Z,_⟩:=p
          exact ⟨_,SqL.of (Z _ _ a1),z48 _⟩
        · obtain ⟨_,Z,eD⟩:=p
          rw [Paired.length a4,z2t] at eD;refine ⟨D,J.map λ r=>decide (∀ x∈r,x∈u),zr,SqL.of eD,_,zr,ite2 (λ h1=> ?_) (λ h1=> ?_)⟩
          · have no:∀ r∈J,¬ ∀ x∈r,x∈u:=λ r hr z=>by
              have:((J.map λ r=>decide (∀ x∈r,x∈u)).any id)=true:=z2p.mpr ⟨true,z45.mpr ⟨r,hr,z3c z⟩,rfl⟩;rw [this] at h1;cases h1
            have a6:=Z _ _ a1;have b7:=Z _ _ et;have a5:q1x H' zs J:=q1q (λ b ys z=>Z b _ z) a4;refine ⟨_,zr,kq,zr,⟨_,SqL.of a6⟩,λ D2 b8=> ?_⟩;refine q20 zs.length (λ j σ' G2=>(∃ v,σ'=[v,some (.ref t)])/\Same H' G2/\∃ qs,G2 D2=some (.lst qs)/\q1x H' qs ((J.take j).filter λ r=> !decide (∀ x∈u,x∈r))/\qs.length<=j) ⟨⟨_,rfl⟩,qf b8,[],qb,.nil,z48 _⟩ (λ j σ' G2 hj p=> ?_) (λ σ' G2 p=>⟨?_,?_⟩) (λ j σ' G2 hj p x G3 y=> ?_)
            · obtain ⟨_,O,_⟩:=p
              exact ⟨_,zs[j],SqL.of (O _ _ a6),z0d hj⟩
            · obtain ⟨_,O,_⟩:=p
              exact ⟨_,SqL.of (O _ _ a6),z48 _⟩
            · obtain ⟨_,O,qs,b2,hq,lq⟩:=p
              rw [Paired.length a5,z2t] at hq;rw [Paired.length a5] at lq;refine ⟨_,rfl,by show 1<=sizeLine;decide,λ e3 c6=> ?_⟩;have u4:=qf (o:=HO.lst [.ref t]) c6;refine ⟨D2,e3,_,_,rfl,rfl,u4 _ _ b2,qb,z3y (q15 (by show _+1 < _;lia)),λ pk c9=> ?_⟩;have u5:=qf (o:=HO.lst (qs++ [.ref t])) c9;have sC:=O.trans (u4.trans u5);refine ⟨_,_,pk,_,J.filter (λ r=> !decide (∀ x∈u,x∈r))++ [u],rfl,s1.trans (sB.trans (Z.trans sC)),qb,q1r (q1q (λ b ys z=>sC b _ z) hq) (.cons ⟨t,rfl,sC _ _ b7⟩ .nil),?_,λ r hr=> ?_,λ r hr q a0 h=> ?_,?_,by rw [a9];exact q11q a8 hU⟩
              · have:=z10 (λ r=> !decide (∀ x∈u,x∈r)) J
                rw [z1o];show _+1<=_
                lia
              · rcases z2u.mp hr with hr | hr
                · exact hN r (z2x.mp hr).1
                · rw [z1m.mp hr]
                  exact ⟨nu,wu⟩
              · rcases z2u.mp hr with hr | hr
                · rcases z2u.mp a0 with a0 | a0
                  · exact a3 r (z2x.mp hr).1 q (z2x.mp a0).1 h
                  · rw [z1m.mp a0] at h
                    exact absurd h (no r (z2x.mp hr).1)
                · rcases z2u.mp a0 with a0 | a0
                  · rw [z1m.mp hr] at h
                    have:=(z2x.mp a0).2;rw [z3c h] at this;cases this
                  · rw [z1m.mp hr,z1m.mp a0]
              · rw [z2d]
                refine ⟨b4.filter _,by simp,λ x hx y hy e=> ?_⟩;rw [z1m.mp hy] at e;exact no x (z2x.mp hx).1 (by rw [e];exact λ _ z=>z)
            · obtain ⟨⟨v,rfl⟩,O,qs,b2,hq,lq⟩:=p
              obtain ⟨rfl,b6⟩:=y;have b5:=b6 _ (SqL.of (O _ _ a6));obtain ⟨r,br,hr,rfl,b3⟩:=q4i a5 b5;have a7:(J.take (j+1)).filter (λ r=> !decide (∀ x∈u,x∈r))=(J.take j).filter (λ r=> !decide (∀ x∈u,x∈r))++(if (!decide (∀ x∈u,x∈r))=true then [r] else []):=by
                rw [z3h,hr,z1u]
                congr 1
                show List.filter _ [r]=_;rw [z2j,List.filter_nil]
              refine ⟨_,zr,_,zr,t,br,u,r,zr,O _ _ b7,O _ _ b3,_,zr,ite2 (λ h2=> ?_) (λ h2=> ?_)⟩
              · refine ⟨_,rfl,_,b2,q15 (by have:=Paired.length a5;lia),⟨_,rfl⟩,O.set b8,_,qb,?_,by rw [z1o];show _+1<=_;lia⟩
                rw [a7,if_pos h2];exact q1r hq (.cons ⟨br,zr,b3⟩ .nil)
              · refine ⟨⟨_,zr⟩,O,qs,b2,?_,by lia⟩
                rw [a7,if_neg h2,z31];exact hq
          · exact ⟨_,_,kq,zs,J,zr,s1.trans (sB.trans Z),Z _ _ a1,q1q (λ b ys z=>Z b _ z) a4,by lia,hN,a3,b4,by
              rw [a9];refine q11r a8 hU ?_;have h2:((J.map λ r=>decide (∀ x∈r,x∈u)).any id)=true:=by
                cases z:((J.map λ r=>decide (∀ x∈r,x∈u)).any id) with
                | true=>rfl
                | false=>exact absurd (by rw [z];rfl) h1
              obtain ⟨b,hb,eb⟩:=z2p.mp h2;obtain ⟨r,hr,rfl⟩:=z45.mp hb;exact ⟨r,hr,of_decide_eq_true eb⟩⟩
        · obtain ⟨⟨v,rfl⟩,Z,eD⟩:=p
          obtain ⟨rfl,b6⟩:=y;have b5:=b6 _ (SqL.of (Z _ _ a1));obtain ⟨r,br,hr,rfl,b3⟩:=q4i a4 b5;refine ⟨_,zr,_,zr,br,t,r,u,zr,Z _ _ b3,Z _ _ et,_,eD,?_,⟨_,zr⟩,Z.set hD,?_⟩
          · rw [z30,z30,z2g]
            exact q15 (by lia)
          · rw [qb,z3h,hr,z36,z36]
            rfl
      · obtain ⟨⟨v,rfl⟩,Z,eD⟩:=p
        obtain ⟨rfl,rfl⟩:=y;obtain ⟨p1,p2,p3⟩:=q121 j (by lia);refine ⟨_,rfl,by show 4<=sizeLine;decide,λ L hL=> ?_⟩;have uL:=qf (o:=HO.lst [V.int 1,V.int 2,V.int 4,V.int 8]) hL;have bl:(bitN ws c j).length<=j:=qwh ws c j;refine ⟨_,rfl,_,_,_,_,rfl,rfl,SqL.of qb,p1,_,_,rfl,rfl,⟨p2,p3⟩,_,_,rfl,rfl,(by show (0:Int) < 2;decide),rfl,_,rfl,ite2 (λ h2=> ?_) (λ h2=> ?_)⟩
        · have hb:bitB c j=true:=h2
          have c7:atI (ws.map V.str) (0+(j:Int))=some (V.str (ws.getD j endW)):=by
            rw [Int.zero_add];refine q40 ?_;rw [z22,z06,z0d hj];rfl
          refine ⟨_,rfl,_,rfl,_,_,_,_,rfl,rfl,SqL.of (uL _ _ (Z _ _ c1)),c7,_,uL _ _ eD,by rw [z30];exact q1p (by lia),⟨_,rfl⟩,(Z.trans uL).set hD,?_⟩;rw [qb,qiv,if_pos hb,z36];rfl
        · have hb:¬ bitB c j=true:=h2
          refine ⟨⟨_,zr⟩,Z.trans uL,?_⟩;rw [qiv,if_neg hb,z31];exact uL _ _ eD
    · rintro σ H1 ⟨v1,v2,kq,zs,J,rfl,s1,ek,hz,lk,hN,a3,b4,a8⟩
      rw [z30,z2t] at a8;refine ⟨_,zr,kq,zs,J,zr,SqL.of ek,hz,λ p us hp d0=> ?_⟩;have s2:=qf (o:=HO.lst us) hp;have a2:∀ x,x∈Tim.srt qz J↔x∈J:=λ x=>(Tim.qo qz J).mem_iff;exact k p us (Tim.srt qz J) _ (s1.trans s2) (s1.free hp) qb (q1q (λ b ys e=>s2 b _ e) d0) ⟨q5h q2c (Tim.q1v q2c _) ((Tim.qo qz _).nodup_iff.mpr b4),λ x hx=>(hN x ((a2 x).mp hx)).1,λ x hx y hy h=>a3 x ((a2 x).mp hx) y ((a2 y).mp hy) h⟩ ⟨c4,d3,d5,λ r hr=>(hN r ((a2 r).mp hr)).2⟩ (by rw [(Tim.qo qz J).length_eq];rw [z30] at lk;exact lk) λ x=>by
        rw [<- a8];exact ⟨λ ⟨r,hr,z⟩=>⟨r,(a2 r).mp hr,z⟩,λ ⟨r,hr,z⟩=>⟨r,(a2 r).mpr hr,z⟩⟩
def nA (x:Int):Int:=x / 2*(1 - 2*(x%2))
def nB (x:Int):Int:=x%9 - 4
def rC (c:Int) (i:Nat):Int:=(rowF c 12).getD i 0
def numL (c:Int):List Int:=if rC c 0 / 60%2=1 then ((rowF c 12).drop 1).map nB else ((rowF c 12).drop 1).map nA
def q60 (W:xD) (c:Int):Kd ->Wo
 | .counts=> .num (absI ((numL c).getD 0 0))
 | .costs=>if rC c 0%6=0 then .non else .num ((numL c).getD 0 0)
 | .bests m=> .nums (Tim.srt q19 ((numL c).take (rC c 0%(m+1)).toNat))
 | .trusts t=> .num ([rC c 1,rC c 1,t,0].getD (rC c 0%4).toNat 0%(t+1))
 | .truths=> .tr (decide (V.int (rC c 0%2)=V.int 1))
 | .hands=> .acc (q3s ((cutL (rowF c 12) (some 1) (some (1+rC c 0%7))).map (bitW W)))
def qmu (c:Int):(rowF c 12).length=12:=q6m (by decide)
def qwi (c:Int):(numL c).length=11:=by
 unfold numL;split <;> rw [z30,z2h,qmu]
def q13i {x:Int} (h:0<=x/\x < 10^24): -(10^24) < nA x/\nA x < 10^24:=by
 unfold nA;have a:x%2=0\/ x%2=1:=by lia
 rcases a with a | a
 ·rw [a];show -(10^24) < x / 2*1/\x / 2*1 < 10^24
  lia
 ·rw [a];show -(10^24) < x / 2*(-1)/\x / 2*(-1) < 10^24
  lia
def q101 (c:Int):∀ x∈numL c,-(10^24) < x/\x < 10^24:=λ x hx=>by
 unfold numL at hx;split at hx
 ·obtain ⟨y,hy,rfl⟩:=z45.mp hx;unfold nB
  lia
 ·obtain ⟨y,hy,rfl⟩:=z45.mp hx;exact q13i (qhl (z14 hy))
def qwj (c:Int) (i:Nat): -(10^24) < (numL c).getD i 0/\(numL c).getD i 0 < 10^24:=by
 rw [z06];cases e:(numL c)[i]? with
 | none=>exact ⟨by decide,by decide⟩
 | some z=>exact q101 c z (z18 e)
def qdi {W:xD} {k:Kd} (hW:HOk W) (hk:k.ok) (c:Int):qi W k (q60 W c k):=by
 cases k with
 | counts=>
  refine .counts ?_;unfold absI;split <;> lia
 | costs=>
  show qi W .costs (if rC c 0%6=0 then .non else .num _);split
  ·exact .costX
  ·exact .costN _
 | bests m=>
  have m1:1<=m:=hk.1;refine .bests (Tim.q1v q1w _) ?_;rw [(Tim.qo q19 _).length_eq,z2g];have h0:0<=rC c 0%(m+1):=z3a _ (by lia);have h1:rC c 0%(m+1) < m+1:=z1w _ (by lia)
  lia
 | trusts t=>
  have t0:0<=t:=hk;have h0:0<=[rC c 1,rC c 1,t,0].getD (rC c 0%4).toNat 0%(t+1):=z3a _ (by lia);have h1: [rC c 1,rC c 1,t,0].getD (rC c 0%4).toNat 0%(t+1) < t+1:=z1w _ (by lia);exact .trusts h0 (by lia)
 | truths=>exact .truths _
 | hands=>
  refine .hands (q3l _) (qw5 hW λ f hf w hw=> ?_);obtain ⟨x,_,rfl⟩:=z45.mp hf;exact (qmt W x).subset hw
def qiw (W:xD) (k:Kd) (c:Int):LtW k (10^24) (q60 W c k):=λ e=>by
 subst e;show absI ((numL c).getD 0 0) < 10^24;have:=qwj c 0;unfold absI;split <;> lia
def q123:Sp:=λ vs H Q _=>∃ (k:Kd) (c m t:Int) (wa:Addr) (ws:xD),vs=[.int (q3g k),.int c,.ref wa,.int m,.int t]/\ofK m t k/\k.ok/\(1<=m/\m<=9)/\0<=t/\H wa=some (.lst (ws.map V.str))/\ws.Nodup/\endW∉ws/\
 ∀ x H',Same H H' ->NewV H x ->WV H' (q60 (ws.take 4) c k) x ->Q x H'
def qjt (T:Txt K mg):Def P w K mg base 3 "_law_worth" ["_law_kind","_law_cell","_law_words_here","_law_limit","_law_peak"] q123:=by
 refine T.qn9.ok q53 (λ vs H Q E h=> ?_) λ f cdv A outer s H vs Q E hr h=> ?_
 ·obtain ⟨k,c,m,t,wa,ws,rfl,_⟩:=h;rfl
 ·obtain ⟨k,c,m,t,wa,ws,rfl,a7,hk,hm,ht,hw,b3,b4,q⟩:=h;have rl:=qmu c;have a0:atI ((rowF c 12).map V.int) 0=some (V.int (rC c 0)):=q2t (k:=0) (by lia);have a1:atI ((rowF c 12).map V.int) 1=some (V.int (rC c 1)):=q2t (k:=1) (by lia);refine qop 3 (λ σ H'=>∃ p l:Addr,σ=[some (.int (q3g k)),some (.int c),some (.ref wa),some (.int m),some (.int t),some (.ref p),some (.ref l)]/\Same H H'/\H' p=some (.lst ((rowF c 12).map V.int))/\H' l=some (.lst ((numL c).map V.int))) ⟨_,(q12u
   (q1g (q13 q28 (pv 0) qd (q14 _)) (qg (qk (qp quo rfl T.b_abs q112 (pa_1 (q1h (q16 K) (pv 6) qd (λ _ _=>rfl)))))) q18)
   (q1g (PW.pt (ql2 (q13 q28 (pv 0) qd (q14 _)) (qgc (q13 q28 (qm q1f (q1h (q16 K) (pv 5) qd (λ _ _=>rfl)) qd) qd (q14 _))))) (qg (qk q4w)) q18)
   (q1g (q13 q28 (pv 0) qd (q14 _)) (qg (qk (q1h (q16 K) (pv 6) qd (λ _ _=>rfl)))) q18)
   (q1g (q13 q28 (pv 0) qd (q14 _)) (qg (qk (qp (q87 K) rfl T.q2e q26 (pa_1 (q3p (q48 K) (pv 6) q7w (q31 (qm q1f (q1h (q16 K) (pv 5) qd (λ _ _=>rfl)) (qm q1l (pv 3) qd)))))))) q18)
   (q1g (q13 q28 (pv 0) qd (q14 _)) (qg (qk (qm q1f (q1h (q16 K) (q24 (pa_4 (q1h (q16 K) (pv 5) qd (λ _ _=>rfl)) (q1h (q16 K) (pv 5) qd (λ _ _=>rfl)) (pv 4) qd)) (qm q1f (q1h (q16 K) (pv 5) qd (λ _ _=>rfl)) qd) (λ _ _=>rfl)) (qm q1l (pv 4) qd)))) q18)
   (q1g (q13 q28 (pv 0) qd (q14 _)) (qg (qk (q3z q28 (qm q1f (q1h (q16 K) (pv 5) qd (λ _ _=>rfl)) qd) qd (q14 _)))) q18)
   (qk (qy (qhm T) hr rfl (pa_2 (q3p (q48 K) (pv 5) (q31 qd) (q31 (qm q1l qd (qm q1f (q1h (q16 K) (pv 5) qd (λ _ _=>rfl)) qd)))) (q3p (q48 K) (pv 2) q7w (q31 qd)))))),?_⟩ (λ u hu hC=>⟨_,(q12w
   (qt (i:=5) q53.nd rfl (Or.inl rfl) (qy (q51 T) hr rfl (pa_2 (pv 1) qd)))
   (qa1 (i:=6) q53.nd rfl rfl (N:=["_law_x"]) (caps:=[none]) rfl (by with_unfolding_all rfl) (q1a K (q3p (q48 K) (pv 5) (q31 qd) q7w)) (λ _ _ _ _ _=>(qr (i:=0) (show (["_law_x"]:xD).Nodup by decide+kernel) rfl (Or.inl rfl))) (λ _ _ _ _ _=>q3v) (λ _ _ _ _ _=>(qm q4y (qm q3y (pv 0) qd) (qm qrr qd (qm q4y qd (qm q1f (pv 0) qd))))))
   (q1g (q13 q28 (qm q1f (qm q3y (q1h (q16 K) (pv 5) qd (λ _ _=>rfl)) qd) qd) qd (q14 _)) (qg (qa1 (i:=6) q53.nd rfl rfl (N:=["_law_x"]) (caps:=[none]) rfl (by with_unfolding_all rfl) (q1a K (q3p (q48 K) (pv 5) (q31 qd) q7w)) (λ _ _ _ _ _=>(qr (i:=0) (show (["_law_x"]:xD).Nodup by decide+kernel) rfl (Or.inl rfl))) (λ _ _ _ _ _=>q3v) (λ _ _ _ _ _=>(qm qrr (qm q1f (pv 0) qd) qd)))) q18)
   hu),?_⟩)
  ·rintro σ H2 ⟨p,l,rfl,s2,hp,hl⟩;have ll:=qwi c;have n0:atI ((numL c).map V.int) 0=some (V.int ((numL c).getD 0 0)):=q2t (k:=0) (by lia);have b2:=s2 _ _ hw;cases k with
   | counts=>exact ⟨_,rfl,rfl,_,rfl,q1y rfl ⟨_,rfl,_,_,_,_,rfl,rfl,SqL.of hl,n0,_,rfl,q _ _ s2 (q27 _) rfl⟩⟩
   | costs=>
    refine ⟨_,zr,zr,_,zr,q11 rfl ⟨_,zr,zr,_,zr,q1y rfl ?_⟩⟩;refine ⟨_,rfl,_,_,_,_,rfl,rfl,SqL.of hp,a0,_,_,rfl,rfl,(by show (0:Int) < 6;decide),rfl,_,rfl,ite2 (λ h=> ?_) (λ h=> ?_)⟩
    ·exact q _ _ s2 q7y (by show WV _ (if _ then _ else _) _;rw [if_pos (vi h)];rfl)
    ·exact ⟨_,rfl,rfl,_,rfl,q1y rfl ⟨_,rfl,_,_,_,_,rfl,rfl,SqL.of hl,n0,q _ _ s2 (q27 _) (by show WV _ (if _ then _ else _) _;rw [if_neg (vin h)];rfl)⟩⟩
   | bests n=>
    cases (show n=m from a7)
    refine ⟨_,zr,zr,_,zr,q11 rfl ⟨_,zr,zr,_,zr,q11 rfl ⟨_,zr,zr,_,zr,q11 rfl ⟨_,zr,zr,_,zr,q1y rfl ?_⟩⟩⟩⟩;refine ⟨_,rfl,_,rfl,_,_,_,_,rfl,rfl,SqL.of hp,a0,_,rfl,_,_,rfl,rfl,_,_,rfl,rfl,(by show 0 < m+1;lia),_,rfl,_,_,rfl,SqL.of hl,λ l1 a2=> ?_⟩;have h0:0<=rC c 0%(m+1):=z3a _ (by lia);rw [qek _ h0,<- List.map_take];have t2:=qf (o:=HO.lst (((numL c).take (rC c 0%(m+1)).toNat).map V.int)) a2;refine ⟨_,_,zr,.inl (SqL.of qb),λ l2 O=> ?_⟩;have sA:=s2.trans t2;exact q _ _ (sA.trans (qf O)) (q3k (sA.free O)) ⟨l2,zr,qb⟩
   | trusts n=>
    cases (show n=t from a7)
    refine ⟨_,zr,zr,_,zr,q11 rfl ⟨_,zr,zr,_,zr,q11 rfl ⟨_,zr,zr,_,zr,q11 rfl ⟨_,zr,zr,_,zr,q11 rfl ⟨_,zr,zr,_,zr,q1y rfl ?_⟩⟩⟩⟩⟩;refine ⟨_,rfl,_,_,_,_,rfl,rfl,SqL.of hp,a1,_,rfl,_,_,_,_,rfl,rfl,SqL.of hp,a1,_,rfl,by show 4<=sizeLine;decide,λ L hL=> ?_⟩;have e0:0<=rC c 0%4:=z3a _ (by decide);have e1:rC c 0%4 < 4:=z1w _ (by decide);have a8:=qmh (ns:=[rC c 1,rC c 1,t,0]) e0 e1;have u1:=qf (o:=HO.lst ([rC c 1,rC c 1,t,0].map V.int)) hL;refine ⟨_,rfl,_,_,_,_,rfl,rfl,SqL.of (u1 _ _ hp),a0,_,_,rfl,rfl,(by show (0:Int) < 4;decide),_,_,_,_,rfl,rfl,SqL.of qb,a8,_,rfl,_,_,rfl,rfl,_,_,rfl,rfl,(by show 0 < t+1;lia),?_⟩;exact q _ _ (s2.trans u1) (q27 _) rfl
   | truths=>
    refine ⟨_,zr,zr,_,zr,q11 rfl ⟨_,zr,zr,_,zr,q11 rfl ⟨_,zr,zr,_,zr,q11 rfl ⟨_,zr,zr,_,zr,q11 rfl ⟨_,zr,zr,_,zr,q11 rfl ⟨_,zr,zr,_,zr,q1y rfl ?_⟩⟩⟩⟩⟩⟩;exact ⟨_,rfl,_,_,_,_,rfl,rfl,SqL.of hp,a0,_,_,rfl,rfl,(by show (0:Int) < 2;decide),rfl,q _ _ s2 (qc5 _) rfl⟩
   | hands=>
    refine ⟨_,zr,zr,_,zr,q11 rfl ⟨_,zr,zr,_,zr,q11 rfl ⟨_,zr,zr,_,zr,q11 rfl ⟨_,zr,zr,_,zr,q11 rfl ⟨_,zr,zr,_,zr,q11 rfl ⟨_,zr,zr,_,zr,q11 rfl ?_⟩⟩⟩⟩⟩⟩;refine ⟨_,rfl,_,rfl,_,rfl,_,_,_,_,rfl,rfl,SqL.of hp,a0,_,_,rfl,rfl,(by show (0:Int) < 7;decide),_,_,rfl,rfl,_,rfl,_,_,rfl,SqL.of hp,λ l1 a2=> ?_⟩;have lm:=qw4 (rowF c 12) (some 1) (some (1+rC c 0%7));rw [rl] at lm;rw [qxd];have t2:=qf (o:=HO.lst ((cutL (rowF c 12) (some 1) (some (1+rC c 0%7))).map V.int)) a2;refine ⟨_,zr,_,zr,_,_,zr,SqL.of (t2 _ _ b2),λ l2 O=> ?_⟩;rw [qek _ (show (0:Int)<=4 by decide),<- List.map_take,show (4:Int).toNat=4 from rfl];have t3:=qf (o:=HO.lst ((ws.take 4).map V.str)) O;have l4:(ws.take 4).length<=4:=by rw [z2g];lia
    refine ⟨l1,l2,_,ws.take 4,7,zr,t3 _ _ qb,by lia,qb,by decide,by lia,l4,b3.sublist (List.take_sublist _ _),λ z=>b4 (z15 z),λ pz zs R H' s' a9 ep tp aR oR lR uR=> ?_⟩;have sA:=s2.trans (t2.trans t3);refine q _ _ (sA.trans s') (q3k (sA.free a9)) ⟨pz,zs,zr,ep,?_⟩;rw [<- q8n aR uR];exact tp
  ·refine ⟨_,zr,c,12,zr,by decide,by decide,λ p H1 s1 hpn hp=> ?_⟩;have a5:cutV ((rowF c 12).map V.int) (some 1) none=((rowF c 12).drop 1).map V.int:=by
    have:=qvd ((rowF c 12).map V.int) 1 (by rw [z30];lia);rw [List.map_drop];exact this
   have dl:((rowF c 12).drop 1).length=11:=by rw [z2h,rl]
   have dm:∀ x∈(rowF c 12).drop 1,0<=x/\x < 10^24:=λ x hx=>qhl (z14 hx);refine ⟨_,zr,_,zr,_,_,zr,SqL.of hp,λ l1 a2=> ?_⟩;rw [a5];have eA:numL c=if rC c 0 / 60%2=1 then ((rowF c 12).drop 1).map nB else ((rowF c 12).drop 1).map nA:=rfl
   generalize (rowF c 12).drop 1=ds at*;have t1:=qf (o:=HO.lst (ds.map V.int)) a2;refine ⟨l1,zr,⟨_,SqL.of qb⟩,λ D hD=> ?_⟩;refine q20 (ds.map V.int).length (λ i σ' G=>(∃ v,σ'=[v])/\Same (upd H1 l1 (.lst (ds.map V.int))) G/\G D=some (.lst (((ds.take i).map nA).map V.int))) ⟨⟨_,zr⟩,qf hD,qb⟩ (λ i σ' G hi pp=> ?_) (λ σ' G pp=>⟨?_,?_⟩) (λ i σ' G hi pp x H3 y=> ?_)
   ·obtain ⟨_,sm,_⟩:=pp;exact ⟨_,(ds.map V.int)[i],SqL.of (sm _ _ qb),z0d hi⟩
   ·obtain ⟨_,sm,_⟩:=pp;exact ⟨_,SqL.of (sm _ _ qb),z48 _⟩
   ·obtain ⟨_,sm,e⟩:=pp;rw [z30,z2t] at e;have sA:=t1.trans sm;have a4:=sA _ _ hp;refine ⟨_,rfl,_,_,_,_,rfl,rfl,SqL.of a4,a0,_,_,rfl,rfl,⟨by decide,by decide⟩,_,_,rfl,rfl,(by show (0:Int) < 2;decide),rfl,_,rfl,ite2 (λ h=> ?_) (λ h=> ?_)⟩
    ·rw [if_pos (vi h)] at eA;refine ⟨_,zr,_,zr,_,_,zr,SqL.of a4,λ l2 O=> ?_⟩;rw [a5];have t4:=qf (o:=HO.lst (ds.map V.int)) O;refine ⟨l2,zr,⟨_,SqL.of qb⟩,λ D2 a6=> ?_⟩;refine q20 (ds.map V.int).length (λ i σ' F=>(∃ v,σ'=[v])/\Same (upd G l2 (.lst (ds.map V.int))) F/\F D2=some (.lst (((ds.take i).map nB).map V.int))) ⟨⟨_,zr⟩,qf a6,qb⟩ (λ i σ' F hi pp=> ?_) (λ σ' F pp=>⟨?_,?_⟩) (λ i σ' F hi pp x H4 y=> ?_)
     ·obtain ⟨_,J,_⟩:=pp;exact ⟨_,(ds.map V.int)[i],SqL.of (J _ _ qb),z0d hi⟩
     ·obtain ⟨_,J,_⟩:=pp;exact ⟨_,SqL.of (J _ _ qb),z48 _⟩
     ·obtain ⟨_,J,e2⟩:=pp;rw [z30,z2t] at e2;have sB:=t4.trans J;exact hC _ _ ⟨p,D2,zr,s1.trans (sA.trans sB),sB _ _ a4,by rw [e2,eA]⟩
     ·obtain ⟨⟨v,rfl⟩,J,e2⟩:=pp;obtain ⟨rfl,hx⟩:=y;have a3:=hx _ (SqL.of (J _ _ qb));rw [z22] at a3;obtain ⟨n,Z,rfl⟩:=z0q.mp a3;have il:i < ds.length:=(z07.mp Z).1;refine ⟨_,rfl,_,_,rfl,rfl,(by show (0:Int) < 9;decide),_,_,rfl,rfl,_,e2,by rw [z30,z30,z2g];exact q1p (by lia),⟨_,rfl⟩,J.set a6,?_⟩;rw [qb,z3h,Z,z36,z36];rfl
    ·rw [if_neg (vin h)] at eA;exact hC _ _ ⟨p,D,zr,s1.trans sA,a4,by rw [e,eA]⟩
   ·obtain ⟨⟨v,rfl⟩,sm,e⟩:=pp;obtain ⟨rfl,hx⟩:=y;have a3:=hx _ (SqL.of (sm _ _ qb));rw [z22] at a3;obtain ⟨n,Z,rfl⟩:=z0q.mp a3;have il:i < ds.length:=(z07.mp Z).1;have nn:=dm n (z18 Z);have b0:0<=n%2:=z3a _ (by decide);have b1:n%2 < 2:=z1w _ (by decide);refine ⟨_,rfl,_,_,rfl,rfl,⟨by decide,by decide⟩,_,rfl,_,_,rfl,rfl,(by show (0:Int) < 2;decide),_,_,rfl,rfl,.inl ⟨by decide,by decide⟩,_,_,rfl,rfl,_,_,rfl,rfl,.inr ⟨by show -(2^64) < 1 - 2*(n%2);lia,by show 1 - 2*(n%2) < 2^64;lia⟩,_,e,by rw [z30,z30,z2g];exact q1p (by lia),⟨_,rfl⟩,sm.set hD,?_⟩;rw [qb,z3h,Z,z36,z36];rfl
def WPair (H:Hp) (kv:Key×V) (p:Str×Wo):Prop:=kv.1=Sum.inr p.1/\WV H p.2 kv.2
theorem WPair.same {H H':Hp} (s:Same H H'):∀ {kvs:List (Key×V)} {D:List (Str×Wo)},Paired (WPair H) kvs D ->Paired (WPair H') kvs D
 | _,_,.nil=> .nil
 | _,_,.cons a b=> .cons ⟨a.1,a.2.same s⟩ (WPair.same s b)
def wget (D:List (Str×Wo)) (z:Str):Option Wo:=(D.find? λ p=>decide (p.1=z)).map (·.2)
theorem qmv {H:Hp} (z:Str):∀ {kvs:List (Key×V)} {D:List (Str×Wo)},Paired (WPair H) kvs D ->(wget D z=none/\valV kvs (Sum.inr z)=none)\/ ∃ a v,wget D z=some a/\valV kvs (Sum.inr z)=some v/\WV H a v
  | _,_,.nil=> .inl ⟨rfl,rfl⟩
  | J::kvs,p::D,.cons ⟨e,w⟩ b=>by
    by_cases h:p.1=z
    · refine .inr ⟨p.2,J.2,?_,?_,w⟩
      · unfold wget
        rw [z0s (by simpa using h)];rfl
      · unfold valV
        rw [z0s (by rw [e,h];simp)];rfl
    · have e1:wget (p::D) z=wget D z:=by
        unfold wget;rw [z0t (by simpa using h)]
      have e2:valV (J::kvs) (Sum.inr z)=valV kvs (Sum.inr z):=by
        unfold valV;rw [z0t (by rw [e];simpa using h)]
      rw [e1,e2];exact qmv z b
def WD.of {H:Hp} {d:Addr} {kvs:List (Key×V)} {D:List (Str×Wo)} (h:H d=some (.dK kvs)) (p:Paired (WPair H) kvs D):WD H d (wget D):=⟨kvs,.inl h,λ z=>(qmv z p).imp (·.1) id⟩
def q1c (ws:xD) (ns:List Int) (k:Kd) (n:Nat):List (Str×Wo):=(List.range n).map λ j=>(ws.getD j endW,q60 (ws.take 4) (ns.getD (2+j) 0) k)
def qtv (ws:xD) (ns:List Int) (k:Kd) (n:Nat):q1c ws ns k (n+1)=q1c ws ns k n++ [(ws.getD n endW,q60 (ws.take 4) (ns.getD (2+n) 0) k)]:=by
 unfold q1c;rw [z35,z36];rfl
theorem qdj {H:Hp}:∀ {kvs:List (Key×V)} {D:List (Str×Wo)},Paired (WPair H) kvs D ->kvs.map (·.1)=D.map λ p=>Sum.inr p.1
 | _,_,.nil=>rfl
 | _,_,.cons a b=>by rw [z3l,z3l,qdj b,a.1]
def qcf {ws:xD} {ns:List Int} {k:Kd} {z:Str} {a:Wo} (h:wget (q1c ws ns k ws.length) z=some a):∃ c,a=q60 (ws.take 4) c k:=by
 unfold wget at h;obtain ⟨p,hp,rfl⟩:=z0q.mp h;obtain ⟨j,_,rfl⟩:=z45.mp (z0c hp);exact ⟨_,zr⟩
def qph {ws:xD} {ns:List Int} {k:Kd} {z:Str} (h:z∈ws):∃ a,wget (q1c ws ns k ws.length) z=some a:=by
 unfold wget;cases e:(q1c ws ns k ws.length).find? λ p=>decide (p.1=z) with
 | some p=>exact ⟨_,rfl⟩
 | none=>
  obtain ⟨i,hi,ei⟩:=z1i h;have:=List.find?_eq_none.mp e (ws.getD i endW,q60 (ws.take 4) (ns.getD (2+i) 0) k) (z45.mpr ⟨i,z3d.mpr hi,rfl⟩);refine absurd ?_ this;rw [decide_eq_true_eq,z06,z0d hi];exact ei
def q102 (K:xA):Sp:=λ vs H Q _=>∃ (k:Kd) (a wa:Addr) (ns:List Int) (m t:Int) (ws:xD),vs=[.int (q3g k),.ref a,.ref wa,.int m,.int t]/\ofK m t k/\k.ok/\(1<=m/\m<=9)/\0<=t/\SqL K H a (ns.map V.int)/\H wa=some (.lst (ws.map V.str))/\ws.Nodup/\endW∉ws/\ws.length<=7/\
 ∀ d kvs H',Same H H' ->H d=none ->H' d=some (.dK kvs) ->Paired (WPair H') kvs (q1c ws ns k ws.length) ->Q (.ref d) H'
def q62 (T:Txt K mg):Def P w K mg base 4 "_law_many_worths" ["_law_kind","_law_script","_law_words_here","_law_limit","_law_peak"] (q102 K):=by
 refine T.qci.ok q44 (λ vs H Q E h=> ?_) λ f cdv A outer s H vs Q E hr h=> ?_
 ·obtain ⟨k,a,wa,ns,m,t,ws,rfl,_⟩:=h;rfl
 ·obtain ⟨k,a,wa,ns,m,t,ws,rfl,a4,hk,hm,ht,hS,hw,a1,a7,w7,q⟩:=h;refine ⟨_,(q2p
   (qt (i:=5) q44.nd rfl (Or.inl rfl) q54)
   (q1i PassesOwn.never rfl (q6v rfl T.q7z (pa_1 (qp (q2r K) rfl T.b_len q3w (pa_1 (pv 2))))) (qr (i:=6) q44.nd rfl (Or.inl rfl)) (qg (q5f (q2a hr) (pv 5) (q1h (q16 K) (pv 2) (pv 6) (λ _ _=>rfl)) (qy (qjt T) hr rfl (pa_5 (pv 0) (qy (q37 T) hr rfl (pa_2 (pv 1) (qm q1l qd (pv 6)))) (pv 2) (pv 3) (pv 4))) rfl)))
   (qk (pv 5))),?_⟩
  refine λ d hd=> ?_;have s1:=qf (o:=HO.dK []) hd;have a6:((ws.map V.str).length:Int).toNat=ws.length:=by rw [z30];lia
  refine ⟨_,rfl,_,_,rfl,.inl ⟨_,SqL.of (s1 _ _ hw),rfl⟩,_,rfl,by lia,by rw [z30];lia,?_⟩;rw [a6];refine q8v (lo:=0) (n:=ws.length) (λ i σ G=>Same H G/\∃ (v:Option V) (kvs:List (Key×V)),σ=[some (.int (q3g k)),some (.ref a),some (.ref wa),some (.int m),some (.int t),some (.ref d),v]/\G d=some (.dK kvs)/\∀ F,(∀ c o,c≠d ->G c=some o ->F c=some o) ->Paired (WPair F) kvs (q1c ws ns k i)) ⟨s1,none,[],zr,qb,λ _ _=> .nil⟩ ?_ ?_
  ·rintro i σ G hi ⟨Z,v,kvs,rfl,gd,hp⟩;have hg:atI (ws.map V.str) (0+(i:Int))=some (V.str (ws.getD i endW)):=by
    rw [Int.zero_add];refine q40 ?_;rw [z22,z06,z0d hi];rfl
   have e2:(2+(0+(i:Int))).toNat=2+i:=by lia
   refine ⟨_,zr,_,zr,_,zr,_,_,zr,zr,a,ns,2+(0+(i:Int)),zr,Z.seq hS,by lia,_,zr,_,zr,_,zr,k,ns.getD (2+(0+(i:Int))).toNat 0,m,t,wa,ws,zr,a4,hk,hm,ht,Z _ _ hw,a1,a7,λ x G2 s2 nx O=> ?_⟩;rw [e2] at O;have pG:=hp G λ _ _ _ z=>z;have kl:kvs.length=i:=by rw [Paired.length pG];unfold q1c;rw [z30,z29]
   have nk:¬ (kvs.any λ kv=>decide (kv.1=Sum.inr (ws.getD i endW)))=true:=λ z=>by
    obtain ⟨kv,a3,e⟩:=z2p.mp z;have e:=of_decide_eq_true e;have:kv.1∈kvs.map (·.1):=z45.mpr ⟨kv,a3,rfl⟩;rw [qdj pG] at this;obtain ⟨p,a5,e3⟩:=z45.mp this;obtain ⟨j,hj,rfl⟩:=z45.mp a5;have hj:=z3d.mp hj;rw [e] at e3;have e4:ws.getD j endW=ws.getD i endW:=Sum.inr.inj e3;rw [z06,z06,z0d hi,z0d (show j < ws.length by lia)] at e4;have:=(List.getElem_inj (h₀:=show j < ws.length by lia) (h₁:=hi) a1).mp e4
    lia
   have a0:putK kvs (Sum.inr (ws.getD i endW)) x=kvs++ [(Sum.inr (ws.getD i endW),x)]:=by
    unfold putK;rw [if_neg nk]
   refine ⟨_,rfl,_,rfl,_,rfl,_,_,_,_,rfl,rfl,SqL.of ((Z.trans s2) _ _ hw),hg,d,_,rfl,DPut.k (k:=Sum.inr (ws.getD i endW)) (s2 _ _ gd) (by rw [kl];exact q1p (by lia)),?_⟩;rw [a0];refine ⟨(Z.trans s2).set hd,_,_,zr,qb,λ F hF=> ?_⟩;have J:∀ c o,c≠d ->G2 c=some o ->F c=some o:=λ c o hc z=>hF c o hc (by rw [qh hc];exact z);rw [qtv];refine q1r (hp F λ c o hc z=>J c o hc (s2 _ _ z)) (.cons ⟨zr,?_⟩ .nil);have nd:∀ p,x= .ref p ->p≠d:=λ p e z=>by
    have:=nx p e;rw [z,gd] at this;cases this
   have a2:G2 d=some (.dK kvs):=s2 _ _ gd;show WV F (q60 (ws.take 4) (ns.getD (2+i) 0) k) x;revert O;generalize q60 (ws.take 4) (ns.getD (2+i) 0) k=wo;intro O;cases wo with
   | num i=>exact O
   | non=>exact O
   | tr b=>exact O
   | nums l=>
    obtain ⟨p,e,h⟩:=O;exact ⟨p,e,J _ _ (nd p e) h⟩
   | acc R=>
    obtain ⟨p,zs,e,h,tt⟩:=O;exact ⟨p,zs,e,J _ _ (nd p e) h,q1q (λ b ys z=>J b _ (λ q=>by subst q;rw [a2] at z;cases z) z) tt⟩
  ·rintro σ G ⟨Z,v,kvs,rfl,gd,hp⟩;exact ⟨_,zr,q d kvs G Z hd gd (hp G λ _ _ _ z=>z)⟩
section
variable {W:xD} {k:Kd} {g:Str ->Wo}
theorem qpi {b:Int} (hb:1<=b) (hW:HOk W) (hk:k.ok) (Z:∀ z,qi W k (g z)) (hl:∀ z,LtW k b (g z)):∀ (n:Nat) (p:xD),p.length=n ->LtW k (2*b^n) (rkP k g p)
 | 0,p,O=>λ e=>by
  rw [z0k.mp O];subst e;show (1:Int) < 2*b^0;rw [Int.pow_zero];decide
 | n+1,p,O=>by
  have J:p≠ []:=λ z=>by rw [z] at O;cases O
  rw [<- List.dropLast_concat_getLast J,qmm];have:=LtW.bo (qpi hb hW hk Z hl n p.dropLast (by rw [List.length_dropLast,O];rfl)) (q23 hW hk Z _) (Z _) (hl (p.getLast J)) (z3k (by decide) (Int.pow_nonneg (by lia))) (by lia);refine this.mono ?_;rw [Int.pow_succ,Int.mul_assoc];exact z4a _
def qpj {b:Int} (hb:1<=b) (hW:HOk W) (hk:k.ok) (hg:∀ z,qi W k (g z)) (hl:∀ z,LtW k b (g z)) {p:xD} {n:Nat} (h:p.length<=n):LtW k (2*b^n) (rkP k g p):=by
  refine (qpi hb hW hk hg hl _ p rfl).mono (z02 ?_ (by decide));obtain ⟨m,rfl⟩:=Nat.exists_eq_add_of_le h;rw [Int.pow_add];have a:(0:Int)<=b^p.length:=Int.pow_nonneg (by lia);have b':(1:Int)<=b^m:=Int.pow_pos (by lia)
  calc (b:Int)^p.length=b^p.length*1:=(Int.mul_one _).symm
    _<=b^p.length*b^m:=z02 b' a
def qpk (hW:HOk W) (hk:k.ok) (hg:∀ z,qi W k (g z)) (hl:∀ z,LtW k (10^24) (g z)) {p:xD} {n:Nat} (h:p.length<=n):LtW k (2*(10^24)^n) (rkP k g p):=qpj (by decide) hW hk hg hl h
def q103:(2*(10^24)^9:Int)<=2^1200:=by decide+kernel
def q124 (hW:HOk W) (hk:k.ok) (hg:∀ z,qi W k (g z)) (hl:∀ z,LtW k (10^24) (g z)) {Y:Tab} (h:∀ p∈Y,p.1.length<=9/\p.2 < 2^1200):YOk k g Y:=λ p J=>⟨(h p J).2,λ i=>(qpk hW hk hg hl (n:=9) (z41 (by rw [z2g];lia) (h p J).1)).mono q103⟩
def q125 (hW:HOk W) (hk:k.ok) (O:∀ z,qi W k (g z)) (hl:∀ z,LtW k (10^24) (g z)) {p:List Str×Int} (hp:p.1.length<=3) (h0:0<=p.2) (h1:p.2<=10^24):LtW k (2*(10^24)^3*(10^24+1)) (rkT k g p):=λ e=>by
 have a:=qpk hW hk O hl hp e;have J:=q23 hW hk O p.1;unfold rkT;subst e;revert a J;generalize rkP .counts g p.1=x;intro a J;cases J with | @counts i hi=>
  have a:i < 2*(10^24)^3:=a;show i*p.2 < 2*(10^24)^3*(10^24+1);have e1:i*p.2<=i*10^24:=z02 h1 hi;have:(2*(10^24)^3:Int)=2000000000000000000000000000000000000000000000000000000000000000000000000:=by decide+kernel
  rw [this] at a ⊢
  lia
theorem qtw (hW:HOk W) (hk:k.ok) (J:∀ z,qi W k (g z)) (hl:∀ z,LtW k (10^24) (g z)):∀ {Y:Tab},(∀ p∈Y,p.1.length<=3/\0<=p.2/\p.2<=10^24) ->LtW k (1+Y.length*(2*(10^24)^3*(10^24+1))) (rkY k g Y)
 | [],_=>λ e=>by subst e;show (0:Int) < 1+0*_;rw [Int.zero_mul];decide
 | p::Y,h=>by
  have nn:NN (p::Y):=λ q hq=>(h q hq).2.1;have O:=h p (z1p ..);have hY:∀ q∈Y,q.1.length<=3/\0<=q.2/\q.2<=10^24:=λ q hq=>h q (z16 _ hq);rw [q2d hW hk J nn];have:=LtW.ei (q125 hW hk J hl O.1 O.2.1 O.2.2) (q3t hW hk J O.2.1) (q1k hW hk J (λ q hq=>nn q (z16 _ hq))) (qtw hW hk J hl hY);refine this.mono ?_;rw [z2i];generalize (2*(10^24)^3*(10^24+1):Int)=C;rw [Int.natCast_add,Int.add_mul];have:((1:Nat):Int)*C=C:=Int.one_mul C
  lia
end
theorem qpl {K:xA} {W:xD} {k:Kd} {H:Hp} (hW:HOk W):∀ {J kb:List (Key×V)} {D:List (Str×Wo)},(∀ p∈D,qi W k p.2) ->Paired (WPair H) J D ->Paired (WPair H) kb D ->Paired (DatP K H) J kb
 | _,_,_,_,.nil,.nil=> .nil
 | _,_,p::D,h,.cons a b,.cons c d=> .cons ⟨a.1.trans c.1.symm,_,a.2.dat hW (h p (z1p ..)),c.2.dat hW (h p (z1p ..)),qmg _⟩ (qpl hW (λ q hq=>h q (z16 _ hq)) b d)
def qtx {ws:xD} {ns:List Int} {k:Kd} {n:Nat} (hW:HOk (ws.take 4)) (hk:k.ok):∀ p∈q1c ws ns k n,qi (ws.take 4) k p.2:=λ p hp=>by
 obtain ⟨j,_,rfl⟩:=z45.mp hp;exact qdi hW hk _
structure At31 (K:xA) (mg:xE) (wp dw dk o:Addr) (ws:xD) (ns:List Int) (k:Kd) (H:Hp):Prop where
 kok:k.ok
 words:H wp=some (.lst (ws.map V.str))
 nd:ws.Nodup
 tx:∀ z∈ws,txtB small z=true/\Wz 12 z/\1<=z.length
 l7:ws.length<=7
 one:∃ kw,H dw=some (.dK kw)/\Paired (WPair H) kw (q1c ws ns k ws.length)
 two:∃ kk,H dk=some (.dK kk)/\Paired (WPair H) kk (q1c ws ns k ws.length)
 by_:ByAt mg H o k
theorem At31.same {K:xA} {mg:xE} {wp dw dk o:Addr} {ws:xD} {ns:List Int} {k:Kd} {H H':Hp} (h:At31 K mg wp dw dk o ws ns k H) (s:Same H H'):At31 K mg wp dw dk o ws ns k H':=by
 obtain ⟨kw,e1,p1⟩:=h.one;obtain ⟨kk,e2,p2⟩:=h.two;exact ⟨h.kok,s _ _ h.words,h.nd,h.tx,h.l7,⟨kw,s _ _ e1,WPair.same s p1⟩,⟨kk,s _ _ e2,WPair.same s p2⟩,h.by_.same s⟩
section
variable {K:xA} {mg:xE} {wp dw dk o:Addr} {ws:xD} {ns:List Int} {k:Kd} {H:Hp}
def At31.ne (h:At31 K mg wp dw dk o ws ns k H):endW∉ws:=λ z=>absurd (h.tx _ z).2.2 (by decide+kernel)
def At31.hW (h:At31 K mg wp dw dk o ws ns k H):HOk (ws.take 4):=⟨by rw [z2g];lia,λ z=>h.ne (z15 z),λ w hw=>(h.tx w (z15 hw)).2.1.ok⟩
def At31.fok (h:At31 K mg wp dw dk o ws ns k H):FOk (ws.take 4) k (wget (q1c ws ns k ws.length)) where
 hk:=h.kok
 hW:=h.hW
 tW:=λ w hw=>(h.tx w (z15 hw)).1
 good:=λ z a e=>by
  obtain ⟨c,rfl⟩:=qcf e;exact qdi h.hW h.kok c
 lt:=λ z=>by
  unfold gOf;cases e:wget (q1c ws ns k ws.length) z with
  | none=>exact q13a k
  | some a=>
   obtain ⟨c,rfl⟩:=qcf e;exact (qiw _ k c).mono (by decide+kernel)
def At31.lt24 (h:At31 K mg wp dw dk o ws ns k H) (z:Str):LtW k (10^24) (gOf k (wget (q1c ws ns k ws.length)) z):=by
 unfold gOf;cases e:wget (q1c ws ns k ws.length) z with
 | none=>exact λ q=>by subst q;show (0:Int) < 10^24;decide
 | some a=>
  obtain ⟨c,rfl⟩:=qcf e;exact qiw _ k c
def At31.wd (h:At31 K mg wp dw dk o ws ns k H):WD H dw (wget (q1c ws ns k ws.length)):=by
 obtain ⟨kw,e1,p1⟩:=h.one;exact WD.of e1 p1
def At31.names (h:At31 K mg wp dw dk o ws ns k H) {Y:Tab} (hY:∀ p∈Y,∀ z∈p.1,z∈ws):∀ p∈Y,∀ n∈p.1,∃ a,wget (q1c ws ns k ws.length) n=some a:=λ p hp n hn=>qph (hY p hp n hn)
def At31.yok (h:At31 K mg wp dw dk o ws ns k H) {Y:Tab} (hY:∀ p∈Y,p.1.length<=9/\p.2 < 2^1200):YOk k (gOf k (wget (q1c ws ns k ws.length))) Y:=q124 h.hW h.kok h.fok.g h.lt24 hY
end
def qmw {ws:xD} {ps:Tab} (h:∀ p∈ps,∀ z∈p.1,z∈ws):∀ p∈tg ps,∀ z∈p.1,z∈ws:=λ p hp z hz=>by
 have hk:=(qeb.mp hp).1;obtain ⟨_,_,g3,_⟩:=q2q ps.length ps rfl;obtain ⟨q,hq,e⟩:=z45.mp ((g3 p.1).mp hk);rw [<- e] at hz;exact h q hq z ((Tim.qo ql _).mem_iff.mp hz)
def qwk (K:xA):Sp:=λ vs H Q _=>∃ (x y:V) (d:PyData),vs=[x,y]/\Dat K H d x/\Dat K H d y/\d.depth<=60/\Q (.bl true) H
def qju (T:Txt K mg):Def P w K mg base 1 "_law_alike" ["_law_found","_law_due"] (qwk K):=by
 refine T.qnd.ok qjg (λ vs H Q E h=> ?_) λ f cdv A outer s H vs Q E hr h=> ?_
 ·obtain ⟨x,y,d,rfl,_⟩:=h;rfl
 ·obtain ⟨x,y,d,rfl,dx,J,dd,q⟩:=h;refine ⟨_,(q2p
   (q1g (q13 q81 (pv 1) q4w (q14 _)) (qg (qk (q3z q81 (pv 0) q4w (q14 _)))) q18)
   (q1g (PW.pt (qck (q13 qpx (qp (q2i K) rfl T.q1t q1m (pa_2 (pv 0) (q5l rfl T.qg7 qco))) (qp (q2i K) rfl T.q1t q1m (pa_2 (pv 1) (q5l rfl T.qg7 qco))) (q14 _)) (q9b (q13 qpx (qp (q2i K) rfl T.q1t q1m (pa_2 (pv 0) (q5l rfl T.q8r q66))) (qp (q2i K) rfl T.q1t q1m (pa_2 (pv 1) (q5l rfl T.q8r q66))) (q14 _))))) (qg (qk q4o)) q18)
   (qk (q3z (qlj hr.units K) (pv 0) (pv 1) (q14 _)))),?_⟩
  by_cases O:y= .non
  ·subst O;cases J
   cases dx
   exact ⟨_,zr,zr,_,zr,q1y rfl ⟨_,zr,zr,q⟩⟩
  refine ⟨_,zr,zr,_,zr,q11 (by simp [O]) ?_⟩;refine ⟨_,zr,x,_,d,zr,dx,by decide,_,zr,y,_,d,zr,J,by decide,zr,_,zr,q11 (by simp) ?_⟩;refine ⟨_,zr,x,_,d,zr,dx,by decide,_,zr,y,_,d,zr,J,by decide,zr,_,zr,q11 (by simp) ?_⟩;refine ⟨_,zr,_,zr,d,d,dx,J,dd,?_⟩;rw [PySem.SeqAt.eqv_refl _ (Dat.lay _ _ dx)];exact q
section
variable {W:xD} {k:Kd} {g:Str ->Wo} {D:Sub}
theorem qmx (hW:HOk W) (hk:k.ok) (J:∀ z,qi W k (g z)) (O:NS D):∀ (p:xD) {S:Tab},NN S ->rkY k g (fillP D S p)=boW k (rkY k g S) (rkP k (λ z=>rkY k g (D z)) p)
 | [],S,h=>(qki (q1k hW hk J h)).symm
 | x::p,S,h=>by
  have Z:∀ z,qi W k (rkY k g (D z)):=λ z=>q1k hW hk J (O z);show rkY k g (fillP D (tg (prods S (D x))) p)=_;rw [qmx hW hk J O p (qqr _),qtq hW hk J (qm2 h (O x)),qiu hW hk J (O x) h,q5c hW hk Z,qar (q1k hW hk J h) (Z x) (q23 hW hk Z p)]
def qwl (hW:HOk W) (hk:k.ok) {n:Int} (hn:0<=n):rkY k g [([],n)]=repW k (unW k) n:=qaq hW hk (q42 hW hk (q9p hW hk) hn)
theorem qmy (hW:HOk W) (hk:k.ok) (J:∀ z,qi W k (g z)) (hD:NS D):∀ {Y:Tab},NN Y ->rkY k g (q1z D Y)=rkY k (λ z=>rkY k g (D z)) Y
 | [],_=>rfl
 | p::Y,h=>by
  have gg:∀ z,qi W k (rkY k g (D z)):=λ z=>q1k hW hk J (hD z);have O:=h p (z1p ..);have hY:NN Y:=λ q hq=>h q (z16 _ hq);have e:q1z D (p::Y)=fillP D [([],p.2)] p.1++q1z D Y:=rfl;rw [e,qpd hW hk J (qec p.1 (qm5 O)) (qp2 hY),qmx hW hk J hD p.1 (qm5 O),qwl hW hk O,qmy hW hk J hD hY,q2d hW hk gg h]
  congr 1
  have Z:=q23 hW hk gg p.1;obtain ⟨m,em⟩:=z0m O;show _=repW k (rkP k (λ z=>rkY k g (D z)) p.1) p.2;rw [em,q6l (q42 hW hk (q9p hW hk) (Int.natCast_nonneg m)) Z,qmn hW hk Z (q9p hW hk) m,qki Z]
end
theorem qfz {ws:xD} {D:Sub} (J:∀ x∈ws,∀ p∈D x,∀ z∈p.1,z∈ws):∀ (p:xD) {S:Tab},(∀ x∈p,x∈ws) ->(∀ q∈S,∀ z∈q.1,z∈ws) ->∀ q∈fillP D S p,∀ z∈q.1,z∈ws
  | [],_,_,h=>h
  | x::p,S,O,h=>qfz J p (λ y hy=>O y (z16 _ hy)) (qmw λ r hr z hz=>by
      obtain ⟨a,ha,b,hb,rfl⟩:=q92 hr;exact (z2u.mp hz).elim (h a ha z) (J x (O x (z1p ..)) b hb z))
def qr7 {ws:xD} {D:Sub} {Y:Tab} (hD:∀ x∈ws,∀ p∈D x,∀ z∈p.1,z∈ws) (hY:∀ p∈Y,∀ z∈p.1,z∈ws):∀ q∈tg (q1z D Y),∀ z∈q.1,z∈ws:=qmw λ q hq=>by
 obtain ⟨p,hp,hq⟩:=List.mem_flatMap.mp hq;exact qfz hD p.1 (hY p hp) (λ r hr=>by rw [z1m.mp hr];exact λ _ z=>nomatch z) q hq
def qty {A:Fill} {p:Str×Tab} (z:Str):fget (A++ [p]) z=(match fget A z with | some W=>some W | none=>if p.1=z then some p.2 else none):=by
 unfold fget;rw [List.find?_append];cases A.find? λ p=>decide (p.1=z) with
 | some q=>rfl
 | none=>
  show ((List.find? (λ p=>decide (p.1=z)) [p]).map (·.2))=if p.1=z then some p.2 else none
  by_cases h:p.1=z
  ·rw [if_pos h,z0s (by simpa using h)];rfl
  ·rw [if_neg h,z0t (by simpa using h)];rfl
def qtz {A:Fill} {z:Str} (h:z∉A.map (·.1)):fget A z=none:=by
 unfold fget;rw [List.find?_eq_none.mpr λ p hp e=>h (z45.mpr ⟨p,hp,of_decide_eq_true e⟩)];rfl
def qeo {A:Fill} {z:Str} {W:Tab} (h:fget A z=some W):(z,W)∈A:=by
 unfold fget at h;obtain ⟨p,J,rfl⟩:=z0q.mp h;have e:p.1=z:=of_decide_eq_true (p:=p.1=z) (List.find?_some (p:=λ p:Str×Tab=>decide (p.1=z)) J);rw [<- e];exact z0c J
def q104 {A:Fill} (nd:(A.map (·.1)).Nodup) {i:Nat} {p:Str×Tab} (h:A[i]? =some p):fget A p.1=some p.2/\p.1∉(A.take i).map (·.1):=by
 have O:=(z07.mp h).1;have Z:p.1∉(A.take i).map (·.1):=λ z=>by
  obtain ⟨q,hq,e⟩:=z45.mp z;obtain ⟨j,J⟩:=List.getElem?_of_mem hq;have jl:=(z07.mp J).1;rw [z2g] at jl;rw [List.getElem?_take,if_pos (by lia)] at J;have:=(z08.mp nd) j i (by rw [z30];lia) (by rw [z30];exact O) (by lia);rw [List.getElem_map,List.getElem_map] at this;refine this ?_;rw [(z07.mp J).2,(z07.mp h).2];exact e
 refine ⟨?_,Z⟩;unfold fget;rw [<- z0v i A,z09 O,(z07.mp h).2,List.find?_append];have:(A.take i).find? (λ q=>decide (q.1=p.1))=none:=List.find?_eq_none.mpr λ q hq e=>Z (z45.mpr ⟨q,hq,of_decide_eq_true e⟩);rw [this,z0s (by simp)];rfl
def inF (k:Kd) (f:Str ->Option Wo) (A:Fill) (z:Str):Option Wo:=
 match fget A z with
 | some W=>some (rkY k (gOf k f) W)
 | none=>f z
theorem WV.kp {G F:Hp} {d:Addr} {o:HO} (hd:G d=some o) (O:∀ xs,o≠ .lst xs) (n2:∀ xs,o≠ .tup xs) (kp:∀ a q,a≠d ->G a=some q ->F a=some q) {a:Wo} {v:V} (h:WV G a v):WV F a v:=by
 cases a with
 | num i=>exact h
 | non=>exact h
 | tr b=>exact h
 | nums l=>
  obtain ⟨p,e,h⟩:=h;exact ⟨p,e,kp _ _ (λ z=>by rw [z,hd] at h;exact O _ (Option.some.inj h)) h⟩
 | acc R=>
  obtain ⟨p,zs,e,h,tt⟩:=h;exact ⟨p,zs,e,kp _ _ (λ z=>by rw [z,hd] at h;exact O _ (Option.some.inj h)) h,q1q (λ b ys J=>kp b _ (λ z=>by rw [z,hd] at J;exact n2 _ (Option.some.inj J)) J) tt⟩
theorem WA.kp {G F:Hp} {d l:Addr} {o:HO} {Y:Tab} (hd:G d=some o) (n1:∀ xs,o≠ .lst xs) (n2:∀ xs,o≠ .tup xs) (kp:∀ a q,a≠d ->G a=some q ->F a=some q) (h:WA G l Y):WA F l Y:=by
 obtain ⟨xs,h1,h2,h3⟩:=h;exact ⟨xs,kp _ _ (λ z=>by rw [z,hd] at h1;exact n1 _ (Option.some.inj h1)) h1,q9k (λ b ys J=>kp b _ (λ z=>by rw [z,hd] at J;exact n2 _ (Option.some.inj J)) J) h2,h3⟩
def q126 (K:xA):Sp:=λ vs H Q _=>∃ (a wp:Addr) (ns:List Int) (ws:xD),vs=[.ref a,.ref wp]/\SqL K H a (ns.map V.int)/\H wp=some (.lst (ws.map V.str))/\ws.Nodup/\1<=ws.length/\ws.length<=7/\(∀ z∈ws,PyData.strOk z=true)/\
 ∀ d kvs (D:Fill) H',Same H H' ->H d=none ->H' d=some (.dK kvs) ->Paired (FP H') kvs D ->(D.map (·.1)).Nodup ->D.length<=7 ->(∀ p∈D,p.1∈ws/\W6 ws p.2/\p.2.length<=2) ->Q (.ref d) H'
theorem qpm {H:Hp}:∀ {kvs:List (Key×V)} {D:Fill},Paired (FP H) kvs D ->kvs.map (·.1)=D.map λ p=>Sum.inr p.1
 | _,_,.nil=>rfl
 | _,_,.cons a b=>by rw [z3l,z3l,qpm b,a.1]
def qep (T:Txt K mg):Def P w K mg base 2 "_law_fillings" ["_law_script","_law_words_here"] (q126 K):=by
 refine T.qg6.ok q3r (λ vs H Q E h=> ?_) λ f cdv A outer s H vs Q E hr h=> ?_
 ·obtain ⟨a,wp,ns,ws,rfl,_⟩:=h;rfl
 ·obtain ⟨a,wp,ns,ws,rfl,hS,hw,a6,w1,w7,a7,q⟩:=h;refine ⟨_,(q2p
   (qt (i:=2) q3r.nd rfl (Or.inl rfl) q54)
   (q1i PassesOwn.never rfl (q6v rfl T.q7z (pa_1 (qp (q2r K) rfl T.b_len q3w (pa_1 (pv 1))))) (qr (i:=3) q3r.nd rfl (Or.inl rfl)) (q2x
   (qt (i:=4) q3r.nd rfl (Or.inl rfl) (qy (q51 T) hr rfl (pa_2 (qy (q37 T) hr rfl (pa_2 (pv 0) (qm q1l qd (pv 3)))) qd)))
   (q1g (q13 qpx (qm q1f (q1h (q16 K) (pv 4) qd (λ _ _=>rfl)) qd) qd (q14 _)) (qg (q5f (q2a hr) (pv 2) (q1h (q16 K) (pv 1) (pv 3) (λ _ _=>rfl)) (qy (q9s T) hr rfl (pa_2 (q3p (q48 K) (pv 4) (q31 qd) (q31 (qm q1l qd (qm q4y qd (qm q1f (qm q3y (q1h (q16 K) (pv 4) qd (λ _ _=>rfl)) qd) qd))))) (pv 1))) rfl)) q18)))
   (qk (pv 2))),?_⟩
  refine λ d hd=> ?_;have s1:=qf (o:=HO.dK []) hd;refine ⟨_,rfl,_,_,rfl,.inl ⟨_,SqL.of (s1 _ _ hw),rfl⟩,_,rfl,by rw [z30];lia,by rw [z30];lia,?_⟩;rw [show ((ws.map V.str).length:Int).toNat=ws.length by rw [z30];lia];refine q8v (lo:=0) (n:=ws.length) (λ i σ G=>Same H G/\∃ (v3 v4:Option V) (kvs:List (Key×V)) (D:Fill),σ=[some (.ref a),some (.ref wp),some (.ref d),v3,v4]/\G d=some (.dK kvs)/\(∀ F,(∀ c o,c≠d ->G c=some o ->F c=some o) ->Paired (FP F) kvs D)/\(D.map (·.1)).Nodup/\D.length<=i/\∀ p∈D,p.1∈ws.take i/\W6 ws p.2/\p.2.length<=2) ⟨s1,none,none,[],[],rfl,qb,(λ _ _=> .nil),z3g,z48 _,λ _ z=>nomatch z⟩ ?_ ?_
  ·rintro i σ G hi ⟨sg,v3,v4,kvs,D,rfl,gd,hp,nd,ld,O⟩;have hg:ws[i]? =some ws[i]:=z0d hi;generalize ws[i]=z at hg;have a4:atI (ws.map V.str) (0+(i:Int))=some (V.str z):=by rw [Int.zero_add];exact q40 (by rw [z22,hg];rfl)
   have tk:ws.take (i+1)=ws.take i++ [z]:=by rw [z3h,hg];rfl
   refine ⟨_,zr,_,zr,_,_,zr,zr,a,ns,9+(0+(i:Int)),zr,sg.seq hS,by lia,_,11,zr,by decide,by decide,λ r G1 s2 _ a1=> ?_⟩;have rl:(rowF (ns.getD (9+(0+(i:Int))).toNat 0) 11).length=11:=q6m (by decide);generalize rowF (ns.getD (9+(0+(i:Int))).toNat 0) 11=is at*;have a0:atI (is.map V.int) 0=some (V.int (is.getD 0 0)):=q2t (k:=0) (by lia);refine ⟨_,rfl,_,_,_,_,rfl,rfl,SqL.of a1,a0,_,_,rfl,rfl,(by show (0:Int) < 5;decide),rfl,_,rfl,ite2 (λ _=> ?_) (λ _=> ?_)⟩
   ·refine ⟨_,rfl,_,rfl,_,rfl,_,_,_,_,rfl,rfl,SqL.of a1,a0,_,_,rfl,rfl,⟨by decide,by decide⟩,_,_,rfl,rfl,(by show (0:Int) < 3;decide),_,_,rfl,rfl,.inl ⟨by decide,by decide⟩,_,_,rfl,rfl,_,rfl,_,_,rfl,SqL.of a1,λ c Z=> ?_⟩;have x0:=z3a (is.getD 0 0 / 5) (show (3:Int)≠0 by decide);have x1:=z1w (is.getD 0 0 / 5) (show (0:Int) < 3 by decide);obtain ⟨n,en⟩:=z0m x0;obtain ⟨ms,em,lm⟩:∃ ms:List Int,cutV (is.map V.int) (some 1) (some (1+5*(is.getD 0 0 / 5%3)))=ms.map V.int/\ms.length=5*n:=by
     rw [en,show (1:Int)+5*(n:Int)=((1+5*n:Nat):Int) by lia];unfold cutV;refine ⟨(is.drop _).take _,by rw [List.map_take,List.map_drop],?_⟩;rw [z2g,z2h,show (1:Int)=((1:Nat):Int) from rfl,HT.sIx_nat,HT.sIx_nat,z30,rl]
     lia
    rw [em];have s3:=qf (o:=HO.lst (ms.map V.int)) Z;have S3:=s2.trans s3;refine ⟨_,zr,c,wp,ms,ws,n,zr,qb,lm,by lia,(sg.trans S3) _ _ hw,w1,a7,λ l W G2 s4 hl wl lW w6=> ?_⟩;have S4:=S3.trans s4;have pG:=hp G λ _ _ _ z=>z;have nz:z∉D.map (·.1):=λ y=>by
     obtain ⟨p,J,e⟩:=z45.mp y;have h1:=(O p J).1;rw [e] at h1;obtain ⟨j,hj⟩:=List.getElem?_of_mem h1;have jl:=(z07.mp hj).1;rw [z2g] at jl;rw [List.getElem?_take,if_pos (by lia)] at hj;have:=(List.getElem_inj (h₀:=by lia) (h₁:=hi) a6).mp (((z07.mp hj).2).trans ((z07.mp hg).2).symm)
     lia
    have nk:¬ (kvs.any λ kv=>decide (kv.1=Sum.inr z))=true:=λ y=>by
     obtain ⟨kv,a5,e⟩:=z2p.mp y;have:kv.1∈kvs.map (·.1):=z45.mpr ⟨kv,a5,rfl⟩;rw [qpm pG,of_decide_eq_true e] at this;obtain ⟨p,J,e2⟩:=z45.mp this;exact nz (z45.mpr ⟨p,J,Sum.inr.inj e2⟩)
    have a3:putK kvs (Sum.inr z) (V.ref l)=kvs++ [(Sum.inr z,V.ref l)]:=by
     unfold putK;rw [if_neg nk]
    have kl:kvs.length<=7:=by rw [Paired.length pG];lia
    refine ⟨_,zr,_,zr,_,zr,_,_,_,_,zr,zr,SqL.of ((sg.trans S4) _ _ hw),a4,d,_,zr,DPut.k (k:=Sum.inr z) (S4 _ _ gd) (q1p (by lia)),?_⟩;rw [a3];refine ⟨(sg.trans S4).set hd,_,_,_,D++ [(z,W)],rfl,qb,λ F hF=> ?_,?_,by rw [z1o];exact z2q ld,λ p J=> ?_⟩
    ·have a2:∀ c o,c≠d ->G2 c=some o ->F c=some o:=λ c o Z z=>hF c o Z (by rw [qh Z];exact z);have dG:=S4 _ _ gd;refine q1r (hp F λ c o Z z=>a2 c o Z (S4 _ _ z)) (.cons ⟨zr,l,zr,WA.kp dG nofun nofun a2 wl⟩ .nil)
    ·rw [z36];refine z2d.mpr ⟨nd,by simp,λ x hx y hy e=> ?_⟩;rw [show y=z by simpa using hy] at e;exact nz (e ▸ hx)
    ·rw [tk];rcases z2u.mp J with h | h
     ·exact ⟨z17 _ (O p h).1,(O p h).2⟩
     ·rw [z1m.mp h];exact ⟨z0w _ (z1m.mpr rfl),w6,by show W.length<=2;lia⟩
   ·refine ⟨sg.trans s2,_,_,kvs,D,zr,s2 _ _ gd,(λ F hF=>hp F λ c o Z z=>hF c o Z (s2 _ _ z)),nd,by lia,λ p J=>⟨?_,(O p J).2⟩⟩;rw [tk];exact z17 _ (O p J).1
  ·rintro σ G ⟨sg,v3,v4,kvs,D,rfl,gd,hp,nd,ld,O⟩;exact ⟨_,zr,q d kvs D G sg hd gd (hp G λ _ _ _ z=>z) nd (by lia) λ p J=>⟨z15 (O p J).1,(O p J).2⟩⟩
def sp_law (K:xA):Sp:=λ vs H Q _=>∃ (a:Addr) (ns:List Int),vs=[.ref a]/\SqL K H a (ns.map V.int)/\ns.length<=63/\∀ H',Q (.bl true) H'
def qxg {ws:xD} {D:Fill} (hD:∀ p∈D,p.1∈ws/\W6 ws p.2/\p.2.length<=2) (x:Str):(sb D x).length<=2/\∀ p∈sb D x,p.1.length<=3/\0<=p.2/\p.2<=10^24:=by
 unfold sb;cases e:fget D x with
 | none=>
  refine ⟨by show 1<=2;decide,λ p J=> ?_⟩;rw [z1m.mp J];exact ⟨by show 1<=3;decide,by show (0:Int)<=1;decide,by show (1:Int)<=10^24;decide⟩
 | some W=>
  obtain ⟨_,O,l2⟩:=hD _ (qeo e);exact ⟨l2,λ p J=>⟨(O.2.1.2 p J).2.1,(O.2.1.2 p J).2.2.1,(O.2.1.2 p J).2.2.2⟩⟩
def q127 {ws:xD} {D:Fill} (hD:∀ p∈D,p.1∈ws/\W6 ws p.2/\p.2.length<=2) {x:Str} (ox:PyData.strOk x=true):Bs 2 3 (2*10^24) (sb D x):=by
 unfold sb;cases e:fget D x with
 | none=>exact (qz5 ox).le (by decide) (by decide) (by decide)
 | some W=>
  obtain ⟨_,J,Z⟩:=hD _ (qeo e);have bd:Bd 2 3 (10^24) W:=⟨Z,J.2.1.2⟩;exact ⟨Z,λ p O=>⟨(J.2.1.2 p O).1,(J.2.1.2 p O).2.1,(J.2.1.2 p O).2.2.1⟩,bd.wsum (by decide)⟩
def qwm {ws:xD} {D:Fill} (hD:∀ p∈D,p.1∈ws/\W6 ws p.2/\p.2.length<=2):∀ x∈ws,∀ p∈sb D x,∀ z∈p.1,z∈ws:=λ x hx p J z hz=>by
 unfold sb at J;cases e:fget D x with
 | none=>
  rw [e] at J;rw [z1m.mp J] at hz;rw [z1m.mp hz];exact hx
 | some W=>
  rw [e] at J;exact ((hD _ (qeo e)).2.1.2.2 p J).2.2 z hz
def q128 {l:PySem.W.OpenLaw} {w:World} {K:xA} {mg:xE} {fa:Addr} (T:Txt K mg) (g5:mg "law"=some (.ref fa)):
    ∃ fd:FuncData,(∀ (s:Shared) (v:Value),BindsTo s fd ⟨[v],[]⟩ [("_law_script",v)])/\∀ base:Heap,K.In base ->base.Ns mainGlobals mg ->FnOk l.prog w K mg base CX0 8 fa fd ["_law_script"] (sp_law K):=by
  refine T.t_law.fin g5 q36 (λ vs H Q E h=> ?_) λ base f cdv A outer s H vs Q E hr h=> ?_
  · obtain ⟨a,ns,rfl,_⟩:=h
    rfl
  · obtain ⟨a,ns,rfl,hS,j2,q⟩:=h
    refine qop 10 (λ σ G=>∃ (p wp oy J dw dk o:Addr) (kd m t:Int) (ws:xD) (Y:Tab) (k:Kd) (kvs:List (Key×V)) (D:Fill),σ=[some (.ref a),some (.ref p),some (.int kd),some (.int m),some (.int t),some (.ref wp),some (.ref oy),some (.ref J),some (.ref dw),some (.ref dk),some (.ref o),none,none,none]/\WA G oy Y/\W6 ws Y/\Y.length<=3/\G J=some (.dK kvs)/\Paired (FP G) kvs D/\(D.map (·.1)).Nodup/\D.length<=7/\(∀ p∈D,p.1∈ws/\W6 ws p.2/\p.2.length<=2)/\J≠dw/\J≠dk/\At31 K mg wp dw dk o ws ns k G) ⟨_,(qkf
      (qt (i:=11) q36.nd rfl (Or.inl rfl) (q2h qf8 rfl T.qn1 qgi (pa_1 (pv 8))))
      (q1i PassesOwn.never rfl (qdy (pv 7)) (qr (i:=12) q36.nd rfl (Or.inl rfl)) (qg (q5f (q2a hr) (pv 11) (pv 12) (qy (q98 T) hr rfl (pa_3 (q2h (qa2 K) rfl T.q8r q66 (pa_1 (q4p (q2a hr) (pv 7) (pv 12) (λ _ _=>rfl)))) (pv 10) (pv 8))) rfl)))
      (qt (i:=13) q36.nd rfl (Or.inl rfl) (qy (q98 T) hr rfl (pa_3 (qy (qt9 T) hr rfl (pa_2 (q2h (qa2 K) rfl T.q8r q66 (pa_1 (pv 6))) (q2h qf8 rfl T.qn1 qgi (pa_1 (pv 7))))) (pv 10) (pv 8))))
      (qk (q6u (qy (qju T) hr rfl (pa_2 (pv 13) (qy (q98 T) hr rfl (pa_3 (q2h (qa2 K) rfl T.q8r q66 (pa_1 (pv 6))) (pv 10) (pv 11))))) (q4x (q3z (qva hr.units K) (pv 8) (pv 9) (q14 _)))))),?_⟩ (λ u hu hC=>⟨_,(q10z
      (qt (i:=1) q36.nd rfl (Or.inl rfl) (qy (q51 T) hr rfl (pa_2 (qy (q37 T) hr rfl (pa_2 (pv 0) qd)) qd)))
      (qt (i:=2) q36.nd rfl (Or.inl rfl) (qm q1f (q1h (q16 K) (pv 1) qd (λ _ _=>rfl)) qd))
      (qt (i:=3) q36.nd rfl (Or.inl rfl) (qm q1l qd (qm q1f (q1h (q16 K) (pv 1) qd (λ _ _=>rfl)) qd)))
      (qt (i:=4) q36.nd rfl (Or.inl rfl) (q1h (q16 K) (q24 (pa_2 qd (q1h (q16 K) (pv 1) qd (λ _ _=>rfl)))) (qm q1f (q1h (q16 K) (pv 1) qd (λ _ _=>rfl)) qd) (λ _ _=>rfl)))
      (qt (i:=5) q36.nd rfl (Or.inl rfl) (qy (qjs T) hr rfl (pa_2 (qy (q37 T) hr rfl (pa_2 (pv 0) qd)) (qm q1l qd (qm q1f (q1h (q16 K) (pv 1) qd (λ _ _=>rfl)) qd)))))
      (qt (i:=6) q36.nd rfl (Or.inl rfl) (qy (q9s T) hr rfl (pa_2 (qy (q51 T) hr rfl (pa_2 (qy (q37 T) hr rfl (pa_2 (pv 0) qd)) (qm q4y qd (qm q1f (q1h (q16 K) (pv 1) qd (λ _ _=>rfl)) qd)))) (pv 5))))
      (qt (i:=7) q36.nd rfl (Or.inl rfl) (qy (qep T) hr rfl (pa_2 (pv 0) (pv 5))))
      (qt (i:=8) q36.nd rfl (Or.inl rfl) (qy (q62 T) hr rfl (pa_5 (pv 2) (pv 0) (pv 5) (pv 3) (pv 4))))
      (qt (i:=9) q36.nd rfl (Or.inl rfl) (qy (q62 T) hr rfl (pa_5 (pv 2) (pv 0) (pv 5) (pv 3) (pv 4))))
      (qt (i:=10) q36.nd rfl (Or.inl rfl) (qy (qr5 T) hr rfl (pa_3 (pv 2) (pv 3) (pv 4))))
      hu),?_⟩)
    · rintro σ G ⟨p,wp,oy,J,dw,dk,o,kd,m,t,ws,Y,k,kvs,D,rfl,wY,a6,lY,O,b9,c7,lD,hD,nw,nk,hA⟩
      have hk:=hA.kok;have hW:=hA.hW;have fk:=hA.fok;have lt:=hA.lt24;have c8:NN Y:=a6.2.1.nn;have e5:∀ p∈Y,∀ z∈p.1,z∈ws:=λ p Z=>(a6.2.2 p Z).2.2;have e6:NS (sb D):=q135 λ p Z=>(hD p Z).2.1.2.1.nn;obtain ⟨kw,ew,pw⟩:=hA.one;have h7:kw.length<=7:=by
        rw [Paired.length pw];unfold q1c;rw [z30,z29];exact hA.l7
      have gg:∀ z,qi (ws.take 4) k (rkY k (gOf k (wget (q1c ws ns k ws.length))) (sb D z)):=λ z=>q1k hW hk fk.g (e6 z);have e4:∀ z,LtW k (1+2*(2*(10^24)^3*(10^24+1))) (rkY k (gOf k (wget (q1c ws ns k ws.length))) (sb D z)):=λ z=>(qtw hW hk fk.g lt (qxg hD z).2).mono (by
        have h1:=(qxg hD z).1;have h2:(0:Int)<=2*(10^24)^3*(10^24+1):=by decide+kernel
        have h3:=Int.mul_le_mul_of_nonneg_right (show ((sb D z).length:Int)<=2 by lia) h2
        lia)
      have eF:∀ z,gOf k (inF k (wget (q1c ws ns k ws.length)) D) z=rkY k (gOf k (wget (q1c ws ns k ws.length))) (sb D z):=λ z=>by
        unfold gOf inF sb;cases e:fget D z with
        | some W=>rfl
        | none=>exact (qzw hW hk fk.g z).symm
      have eg:gOf k (inF k (wget (q1c ws ns k ws.length)) D)=λ z=>rkY k (gOf k (wget (q1c ws ns k ws.length))) (sb D z):=funext eF;have b1:(1+2*(2*(10^24)^3*(10^24+1)):Int)<=2^1200:=by decide+kernel
      have b3:(2*(1+2*(2*(10^24)^3*(10^24+1)))^3:Int)<=2^1200:=by decide+kernel
      have d3:FOk (ws.take 4) k (inF k (wget (q1c ws ns k ws.length)) D):=⟨hk,hW,fk.tW,λ z x e=>by
          have:=eF z;unfold gOf at this;rw [e] at this;rw [show x=_ from this];exact gg z,λ z=>by
          rw [eF];exact (e4 z).mono b1⟩
      have big:(10^24:Int) < 2^1200:=by decide+kernel
      have j0:YOk k (gOf k (inF k (wget (q1c ws ns k ws.length)) D)) Y:=λ p Z=>by
        rw [eg];exact ⟨z1v (a6.2.1.2 p Z).2.2.2 big,λ i=>(qpj (n:=3) (by decide+kernel) hW hk gg e4 (z41 (by rw [z2g];lia) (a6.2.1.2 p Z).2.1)).mono b3⟩
      have f6:Bs 3 3 (3*10^24) Y:=by
        have bd:Bd 3 3 (10^24) Y:=⟨lY,a6.2.1.2⟩;exact ⟨lY,λ p Z=>⟨(a6.2.1.2 p Z).1,(a6.2.1.2 p Z).2.1,(a6.2.1.2 p Z).2.2.1⟩,bd.wsum (by decide)⟩
      obtain ⟨fok,d1⟩:=qz4 (D:=D) (m:=2) (M:=3) (d:=2*10^24) f6 (λ x ox=>q127 hD ox) (by decide) (by decide) (by decide) (by decide) (by decide+kernel) (by decide);have d0:(3*10^24*(2*10^24)^3:Int) < 2^1200:=by decide+kernel
      have j1:=hA.yok (Y:=tg (q1z (sb D) Y)) λ p Z=>⟨(d1.2.1 p Z).2.1,z1v (qqw d1 Z) d0⟩;have h9:=qr7 (qwm hD) e5;have eR:rkY k (gOf k (wget (q1c ws ns k ws.length))) (tg (q1z (sb D) Y))=rkY k (gOf k (inF k (wget (q1c ws ns k ws.length)) D)) Y:=by
        rw [qtq hW hk fk.g (qp2 c8),qmy hW hk fk.g e6 c8,eg]
      have gR:qi (ws.take 4) k (rkY k (gOf k (inF k (wget (q1c ws ns k ws.length)) D)) Y):=q1k hW hk d3.g c8;have h4:∀ p∈Y,∀ n∈p.1,∃ x,inF k (wget (q1c ws ns k ws.length)) D n=some x:=λ p Z n hn=>by
        unfold inF;cases fget D n with
        | some W=>exact ⟨_,rfl⟩
        | none=>exact qph (e5 p Z n hn)
      refine ⟨_,zr,dw,kw,zr,.inl ew,λ dI hI=> ?_⟩;have b7:J≠dI:=λ z=>by rw [z,hI] at O;cases O
      refine ⟨_,rfl,J,kvs,rfl,.inl ⟨by rw [qh b7];exact O,λ ob=> ?_⟩⟩;have kp:∀ c x,c≠J ->G c=some x ->upd G J (.frz ob (.dK kvs)) c=some x:=λ c x hc h=>by rw [qh hc];exact h
      have d6:At31 K mg wp dw dk o ws ns k (upd G J (.frz ob (.dK kvs))):=by
        obtain ⟨kk,ek,pk⟩:=hA.two;obtain ⟨dx,hB⟩:=hA.by_;have f4:∀ {ka:List (Key×V)} {E:List (Str×Wo)},Paired (WPair G) ka E ->Paired (WPair (upd G J (.frz ob (.dK kvs)))) ka E:=λ h=>L2.Paired.mapP h λ _ _ z=>⟨z.1,WV.kp O nofun nofun kp z.2⟩;exact ⟨hk,kp _ _ (λ z=>by have:=hA.words;rw [z,O] at this;cases this) hA.words,hA.nd,hA.tx,hA.l7,⟨kw,kp _ _ (Ne.symm nw) ew,f4 pw⟩,⟨kk,kp _ _ (Ne.symm nk) ek,f4 pk⟩,⟨dx,kp _ _ (λ z=>by rw [z,O] at hB;cases hB) hB⟩⟩
      have i8:WA (upd G J (.frz ob (.dK kvs))) oy Y:=WA.kp O nofun nofun kp wY;have c0:Paired (FP (upd G J (.frz ob (.dK kvs)))) kvs D:=L2.Paired.mapP b9 λ _ _ ⟨e,l,e2,w⟩=>⟨e,l,e2,WA.kp O nofun nofun kp w⟩;have c1:upd G J (.frz ob (.dK kvs)) J=some (.frz ob (.dK kvs)):=qb;have g3:upd G J (.frz ob (.dK kvs)) dI=none:=by rw [qh (Ne.symm b7)];exact hI
      have f0:Same (upd G J (.frz ob (.dK kvs))) (upd (upd G dI (.dK kw)) J (.frz ob (.dK kvs))):=λ c x h=>by
        by_cases z:c=J
        · subst z
          rw [qb] at h ⊢;exact h
        · rw [qh z] at h ⊢
          rw [qh (λ y:c=dI=>by rw [y,hI] at h;cases h)];exact h
      have e0:upd (upd G dI (.dK kw)) J (.frz ob (.dK kvs)) dI=some (.dK kw):=by rw [qh (Ne.symm b7)];exact qb
      have i7:Paired (WPair (upd G J (.frz ob (.dK kvs)))) kw (q1c ws ns k ws.length):=L2.Paired.mapP pw λ _ _ z=>⟨z.1,WV.kp O nofun nofun kp z.2⟩;generalize upd G J (.frz ob (.dK kvs))=Gb at*;generalize upd (upd G dI (.dK kw)) J (.frz ob (.dK kvs))=G2 at*;have lK:kvs.length=D.length:=Paired.length c0;refine qv3 (a:=J) (o:=ob) (kvs:=kvs) (λ i σ F=>Same Gb F/\(∃ v,σ=[some (.ref a),some (.ref p),some (.int kd),some (.int m),some (.int t),some (.ref wp),some (.ref oy),some (.ref J),some (.ref dw),some (.ref dk),some (.ref o),some (.ref dI),v,none])/\∃ kv,F dI=some (.dK kv)/\kv.length<=7+i/\∀ z,inF k (wget (q1c ws ns k ws.length)) (D.take i) z=none\/ ∃ x v,inF k (wget (q1c ws ns k ws.length)) (D.take i) z=some x/\valV kv (Sum.inr z)=some v/\WV F x v)
        ⟨f0,⟨_,rfl⟩,kw,e0,h7,λ z=> ?_⟩ (λ i σ F _ z=>z.1 _ _ c1) ?_ ?_
      · have h1:=qmv z i7
        show wget _ z=none\/ _;rcases h1 with ⟨h1,_⟩ | ⟨x,v,h1,h2,h3⟩
        · exact .inl h1
        · exact .inr ⟨x,v,h1,h2,h3.same f0⟩
      · rintro i kv σ F g6 ⟨sF,⟨v,rfl⟩,c6,e1,l1,h1⟩
        have b2:=q6i sF c0;obtain ⟨pr,b4,ek,l,el,wl⟩:=q2f b2 g6;have a9:=d6.same sF;obtain ⟨fg,h8⟩:=q104 c7 b4;obtain ⟨hx,w6,l2⟩:=hD pr (z18 b4);have il:=(z07.mp b4).1;have g9:D.take (i+1)=D.take i++ [pr]:=by rw [z3h,b4];rfl
        rw [show kV kv.1=V.str pr.1 by rw [ek];rfl];rcases qm6 pr.1 b2 with ⟨_,e3⟩ | ⟨l',W',e2,e3,w'⟩
        · rw [fg] at e3
          cases e3
        rw [fg] at e3;cases e3
        have dg:DGet F J (.str pr.1) (some (.ref l')):= .inl ⟨kvs,Sum.inr pr.1,.inr ⟨ob,sF _ _ c1⟩,rfl,e2.symm⟩;refine ⟨_,zr,_,zr,J,_,zr,dg,l',_,zr,.inl (SqL.of w'.lst),λ c hc=> ?_⟩;have s1:=qf (o:=HO.lst w'.xs) hc;have a8:=a9.same s1;have i6:∀ p∈pr.2,∀ z∈p.1,z∈ws:=λ p Z=>(w6.2.2 p Z).2.2;refine ⟨_,zr,_,zr,c,o,dw,pr.2,k,_,ws.take 4,zr,w'.copy hc,a8.by_,a8.wd,fk,a8.names i6,a8.yok (λ p Z=>⟨z41 (w6.2.1.2 p Z).2.1 (by decide),z1v (w6.2.1.2 p Z).2.2.2 big⟩),λ zz F1 t1 _ v1=> ?_⟩;have S1:=s1.trans t1;have eI:=S1 _ _ e1;refine ⟨_,zr,_,zr,dI,_,zr,DPut.k (k:=Sum.inr pr.1) eI (q1p (by lia)),?_⟩;refine ⟨(sF.trans S1).set g3,⟨_,zr⟩,_,qb,z41 (q41 _ _ _) (by lia),λ z=> ?_⟩;have kI:∀ c x,c≠dI ->F1 c=some x ->upd F1 dI (.dK (putK c6 (Sum.inr pr.1) zz)) c=some x:=λ c x hc h=>by rw [qh hc];exact h
        have f9:inF k (wget (q1c ws ns k ws.length)) (D.take (i+1)) z=if z=pr.1 then some (rkY k (gOf k (wget (q1c ws ns k ws.length))) pr.2) else inF k (wget (q1c ws ns k ws.length)) (D.take i) z:=by
          rw [g9];unfold inF;rw [qty];by_cases h:z=pr.1
          · rw [if_pos h,h,qtz h8]
            show (match (if pr.1=pr.1 then some pr.2 else none) with | some W=>_ | none=>_)=_;rw [if_pos rfl]
          · rw [if_neg h]
            cases fget (D.take i) z with
            | some W=>rfl
            | none=>
              show (match (if pr.1=z then some pr.2 else none) with | some W=>_ | none=>_)=_;rw [if_neg (Ne.symm h)]
        rw [f9,q47];by_cases h:z=pr.1
        · rw [if_pos h,if_pos (by rw [h])]
          exact .inr ⟨_,zz,zr,zr,WV.kp eI nofun nofun kI v1⟩
        · rw [if_neg h,if_neg (λ e=>h (Sum.inr.inj e))]
          exact (h1 z).imp id λ ⟨x,v,a1,a2,a3⟩=>⟨x,v,a1,a2,WV.kp eI nofun nofun kI (a3.same S1)⟩
      · rintro σ F ⟨sF,⟨v,rfl⟩,c6,e1,_,h1⟩
        rw [lK,z2t] at h1;have i9:WD F dI (inF k (wget (q1c ws ns k ws.length)) D):=⟨c6,.inl e1,h1⟩;have a9:=d6.same sF;have b6:=i8.same sF;have b2:=q6i sF c0;refine ⟨_,zr,oy,_,zr,.inl (SqL.of b6.lst),λ c hc=> ?_⟩;have s1:=qf (o:=HO.lst b6.xs) hc;refine ⟨_,zr,J,kvs,zr,.inr ⟨ob,(sF.trans s1) _ _ c1⟩,λ d2 g4=> ?_⟩;have s2:=qf (o:=HO.dK kvs) g4;have S2:=s1.trans s2;refine ⟨c,d2,Y,D,zr,(b6.copy hc).same s2,⟨kvs,.inl qb,q6i S2 b2⟩,fok,λ qq F3 s3 _ wq=> ?_⟩;have S3:=S2.trans s3;have b8:=a9.same S3;refine ⟨_,zr,_,zr,qq,o,dw,_,k,_,ws.take 4,zr,wq,b8.by_,b8.wd,fk,b8.names h9,j1,λ z1 F4 t4 _ v1=> ?_⟩;rw [eR] at v1;have S4:=S3.trans t4;have c9:=b6.same S4;refine ⟨_,zr,_,zr,oy,_,zr,.inl (SqL.of c9.lst),λ c2 d7=> ?_⟩;have s5:=qf (o:=HO.lst c9.xs) d7;have S5:=S4.trans s5;have d4:=a9.same S5;refine ⟨_,zr,_,zr,c2,o,dI,Y,k,_,ws.take 4,zr,c9.copy d7,d4.by_,i9.same S5,d3,h4,j0,λ z2 F6 t6 _ v2=> ?_⟩;refine ⟨z1,z2,_,zr,(v1.same (s5.trans t6)).dat hW gR,v2.dat hW gR,qmg _,?_⟩;have d5:=d4.same t6;obtain ⟨h6,f1,p1⟩:=d5.one;obtain ⟨h5,f2,p2⟩:=d5.two;exact ⟨_,zr,iteT ⟨_,zr,_,zr,dw,dk,h6,h5,zr,zr,.inl f1,.inl f2,qpl hW (qtx hW hk) p1 p2,q _⟩⟩
    · refine ⟨_,zr,a,ns,0,zr,hS,by decide,_,7,zr,by decide,by decide,λ p H1 s1 hpn Z=> ?_⟩
      have rl:(rowF (ns.getD (Int.toNat 0) 0) 7).length=7:=q6m (by decide);have gt:=qwf (ns.getD (Int.toNat 0) 0) 7;generalize rowF (ns.getD (Int.toNat 0) 0) 7=is at*;have a0:atI (is.map V.int) 0=some (V.int (is.getD 0 0)):=q2t (k:=0) (by lia);have a1:atI (is.map V.int) 1=some (V.int (is.getD 1 0)):=q2t (k:=1) (by lia);have a2:atI (is.map V.int) 2=some (V.int (is.getD 2 0)):=q2t (k:=2) (by lia);have a3:atI (is.map V.int) 3=some (V.int (is.getD 3 0)):=q2t (k:=3) (by lia);have a4:atI (is.map V.int) 4=some (V.int (is.getD 4 0)):=q2t (k:=4) (by lia);have a5:atI (is.map V.int) 5=some (V.int (is.getD 5 0)):=q2t (k:=5) (by lia);have g2:=(gt 2).1;generalize is.getD 0 0=i0 at*;generalize is.getD 1 0=i1 at*;generalize is.getD 2 0=i2 at*;generalize is.getD 3 0=i3 at*;generalize is.getD 4 0=i4 at*;generalize is.getD 5 0=i5 at*;have hm:1<=1+i1%9/\1+i1%9<=9:=by lia
      refine ⟨_,rfl,_,_,_,_,rfl,rfl,SqL.of Z,a0,_,_,rfl,rfl,(by show (0:Int) < 6;decide),?_⟩;refine ⟨_,rfl,_,_,_,_,rfl,rfl,SqL.of Z,a1,_,_,rfl,rfl,(by show (0:Int) < 9;decide),_,_,rfl,rfl,?_⟩;refine ⟨_,rfl,_,_,_,_,rfl,rfl,SqL.of Z,a2,by show 2<=sizeLine;decide,λ L hL=> ?_⟩;have uL:=qf (o:=HO.lst ([100,i2].map V.int)) hL;have f5:=qmh (ns:=[100,i2]) (i:=i3%2) (z3a _ (by decide)) (z1w _ (by decide));refine ⟨_,rfl,_,_,_,_,rfl,rfl,SqL.of (uL _ _ Z),a3,_,_,rfl,rfl,(by show (0:Int) < 2;decide),_,_,_,_,rfl,rfl,SqL.of qb,f5,?_⟩;have ht:0<=[100,i2].getD (i3%2).toNat 0:=by
        have:(i3%2).toNat=0\/ (i3%2).toNat=1:=by lia
        rcases this with e | e <;> rw [e]
        · show (0:Int)<=100
          decide
        · exact g2
      generalize [100,i2].getD (i3%2).toNat 0=t at*;have s2:=s1.trans uL;have d8:=uL _ _ Z;refine ⟨_,rfl,a,ns,1,rfl,s2.seq hS,by decide,_,rfl,_,_,_,_,rfl,rfl,SqL.of d8,a4,_,_,rfl,rfl,(by show (0:Int) < 5;decide),_,_,rfl,rfl,_,1+i4%5,rfl,by lia,by lia,λ wp ws H3 s3 _ hw lw nd tx=> ?_⟩;have e7:=s2.trans s3;have g7:=s3 _ _ d8;have wl:1<=ws.length:=by lia
      have f3:∀ z∈ws,PyData.strOk z=true:=λ z hz=>(tx z hz).2.1.ok;have b5:0<=i5%4:=z3a _ (by decide);refine ⟨_,rfl,a,ns,8,rfl,e7.seq hS,by decide,_,rfl,_,_,_,_,rfl,rfl,SqL.of g7,a5,_,_,rfl,rfl,(by show (0:Int) < 4;decide),_,_,rfl,rfl,.inl ⟨by decide,by decide⟩,_,5*(i5%4),rfl,by lia,by lia,λ r1 H4 s4 _ g8=> ?_⟩;refine ⟨_,rfl,r1,wp,_,ws,(i5%4).toNat,rfl,g8,by rw [q6m (by lia)];lia,by lia,s4 _ _ hw,wl,f3,λ oy Y H5 s5 _ wY lY a6=> ?_⟩;have e8:=e7.trans (s4.trans s5);have d9:=(s4.trans s5) _ _ hw;refine ⟨_,zr,_,zr,a,wp,ns,ws,zr,e8.seq hS,d9,nd,wl,by lia,f3,λ J kvs D H7 s7 _ O b9 c7 lD hD=> ?_⟩;have e9:=e8.trans s7;have c5:=s7 _ _ d9;have ne:endW∉ws:=λ z=>absurd (tx _ z).2.2 (by decide+kernel);obtain ⟨k,ek,c4,hk⟩:=q13b (c:=i0%6) (z3a _ (by decide)) (z1w _ (by decide)) hm ht;refine ⟨_,rfl,_,rfl,_,rfl,_,rfl,_,rfl,k,a,wp,ns,_,t,ws,by rw [ek];rfl,c4,hk,hm,ht,e9.seq hS,c5,nd,ne,by lia,λ dw kw H8 s8 f8 g1 pw=> ?_⟩;refine ⟨_,rfl,_,rfl,_,rfl,_,rfl,_,rfl,k,a,wp,ns,_,t,ws,by rw [ek];rfl,c4,hk,hm,ht,(e9.trans s8).seq hS,s8 _ _ c5,nd,ne,by lia,λ dk kk H9 s9 f7 g0 pk=> ?_⟩;refine ⟨_,rfl,_,rfl,_,rfl,k,_,t,by rw [ek];rfl,c4,λ o H10 a7 hB=> ?_⟩;have sE:=s8.trans (s9.trans a7);exact hC _ _ ⟨p,wp,oy,J,dw,dk,o,_,_,t,ws,Y,k,kvs,D,rfl,wY.same (s7.trans sE),a6,by lia,sE _ _ O,q6i sE b9,c7,lD,hD,(λ z=>by rw [z,f8] at O;cases O),(λ z=>by have:=s8 _ _ O;rw [z,f7] at this;cases this),⟨hk,(s8.trans (s9.trans a7)) _ _ c5,nd,tx,by lia,⟨kw,(s9.trans a7) _ _ g1,WPair.same (s9.trans a7) pw⟩,⟨kk,a7 _ _ g0,WPair.same a7 pk⟩,hB⟩⟩
open PySem.W in
def qmz {K:xA} {h:Heap} {mg:xE} (X:K.In h) (G:h.Ns mainGlobals mg) {aR aS aT aU aV aW:Tok} {aL aM aH aN aX aI aO aY:Addr} {aZ a0 a1 a2 aP a3 a4 a5 a6 a7 a8 aQ a9 aa:Value} {ab ac ad ae af ag:Option Addr} {ah ai aj ak:Array (Option Value)}
  (al:nsIn K mainGlobals "abs"=some none)
  (am:nsIn K mainGlobals "all"=some none)
  (an:nsIn K mainGlobals "any"=some none)
  (ao:nsIn K mainGlobals "bool"=some none)
  (ap:nsIn K mainGlobals "dict"=some none)
  (aq:nsIn K mainGlobals "int"=some none)
  (ar:nsIn K mainGlobals "isinstance"=some none)
  (as:nsIn K mainGlobals "len"=some none)
  (au:nsIn K mainGlobals "list"=some none)
  (av:nsIn K mainGlobals "max"=some none)
  (aw:nsIn K mainGlobals "min"=some none)
  (ax:nsIn K mainGlobals "range"=some none)
  (ay:nsIn K mainGlobals "set"=some none)
  (az:nsIn K mainGlobals "sorted"=some none)
  (bA:nsIn K mainGlobals "str"=some none)
  (bB:nsIn K mainGlobals "tuple"=some none)
  (bC:nsIn K mainGlobals "SMALL_LETTERS"=some (some (.str "abcdefghijklmnopqrstuvwxyz" aR)))
  (bD:nsIn K mainGlobals "FURTHER_SIGNS"=some (some (.str "abcdefghijklmnopqrstuvwxyz0123456789" aS)))
  (bE:nsIn K mainGlobals "MOST_SIGNS"=some (some (.int 12 aT)))
  (bF:nsIn K mainGlobals "END"=some (some (.str "" aU)))
  (bG:FiK K "is_whole" qa9)
  (bH:FiK K "is_text_begun_by" q4b)
  (bI:FiK K "is_word" qbo)
  (bJ:FiK K "of_fact" qbp)
  (bK:FiK K "count_in" qaa)
  (bL:FiK K "told_as_why" q77)
  (bM:FiK K "gathered" qab)
  (bN:FiK K "times" qgo)
  (bO:FiK K "names_of" qac)
  (bP:FiK K "product_filled" q56)
  (bQ:FiK K "filled" qe0)
  (bR:FiK K "ask_worths" q89)
  (bS:FiK K "product_reckoned" q4c)
  (bT:FiK K "reckoned" qad)
  (bU:FiK K "is_tuple_of_words" q43)
  (bV:FiK K "is_accord" q95)
  (bW:FiK K "put_into" qae)
  (bX:FiK K "kids_within" q78)
  (bY:FiK K "has_one_within" q57)
  (bZ:FiK K "once_by_size" q69)
  (b0:FiK K "thinned" qbq)
  (b1:FiK K "agreed" qe1)
  (b2:FiK K "_law_cell_at" q6g)
  (b3:FiK K "_law_row" qaf)
  (b4:FiK K "_law_word" q96)
  (b5:FiK K "_law_words" q8j)
  (b6:FiK K "_law_why_by" q7i)
  (b7:FiK K "_law_within" q7j)
  (b8:FiK K "_law_accord" q7k)
  (b9:FiK K "_law_by" qbr)
  (ba:FiK K "_law_worth" q8k)
  (bb:FiK K "_law_many_worths" q4f)
  (bc:FiK K "_law_alike" q8l)
  (bd:FiK K "_law_fillings" q5t)
  (be:FiK K "law" qqm)
  (bf:nsIn K mainGlobals "Bests"=some (some (.ref aL)))
  (bg:nsIn K mainGlobals "Trusts"=some (some (.ref aM)))
  (J:CiK K "Reckoning")
  (bh:AiK K "Reckoning" "__init__" (some (some (.builtin "object.__init__"))))
  (bi:AiK K "Reckoning" "either" (some none))
  (bj:AiK K "Reckoning" "nought" (some none))
  (bk:MiK K "Reckoning" "repeated" "Reckoning.repeated" q5m)
  (O:CiK K "Counts")
  (bl:AiK K "Counts" "__init__" (some (some (.builtin "object.__init__"))))
  (bm:MiK K "Counts" "fits" "Counts.fits" q79)
  (bn:MiK K "Counts" "nought" "Counts.nought" q5n)
  (bo:MiK K "Counts" "unit" "Counts.unit" q7a)
  (bp:MiK K "Counts" "either" "Counts.either" q5o)
  (bq:MiK K "Counts" "both" "Counts.both" q7b)
  (br:MiK K "Counts" "repeated" "Counts.repeated" q4t)
  (Z:CiK K "Costs")
  (bs:AiK K "Costs" "__init__" (some (some (.builtin "object.__init__"))))
  (bt:MiK K "Costs" "fits" "Costs.fits" q8a)
  (bu:MiK K "Costs" "nought" "Costs.nought" q6a)
  (bv:MiK K "Costs" "unit" "Costs.unit" q8b)
  (bw:MiK K "Costs" "either" "Costs.either" q6b)
  (bx:MiK K "Costs" "both" "Costs.both" q8c)
  (bz:MiK K "Costs" "repeated" "Reckoning.repeated" q58)
  (aD:CiK K "Bests")
  (cA:AiK K "Bests" "most" (some none))
  (cB:findIn K (.ref aL) "__init__"=some (some (.ref aH))) (cC:isFn K (.ref aH)=true)
  (cD:K.lookup aH=some ⟨aZ,ab,.func (fnOf "__init__" "Bests.__init__" (q1s q4d) (q1e q4d) (qc q4d) (.ref aN) a0 a1 a2 ac aP a3),ah⟩)
  (cE:codeIn K aP "Bests.__init__"=true)
  (aJ:K.lookup aN=some ⟨a4,ad,.seq #[.int 3 aV] aX,ai⟩)
  (cF:MiK K "Bests" "least_ones" "Bests.least_ones" q4e)
  (cG:MiK K "Bests" "fits" "Bests.fits" q8d)
  (cH:MiK K "Bests" "nought" "Bests.nought" q6c)
  (cI:MiK K "Bests" "unit" "Bests.unit" q8e)
  (cJ:MiK K "Bests" "either" "Bests.either" q6d)
  (cK:MiK K "Bests" "both" "Bests.both" q8f)
  (cL:MiK K "Bests" "repeated" "Bests.repeated" q59)
  (aE:CiK K "Trusts")
  (cM:AiK K "Trusts" "top" (some none))
  (cN:findIn K (.ref aM) "__init__"=some (some (.ref aI))) (cO:isFn K (.ref aI)=true)
  (cP:K.lookup aI=some ⟨a5,ae,.func (fnOf "__init__" "Trusts.__init__" (q1s q3x) (q1e q3x) (qc q3x) (.ref aO) a6 a7 a8 af aQ a9),aj⟩)
  (cQ:codeIn K aQ "Trusts.__init__"=true)
  (aK:K.lookup aO=some ⟨aa,ag,.seq #[.int 100 aW] aY,ak⟩)
  (cR:MiK K "Trusts" "fits" "Trusts.fits" q7c)
  (cS:MiK K "Trusts" "nought" "Trusts.nought" q5p)
  (cT:MiK K "Trusts" "unit" "Trusts.unit" q7d)
  (cU:MiK K "Trusts" "either" "Trusts.either" q5q)
  (cV:MiK K "Trusts" "both" "Trusts.both" q7e)
  (cW:MiK K "Trusts" "repeated" "Reckoning.repeated" q4u)
  (aF:CiK K "Truths")
  (cX:AiK K "Truths" "__init__" (some (some (.builtin "object.__init__"))))
  (cY:MiK K "Truths" "fits" "Truths.fits" q7f)
  (cZ:MiK K "Truths" "nought" "Truths.nought" q5r)
  (c0:MiK K "Truths" "unit" "Truths.unit" q7g)
  (c1:MiK K "Truths" "either" "Truths.either" q5s)
  (c2:MiK K "Truths" "both" "Truths.both" q7h)
  (c3:MiK K "Truths" "repeated" "Reckoning.repeated" q4v)
  (aG:CiK K "Hands")
  (c4:AiK K "Hands" "__init__" (some (some (.builtin "object.__init__"))))
  (c5:MiK K "Hands" "fits" "Hands.fits" q8g)
  (c6:MiK K "Hands" "nought" "Hands.nought" q6e)
  (c7:MiK K "Hands" "unit" "Hands.unit" q8h)
  (c8:MiK K "Hands" "either" "Hands.either" q6f)
  (c9:MiK K "Hands" "both" "Hands.both" q8i)
  (ca:MiK K "Hands" "repeated" "Reckoning.repeated" q5a):Txt K mg:=
 ⟨z1x X G al,
  z1x X G am,
  z1x X G an,
  z1x X G ao,
  z1x X G ap,
  z1x X G aq,
  z1x X G ar,
  z1x X G as,
  z1x X G au,
  z1x X G av,
  z1x X G aw,
  z1x X G ax,
  z1x X G ay,
  z1x X G az,
  z1x X G bA,
  z1x X G bB,
  ⟨_,z3r X G bC⟩,
  ⟨_,z3r X G bD⟩,
  ⟨_,z3r X G bE⟩,
  ⟨_,z3r X G bF⟩,
  bG.top X G (λ _ _ _ _ _ _=>us1 λ _=>rfl),
  bH.top X G (λ _ _ _ _ _ _=>us2 λ _ _=>rfl),
  bI.top X G (λ _ _ _ _ _ _=>us1 λ _=>rfl),
  bJ.top X G (λ _ _ _ _ _ _=>us1 λ _=>rfl),
  bK.top X G (λ _ _ _ _ _ _=>us3 λ _ _ _=>rfl),
  bL.top X G (λ _ _ _ _ _ _=>us1 λ _=>rfl),
  bM.top X G (λ _ _ _ _ _ _=>us1 λ _=>rfl),
  bN.top X G (λ _ _ _ _ _ _=>us2 λ _ _=>rfl),
  bO.top X G (λ _ _ _ _ _ _=>us1 λ _=>rfl),
  bP.top X G (λ _ _ _ _ _ _=>us3 λ _ _ _=>rfl),
  bQ.top X G (λ _ _ _ _ _ _=>us2 λ _ _=>rfl),
  bR.top X G (λ _ _ _ _ _ _=>us3 λ _ _ _=>rfl),
  bS.top X G (λ _ _ _ _ _ _=>us3 λ _ _ _=>rfl),
  bT.top X G (λ _ _ _ _ _ _=>us3 λ _ _ _=>rfl),
  bU.top X G (λ _ _ _ _ _ _=>us1 λ _=>rfl),
  bV.top X G (λ _ _ _ _ _ _=>us1 λ _=>rfl),
  bW.top X G (λ _ _ _ _ _ _=>us2 λ _ _=>rfl),
  bX.top X G (λ _ _ _ _ _ _=>us2 λ _ _=>rfl),
  bY.top X G (λ _ _ _ _ _ _=>us2 λ _ _=>rfl),
  bZ.top X G (λ _ _ _ _ _ _=>us1 λ _=>rfl),
  b0.top X G (λ _ _ _ _ _ _=>us1 λ _=>rfl),
  b1.top X G (λ _ _ _ _ _ _=>us2 λ _ _=>rfl),
  b2.top X G (λ _ _ _ _ _ _=>us2 λ _ _=>rfl),
  b3.top X G (λ _ _ _ _ _ _=>us2 λ _ _=>rfl),
  b4.top X G (λ _ _ _ _ _ _=>us1 λ _=>rfl),
  b5.top X G (λ _ _ _ _ _ _=>us2 λ _ _=>rfl),
  b6.top X G (λ _ _ _ _ _ _=>us2 λ _ _=>rfl),
  b7.top X G (λ _ _ _ _ _ _=>us2 λ _ _=>rfl),
  b8.top X G (λ _ _ _ _ _ _=>us2 λ _ _=>rfl),
  b9.top X G (λ _ _ _ _ _ _=>us3 λ _ _ _=>rfl),
  ba.top X G (λ _ _ _ _ _ _=>us5 λ _ _ _ _ _=>rfl),
  bb.top X G (λ _ _ _ _ _ _=>us5 λ _ _ _ _ _=>rfl),
  bc.top X G (λ _ _ _ _ _ _=>us2 λ _ _=>rfl),
  bd.top X G (λ _ _ _ _ _ _=>us2 λ _ _=>rfl),
  be.top X G (λ _ _ _ _ _ _=>us1 λ _=>rfl),
  J.g X G,
  J.cl X G,
  J.mk' X G,
  J.kp X G,
  bh.at' X G,
  bi.at' X G,
  bj.at' X G,
  bk.top X G (λ _ _ _ _ _ _=>us3 λ _ _ _=>rfl),
  O.g X G,
  O.cl X G,
  O.mk' X G,
  O.kp X G,
  bl.at' X G,
  bm.top X G (λ _ _ _ _ _ _=>us2 λ _ _=>rfl),
  bn.top X G (λ _ _ _ _ _ _=>us1 λ _=>rfl),
  bo.top X G (λ _ _ _ _ _ _=>us1 λ _=>rfl),
  bp.top X G (λ _ _ _ _ _ _=>us3 λ _ _ _=>rfl),
  bq.top X G (λ _ _ _ _ _ _=>us3 λ _ _ _=>rfl),
  br.top X G (λ _ _ _ _ _ _=>us3 λ _ _ _=>rfl),
  Z.g X G,
  Z.cl X G,
  Z.mk' X G,
  Z.kp X G,
  bs.at' X G,
  bt.top X G (λ _ _ _ _ _ _=>us2 λ _ _=>rfl),
  bu.top X G (λ _ _ _ _ _ _=>us1 λ _=>rfl),
  bv.top X G (λ _ _ _ _ _ _=>us1 λ _=>rfl),
  bw.top X G (λ _ _ _ _ _ _=>us3 λ _ _ _=>rfl),
  bx.top X G (λ _ _ _ _ _ _=>us3 λ _ _ _=>rfl),
  bz.top X G (λ _ _ _ _ _ _=>us3 λ _ _ _=>rfl),
  aD.g X G,
  aD.cl X G,
  aD.mk' X G,
  aD.kp X G,
  cA.at' X G,
  (by rw [q8z (z3r X G bf)];exact qos cB cC cD cE ⟨_,rfl⟩ (λ s v X=>z3b X rfl aJ rfl rfl rfl) (λ s v z X=>(by first | exact .of_eq rfl | exact z3b X rfl aJ rfl rfl rfl)) (λ s v z X=>(by first | exact .of_eq rfl | exact z3b X rfl aJ rfl rfl rfl))),
  cF.top X G (λ _ _ _ _ _ _=>us2 λ _ _=>rfl),
  cG.top X G (λ _ _ _ _ _ _=>us2 λ _ _=>rfl),
  cH.top X G (λ _ _ _ _ _ _=>us1 λ _=>rfl),
  cI.top X G (λ _ _ _ _ _ _=>us1 λ _=>rfl),
  cJ.top X G (λ _ _ _ _ _ _=>us3 λ _ _ _=>rfl),
  cK.top X G (λ _ _ _ _ _ _=>us3 λ _ _ _=>rfl),
  cL.top X G (λ _ _ _ _ _ _=>us3 λ _ _ _=>rfl),
  aE.g X G,
  aE.cl X G,
  aE.mk' X G,
  aE.kp X G,
  cM.at' X G,
  (by rw [q8z (z3r X G bg)];exact qos cN cO cP cQ ⟨_,rfl⟩ (λ s v X=>z3b X rfl aK rfl rfl rfl) (λ s v z X=>(by first | exact .of_eq rfl | exact z3b X rfl aK rfl rfl rfl)) (λ s v z X=>(by first | exact .of_eq rfl | exact z3b X rfl aK rfl rfl rfl))),
  cR.top X G (λ _ _ _ _ _ _=>us2 λ _ _=>rfl),
  cS.top X G (λ _ _ _ _ _ _=>us1 λ _=>rfl),
  cT.top X G (λ _ _ _ _ _ _=>us1 λ _=>rfl),
  cU.top X G (λ _ _ _ _ _ _=>us3 λ _ _ _=>rfl),
  cV.top X G (λ _ _ _ _ _ _=>us3 λ _ _ _=>rfl),
  cW.top X G (λ _ _ _ _ _ _=>us3 λ _ _ _=>rfl),
  aF.g X G,
  aF.cl X G,
  aF.mk' X G,
  aF.kp X G,
  cX.at' X G,
  cY.top X G (λ _ _ _ _ _ _=>us2 λ _ _=>rfl),
  cZ.top X G (λ _ _ _ _ _ _=>us1 λ _=>rfl),
  c0.top X G (λ _ _ _ _ _ _=>us1 λ _=>rfl),
  c1.top X G (λ _ _ _ _ _ _=>us3 λ _ _ _=>rfl),
  c2.top X G (λ _ _ _ _ _ _=>us3 λ _ _ _=>rfl),
  c3.top X G (λ _ _ _ _ _ _=>us3 λ _ _ _=>rfl),
  aG.g X G,
  aG.cl X G,
  aG.mk' X G,
  aG.kp X G,
  c4.at' X G,
  c5.top X G (λ _ _ _ _ _ _=>us2 λ _ _=>rfl),
  c6.top X G (λ _ _ _ _ _ _=>us1 λ _=>rfl),
  c7.top X G (λ _ _ _ _ _ _=>us1 λ _=>rfl),
  c8.top X G (λ _ _ _ _ _ _=>us3 λ _ _ _=>rfl),
  c9.top X G (λ _ _ _ _ _ _=>us3 λ _ _ _=>rfl),
  ca.top X G (λ _ _ _ _ _ _=>us3 λ _ _ _=>rfl)⟩
end Wy
open PySem PySem.W PyProof.Rows
namespace PySem.W.Fast
end PySem.W.Fast
namespace PySem.W.Fast
def tw14702347760647354539:=0
def tw15162284306266786780:=0
def tw18056601815617471672:=0
def tw4441441613259536189:=0
def tw6640372481317203670:=0
def tw17330251375077867007:=0
def tw363616364434511688:=0
def tw17076422238020689515:=0
def tw3705103594615020144:=0
def tw11553072495293078849:=0
def tw11202415258770365843:=0
def tw6156306898741310182:=0
def tw16984942330828594834:=0
def tw14389361135405017622:=0
def tw10064547525734196400:=0
def tw12952199646720330373:=0
def tw3114368039348554487:=0
def tw3361565811181504887:=0
def tw4937171971222902472:=0
def tw627883916827443114:=0
def tw4427364550942822417:=0
def tw10340794954351109710:=0
def tw7588964325707855862:=0
def tw9320408718535535954:=0
def tw18208715662633492384:=0
def tw10887581827234870344:=0
def tw5249559576372004461:=0
def tw11863619200562486982:=0
def tw14378677171131216613:=0
def tw16794977906372784997:=0
def tw17575865421445996713:=0
def tw9804114896688216768:=0
def tw12581282577242466582:=0
def tw15470122360178166715:=0
def tw2561802390158532669:=0
def tw3219219738415792021:=0
def tw7976568757296329201:=0
def tw7467973099823212462:=0
def tw1126959761617876655:=0
def tw56159955556777813:=0
def tw12237822638497100873:=0
def tw9906846038827550157:=0
def tw5980991882617804921:=0
def tw2708422156308432344:=0
def tw2898284561092224296:=0
def tw3181603937056107644:=0
def tw10583494390675502392:=0
def tw17982769268712314325:=0
def tw299390266427153961:=0
def tw7664493366344875050:=0
def tw12996845579500384319:=0
def tw5239659649821642182:=0
def tw12391712682521361581:=0
def tw7669588507163534400:=0
def tw9325640281329781235:=0
def tw15970450084041787681:=0
def tw16029211402257424610:=0
def tw8882067452901410204:=0
def tw13726320855235504328:=0
def tw16682721960883611308:=0
def tw1002408018370215949:=0
def tw11344336658231076472:=0
def tw11999140238732870328:=0
def tw4954492899215889048:=0
def tw16963207860069444969:=0
def tw11082141543984462482:=0
def tw14767038238842199887:=0
def tw1826937152658370858:=0
def tw9270598955843056086:=0
def tw3372261596886192178:=0
def tw4741964463942703638:=0
def tw145066510305198716:=0
def tw3512150457319622146:=0
def tw5143883330587239322:=0
def tw16782267976870517180:=0
def tw10210478903045497714:=0
def tw11180938416001136087:=0
def tw11198886567703839274:=0
def tw4874678378257917658:=0
def tw11299882609577351443:=0
def tw9967236565213789995:=0
def tw10602932511671137547:=0
def tw3829337114027194568:=0
def tw17874180313232184689:=0
def tw9340268805621629364:=0
def tw1509819729228768532:=0
def tw4337990516647067079:=0
def tw13179944440288344256:=0
def tw16589393485198115694:=0
def tw7573461332855423345:=0
def tw9668128621409612474:=0
def tw1359520844151243755:=0
def tw13584566443138665652:=0
def tw10413611372149439964:=0
def tw8018690819008109950:=0
def tw8980074475154562983:=0
def tw3881068044045512119:=0
def tw12728828451299877648:=0
def tw14881870194598526250:=0
def tw18185371902368932289:=0
def tw13886356444737191052:=0
def tw203707699663190648:=0
def tw16681122837013160082:=0
def tw16425426224279213487:=0
def tw7549342920515620080:=0
def tw4525544054605768954:=0
def tw17591830891632049465:=0
def tw6877833376069816001:=0
def tw9341544991266754371:=0
def tw6495730863304436863:=0
def tw2889180843894457018:=0
def tw8728158655312154151:=0
def tw2055452794440272093:=0
def tw7420245188161554811:=0
def tw10664529104220566936:=0
def tw13325226193899575501:=0
def tw3267578573715236637:=0
def tw12444590258590981949:=0
def tw3685857152309073447:=0
def tw1106524598668735366:=0
def tw13968026342174640185:=0
def tw12947422885877273071:=0
def tw1177593528507038363:=0
def tw628263542569872508:=0
def tw2007280115434194500:=0
def tw6726600091600176191:=0
def tw7073288057426254251:=0
def tw6960664087232971724:=0
def tw9416177138023704522:=0
def tw11783979081716120332:=0
def tw9092434806686481883:=0
def tw16168259670018654833:=0
def tw8737698332397259338:=0
def tw239920851262154844:=0
def tw10196736373511843904:=0
def tw7417134203388239984:=0
def tw1175047031967170516:=0
def tw9672681048091589825:=0
def tw13211810680207382961:=0
def tw6587172467115224207:=0
def tw16148363247567935793:=0
def tw9977178892082752738:=0
def tw9621808841007788998:=0
def tw141558399995589837:=0
def tw751889817624532410:=0
def tw18173432910570894073:=0
def tw3607839835726886840:=0
def tw12683443582117679021:=0
def tw3937195013801652917:=0
def tw5836115409718715461:=0
def tw10349142456148725551:=0
def tw17978471473760782427:=0
def tw11635788497262508875:=0
def tw10959544740683571325:=0
def tw10547253236788506970:=0
def tw4463734462329717754:=0
def tw7872191565527153311:=0
def tw15503890783833488610:=0
def tw11562855590726520939:=0
def tw5010863615459499540:=0
def tw17511388105270492849:=0
def tw13595814562994400088:=0
def tw11104145794473974009:=0
def tw15040241252971209002:=0
def tw7483130591031430169:=0
def tw1302419365118223010:=0
def tw10248192434914743197:=0
def tw18054257768612964633:=0
def tw7313033477411379870:=0
def tw14602722330077770120:=0
def tw7154800751356192347:=0
def tw5371229061809717149:=0
def tw11511537792468854815:=0
def tw8228863838460368538:=0
def tw17281533627639499254:=0
def tw3852538782337193749:=0
def tw12968638311894266721:=0
def tw4727511418131235509:=0
def tw15462512350619254704:=0
def tw7233302139086321101:=0
def tw16701370377486938895:=0
def tw11782920860988567441:=0
def tw17316864600603156261:=0
def tw16025663490701726296:=0
def tw18430639043603182599:=0
def tw6517001021810124794:=0
def tw14250522538420455395:=0
def tw15239579082152287146:=0
def tw17943379324555730740:=0
def tw11050892676938237718:=0
def tw8558511478323832246:=0
def tw1240400266065428200:=0
def tw14742969524992437653:=0
def tw14425015735363239760:=0
def tw12575095588013758032:=0
def tw11722556966100961248:=0
def tw2884278952884488866:=0
def tw17787996167364914531:=0
def tw14968845695412361851:=0
def tw6072998531016029637:=0
def tw9367548411396298595:=0
def tw7943648085291326333:=0
def tw16101248268071613088:=0
def tw8913829551079695784:=0
def tw3786657786172581135:=0
def tw12910628877637287915:=0
def tw18144101776444693414:=0
def tw16032882621450058416:=0
def tw1207728119532545531:=0
def tw15992221869605104390:=0
def tw14699923757941975754:=0
def tw1153063624808797849:=0
def tw5197254581047295887:=0
def tw6702527707845983515:=0
def tw11142027486527901236:=0
def tw3919984243276176369:=0
def tw8091823454539204010:=0
def tw16336545245693672232:=0
def tw5192013075408547033:=0
def tw6515309517522466859:=0
def tw3169924107460959960:=0
def tw18440549942317305523:=0
def tw15073701870118272349:=0
def tw17645064503005373163:=0
def tw8013048558290017453:=0
def tw17143734963237132078:=0
def tw12992778027861732894:=0
def tw10380484357152230572:=0
def tw16165631902377935855:=0
def tw12102652129473394055:=0
def tw4189363436480663394:=0
def tw5686699857251948608:=0
def tw6951217744372609118:=0
def tw10484526194765848493:=0
def tw12808483686044810700:=0
def tw2708838703772877:=0
def tw1156458772783599773:=0
def tw3301715145830746737:=0
def tw17037353173854025173:=0
def tw10745937945530658215:=0
def tw11678027478016239569:=0
def tw1913788767669728405:=0
def tw2917676947571597795:=0
def tw7636403897042877133:=0
def tw4711592538506316733:=0
def tw2082161700138067058:=0
def tw1535829065487625367:=0
def tw16657704976379451122:=0
def tw859681710283471620:=0
def tw14480582902916316471:=0
def tw9714944790879071639:=0
def tw2091662525869279070:=0
def tw12410200875235832982:=0
def tw17263858069515945395:=0
def tw1371615278305981960:=0
def tw4745121367477835915:=0
def tw11503749460610562350:=0
def tw17251370899713635861:=0
def tw1987237959172310263:=0
def tw2593328853707264348:=0
def tw3087896730848119527:=0
def tw8646500374759773064:=0
def tw2368103527360244738:=0
def tw6442883536150169024:=0
def tw1618970914085667245:=0
def tw14986700299450865934:=0
def tw4412051532377345263:=0
def tw12299856954338947750:=0
def tw8438895764818934557:=0
def tw1422783549810149227:=0
def tw9283293519362494311:=0
def tw4654607029418986677:=0
def tw5473695869890257989:=0
def tw14896683225925976881:=0
end PySem.W.Fast
set_option maxRecDepth 100000 in
set_option maxHeartbeats 0 in
theorem PySem.Challenge.cw_whyrows_k32_whole_filled_and_reckoned_holds : PySem.Challenge.rw_whyrows_k32_whole_filled_and_reckoned.Holds := by
 w_on;o_law;k_head;(case hw=>w_witness2)
 k_fill
 refine L2.qux (l:=PySem.Challenge.rw_whyrows_k32_whole_filled_and_reckoned) (n:=63) (k:=8) (x:="_law_script") (CX:=L2.CX0) (sp:=Wy.sp_law) rfl (by decide) rfl ⟨zr,by decide,by decide⟩ (λ w h Y=>PySem.W.kIn_of Y) ?F ?S ?C
 case F=>
  intro w mg fa h KX G hmg;have T:Wy.Txt (L2.KOf KX) mg:=by
   dsimp only [L2.KOf]
   refine' Wy.qmz KX G ?_ ?_ ?_ ?_ ?_ ?_ ?_ ?_ ?_ ?_ ?_ ?_ ?_ ?_ ?_ ?_ ?_ ?_ ?_ ?_ ?_ ?_ ?_ ?_ ?_ ?_ ?_ ?_ ?_ ?_ ?_ ?_ ?_ ?_ ?_ ?_ ?_ ?_ ?_ ?_ ?_ ?_ ?_ ?_ ?_ ?_ ?_ ?_ ?_ ?_ ?_ ?_ ?_ ?_ ?_ ?_ ?_ ?_ ?_ ?_ ?_ ?_ ?_ ?_ ?_ ?_ ?_ ?_ ?_ ?_ ?_ ?_ ?_ ?_ ?_ ?_ ?_ ?_ ?_ ?_ ?_ ?_ ?_ ?_ ?_ ?_ ?_ ?_ ?_ ?_ ?_ ?_ ?_ ?_ ?_ ?_ ?_ ?_ ?_ ?_ ?_ ?_ ?_ ?_ ?_ ?_ ?_ ?_ ?_ ?_ ?_ ?_ ?_ ?_ ?_ ?_ ?_ ?_ ?_ ?_ ?_
   all_goals first | (refine' L2.fiK ?_ ?_ ?_ ?_;all_goals first | k_is | skip) | (refine' L2.miK ?_ ?_ ?_ ?_ ?_ ?_;all_goals first | k_is | skip) | (refine' L2.ciK ?_ ?_ ?_ ?_ ?_ ?_ ?_;all_goals first | k_is | skip) | (refine' L2.aiK ?_ ?_;all_goals first | k_is | skip) | k_is | skip
  exact Wy.q128 T hmg
 case S=>exact λ K H a ns hl hO hS=>⟨a,ns,rfl,hS,hl,λ _=>rfl⟩
 case C=>exact λ _ _ _ _ z=>z
