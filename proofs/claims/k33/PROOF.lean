import PyProof.Rows.All
import Wide.All
import OpenK.AllK
import PySem.Challenge.RW_whyrows_k33_no_worth
set_option Elab.async false
set_option linter.all false
set_option maxRecDepth 100000
set_option maxHeartbeats 4000000
set_option genSizeOf false
abbrev xD:=List PySem.Str
abbrev xE:=PySem.Str->Option PySem.Value
abbrev xF:=List (List PySem.Str)
abbrev xG:=List (PySem.Addr×PySem.Obj)
abbrev xH:=List PySem.Value
abbrev xA:=PySem.W.Frag
abbrev xB:=PySem.Value->PySem.Shared->Prop
def zr {α:Sort u} {a:α}:a=a:=rfl
def z00:=@PySem.F.slot_dict_keyiterator_next
def z01:=@PySem.wpAny_typeNameOfWhole_keyiter
def z02:=@Int.mul_le_mul_of_nonneg_left
def z03:=@PyProof.Rows.callWith_type1
def z04:=@Array.perm_iff_toList_perm
def z05:=@List.getElem?_append_right
def z06:=@List.getD_eq_getElem?_getD
def z07:=@List.getElem?_eq_some_iff
def z08:=@List.pairwise_iff_getElem
def z09:=@List.drop_eq_getElem_cons
def z0a:=@List.extract_eq_take_drop
def z0b:=@Array.getElem?_eq_getElem
def z0c:=@List.getElem?_eq_getElem
def z0d:=@PySem.F.slot_list_extend
def z0e:=@PySem.F.type_list_extend
def z0f:=@PySem.F.slot_list_append
def z0g:=@PySem.F.type_list_append
def z0h:=@List.pairwise_singleton
def z0i:=@PySem.F.plain_list_iadd
def z0j:=@List.length_eq_zero_iff
def z0k:=@PySem.F.plainAttrs_list
def z0l:=@Int.eq_ofNat_of_zero_le
def z0m:=@List.take_of_length_le
def z0n:=@PySem.Heap.get?_push_of_some
def z0o:=@PySem.Heap.get?_update_other
def z0p:=@Option.map_eq_some_iff
def z0q:=@Array.getElem?_eq_none
def z0r:=@List.find?_cons_of_pos
def z0s:=@List.find?_cons_of_neg
def z0t:=@List.perm_append_comm
def z0u:=@List.take_append_drop
def z0v:=@List.mem_append_right
def z0w:=@Array.getElem?_toList
def z0x:=@List.length_singleton
def z0y:=@PySem.Heap.get?_update_self
def z0z:=@List.length_filter_le
def z10:=@List.pairwise_append
def z11:=@List.mem_iff_getElem
def z12:=@Array.toList_extract
def z13:=@List.mem_of_mem_drop
def z14:=@List.mem_of_mem_take
def z15:=@List.mem_cons_of_mem
def z16:=@List.mem_append_left
def z17:=@List.mem_of_getElem?
def z18:=@Array.length_toList
def z19:=@Array.toList_append
def z1a:=@PySem.Heap.SameBut.update
def z1b:=@PySem.Heap.get?_push_size
def z1c:=@PySem.mem_of_lookup
def z1d:=@List.replicate_succ
def z1e:=@List.map_congr_left
def z1f:=@List.toList_toArray
def z1g:=@PySem.wpAny_setEntries_of
def z1h:=@List.getElem_of_mem
def z1i:=@List.flatMap_append
def z1j:=@Bool.false_eq_true
def z1k:=@Bool.false_ne_true
def z1l:=@List.mem_singleton
def z1m:=@Array.size_extract
def z1n:=@List.length_append
def z1o:=@List.mem_cons_self
def z1p:=@List.pairwise_cons
def z1q:=@Nat.lt_of_lt_of_le
def z1r:=@PySem.wpAny_Call_Name_kw
def z1s:=@List.zip_cons_cons
def z1t:=@List.filter_append
def z1u:=@Int.lt_of_le_of_lt
def z1v:=@Int.emod_lt_of_pos
def z1w:=@PySem.W.mg_none_of
def z1x:=@List.append_assoc
def z1y:=@List.getElem_take
def z1z:=@Array.toList_push
def z20:=@List.ext_getElem?
def z21:=@List.getElem?_map
def z22:=@List.size_toArray
def z23:=@PySem.wpAny_truthy_bool
def z24:=@PySem.wpAny_pyIter_list
def z25:=@Int.toNat_natCast
def z26:=@List.flatten_cons
def z27:=@PySem.wpAny_newObj_type
def z28:=@List.length_range
def z29:=@PySem.wpAny_dictEntries
def z2a:=@List.mapM_toArray
def z2b:=@PySem.wpAny_setState_of
def z2c:=@List.nodup_append
def z2d:=@Nat.lt_succ_of_lt
def z2e:=@List.foldl_append
def z2f:=@List.length_take
def z2g:=@List.length_drop
def z2h:=@List.length_cons
def z2i:=@List.filter_cons
def z2j:=@List.getElem_mem
def z2k:=@Nat.lt_succ_self
def z2l:=@Bool.and_eq_true
def z2m:=@List.all_eq_true
def z2n:=@PySem.wpAny_call_entry
def z2o:=@List.any_eq_true
def z2p:=@Nat.succ_le_succ
def z2q:=@List.not_mem_nil
def z2r:=@PySem.wpAny_askSetting
def z2s:=@List.take_length
def z2t:=@List.mem_append
def z2u:=@List.cons.injEq
def z2v:=@decide_eq_false
def z2w:=@List.mem_filter
def z2x:=@PySem.wpAny_passesOwn
def z2y:=@Bool.eq_iff_iff
def z2z:=@List.length_map
def z30:=@List.append_nil
def z31:=@List.nodup_cons
def z32:=@List.find?_cons
def z33:=@List.length_nil
def z34:=@List.range_succ
def z35:=@List.map_append
def z36:=@PySem.W.kia_one
def z37:=@PySem.wpAny_dictEpoch
def z38:=@PySem.codeAny_builtin
def z39:=@Int.emod_nonneg
def z3a:=@PySem.W.binds_K
def z3b:=@decide_eq_true
def z3c:=@List.mem_range
def z3d:=@Bool.false_and
def z3e:=@PySem.Heap.size_push
def z3f:=@List.nodup_nil
def z3g:=@List.take_succ
def z3h:=@PySem.wpAny_setField
def z3i:=@Nat.mul_le_mul
def z3j:=@Int.mul_nonneg
def z3k:=@List.map_cons
def z3l:=@PySem.wpAny_attempt
def z3m:=@List.mem_cons
def z3n:=@PySem.wpAny_holding
def z3o:=@Nat.lt_irrefl
def z3p:=@List.any_cons
def z3q:=@PySem.W.mg_of
def z3r:=@List.sum_cons
def z3s:=@Bool.true_and
def z3t:=@decide_false
def z3u:=@Int.le_of_lt
def z3v:=@Int.le_trans
def z3w:=@Nat.zero_add
def z3x:=@Nat.le_of_lt
def z3y:=@PySem.Heap.lt_size
def z3z:=@Nat.ne_of_lt
def z40:=@Nat.le_trans
def z41:=@Nat.ne_of_gt
def z42:=@PySem.codeAny_mono
def z43:=@List.map_nil
def z44:=@List.mem_map
def z45:=@List.all_map
def z46:=@List.map_map
def z47:=@Nat.le_refl
def z48:=@decide_true
def z49:=@Int.le_refl
def z4a:=@Nat.zero_le
def z4b:=@List.map_id
def z4c:=@PySem.wpAny_rule
def z4d:=@PySem.wpAny_pure
def z4e:=@PySem.wpAny_bind
def z4f:=@PySem.wpAny_mono
namespace Tim
open PySem PyProof.Rows
def kx (rk:Keyed ->Int) (xs:Array Keyed) (i:Nat):Int:=match xs[i]? with
 | some p=>rk p
 | none=>0
def Up (rk:Keyed ->Int) (xs:Array Keyed) (lo hi:Nat):Prop:=∀ i j,lo<=i ->i<=j ->j < hi ->kx rk xs i<=kx rk xs j
def Dn (rk:Keyed ->Int) (xs:Array Keyed) (lo hi:Nat):Prop:=∀ i j,lo<=i ->i<=j ->j < hi ->kx rk xs j<=kx rk xs i
def q3d {rk:Keyed ->Int} {xs:Array Keyed} {i:Nat} {p:Keyed} (h:xs[i]? =some p):kx rk xs i=rk p:=by unfold kx;rw [h]
def q4u {rk:Keyed ->Int} {xs ys:Array Keyed} {i j:Nat} (h:xs[i]? =ys[j]?):kx rk xs i=kx rk ys j:=by unfold kx;rw [h]
def LtOk (M:Model) (A:Around) (E:xB) (s:Shared) (kd:SortKind) (S:Keyed ->Prop) (rk:Keyed ->Int):Prop:=
 ∀ (x y:Keyed) (st:SortSt) (Q:Option Bool ->SortSt ->Prop),S x ->S y ->kindOf st=kd ->Q (some (decide (rk x < rk y))) st ->wpS M A E s (lt' x y) Q st
structure Mv (lo hi:Nat) (st st':SortSt):Prop where
 perm:(arrOf st').Perm (arrOf st)
 out:∀ k,k < lo\/ hi<=k ->(arrOf st')[k]? =(arrOf st)[k]?
 kind:kindOf st'=kindOf st
 pend:pendingOf st'=pendingOf st
 failed:failedOf st'=failedOf st
theorem Mv.refl (lo hi:Nat) (st:SortSt):Mv lo hi st st:=⟨Array.Perm.refl _,λ _ _=>rfl,rfl,rfl,rfl⟩
theorem Mv.trans {lo hi:Nat} {a b c:SortSt} (h:Mv lo hi a b) (k:Mv lo hi b c):Mv lo hi a c:=
 ⟨k.perm.trans h.perm,λ i hi=>(k.out i hi).trans (h.out i hi),k.kind.trans h.kind,k.pend.trans h.pend,k.failed.trans h.failed⟩
theorem Mv.size {lo hi:Nat} {a b:SortSt} (h:Mv lo hi a b):(arrOf b).size=(arrOf a).size:=h.perm.size_eq
structure Sane (kd:SortKind) (S:Keyed ->Prop) (n:Nat) (st:SortSt):Prop where
 size:(arrOf st).size=n
 all:∀ p∈(arrOf st).toList,S p
 kind:kindOf st=kd
 failed:failedOf st=none
def Mv.sane {lo hi:Nat} {a b:SortSt} {kd:SortKind} {S:Keyed ->Prop} {n:Nat} (h:Mv lo hi a b) (k:Sane kd S n a):Sane kd S n b:=
 ⟨h.size.trans k.size,λ p hp=>k.all p ((z04.mp h.perm).mem_iff.mp hp),h.kind.trans k.kind,h.failed.trans k.failed⟩
def Sane.at {kd:SortKind} {S:Keyed ->Prop} {n:Nat} {st:SortSt} (rk:Keyed ->Int) (k:Sane kd S n st) {i:Nat} (hi:i < n):∃ p,(arrOf st)[i]? =some p/\S p/\kx rk (arrOf st) i=rk p:=by
 have J:i < (arrOf st).size:=by rw [k.size];exact hi
 have e:(arrOf st)[i]? =some (arrOf st)[i]:=getElem?_pos _ i J;exact ⟨_,e,k.all _ (by simp),q3d e⟩
def Mv.mirrored {lo hi i j:Nat} {st:SortSt} (h1:lo<=i) (h2:j<=hi) (hj:j<=(arrOf st).size):Mv lo hi st (setArr st (mirror (arrOf st) i j ((j - i) / 2))):=
 ⟨mirror_perm _ _ _ _,λ k hk=>(getElem?_mirror_all (i:=i) hj k).trans (if_neg (by lia)),rfl,rfl,rfl⟩
def Mv.sunk {lo hi J d:Nat} {st:SortSt} (h1:lo+d<=J) (h2:J < hi) (hs:J < (arrOf st).size):Mv lo hi st (setArr st (bubble (arrOf st) J d)):=
 ⟨bubble_perm _ _ _,λ k hk=>(getElem?_bubble hs d (by lia) k).trans (by rw [if_neg (by lia),if_neg (by lia)]),rfl,rfl,rfl⟩
def qad (rk:Keyed ->Int) {xs:Array Keyed} {i j:Nat} (hj:j<=xs.size) (k:Nat):
  kx rk (mirror xs i j ((j - i) / 2)) k=if i<=k/\k < j then kx rk xs (i+j - 1 - k) else kx rk xs k:=by
 have e:=getElem?_mirror_all (i:=i) hj k;by_cases c:i<=k/\k < j
 ·rw [if_pos c] at e ⊢;exact q4u e
 ·rw [if_neg c] at e ⊢;exact q4u e
def q2w (rk:Keyed ->Int) {xs:Array Keyed} {i j:Nat} (hj:j<=xs.size) (J:∀ k,i<=k ->k < j ->kx rk xs k=kx rk xs (j - 1)) (k:Nat):
  kx rk (mirror xs i j ((j - i) / 2)) k=kx rk xs k:=by
 rw [qad rk hj];by_cases c:i<=k/\k < j
 ·rw [if_pos c,J _ (by lia) (by lia),J k c.1 c.2]
 ·rw [if_neg c]
def qhg (rk:Keyed ->Int) {xs:Array Keyed} {J d:Nat} (hs:J < xs.size) (hd:d<=J) (k:Nat):
  kx rk (bubble xs J d) k=if k=J - d then kx rk xs J else if J - d < k/\k<=J then kx rk xs (k - 1) else kx rk xs k:=by
 have e:=getElem?_bubble hs d hd k;by_cases c:k=J - d
 ·rw [if_pos c] at e ⊢;exact q4u e
 ·rw [if_neg c] at e ⊢;by_cases c2:J - d < k/\k<=J
  ·rw [if_pos c2] at e ⊢;exact q4u e
  ·rw [if_neg c2] at e ⊢;exact q4u e
section
variable {M:Model} {A:Around} {E:xB} {s:Shared} {kd:SortKind} {S:Keyed ->Prop} {rk:Keyed ->Int} {n:Nat}
def qae (L:LtOk M A E s kd S rk) {st:SortSt} (B:Sane kd S n st) {i j:Nat} (hi:i < n) (hj:j < n) {Q:Option Bool ->SortSt ->Prop}
  (h:Q (some (decide (kx rk (arrOf st) i < kx rk (arrOf st) j))) st):wpS M A E s (ltAt' i j) Q st:=by
 obtain ⟨p,e1,s1,k1⟩:=B.at rk hi;obtain ⟨q,e2,s2,k2⟩:=B.at rk hj;rw [k1,k2] at h;rw [ltAt'_eq];refine wpS_bind (wpS_get ?_);show wpS M A E s (elem' (arrOf st) i >>=λ x=>elem' (arrOf st) j >>=λ y=>lt' x y) Q st;rw [elem'_eq,elem'_eq,e1,e2];exact wpS_bind (wpS_pure (wpS_bind (wpS_pure (L p q st Q s1 s2 B.kind h))))
def q83 {st:SortSt} {i j:Nat} {Q:Unit ->SortSt ->Prop} (h:Q () (setArr st (mirror (arrOf st) i j ((j - i) / 2)))):wpS M A E s (reverseSlice' i j) Q st:=by
 rw [reverseSlice'_eq];exact wpS_modify h
def qaf (lo a nrem:Nat):StateT SortSt Sem AscSt:=
 forIn [a:nrem] ((none,a):AscSt) λ _ c=>do
  let x <- ltAt' (lo+c.snd) (lo+c.snd - 1)
  match x with
  | some b=>if b=true then pure (ForInStep.done (none,c.snd)) else pure (ForInStep.yield (none,c.snd+1))
  | _=>pure (ForInStep.done (some none,c.snd))
def qag (lo m nrem:Nat):StateT SortSt Sem (Option Nat):=do
 reverseSlice' lo (lo+m)
 let c <- qaf lo m nrem
 match c.fst with
 | some r=>pure r
 | none=>pure (some c.snd)
def qe3 (lo m nrem:Nat):StateT SortSt Sem DescSt:=
 forIn [m:nrem] ((none,m,0):DescSt) λ _ c=>do
  let x <- ltAt' (lo+c.snd.fst) (lo+c.snd.fst - 1)
  match x with
  | some b=>
   if b=true then
    if c.snd.snd > 0 then do
     reverseSlice' (lo+c.snd.fst - (c.snd.snd+1)) (lo+c.snd.fst)
     pure (ForInStep.yield (none,c.snd.fst+1,0))
    else pure (ForInStep.yield (none,c.snd.fst+1,0))
   else do
    let y <- ltAt' (lo+c.snd.fst - 1) (lo+c.snd.fst)
    match y with
    | some g=>if g=true then pure (ForInStep.done (none,c.snd.fst,c.snd.snd)) else pure (ForInStep.yield (none,c.snd.fst+1,c.snd.snd+1))
    | _=>pure (ForInStep.done (some none,c.snd.fst,c.snd.snd))
  | _=>pure (ForInStep.done (some none,c.snd.fst,c.snd.snd))
def qah (lo m nrem:Nat):StateT SortSt Sem (Option Nat):=do
 liftM (rule "list.sort.descending-run")
 let c <- qe3 lo (m+1) nrem
 match c.fst with
 | some r=>pure r
 | none=>
  if c.snd.snd > 0 then do
   reverseSlice' (lo+c.snd.fst - (c.snd.snd+1)) (lo+c.snd.fst)
   qag lo c.snd.fst nrem
  else qag lo c.snd.fst nrem
def qmj (lo J:Nat):countRun' lo J=(do
  let c <- qaf lo 1 J
  match c.fst with
  | some r=>pure r
  | none=>
   if (c.snd==J)=true then pure (some c.snd)
   else if c.snd > 1 then do
    let x <- ltAt' lo (lo+c.snd - 1)
    match x with
    | some O=>if O=true then pure (some c.snd) else do
      reverseSlice' lo (lo+c.snd)
      qah lo c.snd J
    | _=>pure none
   else qah lo c.snd J):=by
 rw [countRun'_eq]
 dsimp only
 unfold qah qag qe3 qaf
 congr 1
 funext c
 obtain ⟨r,m⟩:=c;cases r with
 | some r=>rfl
 | none=>
  dsimp only
  split
  ·rfl
  ·split
   ·congr 1
    funext x
    cases x with
    | none=>rfl
    | some O=>
     dsimp only
     split
     ·rfl
     ·congr 1
      funext _u
      congr 1
      funext _v
      congr 1
      congr 1
      funext c2
      obtain ⟨r2,n2,q2⟩:=c2;cases r2 with
      | some r2=>rfl
      | none=>
       dsimp only
       split
       ·congr 1
        funext _w
        congr 1
        funext _z
        congr 1
        funext c3
        obtain ⟨r3,Z⟩:=c3;cases r3 <;> rfl
       ·congr 1
        funext _z
        congr 1
        funext c3
        obtain ⟨r3,Z⟩:=c3;cases r3 <;> rfl
   ·congr 1
    funext _v
    congr 1
    congr 1
    funext c2
    obtain ⟨r2,n2,q2⟩:=c2;cases r2 with
    | some r2=>rfl
    | none=>
     dsimp only
     split
     ·congr 1
      funext _w
      congr 1
      funext _z
      congr 1
      funext c3
      obtain ⟨r3,Z⟩:=c3;cases r3 <;> rfl
     ·congr 1
      funext _z
      congr 1
      funext c3
      obtain ⟨r3,Z⟩:=c3;cases r3 <;> rfl
def qjz (L:LtOk M A E s kd S rk) {st:SortSt} {lo a J:Nat} {Q:AscSt ->SortSt ->Prop} (B:Sane kd S n st) (hn:lo+J<=n) (ha:1<=a) (a2:a<=J) (hs:Up rk (arrOf st) lo (lo+a))
  (h:∀ m,a<=m ->m<=J ->Up rk (arrOf st) lo (lo+m) ->(m=J\/ kx rk (arrOf st) (lo+m) < kx rk (arrOf st) (lo+m - 1)) ->Q (none,m) st):wpS M A E s (qaf lo a J) Q st:=by
 unfold qaf;refine wpS_forRange (I:=λ x c a1=>a1=st/\c=(none,x)/\Up rk (arrOf st) lo (lo+x)) ?turn ?last ⟨zr,zr,hs⟩
 case last=>
  rintro c a1 ⟨rfl,rfl,Z⟩;have e:max a J=J:=by lia
  rw [e] at Z ⊢;exact h J a2 (z47 _) Z (.inl rfl)
 case turn=>
  rintro x c a1 a3 hxn ⟨rfl,rfl,Z⟩
  dsimp only
  refine wpS_bind (qae L B (by lia) (by lia) ?_);by_cases O:kx rk (arrOf a1) (lo+x) < kx rk (arrOf a1) (lo+x - 1)
  ·simp only [O,z48,if_true];exact wpS_pure (h x a3 (by lia) Z (.inr O))
  ·simp only [O,z3t,z1j,if_false];refine wpS_pure ⟨zr,zr,λ i j h1 h2 h3=> ?_⟩;by_cases hj:j < lo+x
   ·exact Z i j h1 h2 hj
   ·have a4:j=lo+x:=by lia
    subst a4;by_cases hi:i=lo+x
    ·subst hi
     lia
    ·have:=Z i (lo+x - 1) h1 (by lia) (by lia)
     lia
def qk0 (L:LtOk M A E s kd S rk) {st:SortSt} {lo m J:Nat} {Q:Option Nat ->SortSt ->Prop} (B:Sane kd S n st) (hn:lo+J<=n) (h1:1<=m) (hm:m<=J) (hs:Dn rk (arrOf st) lo (lo+m))
  (h:∀ k O,Mv lo (lo+J) st O ->1<=k ->k<=J ->Up rk (arrOf O) lo (lo+k) ->Q (some k) O):wpS M A E s (qag lo m J) Q st:=by
 unfold qag;have hz:lo+m<=(arrOf st).size:=by rw [B.size];lia
 have v:Mv lo (lo+J) st (setArr st (mirror (arrOf st) lo (lo+m) ((lo+m - lo) / 2))):=Mv.mirrored (z47 _) (by lia) hz;refine wpS_bind (q83 (wpS_bind (qjz L (v.sane B) hn h1 hm ?_ λ k k1 k2 k3 _=>wpS_pure (h k _ v (by lia) k2 k3))));intro i j a b c;show kx rk (mirror (arrOf st) lo (lo+m) ((lo+m - lo) / 2)) i<=kx rk (mirror (arrOf st) lo (lo+m) ((lo+m - lo) / 2)) j;rw [qad rk hz,qad rk hz,if_pos (by lia),if_pos (by lia)];exact hs _ _ (by lia) (by lia) (by lia)
def qsm (L:LtOk M A E s kd S rk) {st:SortSt} {lo m O:Nat} {Q:DescSt ->SortSt ->Prop} (B:Sane kd S n st) (hn:lo+O<=n) (h1:1<=m) (hm:m<=O) (hs:Dn rk (arrOf st) lo (lo+m))
  (h:∀ k q J,Mv lo (lo+O) st J ->m<=k ->k<=O ->Dn rk (arrOf J) lo (lo+k) ->q+1<=k ->(∀ i,lo+k - (q+1)<=i ->i < lo+k ->kx rk (arrOf J) i=kx rk (arrOf J) (lo+k - 1)) ->Q (none,k,q) J):
  wpS M A E s (qe3 lo m O) Q st:=by
 unfold qe3;refine wpS_forRange (I:=λ x c J=>∃ q,c=(none,x,q)/\Mv lo (lo+O) st J/\Dn rk (arrOf J) lo (lo+x)/\q+1<=x/\
  (∀ i,lo+x - (q+1)<=i ->i < lo+x ->kx rk (arrOf J) i=kx rk (arrOf J) (lo+x - 1))) ?turn ?last ⟨0,rfl,Mv.refl _ _ _,hs,by lia,λ i a b=>by rw [show i=lo+m - 1 by lia]⟩
 case last=>
  rintro c J ⟨q,rfl,v,Z,hq,he⟩;have e:max m O=O:=by lia
  rw [e] at Z hq he ⊢;exact h O q J v hm (z47 _) Z hq he
 case turn=>
  rintro x c J a5 hxn ⟨q,rfl,v,Z,hq,he⟩
  dsimp only
  have B':=v.sane B;have hz:lo+x<=(arrOf J).size:=by rw [B'.size];lia
  refine wpS_bind (qae L B' (by lia) (by lia) ?_);by_cases a1:kx rk (arrOf J) (lo+x) < kx rk (arrOf J) (lo+x - 1)
  ·simp only [a1,z48,if_true];have more:∀ xs:Array Keyed,(∀ k,kx rk xs k=kx rk (arrOf J) k) ->Dn rk xs lo (lo+(x+1)):=by
    intro xs hk i j a b c;rw [hk,hk];by_cases hj:j < lo+x
    ·exact Z i j a b hj
    ·have a3:j=lo+x:=by lia
     subst a3;by_cases hi:i=lo+x
     ·subst hi
      lia
     ·have:=Z i (lo+x - 1) a (by lia) (by lia)
      lia
   by_cases a4:q > 0
   ·rw [if_pos a4];exact wpS_bind (q83 (wpS_pure ⟨0,zr,v.trans (Mv.mirrored (by lia) (by lia) hz),more _ (q2w rk hz he),by lia,λ i a b=>by rw [show i=lo+(x+1) - 1 by lia]⟩))
   ·rw [if_neg a4];exact wpS_pure ⟨0,zr,v,more _ (λ _=>rfl),by lia,λ i a b=>by rw [show i=lo+(x+1) - 1 by lia]⟩
  ·simp only [a1,z3t,z1j,if_false];refine wpS_bind (qae L B' (by lia) (by lia) ?_);by_cases a2:kx rk (arrOf J) (lo+x - 1) < kx rk (arrOf J) (lo+x)
   ·simp only [a2,z48,if_true];exact wpS_pure (h x q J v a5 (by lia) Z hq he)
   ·simp only [a2,z3t,z1j,if_false];have ex:kx rk (arrOf J) (lo+x)=kx rk (arrOf J) (lo+x - 1):=by lia
    refine wpS_pure ⟨q+1,zr,v,λ i j a b c=> ?_,by lia,λ i a b=> ?_⟩
    ·by_cases hj:j < lo+x
     ·exact Z i j a b hj
     ·have a3:j=lo+x:=by lia
      subst a3;by_cases hi:i=lo+x
      ·subst hi
       lia
      ·have:=Z i (lo+x - 1) a (by lia) (by lia)
       lia
    ·rw [show lo+(x+1) - 1=lo+x by lia];by_cases hi:i=lo+x
     ·rw [hi]
     ·rw [ex];exact he i (by lia) (by lia)
def qk1 (L:LtOk M A E s kd S rk) {st:SortSt} {lo m O:Nat} {Q:Option Nat ->SortSt ->Prop} (B:Sane kd S n st) (hn:lo+O<=n) (hm:m+1<=O) (hs:Dn rk (arrOf st) lo (lo+(m+1)))
  (h:∀ k J,Mv lo (lo+O) st J ->1<=k ->k<=O ->Up rk (arrOf J) lo (lo+k) ->Q (some k) J):wpS M A E s (qah lo m O) Q st:=by
 unfold qah;refine wpS_bind (wpS_lift (z4c ⟨zr,?_⟩));refine wpS_bind (qsm L B hn (by lia) hm hs λ k q J v k1 k2 a2 hq he=> ?_)
 dsimp only
 have B':=v.sane B;have hz:lo+k<=(arrOf J).size:=by rw [B'.size];lia
 by_cases a1:q > 0
 ·rw [if_pos a1];have v2:Mv lo (lo+O) J (setArr J (mirror (arrOf J) (lo+k - (q+1)) (lo+k) ((lo+k - (lo+k - (q+1))) / 2))):=Mv.mirrored (by lia) (by lia) hz;refine wpS_bind (q83 (qk0 L (v2.sane B') hn (by lia) k2 ?_ λ j Z v3=>h j Z ((v.trans v2).trans v3)));intro i j a b c;show kx rk (mirror (arrOf J) (lo+k - (q+1)) (lo+k) ((lo+k - (lo+k - (q+1))) / 2)) j<=kx rk (mirror (arrOf J) (lo+k - (q+1)) (lo+k) ((lo+k - (lo+k - (q+1))) / 2)) i;rw [q2w rk hz he,q2w rk hz he];exact a2 i j a b c
 ·rw [if_neg a1];exact qk0 L B' hn (by lia) k2 a2 λ j Z v3=>h j Z (v.trans v3)
def qob (L:LtOk M A E s kd S rk) {st:SortSt} {lo J:Nat} {Q:Option Nat ->SortSt ->Prop} (B:Sane kd S n st) (hn:lo+J<=n) (h1:1<=J)
  (h:∀ k a3,Mv lo (lo+J) st a3 ->1<=k ->k<=J ->Up rk (arrOf a3) lo (lo+k) ->Q (some k) a3):wpS M A E s (countRun' lo J) Q st:=by
 rw [qmj];refine wpS_bind (qjz L B hn (z47 1) h1 (λ i j a b c=>by rw [show i=j by lia];exact z49 _) λ m m1 m2 hs a7=> ?_)
 dsimp only
 by_cases hm:m=J
 ·rw [if_pos (by simpa using hm)];exact wpS_pure (h m st (Mv.refl _ _ _) m1 m2 hs)
 ·rw [if_neg (by simpa using hm)];have a5:=a7.resolve_left hm;by_cases hg:m > 1
  ·rw [if_pos hg];refine wpS_bind (qae L B (by lia) (by lia) ?_);by_cases O:kx rk (arrOf st) lo < kx rk (arrOf st) (lo+m - 1)
   ·simp only [O,z48,if_true];exact wpS_pure (h m st (Mv.refl _ _ _) m1 m2 hs)
   ·simp only [O,z3t,z1j,if_false];have hz:lo+m<=(arrOf st).size:=by rw [B.size];lia
    have Z:∀ k,lo<=k ->k < lo+m ->kx rk (arrOf st) k=kx rk (arrOf st) (lo+m - 1):=by
     intro k a b;have a1:=hs lo k (z47 _) a b;have a2:=hs k (lo+m - 1) a (by lia) (by lia)
     lia
    have v:Mv lo (lo+J) st (setArr st (mirror (arrOf st) lo (lo+m) ((lo+m - lo) / 2))):=Mv.mirrored (z47 _) (by lia) hz;refine wpS_bind (q83 (qk1 L (v.sane B) hn (by lia) ?_ λ j a8 v3=>h j a8 (v.trans v3)));intro i j a b c;show kx rk (mirror (arrOf st) lo (lo+m) ((lo+m - lo) / 2)) j<=kx rk (mirror (arrOf st) lo (lo+m) ((lo+m - lo) / 2)) i;rw [q2w rk hz Z,q2w rk hz Z];by_cases hj:j < lo+m
    ·rw [Z i a (by lia),Z j (by lia) hj];exact z49 _
    ·have a4:j=lo+m:=by lia
     subst a4;by_cases hi:i=lo+m
     ·subst hi
      lia
     ·rw [Z i a (by lia)]
      lia
  ·rw [if_neg hg];have a6:m=1:=by lia
   subst a6;refine qk1 L B hn (by lia) ?_ h;intro i j a b c;by_cases hi:i=j
   ·rw [hi];exact z49 _
   ·have e1:i=lo:=by lia
    have e2:j=lo+1:=by lia
    subst e1 e2;have:i+1 - 1=i:=by lia
    rw [this] at a5
    lia
def qk2 (L:LtOk M A E s kd S rk) {st:SortSt} {lo m ok:Nat} {Q:Bool ->SortSt ->Prop} (B:Sane kd S n st) (hn:lo+m<=n) (hok:ok<=m) (hs:Up rk (arrOf st) lo (lo+ok))
    (h:∀ J,Mv lo (lo+m) st J ->Up rk (arrOf J) lo (lo+m) ->Q true J):wpS M A E s (binarySort' lo m ok) Q st:=by
  rw [binarySort'_eq];refine wpS_bind (wpS_mono (wpS_forRange (I:=λ k c J=>c=(none,())/\Mv lo (lo+m) st J/\Up rk (arrOf J) lo (lo+min k m))
    (Q:=λ c J=>c=(none,())/\Mv lo (lo+m) st J/\Up rk (arrOf J) lo (lo+m)) ?turn ?last ?first) ?after)
  case after=>
    rintro c J ⟨rfl,v,Z⟩;exact wpS_pure (h J v Z)
  case first=>
    refine ⟨zr,Mv.refl _ _ _,λ i j a b c=> ?_⟩;by_cases h0:ok=0
    · rw [show i=j by lia]
      exact z49 _
    · exact hs i j a b (by lia)
  case last=>
    rintro c J ⟨hc,v,Z⟩;refine ⟨hc,v,?_⟩
    rwa [show min (max (max ok 1) m) m=m by lia] at Z
  case turn=>
    rintro k c J hak hkm ⟨rfl,v,Z⟩;have e0:min k m=k:=by lia
    rw [e0] at Z;have B':=v.sane B;refine wpS_bind (wpS_mono (wpS_forRange (I:=λ x c O=>O=J/\∃ l r,c=(none,l,r)/\l<=r/\r<=k/\r - l<=k - x/\
        (∀ i,i < l ->kx rk (arrOf J) (lo+i)<=kx rk (arrOf J) (lo+k))/\(∀ i,r<=i ->i < k ->kx rk (arrOf J) (lo+k) < kx rk (arrOf J) (lo+i)))
      (Q:=λ c O=>O=J/\∃ l r,c=(none,l,r)/\l<=k/\
        (∀ i,i < l ->kx rk (arrOf J) (lo+i)<=kx rk (arrOf J) (lo+k))/\(∀ i,l<=i ->i < k ->kx rk (arrOf J) (lo+k) < kx rk (arrOf J) (lo+i))) ?iturn ?ilast ?ifirst) ?iafter)
    case ifirst=>exact ⟨rfl,0,k,rfl,by lia,by lia,by lia,λ i hi=>by lia,λ i a b=>by lia⟩
    case ilast=>
      rintro c O ⟨rfl,l,r,rfl,a7,a4,hd,a2,a1⟩;have e:l=r:=by lia
      subst e;exact ⟨zr,l,l,zr,a4,a2,a1⟩
    case iturn=>
      rintro x c O _ hxk ⟨rfl,l,r,rfl,a7,a4,hd,a2,a1⟩
      dsimp only
      by_cases a5:l >=r
      · rw [if_pos a5]
        have e:l=r:=by lia
        subst e;exact wpS_pure ⟨zr,l,l,zr,a4,a2,a1⟩
      · rw [if_neg a5]
        refine wpS_bind (qae L B' (by lia) (by lia) ?_);by_cases a3:kx rk (arrOf O) (lo+k) < kx rk (arrOf O) (lo+(l+r) / 2)
        · simp only [a3,z48,if_true]
          refine wpS_pure ⟨zr,l,(l+r) / 2,zr,by lia,by lia,by lia,a2,λ i a b=> ?_⟩;have:=Z (lo+(l+r) / 2) (lo+i) (by lia) (by lia) (by lia)
          lia
        · simp only [a3,z3t,z1j,if_false]
          refine wpS_pure ⟨zr,(l+r) / 2+1,r,zr,by lia,by lia,by lia,λ i a=> ?_,a1⟩;have:=Z (lo+i) (lo+(l+r) / 2) (by lia) (by lia) (by lia)
          lia
    case iafter=>
      rintro c O ⟨rfl,l,r,rfl,hlk,a2,a1⟩;show wpS M A E s (moveDown' (lo+k) (lo+l) >>=λ _=>pure (ForInStep.yield (none,()))) _ O;rw [moveDown'_eq];have hz:lo+k < (arrOf O).size:=by rw [B'.size];lia
      refine wpS_bind (wpS_modify (wpS_pure ⟨zr,v.trans (Mv.sunk (by lia) (by lia) hz),?_⟩));rw [show min (k+1) m=k+1 by lia];intro i j a b c;show kx rk (bubble (arrOf O) (lo+k) (lo+k - (lo+l))) i<=kx rk (bubble (arrOf O) (lo+k) (lo+k - (lo+l))) j;rw [qhg rk hz (by lia),qhg rk hz (by lia),show lo+k - (lo+k - (lo+l))=lo+l by lia];have a8:∀ q,lo<=q ->q < lo+l ->kx rk (arrOf O) q<=kx rk (arrOf O) (lo+k):=λ q a b=>by
        have:=a2 (q - lo) (by lia)
        rwa [show lo+(q - lo)=q by lia] at this
      have a6:∀ q,lo+l<=q ->q < lo+k ->kx rk (arrOf O) (lo+k) < kx rk (arrOf O) q:=λ q a b=>by
        have:=a1 (q - lo) (by lia) (by lia)
        rwa [show lo+(q - lo)=q by lia] at this
      repeat' split
      all_goals first
        | (exfalso;lia)
        | exact z49 _
        | exact a8 _ (by lia) (by lia)
        | exact z3u (a6 _ (by lia) (by lia))
        | exact Z _ _ (by lia) (by lia) (by lia)
end
end Tim
namespace Tim
section
variable {α:Type} {rk:α ->Int} {as bs out:List α} {ia ib:Nat}
def Asc (rk:α ->Int) (l:List α):Prop:=l.Pairwise λ p q=>rk p<=rk q
structure Jn (rk:α ->Int) (as bs out:List α) (ia ib:Nat):Prop where
 perm:out.Perm (as.take ia++bs.take ib)
 asc:Asc rk out
 la:∀ p∈out,∀ q∈as.drop ia,rk p<=rk q
 lb:∀ p∈out,∀ q∈bs.drop ib,rk p<=rk q
def Jn.swap (h:Jn rk as bs out ia ib):Jn rk bs as out ib ia:=⟨h.perm.trans z0t,h.asc,h.lb,h.la⟩
def Jn.start:Jn rk as bs [] 0 0:=⟨by simp,List.Pairwise.nil,(λ _ z=>nomatch z),(λ _ z=>nomatch z)⟩
def qcq (h:Asc rk as) (i:Nat):Asc rk (as.drop i):=List.Pairwise.sublist (List.drop_sublist i as) h
def q6v (as:List α) (i k:Nat):as.drop i=(as.drop i).take k++as.drop (i+k):=by
 rw [<- List.drop_drop,z0u]
def Jn.moreA (h:Jn rk as bs out ia ib) (ha:Asc rk as) (k:Nat) (hx:∀ p∈(as.drop ia).take k,∀ q∈bs.drop ib,rk p<=rk q):Jn rk as bs (out++(as.drop ia).take k) (ia+k) ib:=by
 have hd:=qcq ha ia;rw [q6v as ia k] at hd;obtain ⟨d1,d2,d3⟩:=z10.mp hd;have O:∀ q,q∈(as.drop ia).take k ->q∈as.drop ia:=λ q hq=>(List.take_sublist _ _).mem hq;have Z:∀ q,q∈as.drop (ia+k) ->q∈as.drop ia:=λ q hq=>by
  rw [q6v as ia k];exact z0v _ hq
 refine ⟨?_,?_,λ p J q hq=> ?_,λ p J q hq=> ?_⟩
 ·rw [List.take_add,z1x];refine (h.perm.append_right _).trans ?_;rw [z1x];exact List.Perm.append_left _ z0t
 ·exact z10.mpr ⟨h.asc,d1,λ p J q hq=>h.la p J q (O q hq)⟩
 ·rcases z2t.mp J with J | J
  ·exact h.la p J q (Z q hq)
  ·exact d3 p J q hq
 ·rcases z2t.mp J with J | J
  ·exact h.lb p J q hq
  ·exact hx p J q hq
def Jn.done (h:Jn rk as bs out ia ib) (ha:Asc rk as) (hb:Asc rk bs) (hx:∀ p∈as.drop ia,∀ q∈bs.drop ib,rk p<=rk q):
  (out++as.drop ia++bs.drop ib).Perm (as++bs)/\Asc rk (out++as.drop ia++bs.drop ib):=by
 constructor
 ·refine ((h.perm.append_right _).append_right _).trans ?_;have e1:as=as.take ia++as.drop ia:=(z0u ..).symm;have e2:bs=bs.take ib++bs.drop ib:=(z0u ..).symm;refine List.Perm.trans ?_ (List.Perm.of_eq (show (as.take ia++as.drop ia)++(bs.take ib++bs.drop ib)=as++bs by rw [<- e1,<- e2]));simp only [z1x];refine List.Perm.append_left _ ?_;rw [<- z1x,<- z1x];exact List.Perm.append_right _ z0t
 ·refine z10.mpr ⟨z10.mpr ⟨h.asc,qcq ha _,h.la⟩,qcq hb _,λ p J q hq=> ?_⟩;rcases z2t.mp J with J | J
  ·exact h.lb p J q hq
  ·exact hx p J q hq
def Jn.done2 (h:Jn rk as bs out ia ib) (ha:Asc rk as) (hb:Asc rk bs) (hx:∀ p∈bs.drop ib,∀ q∈as.drop ia,rk p<=rk q):
  (out++bs.drop ib++as.drop ia).Perm (as++bs)/\Asc rk (out++bs.drop ib++as.drop ia):=
 let ⟨a,b⟩:=h.swap.done hb ha hx
 ⟨a.trans z0t,b⟩
def qfu (h:Asc rk as):Asc (λ p=>- rk p) as.reverse:=by
 unfold Asc;rw [List.pairwise_reverse];exact List.Pairwise.imp (λ {p q} (z:rk p<=rk q)=>show - rk q<= - rk p by lia) h
def asc_rev' (h:Asc (λ p=>- rk p) as):Asc rk as.reverse:=by
 unfold Asc;rw [List.pairwise_reverse];exact List.Pairwise.imp (λ {p q} (z: - rk p<= - rk q)=>show rk q<=rk p by lia) h
def qk3 (as:List α) (k:Nat) (h:k<=as.length):as.reverse.drop (as.length - k)=(as.take k).reverse:=by
 rw [List.drop_reverse]
 congr 1
 congr 1
 lia
def qvp (as:List α) (i k:Nat) (hi:i<=k) (h:k<=as.length):(as.reverse.drop (as.length - k)).take (k - i)=((as.drop i).take (k - i)).reverse:=by
 rw [qk3 as k h,List.take_reverse,z2f,Nat.min_eq_left h]
 congr 1
 rw [List.drop_take]
 congr 1
 ·lia
 ·congr 1
  lia
def qn4 (ha:Asc rk as) {i:Nat} {x:α} (hx:as[i]? =some x):∀ q∈as.drop i,rk x<=rk q:=by
 intro q hq;obtain ⟨j,hj,e⟩:=z11.mp hq;rw [List.getElem_drop] at e;obtain ⟨hi,ex⟩:=z07.mp hx;subst e ex;rcases Nat.eq_zero_or_pos j with h | h
 ·subst h;exact z49 _
 ·exact z08.mp ha i (i+j) hi (by rw [z2g] at hj;lia) (by lia)
def qn5 (ha:Asc rk as) {i:Nat} {x:α} (hx:as[i]? =some x):∀ q∈as.take (i+1),rk q<=rk x:=by
 intro q hq;obtain ⟨j,hj,e⟩:=z11.mp hq;rw [z1y] at e;obtain ⟨hi,ex⟩:=z07.mp hx;subst e ex;have hj':j<=i:=by rw [z2f] at hj;lia
 rcases Nat.lt_or_ge j i with h | h
 ·exact z08.mp ha j i (by lia) hi h
 ·have:j=i:=by lia
  subst this;exact z49 _
def qcr {i:Nat} {x:α} (hx:as[i]? =some x):(as.drop i).take 1=[x]:=by
 obtain ⟨hi,ex⟩:=z07.mp hx;rw [z09 hi,ex];rfl
end
end Tim
namespace Tim
open PySem PyProof.Rows
def q2t:Bool ->Keyed ->Array Keyed ->Nat ->Nat ->Nat ->StateT SortSt Sem (Option Nat):=sortPriv%PySem.Builtin.gallop
def beyd (left:Bool) (key:Keyed) (arr:Array Keyed) (i:Nat):StateT SortSt Sem (Option Bool):=do
 let p <- elem' arr i
 if left then lt' p key else return (<- lt' key p).map (!·)
def qoc (left:Bool) (key:Keyed) (arr:Array Keyed) (base n hint:Nat):q2t left key arr base n hint=(do
 let mut bk:=0
 let mut fw:=1
 let mut lo:=0
 let mut up:=0
 let some rt <- beyd left key arr (base+hint) | return none
 if rt then
  let most:=n - hint
  for _ in [0:n] do
   if fw >=most then break
   let some mr <- beyd left key arr (base+(hint+fw)) | return none
   if !mr then break
   bk:=fw
   fw:=2*fw+1
  lo:=hint+bk+1
  up:=hint+min fw most
 else
  let most:=hint+1
  for _ in [0:n] do
   if fw >=most then break
   let some fd <- beyd left key arr (base+(hint - fw)) | return none
   if fd then break
   bk:=fw
   fw:=2*fw+1
  lo:=hint+1 - min fw most
  up:=hint - bk
 for _ in [0:n] do
  if lo >=up then break
  let J:=lo+(up - lo) / 2
  let some mr <- beyd left key arr (base+J) | return none
  if mr then lo:=J+1 else up:=J
 return some up):=rfl
def ahd (left:Bool) (k v:Int):Bool:=if left then decide (v < k) else decide (v<=k)
def qcs {left:Bool} {k v u:Int} (h:v<=u) (e:ahd left k u=true):ahd left k v=true:=by
 unfold ahd at*;cases left
 ·simp at*
  lia
 ·simp at*
  lia
def gBin (left:Bool) (key:Keyed) (arr:Array Keyed) (base n lo0 up0:Nat):StateT SortSt Sem (Option Nat):=do
 let mut lo:=lo0
 let mut up:=up0
 for _ in [0:n] do
  if lo >=up then break
  let md:=lo+(up - lo) / 2
  let some mr <- beyd left key arr (base+md) | return none
  if mr then lo:=md+1 else up:=md
 return some up
section
variable {M:Model} {A:Around} {E:xB} {s:Shared} {kd:SortKind} {S:Keyed ->Prop} {rk:Keyed ->Int}
def q20 {st:SortSt} {arr:Array Keyed} {i:Nat} {p:Keyed} {Q:Keyed ->SortSt ->Prop} (e:arr[i]? =some p) (h:Q p st):wpS M A E s (elem' arr i) Q st:=by
 rw [elem'_eq,e];exact wpS_pure h
def qe4 (L:LtOk M A E s kd S rk) {st:SortSt} {left:Bool} {key:Keyed} {arr:Array Keyed} {i:Nat} {Q:Option Bool ->SortSt ->Prop} (hk:kindOf st=kd) (J:S key) (hp:∃ p,arr[i]? =some p/\S p)
  (h:Q (some (ahd left (rk key) (kx rk arr i))) st):wpS M A E s (beyd left key arr i) Q st:=by
 obtain ⟨p,e,sp⟩:=hp;rw [q3d e] at h;unfold beyd;refine wpS_bind (q20 e ?_);cases left with
 | true=>exact L p key st Q sp J hk h
 | false=>
  refine wpS_bind (L key p st _ J sp hk (wpS_pure ?_));have e2:(!decide (rk key < rk p))=ahd false (rk key) (rk p):=by
   unfold ahd;simp
   rw [<- decide_not];simp
  show Q (some (!decide (rk key < rk p))) st;rw [e2];exact h
def qpz (L:LtOk M A E s kd S rk) {st:SortSt} {left:Bool} {key:Keyed} {arr:Array Keyed} {base n lo up:Nat} {Q:Option Nat ->SortSt ->Prop} (hk:kindOf st=kd) (hS:S key)
  (hp:∀ i,i < n ->∃ p,arr[base+i]? =some p/\S p) (hu:Up rk arr base (base+n)) (Z:lo<=up) (a1:up<=n) (h1:∀ i,i < lo ->ahd left (rk key) (kx rk arr (base+i))=true)
  (h2:∀ i,up<=i ->i < n ->ahd left (rk key) (kx rk arr (base+i))=false)
  (h:∀ k,k<=n ->(∀ i,i < k ->ahd left (rk key) (kx rk arr (base+i))=true) ->(∀ i,k<=i ->i < n ->ahd left (rk key) (kx rk arr (base+i))=false) ->Q (some k) st):
  wpS M A E s (gBin left key arr base n lo up) Q st:=by
 unfold gBin
 dsimp only
 refine wpS_bind (wpS_mono (wpS_forRange (I:=λ x c J=>J=st/\∃ lo up,c=(none,lo,up)/\lo<=up/\up<=n/\up - lo<=n - x/\
   (∀ i,i < lo ->ahd left (rk key) (kx rk arr (base+i))=true)/\(∀ i,up<=i ->i < n ->ahd left (rk key) (kx rk arr (base+i))=false))
  (Q:=λ c J=>J=st/\∃ lo up,c=(none,lo,up)/\up<=n/\
   (∀ i,i < up ->ahd left (rk key) (kx rk arr (base+i))=true)/\(∀ i,up<=i ->i < n ->ahd left (rk key) (kx rk arr (base+i))=false)) ?turn ?last ⟨rfl,lo,up,rfl,Z,a1,by lia,h1,h2⟩) ?after)
 case after=>
  rintro c J ⟨rfl,lo,up,rfl,a,b,d⟩;exact wpS_pure (h up a b d)
 case last=>
  rintro c J ⟨rfl,lo,up,rfl,a,b,d,e1,e2⟩;have e:lo=up:=by lia
  subst e;exact ⟨zr,lo,lo,zr,b,e1,e2⟩
 case turn=>
  rintro x c J _ hx ⟨rfl,lo,up,rfl,a,b,d,e1,e2⟩
  dsimp only
  by_cases O:lo >=up
  ·rw [if_pos O];have e:lo=up:=by lia
   subst e;exact wpS_pure ⟨zr,lo,lo,zr,b,e1,e2⟩
  ·rw [if_neg O];refine wpS_bind (qe4 L hk hS (hp _ (by lia)) ?_);cases em:ahd left (rk key) (kx rk arr (base+(lo+(up - lo) / 2))) with
   | true=>
    dsimp only
    rw [if_pos rfl];refine wpS_pure ⟨zr,_,_,zr,by lia,b,by lia,λ i hi=> ?_,e2⟩;exact qcs (hu _ _ (by lia) (by lia) (by lia)) em
   | false=>
    dsimp only
    rw [if_neg z1k];refine wpS_pure ⟨zr,_,_,zr,by lia,by lia,by lia,e1,λ i hi hn=> ?_⟩;cases ei:ahd left (rk key) (kx rk arr (base+i)) with
    | false=>rfl
    | true=>
     have:=qcs (hu (base+(lo+(up - lo) / 2)) (base+i) (by lia) (by lia) (by lia)) ei;rw [em] at this;cases this
def q5h (L:LtOk M A E s kd S rk) {st:SortSt} {left:Bool} {key:Keyed} {arr:Array Keyed} {base n hint:Nat} {Q:Option Nat ->SortSt ->Prop} (hk:kindOf st=kd) (hS:S key)
  (hp:∀ i,i < n ->∃ p,arr[base+i]? =some p/\S p) (hu:Up rk arr base (base+n)) (hh:hint < n)
  (h:∀ k,k<=n ->(∀ i,i < k ->ahd left (rk key) (kx rk arr (base+i))=true) ->(∀ i,k<=i ->i < n ->ahd left (rk key) (kx rk arr (base+i))=false) ->Q (some k) st):
  wpS M A E s (q2t left key arr base n hint) Q st:=by
 have dn:∀ i j,i<=j ->j < n ->ahd left (rk key) (kx rk arr (base+j))=true ->ahd left (rk key) (kx rk arr (base+i))=true:=λ i j a b e=>qcs (hu _ _ (by lia) (by lia) (by lia)) e;have nu:∀ i j,i<=j ->j < n ->ahd left (rk key) (kx rk arr (base+i))=false ->ahd left (rk key) (kx rk arr (base+j))=false:=λ i j a b e=>by
  cases ej:ahd left (rk key) (kx rk arr (base+j)) with
  | false=>rfl
  | true=>
   rw [dn i j a b ej] at e;cases e
 rw [qoc]
 dsimp only
 refine wpS_bind (qe4 L hk hS (hp hint hh) ?_);cases e0:ahd left (rk key) (kx rk arr (base+hint)) with
 | true=>
  dsimp only
  rw [if_pos rfl];refine wpS_bind (wpS_mono (wpS_forRange (I:=λ x c J=>J=st/\∃ bk fw,c=(none,bk,fw)/\bk < fw/\x+1<=fw/\hint+bk < n/\ahd left (rk key) (kx rk arr (base+(hint+bk)))=true)
   (Q:=λ c J=>J=st/\∃ bk fw,c=(none,bk,fw)/\bk < fw/\hint+bk < n/\ahd left (rk key) (kx rk arr (base+(hint+bk)))=true/\(n - hint<=fw\/ hint+fw < n/\ahd left (rk key) (kx rk arr (base+(hint+fw)))=false)) ?turn ?last ⟨rfl,0,1,rfl,by lia,by lia,by lia,e0⟩) ?after)
  case last=>
   rintro c J ⟨rfl,bk,fw,rfl,a,b,d,e⟩;exact ⟨zr,bk,fw,zr,a,d,e,.inl (by lia)⟩
  case turn=>
   rintro x c J _ hx ⟨rfl,bk,fw,rfl,a,b,d,e⟩
   dsimp only
   by_cases O:fw >=n - hint
   ·rw [if_pos O];exact wpS_pure ⟨zr,bk,fw,zr,a,d,e,.inl O⟩
   ·rw [if_neg O];refine wpS_bind (qe4 L hk hS (hp _ (by lia)) ?_);cases Z:ahd left (rk key) (kx rk arr (base+(hint+fw))) with
    | true=>
     dsimp only
     rw [if_neg (by simp)];exact wpS_pure ⟨zr,fw,_,zr,by lia,by lia,by lia,Z⟩
    | false=>
     dsimp only
     rw [if_pos (by simp)];exact wpS_pure ⟨zr,bk,fw,zr,a,d,e,.inr ⟨by lia,Z⟩⟩
  case after=>
   rintro c J ⟨rfl,bk,fw,rfl,a,d,e,f⟩
   dsimp only
   refine qpz L hk hS hp hu (lo:=hint+bk+1) (up:=hint+min fw (n - hint)) (by lia) (by lia) (λ i hi=>dn i (hint+bk) (by lia) d e) (λ i hi hn=> ?_) h;rcases f with f | ⟨f1,f2⟩
   ·lia
   ·exact nu (hint+fw) i (by lia) hn f2
 | false=>
  dsimp only
  rw [if_neg z1k];refine wpS_bind (wpS_mono (wpS_forRange (I:=λ x c J=>J=st/\∃ bk fw,c=(none,bk,fw)/\bk < fw/\x+1<=fw/\bk<=hint/\ahd left (rk key) (kx rk arr (base+(hint - bk)))=false)
   (Q:=λ c J=>J=st/\∃ bk fw,c=(none,bk,fw)/\bk < fw/\bk<=hint/\ahd left (rk key) (kx rk arr (base+(hint - bk)))=false/\(hint+1<=fw\/ fw<=hint/\ahd left (rk key) (kx rk arr (base+(hint - fw)))=true)) ?turn ?last ⟨rfl,0,1,rfl,by lia,by lia,by lia,e0⟩) ?after)
  case last=>
   rintro c J ⟨rfl,bk,fw,rfl,a,b,d,e⟩;exact ⟨zr,bk,fw,zr,a,d,e,.inl (by lia)⟩
  case turn=>
   rintro x c J _ hx ⟨rfl,bk,fw,rfl,a,b,d,e⟩
   dsimp only
   by_cases O:fw >=hint+1
   ·rw [if_pos O];exact wpS_pure ⟨zr,bk,fw,zr,a,d,e,.inl O⟩
   ·rw [if_neg O];refine wpS_bind (qe4 L hk hS (hp _ (by lia)) ?_);cases Z:ahd left (rk key) (kx rk arr (base+(hint - fw))) with
    | true=>
     dsimp only
     rw [if_pos rfl];exact wpS_pure ⟨zr,bk,fw,zr,a,d,e,.inr ⟨by lia,Z⟩⟩
    | false=>
     dsimp only
     rw [if_neg z1k];exact wpS_pure ⟨zr,fw,_,zr,by lia,by lia,by lia,Z⟩
  case after=>
   rintro c J ⟨rfl,bk,fw,rfl,a,d,e,f⟩
   dsimp only
   refine qpz L hk hS hp hu (lo:=hint+1 - min fw (hint+1)) (up:=hint - bk) (by lia) (by lia) (λ i hi=> ?_) (λ i hi hn=>nu (hint - bk) i hi hn e) h;rcases f with f | ⟨f1,f2⟩
   ·lia
   ·exact dn i (hint - fw) (by lia) (by lia) f2
end
def qct:Array Keyed ->Array Keyed ->StateT SortSt Sem (Array Keyed):=sortPriv%PySem.Builtin.mergeLo
abbrev q79 (st:SortSt) (g:Nat):SortSt:=SortSt.mk' (kindOf st) (arrOf st) (pendingOf st) g (failedOf st)
def q3e (a b out:Array Keyed) (ia ib:Nat):Array Keyed:=out++a.extract ia a.size++b.extract ib b.size
def q84 (a b out:Array Keyed) (ia ib:Nat):Array Keyed:=out++b.extract ib b.size++a.extract ia a.size
def qmk (a b:Array Keyed):qct a b=(do
 rule "list.sort.merge-lo"
 let all:=a.size+b.size
 let mut o:Array Keyed:=#[<- elem' b 0]
 let mut x:=0
 let mut y:=1
 if y==b.size then return q3e a b o x y
 if x+1==a.size then return q84 a b o x y
 let mut g:=gallopOf (<- get)
 for _ in [0:all] do
  let mut ca:=0
  let mut cb:=0
  for _ in [0:all] do
   let some won <- lt' (<- elem' b y) (<- elem' a x) | return q3e a b o x y
   if won then
    o:=o.push (<- elem' b y);y:=y+1;cb:=cb+1;ca:=0
    if y==b.size then return q3e a b o x y
    if cb >=g then break
   else
    o:=o.push (<- elem' a x);x:=x+1;ca:=ca+1;cb:=0
    if x+1==a.size then return q84 a b o x y
    if ca >=g then break
  rule "list.sort.gallop"
  g:=g+1
  for _ in [0:all] do
   if g > 1 then g:=g - 1
   modify λ st=>q79 st g
   let some k <- q2t false (<- elem' b y) a x (a.size - x) 0 | return q3e a b o x y
   ca:=k
   if k > 0 then
    o:=o++a.extract x (x+k);x:=x+k
    if x+1==a.size then return q84 a b o x y
    if x==a.size then return q3e a b o x y
   o:=o.push (<- elem' b y);y:=y+1
   if y==b.size then return q3e a b o x y
   let some k <- q2t true (<- elem' a x) b y (b.size - y) 0 | return q3e a b o x y
   cb:=k
   if k > 0 then
    o:=o++b.extract y (y+k);y:=y+k
    if y==b.size then return q3e a b o x y
   o:=o.push (<- elem' a x);x:=x+1
   if x+1==a.size then return q84 a b o x y
   if ca < 7&&cb < 7 then break
  g:=g+1
  modify λ st=>q79 st g
 unsupported "internal:list.sort.merge-bound"):=rfl
structure Gl (st st':SortSt):Prop where
 arr:arrOf st'=arrOf st
 kind:kindOf st'=kindOf st
 pend:pendingOf st'=pendingOf st
 failed:failedOf st'=failedOf st
def Gl.refl (st:SortSt):Gl st st:=⟨rfl,rfl,rfl,rfl⟩
def Gl.set {st J:SortSt} (h:Gl st J) (g:Nat):Gl st (q79 J g):=⟨h.arr,h.kind,h.pend,h.failed⟩
section
variable {rk:Keyed ->Int} {a b o:Array Keyed} {x y:Nat}
def q2u (xs:Array Keyed) (i:Nat) {p:Keyed} (h:xs.toList[i]? =some p):kx rk xs i=rk p:=q3d (by rw [<- h,z0w])
def q8m {l:List Keyed} {i k:Nat} {p:Keyed} (h:p∈(l.drop i).take k):∃ j,j < k/\l[i+j]? =some p:=by
 obtain ⟨j,hj,e⟩:=z11.mp h;rw [z2f] at hj;refine ⟨j,by lia,?_⟩;rw [<- e,z1y,List.getElem_drop,z0c]
def qcu {l:List Keyed} {i:Nat} {p:Keyed} (h:p∈l.drop i):∃ j,i<=j/\j < l.length/\l[j]? =some p:=by
 obtain ⟨j,hj,e⟩:=z11.mp h;rw [z2g] at hj;refine ⟨i+j,by lia,by lia,?_⟩;rw [<- e,List.getElem_drop,z0c]
def qe5 {xs:Array Keyed} (h:Asc rk xs.toList) (lo hi:Nat) (hh:hi<=xs.size):Up rk xs lo hi:=by
 intro i j _ hij hj;have J:i < xs.toList.length:=by rw [z18];lia
 have O:j < xs.toList.length:=by rw [z18];lia
 rw [q2u xs i (z0c J),q2u xs j (z0c O)];rcases Nat.lt_or_ge i j with q | q
 ·exact z08.mp h i j J O q
 ·have:i=j:=by lia
  subst this;exact z49 _
def qsn (xs:Array Keyed) (i k:Nat):(xs.extract i (i+k)).toList=(xs.toList.drop i).take k:=by
 rw [z12,z0a]
 congr 1
 lia
def q92 (xs:Array Keyed) (i:Nat):(xs.extract i xs.size).toList=xs.toList.drop i:=by
 rw [z12,z0a,z0m];rw [z2g,z18]
 lia
def qcv {p:Keyed} (h:Jn rk a.toList b.toList o.toList x y) (ha:Asc rk a.toList) (e:a[x]? =some p) (J:∀ q∈b.toList.drop y,rk p<=rk q):Jn rk a.toList b.toList (o.push p).toList (x+1) y:=by
 have e':a.toList[x]? =some p:=by rw [z0w];exact e
 have:=h.moreA ha 1 (by rw [qcr e'];intro z hz;rw [z1l.mp hz];exact J)
 rwa [qcr e',<- z1z] at this
def qcw {p:Keyed} (h:Jn rk a.toList b.toList o.toList x y) (hb:Asc rk b.toList) (e:b[y]? =some p) (J:∀ q∈a.toList.drop x,rk p<=rk q):Jn rk a.toList b.toList (o.push p).toList x (y+1):=
 (qcv h.swap hb e J).swap
def qn6 (h:Jn rk a.toList b.toList o.toList x y) (ha:Asc rk a.toList) (k:Nat) (hx:∀ p∈(a.toList.drop x).take k,∀ q∈b.toList.drop y,rk p<=rk q):Jn rk a.toList b.toList (o++a.extract x (x+k)).toList (x+k) y:=by
 rw [z19,qsn];exact h.moreA ha k hx
def qvq (h:Jn rk a.toList b.toList o.toList x y) (hb:Asc rk b.toList) (k:Nat) (hx:∀ p∈(b.toList.drop y).take k,∀ q∈a.toList.drop x,rk p<=rk q):Jn rk a.toList b.toList (o++b.extract y (y+k)).toList x (y+k):=
 (qn6 h.swap hb k hx).swap
def Good (rk:Keyed ->Int) (a b r:Array Keyed):Prop:=r.toList.Perm (a.toList++b.toList)/\Asc rk r.toList
def q6w (h:Jn rk a.toList b.toList o.toList x y) (ha:Asc rk a.toList) (hb:Asc rk b.toList) (hy:y=b.size):Good rk a b (q3e a b o x y):=by
 have hx:∀ p∈a.toList.drop x,∀ q∈b.toList.drop y,rk p<=rk q:=λ p _ q hq=>by
  rw [List.drop_of_length_le (by rw [z18];lia)] at hq;cases hq
 have:=h.done ha hb hx;unfold Good q3e;rw [z19,z19,q92,q92];exact this
end
structure Mg (S:Keyed ->Prop) (rk:Keyed ->Int) (a b:Array Keyed):Prop where
 sa:∀ p∈a.toList,S p
 sb:∀ p∈b.toList,S p
 aa:Asc rk a.toList
 ab:Asc rk b.toList
 na:0 < a.size
 nb:0 < b.size
 top:∃ z,a[a.size - 1]? =some z/\∀ p∈b.toList,rk p < rk z
 bot:∃ z,b[0]? =some z/\∀ p∈a.toList,rk z < rk p
section
variable {S:Keyed ->Prop} {rk:Keyed ->Int} {a b o:Array Keyed} {x y:Nat}
def Mg.atA (m:Mg S rk a b) {i:Nat} (h:i < a.size):∃ p,a[i]? =some p/\S p/\p∈a.toList:=
 ⟨a[i],getElem?_pos a i h,m.sa _ (by simp),by simp⟩
def Mg.atB (m:Mg S rk a b) {i:Nat} (h:i < b.size):∃ p,b[i]? =some p/\S p/\p∈b.toList:=
 ⟨b[i],getElem?_pos b i h,m.sb _ (by simp),by simp⟩
def q6x (m:Mg S rk a b) (h:Jn rk a.toList b.toList o.toList x y) (hx:x+1=a.size):Good rk a b (q84 a b o x y):=by
 obtain ⟨z,ez,hz⟩:=m.top;have hq:∀ p∈b.toList.drop y,∀ q∈a.toList.drop x,rk p<=rk q:=λ p hp q hq=>by
  obtain ⟨j,h1,h2,e⟩:=qcu hq;rw [z18] at h2;have ej:j=a.size - 1:=by lia
  rw [z0w,ej,ez] at e;cases e
  exact z3u (hz p (z13 hp))
 have:=h.done2 m.aa m.ab hq;unfold Good q84;rw [z19,z19,q92,q92];exact this
def qk4 (m:Mg S rk a b) {i:Nat} {p:Keyed} (e:a[i]? =some p):∀ q∈a.toList.drop i,rk p<=rk q:=qn4 m.aa (by rw [z0w];exact e)
def qk5 (m:Mg S rk a b) {i:Nat} {p:Keyed} (e:b[i]? =some p):∀ q∈b.toList.drop i,rk p<=rk q:=qn4 m.ab (by rw [z0w];exact e)
end
abbrev LoSt:=Option (Array Keyed)×Array Keyed×Nat×Nat×Nat×Nat×Nat
def qe6 (a b:Array Keyed) (ca cb g:Nat) (o:Array Keyed) (x y:Nat):StateT SortSt Sem (ForInStep LoSt):=do
 let p <- elem' a x
 if (x+1+1==a.size)=true then pure (ForInStep.done (some (q84 a b (o.push p) (x+1) y),o.push p,x+1,y,g,ca,cb))
 else if (decide (ca < 7)&&decide (cb < 7))=true then pure (ForInStep.done (none,o.push p,x+1,y,g,ca,cb))
 else pure (ForInStep.yield (none,o.push p,x+1,y,g,ca,cb))
def qjt (a b:Array Keyed) (ca cb g:Nat) (o:Array Keyed) (x y:Nat):StateT SortSt Sem (ForInStep LoSt):=do
 let p <- elem' b y
 if (y+1==b.size)=true then pure (ForInStep.done (some (q3e a b (o.push p) x (y+1)),o.push p,x,y+1,g,ca,cb))
 else do
  let some k <- q2t true (<- elem' a x) b (y+1) (b.size - (y+1)) 0 | pure (ForInStep.done (some (q3e a b (o.push p) x (y+1)),o.push p,x,y+1,g,ca,cb))
  if k > 0 then
   if (y+1+k==b.size)=true then pure (ForInStep.done (some (q3e a b (o.push p++b.extract (y+1) (y+1+k)) x (y+1+k)),o.push p++b.extract (y+1) (y+1+k),x,y+1+k,g,ca,k))
   else qe6 a b ca k g (o.push p++b.extract (y+1) (y+1+k)) x (y+1+k)
  else qe6 a b ca k g (o.push p) x (y+1)
def qod (a b:Array Keyed) (ca cb g:Nat) (o:Array Keyed) (x y:Nat):StateT SortSt Sem (ForInStep LoSt):=do
 modify λ st=>q79 st g
 let some k <- q2t false (<- elem' b y) a x (a.size - x) 0 | pure (ForInStep.done (some (q3e a b o x y),o,x,y,g,ca,cb))
 if k > 0 then
  if (x+k+1==a.size)=true then pure (ForInStep.done (some (q84 a b (o++a.extract x (x+k)) (x+k) y),o++a.extract x (x+k),x+k,y,g,k,cb))
  else if (x+k==a.size)=true then pure (ForInStep.done (some (q3e a b (o++a.extract x (x+k)) (x+k) y),o++a.extract x (x+k),x+k,y,g,k,cb))
  else qjt a b k cb g (o++a.extract x (x+k)) (x+k) y
 else qjt a b k cb g o x y
section
variable {M:Model} {A:Around} {E:xB} {s:Shared} {kd:SortKind} {S:Keyed ->Prop} {rk:Keyed ->Int} {a b:Array Keyed} {st:SortSt}
structure Go (rk:Keyed ->Int) (a b o:Array Keyed) (x y:Nat):Prop where
 jn:Jn rk a.toList b.toList o.toList x y
 hx:x+1 < a.size
 hy:y < b.size
def LoQ (rk:Keyed ->Int) (a b:Array Keyed) (st:SortSt) (n:Nat) (r:ForInStep LoSt) (st':SortSt):Prop:=Gl st st'/\match r with
 | .done c=>(∃ r,c.1=some r/\Good rk a b r)\/ (c.1=none/\Go rk a b c.2.1 c.2.2.1 c.2.2.2.1/\n<=c.2.2.1+c.2.2.2.1)
 | .yield c=>c.1=none/\Go rk a b c.2.1 c.2.2.1 c.2.2.2.1/\n<=c.2.2.1+c.2.2.2.1
def qk6 (m:Mg S rk a b) {O:SortSt} {n ca cb g x y:Nat} {o:Array Keyed} (hg:Gl st O) (J:Jn rk a.toList b.toList o.toList x y) (hx:x+1 < a.size) (hy:y < b.size)
  (a1:∀ p,a[x]? =some p ->∀ q∈b.toList.drop y,rk p<=rk q) (hn:n<=x+y):wpS M A E s (qe6 a b ca cb g o x y) (LoQ rk a b st (n+1)) O:=by
 obtain ⟨p,e,_,_⟩:=m.atA (i:=x) (by lia);have Z:=qcv J m.aa e (a1 p e);unfold qe6;refine wpS_bind (q20 e ?_);by_cases c1:x+1+1=a.size
 ·rw [if_pos (by simpa using c1)];exact wpS_pure ⟨hg,.inl ⟨_,zr,q6x m Z c1⟩⟩
 ·rw [if_neg (by simpa using c1)];by_cases c2:(decide (ca < 7)&&decide (cb < 7))=true
  ·rw [if_pos c2];exact wpS_pure ⟨hg,.inr ⟨rfl,⟨Z,by show x+1+1 < a.size;lia,hy⟩,by show n+1<=x+1+y;lia⟩⟩
  ·rw [if_neg c2];exact wpS_pure ⟨hg,rfl,⟨Z,by show x+1+1 < a.size;lia,hy⟩,by show n+1<=x+1+y;lia⟩
def qn7 (L:LtOk M A E s kd S rk) (hk:kindOf st=kd) (m:Mg S rk a b) {Z:SortSt} {n ca cb g x y:Nat} {o:Array Keyed} (O:Gl st Z) (J:Jn rk a.toList b.toList o.toList x y) (hx:x+1 < a.size) (hy:y < b.size)
  (a1:∀ p,b[y]? =some p ->∀ q∈a.toList.drop x,rk p<=rk q) (hn:n<=x+y):wpS M A E s (qjt a b ca cb g o x y) (LoQ rk a b st (n+1)) Z:=by
 obtain ⟨p,e,_,_⟩:=m.atB hy;have J':=qcw J m.ab e (a1 p e);unfold qjt;refine wpS_bind (q20 e ?_);by_cases c1:y+1=b.size
 ·rw [if_pos (by simpa using c1)];exact wpS_pure ⟨O,.inl ⟨_,zr,q6w J' m.aa m.ab c1⟩⟩
 ·rw [if_neg (by simpa using c1)];obtain ⟨q,eq,sq,_⟩:=m.atA (i:=x) (by lia);refine wpS_bind (q20 eq ?_);refine wpS_bind (q5h L (O.kind.trans hk) sq (λ i hi=> ?_) (qe5 m.ab _ _ (by lia)) (by lia) λ k k1 k2 k3=> ?_)
  ·obtain ⟨p,e,sp,_⟩:=m.atB (i:=y+1+i) (by lia);exact ⟨p,e,sp⟩
  dsimp only
  have after:∀ p',a[x]? =some p' ->∀ z∈b.toList.drop (y+1+k),rk p'<=rk z:=λ p' ep z hz=>by
   rw [eq] at ep;cases ep
   obtain ⟨j,h1,h2,ez⟩:=qcu hz;rw [z18] at h2;have:=k3 (j - (y+1)) (by lia) (by lia);rw [show y+1+(j - (y+1))=j by lia,q2u b j ez] at this;simp [ahd] at this
   lia
  by_cases c2:k > 0
  ·rw [if_pos c2];have J2:=qvq J' m.ab k λ z hz w hw=>by
    obtain ⟨j,h1,ez⟩:=q8m hz;have:=k2 j h1;rw [q2u b _ ez] at this;simp [ahd] at this
    have:=qk4 m eq w hw
    lia
   by_cases c3:y+1+k=b.size
   ·rw [if_pos (by simpa using c3)];exact wpS_pure ⟨O,.inl ⟨_,zr,q6w J2 m.aa m.ab c3⟩⟩
   ·rw [if_neg (by simpa using c3)];exact qk6 m O J2 hx (by lia) after (by lia)
  ·rw [if_neg c2];have k0:k=0:=by lia
   subst k0;exact qk6 m O J' hx (by lia) after (by lia)
def qvr (L:LtOk M A E s kd S rk) (hk:kindOf st=kd) (m:Mg S rk a b) {a1:SortSt} {n ca cb g x y:Nat} {o:Array Keyed} (hg:Gl st a1) (G:Go rk a b o x y) (hn:n<=x+y):
  wpS M A E s (qod a b ca cb g o x y) (LoQ rk a b st (n+1)) a1:=by
 obtain ⟨J,hx,hy⟩:=G;unfold qod;refine wpS_bind (wpS_modify ?_);have O:=hg.set g;obtain ⟨q,eq,sq,mq⟩:=m.atB hy;refine wpS_bind (q20 eq ?_);refine wpS_bind (q5h L (O.kind.trans hk) sq (λ i hi=> ?_) (qe5 m.aa _ _ (by lia)) (by lia) λ k k1 k2 k3=> ?_)
 ·obtain ⟨p,e,sp,_⟩:=m.atA (i:=x+i) (by lia);exact ⟨p,e,sp⟩
 dsimp only
 have after:∀ p',b[y]? =some p' ->∀ z∈a.toList.drop (x+k),rk p'<=rk z:=λ p' ep z hz=>by
  rw [eq] at ep;cases ep
  obtain ⟨j,h1,h2,Z⟩:=qcu hz;rw [z18] at h2;have:=k3 (j - x) (by lia) (by lia);rw [show x+(j - x)=j by lia,q2u a j Z] at this;simp [ahd] at this
  lia
 by_cases c2:k > 0
 ·rw [if_pos c2];have J2:=qn6 J m.aa k λ z hz w hw=>by
   obtain ⟨j,h1,Z⟩:=q8m hz;have:=k2 j h1;rw [q2u a _ Z] at this;simp [ahd] at this
   have:=qk5 m eq w hw
   lia
  by_cases c3:x+k+1=a.size
  ·rw [if_pos (by simpa using c3)];exact wpS_pure ⟨O,.inl ⟨_,zr,q6x m J2 c3⟩⟩
  ·rw [if_neg (by simpa using c3)];have c4:¬ x+k=a.size:=λ c4=>by
    obtain ⟨z,Z,hz⟩:=m.top;have:=k2 (a.size - 1 - x) (by lia);rw [show x+(a.size - 1 - x)=a.size - 1 by lia,q3d Z] at this;simp [ahd] at this
    have:=hz q mq
    lia
   rw [if_neg (by simpa using c4)];exact qn7 L hk m O J2 (by lia) hy after (by lia)
 ·rw [if_neg c2];have k0:k=0:=by lia
  subst k0;exact qn7 L hk m O J hx hy after hn
def qq0 (L:LtOk M A E s kd S rk) (hk:kindOf st=kd) (m:Mg S rk a b) {Q:Array Keyed ->SortSt ->Prop} (h:∀ r O,Gl st O ->Good rk a b r ->Q r O):wpS M A E s (qct a b) Q st:=by
 rw [qmk];refine wpS_bind (wpS_lift (z4c ⟨zr,?_⟩));obtain ⟨q,eq,sq,mq⟩:=m.atB m.nb;refine wpS_bind (q20 eq ?_);have J1:Jn rk a.toList b.toList (#[q]:Array Keyed).toList 0 1:=by
  obtain ⟨z,ez,hz⟩:=m.bot;rw [eq] at ez;cases ez
  exact qcw (o:=#[]) Jn.start m.ab eq λ w hw=>z3u (hz w (z13 hw))
 by_cases c1:1=b.size
 ·rw [if_pos (by simpa using c1)];exact wpS_pure (h _ _ (Gl.refl _) (q6w J1 m.aa m.ab c1))
 ·rw [if_neg (by simpa using c1)];by_cases c2:0+1=a.size
  ·rw [if_pos (by simpa using c2)];exact wpS_pure (h _ _ (Gl.refl _) (q6x m J1 c2))
  ·rw [if_neg (by simpa using c2)];refine wpS_bind (wpS_get ?_);have na:=m.na;have nb:=m.nb;have G1:Go rk a b #[q] 0 1:=⟨J1,by lia,by lia⟩;refine wpS_bind (wpS_mono (wpS_forRange (I:=λ i c O=>Gl st O/\∃ o x y g,c=(none,o,x,y,g)/\Go rk a b o x y/\i+1<=x+y)
    (Q:=λ c O=>Gl st O/\∃ r o x y g,c=(some r,o,x,y,g)/\Good rk a b r) ?turn ?last ⟨Gl.refl _,#[q],0,1,_,rfl,G1,by lia⟩) ?after)
   case after=>
    rintro c O ⟨hg,r,o,x,y,g,rfl,hr⟩;exact wpS_pure (h r O hg hr)
   case last=>
    rintro c O ⟨hg,o,x,y,g,rfl,G,hi⟩;have:=G.hx;have:=G.hy
    exfalso
    lia
   case turn=>
    rintro i c O _ hi ⟨hg,o,x,y,g,rfl,G,hxy⟩
    dsimp only
    refine wpS_bind (wpS_mono (wpS_forRange (I:=λ j c Z=>Gl st Z/\∃ o x y ca cb,c=(none,o,x,y,ca,cb)/\Go rk a b o x y/\i+1+j<=x+y)
     (Q:=λ c Z=>Gl st Z/\∃ r o x y ca cb,c=(r,o,x,y,ca,cb)/\match r with
      | some r=>Good rk a b r
      | none=>Go rk a b o x y/\i+2<=x+y) ?iturn ?ilast ⟨hg,o,x,y,0,0,rfl,G,by lia⟩) ?iafter)
    case ilast=>
     rintro c Z ⟨J,o,x,y,ca,cb,rfl,G,hj⟩;have:=G.hx;have:=G.hy
     exfalso
     lia
    case iturn=>
     rintro j c Z _ hj ⟨J,o,x,y,ca,cb,rfl,G,a6⟩
     dsimp only
     obtain ⟨pb,eb,sb,mb⟩:=m.atB G.hy;obtain ⟨pa,ea,sa,ma⟩:=m.atA (i:=x) (by have:=G.hx;lia);refine wpS_bind (q20 eb (wpS_bind (q20 ea (wpS_bind (L pb pa Z _ sb sa (J.kind.trans hk) ?_)))));by_cases hw:rk pb < rk pa
     ·simp only [hw,z48,if_true];refine wpS_bind (q20 eb ?_);have J2:=qcw G.jn m.ab eb λ z hz=>z3v (z3u hw) (qk4 m ea z hz);by_cases c3:y+1=b.size
      ·rw [if_pos (by simpa using c3)];exact wpS_pure ⟨J,_,_,_,_,_,_,zr,q6w J2 m.aa m.ab c3⟩
      ·rw [if_neg (by simpa using c3)];have G2:Go rk a b (o.push pb) x (y+1):=⟨J2,G.hx,by have:=G.hy;lia⟩;split
       ·exact wpS_pure ⟨J,_,_,_,_,_,_,zr,G2,by lia⟩
       ·exact wpS_pure ⟨J,_,_,_,_,_,zr,G2,by lia⟩
     ·simp only [hw,z3t,z1j,if_false];refine wpS_bind (q20 ea ?_);have J2:=qcv G.jn m.aa ea λ z hz=>z3v (by lia) (qk5 m eb z hz);by_cases c3:x+1+1=a.size
      ·rw [if_pos (by simpa using c3)];exact wpS_pure ⟨J,_,_,_,_,_,_,zr,q6x m J2 c3⟩
      ·rw [if_neg (by simpa using c3)];have G2:Go rk a b (o.push pa) (x+1) y:=⟨J2,by have:=G.hx;lia,G.hy⟩;split
       ·exact wpS_pure ⟨J,_,_,_,_,_,_,zr,G2,by lia⟩
       ·exact wpS_pure ⟨J,_,_,_,_,_,zr,G2,by lia⟩
    case iafter=>
     rintro c Z ⟨J,r,o2,x2,y2,ca,cb,rfl,hr⟩;cases r with
     | some r=>exact wpS_pure ⟨J,r,_,_,_,_,rfl,hr⟩
     | none=>
      obtain ⟨G2,a6⟩:=hr
      dsimp only
      refine wpS_bind (wpS_lift (z4c ⟨zr,?_⟩));refine wpS_bind (wpS_mono (wpS_forRange (I:=λ j c a1=>Gl st a1/\∃ o x y g ca cb,c=(none,o,x,y,g,ca,cb)/\Go rk a b o x y/\i+2+j<=x+y)
       (Q:=λ c a1=>Gl st a1/\∃ r o x y g ca cb,c=(r,o,x,y,g,ca,cb)/\match r with
        | some r=>Good rk a b r
        | none=>Go rk a b o x y/\i+2<=x+y) ?gturn ?glast ⟨J,o2,x2,y2,_,_,_,rfl,G2,by lia⟩) ?gafter)
      case glast=>
       rintro c a1 ⟨a2,o,x,y,g,ca,cb,rfl,G,hj⟩;have:=G.hx;have:=G.hy
       exfalso
       lia
      case gturn=>
       rintro j c a1 _ hj ⟨a2,o,x,y,g,ca,cb,rfl,G,a3⟩;have go:∀ g',wpS M A E s (qod a b ca cb g' o x y) (LoQ rk a b st (i+2+j+1)) a1:=λ g'=>qvr L hk m a2 G a3
       dsimp only
       by_cases a5:g > 1
       case' pos=>
        rw [if_pos a5];refine wpS_mono (go (g - 1)) ?_
       case' neg=>
        rw [if_neg a5];refine wpS_mono (go g) ?_
       all_goals
        intro r st4 q;obtain ⟨a4,q⟩:=q;cases r with
        | done c'=>
         obtain ⟨r,o,x,y,g,ca,cb⟩:=c';rcases q with ⟨r',e,q⟩ | ⟨e,q,q'⟩
         ·simp only at e;subst e;exact ⟨a4,_,_,_,_,_,_,_,zr,q⟩
         ·simp only at e q q';subst e;exact ⟨a4,_,_,_,_,_,_,_,zr,q,by lia⟩
        | yield c'=>
         obtain ⟨r,o,x,y,g,ca,cb⟩:=c';obtain ⟨e,q,q'⟩:=q;simp only at e q q';subst e;exact ⟨a4,_,_,_,_,_,_,zr,q,by lia⟩
      case gafter=>
       rintro c a1 ⟨a2,r,o3,x3,y3,g3,ca3,cb3,rfl,hr⟩;cases r with
       | some r=>exact wpS_pure ⟨a2,r,_,_,_,_,rfl,hr⟩
       | none=>
        obtain ⟨G3,a3⟩:=hr
        dsimp only
        exact wpS_bind (wpS_modify (wpS_pure ⟨a2.set _,_,_,_,_,zr,G3,by lia⟩))
end
def qcx:Array Keyed ->Array Keyed ->StateT SortSt Sem (Array Keyed):=sortPriv%PySem.Builtin.mergeHi
def q3f (a b out:Array Keyed) (na nb:Nat):Array Keyed:=a.extract 0 na++b.extract 0 nb++out.reverse
def q63 (a b out:Array Keyed) (na nb:Nat):Array Keyed:=b.extract 0 nb++a.extract 0 na++out.reverse
def qml (a b:Array Keyed):qcx a b=(do
 rule "list.sort.merge-hi"
 let all:=a.size+b.size
 let mut x:=a.size - 1
 let mut y:=b.size
 let mut o:Array Keyed:=#[<- elem' a x]
 if x==0 then return q3f a b o x y
 if y==1 then return q63 a b o x y
 let mut g:=gallopOf (<- get)
 for _ in [0:all] do
  let mut ca:=0
  let mut cb:=0
  for _ in [0:all] do
   let some won <- lt' (<- elem' b (y - 1)) (<- elem' a (x - 1)) | return q3f a b o x y
   if won then
    x:=x - 1;o:=o.push (<- elem' a x);ca:=ca+1;cb:=0
    if x==0 then return q3f a b o x y
    if ca >=g then break
   else
    y:=y - 1;o:=o.push (<- elem' b y);cb:=cb+1;ca:=0
    if y==1 then return q63 a b o x y
    if cb >=g then break
  rule "list.sort.gallop"
  g:=g+1
  for _ in [0:all] do
   if g > 1 then g:=g - 1
   modify λ st=>q79 st g
   let some j <- q2t false (<- elem' b (y - 1)) a 0 x (x - 1) | return q3f a b o x y
   let k:=x - j
   ca:=k
   if k > 0 then
    o:=o++(a.extract j x).reverse;x:=j
    if x==0 then return q3f a b o x y
   y:=y - 1;o:=o.push (<- elem' b y)
   if y==1 then return q63 a b o x y
   let some j <- q2t true (<- elem' a (x - 1)) b 0 y (y - 1) | return q3f a b o x y
   let k:=y - j
   cb:=k
   if k > 0 then
    o:=o++(b.extract j y).reverse;y:=j
    if y==1 then return q63 a b o x y
    if y==0 then return q3f a b o x y
   x:=x - 1;o:=o.push (<- elem' a x)
   if x==0 then return q3f a b o x y
   if ca < 7&&cb < 7 then break
  g:=g+1
  modify λ st=>q79 st g
 unsupported "internal:list.sort.merge-bound"):=rfl
section
variable {rk:Keyed ->Int} {a b o:Array Keyed} {x y:Nat}
def JH (rk:Keyed ->Int) (a b o:Array Keyed) (x y:Nat):Prop:=Jn (λ p=>- rk p) a.toList.reverse b.toList.reverse o.toList (a.size - x) (b.size - y)/\x<=a.size/\y<=b.size
theorem JH.swap (h:JH rk a b o x y):JH rk b a o y x:=⟨h.1.swap,h.2.2,h.2.1⟩
def qe7 (xs:Array Keyed) {k:Nat} (h:k<=xs.size):xs.toList.reverse.drop (xs.size - k)=(xs.toList.take k).reverse:=by
 have:=qk3 xs.toList k (by rw [z18];exact h)
 rwa [z18] at this
def rcut (xs:Array Keyed) {i k:Nat} (hi:i<=k) (h:k<=xs.size):(xs.toList.reverse.drop (xs.size - k)).take (k - i)=((xs.toList.drop i).take (k - i)).reverse:=by
 have:=qvp xs.toList i k hi (by rw [z18];exact h)
 rwa [z18] at this
def qfv (h:JH rk a b o x y) (ha:Asc rk a.toList) {j:Nat} (O:j<=x) (hx:∀ p∈(a.toList.drop j).take (x - j),∀ q∈b.toList.take y,rk q<=rk p):JH rk a b (o++(a.extract j x).reverse) j y:=by
 obtain ⟨J,h1,h2⟩:=h;refine ⟨?_,by lia,h2⟩;have:=J.moreA (qfu ha) (x - j) (λ p Z q hq=>by
  rw [rcut a O h1] at Z;rw [qe7 b h2] at hq;have:=hx p (List.mem_reverse.mp Z) q (List.mem_reverse.mp hq);show - rk p<= - rk q
  lia)
 rw [rcut a O h1,show a.size - x+(x - j)=a.size - j by lia] at this;rw [z19,Array.toList_reverse,z12,z0a];exact this
def q93 {p:Keyed} (h:JH rk a b o x y) (ha:Asc rk a.toList) (h1:1<=x) (e:a[x - 1]? =some p) (J:∀ q∈b.toList.take y,rk q<=rk p):JH rk a b (o.push p) (x - 1) y:=by
 have e':a.toList[x - 1]? =some p:=by rw [z0w];exact e
 have t1:(a.toList.drop (x - 1)).take (x - (x - 1))=[p]:=by
  rw [show x - (x - 1)=1 by lia];exact qcr e'
 have:=qfv h ha (j:=x - 1) (by lia) (by rw [t1];intro z hz;rw [z1l.mp hz];exact J);have e2:(o++(a.extract (x - 1) x).reverse)=o.push p:=by
  apply Array.toList_inj.mp
  rw [z19,Array.toList_reverse,z12,z0a,t1,z1z];rfl
 rwa [e2] at this
def qvs (h:JH rk a b o x y) (hb:Asc rk b.toList) {j:Nat} (hj:j<=y) (hx:∀ p∈(b.toList.drop j).take (y - j),∀ q∈a.toList.take x,rk q<=rk p):JH rk a b (o++(b.extract j y).reverse) x j:=(qfv h.swap hb hj hx).swap
def qk7 {p:Keyed} (h:JH rk a b o x y) (hb:Asc rk b.toList) (h1:1<=y) (e:b[y - 1]? =some p) (J:∀ q∈a.toList.take x,rk q<=rk p):JH rk a b (o.push p) x (y - 1):=(q93 h.swap hb h1 e J).swap
def qk8 (xs:Array Keyed) (k:Nat):(xs.extract 0 k).toList=xs.toList.take k:=by
 rw [z12,z0a,List.drop_zero,Nat.sub_zero]
def good_headB' (h:JH rk a b o x y) (ha:Asc rk a.toList) (hb:Asc rk b.toList) (hq:∀ p∈a.toList.take x,∀ q∈b.toList.take y,rk q<=rk p):Good rk a b (q63 a b o x y):=by
 obtain ⟨J,h1,h2⟩:=h;have:=J.done (qfu ha) (qfu hb) (λ p Z q O=>by
  rw [qe7 a h1] at Z;rw [qe7 b h2] at O;have:=hq p (List.mem_reverse.mp Z) q (List.mem_reverse.mp O);show - rk p<= - rk q
  lia)
 rw [qe7 a h1,qe7 b h2] at this;have e:(q63 a b o x y).toList=(o.toList++(a.toList.take x).reverse++(b.toList.take y).reverse).reverse:=by
  unfold q63;rw [z19,z19,qk8,qk8,Array.toList_reverse];simp
 unfold Good;rw [e];exact ⟨(List.reverse_perm _).trans (this.1.trans ((List.reverse_perm _).append (List.reverse_perm _))),asc_rev' this.2⟩
def good_headA' (h:JH rk a b o x y) (ha:Asc rk a.toList) (hb:Asc rk b.toList) (hq:∀ p∈b.toList.take y,∀ q∈a.toList.take x,rk q<=rk p):Good rk a b (q3f a b o x y):=by
 obtain ⟨p,q⟩:=good_headB' h.swap hb ha hq;exact ⟨p.trans z0t,q⟩
def q6y (h:JH rk a b o x y) (ha:Asc rk a.toList) (hb:Asc rk b.toList) (hx:x=0):Good rk a b (q3f a b o x y):=by
 refine good_headA' h ha hb λ p _ q hq=> ?_;rw [hx,List.take_zero] at hq;cases hq
end
section
variable {S:Keyed ->Prop} {rk:Keyed ->Int} {a b o:Array Keyed} {x y:Nat}
def q6z (m:Mg S rk a b) (h:JH rk a b o x y) (hy:y=1):Good rk a b (q63 a b o x y):=by
 obtain ⟨z,ez,hz⟩:=m.bot;refine good_headB' h m.aa m.ab λ p hp q hq=> ?_;subst hy;obtain ⟨j,hj,e⟩:=z11.mp hq;rw [z2f] at hj;have j0:j=0:=by lia
 subst j0;rw [z1y] at e;have:b.toList[0]? =some q:=by rw [<- e,z0c]
 rw [z0w,ez] at this;cases this
 exact z3u (hz p (z14 hp))
def qk9 (m:Mg S rk a b) {i:Nat} {p:Keyed} (h1:1<=i) (e:a[i - 1]? =some p):∀ q∈a.toList.take i,rk q<=rk p:=by
 have:=qn5 m.aa (i:=i - 1) (x:=p) (by rw [z0w];exact e)
 rwa [show i - 1+1=i by lia] at this
def qka (m:Mg S rk a b) {i:Nat} {p:Keyed} (h1:1<=i) (e:b[i - 1]? =some p):∀ q∈b.toList.take i,rk q<=rk p:=by
 have:=qn5 m.ab (i:=i - 1) (x:=p) (by rw [z0w];exact e)
 rwa [show i - 1+1=i by lia] at this
def qkb {l:List Keyed} {k:Nat} {p:Keyed} (h:p∈l.take k):∃ j,j < k/\l[j]? =some p:=by
 have:=q8m (l:=l) (i:=0) (k:=k) (p:=p) (by simpa using h);obtain ⟨j,a,b⟩:=this;exact ⟨j,a,by rwa [z3w] at b⟩
end
abbrev HiSt:=Option (Array Keyed)×Nat×Nat×Array Keyed×Nat×Nat×Nat
def qe8 (a b:Array Keyed) (ca cb g:Nat) (o:Array Keyed) (x y:Nat):StateT SortSt Sem (ForInStep HiSt):=do
 let p <- elem' a (x - 1)
 if (x - 1==0)=true then pure (ForInStep.done (some (q3f a b (o.push p) (x - 1) y),x - 1,y,o.push p,g,ca,cb))
 else if (decide (ca < 7)&&decide (cb < 7))=true then pure (ForInStep.done (none,x - 1,y,o.push p,g,ca,cb))
 else pure (ForInStep.yield (none,x - 1,y,o.push p,g,ca,cb))
def qju (a b:Array Keyed) (ca cb g:Nat) (o:Array Keyed) (x y:Nat):StateT SortSt Sem (ForInStep HiSt):=do
 let p <- elem' b (y - 1)
 if (y - 1==1)=true then pure (ForInStep.done (some (q63 a b (o.push p) x (y - 1)),x,y - 1,o.push p,g,ca,cb))
 else do
  let some j <- q2t true (<- elem' a (x - 1)) b 0 (y - 1) (y - 1 - 1) | pure (ForInStep.done (some (q3f a b (o.push p) x (y - 1)),x,y - 1,o.push p,g,ca,cb))
  if y - 1 - j > 0 then
   if (j==1)=true then pure (ForInStep.done (some (q63 a b (o.push p++(b.extract j (y - 1)).reverse) x j),x,j,o.push p++(b.extract j (y - 1)).reverse,g,ca,y - 1 - j))
   else if (j==0)=true then pure (ForInStep.done (some (q3f a b (o.push p++(b.extract j (y - 1)).reverse) x j),x,j,o.push p++(b.extract j (y - 1)).reverse,g,ca,y - 1 - j))
   else qe8 a b ca (y - 1 - j) g (o.push p++(b.extract j (y - 1)).reverse) x j
  else qe8 a b ca (y - 1 - j) g (o.push p) x (y - 1)
def qoe (a b:Array Keyed) (ca cb g:Nat) (o:Array Keyed) (x y:Nat):StateT SortSt Sem (ForInStep HiSt):=do
 modify λ st=>q79 st g
 let some j <- q2t false (<- elem' b (y - 1)) a 0 x (x - 1) | pure (ForInStep.done (some (q3f a b o x y),x,y,o,g,ca,cb))
 if x - j > 0 then
  if (j==0)=true then pure (ForInStep.done (some (q3f a b (o++(a.extract j x).reverse) j y),j,y,o++(a.extract j x).reverse,g,x - j,cb))
  else qju a b (x - j) cb g (o++(a.extract j x).reverse) j y
 else qju a b (x - j) cb g o x y
section
variable {M:Model} {A:Around} {E:xB} {s:Shared} {kd:SortKind} {S:Keyed ->Prop} {rk:Keyed ->Int} {a b:Array Keyed} {st:SortSt}
structure GoH (rk:Keyed ->Int) (a b o:Array Keyed) (x y:Nat):Prop where
 jn:JH rk a b o x y
 hx:1<=x
 hy:2<=y
def HiQ (rk:Keyed ->Int) (a b:Array Keyed) (st:SortSt) (n:Nat) (r:ForInStep HiSt) (st':SortSt):Prop:=Gl st st'/\match r with
 | .done c=>(∃ r,c.1=some r/\Good rk a b r)\/ (c.1=none/\GoH rk a b c.2.2.2.1 c.2.1 c.2.2.1/\c.2.1+c.2.2.1<=n)
 | .yield c=>c.1=none/\GoH rk a b c.2.2.2.1 c.2.1 c.2.2.1/\c.2.1+c.2.2.1<=n
def qkc (m:Mg S rk a b) {O:SortSt} {n ca cb g x y:Nat} {o:Array Keyed} (hg:Gl st O) (J:JH rk a b o x y) (hx:1<=x) (hy:2<=y)
  (a1:∀ p,a[x - 1]? =some p ->∀ q∈b.toList.take y,rk q<=rk p) (hn:x+y<=n+1):wpS M A E s (qe8 a b ca cb g o x y) (HiQ rk a b st n) O:=by
 have hz:=J.2.1;obtain ⟨p,e,_,_⟩:=m.atA (i:=x - 1) (by lia);have Z:=q93 J m.aa hx e (a1 p e);unfold qe8;refine wpS_bind (q20 e ?_);by_cases c1:x - 1=0
 ·rw [if_pos (by simpa using c1)];exact wpS_pure ⟨hg,.inl ⟨_,zr,q6y Z m.aa m.ab c1⟩⟩
 ·rw [if_neg (by simpa using c1)];by_cases c2:(decide (ca < 7)&&decide (cb < 7))=true
  ·rw [if_pos c2];exact wpS_pure ⟨hg,.inr ⟨rfl,⟨Z,by show 1<=x - 1;lia,hy⟩,by show x - 1+y<=n;lia⟩⟩
  ·rw [if_neg c2];exact wpS_pure ⟨hg,rfl,⟨Z,by show 1<=x - 1;lia,hy⟩,by show x - 1+y<=n;lia⟩
def qn8 (L:LtOk M A E s kd S rk) (hk:kindOf st=kd) (m:Mg S rk a b) {a1:SortSt} {n ca cb g x y:Nat} {o:Array Keyed} (Z:Gl st a1) (J:JH rk a b o x y) (hx:1<=x) (hy:2<=y)
  (a2:∀ p,b[y - 1]? =some p ->∀ q∈a.toList.take x,rk q<=rk p) (hn:x+y<=n+1):wpS M A E s (qju a b ca cb g o x y) (HiQ rk a b st n) a1:=by
 have hz1:=J.2.1;have hz2:=J.2.2;obtain ⟨p,e,_,_⟩:=m.atB (i:=y - 1) (by lia);have J':=qk7 J m.ab (by lia) e (a2 p e);unfold qju;refine wpS_bind (q20 e ?_);by_cases c1:y - 1=1
 ·rw [if_pos (by simpa using c1)];exact wpS_pure ⟨Z,.inl ⟨_,zr,q6z m J' c1⟩⟩
 ·rw [if_neg (by simpa using c1)];obtain ⟨q,eq,sq,mq⟩:=m.atA (i:=x - 1) (by lia);refine wpS_bind (q20 eq ?_);refine wpS_bind (q5h L (Z.kind.trans hk) sq (λ i hi=> ?_) (qe5 m.ab _ _ (by lia)) (by lia) λ j j1 j2 j3=> ?_)
  ·obtain ⟨p,e,sp,_⟩:=m.atB (i:=0+i) (by lia);exact ⟨p,e,sp⟩
  dsimp only
  have after:∀ p',a[x - 1]? =some p' ->∀ z∈b.toList.take j,rk z<=rk p':=λ p' ep z hz=>by
   rw [eq] at ep;cases ep
   obtain ⟨i,h1,O⟩:=qkb hz;have:=j2 i h1;rw [z3w,q2u b i O] at this;simp [ahd] at this
   lia
  by_cases c2:y - 1 - j > 0
  ·rw [if_pos c2];have J2:=qvs J' m.ab (j:=j) (by lia) λ z hz w hw=>by
    obtain ⟨i,h1,O⟩:=q8m hz;have:=j3 (j+i) (by lia) (by lia);rw [z3w,q2u b _ O] at this;simp [ahd] at this
    have:=qk9 m hx eq w hw
    lia
   by_cases c3:j=1
   ·rw [if_pos (by simpa using c3)];exact wpS_pure ⟨Z,.inl ⟨_,zr,q6z m J2 c3⟩⟩
   ·rw [if_neg (by simpa using c3)];have c4:¬ j=0:=λ c4=>by
     obtain ⟨z,O,hz⟩:=m.bot;have:=j3 0 (by lia) (by lia);rw [z3w,q3d O] at this;simp [ahd] at this
     have:=hz q mq
     lia
    rw [if_neg (by simpa using c4)];exact qkc m Z J2 hx (by lia) after (by lia)
  ·rw [if_neg c2];have ej:j=y - 1:=by lia
   subst ej;exact qkc m Z J' hx (by lia) after (by lia)
def qvt (L:LtOk M A E s kd S rk) (hk:kindOf st=kd) (m:Mg S rk a b) {Z:SortSt} {n ca cb g x y:Nat} {o:Array Keyed} (hg:Gl st Z) (G:GoH rk a b o x y) (hn:x+y<=n+1):
  wpS M A E s (qoe a b ca cb g o x y) (HiQ rk a b st n) Z:=by
 obtain ⟨J,hx,hy⟩:=G;have hz1:=J.2.1;have hz2:=J.2.2;unfold qoe;refine wpS_bind (wpS_modify ?_);have O:=hg.set g;obtain ⟨q,eq,sq,mq⟩:=m.atB (i:=y - 1) (by lia);refine wpS_bind (q20 eq ?_);refine wpS_bind (q5h L (O.kind.trans hk) sq (λ i hi=> ?_) (qe5 m.aa _ _ (by lia)) (by lia) λ j j1 j2 j3=> ?_)
 ·obtain ⟨p,e,sp,_⟩:=m.atA (i:=0+i) (by lia);exact ⟨p,e,sp⟩
 dsimp only
 have after:∀ p',b[y - 1]? =some p' ->∀ z∈a.toList.take j,rk z<=rk p':=λ p' ep z hz=>by
  rw [eq] at ep;cases ep
  obtain ⟨i,h1,ez⟩:=qkb hz;have:=j2 i h1;rw [z3w,q2u a i ez] at this;simp [ahd] at this
  lia
 by_cases c2:x - j > 0
 ·rw [if_pos c2];have J2:=qfv J m.aa (j:=j) (by lia) λ z hz w hw=>by
   obtain ⟨i,h1,ez⟩:=q8m hz;have:=j3 (j+i) (by lia) (by lia);rw [z3w,q2u a _ ez] at this;simp [ahd] at this
   have:=qka m (by lia) eq w hw
   lia
  by_cases c3:j=0
  ·rw [if_pos (by simpa using c3)];exact wpS_pure ⟨O,.inl ⟨_,zr,q6y J2 m.aa m.ab c3⟩⟩
  ·rw [if_neg (by simpa using c3)];exact qn8 L hk m O J2 (by lia) hy after (by lia)
 ·rw [if_neg c2];have ej:j=x:=by lia
  subst ej;exact qn8 L hk m O J hx hy after hn
def qq1 (L:LtOk M A E s kd S rk) (hk:kindOf st=kd) (m:Mg S rk a b) {Q:Array Keyed ->SortSt ->Prop} (h:∀ r O,Gl st O ->Good rk a b r ->Q r O):wpS M A E s (qcx a b) Q st:=by
 rw [qml];refine wpS_bind (wpS_lift (z4c ⟨zr,?_⟩));have na:=m.na;have nb:=m.nb;obtain ⟨q,eq,sq,mq⟩:=m.atA (i:=a.size - 1) (by lia);refine wpS_bind (q20 eq ?_);have J1:JH rk a b #[q] (a.size - 1) b.size:=by
  obtain ⟨z,ez,hz⟩:=m.top;rw [eq] at ez;cases ez
  have J0:JH rk a b #[] a.size b.size:=⟨by rw [Nat.sub_self,Nat.sub_self];exact Jn.start,z47 _,z47 _⟩;exact q93 (o:=#[]) J0 m.aa na eq λ w hw=>z3u (hz w (z14 hw))
 by_cases c1:a.size - 1=0
 ·rw [if_pos (by simpa using c1)];exact wpS_pure (h _ _ (Gl.refl _) (q6y J1 m.aa m.ab c1))
 ·rw [if_neg (by simpa using c1)];by_cases c2:b.size=1
  ·rw [if_pos (by simpa using c2)];exact wpS_pure (h _ _ (Gl.refl _) (q6z m J1 c2))
  ·rw [if_neg (by simpa using c2)];refine wpS_bind (wpS_get ?_);have G1:GoH rk a b #[q] (a.size - 1) b.size:=⟨J1,by lia,by lia⟩;refine wpS_bind (wpS_mono (wpS_forRange (I:=λ i c O=>Gl st O/\∃ x y o g,c=(none,x,y,o,g)/\GoH rk a b o x y/\x+y+i+1<=a.size+b.size)
    (Q:=λ c O=>Gl st O/\∃ r x y o g,c=(some r,x,y,o,g)/\Good rk a b r) ?turn ?last ⟨Gl.refl _,_,_,#[q],_,rfl,G1,by lia⟩) ?after)
   case after=>
    rintro c O ⟨hg,r,x,y,o,g,rfl,hr⟩;exact wpS_pure (h r O hg hr)
   case last=>
    rintro c O ⟨hg,x,y,o,g,rfl,G,hi⟩;have:=G.hx;have:=G.hy
    exfalso
    lia
   case turn=>
    rintro i c O _ hi ⟨hg,x,y,o,g,rfl,G,hxy⟩
    dsimp only
    refine wpS_bind (wpS_mono (wpS_forRange (I:=λ j c Z=>Gl st Z/\∃ x y o ca cb,c=(none,x,y,o,ca,cb)/\GoH rk a b o x y/\x+y+i+1+j<=a.size+b.size)
     (Q:=λ c Z=>Gl st Z/\∃ r x y o ca cb,c=(r,x,y,o,ca,cb)/\match r with
      | some r=>Good rk a b r
      | none=>GoH rk a b o x y/\x+y+i+2<=a.size+b.size) ?iturn ?ilast ⟨hg,x,y,o,0,0,rfl,G,by lia⟩) ?iafter)
    case ilast=>
     rintro c Z ⟨J,x,y,o,ca,cb,rfl,G,hj⟩;have:=G.hx;have:=G.hy
     exfalso
     lia
    case iturn=>
     rintro j c Z _ hj ⟨J,x,y,o,ca,cb,rfl,G,a5⟩
     dsimp only
     have g1:=G.hx;have g2:=G.hy;have z1:=G.jn.2.1;have z2:=G.jn.2.2;obtain ⟨pb,eb,sb,mb⟩:=m.atB (i:=y - 1) (by lia);obtain ⟨pa,ea,sa,ma⟩:=m.atA (i:=x - 1) (by lia);refine wpS_bind (q20 eb (wpS_bind (q20 ea (wpS_bind (L pb pa Z _ sb sa (J.kind.trans hk) ?_)))));by_cases hw:rk pb < rk pa
     ·simp only [hw,z48,if_true];refine wpS_bind (q20 ea ?_);have J2:=q93 G.jn m.aa g1 ea λ z hz=>z3v (qka m (by lia) eb z hz) (z3u hw);by_cases c3:x - 1=0
      ·rw [if_pos (by simpa using c3)];exact wpS_pure ⟨J,_,_,_,_,_,_,zr,q6y J2 m.aa m.ab c3⟩
      ·rw [if_neg (by simpa using c3)];have G2:GoH rk a b (o.push pa) (x - 1) y:=⟨J2,by lia,g2⟩;split
       ·exact wpS_pure ⟨J,_,_,_,_,_,_,zr,G2,by lia⟩
       ·exact wpS_pure ⟨J,_,_,_,_,_,zr,G2,by lia⟩
     ·simp only [hw,z3t,z1j,if_false];refine wpS_bind (q20 eb ?_);have J2:=qk7 G.jn m.ab (by lia) eb λ z hz=>z3v (qk9 m g1 ea z hz) (by lia);by_cases c3:y - 1=1
      ·rw [if_pos (by simpa using c3)];exact wpS_pure ⟨J,_,_,_,_,_,_,zr,q6z m J2 c3⟩
      ·rw [if_neg (by simpa using c3)];have G2:GoH rk a b (o.push pb) x (y - 1):=⟨J2,g1,by lia⟩;split
       ·exact wpS_pure ⟨J,_,_,_,_,_,_,zr,G2,by lia⟩
       ·exact wpS_pure ⟨J,_,_,_,_,_,zr,G2,by lia⟩
    case iafter=>
     rintro c Z ⟨J,r,x2,y2,o2,ca,cb,rfl,hr⟩;cases r with
     | some r=>exact wpS_pure ⟨J,r,_,_,_,_,rfl,hr⟩
     | none=>
      obtain ⟨G2,a5⟩:=hr
      dsimp only
      refine wpS_bind (wpS_lift (z4c ⟨zr,?_⟩));refine wpS_bind (wpS_mono (wpS_forRange (I:=λ j c a1=>Gl st a1/\∃ x y o g ca cb,c=(none,x,y,o,g,ca,cb)/\GoH rk a b o x y/\x+y+i+2+j<=a.size+b.size)
       (Q:=λ c a1=>Gl st a1/\∃ r x y o g ca cb,c=(r,x,y,o,g,ca,cb)/\match r with
        | some r=>Good rk a b r
        | none=>GoH rk a b o x y/\x+y+i+2<=a.size+b.size) ?gturn ?glast ⟨J,x2,y2,o2,_,_,_,rfl,G2,by lia⟩) ?gafter)
      case glast=>
       rintro c a1 ⟨a2,x,y,o,g,ca,cb,rfl,G,hj⟩;have:=G.hx;have:=G.hy
       exfalso
       lia
      case gturn=>
       rintro j c a1 _ hj ⟨a2,x,y,o,g,ca,cb,rfl,G,a6⟩;have go:∀ g',wpS M A E s (qoe a b ca cb g' o x y) (HiQ rk a b st (x+y - 1)) a1:=λ g'=>qvt L hk m a2 G (by lia);have g1:=G.hx
       dsimp only
       by_cases a4:g > 1
       case' pos=>
        rw [if_pos a4];refine wpS_mono (go (g - 1)) ?_
       case' neg=>
        rw [if_neg a4];refine wpS_mono (go g) ?_
       all_goals
        intro r st4 q;obtain ⟨a3,q⟩:=q;cases r with
        | done c'=>
         obtain ⟨r,x',y',o',g',a7,a8⟩:=c';rcases q with ⟨r',e,q⟩ | ⟨e,q,q'⟩
         ·simp only at e;subst e;exact ⟨a3,_,_,_,_,_,_,_,zr,q⟩
         ·simp only at e q q';subst e;exact ⟨a3,_,_,_,_,_,_,_,zr,q,by lia⟩
        | yield c'=>
         obtain ⟨r,x',y',o',g',a7,a8⟩:=c';obtain ⟨e,q,q'⟩:=q;simp only at e q q';subst e;exact ⟨a3,_,_,_,_,_,_,zr,q,by lia⟩
      case gafter=>
       rintro c a1 ⟨a2,r,x3,y3,o3,g3,ca3,cb3,rfl,hr⟩;cases r with
       | some r=>exact wpS_pure ⟨a2,r,_,_,_,_,rfl,hr⟩
       | none=>
        obtain ⟨G3,a6⟩:=hr
        dsimp only
        exact wpS_bind (wpS_modify (wpS_pure ⟨a2.set _,_,_,_,_,zr,G3,by lia⟩))
end
def qvu {M:Model} {A:Around} {E:xB} {s:Shared} {σ:Type} {v:σ} {Q:PUnit ->σ ->Prop} {st:σ} (h:Q ⟨⟩ v):wpS M A E s (set v:StateT σ Sem PUnit) Q st:=by
 unfold wpS;rw [StateT.run_set];exact z4d ⟨zr,h⟩
def wrt (base:Nat) (l:List (Keyed×Nat)) (xs:Array Keyed):Array Keyed:=l.foldl (λ a q=>a.setIfInBounds (base+q.2) q.1) xs
def qof (i:Nat):mergeAt' i=(do
 let c <- get
 let (some (sa,na,pw),some (sb,nb,_)):=((pendingOf c)[i]?,(pendingOf c)[i+1]?) | unsupported "internal:list.sort.pending"
 set (setPending c (((pendingOf c).setIfInBounds i (sa,na+nb,pw)).eraseIdxIfInBounds (i+1)))
 let some k <- q2t false (<- elem' (arrOf c) sb) (arrOf c) sa na 0 | return false
 let (sa,na):=(sa+k,na - k)
 if na==0 then return true
 let some nb <- q2t true (<- elem' (arrOf c) (sa+na - 1)) (arrOf c) sb nb (nb - 1) | return false
 if nb==0 then return true
 let x:=(arrOf c).extract sa sb
 let y:=(arrOf c).extract sb (sb+nb)
 let r <- if na<=nb then qct x y else qcx x y
 modify λ c=>setArr c (wrt sa r.toList.zipIdx (arrOf c))
 return (failedOf (<- get)).isNone):=rfl
theorem qkd (base:Nat):∀ (l:List Keyed) (k:Nat) (xs:Array Keyed),base+k+l.length<=xs.size ->∀ j,(wrt base (l.zipIdx k) xs)[j]? =if base+k<=j/\j < base+k+l.length then l[j - (base+k)]? else xs[j]?
 | [],k,xs,_,j=>by
  rw [if_neg (by simp)];rfl
 | p::r,k,xs,h,j=>by
  have h':base+k+(r.length+1)<=xs.size:=h;have ih:=qkd base r (k+1) (xs.setIfInBounds (base+k) p) (by rw [Array.size_setIfInBounds];lia) j;rw [List.zipIdx_cons];show (wrt base (r.zipIdx (k+1)) (xs.setIfInBounds (base+k) p))[j]? =_;rw [ih,z2h];by_cases J:base+(k+1)<=j/\j < base+(k+1)+r.length
  ·rw [if_pos J,if_pos (by lia),show j - (base+k)=j - (base+(k+1))+1 by lia,List.getElem?_cons_succ]
  ·rw [if_neg J,Array.getElem?_setIfInBounds];by_cases c2:base+k=j
   ·rw [if_pos c2,if_pos (by lia),if_pos (by lia),show j - (base+k)=0 by lia];rfl
   ·rw [if_neg c2,if_neg (by lia)]
def qso (base:Nat) (l:List Keyed) (xs:Array Keyed) (h:base+l.length<=xs.size):(wrt base l.zipIdx xs).toList=xs.toList.take base++l++xs.toList.drop (base+l.length):=by
 apply z20
 intro j;have:=qkd base l 0 xs (by lia) j;rw [z0w];rw [this];have e1:(xs.toList.take base).length=base:=by rw [z2f,z18];lia
 by_cases c1:j < base
 ·rw [if_neg (by lia),z1x,List.getElem?_append_left (by lia),List.getElem?_take_of_lt c1,z0w]
 ·rw [z1x,z05 (by lia),e1];by_cases c2:j < base+l.length
  ·rw [if_pos (by lia),List.getElem?_append_left (by lia)];rfl
  ·rw [if_neg (by lia),z05 (by lia),List.getElem?_drop,<- z0w]
   congr 1
   lia
def Runs (rk:Keyed ->Int) (xs:Array Keyed):Nat ->List (Nat×Nat×Nat) ->Nat ->Prop
 | u,[],v=>u=v
 | u,r::l,v=>r.1=u/\1<=r.2.1/\Up rk xs u (u+r.2.1)/\Runs rk xs (u+r.2.1) l v
section
variable {rk:Keyed ->Int} {xs ys:Array Keyed}
theorem Runs.split:∀ {O J:List (Nat×Nat×Nat)} {u v:Nat},Runs rk xs u (O++J) v↔∃ w,Runs rk xs u O w/\Runs rk xs w J v
 | [],J,u,v=>⟨λ h=>⟨u,rfl,h⟩,λ ⟨w,e,h⟩=>by cases e;exact h⟩
 | r::O,J,u,v=>by
  constructor
  ·rintro ⟨a,b,c,d⟩;obtain ⟨w,h1,h2⟩:=Runs.split.mp d;exact ⟨w,⟨a,b,c,h1⟩,h2⟩
  ·rintro ⟨w,⟨a,b,c,d⟩,h2⟩;exact ⟨a,b,c,Runs.split.mpr ⟨w,d,h2⟩⟩
theorem Runs.le:∀ {l:List (Nat×Nat×Nat)} {u v:Nat},Runs rk xs u l v ->u+l.length<=v
 | [],u,v,h=>by cases h;simp
 | r::l,u,v,⟨_,b,_,d⟩=>by
  have:=Runs.le d;rw [z2h]
  lia
def Up.same {lo hi:Nat} (h:Up rk xs lo hi) (e:∀ k,lo<=k ->k < hi ->ys[k]? =xs[k]?):Up rk ys lo hi:=λ i j a b c=>by
 rw [q4u (e i a (by lia)),q4u (e j (by lia) c)];exact h i j a b c
theorem Runs.same:∀ {l:List (Nat×Nat×Nat)} {u v:Nat},Runs rk xs u l v ->(∀ k,u<=k ->k < v ->ys[k]? =xs[k]?) ->Runs rk ys u l v
 | [],u,v,h,_=>h
 | r::l,u,v,⟨a,b,c,d⟩,e=>by
  have:=Runs.le d;exact ⟨a,b,c.same λ k h1 h2=>e k h1 (by lia),d.same λ k h1 h2=>e k (by lia) h2⟩
theorem Runs.pow:∀ {l J:List (Nat×Nat×Nat)} {u v:Nat},Runs rk xs u l v ->J.map (λ r=>(r.1,r.2.1))=l.map (λ r=>(r.1,r.2.1)) ->Runs rk xs u J v
 | [],J,u,v,h,e=>by
  have:J=[]:=by simpa using e
  subst this;exact h
 | r::l,J,u,v,⟨a,b,c,d⟩,e=>by
  cases J with
  | nil=>simp at e
  | cons r' J=>
   simp only [z3k,z2u,Prod.mk.injEq] at e;obtain ⟨⟨e1,e2⟩,e3⟩:=e;exact ⟨e1.trans a,by lia,by rw [e2];exact c,by rw [e2];exact d.pow e3⟩
end
section
variable {M:Model} {A:Around} {E:xB} {s:Shared} {kd:SortKind} {S:Keyed ->Prop} {rk:Keyed ->Int} {n:Nat}
def qn9 {xs:Array Keyed} {i j:Nat} (hj:j<=xs.size) (h:Up rk xs i j):Asc rk (xs.extract i j).toList:=by
 unfold Asc;rw [z08];intro p q J hq hpq;have hl:(xs.extract i j).toList.length=j - i:=by rw [z18,z1m];lia
 have e:∀ p (J:p < (xs.extract i j).toList.length),rk (xs.extract i j).toList[p]=kx rk xs (i+p):=λ p J=>by
  refine (q3d ?_).symm;have h1:(xs.extract i j)[p]? =some (xs.extract i j).toList[p]:=by rw [<- z0w,z0c]
  rw [<- h1,Array.getElem?_extract,if_pos (by lia)]
 rw [e p J,e q hq];exact h _ _ (by lia) (by lia) (by lia)
def q72 {xs:Array Keyed} {i j:Nat} (hj:j<=xs.size) {p:Keyed} (h:p∈(xs.extract i j).toList):∃ k,i<=k/\k < j/\xs[k]? =some p:=by
 obtain ⟨q,hq,e⟩:=z11.mp h;have hl:(xs.extract i j).toList.length=j - i:=by rw [z18,z1m];lia
 refine ⟨i+q,by lia,by lia,?_⟩;have h1:(xs.extract i j)[q]? =some p:=by rw [<- z0w,z0c hq,e]
 rw [<- h1,Array.getElem?_extract,if_pos (by lia)]
def qq2 {xs:Array Keyed} {i j k:Nat} (h:i+k < j) (hj:j<=xs.size):(xs.extract i j)[k]? =xs[i+k]? :=by
 rw [Array.getElem?_extract,if_pos (by lia)]
def Mv.wrote {st:SortSt} {a m b:Nat} {r:Array Keyed} (h1:a<=m) (h2:m<=b) (hb:b<=(arrOf st).size) (hr:r.toList.Perm (((arrOf st).extract a m).toList++((arrOf st).extract m b).toList)):
  Mv a b st (setArr st (wrt a r.toList.zipIdx (arrOf st)))/\(∀ j,a<=j ->j < b ->∃ p,(wrt a r.toList.zipIdx (arrOf st))[j]? =some p/\p∈r.toList/\r.toList[j - a]? =some p):=by
 have hl:r.toList.length=b - a:=by
  rw [hr.length_eq,z1n,z18,z18,z1m,z1m]
  lia
 have hw:=qso a r.toList (arrOf st) (by lia);have J:=qkd a r.toList 0 (arrOf st) (by lia);refine ⟨⟨?_,λ k hk=> ?_,zr,zr,zr⟩,λ j ha hb'=> ?_⟩
 ·rw [z04];show (wrt a r.toList.zipIdx (arrOf st)).toList.Perm (arrOf st).toList;rw [hw,hl,show a+(b - a)=b by lia];have e:(arrOf st).toList=(arrOf st).toList.take a++(((arrOf st).extract a m).toList++((arrOf st).extract m b).toList)++(arrOf st).toList.drop b:=by
   rw [z12,z12,z0a,z0a];have e1:(arrOf st).toList.drop a=((arrOf st).toList.drop a).take (m - a)++(arrOf st).toList.drop m:=by
    have:=q6v (arrOf st).toList a (m - a)
    rwa [show a+(m - a)=m by lia] at this
   have e2:(arrOf st).toList.drop m=((arrOf st).toList.drop m).take (b - m)++(arrOf st).toList.drop b:=by
    have:=q6v (arrOf st).toList m (b - m)
    rwa [show m+(b - m)=b by lia] at this
   rw [z1x,z1x,<- e2,<- e1,z0u]
  refine List.Perm.trans ?_ (List.Perm.of_eq e.symm);exact (hr.append_left _).append_right _
 ·show (wrt a r.toList.zipIdx (arrOf st))[k]? =_;rw [J k,if_neg (by lia)]
 ·have O:j - a < r.toList.length:=by lia
  refine ⟨r.toList[j - a],?_,by simp,z0c O⟩;rw [J j,if_pos (by lia),Nat.add_zero,z0c O]
structure Merged (rk:Keyed ->Int) (lo hi:Nat) (p:Array (Nat×Nat×Nat)) (st st':SortSt):Prop where
 perm:(arrOf st').Perm (arrOf st)
 out:∀ k,k < lo\/ hi<=k ->(arrOf st')[k]? =(arrOf st)[k]?
 kind:kindOf st'=kindOf st
 failed:failedOf st'=failedOf st
 pend:pendingOf st'=p
 up:Up rk (arrOf st') lo hi
def qhh (L:LtOk M A E s kd S rk) {st:SortSt} (B:Sane kd S n st) {i sa na pw nb p2:Nat} (e1:(pendingOf st)[i]? =some (sa,na,pw)) (e2:(pendingOf st)[i+1]? =some (sa+na,nb,p2)) (ha:1<=na) (hb:1<=nb) (hn:sa+na+nb<=n)
  (u1:Up rk (arrOf st) sa (sa+na)) (u2:Up rk (arrOf st) (sa+na) (sa+na+nb)) {Q:Bool ->SortSt ->Prop}
  (h:∀ J,Merged rk sa (sa+na+nb) (((pendingOf st).setIfInBounds i (sa,na+nb,pw)).eraseIdxIfInBounds (i+1)) st J ->Q true J):wpS M A E s (mergeAt' i) Q st:=by
 rw [qof];refine wpS_bind (wpS_get ?_);rw [e1,e2]
 dsimp only
 refine wpS_bind (qvu ?_);have O:∀ j,j < n ->∃ p,(arrOf st)[j]? =some p/\S p:=λ j hj=>by
  obtain ⟨p,a,b,_⟩:=B.at rk hj;exact ⟨p,a,b⟩
 have hz:=B.size;obtain ⟨q,eq,sq⟩:=O (sa+na) (by lia);have kq:kx rk (arrOf st) (sa+na)=rk q:=q3d eq;refine wpS_bind (q20 eq ?_);refine wpS_bind (q5h L B.kind sq (λ j hj=>O (sa+j) (by lia)) u1 (by lia) λ k k1 k2 k3=> ?_)
 dsimp only
 have a6:∀ j,sa<=j ->j < sa+k ->kx rk (arrOf st) j<=kx rk (arrOf st) (sa+na):=λ j a b=>by
  have:=k2 (j - sa) (by lia);rw [show sa+(j - sa)=j by lia] at this;simp [ahd] at this
  rw [kq];exact this
 have a2:∀ j,sa+k<=j ->j < sa+na ->kx rk (arrOf st) (sa+na) < kx rk (arrOf st) j:=λ j a b=>by
  have:=k3 (j - sa) (by lia) (by lia);rw [show sa+(j - sa)=j by lia] at this;simp [ahd] at this
  rw [kq]
  lia
 have Z:kx rk (arrOf st) (sa+na - 1)<=kx rk (arrOf st) (sa+na) ->Up rk (arrOf st) sa (sa+na+nb):=λ hle i j a b c=>by
  by_cases c1:j < sa+na
  ·exact u1 i j a b c1
  ·by_cases c2:sa+na<=i
   ·exact u2 i j c2 b c
   ·have h1:=u1 i (sa+na - 1) a (by lia) (by lia);have h2:=u2 (sa+na) j (z47 _) (by lia) c
    lia
 by_cases c0:na - k=0
 ·rw [if_pos (by simpa using c0)];exact wpS_pure (h _ ⟨Array.Perm.refl _,λ _ _=>rfl,zr,zr,zr,Z (a6 _ (by lia) (by lia))⟩)
 ·rw [if_neg (by simpa using c0)];have el:sa+k+(na - k) - 1=sa+na - 1:=by lia
  rw [el];obtain ⟨z,ez,sz⟩:=O (sa+na - 1) (by lia);have kz:kx rk (arrOf st) (sa+na - 1)=rk z:=q3d ez;refine wpS_bind (q20 ez ?_);refine wpS_bind (q5h L B.kind sz (λ j hj=>O (sa+na+j) (by lia)) u2 (by lia) λ k' k1' b4 b5=> ?_)
  dsimp only
  have a3:∀ j,sa+na<=j ->j < sa+na+k' ->kx rk (arrOf st) j < kx rk (arrOf st) (sa+na - 1):=λ j a b=>by
   have:=b4 (j - (sa+na)) (by lia);rw [show sa+na+(j - (sa+na))=j by lia] at this;simp [ahd] at this
   rw [kz];exact this
  have a1:∀ j,sa+na+k'<=j ->j < sa+na+nb ->kx rk (arrOf st) (sa+na - 1)<=kx rk (arrOf st) j:=λ j a b=>by
   have:=b5 (j - (sa+na)) (by lia) (by lia);rw [show sa+na+(j - (sa+na))=j by lia] at this;simp [ahd] at this
   rw [kz]
   lia
  by_cases c1:k'=0
  ·rw [if_pos (by simpa using c1)];exact wpS_pure (h _ ⟨Array.Perm.refl _,λ _ _=>rfl,zr,zr,zr,Z (a1 _ (by lia) (by lia))⟩)
  ·rw [if_neg (by simpa using c1)];have m:Mg S rk ((arrOf st).extract (sa+k) (sa+na)) ((arrOf st).extract (sa+na) (sa+na+k')):=by
    refine ⟨λ p hp=> ?_,λ p hp=> ?_,qn9 (by lia) λ i j a b c=>u1 i j (by lia) b c,qn9 (by lia) λ i j a b c=>u2 i j a b (by lia),by rw [z1m];lia,by rw [z1m];lia,⟨z,?_,λ p hp=> ?_⟩,⟨q,?_,λ p hp=> ?_⟩⟩
    ·obtain ⟨j,h1,h2,e⟩:=q72 (by lia) hp;obtain ⟨p',e',sp⟩:=O j (by lia);rw [e] at e';cases e'
     exact sp
    ·obtain ⟨j,h1,h2,e⟩:=q72 (by lia) hp;obtain ⟨p',e',sp⟩:=O j (by lia);rw [e] at e';cases e'
     exact sp
    ·rw [z1m,qq2 (by lia) (by lia),<- ez]
     congr 1
     lia
    ·obtain ⟨j,h1,h2,e⟩:=q72 (by lia) hp;have:=a3 j h1 h2
     rwa [kz,q3d e] at this
    ·rw [qq2 (by lia) (by lia),<- eq];rfl
    ·obtain ⟨j,h1,h2,e⟩:=q72 (by lia) hp;have:=a2 j h1 h2
     rwa [kq,q3d e] at this
   have fin:∀ (r:Array Keyed) (J:SortSt),Gl (setPending st (((pendingOf st).setIfInBounds i (sa,na+nb,pw)).eraseIdxIfInBounds (i+1))) J ->Good rk ((arrOf st).extract (sa+k) (sa+na)) ((arrOf st).extract (sa+na) (sa+na+k')) r ->
     wpS M A E s ((modify λ c=>setArr c (wrt (sa+k) r.toList.zipIdx (arrOf c)):StateT SortSt Sem PUnit) >>=λ _=>get >>=λ c=>pure (failedOf c).isNone) Q J:=by
    intro r J hg hr;have b2:arrOf J=arrOf st:=hg.arr;refine wpS_bind (wpS_modify (wpS_bind (wpS_get (wpS_pure ?_))));have hf:failedOf J=none:=hg.failed.trans B.failed;show Q (failedOf J).isNone _;rw [hf];have hw:=Mv.wrote (st:=st) (a:=sa+k) (m:=sa+na) (b:=sa+na+k') (r:=r) (by lia) (by lia) (by lia) hr.1;obtain ⟨v,at'⟩:=hw;have a5:=z08.mp hr.2;have a7:∀ j,sa+k<=j ->j < sa+na+k' ->kx rk (arrOf st) (sa+na)<=kx rk (wrt (sa+k) r.toList.zipIdx (arrOf st)) j/\kx rk (wrt (sa+k) r.toList.zipIdx (arrOf st)) j<=kx rk (arrOf st) (sa+na - 1):=λ j a b=>by
     obtain ⟨p,e,hp,_⟩:=at' j a b;rw [q3d e];rcases z2t.mp (hr.1.mem_iff.mp hp) with hp | hp
     ·obtain ⟨j',h1,h2,e'⟩:=q72 (by lia) hp;rw [<- q3d (rk:=rk) e'];exact ⟨z3u (a2 j' h1 h2),u1 j' (sa+na - 1) (by lia) (by lia) (by lia)⟩
     ·obtain ⟨j',h1,h2,e'⟩:=q72 (by lia) hp;rw [<- q3d (rk:=rk) e'];exact ⟨u2 _ j' (z47 _) h1 (by lia),z3u (a3 j' h1 h2)⟩
    have out:∀ j,j < sa+k\/ sa+na+k'<=j ->kx rk (wrt (sa+k) r.toList.zipIdx (arrOf st)) j=kx rk (arrOf st) j:=λ j hj=>q4u (v.out j hj);rw [show (setArr J (wrt (sa+k) r.toList.zipIdx (arrOf J)))=setArr J (wrt (sa+k) r.toList.zipIdx (arrOf st)) by rw [b2]];refine h _ ⟨v.perm,λ j hj=>v.out j (by lia),hg.kind,hg.failed,hg.pend,λ i j a b c=> ?_⟩;show kx rk (wrt (sa+k) r.toList.zipIdx (arrOf st)) i<=kx rk (wrt (sa+k) r.toList.zipIdx (arrOf st)) j;by_cases i1:i < sa+k
    ·rw [out i (.inl i1)];have li:=a6 i a i1;by_cases j1:j < sa+k
     ·rw [out j (.inl j1)];exact u1 i j a b (by lia)
     ·by_cases j2:j < sa+na+k'
      ·have:=(a7 j (by lia) j2).1
       lia
      ·rw [out j (.inr (by lia))];have:=u2 (sa+na) j (z47 _) (by lia) c
       lia
    ·by_cases i2:i < sa+na+k'
     ·by_cases j2:j < sa+na+k'
      ·obtain ⟨p,ep,_,gp⟩:=at' i (by lia) i2;obtain ⟨p',a9,_,a4⟩:=at' j (by lia) j2;rw [q3d ep,q3d a9];obtain ⟨l1,x1⟩:=z07.mp gp;obtain ⟨l2,x2⟩:=z07.mp a4;rcases Nat.lt_or_ge i j with b3 | b3
       ·have:=a5 (i - (sa+k)) (j - (sa+k)) l1 l2 (by lia)
        rwa [x1,x2] at this
       ·have a8:i=j:=by lia
        subst a8;rw [gp] at a4;cases a4
        exact z49 _
      ·rw [out j (.inr (by lia))];have h1:=(a7 i (by lia) i2).2;have h2:=a1 j (by lia) c
       lia
     ·rw [out i (.inr (by lia)),out j (.inr (by lia))];exact u2 i j (by lia) b c
   by_cases c2:na - k<=k'
   ·rw [if_pos c2];exact wpS_bind (qq0 (st:=setPending st (((pendingOf st).setIfInBounds i (sa,na+nb,pw)).eraseIdxIfInBounds (i+1))) L B.kind m λ r J hg hr=>fin r J hg hr)
   ·rw [if_neg c2];exact wpS_bind (qq1 (st:=setPending st (((pendingOf st).setIfInBounds i (sa,na+nb,pw)).eraseIdxIfInBounds (i+1))) L B.kind m λ r J hg hr=>fin r J hg hr)
end
def qhi {p:Array (Nat×Nat×Nat)} {J O:List (Nat×Nat×Nat)} {r1 r2 r:Nat×Nat×Nat} {i:Nat} (h:p.toList=J++r1::r2::O) (hi:J.length=i):
  ((p.setIfInBounds i r).eraseIdxIfInBounds (i+1)).toList=J++r::O:=by
 have hs:i+1 < (p.setIfInBounds i r).size:=by
  rw [Array.size_setIfInBounds,<- z18,h];simp
  lia
 rw [Array.eraseIdxIfInBounds,dif_pos hs,Array.toList_eraseIdx,Array.toList_setIfInBounds,h,<- hi,List.set_append_right _ _ (z47 _),Nat.sub_self,List.set_cons_zero,
  List.eraseIdx_append_of_length_le (by lia)]
 congr 1
 rw [show J.length+1 - J.length=1 by lia];rfl
def qsp {α:Type} {l:List α} {i:Nat} (h:i+1 < l.length):∃ J r1 r2 l2,l=J++r1::r2::l2/\J.length=i:=by
 refine ⟨l.take i,l[i],l[i+1],l.drop (i+2),?_,by rw [z2f];lia⟩;rw [<- z09 h,<- z09 (by lia),z0u]
section
variable {M:Model} {A:Around} {E:xB} {s:Shared} {kd:SortKind} {S:Keyed ->Prop} {rk:Keyed ->Int} {n:Nat}
structure Sr (rk:Keyed ->Int) (kd:SortKind) (S:Keyed ->Prop) (n:Nat) (st:SortSt) (lo:Nat) (st':SortSt):Prop where
 perm:(arrOf st').Perm (arrOf st)
 sane:Sane kd S n st'
 runs:Runs rk (arrOf st') 0 (pendingOf st').toList lo
def Sr.merge {st J:SortSt} {lo i:Nat} (h:Sr rk kd S n st lo J) (hi:i+1 < (pendingOf J).size):
  ∃ sa na pw nb p2,(pendingOf J)[i]? =some (sa,na,pw)/\(pendingOf J)[i+1]? =some (sa+na,nb,p2)/\1<=na/\1<=nb/\sa+na+nb<=lo/\Up rk (arrOf J) sa (sa+na)/\Up rk (arrOf J) (sa+na) (sa+na+nb)/\
   ∀ O,Merged rk sa (sa+na+nb) (((pendingOf J).setIfInBounds i (sa,na+nb,pw)).eraseIdxIfInBounds (i+1)) J O ->
    Sr rk kd S n st lo O/\(pendingOf O).size+1=(pendingOf J).size/\∀ k,lo<=k ->(arrOf O)[k]? =(arrOf J)[k]? :=by
 obtain ⟨l1,⟨Z,n1,q1⟩,⟨a2,n2,q2⟩,l2,e,el⟩:=qsp (l:=(pendingOf J).toList) (i:=i) (by rw [z18];exact hi);have R:=h.runs;rw [e] at R;obtain ⟨w,R1,R2⟩:=Runs.split.mp R;obtain ⟨x1,x2,x3,x4,x5,x6,x7⟩:=R2;simp only at x1 x2 x3 x4 x5 x6 x7;subst x1 x4;have le:=Runs.le x7;have g1:(pendingOf J)[i]? =some (Z,n1,q1):=by
  rw [<- z0w,e,z05 (by lia),<- el,Nat.sub_self];rfl
 have g2:(pendingOf J)[i+1]? =some (Z+n1,n2,q2):=by
  rw [<- z0w,e,z05 (by lia),show i+1 - l1.length=1 by lia];rfl
 refine ⟨Z,n1,q1,n2,q2,g1,g2,x2,x5,by lia,x3,x6,λ O m=>⟨⟨m.perm.trans h.perm,?_,?_⟩,?_,λ k hk=>m.out k (by lia)⟩⟩
 ·exact ⟨m.perm.size_eq.trans h.sane.size,λ p hp=>h.sane.all p ((z04.mp m.perm).mem_iff.mp hp),m.kind.trans h.sane.kind,m.failed.trans h.sane.failed⟩
 ·rw [m.pend,qhi e el];refine Runs.split.mpr ⟨Z,R1.same λ k _ hk=>m.out k (.inl hk),rfl,by show 1<=n1+n2;lia,?_,?_⟩
  ·show Up rk (arrOf O) Z (Z+(n1+n2));rw [<- Nat.add_assoc];exact m.up
  ·show Runs rk (arrOf O) (Z+(n1+n2)) l2 lo;rw [<- Nat.add_assoc];exact x7.same λ k hk _=>m.out k (.inr hk)
 ·rw [m.pend,<- z18,qhi e el,<- z18,e];simp
  lia
def Sr.mv {st J O:SortSt} {lo hi:Nat} (h:Sr rk kd S n st lo J) (v:Mv lo hi J O):Sr rk kd S n st lo O:=
 ⟨v.perm.trans h.perm,v.sane h.sane,by rw [v.pend];exact h.runs.same λ k _ hk=>v.out k (.inl hk)⟩
def Sr.setP {st J:SortSt} {lo hi:Nat} {p:Array (Nat×Nat×Nat)} (h:Sr rk kd S n st lo J) (r:Runs rk (arrOf J) 0 p.toList hi):Sr rk kd S n st hi (setPending J p):=
 ⟨h.perm,⟨h.sane.size,h.sane.all,h.sane.kind,h.sane.failed⟩,r⟩
def qsq (p:Array (Nat×Nat×Nat)) (pw:Nat):(p.modify (p.size - 1) λ (x:Nat×Nat×Nat)=>(x.1,x.2.1,pw)).toList.map (λ r=>(r.1,r.2.1))=p.toList.map (λ r=>(r.1,r.2.1)):=by
 apply z20
 intro j;rw [z21,z21,z0w,z0w,Array.getElem?_modify];split
 ·cases p[j]? <;> rfl
 ·rfl
def qog (L:LtOk M A E s kd S rk) {st:SortSt} (B:Sane kd S n st) (h2:2<=n) (hp:pendingOf st=#[]) {Q:Unit ->SortSt ->Prop}
  (h:∀ Z,(arrOf Z).Perm (arrOf st) ->failedOf Z=none ->Up rk (arrOf Z) 0 n ->Q () Z):wpS M A E s sortRuns' Q st:=by
 rw [sortRuns'_eq];refine wpS_bind (wpS_get ?_)
 dsimp only
 simp only [B.size];have start:Sr rk kd S n st 0 st:=⟨Array.Perm.refl _,B,by rw [hp];rfl⟩;refine wpS_bind (wpS_mono (wpS_forRange (I:=λ x c Z=>∃ lo,c=(none,lo)/\Sr rk kd S n st lo Z/\lo<=n/\min x n<=lo)
  (Q:=λ c Z=>c=(none,n)/\Sr rk kd S n st n Z) ?turn ?last ⟨0,rfl,start,by lia,by lia⟩) ?after)
 case last=>
  rintro c Z ⟨lo,rfl,R,h1,h3⟩;have e:lo=n:=by lia
  subst e;exact ⟨zr,R⟩
 case turn=>
  rintro x c Z _ hx ⟨lo,rfl,R,hlo,hxl⟩
  dsimp only
  by_cases a9:lo >=n
  ·rw [if_pos a9];have e:lo=n:=by lia
   subst e;exact wpS_pure ⟨zr,R⟩
  rw [if_neg a9];refine wpS_bind (qob L R.sane (by lia) (by lia) λ k b2 v2 k1 k2 u2=> ?_);have R2:=R.mv v2
  dsimp only
  by_cases a7:k < minRun' n n 0
  case' pos=>
   rw [if_pos a7];refine wpS_bind (wpS_lift (z4c ⟨zr,?_⟩));refine wpS_bind (qk2 L R2.sane (by lia) (by lia) u2 λ a8 v3 u3=> ?_);have R3:=R2.mv v3;simp only [Bool.not_true,z1j,if_false];have m1:1<=min (n - lo) (minRun' n n 0):=by lia
   have m2:min (n - lo) (minRun' n n 0)<=n - lo:=by lia
   clear a7 v3;generalize min (n - lo) (minRun' n n 0)=m at*
  case' neg=>
   rw [if_neg a7];have R3:=R2;have u3:=u2;have m1:=k1;have m2:=k2;clear a7;generalize b2=a8 at*;generalize k=m at*
  all_goals
   refine wpS_bind (wpS_get ?_);have fin:∀ (O:SortSt) (p:Array (Nat×Nat×Nat)),Sr rk kd S n st lo O ->Up rk (arrOf O) lo (lo+m) ->Runs rk (arrOf O) 0 p.toList lo ->
     Sr rk kd S n st (lo+m) (setPending (setPending O p) ((pendingOf (setPending O p)).push (lo,m,0))):=λ O p R5 u5 rp=>by
    refine (R5.setP rp).setP ?_;show Runs rk (arrOf O) 0 (p.push (lo,m,0)).toList (lo+m);rw [z1z];exact Runs.split.mpr ⟨lo,rp,zr,m1,u5,zr⟩
   cases hb:(pendingOf a8).back? with
   | none=>
    dsimp only
    exact wpS_bind (wpS_modify (wpS_pure ⟨lo+m,zr,fin a8 (pendingOf a8) R3 u3 R3.runs,by lia,by lia⟩))
   | some q=>
    obtain ⟨s1,n1,q1⟩:=q
    dsimp only
    refine wpS_bind (wpS_mono (wpS_forRange (I:=λ _ c J=>c=(none,())/\Sr rk kd S n st lo J/\Up rk (arrOf J) lo (lo+m))
     (Q:=λ c J=>c=(none,())/\Sr rk kd S n st lo J/\Up rk (arrOf J) lo (lo+m)) ?mturn (λ _ _ z=>z) ⟨rfl,R3,u3⟩) ?mafter)
    case mturn=>
     rintro j c J _ hj ⟨rfl,R4,u4⟩;refine wpS_bind (wpS_get ?_);by_cases c1:(pendingOf J).size > 1
     ·obtain ⟨sa,na,pw,nb,p2,g1,g2,a1,a2,a3,a4,a5,a6⟩:=R4.merge (i:=(pendingOf J).size - 2) (by lia);rw [if_pos c1,g1]
      dsimp only
      split
      ·exact wpS_pure ⟨zr,R4,u4⟩
      ·refine wpS_bind (qhh L R4.sane g1 g2 a1 a2 (by lia) a4 a5 λ O mm=> ?_);obtain ⟨R5,_,o5⟩:=a6 O mm;simp only [Bool.not_true,z1j,if_false];exact wpS_pure ⟨zr,R5,u4.same λ k hk _=>o5 k hk⟩
     ·rw [if_neg c1];exact wpS_pure ⟨zr,R4,u4⟩
    case mafter=>
     rintro c J ⟨rfl,R4,u4⟩
     dsimp only
     refine wpS_bind (wpS_modify (wpS_bind (wpS_modify (wpS_pure ⟨lo+m,zr,?_,by lia,by lia⟩))));exact fin J _ R4 u4 (R4.runs.pow (qsq _ _))
 case after=>
  rintro c Z ⟨rfl,R⟩
  dsimp only
  refine wpS_bind (wpS_mono (wpS_forRange (I:=λ x c J=>c=(none,())/\Sr rk kd S n st n J/\(pendingOf J).size<=max 1 (n - x))
   (Q:=λ c J=>c=(none,())/\Sr rk kd S n st n J/\(pendingOf J).size<=1) ?fturn ?flast ⟨rfl,R,?ffirst⟩) ?fafter)
  case ffirst=>
   have:=Runs.le R.runs;rw [z18] at this
   lia
  case flast=>
   rintro c J ⟨hc,R4,h4⟩;exact ⟨hc,R4,by lia⟩
  case fturn=>
   rintro j c J _ hj ⟨rfl,R4,h4⟩;refine wpS_bind (wpS_get ?_);by_cases c1:(pendingOf J).size<=1
   ·rw [if_pos c1];exact wpS_pure ⟨zr,R4,c1⟩
   ·rw [if_neg c1];have go:∀ i,i+1 < (pendingOf J).size ->wpS M A E s (mergeAt' i) (λ b O=>b=true/\Sr rk kd S n st n O/\(pendingOf O).size<=max 1 (n - (j+1))) J:=λ i hi=>by
     obtain ⟨sa,na,pw,nb,p2,g1,g2,a1,a2,a3,a4,a5,a6⟩:=R4.merge hi;refine qhh L R4.sane g1 g2 a1 a2 (by lia) a4 a5 λ O mm=> ?_;obtain ⟨R5,z5,_⟩:=a6 O mm;exact ⟨zr,R5,by lia⟩
    refine wpS_bind (wpS_mono (go _ ?_) ?_)
    ·repeat' split
     all_goals lia
    ·rintro b O ⟨rfl,R5,z5⟩;simp only [Bool.not_true,z1j,if_false];exact wpS_pure ⟨zr,R5,z5⟩
  case fafter=>
   rintro c J ⟨rfl,R4,h4⟩;refine wpS_pure (h J R4.perm R4.sane.failed ?_);have hr:=R4.runs;have hl:(pendingOf J).toList.length<=1:=by rw [z18];exact h4
   cases e:(pendingOf J).toList with
   | nil=>
    rw [e] at hr;have:0=n:=hr
    lia
   | cons r l=>
    rw [e] at hr hl;have:l=[]:=by simpa using hl
    subst this;obtain ⟨_,_,u,z⟩:=hr;have z':0+r.2.1=n:=z
    rwa [z'] at u
end
def KLt (prog:Program) (w:World) (A:Around) (s:Shared) (kd:SortKind) (x y:Value) (r:Bool):Prop:=
 ∀ (E:xB) (Q:Bool ->Shared ->Prop),Q r s ->wpAny (model prog w) A (keyLt' kd x y) Q E s
def qvv {prog:Program} {w:World} {A:Around} {E:xB} {s:Shared} {kd:SortKind} {S:Keyed ->Prop} {rk:Keyed ->Int} (h:∀ x y,S x ->S y ->KLt prog w A s kd x.1 y.1 (decide (rk x < rk y))):
  LtOk (model prog w) A E s kd S rk:=by
 intro x y st Q sx sy hk q;rw [lt'_eq];refine wpS_bind (wpS_get ?_);rw [hk];refine wpS_bind (wpS_lift (z3l (h x y sx sy _ _ ⟨zr,?_⟩)));exact wpS_pure q
section
variable {α:Type}
theorem qcy {p q:α ->Bool}:∀ (l:List α),(∀ z∈l,p z=true ->q z=true) ->(l.filter p).length<=(l.filter q).length
 | [],_=>z47 _
 | z::l,h=>by
  have ih:=qcy (p:=p) (q:=q) l λ y hy=>h y (z15 _ hy);rw [z2i,z2i];cases e:p z with
  | true=>
   rw [h z (z1o ..) e];simp only [if_true,z2h]
   lia
  | false=>
   cases q z with
   | true=>simp only [z1j,if_false,if_true,z2h];lia
   | false=>simpa using ih
theorem qke {p q:α ->Bool} {y:α}:∀ (l:List α),(∀ z∈l,p z=true ->q z=true) ->y∈l ->p y=false ->q y=true ->(l.filter p).length < (l.filter q).length
 | [],_,hy,_,_=>nomatch hy
 | z::l,h,hy,h1,h2=>by
  have hl:∀ w∈l,p w=true ->q w=true:=λ w hw=>h w (z15 _ hw);rw [z2i,z2i];rcases z3m.mp hy with rfl | hy
  ·rw [h1,h2];have:=qcy l hl;simp only [z1j,if_false,if_true,z2h]
   lia
  ·have ih:=qke l hl hy h1 h2;cases e:p z with
   | true=>
    rw [h z (z1o ..) e];simp only [if_true,z2h]
    lia
   | false=>
    cases q z with
    | true=>simp only [z1j,if_false,if_true,z2h];lia
    | false=>simpa using ih
def rank (lt:α ->α ->Bool) (l:List α) (x:α):Int:=((l.filter λ y=>lt y x).length:Nat)
def qna {lt:α ->α ->Bool} {l:List α} (irr:∀ x∈l,lt x x=false) (tr:∀ x∈l,∀ y∈l,∀ z∈l,lt x y=true ->lt y z=true ->lt x z=true)
  (nt:∀ x∈l,∀ y∈l,∀ z∈l,lt x z=true ->lt x y=true\/ lt y z=true) {x y:α} (hx:x∈l) (hy:y∈l):lt x y=decide (rank lt l x < rank lt l y):=by
 unfold rank;cases e:lt x y with
 | true=>
  have:=qke (p:=λ z=>lt z x) (q:=λ z=>lt z y) l (λ z hz h=>tr z hz x hx y hy h e) hx (irr x hx) e;exact (z3b (by lia)).symm
 | false=>
  have:=qcy (p:=λ z=>lt z y) (q:=λ z=>lt z x) l (λ z hz h=>(nt z hz x hx y hy h).resolve_right (by rw [e];exact z1k));exact (z2v (by lia)).symm
end
structure Sorted (rk:Value ->Int) (vs out:xH):Prop where
 perm:out.Perm vs
 asc:out.Pairwise λ x y=>rk x<=rk y
def qkf {rk:Value ->Int} {vs:xH} {xs:Array Keyed} (hp:xs.Perm (pairsOf vs)) (hu:Up (λ p=>rk p.1) xs 0 vs.length):Sorted rk vs (xs.map (·.2)).toList:=by
 have hl:xs.toList.Perm (vs.zip vs):=by
  rw [<- pairsOf_toList];exact z04.mp hp
 have hsz:xs.size=vs.length:=by
  rw [hp.size_eq,pairsOf_size]
 have same:∀ p,p∈xs.toList ->p.1=p.2:=λ p h=>(mem_zip_self (hl.mem_iff.mp h)).1;refine ⟨?_,?_⟩
 ·rw [Array.toList_map];have:=hl.map Prod.snd
  rwa [List.map_snd_zip (z47 _)] at this
 ·rw [Array.toList_map,z08];intro i j hi hj Z;rw [List.getElem_map,List.getElem_map];have O:i < xs.toList.length:=by simpa using hi
  have J:j < xs.toList.length:=by simpa using hj
  have:=hu i j (z4a _) (z3x Z) (by rw [z18] at J;lia);rw [q2u xs i (z0c O),q2u xs j (z0c J)] at this;rw [<- same _ (z2j O),<- same _ (z2j J)];exact this
section
variable {prog:Program} {w:World} {A:Around} {E:xB} {s:Shared}
def Keys (prog:Program) (w:World) (A:Around) (s:Shared) (a:Addr) (vs:xH) (rk:Value ->Int):Prop:=2<=vs.length ->∀ s':Shared,(∀ b o,b≠a ->s.heap.get? b=some o ->s'.heap.get? b=some o) ->
 ∃ kd:SortKind,(∀ (E:xB) (Q:SortKind ->Shared ->Prop),Q kd s' ->wpAny (model prog w) A (keyKind' vs.toArray) Q E s')/\∀ x∈vs,∀ y∈vs,KLt prog w A s' kd x y (decide (rk x < rk y))
def q9z {a:Addr} {vs:xH} {n:Nat} {rk:Value ->Int} {P:PySem.Fin ->Shared ->Prop} (ho:s.heap.get? a=some (seqObj "list" vs.toArray n)) (hz:vs.length<=sizeLine) (hk:Keys prog w A s a vs rk)
  (h:∀ out:Array Value,Sorted rk vs out.toList ->P (.done (.ret .none)) {s with heap:=sortedHeap s.heap a vs out}):wpAny (model prog w) A (Builtin.«list.sort» ⟨[.ref a],[]⟩) P E s:=by
 rw [list_sort_plain];have ha:a < s.heap.objs.size:=z3y ho;have a6:vs.toArray.size=vs.length:=z22;refine z4e (listItems_at ho rfl (z4e (listUpdate_at ho rfl ?_ (by rw [a6];exact hz) (z4a _))));obtain ⟨e1,a4⟩:∃ e1,(s.heap.update a (Obj.mapSeq λ _=>#[])).get? a=some (seqObj "list" #[] e1):=⟨_,get?_update_seq ho (λ _=>#[])⟩;refine z4e (seqEpoch_at a4 rfl (z4e (wpAny_newTuple (z4e (wpAny_newList (z3n ?_))))));have s1:=z1a s.heap a (Obj.mapSeq λ _=>(#[]:Array Value));have keep:∀ b o,(s.heap.update a (Obj.mapSeq λ _=>#[])).get? b=some o ->(((s.heap.update a (Obj.mapSeq λ _=>#[])).push (seqObj "tuple" vs.toArray 0)).push (seqObj "list" #[] 0)).get? b=some o:=
  λ b o e=>z0n _ (z0n _ e)
 have O:=keep a _ a4;have Z:∀ b o,b≠a ->s.heap.get? b=some o ->(((s.heap.update a (Obj.mapSeq λ _=>#[])).push (seqObj "tuple" vs.toArray 0)).push (seqObj "list" #[] 0)).get? b=some o:=
  λ b o hb e=>keep b o ((s1.2 b hb).trans e)
 show wpAny (model prog w) A _ P E {s with heap:=((s.heap.update a (Obj.mapSeq λ _=>#[])).push (seqObj "tuple" vs.toArray 0)).push (seqObj "list" #[] 0)}
 dsimp only
 by_cases h2:vs.toArray.size < 2
 ·rw [if_pos h2,if_pos h2];refine z4e (z4d ?_);rw [StateT.run_pure];refine z4e (z4d ?_)
  dsimp only
  have es:((vs.toArray.zip vs.toArray).map (·.2)).toList=vs:=by
   rw [Array.toList_map];show (pairsOf vs).toList.map _=_;rw [pairsOf_toList,List.map_snd_zip (z47 _)]
  refine z4e (seqEpoch_at O rfl (z4e (listUpdate_at O rfl ?_ (z4a _) (by rw [<- z18,es];lia))));simp only [bne_self_eq_false,z1j,if_false];refine z4d (h _ ?_);rw [es];refine ⟨List.Perm.refl _,?_⟩;rw [a6] at h2
  match vs,h2 with
  | [],_=>exact .nil
  | [_],_=>exact z0h ..
 ·rw [if_neg h2,if_neg h2];obtain ⟨kd,kk,kl⟩:=hk (by lia) {s with heap:=((s.heap.update a (Obj.mapSeq λ _=>#[])).push (seqObj "tuple" vs.toArray 0)).push (seqObj "list" #[] 0)} Z;refine z4e (kk _ _ ?_);have hS:∀ p∈(vs.toArray.zip vs.toArray).toList,p.1∈vs:=λ p hp=>by
   have a5:p∈(pairsOf vs).toList:=hp;rw [pairsOf_toList] at a5;exact (mem_zip_self a5).2
  refine z4e (z4f (qog (S:=λ p=>p.1∈vs) (rk:=λ p=>rk p.1) (n:=vs.length) (st:=SortSt.mk' kd (vs.toArray.zip vs.toArray) #[] 7 none)
   (Q:=λ _ J=>(arrOf J).Perm (pairsOf vs)/\failedOf J=none/\Up (λ p=>rk p.1) (arrOf J) 0 vs.length)
   (qvv λ x y hx hy=>kl x.1 hx y.1 hy) ⟨pairsOf_size vs,hS,rfl,rfl⟩ (by lia) rfl λ J a1 a2 a3=>⟨a1,a2,a3⟩) ?_ λ _ _ e=>e)
  rintro ⟨⟨⟩,J⟩ s' ⟨rfl,hp,hf,hu⟩
  dsimp only
  have so:=qkf hp hu;refine z4e (seqEpoch_at O rfl (z4e (listUpdate_at O rfl ?_ (z4a _) (by rw [<- z18,so.perm.length_eq];lia))));rw [hf];simp only [bne_self_eq_false,z1j,if_false];exact z4d (h _ so)
end
end Tim
namespace Tim
structure STO {α:Type} (lt:α ->α ->Bool):Prop where
 irr:∀ a,lt a a=false
 tr:∀ a b c,lt a b=true ->lt b c=true ->lt a c=true
 tri:∀ a b,lt a b=false ->lt b a=false ->a=b
section
variable {α β:Type}
def STO.asym {lt:α ->α ->Bool} (h:STO lt) {a b:α} (x:lt a b=true):lt b a=false:=by
 cases e:lt b a with
 | false=>rfl
 | true=>
  have:=h.tr a b a x e;rw [h.irr] at this;cases this
def STO.nt {lt:α ->α ->Bool} (h:STO lt) {a c:α} (b:α) (x:lt a c=true):lt a b=true\/ lt b c=true:=by
 cases e:lt a b with
 | true=>exact .inl rfl
 | false=>
  cases f:lt b a with
  | true=>exact .inr (h.tr b a c f x)
  | false=>
   have:=h.tri a b e f;subst this;exact .inr x
def STO.map {lt:α ->α ->Bool} (h:STO lt) (f:β ->α) (inj:∀ a b,f a=f b ->a=b):STO λ a b=>lt (f a) (f b):=
 ⟨λ a=>h.irr _,λ a b c=>h.tr _ _ _,λ a b x y=>inj a b (h.tri _ _ x y)⟩
def lexB [DecidableEq α] (lt:α ->α ->Bool):List α ->List α ->Bool
 | [],[]=>false
 | [],_::_=>true
 | _::_,[]=>false
 | a::as,b::bs=>if a=b then lexB lt as bs else lt a b
def STO.lex [DecidableEq α] {lt:α ->α ->Bool} (h:STO lt):STO (lexB lt):=by
 refine ⟨λ a=> ?_,λ a=> ?_,λ a=> ?_⟩
 ·induction a with
  | nil=>rfl
  | cons x a Z=>rw [lexB,if_pos rfl];exact Z
 ·induction a with
  | nil=>
   intro b c h1 h2;cases c with
   | nil=>cases b with
    | nil=>exact h1
    | cons y b=>cases h2
   | cons z c=>rfl
  | cons x a Z=>
   intro b c h1 h2;cases b with
   | nil=>cases h1
   | cons y b=>
    cases c with
    | nil=>cases h2
    | cons z c=>
     rw [lexB] at h1 h2 ⊢;by_cases J:x=y
     ·subst J;rw [if_pos rfl] at h1;by_cases xz:x=z
      ·subst xz;rw [if_pos rfl] at h2 ⊢;exact Z b c h1 h2
      ·rw [if_neg xz] at h2 ⊢;exact h2
     ·rw [if_neg J] at h1;by_cases yz:y=z
      ·subst yz;rw [if_neg J];exact h1
      ·rw [if_neg yz] at h2;have O:=h.tr x y z h1 h2;have:¬ x=z:=λ e=>by
        subst e;rw [h.irr] at O;cases O
       rw [if_neg this];exact O
 ·induction a with
  | nil=>
   intro b h1 h2;cases b with
   | nil=>rfl
   | cons y b=>cases h1
  | cons x a Z=>
   intro b h1 h2;cases b with
   | nil=>cases h2
   | cons y b=>
    rw [lexB] at h1 h2;by_cases J:x=y
    ·subst J;rw [if_pos rfl] at h1 h2;rw [Z b h1 h2]
    ·rw [if_neg J] at h1;rw [if_neg (Ne.symm J)] at h2;exact absurd (h.tri x y h1 h2) J
def qvw:STO (λ a b:Nat=>decide (a < b)):=
 ⟨λ a=>by simp,λ a b c h1 h2=>by simp at*;lia,λ a b h1 h2=>by simp at*;lia⟩
def qvx:STO (λ a b:Int=>decide (a < b)):=
 ⟨λ a=>by simp,λ a b c h1 h2=>by simp at*;lia,λ a b h1 h2=>by simp at*;lia⟩
theorem qnb:∀ (a b:List Nat),decide (a < b)=lexB (λ x y:Nat=>decide (x < y)) a b
 | [],[]=>rfl
 | [],_::_=>by simp [lexB]
 | _::_,[]=>by simp [lexB]
 | x::a,y::b=>by
  rw [lexB,<- qnb a b];by_cases e:x=y
  ·subst e;rw [if_pos rfl];simp
  ·rw [if_neg e];have:(x::a < y::b)↔x < y:=by
    rw [List.cons_lt_cons_iff]
    constructor
    ·rintro (h | h)
     ·exact h
     ·exact absurd h.1 e
    ·exact .inl
   simp [this]
theorem STO.uniq {lt:α ->α ->Bool} (h:STO lt):∀ {a b:List α},a.Perm b ->a.Pairwise (λ x y=>lt y x=false) ->b.Pairwise (λ x y=>lt y x=false) ->a=b
 | [],b,p,_,_=>(List.nil_perm.mp p).symm ▸ rfl
 | x::a,[],p,_,_=>by have:=p.length_eq;simp at this
 | x::a,y::b,p,pa,pb=>by
  obtain ⟨J,O⟩:=z1p.mp pa;obtain ⟨Z,a1⟩:=z1p.mp pb;have e:x=y:=by
   have hx:x∈y::b:=p.mem_iff.mp (z1o ..);have hy:y∈x::a:=p.mem_iff.mpr (z1o ..);rcases z3m.mp hx with e | hx
   ·exact e
   ·rcases z3m.mp hy with e | hy
    ·exact e.symm
    ·exact h.tri x y (Z x hx) (J y hy)
  subst e;rw [h.uniq (List.Perm.cons_inv p) O a1]
end
end Tim
namespace L2
open PySem PySem.Spec PyProof.Rows
abbrev Key:=Sum Int Str
def q85:Key ->Value ->Bool
 | .inl k,v=>Value.isInt k v
 | .inr x,v=>Value.isStrOf x v
def keyH (w:World):Key ->Int
 | .inl k=>hashInt k
 | .inr x=>hashStr w x
def q1u:∀ {k:Key} {v:Value},q85 k v=true ->(∃ i t,k=Sum.inl i/\v=Value.int i t)\/ (∃ x t,k=Sum.inr x/\v=Value.str x t)
 | .inl i,v,h=>by
  obtain ⟨t,e⟩:=Value.isInt_shape (k:=i) (v:=v) h;exact .inl ⟨i,t,zr,e⟩
 | .inr x,v,h=>by
  obtain ⟨t,e⟩:=Value.isStrOf_shape (x:=x) (v:=v) h;exact .inr ⟨x,t,zr,e⟩
def qq3 (i:Int) (t:Tok):q85 (.inl i) (.int i t)=true:=by simp [q85,Value.isInt]
def qq4 (x:Str) (t:Tok):q85 (.inr x) (.str x t)=true:=by simp [q85,Value.isStrOf]
def qy4 (a b:Int):decide ((Sum.inl a:Key)=Sum.inl b)=(a==b):=by
 by_cases e:a=b
 ·subst e;simp
 ·have h:¬ (Sum.inl a:Key)=Sum.inl b:=λ q=>e (Sum.inl.inj q);rw [z2v h];exact (beq_eq_false_iff_ne.mpr e).symm
def qy5 (a b:Str):decide ((Sum.inr a:Key)=Sum.inr b)=decide (a=b):=by
 by_cases e:a=b
 ·subst e;simp
 ·have h:¬ (Sum.inr a:Key)=Sum.inr b:=λ q=>e (Sum.inr.inj q);rw [z2v h,z2v e]
def qy6 (a:Int) (b:Str):decide ((Sum.inl a:Key)=Sum.inr b)=false:=z2v (λ q=>nomatch q)
def qy7 (a:Str) (b:Int):decide ((Sum.inr a:Key)=Sum.inl b)=false:=z2v (λ q=>nomatch q)
def q17 (prog:Program) (w:World):PySem.KeyKind prog w Key where
 is:=q85
 hash:=keyH w
 inj:=λ v a b ha hb=>by
  rcases q1u ha with ⟨i,t,rfl,rfl⟩ | ⟨x,t,rfl,rfl⟩
  ·rcases q1u hb with ⟨j,u,rfl,e⟩ | ⟨y,u,rfl,e⟩
   ·injection e with e1 _;rw [e1]
   ·exact nomatch e
  ·rcases q1u hb with ⟨j,u,rfl,e⟩ | ⟨y,u,rfl,e⟩
   ·exact nomatch e
   ·injection e with e1 _;rw [e1]
 byValue:=λ k v h=>by
  rcases q1u h with ⟨i,t,rfl,rfl⟩ | ⟨x,t,rfl,rfl⟩ <;> rfl
 pyHash:=λ hv h=>by
  rcases q1u hv with ⟨i,t,rfl,rfl⟩ | ⟨x,t,rfl,rfl⟩
  ·exact wpAny_pyHash_int h
  ·exact wpAny_pyHash_str h
 eqBool:=λ hu hv h=>by
  rcases q1u hu with ⟨i,t,rfl,rfl⟩ | ⟨x,t,rfl,rfl⟩
  ·rcases q1u hv with ⟨j,u,rfl,rfl⟩ | ⟨y,u,rfl,rfl⟩
   ·rw [qy4] at h;exact wpAny_eqBool_int h
   ·rw [qy6] at h;exact SeqAt.EqAt.int_str i t y u _ _ _ _ h
  ·rcases q1u hv with ⟨j,u,rfl,rfl⟩ | ⟨y,u,rfl,rfl⟩
   ·rw [qy7] at h;exact SeqAt.EqAt.str_int x t j u _ _ _ _ h
   ·rw [qy5] at h;exact wpAny_eqBool_str h
 «strs»:=λ k x t v h=>by
  rcases q1u h with ⟨i,u,rfl,e⟩ | ⟨y,u,rfl,e⟩
  ·exact nomatch e
  ·injection e with e1 _;subst e1;cases v <;> rfl
def qmm (prog:Program) (w:World) (i:Int) (t:Tok):(q17 prog w).is (.inl i) (.int i t)=true:=qq3 i t
def qcg (prog:Program) (w:World) (x:Str) (t:Tok):(q17 prog w).is (.inr x) (.str x t)=true:=qq4 x t
inductive V where
 | non | bl (b:Bool) | int (i:Int) | str (x:Str) | byt (b:Array UInt8) | flt (b:UInt64) | ref (a:Addr) | ty (n:String)
 deriving DecidableEq
def RelV:V ->Value ->Prop
 | .non,u=>u=Value.none
 | .bl b,u=>u=Value.bool b
 | .int i,u=>∃ t,u=Value.int i t
 | .str x,u=>∃ t,u=Value.str x t
 | .byt b,u=>∃ t,u=Value.bytes b t
 | .flt b,u=>∃ t,u=Value.float b t
 | .ref a,u=>u=Value.ref a
 | .ty n,u=>u=Value.type n
abbrev Vals:List V ->List Value ->Prop:=Paired RelV
theorem Vals.length {xs:List V} {us:xH} (r:Vals xs us):xs.length=us.length:=Paired.length r
theorem Vals.get:∀ {xs:List V} {us:xH} {i:Nat} {x:V},Vals xs us ->xs[i]? =some x ->∃ u,us[i]? =some u/\RelV x u
 | _,_,_,_,.nil,e=>by simp at e
 | _,_,0,_,.cons r _,e=>by simp at e;subst e;exact ⟨_,rfl,r⟩
 | _,_,i+1,x,.cons _ t,e=>by
  obtain ⟨u,h1,h2⟩:=Vals.get (i:=i) (x:=x) t (by simpa using e);exact ⟨u,by simpa using h1,h2⟩
theorem Vals.append:∀ {xs ys:List V} {us ws:xH},Vals xs us ->Vals ys ws ->Vals (xs++ys) (us++ws)
 | _,_,_,_,.nil,s=>s
 | _,_,_,_,.cons r t,s=> .cons r (Vals.append t s)
theorem Vals.take:∀ {xs:List V} {us:xH} (n:Nat),Vals xs us ->Vals (xs.take n) (us.take n)
 | _,_,0,_=> .nil
 | _,_,_+1,.nil=> .nil
 | _,_,n+1,.cons r t=> .cons r (Vals.take n t)
theorem Vals.drop:∀ {xs:List V} {us:xH} (n:Nat),Vals xs us ->Vals (xs.drop n) (us.drop n)
 | _,_,0,r=>r
 | _,_,_+1,.nil=> .nil
 | _,_,n+1,.cons _ t=>Vals.drop n t
def RelO:Option V ->Option Value ->Prop
 | some v,some u=>RelV v u
 | none,none=>True
 | _,_=>False
def KV {κ:Type}:List (κ×V) ->List (κ×Value) ->Prop:=Paired λ (p:κ×V) (q:κ×Value)=>p.1=q.1/\RelV p.2 q.2
def kV:Key ->V
 | .inl i=> .int i
 | .inr x=> .str x
inductive HO where
 | lst (xs:List V)
 | tup (xs:List V)
 | dK (kvs:List (Key×V)) | dT (kvs:List (List Key×V))
 | set (S:Int ->Bool) (n:Nat)
 | ins (C dx:Addr) (fs:List (Str×V))
 | own (x:Addr)
 | xd (fs:List (Str×V))
 | met (f x:Addr)
 | rng (lo hi:Int)
 | frz (o:Obj) (u:HO)
 | tbl (ps:Array Value)
 | ext (φ:Heap ->Prop)
abbrev Hp:=Addr ->Option HO
def upd (H:Hp) (a:Addr) (o:HO):Hp:=λ b=>if b=a then some o else H b
def qb {H:Hp} {a:Addr} {o:HO}:upd H a o a=some o:=by unfold upd;rw [if_pos rfl]
def qi {H:Hp} {a b:Addr} {o:HO} (h:b≠a):upd H a o b=H b:=by unfold upd;rw [if_neg h]
def q5i {H:Hp} {a:Addr} {o u:HO}:upd (upd H a o) a u=upd H a u:=by
 funext b;unfold upd;split <;> rfl
def q10a {H:Hp} {a b:Addr} {o u:HO} (h:H a=some o) (h':H b=some u) (d:o≠u):a≠b:=by
 intro e;subst e;rw [h] at h';exact d (Option.some.inj h')
def qu {H:Hp} {a b:Addr} {o:HO} (h:H a=some o) (h':H b=none):a≠b:=by
 intro e;subst e;rw [h] at h';cases h'
section
variable (P:Program) (w:World)
def ObjOk (H:Hp) (h:Heap) (a:Addr):HO ->Prop
 | .lst xs=>xs.length<=sizeLine/\∃ (its:xH) (n:Nat),Vals xs its/\h.get? a=some {cls:= .type "list",data:= .seq its.toArray n}
 | .tup xs=>xs.length<=sizeLine/\∃ its:List Value,Vals xs its/\IsTup h a its.toArray
 | .dK kvs=>kvs.length<=sizeLine/\(a==sysModules)=false/\∃ vs,KV kvs vs/\h.DictOf (q17 P w) a vs
 | .dT kvs=>kvs.length<=sizeLine/\(a==sysModules)=false/\∃ xs:List (List Key×Addr×Value),
   Paired (λ (p:List Key×V) (q:List Key×Addr×Value)=>p.1=q.1/\H q.2.1=some (.tup (p.1.map kV))/\RelV p.2 q.2.2) kvs xs/\
   ∃ o es ep,h.get? a=some o/\o.ExactDict/\o.data= .dict es ep/\es.toList=xs.map (entryOfKey (tupleKind (q17 P w)))/\(xs.map (·.1)).Nodup
 | .set S n=>h.SetOf (intKind P w) a S n
 | .ins C dx fs=>H dx=some (.own a)/\fs.length<=1000/\dx≠a/\h.get? a=some (PySem.W.instObj C dx)/\
   ∃ mA,h.Ns1 dx mA/\(∀ f,RelO (fs.lookup f) (mA f))/\PySem.Within mA (fs.map (·.1))
 | .own _=>∃ o,h.get? a=some o
 | .xd fs=>∃ mA,h.Ns1 a mA/\∀ f,RelO (fs.lookup f) (mA f)
 | .rng lo hi=>∃ t u v,h.get? a=some {cls:= .type "range",data:= .fields #[.int lo t,.int hi u,.int 1 v]}
 | .frz o u=>h.get? a=some o/\ObjOk H h a u
 | .tbl ps=>h.get? a=some {cls:= .none,data:= .fields ps}
 | .met f x=>h.get? a=some (PySem.W.methodObj (.ref f) (.ref x))
 | .ext φ=>φ h/\(∃ o,h.get? a=some o)/\∀ h1 h2:Heap,φ h1 ->(∀ o,h1.get? a=some o ->h2.get? a=some o) ->φ h2
def HOk (H:Hp) (h:Heap):Prop:=∀ a o,H a=some o ->ObjOk P w H h a o
end
section
variable {P:Program} {w:World} {H H':Hp} {h h':Heap} {a:Addr} {o:HO}
theorem ObjOk.lt (x:ObjOk P w H h a o):a < h.objs.size:=by
 cases o with
 | lst xs=>obtain ⟨_,_,_,_,e⟩:=x;exact z3y e
 | tup xs=>obtain ⟨_,_,_,p⟩:=x;exact p.lt
 | dK kvs=>obtain ⟨_,_,_,_,o,_,_,e,_⟩:=x;exact z3y e
 | dT kvs=>obtain ⟨_,_,_,_,o,_,_,e,_⟩:=x;exact z3y e
 | set S n=>obtain ⟨o,_,_,_,e,_⟩:=x;exact z3y e
 | ins C dx fs=>obtain ⟨_,_,_,e,_⟩:=x;exact z3y e
 | own y=>obtain ⟨_,e⟩:=x;exact z3y e
 | xd fs=>obtain ⟨_,⟨_,_,_,e,_⟩,_⟩:=x;exact z3y e
 | rng lo hi=>obtain ⟨_,_,_,e⟩:=x;exact z3y e
 | frz ob u=>obtain ⟨e,_⟩:=x;exact z3y e
 | tbl ps=>exact z3y (show h.get? a=some _ from x)
 | met f y=>exact z3y (show h.get? a=some _ from x)
 | ext φ=>obtain ⟨_,⟨_,e⟩,_⟩:=x;exact z3y e
theorem Paired.mapP {α β:Type} {F G:α ->β ->Prop}:∀ {J:List α} {O:List β},Paired F J O ->(∀ a b,F a b ->G a b) ->Paired G J O
 | _,_,.nil,_=> .nil
 | _,_,.cons r t,f=> .cons (f _ _ r) (Paired.mapP t f)
def ObjOk.stay (x:ObjOk P w H h a o) (k:∀ b u,(b=a\/ H b=some (.own a)) ->h.get? b=some u ->h'.get? b=some u)
  (ho:∀ b,H b=some (.own a) ->H' b=some (.own a)) (ht:∀ b xs,H b=some (.tup xs) ->H' b=some (.tup xs)):ObjOk P w H' h' a o:=by
 induction o with
 | lst xs=>obtain ⟨z,its,n,r,e⟩:=x;exact ⟨z,its,n,r,k _ _ (.inl rfl) e⟩
 | tup xs=>obtain ⟨z,its,r,J,e,c⟩:=x;exact ⟨z,its,r,J,k _ _ (.inl rfl) e,c⟩
 | dK kvs=>obtain ⟨z,y,vs,r,J,es,ep,e,c⟩:=x;exact ⟨z,y,vs,r,J,es,ep,k _ _ (.inl rfl) e,c⟩
 | dT kvs=>
  obtain ⟨z,y,xs,r,J,es,ep,e,c⟩:=x;exact ⟨z,y,xs,Paired.mapP r λ p q z=>⟨z.1,ht _ _ z.2.1,z.2.2⟩,J,es,ep,k _ _ (.inl rfl) e,c⟩
 | set S n=>obtain ⟨J,es,ep,t,e,c⟩:=x;exact ⟨J,es,ep,t,k _ _ (.inl rfl) e,c⟩
 | ins C dx fs=>
  obtain ⟨d,z,ne,e,mA,⟨O,es,ep,e2,c⟩,r⟩:=x;exact ⟨ho _ d,z,ne,k _ _ (.inl rfl) e,mA,⟨O,es,ep,k _ _ (.inr d) e2,c⟩,r⟩
 | own y=>obtain ⟨J,e⟩:=x;exact ⟨J,k _ _ (.inl rfl) e⟩
 | xd fs=>obtain ⟨mA,⟨O,es,ep,e,c⟩,r⟩:=x;exact ⟨mA,⟨O,es,ep,k _ _ (.inl rfl) e,c⟩,r⟩
 | rng lo hi=>obtain ⟨t,u,v,e⟩:=x;exact ⟨t,u,v,k _ _ (.inl rfl) e⟩
 | frz J u ih=>obtain ⟨e,q⟩:=x;exact ⟨k _ _ (.inl rfl) e,ih q⟩
 | tbl ps=>
  have e:h.get? a=some {cls:= .none,data:= .fields ps}:=x;show h'.get? a=some {cls:= .none,data:= .fields ps};exact k a _ (.inl rfl) e
 | met f y=>
  have e:h.get? a=some (PySem.W.methodObj (.ref f) (.ref y)):=x;show h'.get? a=some (PySem.W.methodObj (.ref f) (.ref y));exact k a _ (.inl rfl) e
 | ext φ=>obtain ⟨p,⟨o,e⟩,st⟩:=x;exact ⟨st _ _ p λ o q=>k _ _ (.inl rfl) q,⟨o,k _ _ (.inl rfl) e⟩,st⟩
theorem HOk.lt (x:HOk P w H h) (e:H a=some o):a < h.objs.size:=(x a o e).lt
def HOk.fresh (x:HOk P w H h) (e:h.objs.size<=a):H a=none:=by
 cases q:H a with
 | none=>rfl
 | some u=>exact absurd (z1q (x.lt q) e) (z3o _)
def HOk.kept (x:HOk P w H h) (k:∀ b u,h.get? b=some u ->h'.get? b=some u):HOk P w H h':=λ a o e=>
 (x a o e).stay (λ b u _ q=>k b u q) (λ _ q=>q) λ _ _ q=>q
def HOk.laid (x:HOk P w H h) (k:∀ b u,h.get? b=some u ->h'.get? b=some u) (hp:h.objs.size<=a) (new:ObjOk P w (upd H a o) h' a o):HOk P w (upd H a o) h':=λ b u e=>by
 have hn:=x.fresh hp;by_cases hb:b=a
 ·subst hb;rw [qb] at e;cases e;exact new
 ·rw [qi hb] at e;exact (x b u e).stay (λ c v _ q=>k c v q) (λ c q=>by rw [qi (qu q hn)];exact q) λ c xs q=>by rw [qi (qu q hn)];exact q
end
def Rd (H:Hp) (a:Addr) (u:HO):Prop:=H a=some u\/ ∃ o,H a=some (.frz o u)
def Rd.ok {P:Program} {w:World} {H:Hp} {h:Heap} {a:Addr} {u:HO} (r:Rd H a u) (x:HOk P w H h):ObjOk P w H h a u:=by
 rcases r with r | ⟨o,r⟩
 ·exact x a u r
 ·obtain ⟨_,q⟩:=x a _ r;exact q
def Mut:Option HO ->Prop
 | some (.lst _)=>True
 | some (.dK _)=>True
 | some (.dT _)=>True
 | some (.set _ _)=>True
 | some (.ins _ _ _)=>True
 | some (.ext _)=>True
 | _=>False
section
variable {P:Program} {w:World} {H:Hp} {h h':Heap} {x e:Addr} {o':HO}
def HOk.write (ok:HOk P w H h) (mu:Mut (H x)) (he:e=x\/ H e=some (.own x)) (k:∀ b u,b≠e ->h.get? b=some u ->h'.get? b=some u) (a1:∃ u,h'.get? e=some u)
    (new:ObjOk P w (upd H x o') h' x o'):HOk P w (upd H x o') h':=λ b u q=>by
  have O:∀ c y,H c=some (.own y) ->c≠x:=λ c y r z=>by subst z;rw [r] at mu;exact mu
  have Z:∀ c xs,H c=some (.tup xs) ->c≠x:=λ c xs r z=>by subst z;rw [r] at mu;exact mu
  by_cases hb:b=x
  · subst hb;rw [qb] at q;cases q;exact new
  · rw [qi hb] at q
    by_cases J:b=e
    · have q':H b=some (.own x):=by
        rcases he with z | z
        · exact absurd (J.trans z) hb
        · rw [J];exact z
      rw [q] at q';cases q';obtain ⟨v,hv⟩:=a1;exact ⟨v,by rw [J];exact hv⟩
    · refine (ok b u q).stay (λ c v hc r=>k c v ?_ r) (λ c r=>by rw [qi (O c b r)];exact r) λ c xs r=>by rw [qi (Z c xs r)];exact r
      rcases hc with rfl | hc
      · exact J
      · rintro rfl
        rcases he with z | z
        · exact O c b hc z
        · rw [hc] at z;cases z;exact hb rfl
end
structure Un (fs ex:List Addr) (H H':Hp) (h h':Heap):Prop where
 keep:∀ b o,h.get? b=some o ->H b=none ->b∉fs ->b∉ex ->h'.get? b=some o
 slot:∀ b o,h.get? b=some o ->H b=none ->b∈fs ->b∉ex ->∃ sl,h'.get? b=some {o with slots:=sl}
 free:∀ b o,h.get? b=some o ->H b=none ->b∉ex ->H' b=none
 there:∀ b o,h.get? b=some o ->b∉ex ->∃ o',h'.get? b=some o'
 tups:∀ b xs,H b=some (.tup xs) ->H' b=some (.tup xs)
 frzs:∀ b o u,H b=some (.frz o u) ->H' b=some (.frz o u)
 tbls:∀ b ps,H b=some (.tbl ps) ->∃ more,H' b=some (.tbl (ps++more))
section
variable {fs fs' ex ex':List Addr} {H H1 H2:Hp} {h h1 h2 h':Heap} {a x e:Addr} {o:HO}
def Un.any (u:Un fs ex H H1 h h1) {b:Addr} {J:Obj} (q:h.get? b=some J) (n:H b=none) (hx:b∉ex):∃ sl,h1.get? b=some {J with slots:=sl}:=by
 by_cases hb:b∈fs
 ·exact u.slot b J q n hb hx
 ·exact ⟨J.slots,u.keep b J q n hb hx⟩
def Un.kept (k:∀ b u,h.get? b=some u ->h'.get? b=some u):Un fs ex H H h h':=
 ⟨λ b J q _ _ _=>k b J q,λ b J q _ _ _=>⟨J.slots,k b J q⟩,λ _ _ _ n _=>n,λ b J q _=>⟨J,k b J q⟩,λ _ _ q=>q,λ _ _ _ q=>q,λ _ ps q=>⟨#[],by rw [q];simp⟩⟩
def Un.refl:Un fs ex H H h h:=Un.kept λ _ _ q=>q
def Un.laid (k:∀ b u,h.get? b=some u ->h'.get? b=some u) (hp:h.objs.size<=a) (hn:H a=none):Un fs ex H (upd H a o) h h' where
 keep:=λ b u q _ _ _=>k b u q
 slot:=λ b u q _ _ _=>⟨u.slots,k b u q⟩
 free:=λ b u q n _=>by rw [qi (z3z (z1q (z3y q) hp))];exact n
 there:=λ b u q _=>⟨u,k b u q⟩
 tups:=λ b xs q=>by rw [qi (qu q hn)];exact q
 frzs:=λ b u xs q=>by rw [qi (qu q hn)];exact q
 tbls:=λ b ps q=>⟨#[],by rw [qi (qu q hn),q];simp⟩
def Un.write (mu:Mut (H x)) (he:e=x\/ H e=some (.own x)) (k:∀ b u,b≠e ->h.get? b=some u ->h'.get? b=some u) (O:∃ u,h'.get? e=some u):Un fs ex H (upd H x o) h h':=by
 have hx:∀ b,H b=none ->b≠x:=λ b n z=>by subst z;rw [n] at mu;exact mu
 have hb:∀ b,H b=none ->b≠e:=λ b n z=>by
  subst z;rcases he with r | r
  ·exact hx b n r
  ·rw [n] at r;cases r
 have hm:∀ b u,H b=some u ->¬ Mut (some u) ->b≠x:=λ b u q nm z=>by subst z;rw [q] at mu;exact nm mu
 refine ⟨λ b u q n _ _=>k b u (hb b n) q,λ b u q n _ _=>⟨u.slots,k b u (hb b n) q⟩,λ b u q n _=>by rw [qi (hx b n)];exact n,λ b u q _=> ?_,
  λ b xs q=>by rw [qi (hm b _ q λ z=>z)];exact q,λ b u xs q=>by rw [qi (hm b _ q λ z=>z)];exact q,λ b ps q=>⟨#[],by rw [qi (hm b _ q λ z=>z),q];simp⟩⟩
 by_cases J:b=e
 ·subst J;exact O
 ·exact ⟨u,k b u J q⟩
end
def trk (h:Heap) (H:Hp):List Addr:=(List.range h.objs.size).filter λ a=>(H a).isSome
def hidT (h:Heap) (H:Hp):Heap:=PySem.W.hideAll h (trk h H)
def qq5 (h:Heap) (H:Hp):(hidT h H).objs.size=h.objs.size:=PySem.W.hideAll_size _ _
def qsr {h:Heap} {H:Hp} {b:Addr} {o:Obj} (e:h.get? b=some o) (n:H b=none):(hidT h H).get? b=some o:=
 PySem.W.hideAll_get _ e λ hm=>by
  have q:(H b).isSome=true:=(z2w.mp hm).2;rw [n] at q;simp at q
def qvy {h:Heap} {H:Hp} {b:Addr} {o:Obj} (e:(hidT h H).get? b=some o):h.get? b=some o/\H b=none:=by
 have e':h.get? b=some o:=PySem.W.of_hideAll (trk h H) e;refine ⟨e',?_⟩;cases q:H b with
 | none=>rfl
 | some x=>
  have hm:b∈trk h H:=z2w.mpr ⟨z3c.mpr (z3y e'),by simp [q]⟩;have z:(hidT h H).get? b=none:=PySem.W.hideAll_none (trk h H) hm;rw [z] at e;cases e
structure Mod (K:xA) (mg:xE) (base:Heap):Prop where
 kin:K.In base
 glob:base.Ns mainGlobals mg
 blt:∃ mb,base.Ns builtinsNs mb/\∀ x:Str,x≠"__name__" ->mb x=bootBuiltins x
 nolimit:base.NoLimit
structure Cx where
 prog:Program
 w:World
 K:xA
 mg:Str ->Option Value
 base:Heap
 A:Around
 N:List Str
 s₀:Shared
 H₀:Hp
 env:Env
 outer:List Env
 stack:List Env
 ex:List Addr
 fn:Str ->Bool
 calm:Bool
 pn:List (Addr×Obj)
 xe:xB
def frs (l:List Env):List Addr:=l.filterMap (·.frame)
abbrev Cx.fs (X:Cx):List Addr:=frs X.outer
def Vis (sc:Scope) (x:Str):Prop:=sc.names.lookup x=some .local\/ sc.names.lookup x=some .cell\/ sc.names.lookup x=some .free
def Loc (sc:Scope) (x:Str):Prop:=sc.names.lookup x=some .local\/ sc.names.lookup x=some .cell
def Look (env:Env) (h:Heap) (m:xE) (x:Str) (u:Value):Prop:=
 (env.kindOf x=some .local/\m x=some u)\/ ((env.kindOf x=some .cell\/ env.kindOf x=some .free)/\∃ c,env.cells.lookup x=some c/\h.IsCell c (some u))
structure Cx.Ok (X:Cx):Prop where
 mod:Mod X.K X.mg X.base
 kind:X.env.scope.kind= .function
 glob:X.env.globals=mainGlobals
 blt:X.env.builtins=builtinsNs
 above:X.s₀.heap.objs.size<=X.env.locals
 inj:∀ x y c,X.env.cells.lookup x=some c ->X.env.cells.lookup y=some c ->x=y
 has:∀ x,(X.env.kindOf x=some .cell\/ X.env.kindOf x=some .free) ->∃ c,X.env.cells.lookup x=some c
 cab:∀ x c,X.fn x=true ->X.env.cells.lookup x=some c ->X.s₀.heap.objs.size<=c
 hd:X.calm=true ->X.A.handled=none
 frames:X.A.frames=some X.stack
 stk:X.stack=X.outer\/ (X.stack=X.env::X.outer/\X.env.frame=some X.env.locals)
 exf:∀ b∈X.ex,b≠X.env.locals/\∀ x c,X.env.cells.lookup x=some c ->c≠b
 bs:∀ b o,X.base.get? b=some o ->X.s₀.heap.get? b=some o/\X.H₀ b=none
 bsz:X.base.objs.size<=X.s₀.heap.objs.size
 noex:∀ b o,X.base.get? b=some o ->b∉X.ex
 exfs:∀ b∈X.ex,b∉X.fs
 funs:X.s₀.heap.FunFrames X.base X.outer
 frf:∀ b∈X.fs,X.H₀ b=none
structure Inv (X:Cx) (xC:xG) (σ:List (Option V)) (H:Hp) (s:Shared):Prop where
 ok:X.Ok
 os:s.os=X.s₀.os
 bare:AllBare s.gens
 base:Un X.fs X.ex X.H₀ H X.s₀.heap s.heap
 loc:∃ m,s.heap.Ns X.env.locals m/\∀ (i:Nat) (x:Str) (v:V),X.N[i]? =some x ->σ[i]? =some (some v) ->Vis X.env.scope x ->∃ u,RelV v u/\Look X.env s.heap m x u
 cell:∀ x c,X.env.cells.lookup x=some c ->∃ v,s.heap.IsCell c v
 free:H X.env.locals=none
 freeC:∀ x c,X.env.cells.lookup x=some c ->H c=none
 pin:∀ p∈X.pn++xC,s.heap.get? p.1=some p.2/\H p.1=none/\p.1≠X.env.locals/\p.1∉X.fs/\∀ v,p.2.data≠ .cell v
 hok:HOk X.prog X.w H s.heap
 len:σ.length=X.N.length
section
variable {X:Cx} {xC:xG} {σ:List (Option V)} {H H':Hp} {s:Shared} {h':Heap}
def Cx.Ok.nofr (ok:X.Ok) {b:Addr} {o:Obj} (e:X.base.get? b=some o):b∉X.fs:=λ hb=>by
 have:=(ok.funs.mem hb).1;rw [e] at this;cases this
theorem Inv.bs (I:Inv X xC σ H s):∀ b o,X.base.get? b=some o ->s.heap.get? b=some o/\H b=none:=λ b o e=>
 ⟨I.base.keep b o (I.ok.bs b o e).1 (I.ok.bs b o e).2 (I.ok.nofr e) (I.ok.noex b o e),I.base.free b o (I.ok.bs b o e).1 (I.ok.bs b o e).2 (I.ok.noex b o e)⟩
def Inv.bk (I:Inv X xC σ H s):∀ b o,X.base.get? b=some o ->s.heap.get? b=some o:=λ b o e=>(I.bs b o e).1
theorem Inv.mod (I:Inv X xC σ H s):Mod X.K X.mg X.base:=I.ok.mod
def Inv.kIn (I:Inv X xC σ H s):X.K.In s.heap:=I.ok.mod.kin.keeps I.bk
theorem Inv.lt (I:Inv X xC σ H s):X.env.locals < s.heap.objs.size:=let ⟨_,hn,_⟩:=I.loc;hn.lt
def Inv.sz (I:Inv X xC σ H s):X.s₀.heap.objs.size<=s.heap.objs.size:=z40 I.ok.above (z3x I.lt)
def Inv.nofs (I:Inv X xC σ H s) {a:Addr} (h:s.heap.objs.size<=a):a∉X.fs:=λ hb=>by
 obtain ⟨_,o,ho,_⟩:=I.ok.funs.mem hb;exact absurd (z1q (z3y ho) (z40 I.sz h)) (z3o _)
def Inv.cne (I:Inv X xC σ H s):∀ x c,X.env.cells.lookup x=some c ->c≠X.env.locals:=λ x c e z=>by
 obtain ⟨v,o,ho,hd⟩:=I.cell x c e;obtain ⟨m,⟨o',es,ep,O,J,_⟩,_⟩:=I.loc;rw [z,O] at ho;cases ho;rw [J] at hd;cases hd
theorem Inv.funs (I:Inv X xC σ H s):s.heap.FunFrames X.base X.outer:=by
 have all:∀ (l:List Env),(∀ b∈frs l,b∈X.fs) ->X.s₀.heap.FunFrames X.base l ->s.heap.FunFrames X.base l:=by
  intro l
  induction l with
  | nil=>intro _ _;trivial
  | cons env r ih=>
   intro O hl;obtain ⟨hk,⟨L,o,hf,hn,ho,hd⟩,hr⟩:=hl;have J:L∈X.fs:=O L (by unfold frs;rw [List.filterMap_cons,hf];exact z1o);obtain ⟨sl,e⟩:=I.base.slot L o ho (I.ok.frf L J) J λ z=>I.ok.exfs L z J;exact ⟨hk,⟨L,_,hf,hn,e,hd⟩,ih (λ b hb=>O b (by unfold frs;rw [List.filterMap_cons,hf];exact z15 _ hb)) hr⟩
 exact all X.outer (λ _ hb=>hb) I.ok.funs
theorem Inv.stack (I:Inv X xC σ H s):s.heap.FunFrames X.base X.stack:=by
 rcases I.ok.stk with e | ⟨e,hf⟩
 ·rw [e];exact I.funs
 ·rw [e];obtain ⟨m,hn,_⟩:=I.loc;refine .cons (by rw [I.ok.kind];decide) hf hn ?_ I.funs;exact Heap.get?_none_of_le (z40 I.ok.bsz I.ok.above)
def Inv.stkSub (I:Inv X xC σ H s):∀ b∈frs X.stack,b∈X.env.locals::X.fs:=λ b hb=>by
 rcases I.ok.stk with e | ⟨e,hf⟩
 ·rw [e] at hb;exact z15 _ hb
 ·rw [e] at hb;unfold frs at hb;rw [List.filterMap_cons,hf] at hb;exact hb
def Inv.stkFree (I:Inv X xC σ H s):∀ b∈frs X.stack,H b=none:=λ b hb=>by
 rcases z3m.mp (I.stkSub b hb) with e | hb
 ·rw [e];exact I.free
 ·obtain ⟨_,o,ho,_⟩:=I.ok.funs.mem hb;exact I.base.free b o ho (I.ok.frf b hb) λ z=>I.ok.exfs b z hb
def Inv.step {g':Array GenState} {t':Nat} {d':Drawn} {ch:List Addr} (I:Inv X xC σ H s)
  (O:∀ b∈ch,(b∈X.ex\/ X.s₀.heap.objs.size<=b)/\b≠X.env.locals/\(∀ x c,X.env.cells.lookup x=some c ->c≠b)/\∀ p∈X.pn++xC,p.1≠b)
  (keep:∀ b o,b≠X.env.locals ->b∉X.fs ->b∉ch ->s.heap.get? b=some o ->H b=none ->h'.get? b=some o)
  (slot:∀ b o,b≠X.env.locals ->b∈X.fs ->b∉ch ->s.heap.get? b=some o ->H b=none ->∃ sl,h'.get? b=some {o with slots:=sl}) (free:∀ b o,b∉ch ->s.heap.get? b=some o ->H b=none ->H' b=none)
  (there:∀ b o,b∉ch ->s.heap.get? b=some o ->∃ o',h'.get? b=some o')
  (tups:∀ b xs,H b=some (.tup xs) ->H' b=some (.tup xs)) (frzs:∀ b o u,H b=some (.frz o u) ->H' b=some (.frz o u)) (tbls:∀ b ps,H b=some (.tbl ps) ->∃ more,H' b=some (.tbl (ps++more)))
  (ns:∀ m,s.heap.Ns X.env.locals m ->h'.Ns X.env.locals m) (hok:HOk X.prog X.w H' h') (hg:AllBare g'):
  Inv X xC σ H' {s with heap:=h',gens:=g',drawn:=d',toks:=t'}:=by
 have a2:∀ b o,X.s₀.heap.get? b=some o ->b≠X.env.locals:=λ b o e=>z3z (z1q (z3y e) I.ok.above);have a1:∀ b o,X.s₀.heap.get? b=some o ->b∉X.ex ->b∉ch:=λ b o e hx hb=>by
  rcases (O b hb).1 with z | z
  ·exact hx z
  ·exact absurd (z1q (z3y e) z) (z3o _)
 have J:∀ x c,X.env.cells.lookup x=some c ->∀ v,s.heap.IsCell c v ->h'.IsCell c v:=λ x c e v ⟨o,ho,hd⟩=>by
  have Z:c∉ch:=λ z=>(O c z).2.2.1 x c e rfl;by_cases hc:c∈X.fs
  ·obtain ⟨sl,q⟩:=slot c o (I.cne x c e) hc Z ho (I.freeC x c e);exact ⟨_,q,hd⟩
  ·exact ⟨o,keep c o (I.cne x c e) hc Z ho (I.freeC x c e),hd⟩
 refine ⟨I.ok,I.os,hg,⟨λ b o e n hb hx=> ?_,λ b o e n hb hx=> ?_,λ b o e n hx=> ?_,λ b o e hx=> ?_,λ b xs e=>tups b xs (I.base.tups b xs e),λ b o xs e=>frzs b o xs (I.base.frzs b o xs e),λ b ps e=> ?_⟩,?_,λ x c e=> ?_,?_,λ x c e=> ?_,λ p hp=> ?_,hok,I.len⟩
 ·exact keep b o (a2 b o e) hb (a1 b o e hx) (I.base.keep b o e n hb hx) (I.base.free b o e n hx)
 ·obtain ⟨sl,e1⟩:=I.base.slot b o e n hb hx;obtain ⟨a3,e2⟩:=slot b _ (a2 b o e) hb (a1 b o e hx) e1 (I.base.free b o e n hx);exact ⟨a3,e2⟩
 ·obtain ⟨o',e1⟩:=I.base.there b o e hx;exact free b o' (a1 b o e hx) e1 (I.base.free b o e n hx)
 ·obtain ⟨o',e1⟩:=I.base.there b o e hx;exact there b o' (a1 b o e hx) e1
 ·obtain ⟨m1,e1⟩:=I.base.tbls b ps e;obtain ⟨m2,e2⟩:=tbls b _ e1;exact ⟨m1++m2,by rw [e2,Array.append_assoc]⟩
 ·obtain ⟨m,hn,hl⟩:=I.loc;refine ⟨m,ns m hn,λ i x v e1 e2 e3=> ?_⟩;obtain ⟨u,r,l⟩:=hl i x v e1 e2 e3;refine ⟨u,r,?_⟩;rcases l with l | ⟨k,c,e,z⟩
  ·exact .inl l
  ·exact .inr ⟨k,c,e,J x c e _ z⟩
 ·obtain ⟨v,z⟩:=I.cell x c e;exact ⟨v,J x c e v z⟩
 ·obtain ⟨m,⟨o,_,_,ho,_⟩,_⟩:=I.loc;exact free _ o (λ z=>(O _ z).2.1 rfl) ho I.free
 ·obtain ⟨v,o,ho,hd⟩:=I.cell x c e;exact free c o (λ z=>(O c z).2.2.1 x c e rfl) ho (I.freeC x c e)
 ·obtain ⟨e,n,ne,nf,d⟩:=I.pin p hp;have Z:p.1∉ch:=λ z=>(O p.1 z).2.2.2 p hp rfl;exact ⟨keep p.1 p.2 ne nf Z e n,free p.1 p.2 Z e n,ne,nf,d⟩
def Inv.un {t':Nat} (I:Inv X xC σ H s) (u:Un X.fs [] H H' s.heap h') (hok:HOk X.prog X.w H' h'):Inv X xC σ H' {s with heap:=h',toks:=t'}:=by
 obtain ⟨m,⟨o,es,ep,ho,r⟩,_⟩:=id I.loc;obtain ⟨sl,hL⟩:=u.any ho I.free (by simp);exact I.step (g':=s.gens) (d':=s.drawn) (ch:=[]) (λ _ z=>nomatch z) (λ b o _ hb _ e n=>u.keep b o e n hb (by simp)) (λ b o _ hb _ e n=>u.slot b o e n hb (by simp)) (λ b o _ e n=>u.free b o e n (by simp)) (λ b o _ e=>u.there b o e (by simp)) u.tups u.frzs u.tbls (λ m' hm=>by
  obtain ⟨o',Z,O,J,r'⟩:=hm;rw [ho] at J;cases J;exact ⟨_,Z,O,hL,r'⟩) hok I.bare
def Inv.call {g':Array GenState} {t':Nat} {d':Drawn} {ch:List Addr} (I:Inv X xC σ H s) (u:Un (frs X.stack) ch H H' s.heap h') (hok:HOk X.prog X.w H' h') (hg:AllBare g')
  (O:∀ b∈ch,(b∈X.ex\/ X.s₀.heap.objs.size<=b)/\b≠X.env.locals/\(∀ x c,X.env.cells.lookup x=some c ->c≠b)/\∀ p∈X.pn++xC,p.1≠b):
  Inv X xC σ H' {s with heap:=h',gens:=g',drawn:=d',toks:=t'}:=by
 obtain ⟨m,⟨o,es,ep,ho,r⟩,_⟩:=id I.loc;obtain ⟨sl,hL⟩:=u.any ho I.free λ z=>(O _ z).2.1 rfl;exact I.step (ch:=ch) O (λ b o hL hb J e n=>u.keep b o e n (λ z=>(z3m.mp (I.stkSub b z)).elim hL hb) J) (λ b o _ _ J e n=>u.any e n J) (λ b o J e n=>u.free b o e n J) (λ b o J e=>u.there b o e J) u.tups u.frzs u.tbls (λ m' hm=>by
  obtain ⟨o',a2,a1,Z,r'⟩:=hm;rw [ho] at Z;cases Z;exact ⟨_,a2,a1,hL,r'⟩) hok hg
def Inv.turned {t':Nat} {it:Addr} (I:Inv X xC σ H s) (k:∀ b o,b≠it ->s.heap.get? b=some o ->h'.get? b=some o) (hn:H it=none) (Z:it≠X.env.locals)
  (h1:it∈X.ex\/ X.s₀.heap.objs.size<=it) (h2:∀ x c,X.env.cells.lookup x=some c ->c≠it) (h3:∀ p∈X.pn++xC,p.1≠it):Inv X xC σ H {s with heap:=h',toks:=t'}:=by
 have O:∀ b u,H b=some u ->b≠it:=λ b u e z=>by rw [z,hn] at e;cases e
 refine I.step (g':=s.gens) (d':=s.drawn) (ch:=[it]) (λ b hb=> ?_) (λ b o _ _ J e _=>k b o (λ z=>J (by simp [z])) e) (λ b o _ _ J e _=>⟨o.slots,k b o (λ z=>J (by simp [z])) e⟩) (λ _ _ _ _ n=>n)
  (λ b o J e=>⟨o,k b o (λ z=>J (by simp [z])) e⟩) (λ _ _ e=>e) (λ _ _ _ e=>e) (λ b ps e=>⟨#[],by rw [e];simp⟩) (λ m hm=> ?_) (λ b u e=> ?_) I.bare
 ·have e:b=it:=by simpa using hb
  subst e;exact ⟨h1,Z,h2,h3⟩
 ·obtain ⟨o,es,ep,ho,r⟩:=hm;exact ⟨o,es,ep,k _ o (Ne.symm Z) ho,r⟩
 ·refine (I.hok b u e).stay (λ c v J q=>k c v ?_ q) (λ _ q=>q) λ _ _ q=>q;rcases J with z | z
  ·rw [z];exact O b u e
  ·exact O c _ z
def Inv.tok (I:Inv X xC σ H s) (t:Nat):Inv X xC σ H {s with toks:=t}:=I.un (h':=s.heap) (t':=t) Un.refl I.hok
theorem Inv.kept {t':Nat} (I:Inv X xC σ H s) (k:∀ b u,s.heap.get? b=some u ->h'.get? b=some u):Inv X xC σ H {s with heap:=h',toks:=t'}:=I.un (Un.kept k) (I.hok.kept k)
theorem Inv.laid {a:Addr} {o:HO} {t':Nat} (I:Inv X xC σ H s) (k:∀ b u,s.heap.get? b=some u ->h'.get? b=some u) (J:s.heap.objs.size<=a) (new:ObjOk X.prog X.w (upd H a o) h' a o):
  Inv X xC σ (upd H a o) {s with heap:=h',toks:=t'}:=I.un (Un.laid k J (I.hok.fresh J)) (I.hok.laid k J new)
theorem Inv.write {x e:Addr} {o:HO} {t':Nat} (I:Inv X xC σ H s) (mu:Mut (H x)) (O:e=x\/ H e=some (.own x)) (k:∀ b u,b≠e ->s.heap.get? b=some u ->h'.get? b=some u) (J:∃ u,h'.get? e=some u)
  (new:ObjOk X.prog X.w (upd H x o) h' x o):Inv X xC σ (upd H x o) {s with heap:=h',toks:=t'}:=I.un (Un.write mu O k J) (I.hok.write mu O k J new)
def Inv.qnc {pins':xG} (I:Inv X xC σ H s) (h:∀ p∈pins',s.heap.get? p.1=some p.2/\H p.1=none/\p.1≠X.env.locals/\p.1∉X.fs/\∀ v,p.2.data≠ .cell v):Inv X pins' σ H s:=
 ⟨I.ok,I.os,I.bare,I.base,I.loc,I.cell,I.free,I.freeC,λ p hp=>(z2t.mp hp).elim (λ z=>I.pin p (z16 _ z)) (h p),I.hok,I.len⟩
def qcz {N:xD} (hN:N.Nodup) {i j:Nat} {x:Str} (a:N[i]? =some x) (b:N[j]? =some x):i=j:=by
 obtain ⟨h1,e1⟩:=z07.mp a;obtain ⟨h2,e2⟩:=z07.mp b;exact (List.getElem_inj hN).mp (e1.trans e2.symm)
def qq6 {M:Model} {A:Around} {E:xB} {i:Nat} {x:Str} {v:V} {u:Value} {Q:Unit ->Shared ->Prop} (I:Inv X xC σ H s) (hN:X.N.Nodup) (hi:X.N[i]? =some x) (hx:Loc X.env.scope x) (r:RelV v u)
    (h:∀ s',Inv X xC (σ.set i (some v)) H s' ->(∃ a,Heap.SameBut a s.heap s'.heap/\(a=X.env.locals\/ X.env.cells.lookup x=some a)) ->Q () s') (hf:X.fn x=true\/ X.env.scope.names.lookup x=some .local:=by first | exact .inl rfl | exact .inr rfl | assumption):wpAny M A (storeName X.env x u) Q E s:=by
  obtain ⟨m,hn,hl⟩:=id I.loc;have a5:(X.env.scope.kind== .class || (X.env.scope.kind== .module&&X.env.locals !=X.env.globals))=false:=by rw [I.ok.kind];rfl
  have a6:i < σ.length:=by rw [I.len];exact (z07.mp hi).1
  have cne:=I.cne;have O:∀ {a:Addr} {h':Heap},(∃ o,s.heap.get? a=some o/\H a=none) ->Heap.SameBut a s.heap h' ->HOk X.prog X.w H h':=λ {a h'} ha J b ob e=>by
    obtain ⟨_,_,a1⟩:=ha;refine (I.hok b ob e).stay (λ c w' Z q=>(J.2 c ?_).trans q) (λ _ q=>q) λ _ _ q=>q;rintro rfl;rcases Z with rfl | Z
    · rw [a1] at e;cases e
    · rw [a1] at Z;cases Z
  rcases hx with hk | hk
  · refine wpAny_storeName_local hk hn (λ h' a9 J=> ?_) a5
    obtain ⟨oL,_,_,b2,_⟩:=id hn;refine h _ ⟨I.ok,I.os,I.bare,⟨λ b o e n hb hx=> ?_,λ b o e n hb hx=> ?_,I.base.free,λ b o e hx=> ?_,I.base.tups,I.base.frzs,I.base.tbls⟩,⟨_,a9,λ j y v' e1 e2 e3=> ?_⟩,λ y c e=> ?_,I.free,I.freeC,λ p hp=> ?_,O ⟨oL,b2,I.free⟩ J,by simpa using I.len⟩ ⟨_,J,.inl rfl⟩
    · exact (J.2 b (z3z (z1q (z3y e) I.ok.above))).trans (I.base.keep b o e n hb hx)
    · obtain ⟨sl,e1⟩:=I.base.slot b o e n hb hx
      exact ⟨sl,(J.2 b (z3z (z1q (z3y e) I.ok.above))).trans e1⟩
    · obtain ⟨o',e1⟩:=I.base.there b o e hx
      exact ⟨o',(J.2 b (z3z (z1q (z3y e) I.ok.above))).trans e1⟩
    · by_cases hj:j=i
      · subst hj
        rw [hi] at e1;cases e1;rw [List.getElem?_set_self a6] at e2;cases e2
        exact ⟨u,r,.inl ⟨hk,by simp⟩⟩
      · rw [List.getElem?_set_ne (Ne.symm hj)] at e2
        obtain ⟨u',r',q⟩:=hl j y v' e1 e2 e3;refine ⟨u',r',?_⟩;rcases q with ⟨k,e⟩ | ⟨k,c,e,z⟩
        · refine .inl ⟨k,?_⟩
          have:y≠x:=λ e=>hj (qcz hN e1 (e ▸ hi));simp [this,e]
        · exact .inr ⟨k,c,e,z.sameBut J (cne y c e)⟩
    · obtain ⟨w',z⟩:=I.cell y c e
      exact ⟨w',z.sameBut J (cne y c e)⟩
    · obtain ⟨e,n,ne,nf,d⟩:=I.pin p hp
      exact ⟨(J.2 p.1 ne).trans e,n,ne,nf,d⟩
  · have a2:X.fn x=true:=by
      rcases hf with z | z
      · exact z
      · rw [z] at hk;cases hk
    obtain ⟨c,Z⟩:=I.ok.has x (.inl hk);obtain ⟨w',z⟩:=I.cell x c Z;refine wpAny_storeName_cell I.ok.kind hk Z z (λ h' a3 J=> ?_);obtain ⟨oc,a7,a8⟩:=id z;refine h {s with heap:=h'} ⟨I.ok,I.os,I.bare,⟨λ b o e n hb hx=> ?_,λ b o e n hb hx=> ?_,I.base.free,λ b o e hx=> ?_,I.base.tups,I.base.frzs,I.base.tbls⟩,⟨m,hn.sameBut J (Ne.symm (cne x c Z)),λ j y v' e1 e2 e3=> ?_⟩,λ y c' e=> ?_,I.free,I.freeC,λ p hp=> ?_,O ⟨oc,a7,I.freeC x c Z⟩ J,by simpa using I.len⟩ ⟨c,J,.inr Z⟩
    · exact (J.2 b (z3z (z1q (z3y e) (I.ok.cab x c a2 Z)))).trans (I.base.keep b o e n hb hx)
    · obtain ⟨sl,e1⟩:=I.base.slot b o e n hb hx
      exact ⟨sl,(J.2 b (z3z (z1q (z3y e) (I.ok.cab x c a2 Z)))).trans e1⟩
    · obtain ⟨o',e1⟩:=I.base.there b o e hx
      exact ⟨o',(J.2 b (z3z (z1q (z3y e) (I.ok.cab x c a2 Z)))).trans e1⟩
    · by_cases hj:j=i
      · subst hj
        rw [hi] at e1;cases e1;rw [List.getElem?_set_self a6] at e2;cases e2
        exact ⟨u,r,.inr ⟨.inl hk,c,Z,a3⟩⟩
      · rw [List.getElem?_set_ne (Ne.symm hj)] at e2
        obtain ⟨u',r',q⟩:=hl j y v' e1 e2 e3;refine ⟨u',r',?_⟩;rcases q with q | ⟨k,c',e,z'⟩
        · exact .inl q
        · refine .inr ⟨k,c',e,z'.sameBut J ?_⟩
          rintro rfl;exact hj (qcz hN e1 (I.ok.inj _ _ _ e Z ▸ hi))
    · by_cases a4:c'=c
      · subst a4;exact ⟨_,a3⟩
      · obtain ⟨w2,z2⟩:=I.cell y c' e
        exact ⟨w2,z2.sameBut J a4⟩
    · obtain ⟨e,n,ne,nf,d⟩:=I.pin p hp
      refine ⟨(J.2 p.1 ?_).trans e,n,ne,nf,d⟩;intro q;rw [q,a7] at e;have q':oc=p.2:=Option.some.inj e;exact d w' (by rw [<- q'];exact a8)
def q94 {M:Model} {A:Around} {E:xB} {i:Nat} {x:Str} {v:V} {u:Value} {Q:Unit ->Shared ->Prop} (I:Inv X xC σ H s) (hN:X.N.Nodup) (hi:X.N[i]? =some x) (hx:Loc X.env.scope x) (r:RelV v u)
  (h:∀ s',Inv X xC (σ.set i (some v)) H s' ->Q () s') (hf:X.fn x=true\/ X.env.scope.names.lookup x=some .local:=by first | exact .inl rfl | exact .inr rfl | assumption):wpAny M A (storeName X.env x u) Q E s:=
 qq6 I hN hi hx r (λ s' I' _=>h s' I') hf
def Inv.call' {s':Shared} {ch:List Addr} (I:Inv X xC σ H s) (ho:s'.os=s.os) (u:Un (frs X.stack) ch H H' s.heap s'.heap) (hok:HOk X.prog X.w H' s'.heap) (hg:AllBare s'.gens)
  (J:∀ b∈ch,(b∈X.ex\/ X.s₀.heap.objs.size<=b)/\b≠X.env.locals/\(∀ x c,X.env.cells.lookup x=some c ->c≠b)/\∀ p∈X.pn++xC,p.1≠b):Inv X xC σ H' s':=by
 obtain ⟨h',g',d',t',o'⟩:=s';have e:o'=s.os:=ho;subst e;exact I.call (g':=g') (t':=t') (d':=d') u hok hg J
end
abbrev XK:=Value ->Option Addr ->Hp ->Prop
abbrev St:=List (Option V)
abbrev VK:=V ->Hp ->Prop
abbrev TE:=St ->Hp ->VK ->Prop
abbrev TT:=St ->Hp ->(Bool ->Hp ->Prop) ->Prop
abbrev TA:=St ->Hp ->(List V ->Hp ->Prop) ->Prop
structure Ends where
 nx:St ->Hp ->Prop
 rt:VK
 bk:St ->Hp ->Prop:=λ _ _=>False
 ct:St ->Hp ->Prop:=λ _ _=>False
abbrev TS:=Ends ->St ->Hp ->Prop
def EP (X:Cx) (xC:xG) (σ:St) (Q:VK) (u:Value) (s':Shared):Prop:=∃ v H',Inv X xC σ H' s'/\RelV v u/\Q v H'
def TP (X:Cx) (xC:xG) (σ:St) (Q:Bool ->Hp ->Prop) (b:Bool) (s':Shared):Prop:=∃ H',Inv X xC σ H' s'/\Q b H'
def AP (X:Cx) (xC:xG) (σ:St) (Q:List V ->Hp ->Prop) (us:xH) (s':Shared):Prop:=∃ vs H',Inv X xC σ H' s'/\Vals vs us/\Q vs H'
def SP (X:Cx) (xC:xG) (D:Ends) (f:Flow) (s':Shared):Prop:=
 match f with
 | .next=>∃ σ' H',Inv X xC σ' H' s'/\D.nx σ' H'
 | .brk=>∃ σ' H',Inv X xC σ' H' s'/\D.bk σ' H'
 | .cont=>∃ σ' H',Inv X xC σ' H' s'/\D.ct σ' H'
 | .ret u=>∃ v σ' H',Inv X xC σ' H' s'/\RelV v u/\D.rt v H'
def PE (X:Cx) (e:Expr) (t:TE):Prop:=
 ∀ (xC:xG) (s:Shared) (σ:St) (H:Hp) (Q:VK),Inv X xC σ H s ->t σ H Q ->wpAny (model X.prog X.w) X.A (eval e X.env) (EP X xC σ Q) X.xe s
def PT (X:Cx) (e:Expr) (t:TT):Prop:=
 ∀ (xC:xG) (s:Shared) (σ:St) (H:Hp) (Q:Bool ->Hp ->Prop),Inv X xC σ H s ->t σ H Q ->wpAny (model X.prog X.w) X.A (isTrue e X.env (eval e X.env)) (TP X xC σ Q) X.xe s
def PW (X:Cx) (e:Expr) (t:TT):Prop:=
 ∀ (whole:Sem Value) (xC:xG) (s:Shared) (σ:St) (H:Hp) (Q:Bool ->Hp ->Prop),Inv X xC σ H s ->t σ H Q ->wpAny (model X.prog X.w) X.A (isTrue e X.env whole) (TP X xC σ Q) X.xe s
def PW.pt {X:Cx} {e:Expr} {t:TT} (h:PW X e t):PT X e t:=h _
def PA (X:Cx) (es:List Expr) (t:TA):Prop:=
 ∀ (pos:Pos) (xC:xG) (s:Shared) (σ:St) (H:Hp) (Q:List V ->Hp ->Prop),Inv X xC σ H s ->t σ H Q ->wpAny (model X.prog X.w) X.A (spliced (backTo pos (starEach es X.env))) (AP X xC σ Q) X.xe s
def PS (X:Cx) (st:Stmt) (t:TS):Prop:=
 ∀ (xC:xG) (s:Shared) (σ:St) (H:Hp) (D:Ends),Inv X xC σ H s ->t D σ H ->wpAny (model X.prog X.w) X.A (exec st X.env) (SP X xC D) X.xe s
def PSs (X:Cx) (st:List Stmt) (t:TS):Prop:=
 ∀ (xC:xG) (s:Shared) (σ:St) (H:Hp) (D:Ends),Inv X xC σ H s ->t D σ H ->wpAny (model X.prog X.w) X.A (execs st X.env) (SP X xC D) X.xe s
def thn {α:Type} {t:Sem α} {Q J:α ->Shared ->Prop} {M:Model} {A:Around} {E:xB} {s:Shared} (h:wpAny M A t Q E s) (hQ:∀ a s,Q a s ->J a s):wpAny M A t J E s:=z4f h hQ λ _ _ x=>x
section
variable {X:Cx}
def tVar (i:Nat):TE:=λ σ H Q=>∃ v,σ[i]? =some (some v)/\Q v H
def tC (v:V):TE:=λ _ H Q=>Q v H
def qy8 {i:Nat} {x:Str} {pos:Pos} (hN:X.N[i]? =some x) (hv:Vis X.env.scope x) (hd:(x==("__debug__":Str))=false:=by decide) (O:(x==("__classdict__":Str))=false:=by decide):PE X (.Name x pos) (tVar i):=by
 intro xC s σ H Q I h;obtain ⟨v,e,h⟩:=h;obtain ⟨m,hn,hl⟩:=I.loc;obtain ⟨u,r,l⟩:=hl i x v hN e hv;have fin:EP X xC σ Q u s:=⟨v,H,I,r,h⟩;rcases l with ⟨hk,hm⟩ | ⟨hk,c,Z,J⟩
 ·exact wpAny_Name (wpAny_loadName_local I.ok.kind hk hn hm fin) hd
 ·rcases hk with hk | hk
  ·exact wpAny_Name (wpAny_loadName_cell I.ok.kind hk Z J fin) hd
  ·exact wpAny_Name (wpAny_loadName_free I.ok.kind hk Z J fin O) hd
def qc {i j pos}:PE X (.Constant (.int i) j pos) (tC (.int i)):=λ _ _ _ H _ I h=>wpAny_Constant_int ⟨.int i,H,I.tok _,⟨_,rfl⟩,h⟩
def q25 {b j pos}:PE X (.Constant (.bool b) j pos) (tC (.bl b)):=λ _ _ _ H _ I h=>Constant_bool ⟨.bl b,H,I,rfl,h⟩
def q2k {j pos}:PE X (.Constant .none j pos) (tC .non):=λ _ _ _ H _ I h=>Constant_none ⟨.non,H,I,rfl,h⟩
def q50 {x j pos}:PE X (.Constant (.str x) j pos) (tC (.str x)):=λ _ _ _ H _ I h=>Calls.Constant_str ⟨.str x,H,I.tok _,⟨_,rfl⟩,h⟩
def Gl (X:Cx) (x:Str):Prop:=X.env.kindOf x=some .globalImplicit
def q4v {E:xB} {xC:xG} {s:Shared} {σ:St} {H:Hp} {x:Str} {u:Value} {pos:Pos} {Q:xB} (I:Inv X xC σ H s) (hg:Gl X x) (hm:X.mg x=some u) (h:Q u s)
  (hd:(x==("__debug__":Str))=false:=by decide):wpAny (model X.prog X.w) X.A (eval (.Name x pos) X.env) Q E s:=
 Calls.Name_function_global I.ok.kind hg (Calls.loadGlobal_global (by rw [I.ok.glob];exact I.mod.glob.keeps I.bk) hm h) hd
def qe9 {E:xB} {xC:xG} {s:Shared} {σ:St} {H:Hp} {x:Str} {u:Value} {pos:Pos} {Q:xB} (I:Inv X xC σ H s) (hg:Gl X x) (hm:X.mg x=none) (hv:bootBuiltins x=some u) (h:Q u s)
  (hn:x≠"__name__":=by decide) (hd:(x==("__debug__":Str))=false:=by decide):wpAny (model X.prog X.w) X.A (eval (.Name x pos) X.env) Q E s:=by
 obtain ⟨mb,h1,h2⟩:=I.mod.blt;exact Calls.Name_function_global I.ok.kind hg (Calls.loadGlobal_builtin (by rw [I.ok.glob];exact I.mod.glob.keeps I.bk) hm (by rw [I.ok.blt];exact h1.keeps I.bk) ((h2 x hn).trans hv) h) hd
def qfw {x:Str} {v:V} {u:Value} {pos:Pos} (hg:Gl X x) (hm:X.mg x=some u) (r:RelV v u) (hd:(x==("__debug__":Str))=false:=by decide):PE X (.Name x pos) (tC v):=
 λ _ _ _ H _ I h=>q4v I hg hm ⟨v,H,I,r,h⟩ hd
def qvz {x:Str} {v:V} {u:Value} {pos:Pos} (hg:Gl X x) (hm:X.mg x=none) (hv:bootBuiltins x=some u) (r:RelV v u) (hn:x≠"__name__":=by decide) (hd:(x==("__debug__":Str))=false:=by decide):PE X (.Name x pos) (tC v):=
 λ _ _ _ H _ I h=>qe9 I hg hm hv ⟨v,H,I,r,h⟩ hn hd
variable {a b:Expr} {ta tb:TE} {pos:Pos}
def PC (X:Cx) (op:CmpOp) (a b:Expr) (t:TE):Prop:=
 ∀ (xC:xG) (s:Shared) (σ:St) (H:Hp) (Q:VK),Inv X xC σ H s ->t σ H Q ->
  wpAny (model X.prog X.w) X.A (eval a X.env) (λ v s₁=>wpAny (model X.prog X.w) X.A (eval b X.env) (λ u s₂=>wpAny (model X.prog X.w) X.A (compareOp op v u) (EP X xC σ Q) X.xe s₂) X.xe s₁) X.xe s
def tB (t:TE):TT:=λ σ H Q=>t σ H λ x H1=>∃ c,x= .bl c/\Q c H1
def qea {op:CmpOp} {t:TE} (h:PC X op a b t) (h1:behindInMarks op b=false:=by first | exact nobehind _ (by decide) (by decide) | rfl):PT X (.Compare a [op] [b] pos) (tB t):=by
 intro xC s σ H Q I hw;refine wpAny_isTrue_Compare1 (thn (h xC s σ H _ I hw) λ v s1 h1=>thn h1 λ u s2 h2=>thn h2 λ c s3 J=> ?_) h1;obtain ⟨x,H1,I1,r1,q1⟩:=J;obtain ⟨d,rfl,q⟩:=q1;cases r1
 exact z23 ⟨H1,I1,q⟩
def q3x {e:Expr} {t:TE} (h:PE X e t) (he:∀ J,isTrue e X.env J=(do let v <- J;standAt e.pos;holding [v] (truthy v)):=by intro _;rfl):PT X e (tB t):=by
 intro xC s σ H Q I hw;refine isTrue_plain (thn (h xC s σ H _ I hw) λ v s1 O=> ?_) (he _);obtain ⟨x,H1,I1,r1,q1⟩:=O;obtain ⟨d,rfl,q⟩:=q1;cases r1
 exact z23 ⟨H1,I1,q⟩
variable {tA tB':TT} {rest:List Expr}
def tAnd (t u:TT):TT:=λ σ H Q=>t σ H λ c H1=>if c=true then u σ H1 Q else Q false H1
def tOr (t u:TT):TT:=λ σ H Q=>t σ H λ c H1=>if c=true then Q true H1 else u σ H1 Q
def tNot (t:TT):TT:=λ σ H Q=>t σ H λ c H1=>Q (!c) H1
def q8n (ha:PT X a tA):PW X (.BoolOp .And [a] pos) tA:=by
 intro wh xC s σ H Q I h;refine isTrue_and (thn (ha xC s σ H Q I h) λ c s1 e=> ?_);cases c with
 | true=>exact isTrue_and_nil e
 | false=>exact e
def q68 (ha:PT X a tA):PW X (.BoolOp .Or [a] pos) tA:=by
 intro wh xC s σ H Q I h;refine isTrue_or (thn (ha xC s σ H Q I h) λ c s1 e=> ?_);cases c with
 | false=>exact isTrue_or_nil e
 | true=>exact e
def qai (ha:PT X a tA) (hb:PW X (.BoolOp .And (b::rest) pos) tB'):PW X (.BoolOp .And (a::b::rest) pos) (tAnd tA tB'):=by
 intro wh xC s σ H Q I h;refine isTrue_and (thn (ha xC s σ H _ I h) λ c s1 J=> ?_);obtain ⟨H1,I1,q1⟩:=J;cases c with
 | true=>exact hb wh xC s1 σ H1 Q I1 q1
 | false=>exact ⟨H1,I1,q1⟩
def q86 (ha:PT X a tA) (hb:PW X (.BoolOp .Or (b::rest) pos) tB'):PW X (.BoolOp .Or (a::b::rest) pos) (tOr tA tB'):=by
 intro wh xC s σ H Q I h;refine isTrue_or (thn (ha xC s σ H _ I h) λ c s1 J=> ?_);obtain ⟨H1,I1,q1⟩:=J;cases c with
 | true=>exact ⟨H1,I1,q1⟩
 | false=>exact hb wh xC s1 σ H1 Q I1 q1
def q3k (ha:PT X a tA):PT X (.UnaryOp .Not a pos) (tNot tA):=by
 intro xC s σ H Q I h;exact isTrue_not (ha xC s σ H (λ c H1=>Q (!c) H1) I h)
def q10b (ta tb:TE):TE:=λ σ H Q=>ta σ H λ x H1=>∃ c,x= .bl c/\if c=true then tb σ H1 Q else Q (.bl false) H1
def tOrV (ta tb:TE):TE:=λ σ H Q=>ta σ H λ x H1=>∃ c,x= .bl c/\if c=true then Q (.bl true) H1 else tb σ H1 Q
def q10c (ta:TE):TE:=λ σ H Q=>ta σ H λ x H1=>∃ c,x= .bl c/\Q (.bl (!c)) H1
def q51 {op} {t:TE} (h:PE X a t):PE X (.BoolOp op [a] pos) t:=λ xC s σ H Q I hw=>BoolOp_one (h xC s σ H Q I hw)
def q7a (ha:PE X a ta) (hb:PE X (.BoolOp .And (b::rest) pos) tb):PE X (.BoolOp .And (a::b::rest) pos) (q10b ta tb):=by
 intro xC s σ H Q I h;refine BoolOp_and (thn (ha xC s σ H _ I h) λ v s1 J=> ?_);obtain ⟨x,H1,I1,r1,q1⟩:=J;obtain ⟨c,rfl,q1⟩:=q1;cases r1
 refine z23 ?_;cases c with
 | true=>exact hb xC s1 σ H1 Q I1 q1
 | false=>exact ⟨.bl false,H1,I1,rfl,q1⟩
def qv7 (ha:PE X a ta) (hb:PE X (.BoolOp .Or (b::rest) pos) tb):PE X (.BoolOp .Or (a::b::rest) pos) (tOrV ta tb):=by
 intro xC s σ H Q I h;refine BoolOp_or (thn (ha xC s σ H _ I h) λ v s1 J=> ?_);obtain ⟨x,H1,I1,r1,q1⟩:=J;obtain ⟨c,rfl,q1⟩:=q1;cases r1
 refine z23 ?_;cases c with
 | false=>exact hb xC s1 σ H1 Q I1 q1
 | true=>exact ⟨.bl true,H1,I1,rfl,q1⟩
def qy9 (ha:PE X a ta):PE X (.UnaryOp .Not a pos) (q10c ta):=by
 intro xC s σ H Q I h;refine UnaryOp_ (thn (ha xC s σ H _ I h) λ v s1 J=> ?_);obtain ⟨x,H1,I1,r1,q1⟩:=J;obtain ⟨c,rfl,q1⟩:=q1;cases r1
 exact not_of (z23 ⟨.bl (!c),H1,I1,zr,q1⟩)
end
def SqL (K:xA) (H:Hp) (a:Addr) (xs:List V):Prop:=
 Rd H a (.lst xs)\/
  ∃ (o:Obj) (its:Array Value) (n:Nat),K.lookup a=some o/\o.cls= .type "list"/\o.dict=none/\o.data= .seq its n/\its.size<=sizeLine/\Vals xs its.toList
def SqT (K:xA) (H:Hp) (a:Addr) (xs:List V):Prop:=
 Rd H a (.tup xs)\/
  ∃ (o:Obj) (its:Array Value) (n:Nat),K.lookup a=some o/\o.cls= .type "tuple"/\o.data= .seq its n/\its.size<=sizeLine/\Vals xs its.toList
def absV:Value ->Option V
 | .none=>some .non
 | .bool b=>some (.bl b)
 | .int i _=>some (.int i)
 | .str x _=>some (.str x)
 | .bytes b _=>some (.byt b)
 | .float b _=>some (.flt b)
 | .ref a=>some (.ref a)
 | .type n=>some (.ty n)
 | _=>none
def RelV.abs {x:V} {u:Value} (r:RelV x u):absV u=some x:=by
 cases x with
 | non=>cases r;rfl
 | bl _=>cases r;rfl
 | int _=>obtain ⟨t,rfl⟩:=r;rfl
 | str _=>obtain ⟨t,rfl⟩:=r;rfl
 | byt _=>obtain ⟨t,rfl⟩:=r;rfl
 | flt _=>obtain ⟨t,rfl⟩:=r;rfl
 | ref _=>cases r;rfl
 | ty _=>cases r;rfl
theorem RelV.inj {x y:V} {u:Value} (r:RelV x u) (q:RelV y u):x=y:=Option.some.inj (r.abs.symm.trans q.abs)
theorem Vals.inj:∀ {xs ys:List V} {us:xH},Vals xs us ->Vals ys us ->xs=ys
 | _,_,_,.nil,.nil=>rfl
 | _,_,_,.cons r t,.cons r' t'=>by rw [r.inj r',Vals.inj t t']
section
variable {X:Cx} {xC:xG} {σ:St} {H:Hp} {s:Shared} {a:Addr} {xs ys:List V}
def SqL.of {K:xA} (h:H a=some (.lst xs)):SqL K H a xs:= .inl (.inl h)
def SqT.of {K:xA} (h:H a=some (.tup xs)):SqT K H a xs:= .inl (.inl h)
def Inv.list (I:Inv X xC σ H s) (h:SqL X.K H a xs):∃ its:List Value,Vals xs its/\PlainL s.heap a its.toArray/\xs.length<=sizeLine:=by
 rcases h with h | ⟨o,its,n,hk,hc,hd,hs,hz,r⟩
 ·obtain ⟨z,its,n,r,e⟩:=h.ok I.hok;exact ⟨its,r,⟨_,n,e,zr,zr,zr⟩,z⟩
 ·refine ⟨its.toList,r,⟨o,n,I.kIn a o hk,hc,hd,by simpa using hs⟩,?_⟩;have e:=r.length;simp only [z18] at e
  lia
def Inv.tuple (I:Inv X xC σ H s) (h:SqT X.K H a xs):∃ its:List Value,Vals xs its/\IsTup s.heap a its.toArray/\xs.length<=sizeLine:=by
 rcases h with h | ⟨o,its,n,hk,hc,hs,hz,r⟩
 ·obtain ⟨z,its,r,p⟩:=h.ok I.hok;exact ⟨its,r,p,z⟩
 ·refine ⟨its.toList,r,⟨o,I.kIn a o hk,hc,n,by simpa using hs⟩,?_⟩;have e:=r.length;simp only [z18] at e
  lia
def Inv.qss (I:Inv X xC σ H s) (h:SqL X.K H a xs) (h':SqL X.K H a ys):xs=ys:=by
 obtain ⟨its,r,⟨o,n,e,_,_,d⟩,_⟩:=I.list h;obtain ⟨its',r',⟨o',n',e',_,_,d'⟩,_⟩:=I.list h';rw [e] at e';cases e';rw [d] at d';injection d' with d1 _;have:its=its':=by simpa using congrArg Array.toList d1
 subst this;exact r.inj r'
def Inv.qq7 (I:Inv X xC σ H s) (h:SqT X.K H a xs) (h':SqT X.K H a ys):xs=ys:=by
 obtain ⟨its,r,⟨o,e,_,n,d⟩,_⟩:=I.tuple h;obtain ⟨its',r',⟨o',e',_,n',d'⟩,_⟩:=I.tuple h';rw [e] at e';cases e';rw [d] at d';injection d' with d1 _;have:its=its':=by simpa using congrArg Array.toList d1
 subst this;exact r.inj r'
end
abbrev Cx.wish (X:Cx) (E:xB):Cx:={X with xe:=E}
abbrev Cx.nox (X:Cx):Cx:=X.wish λ _ _=>False
theorem Cx.Ok.wish {X:Cx} (ok:X.Ok) (E:xB):(X.wish E).Ok:=
 ⟨ok.mod,ok.kind,ok.glob,ok.blt,ok.above,ok.inj,ok.has,ok.cab,ok.hd,ok.frames,ok.stk,ok.exf,ok.bs,ok.bsz,ok.noex,ok.exfs,ok.funs,ok.frf⟩
def Cx.Ok.unwish {X:Cx} {E:xB} (ok:(X.wish E).Ok):X.Ok:=
 ⟨ok.mod,ok.kind,ok.glob,ok.blt,ok.above,ok.inj,ok.has,ok.cab,ok.hd,ok.frames,ok.stk,ok.exf,ok.bs,ok.bsz,ok.noex,ok.exfs,ok.funs,ok.frf⟩
section
variable {X:Cx} {xC:xG} {σ:St} {H:Hp} {s:Shared} {E:xB}
theorem Inv.wish (I:Inv X xC σ H s) (E:xB):Inv (X.wish E) xC σ H s:=⟨I.ok.wish E,I.os,I.bare,I.base,I.loc,I.cell,I.free,I.freeC,I.pin,I.hok,I.len⟩
theorem Inv.unwish (I:Inv (X.wish E) xC σ H s):Inv X xC σ H s:=⟨I.ok.unwish,I.os,I.bare,I.base,I.loc,I.cell,I.free,I.freeC,I.pin,I.hok,I.len⟩
theorem SP.unwish {D:Ends} {f:Flow} {s':Shared} (h:SP (X.wish E) xC D f s'):SP X xC D f s':=by
 cases f with
 | next=>obtain ⟨σ',H',I,q⟩:=h;exact ⟨σ',H',I.unwish,q⟩
 | brk=>obtain ⟨σ',H',I,q⟩:=h;exact ⟨σ',H',I.unwish,q⟩
 | cont=>obtain ⟨σ',H',I,q⟩:=h;exact ⟨σ',H',I.unwish,q⟩
 | ret u=>obtain ⟨v,σ',H',I,r,q⟩:=h;exact ⟨v,σ',H',I.unwish,r,q⟩
theorem PSs.nox {st:List Stmt} {t:TS} (h:PSs X.nox st t):PSs X st t:=λ xC s σ H D I hw=>
 z4f (h xC s σ H D (I.wish _) hw) (λ _ _ q=>q.unwish) λ _ _ z=>False.elim z
end
section
variable {X:Cx} {st:Stmt} {rest:List Stmt} {t u:TS} {e:Expr} {te:TE} {pos:Pos}
def q10d:TS:=λ D σ H=>D.nx σ H
def tSeq (t u:TS):TS:=λ D σ H=>t {D with nx:=u D} σ H
def qx:PSs X [] q10d:=λ _ _ σ H _ I h=>wpAny_execs_nil ⟨σ,H,I,h⟩
def qr (h1:PS X st t) (h2:PSs X rest u):PSs X (st::rest) (tSeq t u):=by
 intro xC s σ H D I h;refine wpAny_execs_cons (thn (h1 xC s σ H {D with nx:=u D} I h) λ f s1 q=> ?_);cases f with
 | next=>
  obtain ⟨σ',H',I',q⟩:=q;exact h2 xC s1 σ' H' D I' q
 | ret v=>exact q
 | brk=>exact q
 | cont=>exact q
def qg (h1:PS X st t):PSs X [st] t:=by
 intro xC s σ H D I h;refine wpAny_execs_cons (thn (h1 xC s σ H D I h) λ f s1 q=> ?_);cases f with
 | next=>exact wpAny_execs_nil q
 | ret v=>exact q
 | brk=>exact q
 | cont=>exact q
def Inv.quiet {xC:xG} {σ:St} {H:Hp} {s:Shared} (I:Inv X xC σ H s):interactive X.env=false:=by simp [interactive,I.ok.kind]
def q10e (te:TE):TS:=λ D σ H=>te σ H λ _ H1=>D.nx σ H1
def q2b (he:PE X e te) (hs:swapsWith e none pos.line X.env=pure false:=by rfl):PS X (.Expr e pos) (q10e te):=by
 intro xC s σ H D I h;exact wpAny_Expr_any (thn (he xC s σ H _ I h) λ v s1 ⟨x,H1,I1,r1,q1⟩=>⟨σ,H1,I1,q1⟩) I.quiet hs
def tRet (te:TE):TS:=λ D σ H=>te σ H D.rt
def qh (he:PE X e te):PS X (.Return (some e) pos) (tRet te):=by
 intro xC s σ H D I h;exact wpAny_Return_some (thn (he xC s σ H _ I h) λ v s1 ⟨x,H1,I1,r1,q1⟩=>⟨x,σ,H1,I1,r1,q1⟩)
def tIfS (c:TT) (t u:TS):TS:=λ D σ H=>c σ H λ b H1=>if b=true then t D σ H1 else u D σ H1
def q15 {c:Expr} {a b:List Stmt} {tc:TT} (hc:PT X c tc) (ha:PSs X a t) (hb:PSs X b u):PS X (.If c a b pos) (tIfS tc t u):=by
 intro xC s σ H D I h;refine wpAny_If (thn (hc xC s σ H _ I h) λ d s1 J=> ?_);obtain ⟨H1,I1,q1⟩:=J;cases d with
 | true=>exact ha xC s1 σ H1 D I1 q1
 | false=>exact hb xC s1 σ H1 D I1 q1
end
abbrev TG:=V ->St ->Hp ->(St ->Hp ->Prop) ->Prop
abbrev TGs:=List V ->St ->Hp ->(St ->Hp ->Prop) ->Prop
def PG (X:Cx) (target:Expr) (t:TG):Prop:=
 ∀ (xC:xG) (s:Shared) (σ:St) (H:Hp) (v:V) (u:Value) (Q:St ->Hp ->Prop),Inv X xC σ H s ->RelV v u ->t v σ H Q ->
  wpAny (model X.prog X.w) X.A (assign target X.env u) (λ _ s'=>∃ σ' H',Inv X xC σ' H' s'/\Q σ' H') X.xe s
def PGs (X:Cx) (ts:List Expr) (t:TGs):Prop:=
 ∀ (xC:xG) (s:Shared) (σ:St) (H:Hp) (vs:List V) (us:xH) (Q:St ->Hp ->Prop),Inv X xC σ H s ->Vals vs us ->t vs σ H Q ->
  wpAny (model X.prog X.w) X.A (assignInOrder ((assignEach ts X.env).map (·.2)) us) (λ _ s'=>∃ σ' H',Inv X xC σ' H' s'/\Q σ' H') X.xe s
section
variable {X:Cx} {pos:Pos}
def qoh (i:Nat):TG:=λ v σ H Q=>Q (σ.set i (some v)) H
def q13 {i:Nat} {x:Str} (hN:X.N.Nodup) (hi:X.N[i]? =some x) (hx:Loc X.env.scope x) (hf:X.fn x=true\/ X.env.scope.names.lookup x=some .local:=by first | exact .inl rfl | exact .inr rfl | assumption):PG X (.Name x pos) (qoh i):=by
 intro xC s σ H v u Q I r h;exact wpAny_assign_Name (q94 I hN hi hx r (λ s' I'=>⟨_,H,I',h⟩) hf)
def gNil:TGs:=λ vs σ H Q=>vs=[]/\Q σ H
def q10f (t:TG) (u:TGs):TGs:=λ vs σ H Q=>∃ v r,vs=v::r/\t v σ H λ σ' H'=>u r σ' H' Q
def qfx:PGs X [] gNil:=by
 intro xC s σ H vs us Q I r h;obtain ⟨e,h⟩:=h;subst e;cases r
 exact assignInOrder_nil ⟨σ,H,I,h⟩
def q5j {e:Expr} {es:List Expr} {t:TG} {u:TGs} (h1:PG X e t) (h2:PGs X es u)
  (hs:(assignEach (e::es) X.env).map (·.2)=assign e X.env::(assignEach es X.env).map (·.2):=by rfl):PGs X (e::es) (q10f t u):=by
 intro xC s σ H vs us Q I r h;obtain ⟨v,vr,e1,h⟩:=h;subst e1;cases r with
 | cons r rr=>
  rw [hs];refine assignInOrder_cons (thn (h1 xC s σ H _ _ _ I r h) λ _ s1 J=> ?_);obtain ⟨σ1,H1,I1,q1⟩:=J;exact h2 xC s1 σ1 H1 _ _ Q I1 rr q1
def gTup (K:xA) (n:Nat) (t:TGs):TG:=λ v σ H Q=>∃ a xs,v= .ref a/\SqT K H a xs/\xs.length=n/\t xs σ H Q
def qkg {es:List Expr} {k:Nat} {t:TGs} {n:Nat} (hc:X.calm=true) (h:PGs X es t)
  (hn:(assignEach es X.env).length=n:=by rfl) (J:(assignEach es X.env).findIdx? (·.1)=none:=by rfl):PG X (.Tuple es k pos) (gTup X.K n t):=by
 intro xC s σ H v u Q I r hw;obtain ⟨a,xs,e1,hq,hl,hw⟩:=hw;subst e1;cases r
 obtain ⟨its,rv,ht,hz⟩:=I.tuple hq;refine assign_Tuple_tuple (I.ok.hd hc) ht (by simp [hn,<- hl,rv.length]) J λ h' hx=> ?_;have I1:Inv X xC σ H {s with heap:=h'}:=I.kept (t':=s.toks) λ b o e=>hx b o (z3z (z3y e)) e;exact h xC _ σ H xs _ Q I1 (by simpa using rv) hw
def tAsg (te:TE) (g:TG):TS:=λ D σ H=>te σ H λ x H1=>g x σ H1 D.nx
def qo {i:Nat} {x:Str} {e:Expr} {te:TE} {pos':Pos} (hN:X.N.Nodup) (hi:X.N[i]? =some x) (hx:Loc X.env.scope x) (he:PE X e te) (hs:swapsWith e (some (.Name x pos')) pos.line X.env=pure false:=by rfl) (hf:X.fn x=true\/ X.env.scope.names.lookup x=some .local:=by first | exact .inl rfl | exact .inr rfl | assumption):
  PS X (.Assign [.Name x pos'] e pos) (tAsg te (qoh i)):=by
 intro xC s σ H D I h;refine wpAny_Assign_Name (thn (he xC s σ H _ I h) λ v s1 J=> ?_) hs;obtain ⟨y,H1,I1,r1,q1⟩:=J;exact q94 I1 hN hi hx r1 (λ s2 I2=>⟨_,H1,I2,q1⟩) hf
end
section
variable {X:Cx} {pos:Pos}
def qya (c:TT) (tb:TS):TS:=λ D σ H=>∃ W:Nat ->St ->Hp ->Prop,(∃ m,W m σ H)/\∀ m σ H,W m σ H ->
 c σ H λ b H1=>if b=true then ∃ N:St ->Hp ->Prop,(∀ σ' H',N σ' H' ->∃ m',m' < m/\W m' σ' H')/\tb {D with nx:=N,ct:=N,bk:=D.nx} σ H1 else D.nx σ H1
def qst {c:Expr} {body:List Stmt} {tc:TT} {tb:TS} (hp:PassesOwn (model X.prog X.w) X.A X.env X.xe) (hc:PT X c tc) (hb:PSs X body tb):PS X (.While c body [] pos) (qya tc tb):=by
 intro xC s σ H D I h;obtain ⟨W,⟨m0,w0⟩,turn⟩:=h;refine wpAny_While (codeAny_whileLoop (λ n s'=>∃ σ' H',Inv X xC σ' H' s'/\W n σ' H') ?_ m0 ⟨σ,H,I,w0⟩);rintro n s1 ⟨σ1,H1,I1,w1⟩;refine z2x hp (thn (hc xC s1 σ1 H1 _ I1 (turn n σ1 H1 w1)) λ b s2 a1=> ?_);obtain ⟨H2,I2,q2⟩:=a1;cases b with
 | true=>
  obtain ⟨N,hN,q2⟩:=q2;rw [if_pos rfl];refine z2x hp (thn (hb xC s2 σ1 H2 _ I2 q2) λ f s3 q3=> ?_);cases f with
  | next=>
   obtain ⟨σ3,H3,I3,O⟩:=q3;obtain ⟨J,hm,Z⟩:=hN σ3 H3 O;exact ⟨J,hm,σ3,H3,I3,Z⟩
  | cont=>
   obtain ⟨σ3,H3,I3,O⟩:=q3;obtain ⟨J,hm,Z⟩:=hN σ3 H3 O;exact ⟨J,hm,σ3,H3,I3,Z⟩
  | brk=>exact q3
  | ret v=>exact q3
 | false=>
  rw [if_neg z1k];exact wpAny_execs_nil ⟨σ1,H2,I2,q2⟩
end
structure It where
 go:Nat ->Hp ->Prop
 yld:Nat ->Hp ->V ->Hp ->Prop
 stop:Nat ->Hp ->Prop
def FpOk (X:Cx) (xC:xG) (H:Hp) (b:Addr):Prop:=
 H b=none/\b≠X.env.locals/\b∉X.fs/\(b∈X.ex\/ X.s₀.heap.objs.size<=b)/\(∀ x c,X.env.cells.lookup x=some c ->c≠b)/\∀ p∈X.pn++xC,p.1≠b
def Inv.fpOk {X:Cx} {xC:xG} {σ:St} {H H':Hp} {s:Shared} {b:Addr} (I:Inv X xC σ H s) (hb:s.heap.objs.size<=b) (hn:H' b=none):FpOk X xC H' b:=by
 refine ⟨hn,z41 (z1q I.lt hb),I.nofs hb,.inr (z40 I.sz hb),λ x c e z=> ?_,λ p hp z=> ?_⟩
 ·obtain ⟨v,q⟩:=I.cell x c e;exact absurd (z1q q.lt (by rw [z];exact hb)) (z3o _)
 ·exact absurd (z1q (z3y (I.pin p hp).1) (by rw [z];exact hb)) (z3o _)
structure Turn (P:Program) (w:World) (K:xA) (tg:Expr) (J:It) (fp:List Addr) (it:Addr) (tn:Nat ->Heap ->Prop):Prop where
 mem:it∈fp
 obj:∀ i h,tn i h ->∀ b∈fp,∃ o,h.get? b=some o/\∀ v,o.data≠ .cell v
 keep:∀ i h h',tn i h ->(∀ b∈fp,∀ o,h.get? b=some o ->h'.get? b=some o) ->tn i h'
 item:∀ (X:Cx),X.prog=P ->X.w=w ->X.K=K ->X.calm=true ->∀ (i:Nat) (xC:xG) (s:Shared) (σ:St) (H:Hp) (E:xB),Inv X xC σ H s ->(∀ b∈fp,FpOk X xC H b) ->tn i s.heap ->J.go i H ->
  wpAny (model P w) X.A (pyNext (.ref it)) (λ r s1=>∃ u,r=some u/\
   wpAny (model P w) X.A (letOwnedTupleGo tg (.ref it) u) (λ _ s2=>∃ x H',Inv X xC σ H' s2/\RelV x u/\J.yld i H x H'/\tn (i+1) s2.heap/\∀ b∈fp,H' b=none) E s1) E s
 done:∀ (X:Cx),X.prog=P ->X.w=w ->X.K=K ->X.calm=true ->∀ (i:Nat) (xC:xG) (s:Shared) (σ:St) (H:Hp) (E:xB),Inv X xC σ H s ->(∀ b∈fp,FpOk X xC H b) ->tn i s.heap ->J.stop i H ->
  wpAny (model P w) X.A (pyNext (.ref it)) (λ r s1=>r=none/\Inv X xC σ H s1) E s
 self:∀ (A:Around) (i:Nat) (s:Shared) (Q:xB) (E:xB),tn i s.heap ->Q (.ref it) s ->wpAny (model P w) A (pyIter (.ref it)) Q E s
abbrev TI:=St ->Hp ->(It ->Hp ->Prop) ->Prop
def PIE (X:Cx) (xC:xG) (σ:St) (tg:Expr) (R:It ->Hp ->Prop) (itv:Value) (s2:Shared):Prop:=
 ∃ (it:Addr) (fp:List Addr) (tn:Nat ->Heap ->Prop) (J:It) (H':Hp),itv= .ref it/\Inv X xC σ H' s2/\Turn X.prog X.w X.K tg J fp it tn/\tn 0 s2.heap/\(∀ b∈fp,FpOk X xC H' b)/\R J H'
def PI (X:Cx) (tg iter:Expr) (wi:TI):Prop:=
 ∀ (xC:xG) (s:Shared) (σ:St) (H:Hp) (R:It ->Hp ->Prop),Inv X xC σ H s ->wi σ H R ->
  wpAny (model X.prog X.w) X.A (eval iter X.env) (λ v s1=>wpAny (model X.prog X.w) X.A (pyIter v) (PIE X xC σ tg R) X.xe s1) X.xe s
def qeb {M:Model} {A:Around} {E:xB} {s:Shared} {tg:Expr} {it:Addr} {u:Value} {o:Obj} {n:String} {vs:Array Value} {Q:Unit ->Shared ->Prop} (ho:s.heap.get? it=some o) (hc:o.cls= .type n) (hd:o.data= .fields vs)
    (hn: ["enumerate","zip","dict_itemiterator","dict_reverseitemiterator","odict_iterator","itertools.zip_longest","itertools.pairwise"].contains n=false) (J:Q () s):wpAny M A (letOwnedTupleGo tg (.ref it) u) Q E s:=by
  unfold letOwnedTupleGo;cases tg <;> first
    | exact z4d J
    | (cases u <;> first
        | exact z4d J
        | (refine z4e (wpAny_load ho ?_)
           rw [hc,hd];show wpAny M A (if (["enumerate","zip","dict_itemiterator","dict_reverseitemiterator","odict_iterator","itertools.zip_longest","itertools.pairwise"].contains n&&vs[0]? ==some (rawInt _))=true then _ else _) Q E s;rw [if_neg (by intro h;rw [hn,z3d] at h;cases h)];exact z4d J))
def Itl (K:xA) (a:Addr):It:=
 ⟨λ i H=>∃ xs x,SqL K H a xs/\xs[i]? =some x,λ i H x H'=>H'=H/\∀ xs,SqL K H a xs ->xs[i]? =some x,λ i H=>∃ xs,SqL K H a xs/\xs.length<=i⟩
def Itt (K:xA) (a:Addr):It:=
 ⟨λ i H=>∃ xs x,SqT K H a xs/\xs[i]? =some x,λ i H x H'=>H'=H/\∀ xs,SqT K H a xs ->xs[i]? =some x,λ i H=>∃ xs,SqT K H a xs/\xs.length<=i⟩
def Itr (lo:Int) (n:Nat):It:=⟨λ i _=>i < n,λ i H x H'=>H'=H/\x= .int (lo+i),λ i _=>n<=i⟩
def qq8 {P:Program} {w:World} {K:xA} {tg:Expr} (a it:Addr):Turn P w K tg (Itl K a) [it] it (λ i h=>h.IsListIter it a i) where
 mem:=by simp
 obj:=λ i h st b hb=>by
  have e:b=it:=by simpa using hb
  subst e;obtain ⟨o,e,c,d⟩:=st;exact ⟨o,e,λ v z=>by rw [d] at z;cases z⟩
 keep:=λ i h h' st k=>st.at λ o e=>k it (by simp) o e
 item:=by
  intro X hP hw hK hc i xC s σ H E I hf st hg;subst hP hw hK;obtain ⟨xs,x,hq,hx⟩:=hg;obtain ⟨its,rv,p,hz⟩:=I.list hq;obtain ⟨u,hu,ru⟩:=rv.get hx;obtain ⟨O,Z,f2,f3,f4,f5⟩:=hf it (by simp);refine wpAny_pyNext_list_item st p.isList (x:=u) (by simpa using hu) λ h' J sb=> ?_;have I1:Inv X xC σ H {s with heap:=h'}:=I.turned (t':=s.toks) (λ b o hb e=>(sb.2 b hb).trans e) O Z f3 f4 f5;obtain ⟨o,e,c,d⟩:=id J;exact ⟨u,rfl,qeb (s:={s with heap:=h'}) e c d (by decide) ⟨x,H,I1,ru,⟨rfl,λ ys hy=>by rw [I.qss hy hq];exact hx⟩,J,λ b hb=>(hf b hb).1⟩⟩
 done:=by
  intro X hP hw hK hc i xC s σ H E I hf st hg;subst hP hw hK;obtain ⟨xs,hq,hx⟩:=hg;obtain ⟨its,rv,p,hz⟩:=I.list hq;obtain ⟨O,Z,f2,f3,f4,f5⟩:=hf it (by simp);have hl:=rv.length;exact wpAny_pyNext_list_end (I.ok.hd hc) st p.isList (by simp;lia) λ h' eb=>⟨rfl,I.turned (t':=s.toks) (λ b o hb e=>eb b o hb e) O Z f3 f4 f5⟩
 self:=λ _ _ _ _ _ st h=>wpAny_pyIter_listiter st h
def qoi {P:Program} {w:World} {K:xA} {tg:Expr} (a it:Addr):Turn P w K tg (Itt K a) [it] it (λ i h=>h.IsTupleIter it a i) where
 mem:=by simp
 obj:=λ i h st b hb=>by
  have e:b=it:=by simpa using hb
  subst e;obtain ⟨o,e,c,d⟩:=st;exact ⟨o,e,λ v z=>by rw [d] at z;cases z⟩
 keep:=λ i h h' st k=>st.at λ o e=>k it (by simp) o e
 item:=by
  intro X hP hw hK hc i xC s σ H E I hf st hg;subst hP hw hK;obtain ⟨xs,x,hq,hx⟩:=hg;obtain ⟨its,rv,p,hz⟩:=I.tuple hq;obtain ⟨u,hu,ru⟩:=rv.get hx;obtain ⟨O,Z,f2,f3,f4,f5⟩:=hf it (by simp);refine wpAny_pyNext_tuple_item st (show s.heap.IsTuple a its.toArray from p) (x:=u) (by simpa using hu) λ h' J sb=> ?_;have I1:Inv X xC σ H {s with heap:=h'}:=I.turned (t':=s.toks) (λ b o hb e=>(sb.2 b hb).trans e) O Z f3 f4 f5;obtain ⟨o,e,c,d⟩:=id J;exact ⟨u,rfl,qeb (s:={s with heap:=h'}) e c d (by decide) ⟨x,H,I1,ru,⟨rfl,λ ys hy=>by rw [I.qq7 hy hq];exact hx⟩,J,λ b hb=>(hf b hb).1⟩⟩
 done:=by
  intro X hP hw hK hc i xC s σ H E I hf st hg;subst hP hw hK;obtain ⟨xs,hq,hx⟩:=hg;obtain ⟨its,rv,p,hz⟩:=I.tuple hq;obtain ⟨O,Z,f2,f3,f4,f5⟩:=hf it (by simp);have hl:=rv.length;exact wpAny_pyNext_tuple_end (I.ok.hd hc) st (show s.heap.IsTuple a its.toArray from p) (by simp;lia) λ h' eb=>⟨rfl,I.turned (t':=s.toks) (λ b o hb e=>eb b o hb e) O Z f3 f4 f5⟩
 self:=λ _ _ _ _ _ st h=>wpAny_pyIter_tupleiter st h
def qoj {P:Program} {w:World} {K:xA} {tg:Expr} (it:Addr) (lo:Int) (n:Nat):Turn P w K tg (Itr lo n) [it] it (λ i h=>IsRangeIter h it (lo+(i:Nat)*1) ((n:Int) - (i:Nat)) 1) where
 mem:=by simp
 obj:=λ i h st b hb=>by
  have e:b=it:=by simpa using hb
  subst e;exact ⟨_,st,λ v z=>by
   have z':Data.fields _=Data.cell v:=z;cases z'⟩
 keep:=λ i h h' st k=>k it (by simp) _ st
 item:=by
  intro X hP hw hK hc i xC s σ H E I hf st hg;subst hP hw hK;obtain ⟨O,Z,f2,f3,f4,f5⟩:=hf it (by simp);have W:=Walks.range (prog:=X.prog) (w:=X.w) (I.ok.hd hc) it lo 1 n;refine W.item i s _ _ hg st λ v h' tk hv J kk=> ?_;obtain ⟨t,rfl⟩:=hv;have I1:Inv X xC σ H {s with heap:=h',toks:=tk}:=I.turned (λ b o hb e=>kk b o (by simpa using hb) e) O Z f3 f4 f5;refine ⟨_,rfl,qeb (s:={s with heap:=h',toks:=tk}) (n:="range_iterator") J rfl rfl (by decide) ⟨.int (lo+i),H,I1,⟨t,?_⟩,⟨rfl,rfl⟩,J,λ b hb=>(hf b hb).1⟩⟩;rw [Int.mul_one]
 done:=by
  intro X hP hw hK hc i xC s σ H E I hf st hg;subst hP hw hK;obtain ⟨O,Z,f2,f3,f4,f5⟩:=hf it (by simp);exact wpAny_pyNext_range_end (I.ok.hd hc) st (by have:n<=i:=hg;lia) λ h' eb=>⟨rfl,I.turned (t':=s.toks) (λ b o hb e=>eb b o hb e) O Z f3 f4 f5⟩
 self:=λ _ _ _ _ _ st h=>wpAny_pyIter_rangeiter st h
section
variable {X:Cx} {tg:Expr}
def qv8 (K:xA) (tl:TE):TI:=λ σ H R=>tl σ H λ x H1=>∃ a,x= .ref a/\(∃ xs,SqL K H1 a xs)/\R (Itl K a) H1
def iTup (K:xA) (tl:TE):TI:=λ σ H R=>tl σ H λ x H1=>∃ a,x= .ref a/\(∃ xs,SqT K H1 a xs)/\R (Itt K a) H1
def qw0 {l:Expr} {tl:TE} (hl:PE X l tl):PI X tg l (qv8 X.K tl):=by
 intro xC s σ H R I h;refine thn (hl xC s σ H _ I h) λ v s1 J=> ?_;obtain ⟨x,H1,I1,r1,q1⟩:=J;obtain ⟨a,e,⟨xs,hq⟩,q⟩:=q1;subst e;cases r1
 obtain ⟨its,rv,p,hz⟩:=I1.list hq;refine z24 p.isList ?_;refine ⟨s1.heap.objs.size,[s1.heap.objs.size],_,_,H1,zr,I1.kept (t':=s1.toks) λ b o e=>z0n _ e,qq8 a _,⟨_,z1b _ rfl,zr,zr⟩,λ b hb=> ?_,q⟩;have e:b=s1.heap.objs.size:=by simpa using hb
 subst e;exact I1.fpOk (z47 _) (I1.hok.fresh (z47 _))
def qyb {l:Expr} {tl:TE} (hl:PE X l tl):PI X tg l (iTup X.K tl):=by
 intro xC s σ H R I h;refine thn (hl xC s σ H _ I h) λ v s1 J=> ?_;obtain ⟨x,H1,I1,r1,q1⟩:=J;obtain ⟨a,e,⟨xs,hq⟩,q⟩:=q1;subst e;cases r1
 obtain ⟨its,rv,p,hz⟩:=I1.tuple hq;refine wpAny_pyIter_tuple (show s1.heap.IsTuple a its.toArray from p) ?_;refine ⟨s1.heap.objs.size,[s1.heap.objs.size],_,_,H1,zr,I1.kept (t':=s1.toks) λ b o e=>z0n _ e,qoi a _,⟨_,z1b _ rfl,zr,zr⟩,λ b hb=> ?_,q⟩;have e:b=s1.heap.objs.size:=by simpa using hb
 subst e;exact I1.fpOk (z47 _) (I1.hok.fresh (z47 _))
def qsu {xC:xG} {σ:St} {H:Hp} {s:Shared} {R:It ->Hp ->Prop} {E:xB} {lo hi:Int} {t u v:Tok} {tk:Nat} (I:Inv X xC σ H s) (h1: -(2^62)<=lo) (h2:lo < 2^62) (h3: -(2^62)<=hi) (h4:hi < 2^62)
  (q:R (Itr lo (hi - lo).toNat) H):wpAny (model X.prog X.w) X.A (pyIter (.ref s.heap.objs.size)) (PIE X xC σ tg R) E {s with heap:=s.heap.push {cls:= .type "range",data:= .fields #[.int lo t,.int hi u,.int 1 v]},toks:=tk}:=by
 refine wpAny_pyIter_range (IsRange.new ..) (small_one h1 h2 h3 h4) ?_;have I1:Inv X xC σ H {s with heap:=s.heap.push {cls:= .type "range",data:= .fields #[.int lo t,.int hi u,.int 1 v]},toks:=tk}:=I.kept λ b o e=>z0n _ e;refine ⟨(s.heap.push {cls:= .type "range",data:= .fields #[.int lo t,.int hi u,.int 1 v]}).objs.size,[(s.heap.push {cls:= .type "range",data:= .fields #[.int lo t,.int hi u,.int 1 v]}).objs.size],_,_,H,zr,
  I1.kept (t':=tk) λ b o e=>z0n _ e,qoj _ lo (hi - lo).toNat,?_,λ b hb=> ?_,q⟩
 ·have e1:lo+((0:Nat):Int)*1=lo:=by simp
  have e2:(((hi - lo).toNat:Nat):Int) - ((0:Nat):Int)=Builtin.Range.rangeSize lo hi 1:=by rw [rangeSize_one];split <;> lia
  show IsRangeIter _ _ (lo+((0:Nat):Int)*1) ((((hi - lo).toNat:Nat):Int) - ((0:Nat):Int)) 1;rw [e1,e2];exact z1b _ rfl
 ·have e:b=(s.heap.push {cls:= .type "range",data:= .fields #[.int lo t,.int hi u,.int 1 v]}).objs.size:=by simpa using hb
  subst e;exact I1.fpOk (z47 _) (I1.hok.fresh (z47 _))
def q10g (ta:TA):TI:=λ σ H R=>ta σ H λ vs H1=>∃ j:Int,vs=[.int j]/\ -(2^62)<=j/\j < 2^62/\R (Itr 0 j.toNat) H1
def q4w {a:Expr} {ta:TA} {p pos:Pos} (hg:Gl X "range") (hm:X.mg "range"=none) (ha:PA X [a] ta) (hs:starEach [a] X.env=[(false,eval a X.env)]:=by rfl):PI X tg (.Call (.Name "range" p) [a] [] pos) (q10g ta):=by
 intro xC s σ H R I h;refine Call_ (qe9 I hg hm boot_range (z03 (thn (ha pos xC s σ H _ I h) λ us s1 J=> ?_) hs rfl));obtain ⟨vs,H1,I1,r1,q1⟩:=J;obtain ⟨j,e,q1,q2,q⟩:=q1;subst e;cases r1 with
 | cons r rr=>
  cases rr
  obtain ⟨t,rfl⟩:=r;exact call_range_1 (qsu I1 (by lia) (by lia) q1 q2 (by simpa using q))
def tFor (wi:TI) (g:TG) (tb:TS):TS:=λ D σ H=>wi σ H λ J H1=>∃ W:Nat ->Nat ->St ->Hp ->Prop,(∃ m,W 0 m σ H1)/\∀ i m σ H,W i m σ H ->
 (J.stop i H/\D.nx σ H)\/ (J.go i H/\∃ N:St ->Hp ->Prop,(∀ σ' H',N σ' H' ->∃ m',m' < m/\W (i+1) m' σ' H')/\∀ x H',J.yld i H x H' ->g x σ H' λ σ2 H2=>tb {D with nx:=N,ct:=N,bk:=D.nx} σ2 H2)
def qaj (fp:List Addr) (h:Heap):List (Addr×Obj):=fp.filterMap λ b=>(h.get? b).map λ o=>(b,o)
def q52 {fp:List Addr} {h:Heap} {b:Addr} {o:Obj} (hb:b∈fp) (e:h.get? b=some o):(b,o)∈qaj fp h:=List.mem_filterMap.mpr ⟨b,hb,by rw [e];rfl⟩
def qq9 {fp:List Addr} {h:Heap} {p:Addr×Obj} (hp:p∈qaj fp h):p.1∈fp/\h.get? p.1=some p.2:=by
 obtain ⟨b,hb,e⟩:=List.mem_filterMap.mp hp;cases q:h.get? b with
 | none=>rw [q] at e;cases e
 | some o=>
  rw [q] at e;have e':(b,o)=p:=Option.some.inj e;subst e';exact ⟨hb,q⟩
def Inv.pinned {xC:xG} {σ:St} {H:Hp} {s:Shared} {fp:List Addr} (I:Inv X xC σ H s) (hf:∀ b∈fp,FpOk X xC H b) (ho:∀ b∈fp,∃ o,s.heap.get? b=some o/\∀ v,o.data≠ .cell v):Inv X (xC++qaj fp s.heap) σ H s:=
 I.qnc λ p hp=>(z2t.mp hp).elim (λ z=>I.pin p (z0v _ z)) λ z=>by
  obtain ⟨hb,e⟩:=qq9 z;obtain ⟨f0,f1,f2,_⟩:=hf p.1 hb;obtain ⟨o,e',d⟩:=ho p.1 hb;rw [e] at e';cases e';exact ⟨e,f0,f1,f2,d⟩
def Inv.unpinned {xC pl:xG} {σ:St} {H:Hp} {s:Shared} (I:Inv X (xC++pl) σ H s):Inv X xC σ H s:=I.qnc λ p hp=>I.pin p (z0v _ (z16 _ hp))
def q22 {iter:Expr} {body:List Stmt} {wi:TI} {g:TG} {tb:TS} {pos:Pos} (hp:PassesOwn (model X.prog X.w) X.A X.env X.xe) (hc:X.calm=true) (hi:PI X tg iter wi) (hg:PG X tg g) (hb:PSs X body tb)
  (hs:∀ x,foldedSetIterable iter X.env x=pure x:=by intro _;rfl):PS X (.For tg iter body [] pos) (tFor wi g tb):=by
 intro xC s σ H D I h;refine wpAny_For (thn (hi xC s σ H _ I h) λ v s1 h1=>thn h1 λ itv s2 h2=> ?_) hs;obtain ⟨it,fp,tn,J,H2,e,I2,T,a7,f2,W,⟨m0,w0⟩,turn⟩:=h2;subst e;have a1:∀ {H':Hp},(∀ b∈fp,H' b=none) ->∀ b∈fp,FpOk X xC H' b:=λ hn b hb=>⟨hn b hb,(f2 b hb).2⟩;refine codeAny_forLoop_any (λ n s'=>∃ i σ' H',Inv X xC σ' H' s'/\tn i s'.heap/\(∀ b∈fp,H' b=none)/\W i n σ' H') ?_ m0 ⟨0,σ,H2,I2,a7,λ b hb=>(f2 b hb).1,w0⟩;rintro n s3 ⟨i,σ3,H3,I3,a4,a3,w3⟩;rcases turn i n σ3 H3 w3 with ⟨stop,qn⟩ | ⟨go,N,hN,step⟩
 ·refine z2x hp (thn (T.done X rfl rfl rfl hc i xC s3 σ3 H3 X.xe I3 (a1 a3) a4 stop) λ r s4 O=> ?_);obtain ⟨hr,I4⟩:=O;subst hr;exact wpAny_execs_nil ⟨σ3,H3,I4,qn⟩
 ·refine z2x hp (thn (T.item X rfl rfl rfl hc i xC s3 σ3 H3 X.xe I3 (a1 a3) a4 go) λ r s4 O=> ?_);obtain ⟨u,hr,h4⟩:=O;subst hr;refine z2x hp (thn h4 λ _ s5 O=> ?_);obtain ⟨x,H5,I5,r5,y5,a2,a6⟩:=O;have a5:=I5.pinned (a1 a6) (T.obj _ _ a2);refine z2x hp (thn (hg _ s5 σ3 H5 x u _ a5 r5 (step x H5 y5)) λ _ s6 O=> ?_);obtain ⟨σ6,H6,I6,q6⟩:=O;refine z2x hp (thn (hb _ s6 σ6 H6 _ I6 q6) λ f s7 q7=> ?_);have again:∀ {σ7:St} {Z:Hp},Inv X (xC++qaj fp s5.heap) σ7 Z s7 ->N σ7 Z ->∃ m,m < n/\∃ i σ' H',Inv X xC σ' H' s7/\tn i s7.heap/\(∀ b∈fp,H' b=none)/\W i m σ' H':=λ {σ7 Z} I7 n7=>by
   obtain ⟨m',hm,w7⟩:=hN σ7 Z n7;refine ⟨m',hm,i+1,σ7,Z,I7.unpinned,T.keep _ _ _ a2 λ b hb o e=>(I7.pin (b,o) (z0v _ (z0v _ (q52 hb e)))).1,λ b hb=> ?_,w7⟩;obtain ⟨o,e,d⟩:=T.obj _ _ a2 b hb;exact (I7.pin (b,o) (z0v _ (z0v _ (q52 hb e)))).2.1
  cases f with
  | next=>obtain ⟨σ7,Z,I7,n7⟩:=q7;exact again I7 n7
  | cont=>obtain ⟨σ7,Z,I7,n7⟩:=q7;exact again I7 n7
  | brk=>obtain ⟨σ7,Z,I7,q7⟩:=q7;exact ⟨σ7,Z,I7.unpinned,q7⟩
  | ret v=>obtain ⟨x7,σ7,Z,I7,r7,q7⟩:=q7;exact ⟨x7,σ7,Z,I7.unpinned,r7,q7⟩
end
def q2n {K:xA} {a:Addr} {xs:List V} {g:TG} {tb:TS} {D:Ends} {σ:St} {H:Hp} (Pv:Nat ->St ->Hp ->Prop) (h0:Pv 0 σ H) (hl:∀ i σ H,i<=xs.length ->Pv i σ H ->SqL K H a xs)
  (hs:∀ i x σ H,xs[i]? =some x ->Pv i σ H ->g x σ H λ σ2 H2=>tb {D with nx:=Pv (i+1),ct:=Pv (i+1),bk:=D.nx} σ2 H2) (hd:∀ σ H,Pv xs.length σ H ->D.nx σ H):
  ∃ W:Nat ->Nat ->St ->Hp ->Prop,(∃ m,W 0 m σ H)/\∀ i m σ H,W i m σ H ->
   ((Itl K a).stop i H/\D.nx σ H)\/ ((Itl K a).go i H/\∃ N:St ->Hp ->Prop,(∀ σ' H',N σ' H' ->∃ O,O < m/\W (i+1) O σ' H')/\∀ x H',(Itl K a).yld i H x H' ->g x σ H' λ σ2 H2=>tb {D with nx:=N,ct:=N,bk:=D.nx} σ2 H2):=by
 refine ⟨λ i m σ H=>m=xs.length - i/\i<=xs.length/\Pv i σ H,⟨xs.length,by simp,z4a _,h0⟩,?_⟩;rintro i m σ H ⟨rfl,hi,p⟩;have q:=hl i σ H hi p;by_cases J:i < xs.length
 ·refine .inr ⟨⟨xs,xs[i],q,by simp [J]⟩,Pv (i+1),λ σ' H' p'=>⟨xs.length - (i+1),by lia,zr,J,p'⟩,λ x H' y=> ?_⟩;obtain ⟨e,y⟩:=y;subst e;exact hs i x σ _ (y xs q) p
 ·have e:i=xs.length:=by lia
  subst e;exact .inl ⟨⟨xs,q,z47 _⟩,hd σ H p⟩
def qbp {K:xA} {a:Addr} {xs:List V} {g:TG} {tb:TS} {D:Ends} {σ:St} {H:Hp} (Pv:Nat ->St ->Hp ->Prop) (h0:Pv 0 σ H) (hl:∀ i σ H,i<=xs.length ->Pv i σ H ->SqT K H a xs)
  (hs:∀ i x σ H,xs[i]? =some x ->Pv i σ H ->g x σ H λ σ2 H2=>tb {D with nx:=Pv (i+1),ct:=Pv (i+1),bk:=D.nx} σ2 H2) (hd:∀ σ H,Pv xs.length σ H ->D.nx σ H):
  ∃ W:Nat ->Nat ->St ->Hp ->Prop,(∃ m,W 0 m σ H)/\∀ i m σ H,W i m σ H ->
   ((Itt K a).stop i H/\D.nx σ H)\/ ((Itt K a).go i H/\∃ N:St ->Hp ->Prop,(∀ σ' H',N σ' H' ->∃ O,O < m/\W (i+1) O σ' H')/\∀ x H',(Itt K a).yld i H x H' ->g x σ H' λ σ2 H2=>tb {D with nx:=N,ct:=N,bk:=D.nx} σ2 H2):=by
 refine ⟨λ i m σ H=>m=xs.length - i/\i<=xs.length/\Pv i σ H,⟨xs.length,by simp,z4a _,h0⟩,?_⟩;rintro i m σ H ⟨rfl,hi,p⟩;have q:=hl i σ H hi p;by_cases J:i < xs.length
 ·refine .inr ⟨⟨xs,xs[i],q,by simp [J]⟩,Pv (i+1),λ σ' H' p'=>⟨xs.length - (i+1),by lia,zr,J,p'⟩,λ x H' y=> ?_⟩;obtain ⟨e,y⟩:=y;subst e;exact hs i x σ _ (y xs q) p
 ·have e:i=xs.length:=by lia
  subst e;exact .inl ⟨⟨xs,q,z47 _⟩,hd σ H p⟩
def q87 {lo:Int} {n:Nat} {g:TG} {tb:TS} {D:Ends} {σ:St} {H:Hp} (Pv:Nat ->St ->Hp ->Prop) (h0:Pv 0 σ H)
  (hs:∀ i σ H,i < n ->Pv i σ H ->g (.int (lo+i)) σ H λ σ2 H2=>tb {D with nx:=Pv (i+1),ct:=Pv (i+1),bk:=D.nx} σ2 H2) (hd:∀ σ H,Pv n σ H ->D.nx σ H):
  ∃ W:Nat ->Nat ->St ->Hp ->Prop,(∃ m,W 0 m σ H)/\∀ i m σ H,W i m σ H ->
   ((Itr lo n).stop i H/\D.nx σ H)\/ ((Itr lo n).go i H/\∃ N:St ->Hp ->Prop,(∀ σ' H',N σ' H' ->∃ O,O < m/\W (i+1) O σ' H')/\∀ x H',(Itr lo n).yld i H x H' ->g x σ H' λ σ2 H2=>tb {D with nx:=N,ct:=N,bk:=D.nx} σ2 H2):=by
 refine ⟨λ i m σ H=>m=n - i/\i<=n/\Pv i σ H,⟨n,by simp,z4a _,h0⟩,?_⟩;rintro i m σ H ⟨rfl,hi,p⟩;by_cases J:i < n
 ·refine .inr ⟨J,Pv (i+1),λ σ' H' p'=>⟨n - (i+1),by lia,zr,J,p'⟩,λ x H' y=> ?_⟩;obtain ⟨e,y⟩:=y;subst e y;exact hs i σ _ J p
 ·have e:i=n:=by lia
  subst e;exact .inl ⟨z47 _,hd σ H p⟩
abbrev R2:=V ->V ->Hp ->VK ->Prop
def OpR (X:Cx) (f:Value ->Value ->Sem Value) (r:R2):Prop:=
 ∀ (xC:xG) (s:Shared) (σ:St) (H:Hp) (x y:V) (v u:Value) (Q:VK),Inv X xC σ H s ->RelV x v ->RelV y u ->r x y H Q ->
  wpAny (model X.prog X.w) X.A (f v u) (EP X xC σ Q) X.xe s
def UnR (X:Cx) (f:Value ->Sem Value) (r:V ->Hp ->VK ->Prop):Prop:=
 ∀ (xC:xG) (s:Shared) (σ:St) (H:Hp) (x:V) (v:Value) (Q:VK),Inv X xC σ H s ->RelV x v ->r x H Q ->
  wpAny (model X.prog X.w) X.A (f v) (EP X xC σ Q) X.xe s
def q1v (X:Cx) (f:Value) (r:List V ->Hp ->VK ->Prop):Prop:=
 ∀ (xC:xG) (s:Shared) (σ:St) (H:Hp) (xs:List V) (us:xH) (Q:VK),Inv X xC σ H s ->Vals xs us ->r xs H Q ->
  wpAny (model X.prog X.w) X.A (call f us) (EP X xC σ Q) X.xe s
def TruR (X:Cx) (r:V ->Hp ->(Bool ->Hp ->Prop) ->Prop):Prop:=
 ∀ (xC:xG) (s:Shared) (σ:St) (H:Hp) (x:V) (v:Value) (Q:Bool ->Hp ->Prop),Inv X xC σ H s ->RelV x v ->r x H Q ->
  wpAny (model X.prog X.w) X.A (truthy v) (TP X xC σ Q) X.xe s
def tOp (r:R2) (ta tb:TE):TE:=λ σ H Q=>ta σ H λ x H1=>tb σ H1 λ y H2=>r x y H2 Q
def tUn (r:V ->Hp ->VK ->Prop) (ta:TE):TE:=λ σ H Q=>ta σ H λ x H1=>r x H1 Q
def rI (C:Int ->Int ->Prop) (g:Int ->Int ->V):R2:=λ x y H Q=>∃ i j,x= .int i/\y= .int j/\C i j/\Q (g i j) H
def rI0 (g:Int ->Int ->V):R2:=λ x y H Q=>∃ i j,x= .int i/\y= .int j/\Q (g i j) H
def rU (g:Int ->V):V ->Hp ->VK ->Prop:=λ x H Q=>∃ i,x= .int i/\Q (g i) H
section
variable {X:Cx} {a b c:Expr} {ta tb tc:TE} {pos:Pos}
def binT (ha:PE X a ta) (hb:PE X b tb) {xC:xG} {s:Shared} {σ:St} {H:Hp} {R:V ->V ->Hp ->Prop} (I:Inv X xC σ H s)
  (h:ta σ H λ x H1=>tb σ H1 λ y H2=>R x y H2) {Q:xB} {f:Value ->Value ->Sem Value}
  (hf:∀ v u O x y H2,Inv X xC σ H2 O ->RelV x v ->RelV y u ->R x y H2 ->wpAny (model X.prog X.w) X.A (f v u) Q X.xe O):
  wpAny (model X.prog X.w) X.A (eval a X.env) (λ v s₁=>wpAny (model X.prog X.w) X.A (eval b X.env) (λ u s₂=>wpAny (model X.prog X.w) X.A (f v u) Q X.xe s₂) X.xe s₁) X.xe s:=by
 refine thn (ha xC s σ H _ I h) λ v s1 J=> ?_;obtain ⟨x,H1,I1,r1,q1⟩:=J;refine thn (hb xC s1 σ H1 _ I1 q1) λ u O J=> ?_;obtain ⟨y,H2,I2,r2,q2⟩:=J;exact hf v u O x y H2 I2 r1 r2 q2
def qk {op:Operator} {r:R2} (ho:OpR X (binaryOp op) r) (ha:PE X a ta) (hb:PE X b tb):PE X (.BinOp a op b pos) (tOp r ta tb):=by
 intro xC s σ H Q I h;exact wpAny_BinOp (binT ha hb I h λ v u s2 x y H2 I2 rx ry q=>ho xC s2 σ H2 x y v u Q I2 rx ry q)
def qec {op:UnaryOp} {r:V ->Hp ->VK ->Prop} (ho:UnR X (unaryOp op) r) (ha:PE X a ta):PE X (.UnaryOp op a pos) (tUn r ta):=by
 intro xC s σ H Q I h;exact UnaryOp_ (thn (ha xC s σ H _ I h) λ v s1 ⟨x,H1,I1,r1,q1⟩=>ho xC s1 σ H1 x v Q I1 r1 q1)
def opI {f:Value ->Value ->Sem Value} {C:Int ->Int ->Prop} {g:Int ->Int ->Int}
  (rule:∀ (i j:Int) (t u:Tok) (s:Shared) (Q:xB) (E:xB),C i j ->Q (.int (g i j) s.toks) {s with toks:=s.toks+1} ->wpAny (model X.prog X.w) X.A (f (.int i t) (.int j u)) Q E s):
  OpR X f (rI C λ i j=> .int (g i j)):=by
 intro xC s σ H x y v u Q I rx ry h;obtain ⟨i,j,rfl,rfl,hc,q⟩:=h;obtain ⟨t,rfl⟩:=rx;obtain ⟨t',rfl⟩:=ry;exact rule i j t t' s _ _ hc ⟨.int (g i j),H,I.tok _,⟨_,zr⟩,q⟩
def opI0 {f:Value ->Value ->Sem Value} {g:Int ->Int ->Int}
  (rule:∀ (i j:Int) (t u:Tok) (s:Shared) (Q:xB) (E:xB),Q (.int (g i j) s.toks) {s with toks:=s.toks+1} ->wpAny (model X.prog X.w) X.A (f (.int i t) (.int j u)) Q E s):
  OpR X f (rI0 λ i j=> .int (g i j)):=by
 intro xC s σ H x y v u Q I rx ry h;obtain ⟨i,j,rfl,rfl,q⟩:=h;obtain ⟨t,rfl⟩:=rx;obtain ⟨t',rfl⟩:=ry;exact rule i j t t' s _ _ ⟨.int (g i j),H,I.tok _,⟨_,zr⟩,q⟩
def opB0 {f:Value ->Value ->Sem Value} {g:Int ->Int ->Bool}
  (rule:∀ (i j:Int) (t u:Tok) (s:Shared) (Q:xB) (E:xB),Q (.bool (g i j)) s ->wpAny (model X.prog X.w) X.A (f (.int i t) (.int j u)) Q E s):
  OpR X f (rI0 λ i j=> .bl (g i j)):=by
 intro xC s σ H x y v u Q I rx ry h;obtain ⟨i,j,rfl,rfl,q⟩:=h;obtain ⟨t,rfl⟩:=rx;obtain ⟨t',rfl⟩:=ry;exact rule i j t t' s _ _ ⟨.bl (g i j),H,I,zr,q⟩
def CDiv (i j:Int):Prop:=0 < j/\j < 1073741824
def CPow (i j:Int):Prop:=0<=j/\j<=1000000/\i.natAbs < 2^64
def CMul (i j:Int):Prop:=(-(2^64) < i/\i < 2^64)\/ (-(2^64) < j/\j < 2^64)
def CMul.ok {i j:Int} (h:CMul i j):IntMulOk i j:=by
 rcases h with ⟨h1,h2⟩ | ⟨h1,h2⟩
 ·exact .of_left (intBits_le_64 h1 h2)
 ·exact .of_right (intBits_le_64 h1 h2)
def q19:OpR X (binaryOp .Add) (rI0 λ i j=> .int (i+j)):=opI0 λ _ _ _ _ _ _ _ q=>add_int q
def qkh:OpR X (binaryOp .Sub) (rI0 λ i j=> .int (i - j)):=opI0 λ _ _ _ _ _ _ _ q=>sub_int q
def q53:OpR X (binaryOp .Mult) (rI CMul λ i j=> .int (i*j)):=opI λ _ _ _ _ _ _ _ hc q=>mul_int q hc.ok
def qw1:OpR X (binaryOp .FloorDiv) (rI CDiv λ i j=> .int (i / j)):=opI λ i j _ _ _ _ _ J q=>by
 have h1:(0:Int) < j:=J.1;have h2:j < 1073741824:=J.2;exact floordiv_int (by lia) (by rw [Int.fdiv_eq_ediv_of_nonneg i (by lia)];exact q) (.inl (PyProof.noPylong_small (by lia)))
def qz:OpR X (binaryOp .Mod) (rI (λ _ j=>0 < j) λ i j=> .int (i%j)):=opI λ i j _ _ _ _ _ hc q=>by
 have h1:(0:Int) < j:=hc;exact mod_int' (by lia) (by rw [Int.fmod_eq_emod_of_nonneg i (by lia)];exact q)
def q8o:OpR X (binaryOp .Pow) (rI CPow λ i j=> .int (i^j.toNat)):=opI λ _ _ _ _ _ _ _ J q=>pow_int_small J.1 J.2.1 J.2.2 q
def unI {f:Value ->Sem Value} {g:Int ->Int}
  (rule:∀ (i:Int) (t:Tok) (s:Shared) (Q:xB) (E:xB),Q (.int (g i) s.toks) {s with toks:=s.toks+1} ->wpAny (model X.prog X.w) X.A (f (.int i t)) Q E s):
  UnR X f (rU λ i=> .int (g i)):=by
 intro xC s σ H x v Q I rx h;obtain ⟨i,rfl,q⟩:=h;obtain ⟨t,rfl⟩:=rx;exact rule i t s _ _ ⟨.int (g i),H,I.tok _,⟨_,zr⟩,q⟩
def qak:UnR X (unaryOp .USub) (rU λ i=> .int (-i)):=unI λ _ _ _ _ _ q=>neg_int q
end
def scal:V ->V ->Bool
 | .non,.non=>true | .non,.int _=>true | .int _,.non=>true | .non,.bl _=>true | .bl _,.non=>true | .non,.str _=>true | .str _,.non=>true
 | .int _,.int _=>true | .bl _,.bl _=>true | .str _,.str _=>true | .byt _,.byt _=>true
 | .int _,.str _=>true | .str _,.int _=>true | .bl _,.str _=>true | .str _,.bl _=>true
 | _,_=>false
def rEq:R2:=λ x y H Q=>scal x y=true/\Q (.bl (decide (x=y))) H
def rNe:R2:=λ x y H Q=>scal x y=true/\Q (.bl (!decide (x=y))) H
def qnd {i j:Int}:decide (V.int i=V.int j)=(i==j):=by
 rw [z2y];simp
def qqa {i j:Bool}:decide (V.bl i=V.bl j)=(i==j):=by
 rw [z2y];simp
def qne {i j:Str}:decide (V.str i=V.str j)=(i==j):=by
 rw [z2y];simp
def qnf {i j:Array UInt8}:decide (V.byt i=V.byt j)=(i.toList==j.toList):=by
 rw [z2y];cases i
 cases j
 simp
section
variable {X:Cx} {a b c:Expr} {ta tb tc:TE} {pos:Pos}
def q1a {xC:xG} {σ:St} {H:Hp} {s:Shared} {Q:VK} {k k':Bool} (I:Inv X xC σ H s) (q:Q (.bl k) H) (e:k=k'):EP X xC σ Q (.bool k') s:=by
 subst e;exact ⟨.bl k,H,I,zr,q⟩
def q1h:OpR X (compareOp .Eq) rEq:=by
 intro xC s σ H x y v u Q I rx ry h;obtain ⟨J,q⟩:=h;cases x with
 | non=>
  cases rx
  cases y with
  | non=>cases ry;exact PySem.EqNone.eq_none_none (q1a I q (by simp))
  | bl j=>cases ry;exact PySem.EqNone.eq_none_bool (q1a I q (by simp))
  | int j=>obtain ⟨t',rfl⟩:=ry;exact PySem.EqNone.eq_none_int (q1a I q (by simp))
  | str j=>obtain ⟨t',rfl⟩:=ry;exact PySem.EqNone.eq_none_str (q1a I q (by simp))
  | _=>exact absurd (show false=true from J) z1k
 | bl i=>
  cases rx
  cases y with
  | non=>cases ry;exact PySem.EqNone.eq_bool_none (q1a I q (by simp))
  | bl j=>cases ry;exact eq_bool (q1a I q qqa)
  | str j=>obtain ⟨t',rfl⟩:=ry;exact PySem.EqMixed.eq_bool_str (q1a I q (by simp))
  | _=>exact absurd (show false=true from J) z1k
 | int i=>
  obtain ⟨t,rfl⟩:=rx;cases y with
  | non=>cases ry;exact PySem.EqNone.eq_int_none (q1a I q (by simp))
  | int j=>obtain ⟨t',rfl⟩:=ry;exact eq_int (q1a I q qnd)
  | str j=>obtain ⟨t',rfl⟩:=ry;exact PySem.EqMixed.eq_int_str (q1a I q (by simp))
  | _=>exact absurd (show false=true from J) z1k
 | str i=>
  obtain ⟨t,rfl⟩:=rx;cases y with
  | non=>cases ry;exact PySem.EqNone.eq_str_none (q1a I q (by simp))
  | bl j=>cases ry;exact PySem.EqMixed.eq_str_bool (q1a I q (by simp))
  | int j=>obtain ⟨t',rfl⟩:=ry;exact PySem.EqMixed.eq_str_int (q1a I q (by simp))
  | str j=>obtain ⟨t',rfl⟩:=ry;exact eq_str (q1a I q qne)
  | _=>exact absurd (show false=true from J) z1k
 | byt i=>
  obtain ⟨t,rfl⟩:=rx;cases y with
  | byt j=>obtain ⟨t',rfl⟩:=ry;exact PySem.W.eq_bytes (q1a I q qnf)
  | _=>exact absurd (show false=true from J) z1k
 | _=>cases y <;> exact absurd (show false=true from J) z1k
def qok:OpR X (compareOp .NotEq) rNe:=by
 intro xC s σ H x y v u Q I rx ry h;obtain ⟨J,q⟩:=h;cases x with
 | non=>
  cases rx
  cases y with
  | non=>cases ry;exact PySem.EqNone.ne_none_none (q1a I q (by simp))
  | bl j=>cases ry;exact PySem.EqNone.ne_none_bool (q1a I q (by simp))
  | int j=>obtain ⟨t',rfl⟩:=ry;exact PySem.EqNone.ne_none_int (q1a I q (by simp))
  | str j=>obtain ⟨t',rfl⟩:=ry;exact PySem.EqNone.ne_none_str (q1a I q (by simp))
  | _=>exact absurd (show false=true from J) z1k
 | bl i=>
  cases rx
  cases y with
  | non=>cases ry;exact PySem.EqNone.ne_bool_none (q1a I q (by simp))
  | bl j=>cases ry;exact ne_bool (q1a I q (congrArg not qqa))
  | str j=>obtain ⟨t',rfl⟩:=ry;exact PySem.EqMixed.ne_bool_str (q1a I q (by simp))
  | _=>exact absurd (show false=true from J) z1k
 | int i=>
  obtain ⟨t,rfl⟩:=rx;cases y with
  | non=>cases ry;exact PySem.EqNone.ne_int_none (q1a I q (by simp))
  | int j=>obtain ⟨t',rfl⟩:=ry;exact ne_int (q1a I q (congrArg not qnd))
  | str j=>obtain ⟨t',rfl⟩:=ry;exact PySem.EqMixed.ne_int_str (q1a I q (by simp))
  | _=>exact absurd (show false=true from J) z1k
 | str i=>
  obtain ⟨t,rfl⟩:=rx;cases y with
  | non=>cases ry;exact PySem.EqNone.ne_str_none (q1a I q (by simp))
  | bl j=>cases ry;exact PySem.EqMixed.ne_str_bool (q1a I q (by simp))
  | int j=>obtain ⟨t',rfl⟩:=ry;exact PySem.EqMixed.ne_str_int (q1a I q (by simp))
  | str j=>obtain ⟨t',rfl⟩:=ry;exact ne_str (q1a I q (congrArg not qne))
  | _=>exact absurd (show false=true from J) z1k
 | byt i=>
  obtain ⟨t,rfl⟩:=rx;cases y with
  | byt j=>obtain ⟨t',rfl⟩:=ry;exact PySem.W.ne_bytes (q1a I q (congrArg not qnf))
  | _=>exact absurd (show false=true from J) z1k
 | _=>cases y <;> exact absurd (show false=true from J) z1k
def qv9:OpR X (compareOp .Lt) (rI0 λ i j=> .bl (decide (i < j))):=opB0 λ _ _ _ _ _ _ _ q=>lt_int q
def qjv:OpR X (compareOp .LtE) (rI0 λ i j=> .bl (decide (i<=j))):=opB0 λ _ _ _ _ _ _ _ q=>le_int q
def qol:OpR X (compareOp .Gt) (rI0 λ i j=> .bl (decide (j < i))):=opB0 λ _ _ _ _ _ _ _ q=>gt_int q
def q10h:OpR X (compareOp .GtE) (rI0 λ i j=> .bl (decide (j<=i))):=opB0 λ _ _ _ _ _ _ _ q=>ge_int q
def qhj:OpR X (compareOp .In) (λ x y H Q=>∃ i j,x= .str i/\y= .str j/\Q (.bl (!(Builtin.Str.occurrences j i 0 j.length 1).isEmpty)) H):=by
 intro xC s σ H x y v u Q I rx ry h;obtain ⟨i,j,rfl,rfl,q⟩:=h;obtain ⟨t,rfl⟩:=rx;obtain ⟨t',rfl⟩:=ry;exact in_str (q1a I q rfl)
def q7b:OpR X (compareOp .Is) (λ x y H Q=>y= .non/\Q (.bl (decide (x= .non))) H):=by
  intro xC s σ H x y v u Q I rx ry h;obtain ⟨rfl,q⟩:=h;cases ry
  refine is_none_gen (q1a I q ?_);cases x <;> first
    | (cases rx;rfl)
    | (obtain ⟨t,rfl⟩:=rx;rfl)
def qt (b:Expr) {op:CmpOp} (h:op≠ .In:=by decide) (h2:op≠ .NotIn:=by decide):behindInMarks op b=false:=by
 have e1:(op==CmpOp.In)=false:=by cases op <;> first | rfl | exact absurd rfl h
 have e2:(op==CmpOp.NotIn)=false:=by cases op <;> first | rfl | exact absurd rfl h2
 cases b <;> simp [behindInMarks,e1,e2]
def q3o {op:CmpOp} {r:R2} (ho:OpR X (compareOp op) r) (ha:PE X a ta) (hb:PE X b tb) (hm:behindInMarks op b=false):PE X (.Compare a [op] [b] pos) (tOp r ta tb):=by
 intro xC s σ H Q I h;exact wpAny_Compare1 (binT ha hb I h λ v u s2 x y H2 I2 rx ry q=>ho xC s2 σ H2 x y v u Q I2 rx ry q) hm
def qva (t:TE):TT:=λ σ H Q=>t σ H λ x H'=>∃ k,x= .bl k/\Q k H'
def qq {op:CmpOp} {r:R2} (ho:OpR X (compareOp op) r) (ha:PE X a ta) (hb:PE X b tb) (hm:behindInMarks op b=false):PT X (.Compare a [op] [b] pos) (qva (tOp r ta tb)):=by
 intro xC s σ H Q I h;refine wpAny_isTrue_Compare1 (thn (ha xC s σ H _ I h) λ v s1 ⟨x,H1,I1,r1,q1⟩=>thn (hb xC s1 σ H1 _ I1 q1) λ u s2 ⟨y,H2,I2,r2,q2⟩=>
  thn (ho xC s2 σ H2 x y v u _ I2 r1 r2 q2) λ c s3 ⟨z,H3,I3,r3,k,e,q3⟩=> ?_) hm
 subst e;cases r3
 exact z23 ⟨H3,I3,q3⟩
def qqb (r r':R2) (ta tb tc:TE):TE:=λ σ H Q=>ta σ H λ x H1=>tb σ H1 λ y H2=>r x y H2 λ z H3=>∃ k,z= .bl k/\
 (if k=true then tc σ H3 λ w' H4=>r' y w' H4 Q else Q (.bl false) H3)
def qsv {op J:CmpOp} {r Z:R2} (ho:OpR X (compareOp op) r) (O:OpR X (compareOp J) Z) (ha:PE X a ta) (hb:PE X b tb) (hc:PE X c tc)
  (hm:lastMarks [op,J] [b,c]=false:=by with_unfolding_all rfl):PE X (.Compare a [op,J] [b,c] pos) (qqb r Z ta tb tc):=by
 intro xC s σ H Q I h;refine Compare_chain (thn (ha xC s σ H _ I h) λ v s1 ⟨x,H1,I1,r1,q1⟩=>chain_link (thn (hb xC s1 σ H1 _ I1 q1) λ u s2 ⟨y,H2,I2,r2,q2⟩=>
  thn (ho xC s2 σ H2 x y v u _ I2 r1 r2 q2) λ d s3 ⟨z,H3,I3,r3,k,e,q3⟩=> ?_)) hm
 subst e;cases r3
 refine z23 ?_;cases k with
 | false=>exact ite_ff ⟨.bl false,H3,I3,rfl,q3⟩
 | true=>exact ite_tt (chain_last (thn (hc xC s3 σ H3 _ I3 q3) λ w' s4 ⟨z',H4,I4,r4,q4⟩=>O xC s4 σ H4 y z' u w' Q I4 r2 r4 q4))
def qsw {op J:CmpOp} {r r':R2} (ho:OpR X (compareOp op) r) (O:OpR X (compareOp J) r') (ha:PE X a ta) (hb:PE X b tb) (hc:PE X c tc)
  (hm:lastMarks [op,J] [b,c]=false:=by with_unfolding_all rfl):PT X (.Compare a [op,J] [b,c] pos) (qva (qqb r r' ta tb tc)):=by
 intro xC s σ H Q I h;refine isTrue_chain (thn (ha xC s σ H _ I h) λ v s1 ⟨x,H1,I1,r1,q1⟩=>test_link (thn (hb xC s1 σ H1 _ I1 q1) λ u s2 ⟨y,H2,I2,r2,q2⟩=>
  thn (ho xC s2 σ H2 x y v u _ I2 r1 r2 q2) λ d s3 ⟨z,H3,I3,r3,k,e,q3⟩=> ?_)) hm
 subst e;cases r3
 refine z23 ?_;cases k with
 | false=>
  obtain ⟨k',e',q'⟩:=q3;cases e'
  exact ite_ff ⟨H3,I3,q'⟩
 | true=>
  refine ite_tt (test_last (thn (hc xC s3 σ H3 _ I3 q3) λ w' s4 ⟨z',H4,I4,r4,q4⟩=>thn (O xC s4 σ H4 y z' u w' _ I4 r2 r4 q4) λ d' s5 Z=> ?_));obtain ⟨z2,H5,I5,r5,k2,e2,q5⟩:=Z;subst e2;cases r5
  exact z23 ⟨H5,I5,q5⟩
def TruV (K:xA) (x:V) (H:Hp) (k:Bool):Prop:=
 match x with
 | .non=>k=false
 | .bl b=>k=b
 | .int i=>k=(i !=0)
 | .str y=>y.length<=sizeLine/\k=((y.length:Int) !=0)
 | .byt y=>y.size<=sizeLine/\k=((y.size:Int) !=0)
 | .ref p=>(∃ xs,SqL K H p xs/\k= !xs.isEmpty)\/ (∃ xs,SqT K H p xs/\k= !xs.isEmpty)\/ ∃ kvs,H p=some (.dK kvs)/\k= !kvs.isEmpty
 | _=>False
def qom {κ:Type} {kvs:List (κ×V)} {vs:List (κ×Value)} (r:KV kvs vs):(!vs.isEmpty)= !kvs.isEmpty:=by
 cases r <;> rfl
def qed {xs:List V} {its:xH} (r:Vals xs its):(!its.toArray.isEmpty)= !xs.isEmpty:=by
 cases r <;> simp
def qee:(sizeLine:Nat) < 2^63:=by rw [sizeLine_eq];decide
def qyc:TruR X (λ x H Q=>∃ k,TruV X.K x H k/\Q k H):=by
 intro xC s σ H x v Q I rx h;obtain ⟨k,e,q⟩:=h;have hl:=qee;have hs:sizeLine=16777216:=sizeLine_eq;cases x with
 | non=>
  cases rx
  have e':k=false:=e;subst e';exact truthy_none ⟨H,I,q⟩
 | bl b=>
  cases rx
  have e':k=b:=e;subst e';exact z23 ⟨H,I,q⟩
 | int i=>
  obtain ⟨t,rfl⟩:=rx;have e':k=(i !=0):=e;subst e';exact PySem.P.truthy_int ⟨H,I,q⟩
 | str y=>
  obtain ⟨t,rfl⟩:=rx;obtain ⟨hy,e'⟩:y.length<=sizeLine/\k=((y.length:Int) !=0):=e;subst e';exact PySem.P.truthy_str (by lia) ⟨H,I.tok _,q⟩
 | byt y=>
  obtain ⟨t,rfl⟩:=rx;obtain ⟨hy,e'⟩:y.size<=sizeLine/\k=((y.size:Int) !=0):=e;subst e';exact PySem.W.truthy_bytes (by lia) ⟨H,I.tok _,q⟩
 | ref p=>
  cases rx
  have e':(∃ xs,SqL X.K H p xs/\k= !xs.isEmpty)\/ (∃ xs,SqT X.K H p xs/\k= !xs.isEmpty)\/ ∃ kvs,H p=some (.dK kvs)/\k= !kvs.isEmpty:=e;rcases e' with ⟨xs,hx,e'⟩ | ⟨xs,hx,e'⟩ | ⟨kvs,hx,e'⟩
  ·subst e';obtain ⟨its,r,pl,hz⟩:=I.list hx;have J:=r.length;exact wpAny_truthy_list pl.isList (by simp only [z22];lia) ⟨H,I.tok _,by rw [qed r];exact q⟩
  ·subst e';obtain ⟨its,r,pl,hz⟩:=I.tuple hx;have J:=r.length;exact truthy_tuple pl (by simp only [z22];lia) ⟨H,I.tok _,by rw [qed r];exact q⟩
  ·subst e';obtain ⟨hz,hS,vs,r,m⟩:kvs.length<=sizeLine/\(p==sysModules)=false/\∃ vs,KV kvs vs/\s.heap.DictOf (q17 X.prog X.w) p vs:=I.hok p _ hx;have J:kvs.length=vs.length:=Paired.length r;exact wpAny_truthy_dict hS m (by lia) ⟨H,I.tok _,by rw [qom r];exact q⟩
 | _=>exact (show False from e).elim
def qki (ha:PE X a ta) (he:∀ J,isTrue a X.env J=(do let v <- J;standAt a.pos;holding [v] (truthy v))):
  PT X a (λ σ H Q=>ta σ H λ x H'=>∃ k,TruV X.K x H' k/\Q k H'):=by
 intro xC s σ H Q I h;exact isTrue_plain (thn (ha xC s σ H _ I h) λ v s1 ⟨x,H1,I1,r1,q1⟩=>qyc xC s1 σ H1 x v Q I1 r1 q1) (he _)
def q70:OpR X (binaryOp .Add) (λ x y H Q=>∃ i j,x= .str i/\y= .str j/\i.length+j.length<=sizeLine/\Q (.str (i++j)) H):=by
 intro xC s σ H x y v u Q I rx ry h;obtain ⟨i,j,rfl,rfl,hz,q⟩:=h;obtain ⟨t,rfl⟩:=rx;obtain ⟨t',rfl⟩:=ry;exact add_str (λ t' tk=>⟨.str (i++j),H,I.tok _,⟨_,zr⟩,q⟩) hz
def q2x {x:V} {us:xH} (r:Vals [x] us):∃ u,us=[u]/\RelV x u:=by
 cases r with
 | cons r1 r2=>cases r2;exact ⟨_,rfl,r1⟩
def qef {x y:V} {us:xH} (r:Vals [x,y] us):∃ u J,us=[u,J]/\RelV x u/\RelV y J:=by
 cases r with
 | cons r1 r2=>
  cases r2 with
  | cons r3 r4=>cases r4;exact ⟨_,_,rfl,r1,r3⟩
def qkj:q1v X (.builtin "abs") (λ xs H Q=>∃ i,xs=[.int i]/\Q (.int (if i < 0 then -i else i)) H):=by
 intro xC s σ H xs us Q I r h;obtain ⟨i,rfl,q⟩:=h;obtain ⟨u,rfl,t,rfl⟩:=q2x r;exact call_abs_int λ u tk=>⟨.int (if i < 0 then -i else i),H,I.tok _,⟨_,rfl⟩,q⟩
def qqc (hc:X.calm=true):q1v X (.builtin "max") (λ xs H Q=>∃ i j,xs=[.int i,.int j]/\Q (.int (if j > i then j else i)) H):=by
 intro xC s σ H xs us Q I r h;obtain ⟨i,j,rfl,q⟩:=h;obtain ⟨u,w',rfl,⟨t,rfl⟩,⟨t',rfl⟩⟩:=qef r;refine max_two_ints (I.ok.hd hc) λ h' tk k=>⟨_,H,I.kept k,?_,q⟩;by_cases J:j > i
 ·rw [if_pos J,if_pos J];exact ⟨_,rfl⟩
 ·rw [if_neg J,if_neg J];exact ⟨_,rfl⟩
def qal (hc:X.calm=true):q1v X (.builtin "min") (λ xs H Q=>∃ i j,xs=[.int i,.int j]/\Q (.int (if j < i then j else i)) H):=by
 intro xC s σ H xs us Q I r h;obtain ⟨i,j,rfl,q⟩:=h;obtain ⟨u,w',rfl,⟨t,rfl⟩,⟨t',rfl⟩⟩:=qef r;refine min_two_ints (I.ok.hd hc) λ h' tk k=>⟨_,H,I.kept k,?_,q⟩;by_cases J:j < i
 ·rw [if_pos J,if_pos J];exact ⟨_,rfl⟩
 ·rw [if_neg J,if_neg J];exact ⟨_,rfl⟩
def LenV (K:xA) (x:V) (H:Hp) (n:Nat):Prop:=
 match x with
 | .str y=>y.length<=sizeLine/\n=y.length
 | .byt y=>y.size<=sizeLine/\n=y.size
 | .ref p=>(∃ xs,SqL K H p xs/\n=xs.length)\/ ∃ xs,SqT K H p xs/\n=xs.length
 | _=>False
def qsx:q1v X (.builtin "len") (λ xs H Q=>∃ x n,xs=[x]/\LenV X.K x H n/\Q (.int n) H):=by
 intro xC s σ H xs us Q I r h;obtain ⟨x,n,rfl,e,q⟩:=h;obtain ⟨u,rfl,rx⟩:=q2x r;have hl:=qee;have hs:sizeLine=16777216:=sizeLine_eq;cases x with
 | str y=>
  obtain ⟨t,rfl⟩:=rx;obtain ⟨hy,e'⟩:y.length<=sizeLine/\n=y.length:=e;subst e';exact len_str (by lia) ⟨.int _,H,I.tok _,⟨_,zr⟩,q⟩
 | byt y=>
  obtain ⟨t,rfl⟩:=rx;obtain ⟨hy,e'⟩:y.size<=sizeLine/\n=y.size:=e;subst e';exact PySem.W.len_bytes (by lia) ⟨.int _,H,I.tok _,⟨_,zr⟩,q⟩
 | ref p=>
  cases rx
  have e':(∃ xs,SqL X.K H p xs/\n=xs.length)\/ ∃ xs,SqT X.K H p xs/\n=xs.length:=e;rcases e' with ⟨xs,hx,e'⟩ | ⟨xs,hx,e'⟩
  ·subst e';obtain ⟨its,O,pl,hz⟩:=I.list hx;have J:=O.length;exact Calls.call_len_list pl.isList (by simp only [z22];lia) ⟨.int xs.length,H,I.tok _,⟨_,by simp only [z22];rw [J]⟩,q⟩
  ·subst e';obtain ⟨its,O,pl,hz⟩:=I.tuple hx;have J:=O.length;exact len_tuple pl (by simp only [z22];lia) ⟨.int xs.length,H,I.tok _,⟨_,by simp only [z22];rw [J]⟩,q⟩
 | _=>exact (show False from e).elim
end
structure ObjM (h:Heap) (x dx C:Addr) (mA:xE):Prop where
 obj:h.get? x=some (PySem.W.instObj C dx)
 ns:h.Ns1 dx mA
 ne:dx≠x
def qqd {h:Heap} {dx:Addr} {mA:xE} (n:h.Ns1 dx mA):∃ O,h.get? dx=some O/\∀ name,PySem.W.lookIn name O=some (mA name):=by
 obtain ⟨o,es,ep,ho,hd,hk,_,hm⟩:=n;refine ⟨o,ho,λ name=> ?_⟩;have e:=hm name;unfold nsFind findBy at e;rw [<- Array.find?_toList] at e;unfold PySem.W.lookIn;rw [hd]
 dsimp only
 split
 ·rename_i y q;rw [q] at e;exact congrArg some e
 ·rename_i q;rw [q] at e;have a:es.toList.any (·.refKey)=false:=by
   rw [List.any_eq_false];intro y hy;obtain ⟨z,t,J⟩:=hk y (Array.mem_toList_iff.mp hy);simp [DictEntry.refKey,J]
  have a':¬ es.toList.any (·.refKey)=true:=by rw [a];exact z1k
  rw [if_neg a'];exact congrArg some e
def ObjM.look {h:Heap} {x dx C:Addr} {mA:xE} (I:ObjM h x dx C mA):∃ J,PySem.W.InstAt h x (PySem.W.instObj C dx) C (some J)/\∀ name,PySem.W.lookIn name J=some (mA name):=
 let ⟨J,ho,hl⟩:=qqd I.ns
 ⟨J,⟨I.obj,rfl,rfl,ho⟩,hl⟩
section
variable {prog:Program} {w:World} {A:Around} {E:xB} {s:Shared} {K:xA} {x dx C f:Addr} {mA:xE} {name:Str} {v:Value}
def qw3 {O:Bool} {Q:xB} (X:K.In s.heap) (I:ObjM s.heap x dx C mA) (hg:PySem.W.plainGet K C name=true) (hh:PySem.W.hasDictIn K C=true)
  (ha:PySem.W.findIn K (.ref C) name=some none) (hv:mA name=some v) (Z:PySem.W.handedIn v=true) (h:Q v {s with toks:=s.toks+1}):
  wpAny (model prog w) A (getAttr (.ref x) name O) Q E s:=by
 obtain ⟨od,J,hl⟩:=I.look;exact PySem.W.get_value X J (PySem.W.plainGet_of hg).1 (PySem.W.findObj_own hh ha rfl (by rw [hl,hv])) Z h
def qsy {pl:Sem Bool} {Q:Value×List Value ->Shared ->Prop} (X:K.In s.heap) (I:ObjM s.heap x dx C mA) (O:PySem.W.plainGet K C name=true)
  (hf:PySem.W.findIn K (.ref C) name=some (some (.ref f))) (ht:PySem.W.isFn K (.ref f)=true) (hv:mA name=none) (h:Q (.ref f,[.ref x]) s):
  wpAny (model prog w) A (getMethod (.ref x) name pl) Q E s:=by
 obtain ⟨od,J,hl⟩:=I.look;exact PySem.W.method_fn X J (PySem.W.plainGet_of O).1 (PySem.W.plainGet_of O).2 hf (beq_iff_eq.mp ht) (by show (PySem.W.lookIn name od).map (·.isSome)=some false;rw [hl,hv];rfl) h
def qw4 {ns:xD} {Q:Unit ->Shared ->Prop} (X:K.In s.heap) (I:ObjM s.heap x dx C mA)
  (hs:PySem.W.findIn K (.ref C) "__setattr__"=some (some (.builtin "object.__setattr__"))) (hp:PySem.W.plainOver K C=true) (ht:PySem.W.takerIn K C name=some none) (hh:PySem.W.hasDictIn K C=true)
  (hw:PySem.Within mA ns) (hsz:ns.length<=sizeLine)
  (h:∀ h',ObjM h' x dx C (λ y=>if y=name then some v else mA y) ->Heap.SameBut dx s.heap h' ->Q () {s with heap:=h',toks:=s.toks+2}):
  wpAny (model prog w) A (setAttr (.ref x) name v) Q E s:=by
 obtain ⟨od,J,hl⟩:=I.look;refine PySem.W.set_plain X J hs (PySem.W.osa_open (s:={s with toks:=s.toks+1}) (r:=none) X J hp ht λ b=> ?_);obtain ⟨cd,hc,a2⟩:=PySem.W.any_some hh;have hx:s.heap.get? x=some ⟨.ref C,some dx,.plain,#[]⟩:=I.obj;refine z4e (z4d (z4e (z4e (wpAny_loadPart hx (z4e (PySem.W.Looks.here (s:={s with toks:=s.toks+1}) (PySem.W.looks_clsIn X hc) ?_))))));rw [a2];refine z4d (a:=some dx) (z4e (z4d (z4e ?_)));refine wpAny_nsSet1 (s:={s with toks:=s.toks+1}) I.ns λ h' O Z=> ?_;obtain ⟨oD,esD,epD,a4,a3,a1⟩:=O.count (PySem.Within.cons name v hw);refine z4e (wpAny_lookBehind a4 (by rw [a3];exact pastItsLine_dict (z40 a1 (by rw [z2h];lia))) ?_);exact z4d (h _ ⟨(Z.2 _ (Ne.symm I.ne)).trans I.obj,O,I.ne⟩ Z)
def qsz {R:Result ->Shared ->Prop} {vs:xH} {J:List (Str×Value)} (X:K.In s.heap) (hm:PySem.W.makesIn K C=true)
  (hi:PySem.W.findIn K (.ref C) "__init__"=some (some (.ref f))) (hf:PySem.W.typeIn K (.ref f)=some (.type "function"))
  (h:codeAny (model prog w) (A.under (.builtin "type.__call__" ⟨.ref C::vs,J⟩)) (.call (.ref f) ⟨.ref (s.heap.objs.size+1)::vs,J⟩) (PySem.W.InitBack (s.heap.objs.size+1) R)
   {s with heap:=(s.heap.push PySem.W.emptyDict).push (PySem.W.instObj C s.heap.objs.size)}):
  codeAny (model prog w) A (.call (.ref C) ⟨vs,J⟩) R s:=by
 obtain ⟨hh,g,d,t,os⟩:=s;exact PySem.W.make_core (PySem.W.makes_of X hm) (PySem.W.looks_findIn X hi) (λ self=>PySem.W.bind_fn X self hf) (.inl rfl) h
def qqe {R:Result ->Shared ->Prop} (X:K.In s.heap) (hm:PySem.W.makesIn K C=true)
  (hi:PySem.W.findIn K (.ref C) "__init__"=some (some (.builtin "object.__init__")))
  (hb:∀ self,PySem.W.Looks (model prog w) s.heap (bindSpecial (.builtin "object.__init__") self) (.builtin "object.__init__",[self]))
  (h:codeAny (model prog w) (A.under (.builtin "type.__call__" ⟨[.ref C],[]⟩)) (.call (.builtin "object.__init__") ⟨[.ref (s.heap.objs.size+1)],[]⟩) (PySem.W.InitBack (s.heap.objs.size+1) R)
   {s with heap:=(s.heap.push PySem.W.emptyDict).push (PySem.W.instObj C s.heap.objs.size)}):
  codeAny (model prog w) A (.call (.ref C) ⟨[],[]⟩) R s:=by
 obtain ⟨hh,g,d,t,os⟩:=s;exact PySem.W.make_core (PySem.W.makes_of X hm) (PySem.W.looks_findIn X hi) hb (.inr ⟨zr,zr⟩) h
end
def putF (f:Str) (v:V):List (Str×V) ->List (Str×V)
 | []=>[(f,v)]
 | (g,x)::r=>if g=f then (g,v)::r else (g,x)::putF f v r
theorem qch (f g:Str) (v:V):∀ fs:List (Str×V),(putF f v fs).lookup g=if g=f then some v else fs.lookup g
  | []=>by
    show List.lookup g [(f,v)]=_;by_cases h:g=f
    · have hb:(g==f)=true:=beq_iff_eq.mpr h
      simp only [List.lookup,hb,if_pos h]
    · have hb:(g==f)=false:=beq_eq_false_iff_ne.mpr h
      simp only [List.lookup,hb,if_neg h]
  | (k,x)::r=>by
    have ih:=qch f g v r;rw [show putF f v ((k,x)::r)=(if k=f then (k,v)::r else (k,x)::putF f v r) from rfl];by_cases hk:k=f
    · rw [if_pos hk]
      by_cases h:g=k
      · have hb:(g==k)=true:=beq_iff_eq.mpr h
        simp only [List.lookup,hb,if_pos (h.trans hk)]
      · have hb:(g==k)=false:=beq_eq_false_iff_ne.mpr h
        simp only [List.lookup,hb,if_neg (λ e:g=f=>h (e.trans hk.symm))]
    · rw [if_neg hk]
      by_cases h:g=k
      · have hb:(g==k)=true:=beq_iff_eq.mpr h
        simp only [List.lookup,hb,if_neg (λ e:g=f=>hk (h.symm.trans e))]
      · have hb:(g==k)=false:=beq_eq_false_iff_ne.mpr h
        simp only [List.lookup,hb];exact ih
theorem qam (f:Str) (v:V):∀ fs:List (Str×V),f∈(putF f v fs).map (·.1)/\∀ g,g∈fs.map (·.1) ->g∈(putF f v fs).map (·.1)
  | []=>⟨by simp [putF],λ g h=>by simp at h⟩
  | (k,x)::r=>by
    obtain ⟨i1,i2⟩:=qam f v r;rw [show putF f v ((k,x)::r)=(if k=f then (k,v)::r else (k,x)::putF f v r) from rfl];by_cases hk:k=f
    · rw [if_pos hk]
      subst hk;exact ⟨by simp,λ g h=>by simpa using h⟩
    · rw [if_neg hk]
      refine ⟨?_,λ g h=> ?_⟩
      · rw [z3k]
        exact z15 _ i1
      · rw [z3k] at h ⊢
        rcases z3m.mp h with e | e
        · exact z3m.mpr (.inl e)
        · exact z15 _ (i2 g e)
theorem qci (f:Str) (v:V):∀ fs:List (Str×V),(putF f v fs).length<=fs.length+1
  | []=>by simp [putF]
  | (k,x)::r=>by
    have ih:=qci f v r;rw [show putF f v ((k,x)::r)=(if k=f then (k,v)::r else (k,x)::putF f v r) from rfl];by_cases hk:k=f
    · rw [if_pos hk,z2h,z2h];lia
    · rw [if_neg hk,z2h,z2h];lia
def RelO.qbq {v:V} {o:Option Value} (r:RelO (some v) o):∃ u,o=some u/\RelV v u:=by
 cases o with
 | none=>exact (show False from r).elim
 | some u=>exact ⟨u,rfl,r⟩
def RelO.qw5 {o:Option Value} (r:RelO none o):o=none:=by
 cases o with
 | none=>rfl
 | some u=>exact (show False from r).elim
def qqf {v:V} {u:Value} (r:RelV v u):PySem.W.handedIn u=true:=by
 cases v with
 | non=>cases (show u=Value.none from r);rfl
 | bl b=>cases (show u=Value.bool b from r);rfl
 | int i=>obtain ⟨t,e⟩:=(show ∃ t,u=Value.int i t from r);cases e;rfl
 | str x=>obtain ⟨t,e⟩:=(show ∃ t,u=Value.str x t from r);cases e;rfl
 | byt b=>obtain ⟨t,e⟩:=(show ∃ t,u=Value.bytes b t from r);cases e;rfl
 | flt b=>obtain ⟨t,e⟩:=(show ∃ t,u=Value.float b t from r);cases e;rfl
 | ref a=>cases (show u=Value.ref a from r);rfl
 | ty n=>cases (show u=Value.type n from r);rfl
section
variable {P:Program} {w:World} {H H':Hp} {h h':Heap} {a C dx:Addr} {fs fs':List (Str×V)}
def qfy (hok:HOk P w H h) (e:H a=some (.ins C dx fs)):∃ mA,ObjM h a dx C mA/\(∀ f,RelO (fs.lookup f) (mA f))/\PySem.Within mA (fs.map (·.1))/\fs.length<=1000/\H dx=some (.own a):=by
 obtain ⟨d,z,ne,ob,mA,n,r,q⟩:=(show ObjOk P w H h a (.ins C dx fs) from hok a _ e);exact ⟨mA,⟨ob,n,ne⟩,r,q,z,d⟩
end
structure Cls (K:xA) (C:Addr):Prop where
 pg:PySem.W.plainGet K C Str.empty=true
 hd:PySem.W.hasDictIn K C=true
 po:PySem.W.plainOver K C=true
 sa:PySem.W.findIn K (.ref C) "__setattr__"=some (some (.builtin "object.__setattr__"))
def Cls.get {K:xA} {C:Addr} (c:Cls K C) (f:Str):PySem.W.plainGet K C f=true:=c.pg
def NoAttr (K:xA) (C:Addr) (f:Str):Prop:=PySem.W.findIn K (.ref C) f=some none
def NoAttr.taker {K:xA} {C:Addr} {f:Str} (n:NoAttr K C f):PySem.W.takerIn K C f=some none:=by
 unfold PySem.W.takerIn;rw [show PySem.W.findIn K (.ref C) f=some none from n];rfl
structure Meth (K:xA) (C:Addr) (m:Str) (f:Addr):Prop where
 at_:PySem.W.findIn K (.ref C) m=some (some (.ref f))
 fn:PySem.W.isFn K (.ref f)=true
 kp:PySem.W.keepIn K (.ref f)=true
section
variable {X:Cx} {xC:xG} {σ:St} {H:Hp} {s:Shared} {a C dx:Addr} {fs:List (Str×V)} {f:Str} {v:V} {A:Around} {E:xB}
def qon {b:Bool} {Q:xB} (I:Inv X xC σ H s) (e:H a=some (.ins C dx fs)) (c:Cls X.K C) (n:NoAttr X.K C f) (l:fs.lookup f=some v)
  (h:∀ u s',Inv X xC σ H s' ->RelV v u ->Q u s'):wpAny (model X.prog X.w) A (getAttr (.ref a) f b) Q E s:=by
 obtain ⟨mA,O,r,_,_,_⟩:=qfy I.hok e;obtain ⟨u,hu,J⟩:=RelO.qbq (v:=v) (o:=mA f) (by rw [<- l];exact r f);exact qw3 I.kIn O (c.get f) c.hd n hu (qqf J) (h u _ (I.tok _) J)
def q95 {m:Str} {g:Addr} {pl:Sem Bool} {Q:Value×List Value ->Shared ->Prop} (I:Inv X xC σ H s) (e:H a=some (.ins C dx fs)) (c:Cls X.K C) (k:Meth X.K C m g) (l:fs.lookup m=none)
  (h:Q (.ref g,[.ref a]) s):wpAny (model X.prog X.w) A (getMethod (.ref a) m pl) Q E s:=by
 obtain ⟨mA,O,r,_,_,_⟩:=qfy I.hok e;have hn:mA m=none:=RelO.qw5 (by rw [<- l];exact r m);exact qsy I.kIn O (c.get m) k.at_ k.fn hn h
def qoo {y:V} {u:Value} {Q:Unit ->Shared ->Prop} (I:Inv X xC σ H s) (e:H a=some (.ins C dx fs)) (c:Cls X.K C) (n:NoAttr X.K C f) (hl:fs.length < 1000) (ry:RelV y u)
  (h:∀ s',Inv X xC σ (upd H a (.ins C dx (putF f y fs))) s' ->Q () s'):wpAny (model X.prog X.w) A (setAttr (.ref a) f u) Q E s:=by
 obtain ⟨mA,O,r,wi,_,ho⟩:=qfy I.hok e;have hz:(fs.map (·.1)).length<=sizeLine:=by rw [z2z,sizeLine_eq];lia
 refine qw4 I.kIn O c.sa c.po n.taker c.hd wi hz λ h' J sb=>h _ ?_;have hd:∃ o,h'.get? dx=some o:=let ⟨o,_,_,e',_⟩:=J.ns;⟨o,e'⟩
 refine I.write (x:=a) (e:=dx) (by rw [e];exact True.intro) (.inr ho) (λ b q hb z=>(sb.2 b hb).trans z) hd ?_;refine ⟨by rw [qi O.ne];exact ho,?_,O.ne,J.obj,_,J.ns,λ g=> ?_,λ g hg=> ?_⟩
 ·have:=qci f y fs;lia
 ·show RelO ((putF f y fs).lookup g) (if g=f then some u else mA g);rw [qch];by_cases q:g=f
  ·rw [if_pos q,if_pos q];exact ry
  ·rw [if_neg q,if_neg q];exact r g
 ·by_cases q:g=f
  ·rw [q];exact (qam f y fs).1
  ·refine (qam f y fs).2 g (wi g λ z=>hg ?_);show (if g=f then some u else mA g)=none;rw [if_neg q];exact z
def Inv.made (I:Inv X xC σ H s):Inv X xC σ (upd (upd H s.heap.objs.size (.own (s.heap.objs.size+1))) (s.heap.objs.size+1) (.ins C s.heap.objs.size []))
  {s with heap:=(s.heap.push PySem.W.emptyDict).push (PySem.W.instObj C s.heap.objs.size)}:=by
 have e1:(s.heap.push PySem.W.emptyDict).get? s.heap.objs.size=some PySem.W.emptyDict:=z1b s.heap rfl;have e2:((s.heap.push PySem.W.emptyDict).push (PySem.W.instObj C s.heap.objs.size)).get? (s.heap.objs.size+1)=some (PySem.W.instObj C s.heap.objs.size):=by
  have:=z1b (s.heap.push PySem.W.emptyDict) (o:=PySem.W.instObj C s.heap.objs.size) rfl
  rwa [z3e] at this
 have e3:(s.heap.push PySem.W.emptyDict).Ns s.heap.objs.size (λ _=>none):=⟨PySem.W.emptyDict,#[],_,e1,rfl,(λ e he=>absurd he (by simp)),λ _=>rfl⟩;have I1:=I.laid (a:=s.heap.objs.size) (o:= .own (s.heap.objs.size+1)) (h':=s.heap.push PySem.W.emptyDict) (t':=s.toks) (λ b u q=>z0n _ q) (z47 _) ⟨_,e1⟩;refine I1.laid (a:=s.heap.objs.size+1) (o:= .ins C s.heap.objs.size []) (t':=s.toks) (λ b u q=>z0n _ q) (Nat.le_of_eq (z3e _ _)) ?_;have ne:s.heap.objs.size≠s.heap.objs.size+1:=z3z (z2k _);refine ⟨by rw [qi ne,qb],z4a _,ne,e2,λ _=>none,(Heap.Ns1.of_empty e3).at λ o q=>z0n _ q,λ _=>True.intro,λ y hy=>absurd rfl hy⟩
def qw6 {prog:Program} {w:World} {env:Env} {e:Expr} {f:Str} {pos:Pos} {s:Shared} {Q:xB} (hb:attributeBase e f env (eval e env)=eval e env)
  (h:wpAny (model prog w) A (eval e env) (λ o s₁=>wpAny (model prog w) A (getAttr o f true) Q E s₁) E s):wpAny (model prog w) A (eval (.Attribute e f pos) env) Q E s:=
 Attribute_any_ h (by rw [arm_eval_Attribute,hb])
end
def tFld (K:xA) (ta:TE) (f:Str):TE:=λ σ H Q=>ta σ H λ x H1=>∃ a C dx fs v,x= .ref a/\H1 a=some (.ins C dx fs)/\Cls K C/\NoAttr K C f/\fs.lookup f=some v/\Q v H1
def sFld (K:xA) (ta tv:TE) (f:Str):TS:=λ D σ H=>tv σ H λ y H1=>ta σ H1 λ x H2=>∃ a C dx fs,x= .ref a/\H2 a=some (.ins C dx fs)/\Cls K C/\NoAttr K C f/\fs.length < 1000/\
 D.nx σ (upd H2 a (.ins C dx (putF f y fs)))
section
variable {X:Cx} {o e value:Expr} {f:Str} {pos pos' tpos:Pos} {ta tv:TE}
def qan (he:PE X e ta) (hb:attributeBase e f X.env (eval e X.env)=eval e X.env):PE X (.Attribute e f pos) (tFld X.K ta f):=by
 intro xC s σ H Q I h;refine qw6 hb (thn (he xC s σ H _ I h) λ u s1 J=> ?_);obtain ⟨x,H1,I1,rx,a,C,dx,fs,v,ex,ea,c,n,l,q⟩:=J;subst ex;obtain rfl:u=Value.ref a:=rx;exact qon I1 ea c n l λ u' s2 I2 ru=>⟨v,H1,I2,ru,q⟩
def qqg (ha:PE X o ta) (hv:PE X value tv) (hs:swapsWith value (some (.Attribute o f pos')) pos.line X.env=pure false):PS X (.Assign [.Attribute o f pos'] value pos) (sFld X.K ta tv f):=by
 intro xC s σ H D I h;refine plainObj_wpAny_Assign_Attribute (thn (hv xC s σ H _ I h) λ u s1 ⟨y,H1,I1,ry,q⟩=>thn (ha xC s1 σ H1 _ I1 q) λ ov s2 J=> ?_) hs;obtain ⟨x,H2,I2,rx,a,C,dx,fs,ex,ea,c,n,l,q2⟩:=J;subst ex;obtain rfl:ov=Value.ref a:=rx;exact qoo I2 ea c n l ry λ s3 I3=>⟨σ,_,I3,q2⟩
end
section
variable {X:Cx} {xC:xG} {σ:St} {H:Hp} {s:Shared} {A:Around} {E:xB} {Q:xB} {c:Value} {b:Bool}
end
structure Room (k:Nat) (A:Around):Prop where
 hd:A.handled=none
 dp:A.depth+3*k+5 < recursionLimit
 un:A.units+16*k+200 < cLine
def Room.mono {j k:Nat} {A:Around} (r:Room k A) (h:j<=k):Room j A:=⟨r.hd,by have:=r.dp;lia,by have:=r.un;lia⟩
theorem Room.deeper {k:Nat} {A:Around} (r:Room (k+1) A) (env:Env):Room k (A.deeper env):=
 ⟨r.hd,by have:=r.dp;show A.depth+1+3*k+5 < _;lia,by have:=r.un;show A.units+3+16*k+200 < _;lia⟩
def qop {A:Around} {C:Addr} {us:xH} {kw:List (Str×Value)}:(A.under (.builtin "type.__call__" ⟨.ref C::us,kw⟩)).depth=A.depth+1:=by
 first | rfl | simp [Around.under,Code.weight,Code.isCreation,Code.isGuard,Code.isCaller,Code.frames,Code.isFrame,guardIds]
def qoq {A:Around} {C:Addr} {us:xH} {kw:List (Str×Value)}:(A.under (.builtin "type.__call__" ⟨.ref C::us,kw⟩)).units=A.units+1:=by
 first | rfl | simp [Around.under,Code.cUnits,Code.frames,Code.isFrame]
def Room.make {k:Nat} {A:Around} (r:Room (k+1) A) (C:Addr) (us:xH) (kw:List (Str×Value)):Room k (A.under (.builtin "type.__call__" ⟨.ref C::us,kw⟩)):=
 ⟨r.hd,by have:=r.dp;rw [qop];lia,by have:=r.un;rw [qoq];lia⟩
theorem Room.depth {k:Nat} {A:Around} (r:Room k A):A.depth < recursionLimit:=by have:=r.dp;lia
theorem Room.units {k:Nat} {A:Around} (r:Room k A):A.units+64 < cLine:=by have:=r.un;lia
def tNil:TA:=λ _ H Q=>Q [] H
def q2l (ta:TE) (tr:TA):TA:=λ σ H Q=>ta σ H λ x H1=>tr σ H1 λ xs H2=>Q (x::xs) H2
section
variable {X:Cx} {e:Expr} {es:List Expr} {te:TE} {t:TA} {pos:Pos}
def q26:PA X [] tNil:=λ _ _ _ _ H Q I h=>Calls.spliced_nil ⟨[],H,I,.nil,h⟩
def qw7 (ha:PE X e te) (hr:PA X es t) (hs:starEach (e::es) X.env=(false,eval e X.env)::starEach es X.env:=by rfl):PA X (e::es) (q2l te t):=by
 intro pos xC s σ H Q I h;rw [hs];show wpAny _ _ (spliced ((false,eval e X.env)::backTo pos (starEach es X.env))) _ _ s;refine Calls.spliced_cons (thn (ha xC s σ H _ I h) λ u s1 J=> ?_);obtain ⟨x,H1,I1,r1,q1⟩:=J;exact thn (hr pos xC s1 σ H1 _ I1 q1) λ us s2 ⟨xs,H2,I2,r2,q2⟩=>⟨x::xs,H2,I2,.cons r1 r2,q2⟩
def tTup (t:TA):TE:=λ σ H Q=>t σ H λ xs H1=>xs.length<=sizeLine/\∀ p,H1 p=none ->Q (.ref p) (upd H1 p (.tup xs))
def tLst (t:TA):TE:=λ σ H Q=>t σ H λ xs H1=>xs.length<=sizeLine/\∀ p,H1 p=none ->Q (.ref p) (upd H1 p (.lst xs))
def q54 {x1} (h:PA X es t):PE X (.Tuple es x1 pos) (tTup t):=by
 intro xC s σ H Q I hq;refine wpAny_Tuple_spliced (thn (h pos xC s σ H _ I hq) λ us s1 ⟨xs,H1,I1,r,z,q⟩=>⟨by rw [<- r.length];exact z,?_⟩);have hf:H1 s1.heap.objs.size=none:=I1.hok.fresh (z47 _);refine ⟨.ref s1.heap.objs.size,upd H1 s1.heap.objs.size (.tup xs),I1.laid (t':=s1.toks) (λ b u e=>z0n _ e) (z47 _) ?_,zr,q _ hf⟩;exact ⟨z,us,r,⟨_,z1b _ rfl,zr,_,zr⟩⟩
def q1e (h:PA X es t):PE X (.List es pos) (tLst t):=by
 intro xC s σ H Q I hq;refine wpAny_List_spliced (thn (h pos xC s σ H _ I hq) λ us s1 ⟨xs,H1,I1,r,z,q⟩=>⟨by rw [<- r.length];exact z,?_⟩);have hf:H1 s1.heap.objs.size=none:=I1.hok.fresh (z47 _);refine ⟨.ref s1.heap.objs.size,upd H1 s1.heap.objs.size (.lst xs),I1.laid (t':=s1.toks) (λ b u e=>z0n _ e) (z47 _) ?_,zr,q _ hf⟩;exact ⟨z,us,0,r,z1b _ rfl⟩
end
abbrev Sp:=List V ->Hp ->VK ->XK ->Prop
abbrev CXT:=List Env ->Hp ->Shared ->XK ->Value ->Shared ->Prop
structure Env0 (P:Program) (w:World) (K:xA) (mg:xE) (base:Heap) (A:Around) (outer:List Env) (s:Shared) (H:Hp):Prop where
 frames:A.frames=some outer
 mod:Mod K mg base
 bs:∀ b o,base.get? b=some o ->s.heap.get? b=some o/\H b=none
 bsz:base.objs.size<=s.heap.objs.size
 funs:s.heap.FunFrames base outer
 frf:∀ b∈frs outer,H b=none
 hok:HOk P w H s.heap
 bare:AllBare s.gens
def CE (outer:List Env) (P:Program) (w:World) (H:Hp) (s:Shared) (Q:VK) (u:Value) (s':Shared):Prop:=
 ∃ v H',s'.os=s.os/\AllBare s'.gens/\Un (frs outer) [] H H' s.heap s'.heap/\HOk P w H' s'.heap/\RelV v u/\Q v H'
def CR (CX:CXT) (outer:List Env) (P:Program) (w:World) (H:Hp) (s:Shared) (Q:VK) (E:XK) (r:Result) (s':Shared):Prop:=
 match r with
 | .ok (.ret u)=>CE outer P w H s Q u s'
 | .ok _=>False
 | .error e=>CX outer H s E e s'
structure FnOk (P:Program) (w:World) (K:xA) (mg:xE) (base:Heap) (CX:CXT) (k:Nat) (f:Addr) (fd:FuncData) (ps:xD) (sp:Sp):Prop where
 len:∀ vs H Q E,sp vs H Q E ->vs.length=ps.length
 run:∀ (A:Around) (outer:List Env) (s:Shared) (H:Hp) (args:Args) (us:xH) (vs:List V) (Q:VK) (E:XK),Room k A ->Env0 P w K mg base A outer s H ->BindsTo s fd args (ps.zip us) ->Vals vs us ->sp vs H Q E ->
  codeAny (model P w) A (.call (.ref f) args) (CR CX outer P w H s Q E) s
theorem FnOk.mono {P:Program} {w:World} {K:xA} {mg:xE} {base:Heap} {CX:CXT} {j k:Nat} {f:Addr} {fd:FuncData} {ps:xD} {sp:Sp} (F:FnOk P w K mg base CX j f fd ps sp) (h:j<=k):
  FnOk P w K mg base CX k f fd ps sp:=⟨F.len,λ A outer s H args us vs Q E hr=>F.run A outer s H args us vs Q E (hr.mono h)⟩
def FnOk.imp {P:Program} {w:World} {K:xA} {mg:xE} {base:Heap} {CX:CXT} {k:Nat} {f:Addr} {fd:FuncData} {ps:xD} {sp J:Sp} (F:FnOk P w K mg base CX k f fd ps sp)
  (h:∀ vs H Q E,J vs H Q E ->sp vs H Q E):FnOk P w K mg base CX k f fd ps J:=
 ⟨λ vs H Q E q=>F.len vs H Q E (h _ _ _ _ q),λ A outer s H args us vs Q E hr he hb hv hs=>F.run A outer s H args us vs Q E hr he hb hv (h _ _ _ _ hs)⟩
def Env0.make {P:Program} {w:World} {K:xA} {mg:xE} {base:Heap} {A:Around} {outer:List Env} {s:Shared} {H:Hp} (e:Env0 P w K mg base A outer s H) (C:Addr) (us:xH) (kw:List (Str×Value)):
  Env0 P w K mg base (A.under (.builtin "type.__call__" ⟨.ref C::us,kw⟩)) outer s H:=⟨by first | exact e.frames | (simpa [Around.under,Code.envs,Code.isFrame,pushEnvs] using e.frames),e.mod,e.bs,e.bsz,e.funs,e.frf,e.hok,e.bare⟩
section
variable {X:Cx} {xC:xG} {σ:St} {H:Hp} {s s':Shared}
def Inv.env0 (I:Inv X xC σ H s):Env0 X.prog X.w X.K X.mg X.base X.A X.stack s H:=
 ⟨I.ok.frames,I.ok.mod,I.bs,z40 I.ok.bsz I.sz,I.stack,I.stkFree,I.hok,I.bare⟩
def Inv.after {Q:VK} {u:Value} (I:Inv X xC σ H s) (h:CE X.stack X.prog X.w H s Q u s'):EP X xC σ Q u s':=by
 obtain ⟨v,H',os,bare,un,hok,r,q⟩:=h;obtain ⟨hh,g,d,t,J⟩:=s';obtain rfl:J=s.os:=os;exact ⟨v,H',I.call (h':=hh) (g':=g) (d':=d) (t':=t) (ch:=[]) un hok bare (λ b z=>absurd z (by simp)),r,q⟩
end
def qor (sp:Sp) (dvs:List V) (E:XK) (t:TA):TE:=λ σ H Q=>t σ H λ vs H1=>sp (vs++dvs) H1 Q E
def qvb (C:Addr) (m:Str) (sp:Sp) (dvs:List V) (E:XK) (ta:TE) (t:TA):TE:=λ σ H Q=>ta σ H λ x H1=>∃ a dx fs,x= .ref a/\H1 a=some (.ins C dx fs)/\fs.lookup m=none/\
 t σ H1 λ vs H2=>sp (x::(vs++dvs)) H2 Q E
def qjw (C:Addr) (sp:Sp) (dvs:List V) (E:XK) (t:TA):TE:=λ σ H Q=>t σ H λ vs H1=>∀ x dx,H1 x=none ->H1 dx=none ->dx≠x ->
 sp (.ref x::(vs++dvs)) (upd (upd H1 dx (.own x)) x (.ins C dx [])) (λ v H2=>v= .non/\Q (.ref x) H2) E
def Binds (K:xA) (fd:FuncData) (ps:xD) (ds:xH):Prop:=
 ∀ (s:Shared) (us:xH),K.In s.heap ->(us++ds).length=ps.length ->BindsTo s fd ⟨us,[]⟩ (ps.zip (us++ds))
def Binds.all {K:xA} {fd:FuncData} {ps:xD} (h:∀ us:List Value,us.length=ps.length ->bindArgs fd ⟨us,[]⟩=pure (ps.zip us)):Binds K fd ps []:=λ s us _ hl=>by
 rw [z30] at hl ⊢;exact .of_eq (h us hl)
def q3l (CX:CXT) (X:Cx) (E:XK):Prop:=∀ (xC:xG) (σ:St) (H:Hp) (s:Shared) (e:Value) (s':Shared),Inv X xC σ H s ->CX X.stack H s E e s' ->X.xe e s'
section
variable {X:Cx} {CX:CXT} {k:Nat} {f C:Addr} {fd:FuncData} {ps:xD} {sp:Sp} {dvs:List V} {ds:xH} {E:XK} {x m:Str} {p pos apos:Pos} {e o:Expr} {es:List Expr} {ta:TE} {t:TA}
def qeg {xC:xG} {σ:St} {H:Hp} {s:Shared} {Q:VK} {us:xH} {vs:List V} (F:FnOk X.prog X.w X.K X.mg X.base CX k f fd ps sp) (hr:Room k X.A) (hb:Binds X.K fd ps ds) (hd:Vals dvs ds) (hx:q3l CX X E)
  (I:Inv X xC σ H s) (r:Vals vs us) (h:sp (vs++dvs) H Q E):wpAny (model X.prog X.w) X.A (call (.ref f) us) (EP X xC σ Q) X.xe s:=by
 have r2:Vals (vs++dvs) (us++ds):=r.append hd;have hl:(us++ds).length=ps.length:=by rw [<- r2.length];exact F.len _ _ _ _ h
 refine wpAny_call (z42 (F.run X.A X.stack s H ⟨us,[]⟩ (us++ds) (vs++dvs) Q E hr I.env0 (hb s us I.kIn hl) r2 h) λ r s' hq=> ?_);cases r with
 | error e=>exact hx xC σ H s e s' I hq
 | ok fl=>
  cases fl with
  | ret u=>exact I.after hq
  | next=>exact False.elim hq
  | brk=>exact False.elim hq
  | cont=>exact False.elim hq
def qng (F:FnOk X.prog X.w X.K X.mg X.base CX k f fd ps sp) (hr:Room k X.A) (hg:Gl X x) (hm:X.mg x=some (.ref f)) (hk:PySem.W.keepIn X.K (.ref f)=true) (hb:Binds X.K fd ps ds) (hd:Vals dvs ds) (hx:q3l CX X E)
  (ha:PA X (e::es) t) (J:(x==("__debug__":Str))=false:=by decide) (he:starEach (e::es) X.env=(false,eval e X.env)::starEach es X.env:=by rfl) (O:(backTo pos (starEach es X.env)).any (·.1)=false:=by rfl):
  PE X (.Call (.Name x p) (e::es) [] pos) (qor sp dvs E t):=by
 intro xC s σ H Q I h;refine z1r (q4v I hg hm ?_ J);refine PySem.W.callWith_K (h₀:=X.base) I.ok.mod.kin hk (thn (ha pos xC s σ H _ I h) λ us s1 ⟨vs,H1,I1,r,q⟩=>⟨I1.kIn,?_⟩) he O;exact qeg F hr hb hd hx I1 r q
def qw8 {pl:Sem Bool} (he:PE X o ta) (c:Cls X.K C) (hm:Meth X.K C m f) (F:FnOk X.prog X.w X.K X.mg X.base CX k f fd ps sp) (hr:Room k X.A) (hb:Binds X.K fd ps ds) (hd:Vals dvs ds) (hx:q3l CX X E) (ha:PA X (e::es) t)
  (O:starEach (e::es) X.env=(false,eval e X.env)::starEach es X.env:=by rfl) (J:(backTo pos (starEach es X.env)).any (·.1)=false:=by rfl)
  (ht:eval (.Call (.Attribute o m apos) (e::es) [] pos) X.env=(do
   let ov <- eval o X.env
   standAt apos.atName
   let (f,first) <- holding [ov] (getMethod ov m pl)
   callWith pos f first (backTo pos (starEach (e::es) X.env)) (backToKw pos (keywordEach [] X.env))):=by rfl):
  PE X (.Call (.Attribute o m apos) (e::es) [] pos) (qvb C m sp dvs E ta t):=by
 intro xC s σ H Q I h;refine PySem.W.methodCall_KW (pl:=pl) (thn (he xC s σ H _ I h) λ u s1 Z=> ?_) ht;obtain ⟨x,H1,I1,rx,a,dx,fs,ex,ea,l,q⟩:=Z;subst ex;obtain rfl:u=Value.ref a:=rx;refine q95 I1 ea c hm l ?_;refine PySem.W.callWith_K (first:=[.ref a]) (h₀:=X.base) I.ok.mod.kin hm.kp (thn (ha pos xC s1 σ H1 _ I1 q) λ us s2 ⟨vs,H2,I2,r,q2⟩=>⟨I2.kIn,?_⟩) O J;exact qeg (us:= .ref a::us) (vs:= .ref a::vs) F hr hb hd hx I2 (.cons rfl r) q2
structure Mk (K:xA) (C f:Addr):Prop where
 makes:PySem.W.makesIn K C=true
 init:PySem.W.findIn K (.ref C) "__init__"=some (some (.ref f))
 fn:PySem.W.isFn K (.ref f)=true
 kp:PySem.W.keepIn K (.ref C)=true
def qkk {xC:xG} {σ:St} {H:Hp} {s:Shared} {Q:VK} {us:xH} {vs:List V} (M:Mk X.K C f) (F:FnOk X.prog X.w X.K X.mg X.base CX k f fd ps sp) (hr:Room (k+1) X.A) (hb:Binds X.K fd ps ds) (hd:Vals dvs ds)
  (hx:q3l CX X E) (I:Inv X xC σ H s) (r:Vals vs us)
  (h:∀ x dx,H x=none ->H dx=none ->dx≠x ->sp (.ref x::(vs++dvs)) (upd (upd H dx (.own x)) x (.ins C dx [])) (λ v H2=>v= .non/\Q (.ref x) H2) E):
  wpAny (model X.prog X.w) X.A (call (.ref C) us) (EP X xC σ Q) X.xe s:=by
 have hq:=h (s.heap.objs.size+1) s.heap.objs.size (I.hok.fresh (Nat.le_succ _)) (I.hok.fresh (z47 _)) (z3z (z2k _));have I2:=Inv.made (C:=C) I;have r2:Vals (V.ref (s.heap.objs.size+1)::(vs++dvs)) (Value.ref (s.heap.objs.size+1)::(us++ds)):= .cons rfl (r.append hd);have hl:(Value.ref (s.heap.objs.size+1)::us++ds).length=ps.length:=by
  have e:=r2.length;rw [F.len _ _ _ _ hq] at e;exact e.symm
 refine wpAny_call (qsz (f:=f) I.kIn M.makes M.init (beq_iff_eq.mp M.fn) (z42 (F.run _ X.stack _ _ ⟨Value.ref (s.heap.objs.size+1)::us,[]⟩ (Value.ref (s.heap.objs.size+1)::(us++ds)) _ _ E (hr.make C us [])
  (I2.env0.make C us []) (hb _ (Value.ref (s.heap.objs.size+1)::us) I2.kIn hl) r2 hq) λ r s' J=> ?_))
 cases r with
 | error e=>exact hx xC σ _ _ e s' I2 J
 | ok fl=>
  cases fl with
  | ret u=>
   obtain ⟨v,H',I3,rv,ev,q3⟩:=I2.after J;subst ev;exact ⟨rv,⟨V.ref (s.heap.objs.size+1),H',I3,zr,q3⟩⟩
  | next=>exact False.elim J
  | brk=>exact False.elim J
  | cont=>exact False.elim J
def qw9 (M:Mk X.K C f) (F:FnOk X.prog X.w X.K X.mg X.base CX k f fd ps sp) (hr:Room (k+1) X.A) (hg:Gl X x) (hm:X.mg x=some (.ref C)) (hb:Binds X.K fd ps ds) (hd:Vals dvs ds) (hx:q3l CX X E)
  (ha:PA X (e::es) t) (J:(x==("__debug__":Str))=false:=by decide) (he:starEach (e::es) X.env=(false,eval e X.env)::starEach es X.env:=by rfl) (O:(backTo pos (starEach es X.env)).any (·.1)=false:=by rfl):
  PE X (.Call (.Name x p) (e::es) [] pos) (qjw C sp dvs E t):=by
 intro xC s σ H Q I h;refine z1r (q4v I hg hm ?_ J);refine PySem.W.callWith_K (h₀:=X.base) I.ok.mod.kin M.kp (thn (ha pos xC s σ H _ I h) λ us s1 ⟨vs,H1,I1,r,q⟩=>⟨I1.kIn,?_⟩) he O;exact qkk M F hr hb hd hx I1 r q
def qt0 (M:Mk X.K C f) (F:FnOk X.prog X.w X.K X.mg X.base CX k f fd ps sp) (hr:Room (k+1) X.A) (hg:Gl X x) (hm:X.mg x=some (.ref C)) (hb:Binds X.K fd ps ds) (hd:Vals dvs ds) (hx:q3l CX X E)
  (J:(x==("__debug__":Str))=false:=by decide):PE X (.Call (.Name x p) [] [] pos) (qjw C sp dvs E tNil):=by
 intro xC s σ H Q I h;refine z1r (q4v I hg hm ?_ J);exact PySem.W.callWith_K0 I.kIn M.kp (qkk (us:=[]) M F hr hb hd hx I .nil h)
end
section
variable {X:Cx} {CX:CXT} {k:Nat} {f C:Addr} {fd:FuncData} {ps ks:xD} {sp:Sp} {E:XK} {x m:Str} {p pos apos kpos:Pos} {e o:Expr} {es:List Expr} {kws:List Keyword} {te ta:TE} {t tk:TA} {nm:Option Str}
variable {g:List Value ->List Value ->List Value} {gV:List V ->List V ->List V}
end
structure FnScope (N P:xD) (sc:Scope):Prop where
 kind:sc.kind= .function
 co:sc.isCoroutine=false
 gen:sc.isGenerator=false
 nd:N.Nodup
 pre:N.take P.length=P
 par:∀ x∈P,sc.names.lookup x=some .local\/ sc.names.lookup x=some .cell
 nofree:∀ y∈sc.names,y.2≠ .free
theorem qhk {kindOf:Str ->Option NameKind} {x:Str}:∀ {J:List (Str×Value)} {m:xE},(∀ v,(x,v)∉J) ->bindL kindOf J m x=m x
  | [],_,_=>rfl
  | (n,v)::r,m,h=>by
    unfold bindL;rw [qhk λ w hw=>h w (z15 _ hw)];split
    · have:x≠n:=by rintro rfl;exact h v z1o
      simp [this]
    · rfl
theorem qhl {kindOf:Str ->Option NameKind} {x:Str}:∀ {J:List (Str×Value)} {m:xE},(∀ v,(x,v)∉J) ->bindC kindOf J m x=m x
  | [],_,_=>rfl
  | (n,v)::r,m,h=>by
    unfold bindC;rw [qhl λ w hw=>h w (z15 _ hw)];split
    · rfl
    · have:x≠n:=by rintro rfl;exact h v z1o
      simp [this]
theorem qhm {kindOf:Str ->Option NameKind} {x:Str} {v:Value}:∀ {P:xD} {vs:xH} {i:Nat} {m:xE},P.Nodup ->P[i]? =some x ->vs[i]? =some v ->kindOf x=some .local ->
  bindL kindOf (P.zip vs) m x=some v
 | [],_,_,_,_,h,_,_=>by simp at h
 | _::_,[],_,_,_,_,h,_=>by simp at h
 | p::P,w::vs,0,m,nd,h1,h2,hk=>by
  simp at h1 h2;subst h1;subst h2
  show bindL kindOf ((p,w)::P.zip vs) m p=_;unfold bindL;rw [qhk λ v hv=>(z31.mp nd).1 (List.of_mem_zip hv).1,if_pos hk];simp
 | p::P,w::vs,i+1,m,nd,h1,h2,hk=>by
  show bindL kindOf ((p,w)::P.zip vs) m x=_;unfold bindL;exact qhm (i:=i) (z31.mp nd).2 (by simpa using h1) (by simpa using h2) hk
theorem qhn {kindOf:Str ->Option NameKind} {x:Str} {v:Value}:∀ {P:xD} {vs:xH} {i:Nat} {m:xE},P.Nodup ->P[i]? =some x ->vs[i]? =some v ->kindOf x≠some .local ->
  bindC kindOf (P.zip vs) m x=some v
 | [],_,_,_,_,h,_,_=>by simp at h
 | _::_,[],_,_,_,_,h,_=>by simp at h
 | p::P,w::vs,0,m,nd,h1,h2,hk=>by
  simp at h1 h2;subst h1;subst h2
  show bindC kindOf ((p,w)::P.zip vs) m p=_;unfold bindC;rw [qhl λ v hv=>(z31.mp nd).1 (List.of_mem_zip hv).1,if_neg hk];simp
 | p::P,w::vs,i+1,m,nd,h1,h2,hk=>by
  show bindC kindOf ((p,w)::P.zip vs) m x=_;unfold bindC;exact qhn (i:=i) (z31.mp nd).2 (by simpa using h1) (by simpa using h2) hk
def start (N:xD) (vs:List V):St:=vs.map some++List.replicate (N.length - vs.length) none
def cxOf (CX:CXT) (P:Program) (w:World) (K:xA) (mg:xE) (base:Heap) (N:xD) (qual:Str) (scope:Scope) (f:Addr) (cd:Value) (A:Around) (outer:List Env) (s:Shared) (H:Hp) (E:XK):Cx where
 prog:=P
 w:=w
 K:=K
 mg:=mg
 base:=base
 A:=A.deeper (envOfC qual scope s.heap.objs.size f cd)
 N:=N
 s₀:=s
 H₀:=H
 env:=envOfC qual scope s.heap.objs.size f cd
 outer:=outer
 stack:=envOfC qual scope s.heap.objs.size f cd::outer
 ex:=[]
 calm:=true
 fn:=λ _=>true
 pn:=[]
 xe:=λ e s'=>wpAny (model P w) (A.deeper (envOfC qual scope s.heap.objs.size f cd)) (leaving (envOfC qual scope s.heap.objs.size f cd) e) (λ _ s''=>CX outer H s E e s'') (λ e' s''=>CX outer H s E e' s'') s'
def qkl {J:Scope} {n:Nat} {x:Str} (h:J.names.lookup x=some .cell):∃ c,(cellsFrom n J.names []).lookup x=some c:=by
 have q:=PySem.W.cellsFrom_some J.names n [] (.inl h);exact Option.isSome_iff_exists.mp q
def qqh {CX:CXT} {P:Program} {w:World} {K:xA} {mg:xE} {base:Heap} {N ps:xD} {qual:Str} {scope:Scope} {f:Addr} {cd:Value} {A:Around} {outer:List Env} {s s1:Shared} {H:Hp} {E:XK} {us:xH} {vs:List V}
    (S:FnScope N ps scope) (hd:A.handled=none) (J:Env0 P w K mg base A outer s H) (hl:vs.length=ps.length) (r:Vals vs us)
    (x:InCallC s s.heap.objs.size (bindL (envOfC qual scope s.heap.objs.size f cd).kindOf (ps.zip us) λ _=>none) (cellsFrom (s.heap.objs.size+1) scope.names []) (bindC (envOfC qual scope s.heap.objs.size f cd).kindOf (ps.zip us) λ _=>none) s1):
    Inv (cxOf CX P w K mg base N qual scope f cd A outer s H E) [] (start N vs) H s1:=by
  have hpl:ps.length<=N.length:=by have:=congrArg List.length S.pre;rw [z2f] at this;lia
  obtain ⟨h1,tk,rfl,hk⟩:=x.done;have O:∀ b:Addr,b∉(cxOf CX P w K mg base N qual scope f cd A outer s H E).ex:=λ b z=>absurd (show b∈([]:List Addr) from z) (by simp);refine ⟨⟨J.mod,S.kind,zr,zr,z47 _,λ y z c h1 h2=> ?_,λ y hy=> ?_,λ y c _ h=> ?_,λ _=>hd,Around.frames_deeper J.frames,.inr ⟨zr,zr⟩,λ b z=>absurd z (O b),J.bs,J.bsz,λ b _ _=>O b,λ b z=>absurd z (O b),J.funs,J.frf⟩,
    rfl,J.bare,Un.kept hk,⟨_,x.toInCall.ns,λ i y v h1 h2 h3=> ?_⟩,λ y c h=>⟨_,x.cell y c h⟩,J.hok.fresh (z47 _),λ y c h=> ?_,λ p Z=>absurd (show p∈([]:xG) from Z) (by simp),J.hok.kept hk,?_⟩
  · exact name_of_addr x.apart (z1c h1) (z1c h2)
  · have hy:scope.names.lookup y=some .cell\/ scope.names.lookup y=some .free:=hy
    rcases hy with hy | hy
    · exact qkl hy
    · exact absurd rfl (S.nofree _ (z1c hy))
  · exact z3x (x.above y c (z1c h))
  · have hi:i < vs.length:=by
      unfold start at h2;by_cases hi:i < vs.length
      · exact hi
      · rw [z05 (by simpa using hi)] at h2
        rw [List.getElem?_replicate] at h2;split at h2 <;> cases h2
    have ha:vs[i]? =some v:=by
      unfold start at h2;rw [List.getElem?_append_left (by simpa using hi),z21] at h2;cases e:vs[i]? with
      | none=>rw [e] at h2;cases h2
      | some a=>rw [e] at h2;cases h2;rfl
    obtain ⟨u,hu,rv⟩:=r.get ha;have Z:ps[i]? =some y:=by
      rw [<- S.pre,List.getElem?_take_of_lt (by lia)];exact h1
    have a1:ps.Nodup:=by rw [<- S.pre];exact S.nd.sublist (List.take_sublist _ _)
    refine ⟨u,rv,?_⟩;rcases S.par y (z17 Z) with k | k
    · exact .inl ⟨k,qhm a1 Z hu k⟩
    · obtain ⟨c,e⟩:=qkl (n:=s.heap.objs.size+1) k
      refine .inr ⟨.inl k,c,e,?_⟩;have q:=x.cell y c e;rw [qhn a1 Z hu (by show scope.names.lookup y≠_;rw [k];decide)] at q;exact q
  · exact J.hok.fresh (z3x (x.above y c (z1c h)))
  · unfold start
    show _=N.length;rw [z1n,z2z,List.length_replicate]
    lia
def qos {CX:CXT} {P:Program} {w:World} {K:xA} {mg:xE} {base:Heap} {k:Nat} {f:Addr} {name qual:Str} {params:Arguments} {body:List Stmt} {scope:Scope} {dV kV a1 pm cdv ct oc:Value} {an od:Option Addr}
  {a5:Array (Option Value)} {N ps:xD} {sp:Sp} (lk:K.lookup f=some ⟨oc,od,.func (PySem.W.fnOf name qual params body scope dV kV a1 pm an cdv ct),a5⟩) (a3:PySem.W.codeIn K cdv qual=true) (S:FnScope N ps scope)
  (len:∀ vs H Q E,sp vs H Q E ->vs.length=ps.length)
  (O:∀ (A:Around) (outer:List Env) (s:Shared) (H:Hp) (vs:List V) (Q:VK) (E:XK),Room k (A.deeper (envOfC qual scope s.heap.objs.size f cdv)) ->sp vs H Q E ->
   ∃ t,PSs (cxOf CX P w K mg base N qual scope f cdv A outer s H E) body t/\t {nx:=λ _ H'=>Q .non H',rt:=Q} (start N vs) H):
  FnOk P w K mg base CX (k+1) f (PySem.W.fnOf name qual params body scope dV kV a1 pm an cdv ct) ps sp:=by
 refine ⟨len,λ A outer s H args us vs Q E hr e0 hb r a2=> ?_⟩;have hl:=len _ _ _ _ a2;have KX:K.In s.heap:=e0.mod.kin.keeps λ b o e=>(e0.bs b o e).1;have a4:s.heap.NoLimit:=e0.mod.nolimit.keeps λ b o e=>(e0.bs b o e).1;have Z:∀ y∈ps.zip us,scope.names.lookup y.1=some .local\/ (scope.names.lookup y.1=some .cell/\((cellsFrom (s.heap.objs.size+1) scope.names []).lookup y.1).isSome=true):=λ ⟨n,v⟩ hy=>by
  rcases S.par n (List.of_mem_zip hy).1 with q | q
  ·exact .inl q
  ·exact .inr ⟨q,PySem.W.cellsFrom_some _ _ _ (.inl q)⟩
 refine codeAny_call_function hr.depth (KX _ _ lk) rfl S.co S.gen rfl (PySem.W.codeRec_of KX a3) (hb _ _ _ _ ?_);refine wpAny_newFunctionEnv_cells S.kind Z λ env he s1 x=> ?_;subst he;refine ⟨a4.keeps x.toInCall.keep,codeAny_func ?_⟩;obtain ⟨t,ht,hq⟩:=O A outer s H vs Q E (hr.deeper _) a2;have I:Inv (cxOf CX P w K mg base N qual scope f cdv A outer s H E) [] (start N vs) H s1:=qqh S hr.hd e0 hl r x;refine z4f (ht [] s1 (start N vs) H _ I hq) (λ fl s' hs=> ?_) λ e s' hs=>hs;have fin:∀ {σ':St} {H':Hp} {v:V} {u:Value},Inv (cxOf CX P w K mg base N qual scope f cdv A outer s H E) [] σ' H' s' ->RelV v u ->Q v H' ->CE outer P w H s Q u s':=
  λ {σ' H' v u} J rv q=>⟨v,H',J.os,J.bare,J.base,J.hok,rv,q⟩
 cases fl with
 | ret u=>
  obtain ⟨v,σ',H',J,rv,q⟩:=hs;exact fin J rv q
 | next=>
  obtain ⟨σ',H',J,q⟩:=hs;exact fin (v:=V.non) (u:=Value.none) J rfl q
 | brk=>
  obtain ⟨_,_,_,q⟩:=hs;exact False.elim q
 | cont=>
  obtain ⟨_,_,_,q⟩:=hs;exact False.elim q
section
variable {X:Cx} {x:Str} {p pos:Pos} {e:Expr} {es:List Expr} {t:TA} {id T:String} {r:List V ->Hp ->VK ->Prop}
def tCB (r:List V ->Hp ->VK ->Prop) (t:TA):TE:=λ σ H Q=>t σ H λ vs H1=>r vs H1 Q
def qp (hc:q1v X (.builtin id) r) (hg:Gl X x) (hm:X.mg x=none) (hv:bootBuiltins x=some (.builtin id)) (ha:PA X (e::es) t) (hn:x≠"__name__":=by decide) (J:(x==("__debug__":Str))=false:=by decide)
  (he:starEach (e::es) X.env=(false,eval e X.env)::starEach es X.env:=by rfl) (O:(backTo pos (starEach es X.env)).any (·.1)=false:=by rfl):PE X (.Call (.Name x p) (e::es) [] pos) (tCB r t):=by
 intro xC s σ H Q I h;refine z1r (qe9 I hg hm hv ?_ hn J);exact PyProof.Rows.callWith_builtin1 (thn (ha pos xC s σ H _ I h) λ us s1 ⟨vs,H1,I1,r1,q1⟩=>hc xC s1 σ H1 vs us Q I1 r1 q1) he O
def q2a (hc:q1v X (.type T) r) (hg:Gl X x) (hm:X.mg x=none) (hv:bootBuiltins x=some (.type T)) (ha:PA X (e::es) t) (hn:x≠"__name__":=by decide) (J:(x==("__debug__":Str))=false:=by decide)
  (he:starEach (e::es) X.env=(false,eval e X.env)::starEach es X.env:=by rfl) (O:(backTo pos (starEach es X.env)).any (·.1)=false:=by rfl):PE X (.Call (.Name x p) (e::es) [] pos) (tCB r t):=by
 intro xC s σ H Q I h;refine z1r (qe9 I hg hm hv ?_ hn J);exact z03 (thn (ha pos xC s σ H _ I h) λ us s1 ⟨vs,H1,I1,r1,q1⟩=>hc xC s1 σ H1 vs us Q I1 r1 q1) he O
end
end L2
namespace HT
open PySem PyProof.Rows
section
open PySem.SeqAt
open PySem.AutoSeq1 (wpAny_loadPart')
open PySem.MeetsSeq PySem.MeetsSeq2 PySem.MeetsSeq3
end
section
variable {prog:Program} {w:World} {A:Around} {E:xB} {s:Shared}
def cat_tup {t b:Addr} {vs ws:xH} {Q:xB} (ht:IsTup s.heap t vs.toArray) (hb:IsTup s.heap b ws.toArray) (hv:vs≠ [])
  (h1:ws=[] ->Q (.ref t) s) (h2:ws≠ [] ->Q (.ref s.heap.objs.size) {s with heap:=s.heap.push {cls:= .type "tuple",data:= .seq (vs++ws).toArray}})
  (hsz:vs.length+ws.length<=sizeLine):wpAny (model prog w) A (binaryOp .Add (.ref t) (.ref b)) Q E s:=by
 obtain ⟨⟨cls,dd,data,sl⟩,ho,hc,n,hd⟩:=id ht;obtain ⟨⟨a4,O,a3,a2⟩,J,Z,n2,a1⟩:=id hb;simp only at hc hd Z a1;subst hc hd Z a1;have e:vs.toArray++ws.toArray=(vs++ws).toArray:=by simp
 by_cases hw:ws=[]
 ·exact concat_meets ⟨_,ho,zr⟩ ⟨_,J,zr⟩ noFill_tuple_add seq_tuple_add PySem.F.slot_tuple_add PySem.F.entry_tuple_add (PySem.F.args_tuple_add_2 _ _)
   (tuple_addW1 t b vs.toArray ws.toArray n n2 dd O sl a2 (by simpa using hv) (by simp [hw])) ⟨ho,J,h1 hw⟩
 ·refine concat_meets ⟨_,ho,zr⟩ ⟨_,J,zr⟩ noFill_tuple_add seq_tuple_add PySem.F.slot_tuple_add PySem.F.entry_tuple_add (PySem.F.args_tuple_add_2 _ _)
   (tuple_addW2 t b vs.toArray ws.toArray n n2 dd O sl a2 (by simpa using hv) (by simpa using hw) (by rw [z22,z22];exact hsz)) ⟨ho,J,?_⟩
  rw [e];exact h2 hw
def sIx (n d:Nat):Option Int ->Nat
 | none=>d
 | some v=>if v < 0 then (v+(n:Int)).toNat else min v.toNat n
def sIx_none (n d:Nat):sIx n d none=d:=rfl
def sIx_nat (n d k:Nat):sIx n d (some (k:Int))=min k n:=by
 show (if (k:Int) < 0 then ((k:Int)+(n:Int)).toNat else min (k:Int).toNat n)=min k n;rw [if_neg (by lia),z25]
def sIx_le (n d:Nat) (hd:d<=n) (o:Option Int):sIx n d o<=n:=by
 cases o with
 | none=>exact hd
 | some v=>
  show (if v < 0 then (v+(n:Int)).toNat else min v.toNat n)<=n;by_cases J:v < 0
  ·rw [if_pos J];lia
  ·rw [if_neg J];exact Nat.min_le_right _ _
def clip_eq (v:Int) (n d:Nat):(if v < 0 then max (v+(n:Int)) 0 else min v (n:Int))=((sIx n d (some v):Nat):Int):=by
 show (if v < 0 then max (v+(n:Int)) 0 else min v (n:Int))=(((if v < 0 then (v+(n:Int)).toNat else min v.toNat n):Nat):Int);by_cases J:v < 0
 ·simp only [if_pos J];lia
 ·simp only [if_neg J];lia
end
end HT
namespace L2
open PySem PySem.Spec PyProof.Rows
abbrev TO:=St ->Hp ->(Option Int ->Hp ->Prop) ->Prop
def PO (X:Cx) (e:Option Expr) (t:TO):Prop:=
 ∀ (xC:xG) (s:Shared) (σ:St) (H:Hp) (Q:Option Int ->Hp ->Prop),Inv X xC σ H s ->t σ H Q ->
  wpAny (model X.prog X.w) X.A (evalPart e X.env) (λ u s'=>∃ o H',Inv X xC σ H' s'/\IsPart u o/\Q o H') X.xe s
def qwa:TO:=λ _ H Q=>Q none H
def q10i (t:TE):TO:=λ σ H Q=>t σ H λ x H1=>∃ i,x= .int i/\Q (some i) H1
section
variable {X:Cx} {e:Expr} {te:TE} {lo hi:Option Expr} {tl th:TO} {pos p2:Pos}
def q4d:PO X none qwa:=by
 intro xC s σ H Q I h;rw [evalPart_none];exact z4d ⟨none,H,I,.none,h⟩
def q1p (h:PE X e te):PO X (some e) (q10i te):=by
 intro xC s σ H Q I hw;rw [evalPart_some];refine thn (h xC s σ H _ I hw) λ u s1 J=> ?_;obtain ⟨x,H1,I1,r1,q1⟩:=J;obtain ⟨i,rfl,q⟩:=q1;obtain ⟨t,rfl⟩:=r1;exact ⟨some i,H1,I1,.int i t,q⟩
def SlR (X:Cx) (r:V ->Option Int ->Option Int ->Hp ->VK ->Prop):Prop:=
 ∀ (xC:xG) (s:Shared) (σ:St) (H:Hp) (x:V) (v vl vu:Value) (lo hi:Option Int) (sl:Addr) (Q:VK),Inv X xC σ H s ->RelV x v ->s.heap.IsSliceOf sl vl vu .none ->IsPart vl lo ->IsPart vu hi ->r x lo hi H Q ->
  ∃ T id,typeLookup (.type T) "__getitem__"=pure (some (.builtin id))/\s.TypeIs v T/\wpAny (model X.prog X.w) X.A (getItem v (.ref sl)) (EP X xC σ Q) X.xe s
def tSl (r:V ->Option Int ->Option Int ->Hp ->VK ->Prop) (te:TE) (tl th:TO):TE:=λ σ H Q=>te σ H λ x H1=>tl σ H1 λ l H2=>th σ H2 λ u H3=>r x l u H3 Q
def q21 {r:V ->Option Int ->Option Int ->Hp ->VK ->Prop} (hr:SlR X r) (he:PE X e te) (hl:PO X lo tl) (hu:PO X hi th):PE X (.Subscript e (.Slice lo hi none p2) pos) (tSl r te tl th):=by
 intro xC s σ H Q I h;refine Subscript_ (thn (he xC s σ H _ I h) λ v s1 J=> ?_);obtain ⟨x,H1,I1,r1,q1⟩:=J;refine wpAny_Slice (thn (hl xC s1 σ H1 _ I1 q1) λ O s2 ⟨l,H2,I2,pl,q2⟩=>thn (hu xC s2 σ H2 _ I2 q2) λ Z s3 J=> ?_);obtain ⟨u,H3,I3,pu,q3⟩:=J;rw [evalPart_none];refine z4d ?_;have I4:Inv X xC σ H3 {s3 with heap:=s3.heap.push {cls:= .type "slice",data:= .fields #[O,Z,.none]}}:=I3.kept (t':=s3.toks) λ b ob q=>z0n _ q;obtain ⟨T,id,hT,ht,hg⟩:=hr xC {s3 with heap:=s3.heap.push {cls:= .type "slice",data:= .fields #[O,Z,.none]}} σ H3 x v O Z l u s3.heap.objs.size Q I4 r1 (Heap.IsSliceOf.new ..) pl pu q3;show wpAny (model X.prog X.w) X.A (subscriptTail e (.Slice lo hi none p2) v (.ref s3.heap.objs.size)) (EP X xC σ Q) X.xe {s3 with heap:=s3.heap.push {cls:= .type "slice",data:= .fields #[O,Z,.none]}};exact tail_any (ops:=[.ref s3.heap.objs.size,v]) ht hT hg (by with_unfolding_all rfl)
def cutV (xs:List V) (lo hi:Option Int):List V:=(xs.drop (HT.sIx xs.length 0 lo)).take (HT.sIx xs.length xs.length hi - HT.sIx xs.length 0 lo)
def qmn (xs:List V) (lo hi:Option Int):(cutV xs lo hi).length<=xs.length:=by
 unfold cutV;rw [z2f,z2g]
 lia
def q10j (K:xA):R2:=λ x y H Q=>∃ a b xs ys,x= .ref a/\y= .ref b/\SqT K H a xs/\SqT K H b ys/\xs≠ []/\xs.length+ys.length<=sizeLine/\
 (ys=[] ->Q (.ref a) H)/\(ys≠ [] ->∀ p,H p=none ->Q (.ref p) (upd H p (.tup (xs++ys))))
def Vals.qbr {xs:List V} {us:xH} (r:Vals xs us):us=[]↔xs=[]:=by
 cases r with
 | nil=>simp
 | cons _ _=>simp
def qwb:OpR X (binaryOp .Add) (q10j X.K):=by
 intro xC s σ H x y v u Q I rx ry h;obtain ⟨a,b,xs,ys,rfl,rfl,ha,hb,hx,hz,q1,q2⟩:=h;cases rx
 cases ry
 obtain ⟨its,r1,p1,_⟩:=I.tuple ha;obtain ⟨J,r2,p2,_⟩:=I.tuple hb;refine HT.cat_tup p1 p2 (λ z=>hx (r1.qbr.mp z)) (λ z=>⟨.ref a,H,I,rfl,q1 (r2.qbr.mp z)⟩) (λ z=> ?_) (by rw [<- r1.length,<- r2.length];exact hz);refine ⟨.ref s.heap.objs.size,_,I.laid (t':=s.toks) (o:= .tup (xs++ys)) (λ b ob q=>z0n _ q) (z47 _) ?_,zr,q2 (λ w=>z (r2.qbr.mpr w)) _ (I.hok.fresh (z47 _))⟩;exact ⟨by rw [z1n];exact hz,_,r1.append r2,IsTup.new _ _⟩
end
def ixN (n:Nat) (i:Int):Option Nat:=if 0<=i then (if i < n then some i.toNat else none) else if -(n:Int)<=i then some (i+n).toNat else none
def atI {α:Type} (xs:List α) (i:Int):Option α:=(ixN xs.length i).bind λ j=>xs[j]?
def qwc {n:Nat} {i:Int} {j:Nat} (h:ixN n i=some j):seqIndex? i n=some j/\j < n/\ -(n:Int)<=i/\i < n:=by
 unfold ixN at h;by_cases h0:0<=i
 ·rw [if_pos h0] at h;by_cases h1:i < n
  ·rw [if_pos h1] at h;have e:i.toNat=j:=Option.some.inj h;exact ⟨by rw [seqIndex_of h0 h1,e],by lia,by lia,h1⟩
  ·rw [if_neg h1] at h;cases h
 ·rw [if_neg h0] at h;by_cases h1: -(n:Int)<=i
  ·rw [if_pos h1] at h;have e:(i+n).toNat=j:=Option.some.inj h;exact ⟨by rw [seqIndex_neg (by lia) h1,e],by lia,h1,by lia⟩
  ·rw [if_neg h1] at h;cases h
def qnh {α:Type} {xs:List α} {i:Int} {v:α} (h:atI xs i=some v):∃ j,seqIndex? i xs.length=some j/\xs[j]? =some v/\j < xs.length/\ -(xs.length:Int)<=i/\i < xs.length:=by
 unfold atI at h;cases e:ixN xs.length i with
 | none=>rw [e] at h;cases h
 | some j=>
  rw [e] at h;obtain ⟨h1,h2,h3,h4⟩:=qwc e;exact ⟨j,h1,h,h2,h3,h4⟩
def q5k {α:Type} {xs:List α} {j:Nat} {v:α} (h:xs[j]? =some v):atI xs (j:Int)=some v:=by
 have hj:j < xs.length:=(z07.mp h).1;have e:ixN xs.length (j:Int)=some j:=by
  unfold ixN;rw [if_pos (by lia),if_pos (by lia)];simp
 unfold atI;rw [e];exact h
def qwd (b:Expr):Prop:=∀ o i,subscripted b false o i=operate [o,i] (getItem o i)
def IxR (X:Cx) (r:R2):Prop:=
 ∀ (value slice:Expr) (xC:xG) (s:Shared) (σ:St) (H:Hp) (x y:V) (v u:Value) (Q:VK),Inv X xC σ H s ->RelV x v ->RelV y u ->r x y H Q ->
  subscripted slice false v u=operate [v,u] (getItem v u) ->wpAny (model X.prog X.w) X.A (subscriptTail value slice v u) (EP X xC σ Q) X.xe s
def MtR (X:Cx) (id:String) (r:V ->List V ->Hp ->VK ->Prop):Prop:=
 ∀ (xC:xG) (s:Shared) (σ:St) (H:Hp) (x:V) (xs:List V) (v:Value) (us:xH) (Q:VK),Inv X xC σ H s ->RelV x v ->Vals xs us ->r x xs H Q ->
  wpAny (model X.prog X.w) X.A (call (.builtin id) (v::us)) (EP X xC σ Q) X.xe s
section
variable {X:Cx} {a b:Expr} {ta tb:TE} {pos:Pos}
def qy {r:R2} (hr:IxR X r) (ha:PE X a ta) (hb:PE X b tb) (hs:qwd b):PE X (.Subscript a b pos) (tOp r ta tb):=by
 intro xC s σ H Q I h;exact Subscript_ (binT ha hb I h λ v u s2 x y H2 I2 rx ry q=>hr a b xC s2 σ H2 x y v u Q I2 rx ry q (hs _ _))
def rIxL (K:xA):R2:=λ x y H Q=>∃ p xs i v,x= .ref p/\y= .int i/\SqL K H p xs/\atI xs i=some v/\Q v H
def rIxS:R2:=λ x y H Q=>∃ z i c,x= .str z/\y= .int i/\z.length<=sizeLine/\atI z.cps.toList i=some c/\Q (.str ⟨#[c]⟩) H
def qwe:IxR X (rIxL X.K):=by
  intro value Z xC s σ H x y v u Q I rx ry h hs;obtain ⟨p,xs,i,z,rfl,rfl,hq,he,q⟩:=h;cases rx
  obtain ⟨t,rfl⟩:=ry;obtain ⟨its,r,pl,hz⟩:=I.list hq;obtain ⟨j,h1,h2,h3,h4,h5⟩:=qnh he;obtain ⟨w,ew,O⟩:=r.get h2;have hl:=r.length;have hn:=qee;have fin:EP X xC σ Q w s:=⟨z,H,I,O,q⟩;by_cases h0:0<=i
  · have J:i.toNat=j:=by
      rw [seqIndex_of h0 h5] at h1;exact Option.some.inj h1
    exact item_listR pl.isList h0 (by lia) (by rw [J];simpa using ew) fin hs
  · have J:(i+(its.toArray.size:Int)).toNat=j:=by
      rw [seqIndex_neg (by lia) h4] at h1;rw [z22,<- hl];exact Option.some.inj h1
    exact subscriptTail_builtinR (x:=w) pl.isList.typeIs slot_list_getitem.lookup
      (wpAny_getItem_list_neg (Q:=λ r s'=>r=w/\EP X xC σ Q r s') pl.isList (by lia) (by rw [z22] <;> lia) (by lia) (by rw [J];simpa using ew) ⟨rfl,fin⟩) hs
def q8p:IxR X rIxS:=by
 intro value J xC s σ H x y v u Q I rx ry h hs;obtain ⟨z,i,c,rfl,rfl,hz,he,q⟩:=h;obtain ⟨t,rfl⟩:=rx;obtain ⟨t',rfl⟩:=ry;obtain ⟨j,h1,h2,h3,h4,h5⟩:=qnh he;have hl:z.cps.toList.length=z.length:=by simp [Str.length]
 rw [hl] at h1 h4 h5;have hn:=qee;exact tail_any (typeIs_str s z t) slot_str_getitem.lookup (getItem_str (c:=c) (by
  have e1:decide (i < -(2^63:Int))=false:=z2v (by lia);have e2:decide (i >=2^63)=false:=z2v (by lia);rw [e1,e2,Bool.or_false]) (by rw [h1];simpa using h2) ⟨.str ⟨#[c]⟩,H,I.tok _,⟨_,rfl⟩,q⟩) hs
def qkm (lo hi:Option Int) (n:Nat):(sliceBounds lo hi none n).1=((HT.sIx n 0 lo:Nat):Int)/\(sliceBounds lo hi none n).2.1=((HT.sIx n n hi:Nat):Int)/\(sliceBounds lo hi none n).2.2=1:=by
 refine ⟨?_,?_,zr⟩
 ·cases lo with
  | none=>simp [sliceBounds,HT.sIx]
  | some i=>
   simp only [sliceBounds,HT.sIx,Option.getD_none,show (1:Int) > 0 by decide,if_true];by_cases h:i < 0
   ·simp only [h,if_true] <;> lia
   ·simp only [h,if_false] <;> lia
 ·cases hi with
  | none=>simp [sliceBounds,HT.sIx]
  | some i=>
   simp only [sliceBounds,HT.sIx,Option.getD_none,show (1:Int) > 0 by decide,if_true];by_cases h:i < 0
   ·simp only [h,if_true] <;> lia
   ·simp only [h,if_false] <;> lia
def qim (its:xH) (lo hi:Option Int):slicePick its.toArray lo hi none=((its.drop (HT.sIx its.length 0 lo)).take (HT.sIx its.length its.length hi - HT.sIx its.length 0 lo)).toArray:=by
 obtain ⟨h1,h2,h3⟩:=qkm lo hi its.toArray.size;unfold slicePick;rw [h1,h2,h3];simp only [sliceRange_one,pick_run,z22] <;> rfl
def rSlL (K:xA):V ->Option Int ->Option Int ->Hp ->VK ->Prop:=λ x lo hi H Q=>∃ a xs,x= .ref a/\SqL K H a xs/\∀ p,H p=none ->Q (.ref p) (upd H p (.lst (cutV xs lo hi)))
def qwf:SlR X (rSlL X.K):=by
 intro xC s σ H x v vl vu lo hi sl Q I rx hs pl pu h;obtain ⟨a,xs,rfl,hx,q⟩:=h;cases rx
 obtain ⟨its,r,O,hz⟩:=I.list hx;have J:=r.length;refine ⟨"list",_,slot_list_getitem.lookup,O.isList.typeIs,?_⟩;refine wpAny_getItem_list_slice O.isList hs pl pu .none (by simp) ?_ (by rw [z22] <;> lia);rw [qim,<- J];refine ⟨.ref s.heap.objs.size,_,I.laid (t':=s.toks) (o:= .lst (cutV xs lo hi)) (λ b ob q=>z0n _ q) (z47 _) ?_,zr,q _ (I.hok.fresh (z47 _))⟩;exact ⟨z40 (qmn xs lo hi) hz,_,0,(r.drop (HT.sIx xs.length 0 lo)).take (HT.sIx xs.length xs.length hi - HT.sIx xs.length 0 lo),z1b _ rfl⟩
def q71:V ->Bool
 | .non=>true
 | .bl _=>true
 | .int _=>true
 | .str _=>true
 | _=>false
def eqV:V ->V ->Bool
 | .non,.non=>true
 | .bl a,.bl b=>a==b
 | .bl a,.int b=>(if a then 1 else 0)==b
 | .int a,.bl b=>a==(if b then 1 else 0)
 | .int a,.int b=>a==b
 | .str a,.str b=>a==b
 | _,_=>false
def qyd {A:Around} {s:Shared} {y x:V} {u v:Value} (ry:RelV y u) (rx:RelV x v) (fy:q71 y=true) (J:q71 x=true):SeqAt.EqAt A s u v (eqV y x):=by
 cases y with
 | non=>
  cases ry
  cases x with
  | non=>cases rx;exact SeqAt.EqAt.same _
  | bl b=>cases rx;exact SeqAt.EqAt.none_bool b
  | int b=>obtain ⟨t,rfl⟩:=rx;exact SeqAt.EqAt.none_int b t
  | str b=>obtain ⟨t,rfl⟩:=rx;exact SeqAt.EqAt.none_str b t
  | _=>exact absurd (show false=true from J) z1k
 | bl a=>
  cases ry
  cases x with
  | non=>cases rx;exact SeqAt.EqAt.bool_none a
  | bl b=>cases rx;exact SeqAt.EqAt.bool_bool a b
  | int b=>obtain ⟨t,rfl⟩:=rx;exact SeqAt.EqAt.bool_int a b t
  | str b=>obtain ⟨t,rfl⟩:=rx;exact SeqAt.EqAt.bool_str a b t
  | _=>exact absurd (show false=true from J) z1k
 | int a=>
  obtain ⟨t',rfl⟩:=ry;cases x with
  | non=>cases rx;exact SeqAt.EqAt.int_none a t'
  | bl b=>cases rx;exact SeqAt.EqAt.int_bool a t' b
  | int b=>obtain ⟨t,rfl⟩:=rx;exact SeqAt.EqAt.int_int a t' b t
  | str b=>obtain ⟨t,rfl⟩:=rx;exact SeqAt.EqAt.int_str a t' b t
  | _=>exact absurd (show false=true from J) z1k
 | str a=>
  obtain ⟨t',rfl⟩:=ry;cases x with
  | non=>cases rx;exact SeqAt.EqAt.str_none a t'
  | bl b=>cases rx;exact SeqAt.EqAt.str_bool a t' b
  | int b=>obtain ⟨t,rfl⟩:=rx;exact SeqAt.EqAt.str_int a t' b t
  | str b=>obtain ⟨t,rfl⟩:=rx;exact SeqAt.EqAt.str_str a t' b t
  | _=>exact absurd (show false=true from J) z1k
 | _=>exact absurd (show false=true from fy) z1k
def eqU (x:V) (u:Value):Bool:=match u with
 | .none=>eqV .non x
 | .bool b=>eqV (.bl b) x
 | .int i _=>eqV (.int i) x
 | .str z _=>eqV (.str z) x
 | _=>false
def qqi {x y:V} {u:Value} (r:RelV y u) (f:q71 y=true):eqU x u=eqV y x:=by
 cases y with
 | non=>cases r;rfl
 | bl b=>cases r;rfl
 | int i=>obtain ⟨t,rfl⟩:=r;rfl
 | str z=>obtain ⟨t,rfl⟩:=r;rfl
 | _=>exact absurd (show false=true from f) z1k
theorem q8q {x:V}:∀ {xs:List V} {us:xH},Vals xs us ->xs.all q71=true ->us.any (eqU x)=xs.any λ y=>eqV y x
 | _,_,.nil,_=>rfl
 | y::xs,u::us,.cons r t,f=>by
  rw [List.all_cons,z2l] at f;rw [z3p,z3p,qqi r f.1,q8q t f.2]
theorem q7c {A:Around} {s:Shared} {x:V} {v:Value} (rx:RelV x v) (O:q71 x=true):∀ {xs:List V} {us:xH},Vals xs us ->xs.all q71=true ->∀ u∈us,SeqAt.EqAt A s u v (eqU x u)
 | _,_,.nil,_=>λ u J=>by cases J
 | y::xs,u::us,.cons r t,f=>λ u' J=>by
  rw [List.all_cons,z2l] at f;rcases z3m.mp J with rfl | J
  ·rw [qqi r f.1];exact qyd r rx f.1 O
  ·exact q7c rx O t f.2 u' J
def inV (x:V) (xs:List V):Bool:=xs.any λ y=>eqV y x
def rIn (K:xA) (neg:Bool):R2:=λ x y H Q=>∃ p xs,y= .ref p/\(SqL K H p xs\/ SqT K H p xs)/\q71 x=true/\xs.all q71=true/\Q (.bl (if neg then !inV x xs else inV x xs)) H
def qqj:OpR X (compareOp .In) (rIn X.K false):=by
 intro xC s σ H x y v u Q I rx ry h;obtain ⟨p,xs,rfl,hq,J,fs,q⟩:=h;cases ry
 rcases hq with hq | hq
 ·obtain ⟨its,r,pl,hz⟩:=I.list hq;refine SeqAt.in_listAt (eqU x) pl.isList (λ w hw=>q7c rx J r fs w (by simpa using hw)) ⟨.bl _,H,I,zr,?_⟩;rw [show its.toArray.any (eqU x)=its.any (eqU x) by simp,q8q r fs];exact q
 ·obtain ⟨its,r,pl,hz⟩:=I.tuple hq;refine SeqAt.in_tupleAt (eqU x) pl (λ w hw=>q7c rx J r fs w (by simpa using hw)) ⟨.bl _,H,I,zr,?_⟩;rw [show its.toArray.any (eqU x)=its.any (eqU x) by simp,q8q r fs];exact q
def qkn:OpR X (compareOp .NotIn) (rIn X.K true):=by
 intro xC s σ H x y v u Q I rx ry h;obtain ⟨p,xs,rfl,hq,J,fs,q⟩:=h;cases ry
 rcases hq with hq | hq
 ·obtain ⟨its,r,pl,hz⟩:=I.list hq;refine SeqAt.notIn_listAt (eqU x) pl.isList (λ w hw=>q7c rx J r fs w (by simpa using hw)) ⟨.bl _,H,I,zr,?_⟩;rw [show its.toArray.any (eqU x)=its.any (eqU x) by simp,q8q r fs];exact q
 ·obtain ⟨its,r,pl,hz⟩:=I.tuple hq;refine SeqAt.notIn_tupleAt (eqU x) pl (λ w hw=>q7c rx J r fs w (by simpa using hw)) ⟨.bl _,H,I,zr,?_⟩;rw [show its.toArray.any (eqU x)=its.any (eqU x) by simp,q8q r fs];exact q
def qko:q1v X (.type "list") (λ xs H Q=>∃ p ys,xs=[.ref p]/\(SqL X.K H p ys\/ SqT X.K H p ys)/\∀ l,H l=none ->Q (.ref l) (upd H l (.lst ys))):=by
 intro xC s σ H xs us Q I r h;obtain ⟨p,ys,rfl,hq,q⟩:=h;obtain ⟨u,rfl,rx⟩:=q2x r;cases rx
 have fin:∀ (its:xH),Vals ys its ->ys.length<=sizeLine ->∀ (h':Heap) (J:Nat),(∀ b o',s.heap.get? b=some o' ->h'.get? b=some o') ->
   h'.get? s.heap.objs.size=some {cls:= .type "list",dict:=none,data:= .seq its.toArray J,slots:=#[]} ->EP X xC σ Q (.ref s.heap.objs.size) {s with heap:=h'}:=λ its O hz h' J kp e=>
  ⟨.ref s.heap.objs.size,_,I.laid (t':=s.toks) kp (z47 _) (show ObjOk X.prog X.w _ h' _ (.lst ys) from ⟨hz,its,J,O,e⟩),rfl,q _ (I.hok.fresh (z47 _))⟩
 rcases hq with hq | hq
 ·obtain ⟨its,O,pl,hz⟩:=I.list hq;have Z:=O.length;obtain ⟨o,ho,hc,n,hd⟩:=pl.isList;exact call_list_seq p (.inl rfl) ho hc hd (λ h' J kp e=>fin its O hz h' J kp e) (by simp only [z22] <;> lia)
 ·obtain ⟨its,O,pl,hz⟩:=I.tuple hq;have Z:=O.length;obtain ⟨o,ho,hc,n,hd⟩:=pl;exact call_list_seq p (.inr rfl) ho hc hd (λ h' J kp e=>fin its O hz h' J kp e) (by simp only [z22] <;> lia)
def qin:q1v X (.type "tuple") (λ xs H Q=>∃ p ys,xs=[.ref p]/\((SqL X.K H p ys/\∀ l,H l=none ->Q (.ref l) (upd H l (.tup ys)))\/ (SqT X.K H p ys/\Q (.ref p) H))):=by
 intro xC s σ H xs us Q I r h;obtain ⟨p,ys,rfl,h⟩:=h;obtain ⟨u,rfl,rx⟩:=q2x r;cases rx
 rcases h with ⟨hq,q⟩ | ⟨hq,q⟩
 ·obtain ⟨its,J,pl,hz⟩:=I.list hq;have O:=J.length;refine call_tuple_list pl.isList (λ h' kp=> ?_) (by simp only [z22] <;> lia);have I1:Inv X xC σ H {s with heap:=h'}:=I.kept (t':=s.toks) kp;have I2:Inv X xC σ (upd H h'.objs.size (.tup ys)) {s with heap:=h'.push {cls:= .type "tuple",data:= .seq its.toArray}}:=
   I1.laid (t':=s.toks) (λ b o e=>z0n _ e) (z47 _) (show ObjOk X.prog X.w _ _ _ (.tup ys) from ⟨hz,its,J,IsTup.new _ _⟩)
  exact ⟨.ref h'.objs.size,_,I2,zr,q _ (I1.hok.fresh (z47 _))⟩
 ·obtain ⟨its,J,pl,hz⟩:=I.tuple hq;exact call_tuple_same pl ⟨.ref p,H,I,zr,q⟩
def tyV (K:xA) (T:String) (x:V) (H:Hp):Prop:=match x with
 | .str _=>T="str"
 | .int _=>T="int"
 | .ref p=>(T="list"/\∃ xs,SqL K H p xs)\/ (T="tuple"/\∃ o,K.lookup p=some o/\o.cls= .type "tuple"/\o.dict=none)\/
   (T="dict"/\((∃ kvs,H p=some (.dK kvs))\/ ∃ kvs,H p=some (.dT kvs)))\/ (T="set"/\∃ S n,H p=some (.set S n))
 | _=>False
def qqk {xC:xG} {σ:St} {H:Hp} {s:Shared} {T:String} {x:V} {v:Value} (I:Inv X xC σ H s) (r:RelV x v) (ty:tyV X.K T x H):
    s.TypeIs v T/\∀ a,v= .ref a ->∃ J,s.heap.get? a=some J/\J.dict=none:=by
  cases x with
  | str z=>
    obtain ⟨t,rfl⟩:=r;cases (show T="str" from ty)
    exact ⟨typeIs_str s z t,λ _ e=>nomatch e⟩
  | int i=>
    obtain ⟨t,rfl⟩:=r;cases (show T="int" from ty)
    exact ⟨typeIs_int s i t,λ _ e=>nomatch e⟩
  | ref p=>
    cases r
    rcases ty with ⟨rfl,xs,hq⟩ | ⟨rfl,o,hk,hc,hd⟩ | ⟨rfl,hk⟩ | ⟨rfl,S,n,hk⟩
    · obtain ⟨its,_,pl,_⟩:=I.list hq
      refine ⟨pl.isList.typeIs,λ a e=> ?_⟩;cases e
      obtain ⟨o,n,e,c,hd,_⟩:=pl;exact ⟨o,e,hd⟩
    · refine ⟨⟨o,I.kIn p o hk,hc⟩,λ a e=> ?_⟩
      cases e
      exact ⟨o,I.kIn _ o hk,hd⟩
    · have z:∃ o,s.heap.get? p=some o/\o.ExactDict:=by
        rcases hk with ⟨kvs,hk⟩ | ⟨kvs,hk⟩
        · obtain ⟨_,_,_,_,o,_,_,e,ex,_⟩:=I.hok p _ hk
          exact ⟨o,e,ex⟩
        · obtain ⟨_,_,_,_,o,_,_,e,ex,_⟩:=I.hok p _ hk
          exact ⟨o,e,ex⟩
      obtain ⟨o,e,ex⟩:=z;refine ⟨⟨o,e,ex.1⟩,λ a e2=> ?_⟩;cases e2
      exact ⟨o,e,ex.2.1⟩
    · obtain ⟨o,_,_,_,e,ex,_⟩:=I.hok p _ hk
      refine ⟨⟨o,e,ex.1⟩,λ a e2=> ?_⟩;cases e2
      exact ⟨o,e,ex.2.1⟩
  | _=>exact False.elim ty
def tBM0 (K:xA) (T:String) (r:V ->List V ->Hp ->VK ->Prop) (to:TE):TE:=λ σ H Q=>to σ H λ x H1=>tyV K T x H1/\r x [] H1 Q
def tBM (K:xA) (T:String) (r:V ->List V ->Hp ->VK ->Prop) (to:TE) (t:TA):TE:=λ σ H Q=>to σ H λ x H1=>tyV K T x H1/\t σ H1 λ xs H2=>r x xs H2 Q
variable {o e:Expr} {es:List Expr} {to:TE} {t:TA} {name:Str} {apos cpos:Pos} {T id:String} {r:V ->List V ->Hp ->VK ->Prop}
def qye (pa:PlainAttrs T) (slot:Slot T name id) (Z:typeOf (.builtin id)=pure (.type "method_descriptor")) (hm:MtR X id r) (ho:PE X o to)
  (J:attributeBase o name X.env (eval o X.env)=eval o X.env:=by rfl) (O:(apos.endLine==cpos.line)=true:=by rfl):PE X (.Call (.Attribute o name apos) [] [] cpos) (tBM0 X.K T r to):=by
 intro xC s σ H Q I h;refine wpAny_Call_method0_late J O (thn (ho xC s σ H _ I h) λ v s1 a1=> ?_);obtain ⟨x,H1,I1,r1,ty,q1⟩:=a1;obtain ⟨h1,h2⟩:=qqk I1 r1 ty;exact ⟨T,id,pa,slot,Z,h1,h2,Calls.callWith_builtin rfl (PySem.evalArgs_none (hm xC s1 σ H1 x [] v [] Q I1 r1 .nil q1))⟩
def q64 (pa:PlainAttrs T) (slot:Slot T name id) (a2:typeOf (.builtin id)=pure (.type "method_descriptor")) (hm:MtR X id r) (ho:PE X o to) (ha:PA X (e::es) t)
  (O:attributeBase o name X.env (eval o X.env)=eval o X.env:=by rfl)
  (a1:((backTo cpos (starEach (e::es) X.env)).all (λ x=> !x.1)&&(backToKw cpos (keywordEach [] X.env)).all (λ x=>x.1.isSome)
   &&decide ((e::es).length+([]:List Keyword).length+(if ([]:List Keyword).isEmpty then 0 else 1) < 30))=true:=by rfl)
  (Z:(apos.endLine==cpos.line)=true:=by rfl) (hs:starEach (e::es) X.env=(false,eval e X.env)::starEach es X.env:=by rfl) (J:(backTo cpos (starEach es X.env)).any (·.1)=false:=by rfl):
  PE X (.Call (.Attribute o name apos) (e::es) [] cpos) (tBM X.K T r to t):=by
 intro xC s σ H Q I h;refine wpAny_Call_method_late O a1 Z rfl (thn (ho xC s σ H _ I h) λ v s1 a3=> ?_);obtain ⟨x,H1,I1,r1,ty,q1⟩:=a3;obtain ⟨h1,h2⟩:=qqk I1 r1 ty;refine ⟨T,id,pa,slot,a2,h1,h2,?_⟩;have hA:=ha cpos xC s1 σ H1 _ I1 q1;rw [hs] at hA ⊢;refine Calls.callWith_builtin (by show (false || (backTo cpos (starEach es X.env)).any (·.1))=false;rw [J] <;> rfl) (Calls.evalArgs_plain ?_);exact thn hA λ us s2 ⟨vs,H2,I2,r2,q2⟩=>hm xC s2 σ H2 x vs v us Q I2 r1 r2 q2
end
def MtM (X:Cx) (id:String) (r:V ->List V ->Hp ->VK ->Prop):Prop:=
 ∀ (xC:xG) (s:Shared) (σ:St) (H:Hp) (x:V) (xs:List V) (v:Value) (us:xH) (Q:VK),Inv X xC σ H s ->RelV x v ->Vals xs us ->r x xs H Q ->
  wpAny (model X.prog X.w) X.A (call (.builtin id) (v::us)) (EP X xC σ Q) X.xe s
def Vals.one:∀ {x:V} {us:xH},Vals [x] us ->∃ u,us=[u]/\RelV x u
 | _,_,.cons r .nil=>⟨_,rfl,r⟩
def Vals.zero:∀ {us:xH},Vals [] us ->us=[]
 | _,.nil=>rfl
theorem Vals.dropLast {xs:List V} {us:xH} (h:Vals xs us):Vals xs.dropLast us.dropLast:=by
 induction h with
 | nil=>exact .nil
 | cons r t ih=>
  cases t with
  | nil=>exact .nil
  | cons q t'=>exact .cons r ih
theorem Vals.rep {xs:List V} {us:xH} (h:Vals xs us):∀ k:Nat,Vals (List.replicate k xs).flatten (List.replicate k us).flatten
 | 0=> .nil
 | k+1=>by
  rw [z1d,z1d,z26,z26];exact Vals.append h (Vals.rep h k)
def qot {α:Type} (l:List α):l.eraseIdx (l.length - 1)=l.dropLast:=by
 induction l with
 | nil=>rfl
 | cons a r ih=>
  cases r with
  | nil=>rfl
  | cons b r=>
   have e:(a::b::r).length - 1=((b::r).length - 1)+1:=by
    have h1:(a::b::r).length=r.length+2:=rfl;have h2:(b::r).length=r.length+1:=rfl
    lia
   rw [e,List.eraseIdx_cons_succ,ih]
   all_goals rfl
theorem qho (its:xH):∀ (k:Nat) (acc:xH),
  List.foldl (λ x1 x2=>x1++x2) acc.toArray (List.replicate k its.toArray)=(acc++(List.replicate k its).flatten).toArray
 | 0,acc=>by simp
 | k+1,acc=>by
  have e:acc.toArray++its.toArray=(acc++its).toArray:=by simp
  have e2:(acc++its)++(List.replicate k its).flatten=acc++(List.replicate (k+1) its).flatten:=by
   rw [z1d,z26,z1x]
  rw [<- e2,<- qho its k (acc++its),<- e,z1d,List.foldl_cons]
section
variable {X:Cx} {xC:xG} {σ:St} {H:Hp} {s:Shared} {l b:Addr} {xs ys zs:List V}
def Inv.lset {its its':xH} {n:Nat} {f:Array Value ->Array Value} {t':Nat} (I:Inv X xC σ H s) (hH:H l=some (.lst xs))
  (e:s.heap.get? l=some {cls:= .type "list",data:= .seq its.toArray n}) (hf:f its.toArray=its'.toArray) (hv:Vals ys its') (hz:ys.length<=sizeLine):
  Inv X xC σ (upd H l (.lst ys)) {s with heap:=s.heap.update l (Obj.mapSeq f),toks:=t'}:=by
 have q:=PySem.IsL.update e f;rw [hf] at q;refine I.write (x:=l) (e:=l) (by rw [hH];exact trivial) (.inl rfl) (λ b' u hb hu=>(z0o s.heap (Obj.mapSeq f) (Ne.symm hb)).trans hu) ⟨_,q⟩ ?_;exact ⟨hz,its',_,hv,q⟩
def Inv.lnew {its:xH} {t':Nat} (I:Inv X xC σ H s) (hv:Vals ys its) (hz:ys.length<=sizeLine):
  Inv X xC σ (upd H s.heap.objs.size (.lst ys)) {s with heap:=s.heap.push {cls:= .type "list",data:= .seq its.toArray},toks:=t'}:=
 I.laid (λ _ _ q=>z0n _ q) (z47 _) ⟨hz,its,0,hv,z1b _ rfl⟩
theorem Inv.fresh (I:Inv X xC σ H s):H s.heap.objs.size=none:=I.hok.fresh (z47 _)
def Inv.lstM (I:Inv X xC σ H s) (hH:H l=some (.lst xs)):xs.length<=sizeLine/\∃ (its:xH) (n:Nat),Vals xs its/\xs.length=its.length/\s.heap.get? l=some {cls:= .type "list",data:= .seq its.toArray n}:=by
 obtain ⟨z,its,n,r,e⟩:=I.hok l _ hH;exact ⟨z,its,n,r,r.length,e⟩
def qkp {n:Nat} (h:n<=sizeLine):Builtin.List.listTooLong n=false:=by
 unfold Builtin.List.listTooLong;exact z2v (by lia)
end
section
variable {X:Cx}
def qwg:V ->List V ->Hp ->VK ->Prop:=λ x vs H Q=>∃ l xs y,x= .ref l/\vs=[y]/\H l=some (.lst xs)/\xs.length < sizeLine/\Q .non (upd H l (.lst (xs++ [y])))
def q3y:MtM X "list.append" qwg:=by
 intro xC s σ H x vs v us Q I rx rv h;obtain ⟨l,xs,y,rfl,rfl,J,hz,q⟩:=h;cases rx
 obtain ⟨u,rfl,ru⟩:=rv.one;obtain ⟨z,its,n,r,hl,e⟩:=I.lstM J;refine call_meets F.slot_list_append ⟨_,e,rfl⟩ F.entry_list_append (F.args_list_append_2 _ _) (PySem.list_append l its.toArray n u (by rw [z22];lia)) ⟨e,?_⟩;refine ⟨.non,_,I.lset (its':=its++ [u]) J e (by simp) (r.append (.cons ru .nil)) ?_,zr,q⟩;rw [z1n,z0x]
 lia
def qwh:V ->List V ->Hp ->VK ->Prop:=λ x vs H Q=>∃ l b xs zs,x= .ref l/\vs=[.ref b]/\H l=some (.lst xs)/\H b=some (.lst zs)/\xs.length+zs.length<=sizeLine/\Q .non (upd H l (.lst (xs++zs)))
def q88:MtM X "list.extend" qwh:=by
 intro xC s σ H x vs v us Q I rx rv h;obtain ⟨l,b,xs,zs,rfl,rfl,Z,hB,hz,q⟩:=h;cases rx
 obtain ⟨u,rfl,ru⟩:=rv.one;cases ru
 obtain ⟨z,its,n,r,hl,e⟩:=I.lstM Z;obtain ⟨z2,J,n2,r2,hl2,e2⟩:=I.lstM hB;have hsz:its.toArray.size+J.toArray.size<=sizeLine:=by rw [z22,z22];lia
 have O:¬ (!its.toArray.isEmpty&&Builtin.List.listTooLong (its.toArray.size+J.toArray.size))=true:=by
  rw [qkp hsz,Bool.and_false];exact z1k
 refine call_meets F.slot_list_extend ⟨_,e,zr⟩ F.entry_list_extend (F.args_list_extend_2 _ _)
  (AutoSeq1.list_extend_list_list_0 l its.toArray n b J.toArray n2 O (by rw [z22];lia) (by lia)) ⟨e,e2,?_⟩
 refine ⟨.non,_,I.lset (its':=its++J) Z e (by simp) (r.append r2) ?_,zr,q⟩;rw [z1n]
 lia
def rPop:V ->List V ->Hp ->VK ->Prop:=λ x vs H Q=>∃ l xs y,x= .ref l/\vs=[]/\H l=some (.lst xs)/\xs[xs.length - 1]? =some y/\Q y (upd H l (.lst xs.dropLast))
def qyf:MtM X "list.pop" rPop:=by
 intro xC s σ H x vs v us Q I rx rv h;obtain ⟨l,xs,y,rfl,rfl,Z,hy,q⟩:=h;cases rx
 have J:=rv.zero;subst J;obtain ⟨z,its,n,r,hl,e⟩:=I.lstM Z;obtain ⟨u,hu,ru⟩:=r.get hy;have O:its.toArray[its.toArray.size - 1]? =some u:=by
  show its.toArray[its.length - 1]? =some u;rw [<- z0w,<- hl];exact hu
 refine call_meets F.slot_list_pop ⟨_,e,rfl⟩ F.entry_list_pop (F.args_list_pop_1 _) (MeetsSeq.list_pop_last l its.toArray n u O (by rw [z22];lia)) ⟨e,?_⟩;refine ⟨y,_,I.lset (its':=its.dropLast) Z e ?_ r.dropLast ?_,ru,q⟩
 ·show its.toArray.eraseIdxIfInBounds (its.toArray.size - 1)=its.dropLast.toArray;rw [z22,List.eraseIdxIfInBounds_toArray,qot]
 ·rw [List.length_dropLast]
  lia
def rCat:R2:=λ x y H Q=>∃ l b xs zs,x= .ref l/\y= .ref b/\H l=some (.lst xs)/\H b=some (.lst zs)/\xs.length+zs.length<=sizeLine/\∀ p,H p=none ->Q (.ref p) (upd H p (.lst (xs++zs)))
def qeh:OpR X (binaryOp .Add) rCat:=by
 intro xC s σ H x y v u Q I rx ry h;obtain ⟨l,b,xs,zs,rfl,rfl,hH,hB,hz,q⟩:=h;cases rx
 cases ry
 obtain ⟨z,its,n,r,hl,e⟩:=I.lstM hH;obtain ⟨z2,J,n2,r2,hl2,e2⟩:=I.lstM hB;refine PySem.P.add_list e e2 ?_ (by rw [z22,z22];lia);have ea:its.toArray++J.toArray=(its++J).toArray:=by simp
 rw [ea];exact ⟨.ref _,_,I.lnew (t':=s.toks) (r.append r2) (by rw [z1n];lia),rfl,q _ I.fresh⟩
def rRep:R2:=λ x y H Q=>∃ l k xs,x= .ref l/\y= .int k/\H l=some (.lst xs)/\ -(2^63)<=k/\k < 2^63/\xs.length*k.toNat<=sizeLine/\
 ∀ p,H p=none ->Q (.ref p) (upd H p (.lst (List.replicate k.toNat xs).flatten))
def qwi {α:Type} (xs:List α) (k:Nat):(List.replicate k xs).flatten.length=k*xs.length:=by
 induction k with
 | zero=>simp
 | succ k ih=>rw [z1d,z26,z1n,ih,Nat.succ_mul,Nat.add_comm]
def qyg:OpR X (binaryOp .Mult) rRep:=by
 intro xC s σ H x y v u Q I rx ry h;obtain ⟨l,k,xs,rfl,rfl,hH,h1,h2,hz,q⟩:=h;cases rx
 obtain ⟨t,rfl⟩:=ry;obtain ⟨z,its,n,r,hl,e⟩:=I.lstM hH;have a1:its.toArray.size*k.toNat<=sizeLine:=by rw [z22,<- hl];exact hz
 have O:¬ its.toArray.size*k.toNat > (2^63 - 1) / 8:=by
  have:(sizeLine:Nat)<=(2^63 - 1) / 8:=by decide
  lia
 have Z:¬ (!Builtin.List.listFitsIndex k)=true:=by
  rw [fitsIndex_both h1 h2];exact z1k
 have J:¬ Builtin.List.listTooLong (its.toArray.size*k.toNat)=true:=by
  rw [qkp a1];exact z1k
 have a2:List.foldl (λ x1 x2=>x1++x2) #[] (List.replicate (if its.toArray.isEmpty=true then 0 else k.toNat) its.toArray)=(List.replicate k.toNat its).flatten.toArray:=by
  have f0:∀ m:Nat,List.foldl (λ x1 x2=>x1++x2) #[] (List.replicate m its.toArray)=(List.replicate m its).flatten.toArray:=λ m=>by
   have:=qho its m [];rw [List.nil_append] at this;exact this
  rw [f0];cases its with
  | nil=>simp
  | cons a r'=>rw [if_neg (by simp)]
 refine wpAny_binaryOp_repeat_ref (T:="list") (U:="int") (by decide) ⟨_,e,zr⟩ (λ s'=>typeIs_int s' k t) noFill_list_mul F.fills_int_mul F.slot_int_rmul repeat_list F.slot_int_index.lookup
  (call_meets F.slot_int_rmul (typeIs_int s k t) F.entry_int_rmul (F.args_int_rmul_2 _ _) (int___rmul___int_list k t l its.toArray n)
   ⟨e,rfl,⟨_,e,rfl⟩,call_meets F.slot_list_mul ⟨_,e,rfl⟩ F.entry_list_mul (F.args_list_mul_2 _ _) (AutoListH.list___mul___list_int_3 l its.toArray n k t Z O J) ⟨e,?_⟩⟩)
 rw [a2];exact ⟨.ref _,_,I.lnew (t':=s.toks) (r.rep k.toNat) (by rw [qwi,Nat.mul_comm];exact hz),rfl,q _ I.fresh⟩
end
section
variable {prog:Program} {w:World} {A:Around} {E:xB} {s:Shared}
end
section
variable {X:Cx}
end
section
variable {κ:Type} [DecidableEq κ]
def valV (kvs:List (κ×V)) (k:κ):Option V:=(kvs.find? λ kv=>decide (kv.1=k)).map (·.2)
def putK (kvs:List (κ×V)) (k:κ) (v:V):List (κ×V):=
 if (kvs.any λ kv=>decide (kv.1=k))=true then kvs.map (λ kv=>if kv.1=k then (kv.1,v) else kv) else kvs++ [(k,v)]
def q2m (kvs:List (κ×V)) (k:κ):List (κ×V):=kvs.filter λ kv=>decide (kv.1≠k)
def q2c {p:κ×V} {r:List (κ×V)} {k:κ} (e:p.1=k):valV (p::r) k=some p.2:=by simp [valV,z32,e]
def q27 {p:κ×V} {r:List (κ×V)} {k:κ} (e:¬ p.1=k):valV (p::r) k=valV r k:=by simp [valV,z32,e]
theorem q7d (k:κ):∀ kvs:List (κ×V),(kvs.any λ kv=>decide (kv.1=k))=(valV kvs k).isSome
 | []=>rfl
 | p::r=>by
  rw [z3p];by_cases e:p.1=k
  ·simp only [q2c e,z3b e,Bool.true_or,Option.isSome_some]
  ·rw [q27 e,z2v e,Bool.false_or];exact q7d k r
theorem qkq (k j:κ) (y:V):∀ kvs:List (κ×V),valV (kvs.map λ J=>if J.1=k then (J.1,y) else J) j=(valV kvs j).map λ x=>if j=k then y else x
 | []=>rfl
 | p::r=>by
  have O:=qkq k j y r;rw [z3k];by_cases h:p.1=k
  ·rw [if_pos h];by_cases e:p.1=j
   ·rw [q2c (p:=(p.1,y)) e,q2c e,Option.map_some,if_pos (e.symm.trans h)]
   ·rw [q27 (p:=(p.1,y)) e,q27 e,O]
  ·rw [if_neg h];by_cases e:p.1=j
   ·rw [q2c (p:=p) e,q2c e,Option.map_some,if_neg (λ z=>h (e.trans z))]
   ·rw [q27 (p:=p) e,q27 e,O]
theorem qhp (k j:κ) (y:V):∀ kvs:List (κ×V),valV kvs k=none ->valV (kvs++ [(k,y)]) j=if j=k then some y else valV kvs j
 | [],_=>by
  by_cases e:k=j
  ·rw [if_pos e.symm];exact q2c (p:=(k,y)) e
  ·rw [if_neg (λ z=>e z.symm)];exact q27 (p:=(k,y)) e
 | p::r,hn=>by
  rw [List.cons_append];have hk:¬ p.1=k:=λ z=>by rw [q2c z] at hn;cases hn
  rw [q27 hk] at hn;have ih:=qhp k j y r hn;by_cases e:p.1=j
  ·rw [q2c e,q2c e,if_neg (λ z=>hk (e.trans z))]
  ·rw [q27 e,q27 e,ih]
def q3g (kvs:List (κ×V)) (k j:κ) (y:V):valV (putK kvs k y) j=if j=k then some y else valV kvs j:=by
 unfold putK;by_cases a:(kvs.any λ kv=>decide (kv.1=k))=true
 ·rw [if_pos a,qkq];rw [q7d] at a;by_cases e:j=k
  ·obtain ⟨x,hx⟩:=Option.isSome_iff_exists.mp a;rw [if_pos e,e,hx,Option.map_some,if_pos rfl]
  ·rw [if_neg e];cases valV kvs j with
   | none=>rfl
   | some x=>rw [Option.map_some,if_neg e]
 ·rw [if_neg a];refine qhp k j y kvs ?_;rw [q7d] at a;cases q:valV kvs k with
  | none=>rfl
  | some x=>rw [q] at a;exact (a rfl).elim
def q3p (kvs:List (κ×V)) (k:κ) (v:V):(putK kvs k v).length<=kvs.length+1:=by
 unfold putK;split
 ·rw [z2z];lia
 ·rw [z1n,z2h,z33];lia
def qt1 {kvs:List (κ×V)} {k:κ} (v:V) (h:valV kvs k=none):putK kvs k v=kvs++ [(k,v)]:=by
 unfold putK;rw [q7d,h];exact if_neg (by decide)
def RelO.q69 {o:Option V} {u:Option Value} (r:RelO o u):o.isSome=u.isSome:=by
 cases o with
 | none=>cases u with
  | none=>rfl
  | some _=>exact (show False from r).elim
 | some _=>cases u with
  | none=>exact (show False from r).elim
  | some _=>rfl
def KV.val {kvs:List (κ×V)} {vs:List (κ×Value)} (r:KV kvs vs) (k:κ):RelO (valV kvs k) (valueAt vs k):=by
 unfold KV at r
 induction r with
 | nil=>exact True.intro
 | @cons p q ps J h t ih=>
  obtain ⟨h1,h2⟩:=h;by_cases e:p.1=k
  ·have e':q.1=k:=h1.symm.trans e;have b:valueAt (q::J) k=some q.2:=by simp [valueAt,z32,e']
   rw [q2c e,b];exact h2
  ·have e':¬ q.1=k:=λ z=>e (h1.trans z);have b:valueAt (q::J) k=valueAt J k:=by simp [valueAt,z32,e']
   rw [q27 e,b];exact ih
theorem KV.any {kvs:List (κ×V)} {vs:List (κ×Value)} (r:KV kvs vs) (k:κ):(kvs.any λ J=>decide (J.1=k))=vs.any λ J=>decide (J.1=k):=by
 unfold KV at r
 induction r with
 | nil=>rfl
 | cons h t ih=>rw [z3p,z3p,ih,h.1]
def KV.repl {kvs:List (κ×V)} {vs:List (κ×Value)} (r:KV kvs vs) (k:κ) {y:V} {u:Value} (ry:RelV y u):
  KV (kvs.map λ J=>if J.1=k then (J.1,y) else J) (vs.map λ J=>if J.1=k then (J.1,u) else J):=by
 unfold KV at r ⊢
 induction r with
 | nil=>exact .nil
 | @cons p q ps qs h t ih=>
  rw [z3k,z3k];refine .cons ?_ ih;obtain ⟨h1,h2⟩:=h;by_cases e:p.1=k
  ·rw [if_pos e,if_pos (h1.symm.trans e)];exact ⟨h1,ry⟩
  ·rw [if_neg e,if_neg (λ z=>e (h1.trans z))];exact ⟨h1,h2⟩
def KV.put {kvs:List (κ×V)} {vs:List (κ×Value)} (r:KV kvs vs) (k:κ) {y:V} {u:Value} (ry:RelV y u):KV (putK kvs k y) (stored vs k u):=by
 unfold putK stored;rw [r.any k];by_cases e:(vs.any λ kv=>decide (kv.1=k))=true
 ·rw [if_pos e,if_pos e];exact r.repl k ry
 ·rw [if_neg e,if_neg e];exact Paired.snoc r ⟨rfl,ry⟩
def KV.drop {kvs:List (κ×V)} {vs:List (κ×Value)} (r:KV kvs vs) (k:κ):KV (q2m kvs k) (without vs k):=by
 unfold KV at r ⊢;unfold q2m without
 induction r with
 | nil=>exact .nil
 | @cons p q ps qs h t J=>
  obtain ⟨h1,h2⟩:=h;rw [z2i,z2i];by_cases e:p.1=k
  ·have a:¬ decide (p.1≠k)=true:=by simp [e]
   have b:¬ decide (q.1≠k)=true:=by simp [h1.symm.trans e]
   rw [if_neg a,if_neg b];exact J
  ·have e':¬ q.1=k:=λ z=>e (h1.trans z);have a:decide (p.1≠k)=true:=by simp [e]
   have b:decide (q.1≠k)=true:=by simp [e']
   rw [if_pos a,if_pos b];exact .cons ⟨h1,h2⟩ J
theorem KV.length {kvs:List (κ×V)} {vs:List (κ×Value)} (r:KV kvs vs):kvs.length=vs.length:=Paired.length r
def qt2 (kvs:List (κ×V)) (k:κ):(q2m kvs k).length<=kvs.length:=z0z _ _
end
def q96 {P:Program} {w:World} {k:Key} {u:Value} (r:RelV (kV k) u):(q17 P w).is k u=true:=by
 cases k with
 | inl i=>obtain ⟨t,e⟩:=(show ∃ t,u=Value.int i t from r);subst e;exact qmm P w i t
 | inr x=>obtain ⟨t,e⟩:=(show ∃ t,u=Value.str x t from r);subst e;exact qcg P w x t
theorem qhq {P:Program} {w:World}:∀ {ks:List Key} {us:xH},Vals (ks.map kV) us ->ItemsAre (q17 P w) ks us
 | [],_,r=>by rw [z43] at r;cases r;exact .nil
 | k::ks,_,r=>by
  rw [z3k] at r;cases r with
  | cons h t=>exact .cons (q96 h) (qhq t)
abbrev KT (H:Hp):List (List Key×V) ->List (List Key×Addr×Value) ->Prop:=Paired λ p q=>p.1=q.1/\H q.2.1=some (.tup (p.1.map kV))/\RelV p.2 q.2.2
def KT.val {H:Hp} {kvs:List (List Key×V)} {xs:List (List Key×Addr×Value)} (r:KT H kvs xs) (k:List Key):RelO (valV kvs k) ((atKey xs k).map (·.2)):=by
 induction r with
 | nil=>exact True.intro
 | @cons p q ps J h t ih=>
  obtain ⟨h1,_,h2⟩:=h;by_cases e:p.1=k
  ·have e':q.1=k:=h1.symm.trans e;have b:atKey (q::J) k=some q.2:=by simp [atKey,z32,e']
   rw [q2c e,b];exact h2
  ·have e':¬ q.1=k:=λ z=>e (h1.trans z);have b:atKey (q::J) k=atKey J k:=by simp [atKey,z32,e']
   rw [q27 e,b];exact ih
def KT.repl {H:Hp} {kvs:List (List Key×V)} {xs:List (List Key×Addr×Value)} (r:KT H kvs xs) (k:List Key) {y:V} {u:Value} (ry:RelV y u):
  KT H (kvs.map λ J=>if J.1=k then (J.1,y) else J) (xs.map (putAt k u)):=by
 induction r with
 | nil=>exact .nil
 | @cons p q ps qs h t ih=>
  rw [z3k,z3k];refine .cons ?_ ih;obtain ⟨h1,h2,h3⟩:=h;unfold putAt;by_cases e:p.1=k
  ·rw [if_pos e,if_pos (h1.symm.trans e)];exact ⟨h1,h2,ry⟩
  ·rw [if_neg e,if_neg (λ z=>e (h1.trans z))];exact ⟨h1,h2,h3⟩
def KT.put {H:Hp} {kvs:List (List Key×V)} {xs:List (List Key×Addr×Value)} (r:KT H kvs xs) (k:List Key) {b:Addr} {y:V} {u:Value} (hb:H b=some (.tup (k.map kV))) (ry:RelV y u):
  KT H (putK kvs k y) (storedH xs k b u):=by
 have e:(kvs.any λ kv=>decide (kv.1=k))=(atKey xs k).isSome:=by
  rw [q7d,(r.val k).q69,Option.isSome_map]
 unfold putK storedH;rw [e];by_cases q:(atKey xs k).isSome=true
 ·rw [if_pos q,if_pos q];exact r.repl k ry
 ·rw [if_neg q,if_neg q];exact Paired.snoc r ⟨rfl,hb,ry⟩
def KT.keeps {H H':Hp} {kvs:List (List Key×V)} {xs:List (List Key×Addr×Value)} (r:KT H kvs xs) (ht:∀ b ys,H b=some (.tup ys) ->H' b=some (.tup ys)):KT H' kvs xs:=
 Paired.mapP r λ _ _ z=>⟨z.1,ht _ _ z.2.1,z.2.2⟩
section
variable {P:Program} {w:World} {H:Hp} {h:Heap} {a:Addr}
def qvc {u:HO} (ok:HOk P w H h) (e:Rd H a u):ObjOk P w H h a u:=e.ok ok
def q97 {kvs:List (Key×V)} (ok:HOk P w H h) (e:Rd H a (.dK kvs)):kvs.length<=sizeLine/\(a==sysModules)=false/\∃ vs,KV kvs vs/\h.DictOf (q17 P w) a vs:=
 show ObjOk P w H h a (.dK kvs) from qvc ok e
def qou {kvs:List (Key×V)} (ok:HOk P w H h) (e:H a=some (.dK kvs)):kvs.length<=sizeLine/\(a==sysModules)=false/\∃ vs,KV kvs vs/\h.DictOf (q17 P w) a vs:=q97 ok (.inl e)
def qao {ks:List Key} (ok:HOk P w H h) (e:H a=some (.tup (ks.map kV))):(tupleKind (q17 P w)).is h ks a:=by
 obtain ⟨_,its,r,o,h1,h2,n,h3⟩:=(show ObjOk P w H h a (.tup (ks.map kV)) from ok a _ e);exact ⟨o,its.toArray,n,h1,h2,h3,by simpa using qhq r⟩
def qbs {kvs:List (List Key×V)} (ok:HOk P w H h) (e:Rd H a (.dT kvs)):kvs.length<=sizeLine/\(a==sysModules)=false/\
  ∃ xs,KT H kvs xs/\h.DictOfH (tupleKind (q17 P w)) a xs:=by
 obtain ⟨z,y,xs,r,o,es,ep,h1,h2,h3,h4,h5⟩:=(show ObjOk P w H h a (.dT kvs) from qvc ok e);refine ⟨z,y,xs,r,o,es,ep,h1,h2,h3,h4,λ x hx=> ?_,h5⟩;have all:∀ {l:List (List Key×V)} {m:List (List Key×Addr×Value)},KT H l m ->∀ x∈m,(tupleKind (q17 P w)).is h x.1 x.2.1:=by
  intro l m q
  induction q with
  | nil=>intro x hx;exact nomatch hx
  | @cons p q ps qs hq t ih=>
   intro x hx;rcases z3m.mp hx with e | hx
   ·subst e;exact qao ok (by rw [<- hq.1];exact hq.2.1)
   ·exact ih x hx
 exact all r x hx
def q10k {kvs:List (List Key×V)} (ok:HOk P w H h) (e:H a=some (.dT kvs)):kvs.length<=sizeLine/\(a==sysModules)=false/\
  ∃ xs,KT H kvs xs/\h.DictOfH (tupleKind (q17 P w)) a xs:=qbs ok (.inl e)
end
def DGet (H:Hp) (a:Addr) (y:V) (r:Option V):Prop:=
 (∃ kvs k,Rd H a (.dK kvs)/\y=kV k/\r=valV kvs k)\/ ∃ kvs k b,Rd H a (.dT kvs)/\y= .ref b/\H b=some (.tup (k.map kV))/\r=valV kvs k
def DPut (H:Hp) (a:Addr) (y v:V) (H':Hp):Prop:=
 (∃ kvs k,H a=some (.dK kvs)/\y=kV k/\kvs.length < sizeLine/\H'=upd H a (.dK (putK kvs k v)))\/
 ∃ kvs k b,H a=some (.dT kvs)/\y= .ref b/\H b=some (.tup (k.map kV))/\kvs.length < sizeLine/\H'=upd H a (.dT (putK kvs k v))
theorem DGet.k {H:Hp} {a:Addr} {kvs:List (Key×V)} {k:Key} (e:H a=some (.dK kvs)):DGet H a (kV k) (valV kvs k):= .inl ⟨kvs,k,.inl e,rfl,rfl⟩
def DGet.t {H:Hp} {a b:Addr} {kvs:List (List Key×V)} {k:List Key} (e:H a=some (.dT kvs)) (eb:H b=some (.tup (k.map kV))):DGet H a (.ref b) (valV kvs k):= .inr ⟨kvs,k,b,.inl e,rfl,eb,rfl⟩
theorem DPut.k {H:Hp} {a:Addr} {kvs:List (Key×V)} {k:Key} {v:V} (e:H a=some (.dK kvs)) (hl:kvs.length < sizeLine):DPut H a (kV k) v (upd H a (.dK (putK kvs k v))):= .inl ⟨kvs,k,e,rfl,hl,rfl⟩
def DPut.t {H:Hp} {a b:Addr} {kvs:List (List Key×V)} {k:List Key} {v:V} (e:H a=some (.dT kvs)) (eb:H b=some (.tup (k.map kV))) (hl:kvs.length < sizeLine):
  DPut H a (.ref b) v (upd H a (.dT (putK kvs k v))):= .inr ⟨kvs,k,b,e,rfl,eb,hl,rfl⟩
section
variable {X:Cx} {xC:xG} {σ:St} {H:Hp} {s:Shared} {a:Addr} {y v:V} {u r:Value} {o:Option V} {A:Around} {E:xB}
def Inv.big (I:Inv X xC σ H s):sysModules < s.heap.objs.size:=by
 have h:mainGlobals < s.heap.objs.size:=(I.mod.glob.keeps I.bk).lt;exact Nat.lt_trans (by decide) h
def qql {Q:xB} (hu:A.units+1 < cLine) (I:Inv X xC σ H s) (g:DGet H a y (some v)) (ry:RelV y u) (h:∀ Z s',Inv X xC σ H s' ->RelV v Z ->Q Z s'):
  wpAny (model X.prog X.w) A (getItem (.ref a) u) Q E s:=by
 rcases g with ⟨kvs,k,e,ey,l⟩ | ⟨kvs,k,b,e,ey,eb,l⟩
 ·subst ey;obtain ⟨z,hd,vs,J,dd⟩:=q97 I.hok e;obtain ⟨Z,hw,O⟩:=RelO.qbq (v:=v) (o:=valueAt vs k) (by rw [l];exact J.val k);exact wpAny_getItem_of (q96 ry) dd.mapOf hw (h Z _ (I.tok _) O)
 ·subst ey;cases (show u=Value.ref b from ry)
  obtain ⟨z,hd,xs,J,dd⟩:=qbs I.hok e;obtain ⟨Z,hw,O⟩:=RelO.qbq (v:=v) (o:=(atKey xs k).map (·.2)) (by rw [l];exact J.val k);obtain ⟨p,hp,a1⟩:=z0p.mp hw;refine wpAny_getItem_heap (tupleKind_room_in1 hu) (qao I.hok eb) dd hp ?_;rw [a1];exact h Z _ (I.tok _) O
def d_in {Q:xB} (hu:A.units+1 < cLine) (I:Inv X xC σ H s) (g:DGet H a y o) (ry:RelV y u) (h:∀ s',Inv X xC σ H s' ->Q (.bool o.isSome) s'):
  wpAny (model X.prog X.w) A (compareOp .In u (.ref a)) Q E s:=by
 rcases g with ⟨kvs,k,e,ey,l⟩ | ⟨kvs,k,b,e,ey,eb,l⟩
 ·subst ey;obtain ⟨z,hd,vs,J,dd⟩:=q97 I.hok e;refine wpAny_in_of (q96 ry) hd dd.mapOf ?_;rw [<- (J.val k).q69,<- l];exact h _ (I.tok _)
 ·subst ey;cases (show u=Value.ref b from ry)
  obtain ⟨z,hd,xs,J,dd⟩:=qbs I.hok e;refine wpAny_in_heap (tupleKind_room_in1 hu) (qao I.hok eb) hd dd ?_;have q:=(J.val k).q69;rw [Option.isSome_map] at q;rw [<- q,<- l];exact h _ (I.tok _)
def qwj {Q:xB} (hu:A.units+1 < cLine) (I:Inv X xC σ H s) (g:DGet H a y o) (ry:RelV y u) (h:∀ s',Inv X xC σ H s' ->Q (.bool (!o.isSome)) s'):
  wpAny (model X.prog X.w) A (compareOp .NotIn u (.ref a)) Q E s:=by
 rcases g with ⟨kvs,k,e,ey,l⟩ | ⟨kvs,k,b,e,ey,eb,l⟩
 ·subst ey;obtain ⟨z,hd,vs,J,dd⟩:=q97 I.hok e;refine wpAny_notIn_of (q96 ry) hd dd.mapOf ?_;rw [<- (J.val k).q69,<- l];exact h _ (I.tok _)
 ·subst ey;cases (show u=Value.ref b from ry)
  obtain ⟨z,hd,xs,J,dd⟩:=qbs I.hok e;refine wpAny_notIn_heap (tupleKind_room_in1 hu) (qao I.hok eb) hd dd ?_;have q:=(J.val k).q69;rw [Option.isSome_map] at q;rw [<- q,<- l];exact h _ (I.tok _)
def qbt {h':Heap} {t':Nat} {J:HO} (I:Inv X xC σ H s) (mu:Mut (H a)) (hs:Heap.SameBut a s.heap h') (he:∃ q,h'.get? a=some q) (new:ObjOk X.prog X.w (upd H a J) h' a J):
  Inv X xC σ (upd H a J) {s with heap:=h',toks:=t'}:=
 I.write (x:=a) (e:=a) mu (.inl rfl) (λ b q hb z=>(hs.2 b hb).trans z) he new
def qkr {P:Program} {w:World} {H':Hp} {h':Heap} {kvs:List (Key×V)} {vs:List (Key×Value)} (z:kvs.length<=sizeLine) (hd:(a==sysModules)=false) (J:KV kvs vs) (dd:h'.DictOf (q17 P w) a vs):
  ObjOk P w H' h' a (.dK kvs):=⟨z,hd,vs,J,dd⟩
def qqm {H':Hp} {Q:Unit ->Shared ->Prop} (hu:A.units+1 < cLine) (I:Inv X xC σ H s) (g:DPut H a y v H') (ry:RelV y u) (rv:RelV v r) (h:∀ s',Inv X xC σ H' s' ->Q () s'):
  wpAny (model X.prog X.w) A (setItem (.ref a) u r) Q E s:=by
 rcases g with ⟨kvs,k,e,ey,l,eH⟩ | ⟨kvs,k,b,e,ey,eb,l,eH⟩
 ·subst ey eH;obtain ⟨z,hd,vs,J,dd⟩:=qou I.hok e;have hz:vs.length<=sizeLine:=by rw [<- J.length];exact z
  have hl:(putK kvs k v).length<=sizeLine:=by have:=q3p kvs k v;lia
  refine wpAny_setItem_pairs (hsz:=hz) (q96 ry) dd λ h' O Z=>h _ ?_;have he:∃ q,h'.get? a=some q:=let ⟨q,_,_,hq,_⟩:=O;⟨q,hq⟩
  exact qbt I (by rw [e];exact True.intro) Z he (qkr hl hd (J.put k rv) O)
 ·subst ey eH;cases (show u=Value.ref b from ry)
  obtain ⟨z,hd,xs,J,dd⟩:=q10k I.hok e;have hz:xs.length<=sizeLine:=by rw [<- Paired.length J];exact z
  have hl:(putK kvs k v).length<=sizeLine:=by have:=q3p kvs k v;lia
  refine wpAny_setItem_heap (hsz:=hz) (tupleKind_room_in1 hu) (qao I.hok eb) dd λ h' O Z=>h _ ?_;obtain ⟨q,es,ep,hq,h2,h3,h4,_,h5⟩:=O;refine qbt I (by rw [e];exact True.intro) Z ⟨q,hq⟩ ⟨hl,hd,_,(J.put k eb rv).keeps λ c ys ec=> ?_,q,es,ep,hq,h2,h3,h4,h5⟩;rw [qi (q10a ec e (λ z=>nomatch z))];exact ec
end
section
variable {X:Cx} {xC:xG} {σ:St} {H:Hp} {s:Shared} {a:Addr} {kvs:List (Key×V)} {k:Key} {u:Value} {A:Around} {E:xB}
def q10l {v:V} {more:xH} {Q:xB} (I:Inv X xC σ H s) (e:H a=some (.dK kvs)) (ry:RelV (kV k) u) (l:valV kvs k=some v) (hm:more=[]\/ ∃ x,more=[x])
  (h:∀ Z s',Inv X xC σ (upd H a (.dK (q2m kvs k))) s' ->RelV v Z ->Q Z s'):wpAny (model X.prog X.w) A (call (.builtin "dict.pop") (.ref a::u::more)) Q E s:=by
 obtain ⟨z,hd,vs,J,dd⟩:=qou I.hok e;obtain ⟨Z,hw,a1⟩:=RelO.qbq (v:=v) (o:=valueAt vs k) (by rw [<- l];exact J.val k);have hp:(keyPart u).isSome=true:=by
  cases k with
  | inl i=>obtain ⟨t,q⟩:=(show ∃ t,u=Value.int i t from ry);subst q;rfl
  | inr x=>obtain ⟨t,q⟩:=(show ∃ t,u=Value.str x t from ry);subst q;rfl
 have ha:argsOk "dict.pop" ⟨.ref a::u::more,[]⟩:=by
  rcases hm with q | ⟨x,q⟩
  ·subst q;exact PySem.F.args_dict_pop_2 _ _
  ·subst q;exact PySem.F.args_dict_pop_3 _ _ _
 refine call_meetsIn PySem.F.slot_dict_pop dd.typeIs PySem.F.entry_dict_pop ha (meets_dict_pop_there (q17 X.prog X.w) a (q96 ry) more hm hp)
  ⟨vs,Z,dd,by rw [<- J.length];exact z,hw,λ h' O hs=>h Z _ ?_ a1⟩
 have he:∃ q,h'.get? a=some q:=let ⟨q,_,_,hq,_⟩:=O;⟨q,hq⟩
 exact qbt I (by rw [e];exact True.intro) hs he (qkr (z40 (qt2 kvs k) z) hd (J.drop k) O)
def q10m {Q:xB} (I:Inv X xC σ H s) (e:Rd H a (.dK kvs)) (h:∀ t s',Inv X xC σ H s' ->Q (.int kvs.length t) s'):wpAny (model X.prog X.w) A (call (.builtin "len") [.ref a]) Q E s:=by
 obtain ⟨z,hd,vs,J,dd⟩:=q97 I.hok e;refine call_len_dict hd dd (by rw [<- J.length];rw [sizeLine_eq] at z;lia) ?_;rw [<- J.length];exact h _ _ (I.tok _)
end
def NoSl (i:Expr):Prop:=∀ ov iv,subscripted i false ov iv=operate [ov,iv] (getItem ov iv)
def qwk {prog:Program} {w:World} {A:Around} {E:xB} {s:Shared} {env:Env} {value J:Expr} {pos:Pos} {T id:String} {Q:xB}
    (hl:typeLookup (.type T) "__getitem__"=pure (some (.builtin id))) (hs:NoSl J)
    (h:wpAny (model prog w) A (eval value env) (λ o s₁=>wpAny (model prog w) A (eval J env) (λ i O=>O.TypeIs o T/\wpAny (model prog w) A (getItem o i) Q E O) E s₁) E s):
    wpAny (model prog w) A (eval (.Subscript value J pos) env) Q E s:=by
  refine Subscript_ (z4f h (λ o s₁ h₁=>z4f h₁ (λ i O Z=> ?_) λ _ _ x=>x) λ _ _ x=>x);obtain ⟨hT,Z⟩:=Z;unfold subscriptTail;refine z4e ?_;rw [getitemInPython_of_ne hT.not_modules];refine z4e (wpAny_specialOf hT hl ?_);have fin:wpAny (model prog w) A (subscripted J false o i) (λ r s₃=>wpAny (model prog w) A (letTemporaryGo value o r >>=λ _=>pure r) Q E s₃) E O:=by
    rw [hs o i];exact wpAny_operating (z4f Z (λ r s₃ h₃=>z4e (wpAny_letTemporaryGo (z4d h₃))) λ _ _ x=>x)
  first
    | exact z4d (z4e fin)
    | exact z4e (z4d (z4e fin))
    | exact z4e fin
def qmo {X:Cx} {xC:xG} {σ:St} {H:Hp} {s:Shared} {a:Addr} {y:V} {o:Option V} (I:Inv X xC σ H s) (g:DGet H a y o):s.TypeIs (.ref a) "dict":=by
 rcases g with ⟨kvs,k,e,_,_⟩ | ⟨kvs,k,b,e,_,_,_⟩
 ·obtain ⟨_,_,vs,_,dd⟩:=q97 I.hok e;exact dd.typeIs
 ·obtain ⟨_,_,xs,_,dd⟩:=qbs I.hok e;exact dd.typeIs
def q10n (td ty:TE):TE:=λ σ H Q=>td σ H λ x H1=>ty σ H1 λ y H2=>∃ a v,x= .ref a/\DGet H2 a y (some v)/\Q v H2
def tDIn (ty td:TE):TE:=λ σ H Q=>ty σ H λ y H1=>td σ H1 λ x H2=>∃ a o,x= .ref a/\DGet H2 a y o/\Q (.bl o.isSome) H2
def qwl (ty td:TE):TE:=λ σ H Q=>ty σ H λ y H1=>td σ H1 λ x H2=>∃ a o,x= .ref a/\DGet H2 a y o/\Q (.bl (!o.isSome)) H2
def q10o (td ty tv:TE):TS:=λ D σ H=>tv σ H λ v H1=>td σ H1 λ x H2=>ty σ H2 λ y H3=>∃ a H4,x= .ref a/\DPut H3 a y v H4/\D.nx σ H4
section
variable {X:Cx} {o i e value:Expr} {pos pos' tpos:Pos} {td ty tv:TE}
def q73 (hu:X.A.units+1 < cLine) (ho:PE X o td) (hi:PE X i ty) (hs:NoSl i):PE X (.Subscript o i pos) (q10n td ty):=by
 intro xC s σ H Q I h;refine qwk PySem.F.slot_dict_getitem.lookup hs (thn (ho xC s σ H _ I h) λ u s1 ⟨x,H1,I1,rx,q1⟩=>thn (hi xC s1 σ H1 _ I1 q1) λ iv s2 O=> ?_);obtain ⟨y,H2,I2,ry,a,v,ex,g,q2⟩:=O;subst ex;obtain rfl:u=Value.ref a:=rx;exact ⟨qmo I2 g,qql hu I2 g ry λ w' s3 I3 J=>⟨v,H2,I3,J,q2⟩⟩
def qks (hu:X.A.units+1 < cLine) (hi:PE X i ty) (ho:PE X o td):PC X .In i o (tDIn ty td):=by
 intro xC s σ H Q I h;refine thn (hi xC s σ H _ I h) λ iv s1 ⟨y,H1,I1,ry,q1⟩=>thn (ho xC s1 σ H1 _ I1 q1) λ u s2 J=> ?_;obtain ⟨x,H2,I2,rx,a,ov,ex,g,q2⟩:=J;subst ex;obtain rfl:u=Value.ref a:=rx;exact d_in hu I2 g ry λ s3 I3=>⟨.bl ov.isSome,H2,I3,zr,q2⟩
def qqn (hu:X.A.units+1 < cLine) (hi:PE X i ty) (ho:PE X o td):PC X .NotIn i o (qwl ty td):=by
 intro xC s σ H Q I h;refine thn (hi xC s σ H _ I h) λ iv s1 ⟨y,H1,I1,ry,q1⟩=>thn (ho xC s1 σ H1 _ I1 q1) λ u s2 J=> ?_;obtain ⟨x,H2,I2,rx,a,ov,ex,g,q2⟩:=J;subst ex;obtain rfl:u=Value.ref a:=rx;exact qwj hu I2 g ry λ s3 I3=>⟨.bl (!ov.isSome),H2,I3,zr,q2⟩
def q74 (hu:X.A.units+1 < cLine) (ho:PE X o td) (hi:PE X i ty) (hv:PE X value tv) (hs:swapsWith value (some (.Subscript o i pos')) pos.line X.env=pure false):
  PS X (.Assign [.Subscript o i pos'] value pos) (q10o td ty tv):=by
 intro xC s σ H D I h;refine wpAny_Assign_Subscript (thn (hv xC s σ H _ I h) λ r s1 ⟨v,H1,I1,rv,q1⟩=>thn (ho xC s1 σ H1 _ I1 q1) λ u s2 ⟨x,H2,I2,rx,q2⟩=>thn (hi xC s2 σ H2 _ I2 q2) λ iv s3 J=> ?_) hs;obtain ⟨y,H3,I3,ry,a,H4,ex,g,q3⟩:=J;subst ex;obtain rfl:u=Value.ref a:=rx;exact qqm hu I3 g ry rv λ s4 I4=>⟨σ,H4,I4,q3⟩
end
def qt3 {P:Program} {w:World} {H:Hp} (h:Heap) (hb:sysModules < h.objs.size):ObjOk P w H (h.push {cls:= .type "dict",data:= .dict #[]}) h.objs.size (.dK []):=
 ⟨z4a _,beq_eq_false_iff_ne.mpr (Ne.symm (z3z hb)),[],.nil,Heap.DictOf.new h⟩
def qt4 {P:Program} {w:World} {H:Hp} (h:Heap) (hb:sysModules < h.objs.size):ObjOk P w H (h.push {cls:= .type "dict",data:= .dict #[]}) h.objs.size (.dT []):=
 ⟨z4a _,beq_eq_false_iff_ne.mpr (Ne.symm (z3z hb)),[],.nil,_,#[],0,z1b _ rfl,⟨rfl,rfl,rfl⟩,rfl,rfl,z3f⟩
def qyh:TE:=λ _ H Q=>∀ p,H p=none ->Q (.ref p) (upd H p (.dK []))
def qyi:TE:=λ _ H Q=>∀ p,H p=none ->Q (.ref p) (upd H p (.dT []))
section
variable {X:Cx} {pos:Pos}
def q5l:PE X (.Dict [] [] pos) qyh:=λ xC s σ H Q I h=>
 wpAny_Dict_empty ⟨.ref s.heap.objs.size,_,I.laid (a:=s.heap.objs.size) (o:= .dK []) (t':=s.toks) (λ _ _ q=>z0n _ q) (z47 _) (qt3 s.heap I.big),rfl,h _ (I.hok.fresh (z47 _))⟩
def qkt:PE X (.Dict [] [] pos) qyi:=λ xC s σ H Q I h=>
 wpAny_Dict_empty ⟨.ref s.heap.objs.size,_,I.laid (a:=s.heap.objs.size) (o:= .dT []) (t':=s.toks) (λ _ _ q=>z0n _ q) (z47 _) (qt4 s.heap I.big),rfl,h _ (I.hok.fresh (z47 _))⟩
end
structure M1 (X:Cx) (o:Expr) (m:Str) (apos:Pos) (e:Expr) (cpos:Pos):Prop where
 base:attributeBase o m X.env (eval o X.env)=eval o X.env
 few:((backTo cpos (starEach [e] X.env)).all (λ x=> !x.1)&&(backToKw cpos (keywordEach [] X.env)).all (λ x=>x.1.isSome)
  &&decide (([e]:List Expr).length+([]:List Keyword).length+(if ([]:List Keyword).isEmpty then 0 else 1) < 30))=true
 line:(apos.endLine==cpos.line)=true
 trees:backTo cpos (starEach [e] X.env)=[(false,eval e X.env)]
structure M2 (X:Cx) (o:Expr) (m:Str) (apos:Pos) (e f:Expr) (cpos:Pos):Prop where
 base:attributeBase o m X.env (eval o X.env)=eval o X.env
 few:((backTo cpos (starEach [e,f] X.env)).all (λ x=> !x.1)&&(backToKw cpos (keywordEach [] X.env)).all (λ x=>x.1.isSome)
  &&decide (([e,f]:List Expr).length+([]:List Keyword).length+(if ([]:List Keyword).isEmpty then 0 else 1) < 30))=true
 line:(apos.endLine==cpos.line)=true
 trees:backTo cpos (starEach [e,f] X.env)=[(false,eval e X.env),(false,eval f X.env)]
def IsD (H:Hp) (a:Addr):Prop:=(∃ kvs,Rd H a (.dK kvs))\/ ∃ kvs,Rd H a (.dT kvs)
def qqo {X:Cx} {xC:xG} {σ:St} {H:Hp} {s:Shared} {a:Addr} (I:Inv X xC σ H s) (d:IsD H a):
  s.TypeIs (.ref a) "dict"/\(∀ b,Value.ref a= .ref b ->∃ J,s.heap.get? b=some J/\J.dict=none)/\(a==sysModules)=false:=by
 rcases d with ⟨kvs,e⟩ | ⟨kvs,e⟩
 ·obtain ⟨_,hd,vs,_,dd⟩:=q97 I.hok e;refine ⟨dd.typeIs,λ b q=> ?_,hd⟩;cases q
  obtain ⟨J,_,_,h1,h2,_⟩:=dd;exact ⟨J,h1,h2.2.1⟩
 ·obtain ⟨_,hd,xs,_,dd⟩:=qbs I.hok e;refine ⟨dd.typeIs,λ b q=> ?_,hd⟩;cases q
  obtain ⟨J,_,_,h1,h2,_⟩:=dd;exact ⟨J,h1,h2.2.1⟩
section
variable {X:Cx} {xC:xG} {σ:St} {H:Hp} {s:Shared} {a:Addr} {y d:V} {u r:Value} {o:Option V} {A:Around} {E:xB}
end
def qyj (td ty:TE):TE:=λ σ H Q=>td σ H λ x H1=>∃ a,x= .ref a/\IsD H1 a/\ty σ H1 λ y H2=>∃ kvs k v,H2 a=some (.dK kvs)/\y=kV k/\valV kvs k=some v/\Q v (upd H2 a (.dK (q2m kvs k)))
section
variable {X:Cx} {o e f:Expr} {apos cpos:Pos} {td ty tx:TE}
def qt5 (ho:PE X o td) (he:PE X e ty) (m:M1 X o "pop" apos e cpos):PE X (.Call (.Attribute o "pop" apos) [e] [] cpos) (qyj td ty):=by
 intro xC s σ H Q I h;refine wpAny_Call_method m.base m.few m.line PySem.F.plainAttrs_dict PySem.F.slot_dict_pop PySem.F.type_dict_pop (thn (ho xC s σ H _ I h) λ u s1 O=> ?_);obtain ⟨x,H1,I1,rx,a,ex,d,q1⟩:=O;subst ex;obtain rfl:u=Value.ref a:=rx;obtain ⟨t1,t2,_⟩:=qqo I1 d;refine ⟨t1,t2,?_⟩;rw [m.trees];refine Calls.callWith_builtin rfl (Calls.evalArgs_plain (Calls.spliced_cons (thn (he xC s1 σ H1 _ I1 q1) λ iv s2 ⟨y,H2,I2,ry,kvs,k,v,ea,ey,l,q2⟩=>Calls.spliced_nil ?_)));subst ey;exact q10l I2 ea ry l (.inl rfl) λ w' s3 I3 J=>⟨v,_,I3,J,q2⟩
end
section
variable {X:Cx} {xC:xG} {σ:St} {H:Hp} {s:Shared} {a:Addr} {kvs:List (Key×V)} {A:Around} {E:xB}
end
section
variable {X:Cx} {xC:xG} {σ:St} {H:Hp} {s:Shared} {a:Addr} {y:V} {u:Value} {A:Around} {E:xB}
end
end L2
namespace Att
open PySem PySem.W PySem.Calls PyProof.Rows
def qei {P:Params} {h:Heap}:∀ (ns:List Int) (vs:xH),WellAll P h vs (ns.map WData.int) ->IntsAre vs ns:=by
 intro ns
 induction ns with
 | nil=>
  intro vs w;rw [z43] at w;cases w
  exact .nil
 | cons n ns ih=>
  intro vs w;rw [z3k] at w;cases w with
  | cons a b=>
   cases a
   exact .cons _ _ (ih _ b)
def qqp {l:OpenLaw} {n:Nat} (hn:l.most=some n) {P:Params} {h:Heap} {args:List WData} {O:xH}
    (J:l.row.toRowW.claim.pre args=true) (a3:WellAll P h O args):
    ∃ a vs ns,O=[Value.ref a]/\args=[WData.list (ns.map WData.int)]/\h.get? a=some {cls:= .type "list",data:= .seq vs.toArray}/\IntsAre vs ns/\ns.length<=n:=by
  have a2:WShape.hasAll [] args [.list .int]=true:=(pre_splitW J).1;have hc:l.pre.holds [] {args:=args}=true:=(pre_splitW J).2;obtain ⟨d,r,rfl,h1,h2⟩:=hasAllW_cons a2;obtain rfl:=hasAllW_nil h2;obtain ⟨xs,rfl,h3⟩:=hasW_list h1;obtain ⟨ns,rfl⟩:=items_int h3;have a1:ns.length<=n:=by
    unfold OpenLaw.pre at hc;have h4:(WTm.not (.lt (.lit (.int (n:Int))) (.len (.arg 0)))).holds [] {args:=[.list (ns.map .int)]}=true:=by
      have h4:=(holds_andW hc).1;rw [hn] at h4;exact h4
    have h5:=condW_of h4 (w_not (w_lt w_lit (w_len_list (w_arg rfl))));rw [z2z] at h5;refine Nat.le_of_not_lt λ q=> ?_;have q':(n:Int) < ((ns.length:Nat):Int):=by lia
    first
      | (rw [z3b q'] at h5;exact absurd h5 (by decide))
      | (simp at h5;lia)
  cases a3 with
  | cons w1 w2=>
    cases w2
    cases w1 with
    | list ho Z=>exact ⟨_,_,ns,rfl,rfl,ho,qei ns _ Z,a1⟩
def qqq (l:OpenLaw) (args:List WData):l.row.toRowW.claim.post args (.bool true) args=true:=
 postW_of (r:=l.row.toRowW) (X:=(true==true))
  (show WShape.has [] (.bool true) .bool=true by first | rfl | decide | simp [WShape.has,WShape.arms,WShape.armsAll])
  (show (WTm.eq .res (.lit (.bool true))).value [] {args:=args,res:=some (.bool true),after:=args}=some (.bool (true==true)) from w_eq_bool (w_res rfl) w_lit) rfl
def qmp {l:OpenLaw} {n:Nat} {q:Program} {J:xD} {XP:(Str ->Option Value) ->Heap ->Prop} {YP:World ->Heap ->Prop} {d:DefRec}
  (hn:l.most=some n) (a6:d.params.defaults=[])
  (call:∀ (w:World) (s₀ O:Shared) (mg mb:xE) (fa:Addr) (o:Obj) (pm cd Z:Value) (a:Addr) (vs:xH) (ns:List Int),
   Ground q J [] XP w s₀ mg mb O.heap ->YP w O.heap ->
   O.heap.get? fa=some o ->o.data= .func (docDef d.name d.params d.body d.scope pm cd Z) ->O.heap.CodeRec cd d.name ->mg d.name=some (.ref fa) ->
   O.heap.get? a=some {cls:= .type "list",data:= .seq vs.toArray} ->IntsAre vs ns ->ns.length<=n ->O.gens=#[] ->
   codeAny (model l.prog w) callerA (.call (.ref fa) ⟨[.ref a],[]⟩) (λ r s'=>r= .ok (.ret (.bool true))/\OldK O.heap s'.heap/\s'.os=O.os/\AllBare s'.gens) O):
  WalkO q J XP YP l.row.toRowW d [] (λ f vs=>PySem.call f vs):=by
 intro w s₀ O mg mb G Y fa o pm cd Z dV kV ho hd a5 hD a7 hg args b2 as a4 a9 hrd a8 hlo;obtain rfl:dV= .none:=Dflts.none hD a6;obtain rfl:kV= .none:=Dflts.noKw hD;obtain ⟨a,vs,ns,rfl,rfl,a3,a1,a2⟩:=qqp hn a4 a8;refine enter_call (z42 (call w s₀ O mg mb fa o pm cd Z a vs ns G Y ho (fd_plain hd) a5 a7 a3 a1 a2 hg) λ r s' hq=> ?_);obtain ⟨rfl,h2,h3,h4⟩:=hq;exact ⟨.inl ⟨.bool true,.bool true,[],rfl,λ _=>rfl,.bool true,qqq l _,λ _=>⟨List.Pairwise.nil,λ _ hm=>(nomatch hm)⟩⟩,h2,h3,h4⟩
section
variable {prog:Program} {w:World} {A:Around} {E:xB} {s:Shared} {K:Frag}
end
end Att
namespace L2
open PySem PySem.Spec PyProof.Rows
theorem qhr:∀ {vs:xH} {ns:List Int},IntsAre vs ns ->Vals (ns.map V.int) vs
 | _,_,.nil=> .nil
 | _,_,.cons n t h=> .cons ⟨t,rfl⟩ (qhr h)
def Only (H:Hp):Prop:=∀ b,H b=none\/ ∃ o xs,H b=some (.frz o (.lst xs))
def qt6 {P:Program} {w:World} {K:xA} {mg mb:xE} {CX:CXT} {k:Nat} {fa a:Addr} {fd:FuncData} {x:Str} {sp:Sp} {J:Shared} {vs:xH} {ns:List Int}
  (KX:K.In J.heap) (a5:J.heap.Ns mainGlobals mg) (hb:J.heap.Ns builtinsNs mb) (a9:∀ x:Str,x≠"__name__" ->mb x=bootBuiltins x) (a4:J.heap.NoLimit) (hg:J.gens=#[])
  (ha:J.heap.get? a=some {cls:= .type "list",data:= .seq vs.toArray}) (hi:IntsAre vs ns) (hl:ns.length<=sizeLine) (hr:Room k callerA)
  (F:∀ base:Heap,K.In base ->base.Ns mainGlobals mg ->FnOk P w K mg base CX k fa fd [x] sp) (a2:∀ (s:Shared) (u:Value),BindsTo s fd ⟨[u],[]⟩ [(x,u)])
  (b2:∀ H:Hp,Only H ->SqL K H a (ns.map V.int) ->sp [.ref a] H (λ v _=>v= .bl true) λ _ _ _=>False)
  (a8:∀ H e s',CX [] H J (λ _ _ _=>False) e s' ->False):
  codeAny (model P w) callerA (.call (.ref fa) ⟨[.ref a],[]⟩) (λ r s'=>r= .ok (.ret (.bool true))/\OldK J.heap s'.heap/\s'.os=J.os/\AllBare s'.gens) J:=by
 have rv:=qhr hi;have a7:=hi.length;have a1:∀ H:Hp,Only H ->SqL K H a (ns.map V.int) ->HOk P w H J.heap ->(∀ b,H b≠none ->b=a) ->(H a≠none ->K.lookup a=none) ->
   codeAny (model P w) callerA (.call (.ref fa) ⟨[.ref a],[]⟩) (λ r s'=>r= .ok (.ret (.bool true))/\OldK J.heap s'.heap/\s'.os=J.os/\AllBare s'.gens) J:=by
  intro H hO hS hok hA hK;have O:∀ {b:Addr} {o:Obj},J.heap.get? b=some o ->H b=none ->(hidT J.heap H).get? b=some o:=λ e n=>qsr e n;have b3:∀ {b:Addr} {o:Obj} {es:Array DictEntry} {ep:Nat},J.heap.get? b=some o ->o.data= .dict es ep ->H b=none:=λ {b o es ep} e d=>by
   cases q:H b with
   | none=>rfl
   | some u=>
    have e':b=a:=hA b (by rw [q];simp);subst e';rw [ha] at e;cases e;have d':Data.seq vs.toArray _=Data.dict es ep:=d;cases d'
  have Z:∀ {b:Addr} {m:xE},J.heap.Ns b m ->(hidT J.heap H).Ns b m:=λ {b m} ⟨o,es,ep,e,d,r⟩=>⟨o,es,ep,O e (b3 e d),d,r⟩;have a3:K.In (hidT J.heap H):=λ b o e=>O (KX b o e) (by
   cases q:H b with
   | none=>rfl
   | some u=>
    have e':b=a:=hA b (by rw [q];simp);subst e';rw [hK (by rw [q];simp)] at e;cases e)
  have hM:Mod K mg (hidT J.heap H):=⟨a3,Z a5,⟨mb,Z hb,a9⟩,let ⟨mc,h1,h2⟩:=a4;⟨mc,Z h1,h2⟩⟩;have e0:Env0 P w K mg (hidT J.heap H) callerA [] J H:=⟨rfl,hM,λ b o e=>qvy e,Nat.le_of_eq (qq5 _ _),trivial,λ b hb=>absurd (show b∈([]:List Addr) from hb) (by simp),hok,.of_eq hg⟩;refine z42 ((F _ a3 (Z a5)).run callerA [] J H ⟨[.ref a],[]⟩ [.ref a] [.ref a] _ _ hr e0 (a2 J (.ref a)) (.cons rfl .nil) (b2 H hO hS)) λ r s' h=> ?_;cases r with
  | error e=>exact (a8 H e s' h).elim
  | ok fl=>
   cases fl with
   | next=>exact False.elim h
   | brk=>exact False.elim h
   | cont=>exact False.elim h
   | ret u=>
    obtain ⟨v,H',os,bare,un,a6,r',q⟩:=h;have q':v= .bl true:=q;subst q';obtain rfl:u=Value.bool true:=r';refine ⟨zr,OldK.of_keep λ b o e=> ?_,os,bare⟩;cases q:H b with
    | none=>exact un.keep b o e q (by intro z;exact absurd (show b∈([]:List Addr) from z) (by simp)) (by simp)
    | some u=>
     rcases hO b with z | ⟨ob,xs,z⟩
     ·rw [q] at z;cases z
     ·have z2:=un.frzs b ob _ z;obtain ⟨e1,_⟩:=hok b _ z;obtain ⟨e2,_⟩:=a6 b _ z2;rw [e] at e1;cases e1;exact e2
 cases hk:K.lookup a with
 | some o=>
  have e:=KX a o hk;rw [ha] at e;cases e
  refine a1 (λ _=>none) (λ _=> .inl rfl) (.inr ⟨_,vs.toArray,_,hk,rfl,rfl,rfl,by rw [z22,a7];exact hl,by simpa using rv⟩) (λ b u z=>by have z':(none:Option HO)=some u:=z;cases z') (λ b z=>absurd rfl z) λ z=>absurd rfl z
 | none=>
  refine a1 (λ b=>if b=a then some (.frz {cls:= .type "list",data:= .seq vs.toArray} (.lst (ns.map V.int))) else none) (λ b=> ?_) (.inl (.inr ⟨{cls:= .type "list",data:= .seq vs.toArray},if_pos rfl⟩)) (λ b u z=> ?_) (λ b z=> ?_) λ _=>hk
  ·by_cases hb:b=a
   ·exact .inr ⟨_,_,if_pos hb⟩
   ·exact .inl (if_neg hb)
  ·by_cases hb:b=a
   ·have z':=(if_pos hb).symm.trans z;cases z'
    subst hb;exact ⟨ha,by rw [z2z];exact hl,vs,_,rv,ha⟩
   ·have z':=(if_neg hb).symm.trans z;cases z'
  ·by_cases hb:b=a
   ·exact hb
   ·exact absurd (if_neg hb) z
abbrev KOf {K:xA} {h:Heap} (_:K.In h):xA:=K
def qni {l:PySem.W.OpenLaw} {n k:Nat} {q:Program} {Z:xD} {XP:(Str ->Option Value) ->Heap ->Prop} {YP:World ->Heap ->Prop} {d:DefRec} {K:Params ->xA} {CX:World ->CXT} {sp:World ->Sp} {x:Str}
  (hn:l.most=some n) (a5:n<=sizeLine) (a3:d.params.defaults=[]) (hr:Room k callerA)
  (hY:∀ (w:World) (h:Heap),YP w h ->(K w.params).In h)
  (F:∀ (w:World) (mg:xE) (fa:Addr) (h:Heap),(K w.params).In h ->h.Ns mainGlobals mg ->mg d.name=some (.ref fa) ->
   ∃ fd:FuncData,(∀ (s:Shared) (u:Value),BindsTo s fd ⟨[u],[]⟩ [(x,u)])/\
    ∀ base:Heap,(K w.params).In base ->base.Ns mainGlobals mg ->FnOk l.prog w (K w.params) mg base (CX w) k fa fd [x] (sp w))
  (a6:∀ (w:World) (H:Hp) (a:Addr) (ns:List Int),ns.length<=n ->Only H ->SqL (K w.params) H a (ns.map V.int) ->sp w [.ref a] H (λ v _=>v= .bl true) λ _ _ _=>False)
  (a2:∀ (w:World) (H:Hp) (s:Shared) (e:Value) (s':Shared),CX w [] H s (λ _ _ _=>False) e s' ->False):
  PySem.W.WalkO q Z XP YP l.row.toRowW d [] (λ f vs=>PySem.call f vs):=by
 refine Att.qmp hn a3 λ w s₀ s₁ mg mb fa o pm cd doc a vs ns G Y ho hd hcd a4 a1 O J hg=> ?_;have KX:=hY w _ Y;obtain ⟨fd,hb,hF⟩:=F w mg fa _ KX G.T.g a4;exact qt6 KX G.T.g G.T.b G.T.builtins G.T.nolimit hg a1 O (z40 J a5) hr hF hb (λ H hO hS=>a6 w H a ns J hO hS) λ H e s'=>a2 w H s₁ e s'
def qt7 {l:PySem.W.OpenLaw} {n k:Nat} {q:Program} {J:xD} {XP:(Str ->Option Value) ->Heap ->Prop} {YP:World ->Heap ->Prop} {d:DefRec} {K:Params ->xA} {CX:CXT} {sp:xA ->Sp} {x:Str}
  (hn:l.most=some n) (a1:n<=sizeLine) (Z:d.params.defaults=[]) (hr:Room k callerA)
  (hY:∀ (w:World) (h:Heap),YP w h ->(K w.params).In h)
  (F:∀ (w:World) (mg:xE) (fa:Addr) (h:Heap),(K w.params).In h ->h.Ns mainGlobals mg ->mg d.name=some (.ref fa) ->
   ∃ fd:FuncData,(∀ (s:Shared) (u:Value),BindsTo s fd ⟨[u],[]⟩ [(x,u)])/\
    ∀ base:Heap,(K w.params).In base ->base.Ns mainGlobals mg ->FnOk l.prog w (K w.params) mg base CX k fa fd [x] (sp (K w.params)))
  (a2:∀ (K:xA) (H:Hp) (a:Addr) (ns:List Int),ns.length<=n ->Only H ->SqL K H a (ns.map V.int) ->sp K [.ref a] H (λ v _=>v= .bl true) λ _ _ _=>False)
  (O:∀ (H:Hp) (s:Shared) (e:Value) (s':Shared),CX [] H s (λ _ _ _=>False) e s' ->False):
  PySem.W.WalkO q J XP YP l.row.toRowW d [] (λ f vs=>PySem.call f vs):=
 qni (K:=K) (CX:=λ _=>CX) (sp:=λ w=>sp (K w.params)) hn a1 Z hr hY F (λ w H a ns h1 h2 h3=>a2 (K w.params) H a ns h1 h2 h3) λ _ H s e s'=>O H s e s'
end L2
namespace L2
open PySem PySem.Spec PyProof.Rows
def q14 (s:Stmt) (j:Nat):Stmt:=match s with
 | .ClassDef _ _ _ body _ _ _ _ _ _ _=>body.getD j (.Pass ⟨0,0,0,0⟩)
 | _=> .Pass ⟨0,0,0,0⟩
def q1t (s:Stmt):Arguments:=match s with
 | .FunctionDef _ a _ _ _ _ _ _ _ _=>a
 | _=>{posonlyargs:=[],args:=[],vararg:=none,kwonlyargs:=[],kw_defaults:=[],kwarg:=none,defaults:=[]}
def q1d (s:Stmt):List Stmt:=match s with
 | .FunctionDef _ _ b _ _ _ _ _ _ _=>b
 | _=>[]
def qd (s:Stmt):Scope:=match s with
 | .FunctionDef _ _ _ _ _ _ sc _ _ _=>sc
 | _=>{kind:= .function,names:=[],isGenerator:=false,isCoroutine:=false}
abbrev CX0:CXT:=λ _ _ _ _ _ _=>False
abbrev E0:XK:=λ _ _ _=>False
def qbu {X:Cx}:q3l CX0 X E0:=λ _ _ _ _ _ _ _ h=>h.elim
structure Fun (K:xA) (x qual:Str) (st:Stmt) (f:Addr) (fd:FuncData):Prop where
 ex:∃ (oc:Value) (od:Option Addr) (kV doc pm:Value) (an:Option Addr) (cdv ct:Value) (osl:Array (Option Value)),
  fd=PySem.W.fnOf x qual (q1t st) (q1d st) (qd st) .none kV doc pm an cdv ct/\K.lookup f=some ⟨oc,od,.func fd,osl⟩/\PySem.W.codeIn K cdv qual=true
 kp:PySem.W.keepIn K (.ref f)=true
section
variable {P:Program} {w:World} {K:xA} {mg:xE} {base:Heap}
def Fun.ok {x qual:Str} {st:Stmt} {f:Addr} {fd:FuncData} {N ps:xD} {k:Nat} {sp:Sp} (F:Fun K x qual st f fd) (S:FnScope N ps (qd st)) (len:∀ vs H Q E,sp vs H Q E ->vs.length=ps.length)
  (J:∀ (cdv:Value) (A:Around) (outer:List Env) (s:Shared) (H:Hp) (vs:List V) (Q:VK) (E:XK),Room k (A.deeper (envOfC qual (qd st) s.heap.objs.size f cdv)) ->sp vs H Q E ->
   ∃ t,PSs (cxOf CX0 P w K mg base N qual (qd st) f cdv A outer s H E).nox (q1d st) t/\t {nx:=λ _ H'=>Q .non H',rt:=Q} (start N vs) H):FnOk P w K mg base CX0 (k+1) f fd ps sp:=by
 obtain ⟨oc,od,kV,doc,pm,an,cdv,ct,osl,rfl,lk,O⟩:=F.ex;refine qos lk O S len λ A outer s H vs Q E hr Z=> ?_;obtain ⟨t,h,q⟩:=J cdv A outer s H vs Q E hr Z;exact ⟨t,h.nox,q⟩
def qqr {x qual:Str} {st:Stmt} {f:Addr} {oc:Value} {od Z:Option Addr} {O:Array (Option Value)} {kV J pm cdv ct:Value} (l:K.lookup f=some ⟨oc,od,.func (PySem.W.fnOf x qual (q1t st) (q1d st) (qd st) .none kV J pm Z cdv ct),O⟩)
  (c:PySem.W.codeIn K cdv qual=true) (k:PySem.W.keepIn K (.ref f)=true):Fun K x qual st f (PySem.W.fnOf x qual (q1t st) (q1d st) (qd st) .none kV J pm Z cdv ct):=⟨⟨oc,od,kV,J,pm,Z,cdv,ct,O,rfl,l,c⟩,k⟩
end
def q35 {A:Around} {k:Nat} (hr:Room k A):A.units+1 < cLine:=Nat.lt_of_le_of_lt (Nat.add_le_add_left (by decide:1<=64) _) hr.units
def q1i {n:Nat} (h:n<=1000):n < sizeLine:=Nat.lt_of_le_of_lt h (by decide)
section
variable {X:Cx}
def pv (i:Nat) {x:Str} {pos:Pos} (hN:X.N[i]? =some x:=by rfl) (hv:Vis X.env.scope x:=by first | exact Or.inl rfl | exact Or.inr (Or.inl rfl) | exact Or.inr (Or.inr rfl)) (hd:(x==("__debug__":Str))=false:=by decide)
  (J:(x==("__classdict__":Str))=false:=by decide):PE X (.Name x pos) (tVar i):=qy8 hN hv hd J
end
def iteF {A B:Prop} (h:B):if false=true then A else B:=by
 rw [if_neg z1k];exact h
def iteT {A B:Prop} (h:A):if true=true then A else B:=by
 rw [if_pos rfl];exact h
def ite2 {c A B:Prop} [Decidable c] (h1:c ->A) (h2:¬ c ->B):if c then A else B:=by
 by_cases h:c
 ·rw [if_pos h];exact h1 h
 ·rw [if_neg h];exact h2 h
def Same (H H':Hp):Prop:=∀ b o,H b=some o ->H' b=some o
def Same.refl (H:Hp):Same H H:=λ _ _ h=>h
def Same.trans {H H1 H2:Hp} (a:Same H H1) (b:Same H1 H2):Same H H2:=λ c o h=>b c o (a c o h)
def Same.free {H H':Hp} (e:Same H H') {l:Addr} (h:H' l=Option.none):H l=Option.none:=by
 cases q:H l with
 | none=>rfl
 | some o=>
  rw [e l o q] at h;cases h
def Same.seq {K:xA} {H H':Hp} {a:Addr} {xs:List V} (e:Same H H') (h:SqL K H a xs):SqL K H' a xs:=by
 rcases h with (h | ⟨o,h⟩) | h
 ·exact .inl (.inl (e _ _ h))
 ·exact .inl (.inr ⟨o,e _ _ h⟩)
 ·exact .inr h
section
variable {X:Cx}
def qhs:q1v X (.builtin "len") (λ xs H Q=>∃ a kvs,xs=[V.ref a]/\H a=some (.dK kvs)/\Q (.int kvs.length) H):=by
 intro xC s σ H xs us Q I r h;obtain ⟨a,kvs,rfl,ha,q⟩:=h;obtain ⟨u,rfl,ru⟩:=q2x r;cases ru
 exact q10m I (.inl ha) λ t s' I'=>⟨.int kvs.length,H,I',⟨t,zr⟩,q⟩
end
section
variable {κ:Type} [DecidableEq κ]
theorem qfz:∀ {l:List κ} {k:κ},l.Nodup ->¬ k∈l ->(l++ [k]).Nodup
 | [],k,_,_=>by simp
 | a::r,k,h,hk=>by
  obtain ⟨h1,h2⟩:=z31.mp h;show (a::(r++ [k])).Nodup;refine z31.mpr ⟨λ m=> ?_,qfz h2 λ m=>hk (z3m.mpr (Or.inr m))⟩;rcases z2t.mp m with q | q
  ·exact h1 q
  ·exact hk (z3m.mpr (Or.inl (z1l.mp q).symm))
def qqs {p:κ×V} {r:List (κ×V)} {k:κ} (e:p.1=k):q2m (p::r) k=q2m r k:=by
 unfold q2m;rw [z2i,if_neg (by simp [e])]
def qqt {p:κ×V} {r:List (κ×V)} {k:κ} (e:¬ p.1=k):q2m (p::r) k=p::q2m r k:=by
 unfold q2m;rw [z2i,if_pos (by simp [e])]
end
def qg0 {β:Type} {x n:Str} {b c:β} {l:List (Str×β)} (h:((n,b)::l).lookup x=some c):(x=n/\b=c)\/ l.lookup x=some c:=by
 rw [List.lookup_cons] at h;cases e:x==n with
 | true=>
  rw [e] at h;exact .inl ⟨eq_of_beq e,Option.some.inj h⟩
 | false=>
  rw [e] at h;exact .inr h
def qd0 {β:Type} {x n:Str} {b:β} {l:List (Str×β)} (h:x=n\/ ∃ c,l.lookup x=some c):∃ c,((n,b)::l).lookup x=some c:=by
 rw [List.lookup_cons];cases e:x==n with
 | true=>exact ⟨b,rfl⟩
 | false=>
  rcases h with h | h
  ·subst h;simp at e
  ·exact h
theorem q98 {env:Env}:∀ (names:List (Str×NameKind)) (acc:List (Str×Addr)),(∀ y∈names,y.2= .free ->∃ c,env.cells.lookup y.1=some c) ->
    (∀ x c,acc.lookup x=some c ->env.cells.lookup x=some c) ->
    ∃ cl,(forIn names acc (λ x r=>if (x.2==NameKind.free)=true then (cellOf env x.1 >>=λ c=>pure (ForInStep.yield ((x.1,c)::r))) else pure (ForInStep.yield r)):Sem (List (Str×Addr)))=pure cl/\
      (∀ x c,cl.lookup x=some c ->env.cells.lookup x=some c)/\(∀ y∈names,y.2= .free ->∃ c,cl.lookup y.1=some c)/\(∀ x c,acc.lookup x=some c ->∃ J,cl.lookup x=some J)
  | [],acc,_,h=>⟨acc,rfl,h,(λ _ z=>nomatch z),λ x c e=>⟨c,e⟩⟩
  | (n,k)::r,acc,hn,h=>by
    rw [List.forIn_cons];by_cases hk:k= .free
    · subst hk
      obtain ⟨c,hc⟩:=hn (n,.free) z1o rfl;have e1:(cellOf env n:Sem Addr)=pure c:=by
        have Z:env.cells.lookup n=some c:=hc;unfold cellOf;rw [Z]
      obtain ⟨cl,e,h1,h2,O⟩:=q98 r ((n,c)::acc) (λ y hy=>hn y (z15 _ hy)) (λ x J e=>by
        rcases qg0 e with ⟨e1,e2⟩ | e
        · subst e1;subst e2;exact hc
        · exact h x J e)
      refine ⟨cl,?_,h1,?_,λ x J e=> ?_⟩
      · show ((if ((n,NameKind.free).2==NameKind.free)=true then (cellOf env n >>=λ c=>pure (ForInStep.yield ((n,c)::acc))) else pure (ForInStep.yield acc)) >>=_)=_
        rw [if_pos (show ((n,NameKind.free).2==NameKind.free)=true from rfl),e1];exact e
      · intro y hy hf
        rcases z3m.mp hy with rfl | hy
        · exact O n c (by simp)
        · exact h2 y hy hf
      · obtain ⟨c2,e2⟩:=qd0 (n:=n) (b:=c) (.inr ⟨J,e⟩)
        exact O x c2 e2
    · obtain ⟨cl,e,h1,h2,O⟩:=q98 r acc (λ y hy=>hn y (z15 _ hy)) h
      refine ⟨cl,?_,h1,?_,O⟩
      · show ((if ((n,k).2==NameKind.free)=true then (cellOf env n >>=λ c=>pure (ForInStep.yield ((n,c)::acc))) else pure (ForInStep.yield acc)) >>=_)=_
        rw [if_neg (by simpa using hk)];exact e
      · intro y hy hf
        rcases z3m.mp hy with rfl | hy
        · exact absurd hf hk
        · exact h2 y hy hf
def qnj {scope:Scope} {env:Env} (h:∀ y∈scope.names,y.2= .free ->∃ c,env.cells.lookup y.1=some c):
  ∃ cl,closureFor scope env=pure cl/\(∀ x c,cl.lookup x=some c ->env.cells.lookup x=some c)/\(∀ y∈scope.names,y.2= .free ->∃ c,cl.lookup y.1=some c):=by
 obtain ⟨cl,e,h1,h2,_⟩:=q98 scope.names [] h (λ x c e=>by simp at e);refine ⟨cl,?_,h1,h2⟩;unfold closureFor;show ((forIn scope.names [] (λ x r=>if (x.2==NameKind.free)=true then (cellOf env x.1 >>=λ c=>pure (ForInStep.yield ((x.1,c)::r))) else pure (ForInStep.yield r)):Sem (List (Str×Addr))) >>=λ r=>pure r)=_;rw [e];rfl
def relK (env:Env) (x:Str) (k:NameKind):NameKind:=if (k== .free&&env.scope.kind== .function&&env.kindOf x==some .cell)=true then .cell else k
theorem q8r {env:Env} {x:Str}:∀ (names:List (Str×NameKind)),
    (names.map λ (n,k)=>if (k==NameKind.free&&env.scope.kind== .function&&env.kindOf n==some .cell)=true then (n,NameKind.cell) else (n,k)).lookup x=(names.lookup x).map (relK env x)
  | []=>rfl
  | (n,k)::r=>by
    have ih:=q8r (env:=env) (x:=x) r;have e:(if (k==NameKind.free&&env.scope.kind== .function&&env.kindOf n==some .cell)=true then (n,NameKind.cell) else (n,k))=(n,relK env n k):=by
      unfold relK;split <;> rfl
    show List.lookup x ((if (k==NameKind.free&&env.scope.kind== .function&&env.kindOf n==some .cell)=true then (n,NameKind.cell) else (n,k))::_)=_;rw [e,List.lookup_cons,List.lookup_cons];cases hx:x==n with
    | true=>
      have:=eq_of_beq hx;subst this;rfl
    | false=>exact ih
def qcj {scope:Scope} {cl:List (Str×Addr)} {C:Addr} {env:Env} {x:Str}:(compEnvC scope cl C env).kindOf x=(scope.names.lookup x).map (relK env x):=q8r (env:=env) (x:=x) scope.names
def qqu {env:Env} {x:Str}:relK env x .free= .cell\/ relK env x .free= .free:=by
 unfold relK;split
 ·exact .inl rfl
 ·exact .inr rfl
def qwm {env:Env} {x:Str} {k:NameKind} (h:relK env x k= .cell\/ relK env x k= .free):k= .cell\/ k= .free:=by
 unfold relK at h;split at h
 ·rename_i z;simp only [z2l,beq_iff_eq] at z;exact .inr z.1.1
 ·exact h
def capt (caps:List (Option Nat)) (σ:St):St:=caps.map λ o=>match o with
 | none=>none
 | some j=>(σ[j]?).join
def qej (oN:xD) (osc:Scope) (N:xD) (caps:List (Option Nat)) (sc:Scope):Bool:=
 (sc.kind== .function)&&decide N.Nodup&&(N.length==caps.length)&&sc.names.all (λ y=> !(y.2== .cell))&&
 sc.names.all (λ y=> !(y.2== .local) || sc.names.lookup y.1==some .local)&&
 sc.names.all (λ y=> !(y.2== .free) || (osc.names.lookup y.1==some .cell || osc.names.lookup y.1==some .free))&&
 (N.zip caps).all (λ p=>match p.2 with
  | none=>true
  | some j=>oN[j]? ==some p.1&&sc.names.lookup p.1==some .free)
structure CompOk (oN:xD) (osc:Scope) (N:xD) (caps:List (Option Nat)) (sc:Scope):Prop where
 kind:sc.kind= .function
 nd:N.Nodup
 len:N.length=caps.length
 nocell:∀ y∈sc.names,y.2≠ .cell
 loc:∀ y∈sc.names,y.2= .local ->sc.names.lookup y.1=some .local
 fr:∀ y∈sc.names,y.2= .free ->osc.names.lookup y.1=some .cell\/ osc.names.lookup y.1=some .free
 cap:∀ (i j:Nat) (x:Str),N[i]? =some x ->caps[i]? =some (some j) ->oN[j]? =some x/\sc.names.lookup x=some .free
def qht {O:xD} {J:Scope} {N:xD} {caps:List (Option Nat)} {Z:Scope} (h:qej O J N caps Z=true):CompOk O J N caps Z:=by
  unfold qej at h;simp only [z2l,z2m,decide_eq_true_eq,beq_iff_eq,Bool.or_eq_true,Bool.not_eq_true',beq_eq_false_iff_ne,ne_eq] at h;obtain ⟨⟨⟨⟨⟨⟨h1,h2⟩,h3⟩,h4⟩,h5⟩,h6⟩,h7⟩:=h;refine ⟨h1,h2,h3,h4,λ y hy e=> ?_,λ y hy e=> ?_,λ i j x hi hj=> ?_⟩
  · rcases h5 y hy with z | z
    · exact absurd e z
    · exact z
  · rcases h6 y hy with z | z
    · exact absurd e z
    · exact z
  · have hm:(x,some j)∈N.zip caps:=by
      refine z17 (i:=i) ?_;rw [List.getElem?_zip_eq_some];exact ⟨hi,hj⟩
    have:=h7 _ hm
    simpa using this
def q3m (X:Cx) (N:xD) (scope:Scope) (cl:List (Str×Addr)) (C:Addr) (fp:List Addr) (s:Shared) (H:Hp):Cx:=
 {X with N:=N,s₀:=s,H₀:=H,env:=compEnvC scope cl C X.env,outer:=X.stack,ex:=fp,fn:=λ _=>false,pn:=[],xe:=λ _ _=>False}
section
variable {X:Cx} {xC:xG} {σ:St} {H:Hp} {s:Shared} {N:xD} {caps:List (Option Nat)} {scope:Scope} {cl:List (Str×Addr)} {fp:List Addr}
def qt8 (I:Inv X xC σ H s) (hf:∀ b∈fp,FpOk X xC H b) (ho:∀ b∈fp,∃ o,s.heap.get? b=some o) (S:CompOk X.N X.env.scope N caps scope)
    (c1:∀ x c,cl.lookup x=some c ->X.env.cells.lookup x=some c) (c2:∀ y∈scope.names,y.2= .free ->∃ c,cl.lookup y.1=some c)
    {h':Heap} {m:xE} {tk:Nat} (hn:h'.Ns s.heap.objs.size m) (hk:∀ b u,s.heap.get? b=some u ->h'.get? b=some u):
    Inv (q3m X N scope cl s.heap.objs.size fp s H) [] (capt caps σ) H {s with heap:=h',toks:=tk}:=by
  have a4:∀ b∈fp,b∉frs X.stack:=λ b hb z=>by
    obtain ⟨_,f1,f2,_⟩:=hf b hb;rcases z3m.mp (I.stkSub b z) with e | e
    · exact f1 e
    · exact f2 e
  have Z:∀ x,scope.names.lookup x=some .free ->∃ c,cl.lookup x=some c:=λ x e=>c2 (x,.free) (z1c e) rfl;refine ⟨⟨I.ok.mod,S.kind,I.ok.glob,I.ok.blt,z47 _,λ x y c e1 e2=>I.ok.inj x y c (c1 x c e1) (c1 y c e2),λ x hx=> ?_,λ x c z _=>absurd (show false=true from z) (by decide),I.ok.hd,I.ok.frames,.inl rfl,
    λ b hb=>⟨?_,λ x c e=>(hf b hb).2.2.2.2.1 x c (c1 x c e)⟩,I.bs,z40 I.ok.bsz I.sz,λ b o e hb=> ?_,a4,I.stack,I.stkFree⟩,
    rfl,I.bare,Un.kept hk,⟨m,hn,λ i x v e1 e2 e3=> ?_⟩,λ x c e=> ?_,I.hok.fresh (z47 _),λ x c e=>I.freeC x c (c1 x c e),λ p hp=>absurd (show p∈([]:xG) from hp) (by simp),I.hok.kept hk,?_⟩
  · have J:(scope.names.lookup x).map (relK X.env x)=some .cell\/ (scope.names.lookup x).map (relK X.env x)=some .free:=by
      rw [<- qcj (cl:=cl) (C:=s.heap.objs.size)];exact hx
    cases e:scope.names.lookup x with
    | none=>
      rw [e] at J;rcases J with z | z <;> cases z
    | some k=>
      rw [e] at J;have z:relK X.env x k= .cell\/ relK X.env x k= .free:=by
        rcases J with z | z
        · exact .inl (Option.some.inj z)
        · exact .inr (Option.some.inj z)
      rcases qwm z with z | z
      · subst z
        exact absurd rfl (S.nocell _ (z1c e))
      · subst z
        exact Z x e
  · obtain ⟨o,e⟩:=ho b hb
    exact z3z (z3y e)
  · obtain ⟨_,_,_,f3,_⟩:=hf b hb
    rcases f3 with z | z
    · exact I.ok.noex b o e z
    · exact absurd (z1q (z3y e) (z40 I.ok.bsz z)) (z3o _)
  · have hi:i < caps.length:=by
      unfold capt at e2;obtain ⟨h1,_⟩:=z07.mp e2
      simpa using h1
    have O:(capt caps σ)[i]? =(caps[i]?).map λ o=>match o with
        | none=>none
        | some j=>(σ[j]?).join:=by
      unfold capt;rw [z21]
    rw [e2] at O;cases q:caps[i]? with
    | none=>
      rw [q] at O;cases O
    | some o=>
      rw [q] at O;cases o with
      | none=>
        cases (Option.some.inj O)
      | some j=>
        have ej:σ[j]? =some (some v):=by
          have z:some v=(σ[j]?).join:=Option.some.inj O;cases q2:σ[j]? with
          | none=>rw [q2] at z;cases z
          | some w=>rw [q2] at z;exact congrArg some z.symm
        obtain ⟨n1,n2⟩:=S.cap i j x e1 q;have a3:X.env.kindOf x=some .cell\/ X.env.kindOf x=some .free:=S.fr (x,.free) (z1c n2) rfl;obtain ⟨m0,_,hl⟩:=I.loc;obtain ⟨u,r,l⟩:=hl j x v n1 ej (.inr a3);refine ⟨u,r,?_⟩;rcases l with ⟨k,_⟩ | ⟨_,c,O,z⟩
        · rw [k] at a3
          rcases a3 with z | z <;> cases z
        · obtain ⟨c',e'⟩:=Z x n2
          have:c'=c:=Option.some.inj ((c1 x c' e').symm.trans O);subst this;refine .inr ⟨?_,c',e',?_⟩
          · have kk:(compEnvC scope cl s.heap.objs.size X.env).kindOf x=some (relK X.env x .free):=by rw [qcj,n2];rfl
            rcases qqu (env:=X.env) (x:=x) with z | z
            · rw [z] at kk;exact .inl kk
            · rw [z] at kk;exact .inr kk
          · obtain ⟨o,a1,a2⟩:=z
            exact ⟨o,hk _ _ a1,a2⟩
  · obtain ⟨v,o,a1,a2⟩:=I.cell x c (c1 x c e)
    exact ⟨v,o,hk _ _ a1,a2⟩
  · show (capt caps σ).length=N.length
    unfold capt;rw [z2z];exact S.len.symm
end
def PF (X:Cx) (ifs:List Expr) (t:TT):Prop:=
 ∀ (xC:xG) (s:Shared) (σ:St) (H:Hp) (Q:Bool ->Hp ->Prop),Inv X xC σ H s ->t σ H Q ->
  wpAny (model X.prog X.w) X.A (forIn ifs true λ c r=>if r=true then do let ok <- isTrue c X.env (eval c X.env);pure (ForInStep.yield ok) else pure (ForInStep.yield r)) (TP X xC σ Q) X.xe s
def tYes:TT:=λ _ H Q=>Q true H
section
variable {X:Cx}
def q2o:PF X [] tYes:=λ _ _ _ H _ I h=>z4d ⟨H,I,h⟩
def qek {c:Expr} {t:TT} (hc:PT X c t):PF X [c] t:=by
 intro xC s σ H Q I h;rw [List.forIn_cons];refine z4e ?_;rw [if_pos rfl];refine z4e (thn (hc xC s σ H Q I h) λ ok s1 q=>z4d ?_);exact z4d q
end
def qku {prog:Program} {w:World} {A:Around} {R:Result ->Shared ->Prop} {s:Shared} {elt J iter:Expr} {ifs:List Expr} {scope:Scope} {pos:Pos} {it acc:Value} {env:Env} (I:Nat ->Shared ->Prop)
  (turn:∀ n s,I n s ->wpAny (model prog w) A (pyNext it) (λ r s₁=>match r with
   | none=>R (.ok .next) s₁
   | some v=>wpAny (model prog w) A (letOwnedTupleGo J it v) (λ _ O=>wpAny (model prog w) A (assign J env v) (λ _ s₂=>
     wpAny (model prog w) A (forIn ifs true λ c r=>if r=true then do let ok <- isTrue c env (eval c env);pure (ForInStep.yield ok) else pure (ForInStep.yield r)) (λ ok s₃=>
      if ok=true then wpAny (model prog w) A (eval elt env) (λ x s₄=>
       wpAny (model prog w) A (call (.builtin "list.append") [acc,x]) (λ _ s₅=>∃ m,m < n/\I m s₅) (λ _ _=>False) s₄) (λ _ _=>False) s₃
      else ∃ m,m < n/\I m s₃) (λ _ _=>False) s₂) (λ _ _=>False) O) (λ _ _=>False) s₁) (λ _ _=>False) s)
  (n:Nat) (h:I n s):
  codeAny (model prog w) A (.compLoop (.ListComp elt [⟨J,iter,ifs,0⟩] scope pos) 0 it acc env) R s:=by
 refine codeAny_loop rfl I (λ n s hI=> ?_) n h;show wpAny _ A ((compTurn (.ListComp elt [⟨J,iter,ifs,0⟩] scope pos) 0 it acc env).onRaise (λ x=>do noteFrame x env;theTreesLotGoes x)) _ _ s;refine wpAny_noted ?_;rw [compTurn_list];refine z4e (wpAny_standAt (z4e (z4f (turn n s hI) (λ r s₁ h₁=> ?_) λ _ _ z=>False.elim z)));cases r with
 | none=>exact z4d h₁
 | some v=>
  refine z4e (z4f h₁ (λ _ O Z=> ?_) λ _ _ z=>False.elim z);refine z4e (z4f Z (λ _ s₂ h₂=>z4e (z4f h₂ (λ ok s₃ h₃=> ?_) λ _ _ z=>False.elim z)) λ _ _ z=>False.elim z);cases ok with
  | false=>exact z4d ⟨rfl,h₃⟩
  | true=>
   exact z4e (z4e (z4f h₃ (λ x s₄ h₄=>z4e (z4f h₄ (λ _ s₅ h₅=>z4d (z4d ⟨zr,h₅⟩)) λ _ _ z=>False.elim z)) λ _ _ z=>False.elim z))
def qvd (J:It) (g:TG) (tf:TT) (te:TE) (D:Addr) (QE:Hp ->Prop) (W:Nat ->Nat ->St ->Hp ->Prop):Prop:=∀ i m σ H,W i m σ H ->
 (J.stop i H/\QE H)\/ (J.go i H/\∃ N:St ->Hp ->Prop,(∀ σ' H',N σ' H' ->∃ m',m' < m/\W (i+1) m' σ' H')/\∀ x H',J.yld i H x H' ->g x σ H' λ σ2 H2=>tf σ2 H2 λ b H3=>
  if b=true then te σ2 H3 λ v H4=>∃ xs,H4 D=some (.lst xs)/\xs.length < sizeLine/\N σ2 (upd H4 D (.lst (xs++ [v]))) else N σ2 H3)
def qov (caps:List (Option Nat)) (wi:TI) (g:TG) (tf:TT) (te:TE):TE:=λ σ H Q=>wi σ H λ J H1=>∀ D,H1 D=none ->
 ∃ W:Nat ->Nat ->St ->Hp ->Prop,(∃ m,W 0 m (capt caps σ) (upd H1 D (.lst [])))/\qvd J g tf te D (λ H'=>Q (.ref D) H') W
section
variable {X:Cx} {xC:xG} {σ:St} {H:Hp} {s:Shared} {N:xD} {caps:List (Option Nat)} {scope:Scope} {elt tg iter:Expr} {ifs:List Expr} {wi:TI} {g:TG} {tf:TT} {te:TE} {pos:Pos}
def qhu {RR:Value ->Addr ->Result ->Shared ->Prop} {cl:List (Str×Addr)} {Q:VK} (hc:X.calm=true) (S:CompOk X.N X.env.scope N caps scope) (hi:PI X tg iter wi)
  (hg:∀ cl C fp s H,PG (q3m X N scope cl C fp s H) tg g) (hf:∀ cl C fp s H,PF (q3m X N scope cl C fp s H) ifs tf) (he:∀ cl C fp s H,PE (q3m X N scope cl C fp s H) elt te)
  (c1:∀ x c,cl.lookup x=some c ->X.env.cells.lookup x=some c) (c2:∀ y∈scope.names,y.2= .free ->∃ c,cl.lookup y.1=some c)
  (I:Inv X xC σ H s) (h:qov caps wi g tf te σ H Q)
  (fin:∀ (D C:Addr) (m:xE) (H5:Hp) (s5:Shared),Inv X xC σ H5 s5 ->s5.heap.Ns C m ->FpOk X xC H5 C ->Q (.ref D) H5 ->RR (.ref D) C (.ok .next) s5):
  wpAny (model X.prog X.w) X.A (eval iter X.env) (λ x s₁=>wpAny (model X.prog X.w) X.A (pyIter x) (λ it s₂=>wpAny (model X.prog X.w) X.A (newList []) (λ acc s₃=>
   wpAny (model X.prog X.w) X.A (newFunctionEnv scope X.env.globals cl [] X.env.qual none .none (some X.env)) (λ a3 s₄=>
    codeAny (model X.prog X.w) X.A (.compStart (.ListComp elt [⟨tg,iter,ifs,0⟩] scope pos) 0 it acc {a3 with scope:=relabel scope X.env}) (RR acc a3.locals) s₄) X.xe s₃) X.xe s₂) X.xe s₁) X.xe s:=by
 refine thn (hi xC s σ H _ I h) λ v s1 h1=>thn h1 λ itv Z h2=> ?_;obtain ⟨it,fp,tn,J,H2,e,I2,T,b2,f2,q⟩:=h2;subst e;have nD:H2 Z.heap.objs.size=none:=I2.hok.fresh (z47 _);obtain ⟨W,⟨m0,w0⟩,turn⟩:=q Z.heap.objs.size nD;refine z27 ?_;have I3:Inv X xC σ (upd H2 Z.heap.objs.size (.lst [])) {Z with heap:=Z.heap.push {cls:= .type "list",data:= .seq ([]:xH).toArray}}:=
  I2.laid (t':=Z.toks) (o:= .lst []) (λ b ob e=>z0n _ e) (z47 _) ⟨z4a _,[],0,.nil,z1b _ rfl⟩
 have a9:∀ b∈fp,∃ o,Z.heap.get? b=some o:=λ b hb=>let ⟨o,e,_⟩:=T.obj 0 Z.heap b2 b hb;⟨o,e⟩
 have c0:∀ b∈fp,b≠Z.heap.objs.size:=λ b hb=>let ⟨o,e⟩:=a9 b hb;z3z (z3y e)
 generalize b9:({Z with heap:=Z.heap.push {cls:= .type "list",data:= .seq ([]:xH).toArray}}:Shared)=s3 at I3;have eh:s3.heap=Z.heap.push {cls:= .type "list",data:= .seq ([]:xH).toArray}:=by rw [<- b9]
 generalize hD:Z.heap.objs.size=D at*;generalize b7:upd H2 D (.lst [])=H3 at I3 w0;have f3:∀ b∈fp,FpOk X xC H3 b:=λ b hb=>⟨by rw [<- b7,qi (c0 b hb)];exact (f2 b hb).1,(f2 b hb).2⟩;have c4:∀ b∈fp,∃ o,s3.heap.get? b=some o:=λ b hb=>let ⟨o,e⟩:=a9 b hb;⟨o,by rw [eh];exact z0n _ e⟩
 have c5:tn 0 s3.heap:=T.keep 0 _ _ b2 λ b hb o e=>by rw [eh];exact z0n _ e
 show wpAny (model X.prog X.w) X.A (newFunctionEnv scope X.env.globals cl [] X.env.qual none .none (some X.env)) _ X.xe s3;refine wpAny_newFunctionEnv S.nocell (by intro y hy;simp at hy) (λ h₁ a7 a8=> ?_) S.kind;have k1:∀ b u,s3.heap.get? b=some u ->h₁.get? b=some u:=λ b u e=>a8.extBut b u (z3z (z3y e)) (z0n _ e);have J0:=qt8 (tk:=s3.toks+([]:List (Str×Value)).length) I3 f3 c4 S c1 c2 a7 k1;generalize hC:s3.heap.objs.size=C at*;generalize O:q3m X N scope cl C fp s3 H3=X' at J0;have a1:tn 0 h₁:=T.keep 0 _ _ c5 λ b hb o e=>k1 b o e;have a2:∀ {H':Hp},(∀ b∈fp,H' b=none) ->∀ b∈fp,FpOk X' [] H' b:=λ {H'} hn b hb=>by
  subst O;exact ⟨hn b hb,(J0.ok.exf b hb).1,J0.ok.exfs b hb,.inl hb,(J0.ok.exf b hb).2,λ p hp=>absurd (show p∈([]:xG) from hp) (by simp)⟩
 have loop:∀ s4:Shared,s4={s3 with heap:=h₁,toks:=s3.toks+([]:List (Str×Value)).length} ->
   codeAny (model X.prog X.w) X.A (.compLoop (.ListComp elt [⟨tg,iter,ifs,0⟩] scope pos) 0 (.ref it) (.ref D) (compEnvC scope cl C X.env)) (RR (.ref D) C) s4:=by
  rintro s4 rfl;refine qku (λ n s'=>∃ i σ' H',Inv X' [] σ' H' s'/\tn i s'.heap/\(∀ b∈fp,H' b=none)/\W i n σ' H') ?_ m0 ⟨0,_,H3,J0,a1,λ b hb=>(f3 b hb).1,w0⟩;rintro n s4 ⟨i,σ4,H4,J4,a1,a6,w4⟩;rcases turn i n σ4 H4 w4 with ⟨stop,qn⟩ | ⟨go,Nn,b8,step⟩
  ·have d:=T.done X' (by subst O;rfl) (by subst O;rfl) (by subst O;rfl) (by subst O;exact hc) i [] s4 σ4 H4 (λ _ _=>False) J4 (a2 a6) a1 stop;have eA:X'.A=X.A:=by subst O;rfl
   rw [eA] at d;refine z4f d (λ r s5 hr=> ?_) λ _ _ z=>z;obtain ⟨hr,J5⟩:=hr;subst hr;have I5:Inv X xC σ H4 s5:=by
    subst O;exact I3.call' J5.os J5.base J5.hok J5.bare λ b hb=>⟨(f3 b hb).2.2.2.1,(f3 b hb).2.1,(f3 b hb).2.2.2.2.1,(f3 b hb).2.2.2.2.2⟩
   obtain ⟨m,hn,_⟩:=J5.loc;have fr:=J5.free;subst O;exact fin D C m H4 s5 I5 hn (I3.fpOk (b:=C) (Nat.le_of_eq hC) fr) qn
  ·have d:=T.item X' (by subst O;rfl) (by subst O;rfl) (by subst O;rfl) (by subst O;exact hc) i [] s4 σ4 H4 (λ _ _=>False) J4 (a2 a6) a1 go;have eA:X'.A=X.A:=by subst O;rfl
   rw [eA] at d;refine z4f d (λ r s5 hr=> ?_) λ _ _ z=>z;obtain ⟨u,hr,h5⟩:=hr;subst hr;refine z4f h5 (λ _ s6 q6=> ?_) λ _ _ z=>z;obtain ⟨x,H6,J6,r6,y6,a5,b5⟩:=q6;have b4:=J6.pinned (a2 b5) (T.obj _ _ a5);have again:∀ {H9:Hp} {s9:Shared} {σ9:St},Inv X' ([]++qaj fp s6.heap) σ9 H9 s9 ->Nn σ9 H9 ->∃ m,m < n/\∃ i σ' H',Inv X' [] σ' H' s9/\tn i s9.heap/\(∀ b∈fp,H' b=none)/\W i m σ' H':=λ {H9 s9 σ9} J9 q9=>by
    obtain ⟨m',hm,w9⟩:=b8 σ9 H9 q9;refine ⟨m',hm,i+1,σ9,H9,J9.unpinned,T.keep _ _ _ a5 λ b hb o e=>(J9.pin (b,o) (z0v _ (z0v _ (q52 hb e)))).1,λ b hb=> ?_,w9⟩;obtain ⟨o,e,d⟩:=T.obj _ _ a5 b hb;exact (J9.pin (b,o) (z0v _ (z0v _ (q52 hb e)))).2.1
   subst O;refine z4f (hg cl C fp s3 H3 _ s6 σ4 H6 x u _ b4 r6 (step x H6 y6)) (λ _ s7 q7=> ?_) λ _ _ z=>z;obtain ⟨σ7,H7,J7,q7⟩:=q7;refine z4f (hf cl C fp s3 H3 _ s7 σ7 H7 _ J7 q7) (λ ok s8 q8=> ?_) λ _ _ z=>z;obtain ⟨H8,J8,q8⟩:=q8;cases ok with
   | false=>
    rw [if_neg (by decide)] at q8;rw [if_neg (by decide)];exact again J8 q8
   | true=>
    rw [if_pos rfl] at q8;rw [if_pos rfl];refine z4f (he cl C fp s3 H3 _ s8 σ7 H8 _ J8 q8) (λ v9 s9 q9=> ?_) λ _ _ z=>z;obtain ⟨y,H9,J9,r9,xs,b6,hz,q9⟩:=q9;refine z4f (q3y (X:=q3m X N scope cl C fp s3 H3) _ s9 σ7 H9 (.ref D) [y] (.ref D) [v9] (λ _ H'=>Nn σ7 H') J9 rfl (.cons r9 .nil) ⟨D,xs,y,zr,zr,b6,hz,q9⟩) (λ _ s10 a4=> ?_) λ _ _ z=>z;obtain ⟨_,H10,b3,_,a4⟩:=a4;exact again b3 a4
 exact codeAny_compStart_list (loop _ rfl) (T.self _ 0 _ _ _ a1 (loop _ rfl))
def q29 (hc:X.calm=true) (ho:qej X.N X.env.scope N caps scope=true) (hi:PI X tg iter wi)
  (hg:∀ cl C fp s H,PG (q3m X N scope cl C fp s H) tg g) (hf:∀ cl C fp s H,PF (q3m X N scope cl C fp s H) ifs tf) (he:∀ cl C fp s H,PE (q3m X N scope cl C fp s H) elt te)
  (hs:∀ x,foldedSetIterable iter X.env x=pure x:=by intro _;rfl):PE X (.ListComp elt [⟨tg,iter,ifs,0⟩] scope pos) (qov caps wi g tf te):=by
 intro xC s σ H Q I h;have S:=qht ho;obtain ⟨cl,O,c1,c2⟩:=qnj (scope:=scope) (env:=X.env) (λ y hy e=>I.ok.has y.1 (S.fr y hy e));rw [eval_ListComp];refine wpAny_comprehension_free (use:=none) rfl hs O S.kind S.loc (qhu (RR:=λ acc C=>compPost (model X.prog X.w) X.A X.xe none (EP X xC σ Q) acc C) hc S hi hg hf he c1 c2 I h ?_);intro D C m H5 s5 I5 hn J q;exact ⟨m,hn,λ h' sb=>⟨.ref D,H5,I5.turned (t':=s5.toks) (λ b o hb e=>(sb.2 b hb).trans e) J.1 J.2.1 J.2.2.2.1 J.2.2.2.2.1 J.2.2.2.2.2,zr,q⟩⟩
def q99 {i:Nat} {x:Str} {px J:Pos} (hN:X.N.Nodup) (a4:X.N[i]? =some x) (hx:X.env.scope.names.lookup x=some .local) (hc:X.calm=true) (ho:qej X.N X.env.scope N caps scope=true) (hi:PI X tg iter wi)
  (hg:∀ cl C fp s H,PG (q3m X N scope cl C fp s H) tg g) (hf:∀ cl C fp s H,PF (q3m X N scope cl C fp s H) ifs tf) (he:∀ cl C fp s H,PE (q3m X N scope cl C fp s H) elt te)
  (a5:swapsWith (.ListComp elt [⟨tg,iter,ifs,0⟩] scope pos) (some (.Name x px)) J.line X.env=pure true:=by rfl)
  (hs:∀ x,foldedSetIterable iter X.env x=pure x:=by intro _;rfl):PS X (.Assign [.Name x px] (.ListComp elt [⟨tg,iter,ifs,0⟩] scope pos) J) (tAsg (qov caps wi g tf te) (qoh i)):=by
 intro xC s σ H D I h;have S:=qht ho;obtain ⟨cl,a3,c1,c2⟩:=qnj (scope:=scope) (env:=X.env) (λ y hy e=>I.ok.has y.1 (S.fr y hy e));rw [exec_Assign_Name_used _ _ _ _ a5];refine z4e (wpAny_standAt (z4e ?_));show wpAny _ X.A (do let _ <- comprehension (.ListComp elt [⟨tg,iter,ifs,0⟩] scope pos) scope X.env _ (newList []) false (eval iter X.env) (some (assign (.Name x px) X.env))) _ _ s;refine z4e (z4f (wpAny_comprehension_free (use:=some (assign (.Name x px) X.env)) (Q:=λ _ s'=>SP X xC D .next s') rfl hs a3 S.kind S.loc
  (qhu (RR:=λ acc C=>compPost (model X.prog X.w) X.A X.xe (some (assign (.Name x px) X.env)) (λ _ s'=>SP X xC D .next s') acc C) hc S hi hg hf he c1 c2 I h ?_)) (λ _ s' hq=>z4d (z4d hq)) λ _ _ e=>e)
 intro Da C m H5 s5 I5 hn Z q;obtain ⟨oC,es,ep,a1,hd,O⟩:=id hn;have a2:=I5.pinned (fp:=[C]) (λ b hb=>by
  have e:b=C:=by simpa using hb
  subst e;exact Z) (λ b hb=>by
  have e:b=C:=by simpa using hb
  subst e;exact ⟨oC,a1,λ v z=>by rw [hd] at z;cases z⟩)
 show wpAny _ X.A (assign (.Name x px) X.env (.ref Da)) _ _ _;refine wpAny_assign_Name (q94 a2 hN a4 (.inl hx) (v:= .ref Da) rfl (λ s6 I6=> ?_) (.inr hx));have pC:=I6.pin (C,oC) (z0v _ (z0v _ (q52 (by simp) a1)));refine ⟨m,⟨oC,es,ep,pC.1,hd,O⟩,λ h' sb=> ?_⟩;exact ⟨_,H5,I6.unpinned.turned (t':=s6.toks) (λ b o hb e=>(sb.2 b hb).trans e) Z.1 Z.2.1 Z.2.2.2.1 Z.2.2.2.2.1 Z.2.2.2.2.2,q⟩
end
def q1w {J:It} {g:TG} {tf:TT} {te:TE} {D:Addr} {QE:Hp ->Prop} {σ:St} {H:Hp} (n:Nat) (Pv:Nat ->St ->Hp ->Prop) (h0:Pv 0 σ H) (Z:∀ i σ H,i < n ->Pv i σ H ->J.go i H) (a1:∀ σ H,Pv n σ H ->J.stop n H/\QE H)
  (hs:∀ i σ H,i < n ->Pv i σ H ->∀ x H',J.yld i H x H' ->g x σ H' λ σ2 H2=>tf σ2 H2 λ b H3=>if b=true then te σ2 H3 λ v H4=>∃ xs,H4 D=some (.lst xs)/\xs.length < sizeLine/\Pv (i+1) σ2 (upd H4 D (.lst (xs++ [v]))) else Pv (i+1) σ2 H3):
  ∃ W:Nat ->Nat ->St ->Hp ->Prop,(∃ m,W 0 m σ H)/\qvd J g tf te D QE W:=by
 refine ⟨λ i m σ H=>m=n - i/\i<=n/\Pv i σ H,⟨n,by simp,z4a _,h0⟩,?_⟩;rintro i m σ H ⟨rfl,hi,p⟩;by_cases O:i < n
 ·exact .inr ⟨Z i σ H O p,Pv (i+1),λ σ' H' p'=>⟨n - (i+1),by lia,zr,O,p'⟩,hs i σ H O p⟩
 ·have e:i=n:=by lia
  subst e;exact .inl (a1 σ H p)
def qyk {J:It} {g:TG} {tb:TS} {D:Ends} {σ:St} {H:Hp} (n:Nat) (Pv:Nat ->St ->Hp ->Prop) (h0:Pv 0 σ H) (Z:∀ i σ H,i < n ->Pv i σ H ->J.go i H) (a1:∀ σ H,Pv n σ H ->J.stop n H/\D.nx σ H)
  (hs:∀ i σ H,i < n ->Pv i σ H ->∀ x H',J.yld i H x H' ->g x σ H' λ σ2 H2=>tb {D with nx:=Pv (i+1),ct:=Pv (i+1),bk:=D.nx} σ2 H2):
  ∃ W:Nat ->Nat ->St ->Hp ->Prop,(∃ m,W 0 m σ H)/\∀ i m σ H,W i m σ H ->
   (J.stop i H/\D.nx σ H)\/ (J.go i H/\∃ N:St ->Hp ->Prop,(∀ σ' H',N σ' H' ->∃ m',m' < m/\W (i+1) m' σ' H')/\∀ x H',J.yld i H x H' ->g x σ H' λ σ2 H2=>tb {D with nx:=N,ct:=N,bk:=D.nx} σ2 H2):=by
 refine ⟨λ i m σ H=>m=n - i/\i<=n/\Pv i σ H,⟨n,by simp,z4a _,h0⟩,?_⟩;rintro i m σ H ⟨rfl,hi,p⟩;by_cases O:i < n
 ·exact .inr ⟨Z i σ H O p,Pv (i+1),λ σ' H' p'=>⟨n - (i+1),by lia,zr,O,p'⟩,hs i σ H O p⟩
 ·have e:i=n:=by lia
  subst e;exact .inl (a1 σ H p)
def Its (z:Str):It:=⟨λ i _=>i < z.cps.size,λ i H x H'=>H'=H/\∃ c,z.cps[i]? =some c/\x= .str ⟨#[c]⟩,λ i _=>i=z.cps.size⟩
def qyl {M:Model} {A:Around} {E:xB} {s:Shared} {tg:Expr} {it:Addr} {x:Str} {t:Tok} {Q:Unit ->Shared ->Prop} (hQ:Q () s):wpAny M A (letOwnedTupleGo tg (.ref it) (.str x t)) Q E s:=by
 unfold letOwnedTupleGo;cases tg <;> exact z4d hQ
def qt9 {P:Program} {w:World} {K:xA} {tg:Expr} (it:Addr) (z:Str) (t:Tok) (ty:String) (J:ty="str_ascii_iterator"\/ ty="str_iterator"):
  Turn P w K tg (Its z) [it] it (λ i h=>h.IsStrIter it ty z t i) where
 mem:=by simp
 obj:=λ i h st b hb=>by
  have e:b=it:=by simpa using hb
  subst e;obtain ⟨o,e,c,d⟩:=st;exact ⟨o,e,λ v z=>by rw [d] at z;cases z⟩
 keep:=λ i h h' st k=>let ⟨o,ho,r⟩:=st;⟨o,k it (by simp) o ho,r⟩
 item:=by
  intro X hP hw hK O i xC s σ H E I hf st hg;subst hP hw hK;obtain ⟨Z,f1,f2,f3,f4,f5⟩:=hf it (by simp);have W:Walks X.prog X.w X.A it [it] [it] z.cps.size (SignAt z) (λ i h=>h.IsStrIter it ty z t i):=by
   rcases J with rfl | rfl
   ·exact Walks.strAscii (I.ok.hd O) it z t
   ·exact Walks.strWide (I.ok.hd O) it z t
  refine W.item i s _ _ hg st λ v h' tk hv a1 kk=> ?_;obtain ⟨c,u,hx,rfl⟩:=hv;have I1:Inv X xC σ H {s with heap:=h',toks:=tk}:=I.turned (λ b o hb e=>kk b o (by simpa using hb) e) Z f1 f3 f4 f5;exact ⟨_,zr,qyl ⟨.str ⟨#[c]⟩,H,I1,⟨u,zr⟩,⟨zr,c,hx,zr⟩,a1,λ b hb=>(hf b hb).1⟩⟩
 done:=by
  intro X hP hw hK O i xC s σ H E I hf st hg;subst hP hw hK;obtain ⟨Z,f1,f2,f3,f4,f5⟩:=hf it (by simp);have W:Walks X.prog X.w X.A it [it] [it] z.cps.size (SignAt z) (λ i h=>h.IsStrIter it ty z t i):=by
   rcases J with rfl | rfl
   ·exact Walks.strAscii (I.ok.hd O) it z t
   ·exact Walks.strWide (I.ok.hd O) it z t
  have e:i=z.cps.size:=hg;subst e;exact W.done s _ _ st λ h' tk kk=>⟨zr,I.turned (λ b o hb e=>kk b o (by simpa using hb) e) Z f1 f3 f4 f5⟩
 self:=λ _ _ _ _ _ st h=>by
  rcases J with rfl | rfl
  ·exact wpAny_pyIter_striter_ascii st h
  ·exact wpAny_pyIter_striter_wide st h
section
variable {X:Cx} {tg:Expr}
def iStr (tl:TE):TI:=λ σ H R=>tl σ H λ x H1=>∃ z,x= .str z/\R (Its z) H1
def qym {l:Expr} {tl:TE} (hl:PE X l tl):PI X tg l (iStr tl):=by
 intro xC s σ H R I h;refine thn (hl xC s σ H _ I h) λ v s1 O=> ?_;obtain ⟨x,H1,I1,r1,q1⟩:=O;obtain ⟨z,e,q⟩:=q1;subst e;obtain ⟨t,rfl⟩:=r1;have fin:∀ ty,(ty="str_ascii_iterator"\/ ty="str_iterator") ->PIE X xC σ tg R (.ref s1.heap.objs.size) {s1 with heap:=s1.heap.push {cls:= .type ty,data:= .fields #[.str z t,.int 0 0]}}:=λ ty J=>by
  refine ⟨s1.heap.objs.size,[s1.heap.objs.size],_,_,H1,zr,I1.kept (t':=s1.toks) λ b o e=>z0n _ e,qt9 _ z t ty J,⟨_,z1b _ rfl,zr,zr⟩,λ b hb=> ?_,q⟩;have e:b=s1.heap.objs.size:=by simpa using hb
  subst e;exact I1.fpOk (z47 _) (I1.hok.fresh (z47 _))
 cases ha:z.cps.all (· < 128)
 ·exact wpAny_pyIter_wide ha (fin _ (.inr rfl))
 ·exact wpAny_pyIter_ascii ha (fin _ (.inl rfl))
end
def cutS (z:Str) (lo hi:Option Int):Str:=⟨((z.cps.toList.drop (HT.sIx z.length 0 lo)).take (HT.sIx z.length z.length hi - HT.sIx z.length 0 lo)).toArray⟩
def qio (lo hi:Option Int) (n:Nat):Builtin.Str.strSliceIndices lo hi 1 n=(List.range (HT.sIx n n hi - HT.sIx n 0 lo)).map (HT.sIx n 0 lo+ ·):=by
 have h:Builtin.Str.strSliceIndices lo hi 1 n=sliceRange ((HT.sIx n 0 lo:Nat):Int) ((HT.sIx n n hi:Nat):Int) 1:=by
  unfold Builtin.Str.strSliceIndices;simp only [show (1:Int) > 0 by decide,if_true]
  congr 1
  ·cases lo with
   | none=>rfl
   | some i=>
    rw [<- HT.clip_eq i n 0];show max 0 (min (if i < 0 then i+(n:Int) else i) (n:Int))=_;split <;> lia
  ·cases hi with
   | none=>rfl
   | some i=>
    rw [<- HT.clip_eq i n n];show max 0 (min (if i < 0 then i+(n:Int) else i) (n:Int))=_;split <;> lia
 rw [h];unfold sliceRange;simp only [show (1:Int) > 0 by decide,if_true];have e2:(if ((HT.sIx n 0 lo:Nat):Int) < ((HT.sIx n n hi:Nat):Int) then (((HT.sIx n n hi:Nat):Int) - ((HT.sIx n 0 lo:Nat):Int)+1 - 1) / 1 else 0).toNat=HT.sIx n n hi - HT.sIx n 0 lo:=by
  split
  ·rw [Int.ediv_one];lia
  ·lia
 rw [e2]
 apply z1e
 intro k _
 lia
def qow (xs:Array Nat) (i k:Nat):(((List.range k).map (i+ ·)).filterMap (xs[·]?))=(xs.toList.drop i).take k:=by
 induction k with
 | zero=>simp
 | succ k ih=>
  rw [z34,z35,List.filterMap_append,ih,z3g]
  congr 1
  simp only [z3k,z43,List.getElem?_drop,z0w];cases h:xs[i+k]? <;> simp [h]
def qck (z:Str) (lo hi:Option Int):(cutS z lo hi).length<=z.length:=by
 show ((z.cps.toList.drop _).take _).toArray.size<=z.length;rw [z22,z2f,z2g];have:z.cps.toList.length=z.length:=by simp [Str.length]
 lia
section
variable {X:Cx}
def rSlS:V ->Option Int ->Option Int ->Hp ->VK ->Prop:=λ x lo hi H Q=>∃ z,x= .str z/\z.length<=sizeLine/\Q (.str (cutS z lo hi)) H
def qap:SlR X rSlS:=by
  intro xC s σ H x v vl vu lo hi sl Q I rx hs pl pu h;obtain ⟨z,rfl,O,q⟩:=h;obtain ⟨t,rfl⟩:=rx;refine ⟨"str",_,F.slot_str_getitem.lookup,typeIs_str s z t,?_⟩;obtain ⟨l,rfl,el⟩:∃ l:Option (Int×Tok),vl=partValue l/\l.map (·.1)=lo:=by
    cases pl with
    | none=>exact ⟨none,rfl,rfl⟩
    | int i t=>exact ⟨some (i,t),rfl,rfl⟩
  obtain ⟨u,rfl,eu⟩:∃ u:Option (Int×Tok),vu=partValue u/\u.map (·.1)=hi:=by
    cases pu with
    | none=>exact ⟨none,rfl,rfl⟩
    | int i t=>exact ⟨some (i,t),rfl,rfl⟩
  refine wpAny_getItem_str_slice (l:=l) (u:=u) (st:=none) hs rfl ?_;have ep:slicePicked z l u none=(List.range (HT.sIx z.length z.length hi - HT.sIx z.length 0 lo)).map (HT.sIx z.length 0 lo+ ·):=by
    unfold slicePicked;rw [el,eu];exact qio lo hi z.length
  have ec:(slicePicked z l u none).filterMap (z.cps[·]?)=(z.cps.toList.drop (HT.sIx z.length 0 lo)).take (HT.sIx z.length z.length hi - HT.sIx z.length 0 lo):=by
    rw [ep,qow]
  unfold sliceMade;split
  · rename_i hw
    have J:(slicePicked z l u none).length=z.length:=by simpa using hw
    have e:cutS z lo hi=z:=by
      have hl:z.cps.toList.length=z.length:=by simp [Str.length]
      rw [ep,z2z,z28] at J;have h1:=HT.sIx_le z.length z.length (z47 _) hi;have a0:HT.sIx z.length 0 lo=0\/ z.length=0:=by lia
      unfold cutS;rcases a0 with a0 | a0
      · rw [J,a0,List.drop_zero,z0m (by lia)]
      · have z0:z.cps.toList=[]:=List.eq_nil_of_length_eq_zero (by lia)
        rw [z0,List.drop_nil,List.take_nil];cases z with
        | mk cps=>
          congr 1
          exact (Array.toList_inj.mp z0).symm
    rw [e] at q;exact ⟨.str z,H,I,⟨t,zr⟩,q⟩
  · have e:(⟨((slicePicked z l u none).filterMap (z.cps[·]?)).toArray⟩:Str)=cutS z lo hi:=by
      unfold cutS;rw [ec]
    rw [e];exact ⟨z40 (qck z lo hi) O,.str (cutS z lo hi),H,I.tok _,⟨_,zr⟩,q⟩
end
def qqv (bs:List Bool):(List.range bs.length).all (λ i=>(bs[i]?).getD true)=bs.all id:=by
 rw [z2y,z2m,z2m]
 constructor
 ·intro h b hb;obtain ⟨i,hi,e⟩:=z11.mp hb;have:=h i (z3c.mpr hi);rw [z0c hi,e] at this;exact this
 ·intro h i hi;have J:=z3c.mp hi;rw [z0c J];exact h _ (z2j J)
def qnk {bs:List Bool} {us:xH} (r:Vals (bs.map V.bl) us) {i:Nat} {v:Value} (h:us[i]? =some v):∃ b,bs[i]? =some b/\v= .bool b:=by
 have hl:=r.length;obtain ⟨hi,_⟩:=z07.mp h;rw [<- hl,z2z] at hi;have e:(bs.map V.bl)[i]? =some (V.bl bs[i]):=by rw [z21,z0c hi];rfl
 obtain ⟨u,J,ru⟩:=r.get e;rw [h] at J;cases J
 exact ⟨bs[i],z0c hi,ru⟩
section
variable {X:Cx}
def q89 (hc:X.calm=true) (K:xA) (hK:X.K=K:=by rfl):q1v X (.builtin "all") (λ xs H Q=>∃ (p:Addr) (bs:List Bool),xs=[.ref p]/\SqL K H p (bs.map V.bl)/\Q (.bl (bs.all id)) H):=by
 subst hK;intro xC s σ H xs us Q I r h;obtain ⟨p,bs,rfl,hp,q⟩:=h;obtain ⟨u,rfl,ru⟩:=q2x r;cases ru
 obtain ⟨its,rv,pl,hz⟩:=I.list hp;have hl:its.toArray.size=bs.length:=by
  have:=rv.length;rw [z2z] at this;rw [z22];exact this.symm
 have hh:X.A.in1.handled=none:=I.ok.hd hc;have O:p≠s.heap.objs.size:=λ e=>by
  obtain ⟨o,n,e1,_⟩:=pl;exact absurd (z3y e1) (by rw [e];exact z3o _)
 refine call_all_walk (z24 pl.isList ?_);refine ⟨s.heap.objs.size,_,_,_,_,_,λ i=>(bs[i]?).getD true,zr,Walks.list hh _ p O its.toArray,⟨⟨_,z1b _ rfl,zr,zr⟩,pl.isList.at λ o e=>z0n _ e⟩,?_,λ h' tk kk=> ?_⟩
 ·intro i v s' Q' E' hv hq;have Z:its[i]? =some v:=by simpa using hv
  obtain ⟨b,e,rfl⟩:=qnk rv Z;have J:Q' ((bs[i]?).getD true) s':=hq;rw [e] at J;exact z23 J
 ·rw [hl,qqv];exact ⟨.bl _,H,I.kept λ b o e=>kk b o (by simp;exact z3z (z3y e)) (z0n _ e),rfl,q⟩
def tyTs:List String:=["NoneType","bool","int","str","list","tuple","dict"]
def tyNs:List String:=["bool","int","str","list","tuple","dict"]
def tyIs (T n:String):Bool:=T==n || (T=="bool"&&n=="int")
def qwn:∀ T∈tyTs,∀ n∈tyNs,PySem.W.kitMeta n=true/\(PySem.fastBuiltinMro T).map (·.contains (Value.type n))=some (tyIs T n):=by decide+kernel
def qwo {K:xA} {T n:String} (hT:T∈tyTs) (hn:n∈tyNs):PySem.W.kitOne K (.type T) (.type n)=some (tyIs T n):=by
 obtain ⟨h1,h2⟩:=qwn T hT n hn;unfold PySem.W.kitOne;split
 ·rename_i e;have e':=eq_of_beq e;injection e' with J;subst J;simp [tyIs]
 ·unfold PySem.W.kitCls;show (if PySem.W.kitMeta n=true then PySem.W.subIn K (.type T) (.type n) else none)=_;rw [if_pos h1];exact h2
def q10p {x:Str} {i:Int} {pos:Pos} (hg:Gl X x) (hm:∃ t,X.mg x=some (.int i t)) (hd:(x==("__debug__":Str))=false:=by decide):PE X (.Name x pos) (tC (.int i)):=by
 obtain ⟨t,e⟩:=hm;exact qfw hg e ⟨t,zr⟩ hd
def qjx {x z:Str} {pos:Pos} (hg:Gl X x) (hm:∃ t,X.mg x=some (.str z t)) (hd:(x==("__debug__":Str))=false:=by decide):PE X (.Name x pos) (tC (.str z)):=by
 obtain ⟨t,e⟩:=hm;exact qfw hg e ⟨t,zr⟩ hd
def q4n {x:Str} {n:String} {pos:Pos} (hg:Gl X x) (hm:X.mg x=none) (hv:bootBuiltins x=some (.type n)) (hn:x≠"__name__":=by decide) (hd:(x==("__debug__":Str))=false:=by decide):PE X (.Name x pos) (tC (.ty n)):=
 qvz hg hm hv rfl hn hd
end
structure Top (K:xA) (mg:xE) (x:Str) (st:Stmt) (ps:xD):Prop where
 ex:∃ f fd,Fun K x x st f fd/\mg x=some (.ref f)/\∀ us:List Value,us.length=ps.length ->bindArgs fd ⟨us,[]⟩=pure (ps.zip us)
def qyn {K:xA} {h:Heap} {mg:xE} {x:Str} {st:Stmt} {ps:xD} {f:Addr} {oc:Value} {od O:Option Addr} {a1:Array (Option Value)} {kV J Z cdv ct:Value} (X:K.In h) (G:h.Ns mainGlobals mg)
  (b:∀ (kV J Z:Value) (O:Option Addr) (cdv ct:Value) (us:xH),us.length=ps.length ->bindArgs (PySem.W.fnOf x x (q1t st) (q1d st) (qd st) .none kV J Z O cdv ct) ⟨us,[]⟩=pure (ps.zip us))
  (a:PySem.W.nsIn K mainGlobals x=some (some (.ref f)))
  (l:K.lookup f=some ⟨oc,od,.func (PySem.W.fnOf x x (q1t st) (q1d st) (qd st) .none kV J Z O cdv ct),a1⟩) (c:PySem.W.codeIn K cdv x=true) (k:PySem.W.keepIn K (.ref f)=true):Top K mg x st ps:=by
 have F:=qqr (st:=st) l c k;exact ⟨f,_,F,z3q X G a,b kV J Z O cdv ct⟩
structure Def (P:Program) (w:World) (K:xA) (mg:xE) (base:Heap) (k:Nat) (x:Str) (ps:xD) (sp:Sp):Prop where
 ex:∃ f fd,FnOk P w K mg base CX0 k f fd ps sp/\mg x=some (.ref f)/\PySem.W.keepIn K (.ref f)=true/\Binds K fd ps []
theorem Top.ok {P:Program} {w:World} {K:xA} {mg:xE} {base:Heap} {x:Str} {st:Stmt} {N ps:xD} {k:Nat} {sp:Sp} (T:Top K mg x st ps) (S:FnScope N ps (qd st)) (len:∀ vs H Q E,sp vs H Q E ->vs.length=ps.length)
  (J:∀ (f:Addr) (cdv:Value) (A:Around) (outer:List Env) (s:Shared) (H:Hp) (vs:List V) (Q:VK) (E:XK),Room k (A.deeper (envOfC x (qd st) s.heap.objs.size f cdv)) ->sp vs H Q E ->
   ∃ t,PSs (cxOf CX0 P w K mg base N x (qd st) f cdv A outer s H E).nox (q1d st) t/\t {nx:=λ _ H'=>Q .non H',rt:=Q} (start N vs) H):Def P w K mg base (k+1) x ps sp:=by
 obtain ⟨f,fd,F,hm,hb⟩:=T.ex;exact ⟨f,fd,F.ok S len (J f),hm,F.kp,Binds.all hb⟩
def Top.fin {l:PySem.W.OpenLaw} {w:World} {K:xA} {mg:xE} {O:Addr} {x:Str} {st:Stmt} {N:xD} {k:Nat} {sp:Sp} (T:Top K mg "law" st [x]) (Z:mg "law"=some (.ref O)) (S:FnScope N [x] (qd st))
  (len:∀ vs H Q E,sp vs H Q E ->vs.length=[x].length)
  (J:∀ (base:Heap) (f:Addr) (cdv:Value) (A:Around) (outer:List Env) (s:Shared) (H:Hp) (vs:List V) (Q:VK) (E:XK),Room k (A.deeper (envOfC "law" (qd st) s.heap.objs.size f cdv)) ->sp vs H Q E ->
   ∃ t,PSs (cxOf CX0 l.prog w K mg base N "law" (qd st) f cdv A outer s H E).nox (q1d st) t/\t {nx:=λ _ H'=>Q .non H',rt:=Q} (start N vs) H):
  ∃ fd:FuncData,(∀ (s:Shared) (v:Value),BindsTo s fd ⟨[v],[]⟩ [(x,v)])/\∀ base:Heap,K.In base ->base.Ns mainGlobals mg ->FnOk l.prog w K mg base CX0 (k+1) O fd [x] sp:=by
 obtain ⟨f,fd,F,hm,hb⟩:=T.ex;have e:=Z.symm.trans hm;injection e with e;injection e with e;subst e;exact ⟨fd,λ s v=> .of_eq (hb [v] rfl),λ base _ _=>F.ok S len (J base O)⟩
section
variable {X:Cx} {k k':Nat} {x:Str} {ps:xD} {sp:Sp} {p pos:Pos} {e:Expr} {es:List Expr} {t:TA}
def q12 (D:Def X.prog X.w X.K X.mg X.base k x ps sp) (hr:Room k' X.A) (hg:Gl X x) (ha:PA X (e::es) t) (O:k<=k':=by decide)
  (J:(x==("__debug__":Str))=false:=by decide) (he:starEach (e::es) X.env=(false,eval e X.env)::starEach es X.env:=by rfl) (Z:(backTo pos (starEach es X.env)).any (·.1)=false:=by rfl):
  PE X (.Call (.Name x p) (e::es) [] pos) (qor sp [] E0 t):=by
 obtain ⟨f,fd,F,hm,hk,hb⟩:=D.ex;exact qng F (hr.mono O) hg hm hk hb .nil qbu ha J he Z
end
section
variable {X:Cx} {tg:Expr}
def q2y (K:xA) (hK:X.K=K:=by rfl):q1v X (.builtin "len") (λ xs H Q=>∃ x n,xs=[x]/\LenV K x H n/\Q (.int n) H):=by subst hK;exact qsx
def ql (K:xA) (hK:X.K=K:=by rfl):IxR X (rIxL K):=by subst hK;exact qwe
def q31 (K:xA) (hK:X.K=K:=by rfl):SlR X (rSlL K):=by subst hK;exact qwf
def q1f (K:xA) {l:Expr} {tl:TE} (hl:PE X l tl) (hK:X.K=K:=by rfl):PI X tg l (qv8 K tl):=by subst hK;exact qw0 hl
def q75 (K:xA) {l:Expr} {tl:TE} (hl:PE X l tl) (hK:X.K=K:=by rfl):PI X tg l (iTup K tl):=by subst hK;exact qyb hl
def qyo (K:xA) (hK:X.K=K:=by rfl):OpR X (compareOp .In) (rIn K false):=by subst hK;exact qqj
def qqw (K:xA) (hK:X.K=K:=by rfl):OpR X (compareOp .NotIn) (rIn K true):=by subst hK;exact qkn
def q9a (K:xA) (hK:X.K=K:=by rfl):q1v X (.type "list") (λ xs H Q=>∃ p ys,xs=[.ref p]/\(SqL K H p ys\/ SqT K H p ys)/\∀ l,H l=none ->Q (.ref l) (upd H l (.lst ys))):=by subst hK;exact qko
def q8g (K:xA) (hK:X.K=K:=by rfl):q1v X (.type "tuple") (λ xs H Q=>∃ p ys,xs=[.ref p]/\((SqL K H p ys/\∀ l,H l=none ->Q (.ref l) (upd H l (.tup ys)))\/ (SqT K H p ys/\Q (.ref p) H))):=by subst hK;exact qin
end
def qaq {α:Type} {xs:List α} {i:Int} (h0:0<=i) (h1:i < xs.length):∃ v,atI xs i=some v/\v∈xs:=by
 have J:i.toNat < xs.length:=by lia
 refine ⟨xs[i.toNat],?_,z2j J⟩;unfold atI ixN;rw [if_pos h0,if_pos h1];show xs[i.toNat]? =_;exact z0c J
def qyp {α:Type} {xs:List α} {i:Int} (h0:0<=i) (h1:i < xs.length):atI xs i=xs[i.toNat]? :=by
 unfold atI ixN;rw [if_pos h0,if_pos h1];rfl
def qf {H:Hp} {a:Addr} {o:HO} (h:H a=none):Same H (upd H a o):=λ b u e=>by
 rw [qi (qu e h)];exact e
def Same.set {H H':Hp} {a:Addr} {o:HO} (h:Same H H') (n:H a=none):Same H (upd H' a o):=λ b u e=>by
 rw [qi (qu e n)];exact h b u e
def Same.seqT {K:xA} {H H':Hp} {a:Addr} {xs:List V} (e:Same H H') (h:SqT K H a xs):SqT K H' a xs:=by
 rcases h with (h | ⟨o,h⟩) | h
 ·exact .inl (.inl (e _ _ h))
 ·exact .inl (.inr ⟨o,e _ _ h⟩)
 ·exact .inr h
def q1x:Expr ->Bool
 | .Starred _ _=>false
 | _=>true
def qip {e:Expr} {es:List Expr} {env:Env} (h:q1x e=true):starEach (e::es) env=(false,eval e env)::starEach es env:=by
 cases e <;> first
  | rfl
  | cases h
def q2d {X:Cx} {e:Expr} {es:List Expr} {te:TE} {t:TA} (ha:PE X e te) (hr:PA X es t) (hs:q1x e=true:=by rfl):PA X (e::es) (q2l te t):=qw7 ha hr (qip hs)
def q3z:bootBuiltins "len"=some (.builtin "len"):=by decide+kernel
def q1g:bootBuiltins "isinstance"=some (.builtin "isinstance"):=by decide+kernel
def qel:bootBuiltins "all"=some (.builtin "all"):=by decide+kernel
def qqx:bootBuiltins "any"=some (.builtin "any"):=by decide+kernel
def q2e:bootBuiltins "sorted"=some (.builtin "sorted"):=by decide+kernel
def qkv:bootBuiltins "min"=some (.builtin "min"):=by decide+kernel
def qyq:bootBuiltins "max"=some (.builtin "max"):=by decide+kernel
def qyr:bootBuiltins "str"=some (.type "str"):=by decide+kernel
def qys:bootBuiltins "int"=some (.type "int"):=by decide+kernel
def qbv:bootBuiltins "bool"=some (.type "bool"):=by decide+kernel
def q5m:bootBuiltins "list"=some (.type "list"):=by decide+kernel
def q9b:bootBuiltins "tuple"=some (.type "tuple"):=by decide+kernel
def qbw:bootBuiltins "dict"=some (.type "dict"):=by decide+kernel
def qnl {α:Type} {l:List α} {i:Nat} {d:α} (h:i < l.length):l.getD i d=l[i]:=by
 rw [z06,z0c h];rfl
def qwp {α:Type} {l:List α} {i:Nat} {d:α} (h:l.length<=i):l.getD i d=d:=by
 rw [z06,List.getElem?_eq_none_iff.mpr h];rfl
def pa_1 {X:Cx} {J:Expr} {Z:TE} (h0:PE X J Z) (O:q1x J=true:=by rfl):PA X [J] (q2l Z tNil):=(q2d h0 q26 O)
def pa_2 {X:Cx} {J e1:Expr} {t0 t1:TE} (h0:PE X J t0) (h1:PE X e1 t1) (O:q1x J=true:=by rfl) (Z:q1x e1=true:=by rfl):PA X [J,e1] (q2l t0 (q2l t1 tNil)):=(q2d h0 (q2d h1 q26 Z) O)
def pa_3 {X:Cx} {J e1 e2:Expr} {t0 t1 t2:TE} (h0:PE X J t0) (h1:PE X e1 t1) (h2:PE X e2 t2) (O:q1x J=true:=by rfl) (Z:q1x e1=true:=by rfl) (a1:q1x e2=true:=by rfl):PA X [J,e1,e2] (q2l t0 (q2l t1 (q2l t2 tNil))):=(q2d h0 (q2d h1 (q2d h2 q26 a1) Z) O)
def pa_5 {X:Cx} {J e1 e2 e3 O:Expr} {t0 t1 t2 t3 t4:TE} (h0:PE X J t0) (h1:PE X e1 t1) (h2:PE X e2 t2) (h3:PE X e3 t3) (h4:PE X O t4) (Z:q1x J=true:=by rfl) (a1:q1x e1=true:=by rfl) (a2:q1x e2=true:=by rfl) (a3:q1x e3=true:=by rfl) (a4:q1x O=true:=by rfl):PA X [J,e1,e2,e3,O] (q2l t0 (q2l t1 (q2l t2 (q2l t3 (q2l t4 tNil))))):=(q2d h0 (q2d h1 (q2d h2 (q2d h3 (q2d h4 q26 a4) a3) a2) a1) Z)
def pa_6 {X:Cx} {J e1 e2 e3 O Z:Expr} {t0 t1 t2 t3 t4 t5:TE} (h0:PE X J t0) (h1:PE X e1 t1) (h2:PE X e2 t2) (h3:PE X e3 t3) (h4:PE X O t4) (h5:PE X Z t5) (a1:q1x J=true:=by rfl) (a2:q1x e1=true:=by rfl) (a3:q1x e2=true:=by rfl) (a4:q1x e3=true:=by rfl) (a5:q1x O=true:=by rfl) (a6:q1x Z=true:=by rfl):PA X [J,e1,e2,e3,O,Z] (q2l t0 (q2l t1 (q2l t2 (q2l t3 (q2l t4 (q2l t5 tNil)))))):=(q2d h0 (q2d h1 (q2d h2 (q2d h3 (q2d h4 (q2d h5 q26 a6) a5) a4) a3) a2) a1)
def q2r {X:Cx} {s0 s1:Stmt} {J t1:TS} (h0:PS X s0 J) (h1:PS X s1 t1):PSs X [s0,s1] (tSeq J t1):=(qr h0 (qg h1))
def q4e {X:Cx} {s0 s1 J:Stmt} {O t1 t2:TS} (h0:PS X s0 O) (h1:PS X s1 t1) (h2:PS X J t2):PSs X [s0,s1,J] (tSeq O (tSeq t1 t2)):=(qr h0 (qr h1 (qg h2)))
def q9c {X:Cx} {s0 s1 J s3:Stmt} {O t1 t2 t3:TS} (h0:PS X s0 O) (h1:PS X s1 t1) (h2:PS X J t2) (h3:PS X s3 t3):PSs X [s0,s1,J,s3] (tSeq O (tSeq t1 (tSeq t2 t3))):=(qr h0 (qr h1 (qr h2 (qg h3))))
def qox {X:Cx} {s0 s1 J s3 O:Stmt} {Z t1 t2 t3 t4:TS} (h0:PS X s0 Z) (h1:PS X s1 t1) (h2:PS X J t2) (h3:PS X s3 t3) (h4:PS X O t4):PSs X [s0,s1,J,s3,O] (tSeq Z (tSeq t1 (tSeq t2 (tSeq t3 t4)))):=(qr h0 (qr h1 (qr h2 (qr h3 (qg h4)))))
def q10q {X:Cx} {s0 s1 J s3 O Z:Stmt} {t0 t1 t2 t3 t4 t5:TS} (h0:PS X s0 t0) (h1:PS X s1 t1) (h2:PS X J t2) (h3:PS X s3 t3) (h4:PS X O t4) (h5:PS X Z t5):PSs X [s0,s1,J,s3,O,Z] (tSeq t0 (tSeq t1 (tSeq t2 (tSeq t3 (tSeq t4 t5))))):=(qr h0 (qr h1 (qr h2 (qr h3 (qr h4 (qg h5))))))
def qve {X:Cx} {s0 s1 J s3 O Z s6 s7:Stmt} {t0 t1 t2 t3 t4 t5 t6 t7:TS} (h0:PS X s0 t0) (h1:PS X s1 t1) (h2:PS X J t2) (h3:PS X s3 t3) (h4:PS X O t4) (h5:PS X Z t5) (h6:PS X s6 t6) (h7:PS X s7 t7):PSs X [s0,s1,J,s3,O,Z,s6,s7] (tSeq t0 (tSeq t1 (tSeq t2 (tSeq t3 (tSeq t4 (tSeq t5 (tSeq t6 t7))))))):=(qr h0 (qr h1 (qr h2 (qr h3 (qr h4 (qr h5 (qr h6 (qg h7))))))))
def qvf {X:Cx} {s0 s1 J s3 O Z s6 s7 s8:Stmt} {t0 t1 t2 t3 t4 t5 t6 t7 t8:TS} (h0:PS X s0 t0) (h1:PS X s1 t1) (h2:PS X J t2) (h3:PS X s3 t3) (h4:PS X O t4) (h5:PS X Z t5) (h6:PS X s6 t6) (h7:PS X s7 t7) (h8:PS X s8 t8):PSs X [s0,s1,J,s3,O,Z,s6,s7,s8] (tSeq t0 (tSeq t1 (tSeq t2 (tSeq t3 (tSeq t4 (tSeq t5 (tSeq t6 (tSeq t7 t8)))))))):=(qr h0 (qr h1 (qr h2 (qr h3 (qr h4 (qr h5 (qr h6 (qr h7 (qg h8)))))))))
def q10r {X:Cx} {s0 s1 J s3 O:Stmt} {Z:List Stmt} {t0 t1 t2 t3 t4 u:TS} (h0:PS X s0 t0) (h1:PS X s1 t1) (h2:PS X J t2) (h3:PS X s3 t3) (h4:PS X O t4) (hu:PSs X Z u):PSs X (s0::s1::J::s3::O::Z) (tSeq t0 (tSeq t1 (tSeq t2 (tSeq t3 (tSeq t4 u))))):=(qr h0 (qr h1 (qr h2 (qr h3 (qr h4 hu)))))
def q10s {X:Cx} {s0 s1 J s3 O Z s6:Stmt} {ss:List Stmt} {t0 t1 t2 t3 t4 t5 t6 u:TS} (h0:PS X s0 t0) (h1:PS X s1 t1) (h2:PS X J t2) (h3:PS X s3 t3) (h4:PS X O t4) (h5:PS X Z t5) (h6:PS X s6 t6) (hu:PSs X ss u):PSs X (s0::s1::J::s3::O::Z::s6::ss) (tSeq t0 (tSeq t1 (tSeq t2 (tSeq t3 (tSeq t4 (tSeq t5 (tSeq t6 u))))))):=(qr h0 (qr h1 (qr h2 (qr h3 (qr h4 (qr h5 (qr h6 hu)))))))
def qwq {X:Cx} {body:List Stmt} {D:Ends} {σ:St} {H:Hp} (n:Nat) (C:St ->Hp ->Prop) (rest:∃ u,PSs X (body.drop n) u/\∀ σ H,C σ H ->u D σ H)
  (first:∀ u,PSs X (body.drop n) u ->(∀ σ H,C σ H ->u D σ H) ->∃ t,PSs X body t/\t D σ H):∃ t,PSs X body t/\t D σ H:=
 let ⟨u,h1,h2⟩:=rest
 first u h1 h2
def qqy {X:Cx} {body:List Stmt} {D:Ends} {J:St ->Hp ->Prop} (n:Nat) (C:St ->Hp ->Prop) (rest:∃ u,PSs X (body.drop n) u/\∀ σ H,C σ H ->u D σ H)
  (first:∀ u,PSs X (body.drop n) u ->(∀ σ H,C σ H ->u D σ H) ->∃ t,PSs X body t/\∀ σ H,J σ H ->t D σ H):∃ t,PSs X body t/\∀ σ H,J σ H ->t D σ H:=
 let ⟨u,h1,h2⟩:=rest
 first u h1 h2
mutual
inductive Dat (K:xA) (H:Hp):PyData ->V ->Prop
 | non:Dat K H .none .non
 | bl (b:Bool):Dat K H (.bool b) (.bl b)
 | int (i:Int):Dat K H (.int i) (.int i)
 | str (x:Str) (h:PyData.strOk x=true):Dat K H (.str x) (.str x)
 | lst {a:Addr} {xs:List V} {ds:List PyData}:SqL K H a xs ->Dats K H ds xs ->Dat K H (.list ds) (.ref a)
 | tup {a:Addr} {xs:List V} {ds:List PyData}:SqT K H a xs ->Dats K H ds xs ->Dat K H (.tuple ds) (.ref a)
inductive Dats (K:xA) (H:Hp):List PyData ->List V ->Prop
 | nil:Dats K H [] []
 | cons {d:PyData} {x:V} {ds:List PyData} {xs:List V}:Dat K H d x ->Dats K H ds xs ->Dats K H (d::ds) (x::xs)
end
section
variable {K:xA} {H H':Hp}
mutual
theorem Dat.same (s:Same H H'):∀ (d:PyData) (x:V),Dat K H d x ->Dat K H' d x
 | _,_,.non=> .non
 | _,_,.bl b=> .bl b
 | _,_,.int i=> .int i
 | _,_,.str x h=> .str x h
 | _,_,.lst h r=> .lst (s.seq h) (Dats.same s _ _ r)
 | _,_,.tup h r=> .tup (s.seqT h) (Dats.same s _ _ r)
theorem Dats.same (s:Same H H'):∀ (ds:List PyData) (xs:List V),Dats K H ds xs ->Dats K H' ds xs
 | _,_,.nil=> .nil
 | _,_,.cons a b=> .cons (Dat.same s _ _ a) (Dats.same s _ _ b)
end
mutual
theorem Dat.lay:∀ (d:PyData) (x:V),Dat K H d x ->d.canLay0=true
 | _,_,.non=>rfl
 | _,_,.bl _=>rfl
 | _,_,.int _=>rfl
 | _,_,.str _ h=>h
 | _,_,.lst _ r=>Dats.lay _ _ r
 | _,_,.tup _ r=>Dats.lay _ _ r
theorem Dats.lay:∀ (ds:List PyData) (xs:List V),Dats K H ds xs ->PyData.canLayAll0 ds=true
 | _,_,.nil=>rfl
 | _,_,.cons a b=>by rw [PyData.canLayAll0,Dat.lay _ _ a,Dats.lay _ _ b];rfl
end
end
section
variable {X:Cx} {xC:xG} {σ:St} {H:Hp} {s:Shared}
mutual
theorem Dat.reads (I:Inv X xC σ H s):∀ (d:PyData) (x:V) (u:Value),Dat X.K H d x ->RelV x u ->∃ as,Reads s.heap u d as
 | _,_,_,.non,r=>by cases r;exact ⟨_,.none⟩
 | _,_,_,.bl b,r=>by cases r;exact ⟨_,.bool b⟩
 | _,_,_,.int i,r=>by obtain ⟨t,rfl⟩:=r;exact ⟨_,.int i t⟩
 | _,_,_,.str x _,r=>by obtain ⟨t,rfl⟩:=r;exact ⟨_,.str x t⟩
 | _,_,_,.lst h q,r=>by
  cases r
  obtain ⟨its,rv,⟨o,n,e,c,_,d⟩,_⟩:=I.list h;obtain ⟨as,J⟩:=Dats.reads I _ _ _ q rv;exact ⟨_,.list e c d (by simpa using J)⟩
 | _,_,_,.tup h q,r=>by
  cases r
  obtain ⟨its,rv,⟨o,e,c,n,d⟩,_⟩:=I.tuple h;obtain ⟨as,J⟩:=Dats.reads I _ _ _ q rv;exact ⟨_,.tuple e c d (by simpa using J)⟩
theorem Dats.reads (I:Inv X xC σ H s):∀ (ds:List PyData) (xs:List V) (us:xH),Dats X.K H ds xs ->Vals xs us ->∃ as,ReadsAll s.heap us ds as
 | _,_,_,.nil,r=>by cases r;exact ⟨_,.nil⟩
 | _,_,_,.cons a b,r=>by
  cases r with
  | cons r1 r2=>
   obtain ⟨as,h1⟩:=Dat.reads I _ _ _ a r1;obtain ⟨bs,h2⟩:=Dats.reads I _ _ _ b r2;exact ⟨_,.cons h1 h2⟩
end
end
section
variable {X:Cx}
def qkw {u d e:Nat} (hu:u+64 < cLine) (hd:d<=60):u+min d e < cLine:=by
 have:min d e<=d:=Nat.min_le_left _ _
 lia
def rEqD (K:xA):R2:=λ x y H Q=>∃ d e,Dat K H d x/\Dat K H e y/\d.depth<=60/\Q (.bl (PyData.eqv d e)) H
def qkx (hu:X.A.units+64 < cLine) (K:xA) (hK:X.K=K:=by rfl):OpR X (compareOp .Eq) (rEqD K):=by
 subst hK;intro xC s σ H x y v u Q I rx ry h;obtain ⟨d,e,hd,J,hz,q⟩:=h;obtain ⟨as,ra⟩:=Dat.reads I _ _ _ hd rx;obtain ⟨bs,rb⟩:=Dat.reads I _ _ _ J ry;exact SeqAt.rcAt_reads ra rb (Dat.lay _ _ hd) (Dat.lay _ _ J) (qkw hu hz) X.prog X.w X.xe _ (q1a I q rfl)
end
def LtAt (A:Around) (s:Shared) (u v:Value) (r:Bool):Prop:=
 ∀ (prog:Program) (w:World) (E:xB) (Q:xB),Q (.bool r) s ->wpAny (model prog w) A (richCompare .Lt u v) Q E s
inductive LexAt (A:Around) (s:Shared):List Value ->List Value ->Bool ->Prop
 | nn:LexAt A s [] [] false
 | nc {v:Value} {vs:xH}:LexAt A s [] (v::vs) true
 | cn {u:Value} {us:xH}:LexAt A s (u::us) [] false
 | eq {u v:Value} {us vs:xH} {r:Bool}:SeqAt.EqAt A s u v true ->LexAt A s us vs r ->LexAt A s (u::us) (v::vs) r
 | lt {u v:Value} {us vs:xH} {r:Bool}:SeqAt.EqAt A s u v false ->LtAt A s u v r ->LexAt A s (u::us) (v::vs) r
section
open PySem.SeqAt
open PySem.AutoSeq1 (wpAny_loadPart')
open PySem.MeetsSeq PySem.MeetsSeq2 PySem.MeetsSeq3
def qar (l b:Addr) (O J:Array Value) (n n2:Nat) (dd a5:Option Addr) (sl a7:Array (Option Value)) (r:Bool):
  Meets (Builtin.«tuple.__lt__» ⟨[.ref l,.ref b],[]⟩)
   (λ A R s=>s.heap.get? l=some {cls:= .type "tuple",dict:=dd,data:= .seq O n,slots:=sl}/\s.heap.get? b=some {cls:= .type "tuple",dict:=a5,data:= .seq J n2,slots:=a7}/\
    LexAt A.in1 s O.toList J.toList r/\R (.ok (.ret (.bool r))) s):=
 .of_wp λ prog w A R s h=>by
  obtain ⟨hp,g,d,tk,os⟩:=s;obtain ⟨hl,hb,hx,h⟩:=h;have f2:=AutoSeq1.sub_tuple_tuple
  wp_walk using wpAny_loadPart' hl,wpAny_loadPart' hb,wpAny_forIn_list _ (λ rest b s'=>b.1=none/\s'=⟨hp,g,d,tk,os⟩/\∃ (vs ws:xH),rest=vs.zip ws/\
   LexAt A.in1 ⟨hp,g,d,tk,os⟩ vs ws r/\vs.length+J.size=ws.length+O.size) _
  case turn=>
   rintro ⟨y,x⟩ rest b s' ⟨a2,rfl,vs,ws,hz,a3,Z⟩;cases a3 with
   | nn=>rw [List.zip_nil_left] at hz;cases hz
   | nc=>rw [List.zip_nil_left] at hz;cases hz
   | cn=>rw [List.zip_nil_right] at hz;cases hz
   | eq he hr=>
    rw [z1s] at hz;injection hz with a4 a1;injection a4 with hy hx;subst hy hx;simp only [z2h] at Z;refine z4e (he prog w _ _ ?_)
    wp_walk
    exact ⟨zr,zr,_,_,a1,hr,by lia⟩
   | lt he hr=>
    rw [z1s] at hz;injection hz with a4 a1;injection a4 with hy hx;subst hy hx;refine z4e (he prog w _ _ ?_);have a6:=hr prog w
    wp_walk using a6
    exact ⟨_,zr,by simpa using h⟩
  case fin=>
   rintro ⟨b1,b2⟩ s' ⟨a2,rfl,vs,ws,hz,a3,Z⟩;simp only at a2;subst a2;have hv:r=decide (O.size < J.size):=by
    cases a3 with
    | nn=>
     simp only [z33] at Z;exact (z2v (by lia)).symm
    | nc=>
     simp only [z33,z2h] at Z;exact (z3b (by lia)).symm
    | cn=>
     simp only [z33,z2h] at Z;exact (z2v (by lia)).symm
    | eq _ _=>rw [z1s] at hz;cases hz
    | lt _ _=>rw [z1s] at hz;cases hz
   rw [hv] at h
   wp_walk
   exact ⟨_,zr,by simpa [Builtin.Tuple.tupleCompareSizes] using h⟩
  case h=>
   exact ⟨rfl,rfl,O.toList,J.toList,rfl,hx,by simp;lia⟩
end
def qta {A:Around} {s:Shared} {l b:Addr} {O J:Array Value} {r:Bool} (hl:IsTup s.heap l O) (hb:IsTup s.heap b J) (hx:LexAt A.in1 s O.toList J.toList r) (hu:A.units < cLine):LtAt A s (.ref l) (.ref b) r:=by
 intro prog w E Q h;obtain ⟨⟨cls,dd,data,sl⟩,ho,hc,n,hd⟩:=id hl;obtain ⟨⟨a6,a4,a3,a5⟩,a2,Z,n2,a1⟩:=id hb;simp only at hc hd Z a1;subst hc hd Z a1;exact richCompare_meets_room (op:= .Lt) ⟨_,ho,zr⟩ ⟨_,a2,zr⟩ PySem.F.slot_tuple_lt PySem.F.entry_tuple_lt (PySem.F.args_tuple_lt_2 _ _) (qar l b O J n n2 dd a4 sl a5 r)
  ⟨ho,a2,hx,show Value.bool r≠Value.notImplemented/\Q (.bool r) s from ⟨(λ x=>nomatch x),h⟩⟩ hu
section
variable {X:Cx}
end
def tyD:PyData ->String
 | .none=>"NoneType"
 | .bool _=>"bool"
 | .int _=>"int"
 | .str _=>"str"
 | .list _=>"list"
 | .tuple _=>"tuple"
 | .dict _=>"dict"
def qyt (d:PyData):tyD d∈tyTs:=by
 cases d <;> simp [tyD,tyTs]
section
variable {X:Cx}
def q2f (K:xA) (hK:X.K=K:=by rfl):q1v X (.builtin "isinstance") (λ xs H Q=>∃ x n d,xs=[x,.ty n]/\Dat K H d x/\n∈tyNs/\Q (.bl (tyIs (tyD d) n)) H):=by
 subst hK;intro xC s σ H xs us Q I r h;obtain ⟨x,n,d,rfl,hd,hn,q⟩:=h;obtain ⟨u,c,rfl,J,rc⟩:=qef r;cases rc
 have e:=qwo (K:=X.K) (qyt d) hn;have fin:∀ tk,EP X xC σ Q (.bool (tyIs (tyD d) n)) {s with toks:=tk}:=λ tk=>⟨.bl _,H,I.tok tk,rfl,q⟩;cases hd with
 | non=>cases J;exact z36 PySem.W.kitx_none I.kIn True.intro e (λ z=>nomatch z) fin
 | bl b=>cases J;exact z36 PySem.W.kitx_bool I.kIn True.intro e (λ z=>nomatch z) fin
 | int i=>obtain ⟨t,rfl⟩:=J;exact z36 PySem.W.kitx_int I.kIn True.intro e (λ z=>nomatch z) fin
 | str z h=>obtain ⟨t,rfl⟩:=J;exact z36 PySem.W.kitx_str I.kIn True.intro e (λ z=>nomatch z) fin
 | lst hq _=>
  cases J
  obtain ⟨its,_,⟨o,m,e1,c,_,_⟩,_⟩:=I.list hq;exact z36 PySem.W.kitx_list I.kIn ⟨o,e1,c⟩ e (λ z=>nomatch z) fin
 | tup hq _=>
  cases J
  obtain ⟨its,_,⟨o,e1,c,_⟩,_⟩:=I.tuple hq;exact z36 PySem.W.kitx_tuple I.kIn ⟨o,e1,c⟩ e (λ z=>nomatch z) fin
def rNeD (K:xA):R2:=λ x y H Q=>∃ d e,Dat K H d x/\Dat K H e y/\d.depth<=60/\Q (.bl (!PyData.eqv d e)) H
def qyu (hu:X.A.units+64 < cLine) (K:xA) (hK:X.K=K:=by rfl):OpR X (compareOp .NotEq) (rNeD K):=by
 subst hK;intro xC s σ H x y v u Q I rx ry h;obtain ⟨d,e,hd,J,hz,q⟩:=h;obtain ⟨as,ra⟩:=Dat.reads I _ _ _ hd rx;obtain ⟨bs,rb⟩:=Dat.reads I _ _ _ J ry;exact SeqAt.compareNe_reads ra rb (Dat.lay _ _ hd) (Dat.lay _ _ J) (qkw hu hz) (q1a I q rfl)
end
end L2
namespace L2
open PySem PySem.Spec PyProof.Rows PySem.W
def RawD (h:Heap) (d:Addr) (es:Array DictEntry) (ep:Nat):Prop:=∃ o,h.get? d=some o/\o.ExactDict/\o.data= .dict es ep
def RawD.lt {h:Heap} {d:Addr} {es:Array DictEntry} {ep:Nat} (x:RawD h d es ep):d < h.objs.size:=let ⟨_,e,_⟩:=x;z3y e
def RawD.ty {s:Shared} {d:Addr} {es:Array DictEntry} {ep:Nat} (x:RawD s.heap d es ep):s.TypeIs (.ref d) "dict":=let ⟨o,e,c,_⟩:=x;⟨o,e,c.1⟩
def RawD.at {h h':Heap} {d:Addr} {es:Array DictEntry} {ep:Nat} (x:RawD h d es ep) (k:∀ o,h.get? d=some o ->h'.get? d=some o):RawD h' d es ep:=let ⟨o,e,r⟩:=x;⟨o,k o e,r⟩
section
variable {prog:Program} {w:World} {A:Around} {E:xB} {s:Shared} {d it:Addr} {es:Array DictEntry} {ep i:Nat}
def qd1 {Q:xB} (hd:(d==sysModules)=false) (x:RawD s.heap d es ep)
  (q:Q (.ref s.heap.objs.size) {s with heap:=s.heap.push {cls:= .type "dict_keyiterator",data:= .fields #[.ref d,.int 0 0,.int es.size 0,.int ep 0]}}):wpAny (model prog w) A (pyIter (.ref d)) Q E s:=by
 obtain ⟨o,ho,hc,J⟩:=id x;refine wpAny_pyIter_slot x.ty PySem.F.slot_dict_iter (z2n PySem.F.slot_dict_iter x.ty PySem.F.entry_dict_iter ?_ (PySem.F.args_dict_iter_1 _));unfold Builtin.«dict.__iter__» Builtin.Dict.dictSlotNone;refine z4e (z4e (wpAny_notOrdered_dict x.ty ?_));show wpAny _ _ (pure (Value.ref d)) _ _ s;refine z4d ?_;show wpAny _ _ (Builtin.Dict.showsAll d >>=_) _ _ s;unfold Builtin.Dict.showsAll;rw [if_neg (by rw [hd];exact z1k)];refine z4e (z4d (z4e (z29 ho J (z4e (z37 ho J ?_)))));refine z4e (z27 (z4d ⟨_,zr,"dict_keyiterator",_,⟨_,z1b _ rfl,zr⟩,z00.lookup,?_⟩))
 simpa [rawInt] using q
def qd2 {e:DictEntry} {Q:Option Value ->Shared ->Prop} (J:s.heap.IsKeyIter it d i es.size ep) (x:RawD s.heap d es ep) (hx:es[i]? =some e)
  (q:∀ h',h'.IsKeyIter it d (i+1) es.size ep ->Heap.SameBut it s.heap h' ->Q (some e.key) {s with heap:=h'}):wpAny (model prog w) A (pyNext (.ref it)) Q E s:=by
 obtain ⟨o,ho,hc,hd⟩:=id J;obtain ⟨od,a1,hcd,Z⟩:=id x;unfold pyNext;refine z4e (z3l (wpAny_callSpecial?_slot (name:=Str.ofString "__next__") J.typeIs z00
  (z2n z00 J.typeIs PySem.F.entry_dict_keyiterator_next ?_ (PySem.F.args_dict_keyiterator_next_1 _))))
 refine z4e (z4d (z4e (z4e ?_)));refine z4e (z01 J.typeIs (z4d ?_));refine z4e (wpAny_fieldsOf ho hd ?_);simp only [show Builtin.Dict_items.ownsTuple "dict_keyiterator"=false by decide,z1j,if_false];show wpAny _ _ (if (Value.ref d==Value.none)=true then _ else _) _ _ s;rw [if_neg (show ¬ ((Value.ref d==Value.none)=true) from z1k)];refine z4e (z4d (z4e (z29 a1 Z ?_)));rw [if_neg (by simp)];refine z4e (z4d (z4e (z37 a1 Z ?_)));rw [if_neg (by simp)];refine z4d ?_;simp only [show ¬ ((i:Int) < 0) from by lia,if_false,z25,hx];refine z4e ?_;refine z4e (z01 J.typeIs (z4d ?_));refine z4e (wpAny_isOneOf_keyiter J.typeIs ?_);show wpAny _ _ (setField (.ref it) 1 (rawInt ((i:Int)+1)) >>=_) _ _ s;refine z4e (z3h ho hd (by simp) ?_);have O:(s.heap.update it (Obj.mapFields (·.setIfInBounds 1 (rawInt ((i:Int)+1))))).IsKeyIter it d (i+1) es.size ep:=
  ⟨_,z0y _ ho (Obj.isFreed_of_fields (Obj.data_mapFields hd _)),(Obj.cls_mapFields ..).trans hc,by rw [Obj.data_mapFields hd];simp [rawInt]⟩
 refine z4e (z3n ?_);refine z4e (wpAny_isOneOf_keyiter (s:={s with heap:=s.heap.update it (Obj.mapFields (·.setIfInBounds 1 (rawInt ((i:Int)+1))))}) O.typeIs ?_);show wpAny _ _ (pure e.key) _ _ _;exact z4d (z4d ⟨_,zr,z4d (q _ O (z1a ..))⟩)
def qg1 {Q:Option Value ->Shared ->Prop} (hh:A.handled=none) (J:s.heap.IsKeyIter it d i es.size ep) (x:RawD s.heap d es ep) (hx:es.size<=i)
  (q:∀ h',Heap.ExtBut it s.heap h' ->Q none {s with heap:=h'}):wpAny (model prog w) A (pyNext (.ref it)) Q E s:=by
 obtain ⟨o,ho,hc,hd⟩:=id J;obtain ⟨od,Z,hcd,O⟩:=id x;unfold pyNext;refine z4e (z3l (wpAny_callSpecial?_slot (name:=Str.ofString "__next__") J.typeIs z00
  (z2n z00 J.typeIs PySem.F.entry_dict_keyiterator_next ?_ (PySem.F.args_dict_keyiterator_next_1 _))))
 refine z4e (z4d (z4e (z4e ?_)));refine z4e (z01 J.typeIs (z4d ?_));refine z4e (wpAny_fieldsOf ho hd ?_);simp only [show Builtin.Dict_items.ownsTuple "dict_keyiterator"=false by decide,z1j,if_false];show wpAny _ _ (if (Value.ref d==Value.none)=true then _ else _) _ _ s;rw [if_neg (show ¬ ((Value.ref d==Value.none)=true) from z1k)];refine z4e (z4d (z4e (z29 Z O ?_)));rw [if_neg (by simp)];refine z4e (z4d (z4e (z37 Z O ?_)));rw [if_neg (by simp)];refine z4d ?_;simp only [show ¬ ((i:Int) < 0) from by lia,if_false,z25,z0q hx];refine z4e ?_;refine z4e (z01 J.typeIs (z4d ?_));show wpAny _ _ (setField (.ref it) 0 .none >>=_) _ _ s;refine z4e (z3h ho hd (by simp) ?_);show wpAny _ _ (newExc (.type "StopIteration") [] >>=_) _ _ _;refine z4e ?_;simp only [newExc,newTuple];refine z4e (z27 ?_ (by size_fits));refine z4e (m:=firstArgMember _ _) (wpAny_of_eq (a:=Value.none) (by first | rfl | (simp only [firstArgMember];rfl)) ?_);refine z27 ?_ (by size_fits);simp only [raiseNew];refine z4e (wpAny_handled ?_);rw [show A.in1.handled=none from hh];refine z4e (z4d (wpAny_throw ?_));refine z4e (wpAny_isInstance (T:="StopIteration") (b:=true) ⟨_,z1b _ rfl,zr⟩ isSubtype_stop ?_);exact z4d (q _ (((z1a ..).extBut.push _).push _))
def qqz (hh:A.handled=none) (I d:Addr) (a2:d≠I) (es:Array DictEntry) (ep:Nat):
  Walks prog w A I [I,d] [I] es.size (λ i v=>∃ e,es[i]? =some e/\v=e.key) (λ i h=>h.IsKeyIter I d i es.size ep/\RawD h d es ep) where
 sub:=λ b hb=>by simp at hb;simp [hb]
 frame:=λ _ _ _ st hk=>⟨st.1.at λ o e=>hk I (by simp) o e,st.2.at λ o e=>hk d (by simp) o e⟩
 item:=λ i s Q E hi st J=>by
  have hx:es[i]? =some es[i]:=z0b hi;refine qd2 st.1 st.2 hx λ h' O Z=> ?_;exact J es[i].key h' s.toks ⟨es[i],hx,zr⟩ ⟨O,st.2.at λ o e=>Z.extBut d o a2 e⟩ λ b o hb e=>Z.extBut b o (λ h=>hb (by simp [h])) e
 done:=λ s Q E st J=>qg1 hh st.1 st.2 (z47 _) λ h' a1=>J h' s.toks λ b o hb e=>a1 b o (λ h=>hb (by simp [h])) e
 self:=λ _ _ _ _ st J=>wpAny_pyIter_keyiter st.1 J
def qwr (lo:(d==sysModules)=false):KdlSrc prog w "dict" d d es.size (λ i v=>∃ e,es[i]? =some e/\v=e.key) (λ h=>RawD h d es ep) where
 type:=λ _ hm=>hm.ty
 there:=λ _ hm=>⟨hm.lt,hm.lt⟩
 keep:=λ _ _ hm hk=>hm.at λ o e=>hk d (.inl rfl) o e
 notList:=by decide
 notTuple:=by decide
 hint:=λ _ _ _ _ hm hq=>kdl_hint_dict hm.ty hq
 iter:=λ _ _ hh hm=>⟨_,_,(λ _ _ hq=>qd1 lo hm hq),qqz hh _ d (z3z hm.lt) es ep,⟨⟨_,z1b _ rfl,rfl,rfl⟩,hm.at λ o e=>z0n _ e⟩⟩
def q8h {R:List Value ->Shared ->Prop} (hh:A.handled=none) (lo:(d==sysModules)=false) (x:RawD s.heap d es ep) (hn:es.size<=sizeLine)
  (h:∀ (h':Heap) (tk:Nat),(∀ b o,s.heap.get? b=some o ->h'.get? b=some o) ->s.heap.objs.size<=h'.objs.size ->R (es.toList.map (·.key)) {s with heap:=h',toks:=tk}):wpAny (model prog w) A (collect (.ref d)) R E s:=by
 have fin:∀ (acc:Array Value),ItemsOf (λ i v=>∃ e,es[i]? =some e/\v=e.key) acc es.size ->acc.toList=es.toList.map (·.key):=λ acc ha=>by
  apply z20
  intro j;rw [z21,z0w,z0w];cases e:acc[j]? with
  | some v=>
   obtain ⟨e',he,rfl⟩:=ha.2 j v e;rw [he];rfl
  | none=>
   have:acc.size<=j:=by simpa using e
   rw [ha.1] at this;rw [z0q this];rfl
 unfold collect;refine z4e (wpAny_runValue (z38 entry_proto_collect' ?_));rw [Around.under_plainId PySem.F.plain_proto_collect _];show wpAny _ A.in1 (newList [] >>=λ l=>again (.builtin "list.__iadd__" ⟨[l,.ref d],[]⟩)) _ _ s;refine z4e (z27 ?_);refine z4d ⟨plainId_quiet z0i _,z38 entry_list_iadd' ?_⟩;rw [Around.under_plainId z0i _];have hS:(s.heap.push {cls:= .type "list",data:= .seq ([]:xH).toArray}).get? s.heap.objs.size=some {cls:= .type "list",data:= .seq #[]}:=z1b _ rfl;show wpAny _ A.in1 (Builtin.List.listExtendWith (.ref s.heap.objs.size) (.ref d) (.ref s.heap.objs.size)) _ _ _;have key:=kdl_extend (A:=A) (s:={s with heap:=s.heap.push {cls:= .type "list",data:= .seq ([]:xH).toArray}}) (qwr (prog:=prog) (w:=w) (es:=es) (ep:=ep) lo) hh (x.at λ o e=>z0n _ e) s.heap.objs.size
  (z41 x.lt) (z41 x.lt) (.ref s.heap.objs.size) 0 hS
  (R:=λ (q:Result) (s':Shared)=>∃ (h':Heap) (tk:Nat) (J:Array Value) (Z:Nat),q= .ok (.ret (.ref s.heap.objs.size))/\s'={s with heap:=h',toks:=tk}/\(∀ b o,s.heap.get? b=some o ->h'.get? b=some o)/\
   h'.get? s.heap.objs.size=some {cls:= .type "list",dict:=none,data:= .seq J Z,slots:=#[]}/\J.toList=es.toList.map (·.key))
  (λ h' tk J Z hk O a1=>⟨h',tk,J,Z,rfl,rfl,λ b o e=>hk b o (z3z (z3y e)) (z0n _ e),O,fin J a1⟩) hn
 refine z4f key (λ f s' y=> ?_) λ e s' y=> ?_
 ·cases f with
  | done f=>
   obtain ⟨h',tk,J,Z,e,rfl,hk,O,ha⟩:=y;cases e
   show wpAny _ A (load s.heap.objs.size >>=_) _ _ _;refine z4e (wpAny_load O (z4d ?_));show R J.toList _;rw [ha];exact h h' tk hk (z3x (z3y O))
  | again c=>
   refine ⟨y.1,z42 y.2 λ q s2 z=> ?_⟩;obtain ⟨h',tk,J,Z,rfl,rfl,hk,O,ha⟩:=z;show wpAny _ A (load s.heap.objs.size >>=_) _ _ _;refine z4e (wpAny_load O (z4d ?_));show R J.toList _;rw [ha];exact h h' tk hk (z3x (z3y O))
 ·obtain ⟨_,_,_,_,e',_⟩:=y;cases e'
def q9d {T:String} {o:Obj} {J:Array Value} {n:Nat} {l:Addr} {R:List Value ->Shared ->Prop} (hT:T="list"\/ T="tuple") (ho:s.heap.get? l=some o) (hc:o.cls= .type T) (hd:o.data= .seq J n) (hz:J.size<=sizeLine)
  (h:∀ (h':Heap) (tk:Nat),(∀ b o,s.heap.get? b=some o ->h'.get? b=some o) ->s.heap.objs.size<=h'.objs.size ->R J.toList {s with heap:=h',toks:=tk}):wpAny (model prog w) A (collect (.ref l)) R E s:=by
 unfold collect;refine z4e (wpAny_runValue (z38 entry_proto_collect' ?_));show wpAny _ _ (do again (.builtin "list.__iadd__" ⟨[<- newList [],.ref l],[]⟩)) _ _ s;refine z4e (wpAny_newList (z4d ⟨Code.quiet_builtin _ (by decide+kernel),z38 entry_list_iadd' ?_⟩));show wpAny _ _ (Builtin.List.listExtendWith (.ref s.heap.objs.size) (.ref l) (.ref s.heap.objs.size)) _ _ {s with heap:=s.heap.push (seqObj "list" #[] 0)};unfold Builtin.List.listExtendWith;have O:(s.heap.push (seqObj "list" #[] 0)).get? l=some o:=z0n _ ho;refine z4e (wpAny_typeOf (T:=T) ⟨o,O,hc⟩ ?_);have ht:((Value.type T==Value.type "list") || (Value.type T==Value.type "tuple"))=true:=by rcases hT with rfl | rfl <;> rfl
 rw [if_pos (by rw [Bool.or_assoc,ht];simp)];refine z4e (listItems_at O hd ?_);refine z4e (listItems_at (xs:=#[]) (n:=0) (z1b _ rfl) rfl ?_);rw [if_neg (by simp)];refine z4e (listUpdate_at (xs:=#[]) (n:=0) (z1b _ rfl) rfl ?_ (z4a _) (by rw [Array.size_append];simp;lia));refine z4d ?_;show wpAny (model prog w) A (load s.heap.objs.size >>=λ o=>match o.data with
   | .seq xs _=>pure xs.toList
   | _=>unsupported "internal:collect") R E {s with heap:=(s.heap.push (seqObj "list" #[] 0)).update s.heap.objs.size (Obj.mapSeq (· ++J))}
 refine z4e (wpAny_load (get?_update_seq (z1b _ rfl) _) ?_);show wpAny _ _ (pure ((#[]:Array Value)++J).toList) R E _;rw [show ((#[]:Array Value)++J).toList=J.toList by simp];refine z4d (h _ s.toks (λ b o e=> ?_) (by rw [Heap.size_update,size_push'];lia));exact (z0o _ _ (z41 (z3y e))).trans (z0n _ e)
def q4f {x:Value} {vs:xH} {rk:Value ->Int} {Q:xB} (hz:vs.length<=sizeLine)
  (hc:∀ (Z:Around) (E':xB) (R:List Value ->Shared ->Prop),Z.handled=A.handled ->(∀ h' tk,(∀ b o,s.heap.get? b=some o ->h'.get? b=some o) ->s.heap.objs.size<=h'.objs.size ->R vs {s with heap:=h',toks:=tk}) ->wpAny (model prog w) Z (collect x) R E' s)
  (hk:∀ (Z:Around) (s':Shared) (a:Addr),Z.units<=A.units+4 ->s.heap.objs.size<=a ->(∀ b o,s.heap.get? b=some o ->s'.heap.get? b=some o) ->Tim.Keys prog w Z s' a vs rk)
  (h:∀ (out:Array Value) (l:Addr) (n:Nat) (h':Heap) (tk:Nat),Tim.Sorted rk vs out.toList ->(∀ b o,s.heap.get? b=some o ->h'.get? b=some o) ->s.heap.objs.size<=l ->h'.get? l=some (seqObj "list" out n) ->Q (.ref l) {s with heap:=h',toks:=tk}):
  wpAny (model prog w) A (call (.builtin "sorted") [x]) Q E s:=by
 refine Calls.call_function_entry kind_sorted plain_sorted entry_sorted (args_sorted1 _) ?_;unfold Builtin.«sorted»;refine z4e (m:=checkCount "sorted" 1 1 _) (z4d ?_);refine z4e (hc _ _ _ rfl λ h1 tk keep hsz=> ?_);refine z4e (wpAny_newList ?_ hz);have O:(h1.push (seqObj "list" vs.toArray 0)).get? h1.objs.size=some (seqObj "list" vs.toArray 0):=z1b _ rfl;show wpAny _ _ _ _ _ {s with heap:=h1.push (seqObj "list" vs.toArray 0),toks:=tk};have J:∀ b o,s.heap.get? b=some o ->(h1.push (seqObj "list" vs.toArray 0)).get? b=some o:=λ b o e=>z0n _ (keep b o e);refine z4e (z3n (z2n slot_list_sort ⟨_,O,zr⟩ entry_list_sort (Tim.q9z O hz (hk _ _ _ ?_ hsz J) λ out so=>⟨_,zr,?_⟩) (args_list_sort _)))
 ·show A.units+2<=A.units+4
  lia
 ·have a1:∀ b o,s.heap.get? b=some o ->b≠h1.objs.size:=λ b o e=>z3z (z1q (z3y e) hsz);have u1:=z1a (h1.push (seqObj "list" vs.toArray 0)) h1.objs.size (Obj.mapSeq λ _=>(#[]:Array Value));obtain ⟨e1,g1⟩:∃ e1,((h1.push (seqObj "list" vs.toArray 0)).update h1.objs.size (Obj.mapSeq λ _=>(#[]:Array Value))).get? h1.objs.size=some (seqObj "list" #[] e1):=⟨_,get?_update_seq O λ _=>#[]⟩;have g2:=z0n (seqObj "list" #[] 0) (z0n (seqObj "tuple" vs.toArray 0) g1);have g3:=get?_update_seq g2 λ _=>out;have u4:=z1a (((((h1.push (seqObj "list" vs.toArray 0)).update h1.objs.size (Obj.mapSeq λ _=>(#[]:Array Value))).push (seqObj "tuple" vs.toArray 0)).push (seqObj "list" #[] 0))) h1.objs.size (Obj.mapSeq λ _=>out);refine z4d ⟨_,zr,h out h1.objs.size _ _ tk so (λ b o e=> ?_) hsz g3⟩;refine (u4.2 b (a1 b o e)).trans (z0n _ (z0n _ ((u1.2 b (a1 b o e)).trans (J b o e))))
end
end L2
namespace Tim
section
variable {α:Type}
def srt (lt:α ->α ->Bool) (l:List α):List α:=l.mergeSort λ a b=> !lt b a
def q18 (lt:α ->α ->Bool) (l:List α):(srt lt l).Perm l:=List.mergeSort_perm _ _
def q2v {lt:α ->α ->Bool} (h:STO lt) (l:List α):(srt lt l).Pairwise λ a b=>lt b a=false:=by
 have:=List.pairwise_mergeSort (le:=λ a b=> !lt b a) (λ a b c h1 h2=>by
  cases e:lt c a with
  | false=>rfl
  | true=>
   rcases h.nt b e with q | q
   ·rw [q] at h2;cases h2
   ·rw [q] at h1;cases h1) (λ a b=>by
  cases e:lt b a with
  | false=>rfl
  | true=>
   rw [h.asym e];rfl) l
 exact List.Pairwise.imp (λ {a b} (z:(!lt b a)=true)=>by simpa using z) this
def qky {lt:α ->α ->Bool} (h:STO lt) {l k:List α} (p:k.Perm l) (a:k.Pairwise λ a b=>lt b a=false):k=srt lt l:=h.uniq (p.trans (q18 lt l).symm) a (q2v h l)
end
section
open PySem
def q32 {α:Type} {lt:α ->α ->Bool} (h:STO lt) (J:Value ->α) {vs out:xH} (O:Sorted (λ v=>rank lt (vs.map J) (J v)) vs out):out.map J=srt lt (vs.map J):=by
 refine qky h (O.perm.map J) ?_;rw [List.pairwise_map];refine List.Pairwise.imp_of_mem (λ {x y} hx hy hr=> ?_) O.asc;have mx:J x∈vs.map J:=z44.mpr ⟨x,O.perm.mem_iff.mp hx,rfl⟩;have my:J y∈vs.map J:=z44.mpr ⟨y,O.perm.mem_iff.mp hy,rfl⟩;rw [qna (λ a _=>h.irr a) (λ a _ b _ c _=>h.tr a b c) (λ a _ b _ c _ z=>h.nt b z) my mx];exact z2v (by lia)
def qd3 {α:Type} {lt:α ->α ->Bool} (h:STO lt) (J:Value ->α) {vs:xH} {x y:Value} (hx:x∈vs) (hy:y∈vs):lt (J x) (J y)=decide (rank lt (vs.map J) (J x) < rank lt (vs.map J) (J y)):=
 qna (λ a _=>h.irr a) (λ a _ b _ c _=>h.tr a b c) (λ a _ b _ c _ z=>h.nt b z) (z44.mpr ⟨x,hx,rfl⟩) (z44.mpr ⟨y,hy,rfl⟩)
end
end Tim
namespace L2
open PySem PySem.Spec PyProof.Rows PySem.W
def q1b (x y:Str):Bool:=decide (x.cps.toList < y.cps.toList)
def q1y:Tim.STO q1b:=by
 have h:=(Tim.qvw.lex).map (λ z:Str=>z.cps.toList) (λ a b e=>by
  cases a
  cases b
  congr
  exact Array.toList_inj.mp e)
 have e:q1b=λ a b:Str=>Tim.lexB (λ x y:Nat=>decide (x < y)) a.cps.toList b.cps.toList:=by
  funext a b
  exact Tim.qnb _ _
 rw [e];exact h
def q1c (a b:xD):Bool:=Tim.lexB q1b a b
def q2p:Tim.STO q1c:=q1y.lex
def sOf:Value ->Str
 | .str x _=>x
 | _=>""
def q5n {ws:xD}:∀ {us:xH},Vals (ws.map V.str) us ->us.map sOf=ws/\(∀ u∈us,∃ x t,u= .str x t)/\StrsAre us ws:=by
 induction ws with
 | nil=>
  intro us r;cases r
  exact ⟨rfl,(λ _ z=>nomatch z),.nil⟩
 | cons x ws ih=>
  intro us r;cases r with
  | cons r1 rr=>
   obtain ⟨t,rfl⟩:=r1;obtain ⟨a,b,c⟩:=ih rr;refine ⟨by rw [z3k,a];rfl,λ u J=> ?_,.cons x t c⟩;rcases z3m.mp J with rfl | J
   ·exact ⟨x,t,zr⟩
   ·exact b u J
theorem q40:∀ {us:xH},(∀ u∈us,∃ x t,u= .str x t) ->Vals ((us.map sOf).map V.str) us
 | [],_=> .nil
 | u::us,h=>by
  obtain ⟨x,t,rfl⟩:=h u (z1o ..);exact .cons ⟨t,zr⟩ (q40 λ v hv=>h v (z15 _ hv))
section
variable {prog:Program} {w:World} {A:Around} {s:Shared} {a:Addr}
def qas {ws:xD} {vs:xH} (r:Vals (ws.map V.str) vs):Tim.Keys prog w A s a vs (λ v=>Tim.rank q1b (vs.map sOf) (sOf v)):=by
 intro h2 s' _;obtain ⟨e1,e2,e3⟩:=q5n r;refine ⟨oneType',λ E Q q=> ?_,λ x hx y hy E Q q=> ?_⟩
 ·match vs,h2,e3 with
  | v1::v2::vr,_,e3=>
   rw [keyKind_strs e3];exact z4d q
 ·rw [<- Tim.qd3 q1y sOf hx hy] at q;obtain ⟨x',t,rfl⟩:=e2 x hx;obtain ⟨y',u,rfl⟩:=e2 y hy;rw [keyLt'_oneType];exact oneLt_str q
end
section
variable {X:Cx}
def Inv.q33 {xC:xG} {σ:St} {H:Hp} {s:Shared} {xs:List V} {out:Array Value} {l:Addr} {n tk:Nat} {h':Heap} {Q:VK} (I:Inv X xC σ H s) (rv:Vals xs out.toList) (hz:xs.length<=sizeLine)
  (keep:∀ b o,s.heap.get? b=some o ->h'.get? b=some o) (hl:s.heap.objs.size<=l) (hg:h'.get? l=some (seqObj "list" out n)) (q:Q (.ref l) (upd H l (.lst xs))):EP X xC σ Q (.ref l) {s with heap:=h',toks:=tk}:=by
 refine ⟨.ref l,_,I.laid (a:=l) (o:= .lst xs) (t':=tk) keep hl ⟨hz,out.toList,n,rv,?_⟩,zr,q⟩;rw [Array.toArray_toList];exact hg
def qkz (K:xA) (hK:X.K=K:=by rfl):q1v X (.builtin "sorted") (λ xs H Q=>∃ p ws,xs=[.ref p]/\(SqL K H p (ws.map V.str)\/ SqT K H p (ws.map V.str))/\∀ l,H l=none ->Q (.ref l) (upd H l (.lst ((Tim.srt q1b ws).map V.str)))):=by
 subst hK;intro xC s σ H xs us Q I r h;obtain ⟨p,ws,rfl,O,q⟩:=h;obtain ⟨u,rfl,ru⟩:=q2x r;cases ru
 obtain ⟨T,o,its,n,hT,ho,hc,hd,rv,hz⟩:∃ (T:String) (o:Obj) (its:xH) (n:Nat),(T="list"\/ T="tuple")/\s.heap.get? p=some o/\o.cls= .type T/\o.data= .seq its.toArray n/\Vals (ws.map V.str) its/\(ws.map V.str).length<=sizeLine:=by
  rcases O with O | O
  ·obtain ⟨its,rv,⟨o,n,e,c,_,d⟩,z⟩:=I.list O;exact ⟨"list",o,its,n,.inl rfl,e,c,d,rv,z⟩
  ·obtain ⟨its,rv,⟨o,e,c,n,d⟩,z⟩:=I.tuple O;exact ⟨"tuple",o,its,n,.inr rfl,e,c,d,rv,z⟩
 have hl:its.length<=sizeLine:=by rw [<- rv.length];exact hz
 obtain ⟨e1,e2,_⟩:=q5n rv;refine q4f (vs:=its) (rk:=λ v=>Tim.rank q1b (its.map sOf) (sOf v)) hl (λ A' E' R _ k=>q9d hT ho hc hd (by rw [z22];exact hl) (by rw [z1f];exact k)) (λ A' s' a _ _ _=>qas rv) λ out l n h' tk so keep J hg=> ?_;have a1:∀ u∈out.toList,∃ x t,u= .str x t:=λ u hu=>e2 u (so.perm.mem_iff.mp hu);have ed:=Tim.q32 q1y sOf so;rw [e1] at ed;have Z:=q40 a1;rw [ed] at Z;exact I.q33 Z (by rw [z2z,(Tim.q18 q1b ws).length_eq];rw [z2z] at hz;exact hz) keep J hg (q l (I.hok.fresh J))
end
def TupAt (h:Heap) (v:Value) (p:xD):Prop:=∃ (b:Addr) (o:Obj) (its:Array Value) (n:Nat),v= .ref b/\h.get? b=some o/\o.cls= .type "tuple"/\o.data= .seq its n/\Vals (p.map V.str) its.toList
section
variable {prog:Program} {w:World} {A:Around} {E:xB} {s:Shared} {a:Addr}
def ql0 (x y:Str) (t u:Tok):SeqAt.EqAt A s (.str x t) (.str y u) (decide (x=y)):=λ prog w E Q h=>wpAny_eqBool_str h
def qcl (x y:Str) (p q:xD):q1c (x::p) (y::q)=if x=y then q1c p q else q1b x y:=rfl
theorem q9e:∀ (p q:xD) (us vs:xH),Vals (p.map V.str) us ->Vals (q.map V.str) vs ->LexAt A s us vs (q1c p q)
 | [],[],_,_,r1,r2=>by cases r1;cases r2;exact .nn
 | [],_::_,_,_,r1,r2=>by cases r1;cases r2;exact .nc
 | _::_,[],_,_,r1,r2=>by cases r1;cases r2;exact .cn
 | x::p,y::q,_,_,r1,r2=>by
  cases r1 with
  | cons a1 r1=>
   cases r2 with
   | cons a2 r2=>
    obtain ⟨t,rfl⟩:=a1;obtain ⟨u,rfl⟩:=a2;have J:=ql0 (A:=A) (s:=s) x y t u;rw [qcl];by_cases h:x=y
    ·rw [if_pos h];rw [z3b h] at J;exact .eq J (q9e p q _ _ r1 r2)
    ·rw [if_neg h];rw [z2v h] at J;exact .lt J λ prog w E Q k=>(lt_str k:wpAny (model prog w) A (compareOp .Lt _ _) Q E s)
def qoy (c:Bool) (x y:Str) (t u:Tok) {Q:Bool ->Shared ->Prop} (h:Q (q1b x y) s):wpAny (model prog w) A (oneLt' c (.str x t) (.str y u)) Q E s:=by
 cases c with
 | true=>exact oneLt_str h
 | false=>exact kat_one _ _ (lt_str h)
theorem qcm {c fin:Bool} {Q:Bool ->Shared ->Prop}:∀ (p q:xD) (us vs:xH) (i:Nat),Vals (p.map V.str) us ->Vals (q.map V.str) vs ->fin=decide (us.length < vs.length) ->Q (q1c p q) s ->KatLex prog w A c fin Q (us.zip vs) i s
 | [],[],_,_,i,r1,r2,hf,h=>by
  cases r1
  cases r2
  rw [List.zip_nil_left,hf];exact h
 | [],_::_,_,_,i,r1,r2,hf,h=>by
  cases r1
  cases r2
  rw [List.zip_nil_left,hf];refine kat_nil ?_;rw [z3b (by simp)];exact h
 | _::_,[],_,_,i,r1,r2,hf,h=>by
  cases r1
  cases r2
  rw [List.zip_nil_right,hf];refine kat_nil ?_;rw [z2v (by simp)];exact h
 | x::p,y::q,_,_,i,r1,r2,hf,h=>by
  cases r1 with
  | cons a1 r1=>
   cases r2 with
   | cons a2 r2=>
    obtain ⟨t,rfl⟩:=a1;obtain ⟨u,rfl⟩:=a2;rw [z1s];rw [qcl] at h;refine kat_cons (ql0 x y t u prog w _ _ ?_);by_cases e:x=y
    ·rw [if_pos e] at h;rw [z3b e];exact kat_yes (qcm p q _ _ (i+1) r1 r2 (by rw [hf];simp) h)
    ·rw [if_neg e] at h;rw [z2v e];exact kat_no (qoy _ x y t u h)
def qoz {x y:Value} {p q:xD} (hx:TupAt s.heap x p) (hy:TupAt s.heap y q) (c:Bool):Tim.KLt prog w A s (tuples' c) x y (q1c p q):=by
 obtain ⟨b,o,its,n,rfl,e1,_,d1,r1⟩:=hx;obtain ⟨b',o',its',n',rfl,e2,_,d2,r2⟩:=hy;intro E Q k;exact kat_lt e1 d1 e2 d2 (qcm p q _ _ 0 r1 r2 (by rw [z18,z18]) k)
def qws {x y:Value} {p q:xD} (hx:TupAt s.heap x p) (hy:TupAt s.heap y q) (hu:A.units < cLine):LtAt A s x y (q1c p q):=by
 obtain ⟨b,o,its,n,rfl,e1,c1,d1,r1⟩:=hx;obtain ⟨b',o',its',n',rfl,e2,c2,d2,r2⟩:=hy;exact qta ⟨o,e1,c1,n,d1⟩ ⟨o',e2,c2,n',d2⟩ (q9e p q _ _ r1 r2) hu
def qmq {x y:Value} {p q:xD} (hx:TupAt s.heap x p) (hy:TupAt s.heap y q) (hu:A.units < cLine):Tim.KLt prog w A s general' x y (q1c p q):=by
 intro E Q k;exact kat_one x y (qws hx hy hu prog w E _ k)
def qwt {x y:Value} {p q:xD} (hx:TupAt s.heap x p) (hy:TupAt s.heap y q) (hu:A.units < cLine):Tim.KLt prog w A s oneType' x y (q1c p q):=by
 obtain ⟨b,⟨cls,dd,data,sl⟩,its,n,rfl,e1,c1,d1,r1⟩:=hx;obtain ⟨b',⟨a1,O,J,Z⟩,its',n',rfl,e2,c2,d2,r2⟩:=hy;simp only at c1 d1 c2 d2;subst c1 d1 c2 d2;intro E Q k;rw [keyLt'_oneType,oneLt'_eq];simp only [if_true];refine z4e (wpAny_cRoomFor hu ?_);refine z4e (wpAny_callSpecialIfBound?_slot ⟨_,e1,zr⟩ PySem.F.slot_tuple_lt (call_meets PySem.F.slot_tuple_lt ⟨_,e1,zr⟩ PySem.F.entry_tuple_lt (PySem.F.args_tuple_lt_2 _ _) (qar b b' its its' n n' dd O sl Z (q1c p q)) ⟨e1,e2,q9e p q _ _ r1 r2,?_⟩));exact z23 k
def TupAt.keep {h h':Heap} {v:Value} {p:xD} (x:TupAt h v p) (k:∀ b o,v= .ref b ->h.get? b=some o ->h'.get? b=some o):TupAt h' v p:=
 let ⟨b,o,its,n,e,g,r⟩:=x
 ⟨b,o,its,n,e,k b o e g,r⟩
theorem qcn:∀ (vs:xH) (ps:xF),Paired (TupAt s.heap) vs ps ->∃ fs:List (Option Value),(∀ (M:Model) (A:Around) (E:xB) (Q:List (Option Value) ->Shared ->Prop),Q fs s ->wpAny M A (vs.mapM firstOfTuple') Q E s)/\fs.length=vs.length/\
  ∀ f∈fs,∀ v,f=some v ->∃ x t,v= .str x t
 | [],[],_=>⟨[],λ M A E Q q=>by rw [List.mapM_nil];exact z4d q,rfl,λ _ z=>nomatch z⟩
 | v::vs,p::ps,.cons h hr=>by
  obtain ⟨fs,g1,g2,g3⟩:=qcn vs ps hr;obtain ⟨b,o,its,n,rfl,ho,hc,hd,r⟩:=h;refine ⟨its[0]? ::fs,λ M A E Q q=> ?_,by rw [z2h,g2,z2h],λ f hf v e=> ?_⟩
  ·rw [List.mapM_cons];refine z4e ?_;rw [kas_first_eq];refine z4e (Looks.here (show Looks M s.heap (typeOf (.ref b)) o.cls from (Looks.ld ho).andThen .now) ?_);rw [hc,if_neg (by decide)];refine z4e (listItems_at ho hd (z4d ?_));exact z4e (g1 M A E (λ bs s'=>wpAny M A (pure (its[0]? ::bs)) Q E s') (z4d q))
  ·rcases z3m.mp hf with rfl | hf
   ·obtain ⟨_,h2,_⟩:=q5n r;exact h2 v (by rw [<- z0w] at e;exact z17 e)
   ·exact g3 f hf v e
theorem qco:∀ (vs:xH),(∀ v∈vs,∃ x t,v= .str x t) ->vs.mapM typeOf=pure (vs.map λ _=>Value.type "str")
 | [],_=>by simp
 | v::vs,h=>by
  obtain ⟨x,t,rfl⟩:=h v (z1o ..);rw [List.mapM_cons,qco vs λ u hu=>h u (z15 _ hu)];show (pure (Value.type "str") >>=λ b=>pure _ >>=λ bs=>pure (b::bs))=_;simp
def qr0 {vs:xH} {ps:xF} (h:Paired (TupAt s.heap) vs ps) (h2:2<=vs.length):∃ kd:SortKind,(kd=tuples' true\/ kd=general'\/ kd=oneType')/\∀ (M:Model) (A:Around) (E:xB) (Q:SortKind ->Shared ->Prop),Q kd s ->wpAny M A (keyKind' vs.toArray) Q E s:=by
 obtain ⟨fs,g1,g2,g3⟩:=qcn vs ps h;by_cases J:(fs.toArray.all λ x=>x.isSome)=true
 ·refine ⟨tuples' true,.inl rfl,λ M A E Q q=> ?_⟩;rw [kat_kind_eq,z2a,map_eq_pure_bind];refine z4e (z4e (g1 M A E _ (z4d ?_)));rw [if_pos J];refine z4e (z4c ?_);obtain ⟨f1,fr,e⟩:∃ f1 fr,fs=f1::fr:=by
   cases e:fs with
   | nil=>rw [e] at g2;simp at g2;lia
   | cons f1 fr=>exact ⟨f1,fr,rfl⟩
  have hs:∀ v∈fs.filterMap id,∃ x t,v= .str x t:=λ v Z=>by
   obtain ⟨f,hf,e⟩:=List.mem_filterMap.mp Z;exact g3 f hf v e
  have a1:fs.toArray.filterMap id=(fs.filterMap id).toArray:=by simp
  rw [a1,oneTypeOnly'_eq,z2a,qco _ hs];simp only [map_pure,pure_bind];have h0:∃ v O,fs.filterMap id=v::O:=by
   rw [e] at J ⊢;cases f1 with
   | none=>simp at J
   | some v=>exact ⟨v,fr.filterMap id,rfl⟩
  obtain ⟨v,O,ev⟩:=h0;rw [ev];have ha:((List.map (λ _=>Value.type "str") (v::O)).toArray.all λ x=>x==Value.type "str")=true:=by
   simp only [List.all_toArray,z45,z2m];intro _ _;rfl
  have hz:(List.map (λ _=>Value.type "str") (v::O)).toArray[0]? =some (Value.type "str"):=by simp
  rw [hz];simp only [ha,if_true,pure_bind];exact z4d q
 ·by_cases hf:(fs.toArray[0]?.bind id).isSome=true
  ·refine ⟨general',.inr (.inl rfl),λ M A E Q q=> ?_⟩;rw [kat_kind_eq,z2a,map_eq_pure_bind];refine z4e (z4e (g1 M A E _ (z4d ?_)));rw [if_neg J,if_pos hf];exact z4d q
  ·refine ⟨oneType',.inr (.inr rfl),λ M A E Q q=> ?_⟩;rw [kat_kind_eq,z2a,map_eq_pure_bind];refine z4e (z4e (g1 M A E _ (z4d ?_)));rw [if_neg J,if_neg hf,oneTypeOnly'_eq,z2a,map_eq_pure_bind];have a2:∀ v∈vs,Looks M s.heap (typeOf v) (.type "tuple"):=λ v Z=>by
    obtain ⟨p,b,o,its,n,rfl,ho,hc,_⟩:∃ p,TupAt s.heap v p:=by
     clear g1 g2 g3 J hf h2 q
     induction h with
     | nil=>cases Z
     | cons a r ih=>
      rcases z3m.mp Z with e | Z
      ·rw [e];exact ⟨_,a⟩
      ·exact ih Z
    rw [<- hc];exact (Looks.ld ho).andThen .now
   refine z4e (z4e (z4e (kas_mapM (r:=Value.type "tuple") _ (λ v Z Q' hq=>(a2 v Z).here hq) (z4d ?_))));obtain ⟨v,O,ev⟩:∃ v O,vs=v::O:=by
    cases e:vs with
    | nil=>rw [e] at h2;simp at h2
    | cons v O=>exact ⟨v,O,rfl⟩
   rw [ev];have ha:((List.map (λ _=>Value.type "tuple") (v::O)).toArray.all λ x=>x==Value.type "tuple")=true:=by
    simp only [List.all_toArray,z45,z2m];intro _ _;rfl
   have hz:(List.map (λ _=>Value.type "tuple") (v::O)).toArray[0]? =some (Value.type "tuple"):=by simp
   rw [hz];simp only [ha,if_true];exact z4d (z4d q)
theorem q4g {α β:Type} {F:α ->β ->Prop} {f:α ->β}:∀ {l:List α} {k:List β},Paired F l k ->(∀ x y,F x y ->f x=y) ->l.map f=k/\∀ x∈l,F x (f x)
 | _,_,.nil,_=>⟨rfl,λ _ z=>nomatch z⟩
 | _,_,.cons a r,h=>by
  obtain ⟨e,m⟩:=q4g r h;have e1:=h _ _ a;refine ⟨by rw [z3k,e,e1],λ x hx=> ?_⟩;rcases z3m.mp hx with rfl | hx
  ·rw [e1];exact a
  ·exact m x hx
def qhv {vs:xH} {ps:xF} (J:Value ->List Str) (h:Paired (λ v p=>TupAt s.heap v p/\J v=p) vs ps) (ha:s.heap.objs.size<=a) {s1:Shared} (hk:∀ b o,s.heap.get? b=some o ->s1.heap.get? b=some o) (hu:A.units < cLine):
  Tim.Keys prog w A s1 a vs (λ v=>Tim.rank q1c (vs.map J) (J v)):=by
 intro h2 s' keep;have up:∀ v p,TupAt s.heap v p ->TupAt s'.heap v p:=λ v p x=>x.keep λ b o _ e=>keep b o (z3z (z1q (z3y e) ha)) (hk b o e);obtain ⟨_,hm⟩:=q4g h λ _ _ z=>z.2;obtain ⟨kd,Z,O⟩:=qr0 (s:=s') (Paired.mapP h λ v p z=>up v p z.1) h2;refine ⟨kd,λ E Q q=>O _ A E Q q,λ x hx y hy=> ?_⟩;rw [<- Tim.qd3 q2p J hx hy];have tx:=up x _ (hm x hx).1;have ty:=up y _ (hm y hy).1;rcases Z with rfl | rfl | rfl
 ·exact qoz tx ty true
 ·exact qmq tx ty hu
 ·exact qwt tx ty hu
end
def q8s (p:xD):(p.map (Sum.inr:Str ->Key)).map kV=p.map V.str:=by
 rw [z46];rfl
def decT (H:Hp):Value ->List Str
 | .ref a=>match H a with
  | some (.tup xs)=>xs.map λ x=>match x with | .str z=>z | _=>""
  | _=>[]
 | _=>[]
def qbx {H:Hp} {a:Addr} {p:xD} (h:H a=some (.tup (p.map V.str))):decT H (.ref a)=p:=by
 simp only [decT,h];rw [z46];exact (z1e λ _ _=>rfl).trans (z4b p)
section
variable {X:Cx}
def qjy (H:Hp) (vs:xH) (ps:xF):Prop:=Paired (λ v p=>∃ b,v=Value.ref b/\H b=some (.tup (p.map V.str))) vs ps
def ql1 (hu:X.A.units+64 < cLine) (hc:X.calm=true) (K:xA) (hK:X.K=K:=by rfl):q1v X (.builtin "sorted") (λ xs H Q=>∃ (d:Addr) (kvs:List (List Str×V)),xs=[.ref d]/\H d=some (.dT (kvs.map λ kv=>(kv.1.map Sum.inr,kv.2)))/\
  ∀ l zs,H l=none ->Paired (λ x p=>∃ b,x=V.ref b/\H b=some (.tup (p.map V.str))) zs (Tim.srt q1c (kvs.map (·.1))) ->Q (.ref l) (upd H l (.lst zs))):=by
 subst hK;intro xC s σ H xs us Q I r h;obtain ⟨d,kvs,rfl,hd,q⟩:=h;obtain ⟨u,rfl,ru⟩:=q2x r;cases ru
 obtain ⟨hz,a8,es0,O,o,es,ep,ho,hx,a1,a4,a7⟩:=I.hok d _ hd;have a3:es.size=kvs.length:=by
  rw [<- z18,a4,z2z,<- O.length,z2z]
 have J:qjy H (es.toList.map (·.key)) (kvs.map (·.1)):=by
  rw [a4,z46];clear hz a4 a1 a3 ho q hd a7;unfold qjy;revert O;generalize hk:(kvs.map λ kv=>(kv.1.map (Sum.inr:Str ->Key),kv.2))=ks;intro O
  induction O generalizing kvs with
  | nil=>
   have:kvs=[]:=by simpa using hk
   subst this;exact .nil
  | cons a rr ih=>
   cases kvs with
   | nil=>simp at hk
   | cons kv kvs=>
    rw [z3k,z2u] at hk;obtain ⟨rfl,hk⟩:=hk;refine .cons ⟨_,zr,?_⟩ (ih kvs hk);obtain ⟨_,a2,_⟩:=a;rw [q8s] at a2;exact a2
 have a5:∀ v p,(∃ b,v=Value.ref b/\H b=some (.tup (p.map V.str))) ->TupAt s.heap v p:=λ v p ⟨b,e,hb⟩=>by
  obtain ⟨_,its,rv,o,e1,c,n,dd⟩:=I.hok b _ hb;exact ⟨b,o,its.toArray,n,e,e1,c,dd,by rw [z1f];exact rv⟩
 have Z:Paired (λ v p=>TupAt s.heap v p/\decT H v=p) (es.toList.map (·.key)) (kvs.map (·.1)):=Paired.mapP J λ v p z=>⟨a5 v p z,by
  obtain ⟨b,rfl,hb⟩:=z;exact qbx hb⟩
 have ev:(es.toList.map (·.key)).map (decT H)=kvs.map (·.1):=(q4g Z λ _ _ z=>z.2).1;have mem:∀ v∈es.toList.map (·.key),∃ b,v=Value.ref b/\H b=some (.tup ((decT H v).map V.str)):=(q4g (f:=decT H) J λ v p ⟨b,e,hb⟩=>by
  rw [e];exact qbx hb).2
 have hl:(es.toList.map (·.key)).length<=sizeLine:=by
  rw [z2z,z18,a3];rw [z2z] at hz;exact hz
 refine q4f (vs:=es.toList.map (·.key)) (rk:=λ v=>Tim.rank q1c ((es.toList.map (·.key)).map (decT H)) (decT H v)) hl
  (λ A' E' R hh k=>q8h (hh.trans (I.ok.hd hc)) a8 ⟨o,ho,hx,a1⟩ (by rw [z2z,z18] at hl;exact hl) k)
  (λ A' s' a hu' ha keep=>qhv (s:=s) (decT H) Z ha keep (by lia)) λ out l n h' tk so keep a6 hg=> ?_
 have ed:=Tim.q32 q2p (decT H) so;rw [ev] at ed;have mo:∀ v∈out.toList,∃ b,v=Value.ref b/\H b=some (.tup ((decT H v).map V.str)):=λ v hv=>mem v (so.perm.mem_iff.mp hv);obtain ⟨zs,rv,hp⟩:∃ zs:List V,Vals zs out.toList/\Paired (λ x p=>∃ b,x=V.ref b/\H b=some (.tup (p.map V.str))) zs (out.toList.map (decT H)):=by
  revert mo;generalize out.toList=os;intro mo
  induction os with
  | nil=>exact ⟨[],.nil,.nil⟩
  | cons v os ih=>
   obtain ⟨zs,r1,r2⟩:=ih λ u hu=>mo u (z15 _ hu);obtain ⟨b,e,hb⟩:=mo v (z1o ..);exact ⟨.ref b::zs,.cons e r1,.cons ⟨b,zr,hb⟩ r2⟩
 rw [ed] at hp;refine I.q33 rv ?_ keep a6 hg (q l zs (I.hok.fresh a6) hp);rw [rv.length,so.perm.length_eq];exact hl
end
end L2
namespace L2
open PySem PySem.Spec PyProof.Rows
section
variable {X:Cx}
def qwu (K:xA) {es:List Expr} {k:Nat} {t:TGs} {n:Nat} {pos:Pos} (hc:X.calm=true) (h:PGs X es t) (hK:X.K=K:=by rfl)
  (hn:(assignEach es X.env).length=n:=by rfl) (J:(assignEach es X.env).findIdx? (·.1)=none:=by rfl):PG X (.Tuple es k pos) (gTup K n t):=by
 subst hK;exact qkg hc h hn J
end
section
variable {X:Cx} {e:Expr} {lo hi:Option Expr} {se:Expr} {te:TE} {tl th ts:TO} {p2 pos:Pos}
end
def qnm {k:Int} {n:Nat} (h1:0<=k) (h2:k < 2^n):Builtin.Int.intBits k<=n+1:=by
  unfold Builtin.Int.intBits;split
  · exact z4a _
  · have hn:k.natAbs < 2^n:=by
      have:((k.natAbs:Nat):Int) < ((2^n:Nat):Int):=by
        rw [Int.natAbs_of_nonneg h1]
        push_cast
        exact h2
      exact Int.ofNat_lt.mp this
    have:k.natAbs.log2<=n:=by
      rcases Nat.eq_zero_or_pos k.natAbs with h0 | hp
      · rw [h0]
        show 0<=n;exact z4a _
      · exact z3x ((Nat.log2_lt (z41 hp)).mpr hn)
    lia
def qvg (i j:Int):Prop:=(0<=i/\i < 2^600)/\(0<=j/\j < 2^600)
section
variable {X:Cx}
def qnn:OpR X (binaryOp .Mult) (rI qvg λ i j=> .int (i*j)):=opI λ _ _ _ _ _ _ _ J q=>mul_int q (IntMulOk.of_bits (z40 (qnm J.1.1 J.1.2) (by decide)) (z40 (qnm J.2.1 J.2.2) (by decide)))
def q10t (K:xA):R2:=λ x y H Q=>∃ a b xs ys,x= .ref a/\y= .ref b/\SqT K H a xs/\SqT K H b ys/\xs.length+ys.length<=sizeLine/\∀ p H',Same H H' ->SqT K H' p (xs++ys) ->Q (.ref p) H'
def qwv (K:xA) (hK:X.K=K:=by rfl):OpR X (binaryOp .Add) (q10t K):=by
 subst hK;intro xC s σ H x y v u Q I rx ry h;obtain ⟨a,b,xs,ys,rfl,rfl,ha,hb,hz,q⟩:=h;by_cases hx:xs=[]
 ·subst hx;cases rx
  cases ry
  obtain ⟨its,r1,p1,_⟩:=I.tuple ha;obtain ⟨a1,r2,p2,_⟩:=I.tuple hb;have e0:its=[]:=r1.qbr.mpr rfl;subst e0;obtain ⟨⟨cls,dd,data,sl⟩,ho,hc,n,hd⟩:=id p1;obtain ⟨⟨a5,a3,a2,a4⟩,Z,J,n2,O⟩:=id p2;simp only at hc hd J O;subst hc hd J O;exact concat_meets ⟨_,ho,zr⟩ ⟨_,Z,zr⟩ noFill_tuple_add seq_tuple_add PySem.F.slot_tuple_add PySem.F.entry_tuple_add (PySem.F.args_tuple_add_2 _ _)
   (tuple_addW0 a b #[] a1.toArray n n2 dd a3 sl a4 rfl) ⟨ho,Z,⟨.ref b,H,I,rfl,q b H (Same.refl _) hb⟩⟩
 ·refine qwb xC s σ H _ _ v u Q I rx ry ⟨a,b,xs,ys,zr,zr,ha,hb,hx,hz,λ e=> ?_,λ _ p hp=>q p _ (qf hp) (SqT.of qb)⟩;subst e;exact q a H (Same.refl _) (by rw [z30];exact ha)
end
def qr1 (bs:List Bool):(List.range bs.length).any (λ i=>(bs[i]?).getD true)=bs.any id:=by
 rw [z2y,z2o,z2o]
 constructor
 ·rintro ⟨i,hi,h⟩;have J:=z3c.mp hi;rw [z0c J] at h;exact ⟨_,z2j J,h⟩
 ·rintro ⟨b,hb,h⟩;obtain ⟨i,hi,e⟩:=z11.mp hb;refine ⟨i,z3c.mpr hi,?_⟩;rw [z0c hi,e];exact h
section
variable {X:Cx}
def qhw (hc:X.calm=true) (K:xA) (hK:X.K=K:=by rfl):q1v X (.builtin "any") (λ xs H Q=>∃ (p:Addr) (bs:List Bool),xs=[.ref p]/\SqL K H p (bs.map V.bl)/\Q (.bl (bs.any id)) H):=by
 subst hK;intro xC s σ H xs us Q I r h;obtain ⟨p,bs,rfl,hp,q⟩:=h;obtain ⟨u,rfl,ru⟩:=q2x r;cases ru
 obtain ⟨its,rv,pl,hz⟩:=I.list hp;have hl:its.toArray.size=bs.length:=by
  have:=rv.length;rw [z2z] at this;rw [z22];exact this.symm
 have hh:X.A.in1.handled=none:=I.ok.hd hc;have O:p≠s.heap.objs.size:=λ e=>by
  obtain ⟨o,n,e1,_⟩:=pl;exact absurd (z3y e1) (by rw [e];exact z3o _)
 refine call_any_walk (z24 pl.isList ?_);refine ⟨s.heap.objs.size,_,_,_,_,_,λ i=>(bs[i]?).getD true,zr,Walks.list hh _ p O its.toArray,⟨⟨_,z1b _ rfl,zr,zr⟩,pl.isList.at λ o e=>z0n _ e⟩,?_,λ h' tk kk=> ?_⟩
 ·intro i v s' Q' E' hv hq;have Z:its[i]? =some v:=by simpa using hv
  obtain ⟨b,e,rfl⟩:=qnk rv Z;have J:Q' ((bs[i]?).getD true) s':=hq;rw [e] at J;exact z23 J
 ·rw [hl,qr1];exact ⟨.bl _,H,I.kept λ b o e=>kk b o (by simp;exact z3z (z3y e)) (z0n _ e),rfl,q⟩
def qp0 {P:Program} {w:World} {es:List DictEntry} {vs:List (Key×Value)} (p:Pairs (q17 P w) es vs):∀ {kvs:List (Key×V)} {ws:xD},KV kvs vs ->kvs.map (·.1)=ws.map Sum.inr ->Vals (ws.map V.str) (es.map (·.key)):=by
 induction p with
 | nil=>
  intro kvs ws r h;cases r
  have:ws=[]:=by simpa using h.symm
  subst this;exact .nil
 | cons a b c ih=>
  intro kvs ws r h;cases r with
  | cons d f=>
   cases ws with
   | nil=>simp at h
   | cons x ws=>
    rw [z3k,z3k,z2u] at h;rw [<- d.1,h.1] at a;refine .cons ?_ (ih f h.2);rcases q1u (show q85 (Sum.inr x) _=true from a) with ⟨i,t,e1,_⟩ | ⟨x',t,e1,e2⟩
    ·cases e1
    ·cases e1
     exact ⟨t,e2⟩
def qiq (hc:X.calm=true) (K:xA) (hK:X.K=K:=by rfl):q1v X (.builtin "sorted") (λ xs H Q=>∃ (d:Addr) (kvs:List (Key×V)) (ws:xD),xs=[.ref d]/\H d=some (.dK kvs)/\kvs.map (·.1)=ws.map Sum.inr/\
  ∀ l,H l=none ->Q (.ref l) (upd H l (.lst ((Tim.srt q1b ws).map V.str)))):=by
 subst hK;intro xC s σ H xs us Q I r h;obtain ⟨d,kvs,ws,rfl,hd,hk,q⟩:=h;obtain ⟨u,rfl,ru⟩:=q2x r;cases ru
 obtain ⟨hz,a2,vs,a4,o,es,ep,ho,hx,J,_,a1,hnd⟩:=I.hok d _ hd;have rv:Vals (ws.map V.str) (es.toList.map (·.key)):=qp0 a1 a4 hk;have wl:ws.length=kvs.length:=by
  have:=congrArg List.length hk;rw [z2z,z2z] at this;exact this.symm
 have hl:(es.toList.map (·.key)).length<=sizeLine:=by
  rw [<- rv.length,z2z,wl];exact hz
 obtain ⟨e1,e2,_⟩:=q5n rv;refine q4f (vs:=es.toList.map (·.key)) (rk:=λ v=>Tim.rank q1b ((es.toList.map (·.key)).map sOf) (sOf v)) hl (λ A' E' R hh k=>q8h (hh.trans (I.ok.hd hc)) a2 ⟨o,ho,hx,J⟩ (by rw [z2z,z18] at hl;exact hl) k)
  (λ A' s' a _ _ _=>qas rv) λ out l n h' tk so keep O hg=> ?_
 have a3:∀ u∈out.toList,∃ x t,u= .str x t:=λ u hu=>e2 u (so.perm.mem_iff.mp hu);have ed:=Tim.q32 q1y sOf so;rw [e1] at ed;have Z:=q40 a3;rw [ed] at Z;exact I.q33 Z (by rw [z2z,(Tim.q18 q1b ws).length_eq,wl];exact hz) keep O hg (q l (I.hok.fresh O))
end
section
variable {prog:Program} {w:World} {A:Around} {R:Result ->Shared ->Prop} {I:Addr} {fp wr:List Addr} {n:Nat} {P:Nat ->Value ->Prop} {St:Nat ->Heap ->Prop}
end
section
variable {X:Cx} {e d:Expr} {t tk:TA} {p pos kpos:Pos}
end
def qhx:entryFor table "dict.update.loop"=some Builtin.«dict.update.loop»:=entryFor_of_tree (by kernel_rfl)
def q8a:plainId "dict.update.loop"=true:=by decide+kernel
def qg2:typeLookup (.type "list") "keys"=pure none:=by rw [typeLookup_type,builtinLookup_eq_fast];kernel_rfl
section
variable {prog:Program} {w:World} {A:Around} {E:xB} {s:Shared}
def qww {a:Addr} {o:Obj} {xs:Array Value} {k:Nat} {Q:Option Value ->Shared ->Prop} (hx:s.heap.get? a=some o) (hc:o.cls= .type "list") (J:o.data= .seq xs k) (hd:o.dict=none) (hA:A.handled=none)
  (h:∀ h' tk,(∀ b o,s.heap.get? b=some o ->h'.get? b=some o) ->Q none {s with heap:=h',toks:=tk}):wpAny (model prog w) A (getAttr? (.ref a) "keys") Q E s:=by
 obtain ⟨c,dct,dat,sl⟩:=o;simp only at hc J hd;subst hc J hd;obtain ⟨hp,g,d,tk,os⟩:=s;have hT:∀ O,(⟨hp,g,d,O,os⟩:Shared).TypeIs (.ref a) "list":=λ _=>⟨_,hx,rfl⟩;have f1:=sub_AttributeError;have f3:=PySem.F.slot_list_getattribute.lookup;have f4:=PySem.F.slot_list_getattribute.bind (.ref a);have f5:=am_list_getattr_none;unfold getAttr? getAttrBy? getAttrBy
 repeat (any_goals (first | assumption | exact hT _ | ((with_reducible show wpAny _ _ (call (Value.builtin "list.__getattribute__") _ _) _ _ _);refine call_meets PySem.F.slot_list_getattribute (hT _) am_entry_list_getattribute (PySem.F.args_list_getattribute_2 _ _) (meets_getattribute_miss_list a xs k sl "keys" _ qg2 (by decide+kernel) (by show 4+100<=sizeLine;decide)) ⟨hx,hA,λ h' O e Z=> ?_⟩) | wp_step))
 obtain ⟨t',u',he⟩:=Z.there;show wpAny _ _ (getattributeRaised _ _ _ _ _ _ _) _ _ _;unfold getattributeRaised
 repeat (any_goals (first | assumption | wp_step))
 exact h h' O Z.of.keeps
end
def qem (f:Nat ->Str×Value):Nat ->Nat ->List (Key×Value) ->List (Key×Value)
 | 0,_,kvs=>kvs
 | k+1,i,kvs=>qem f k (i+1) (stored kvs (Sum.inr (f i).1) (f i).2)
def qp1 {kvs:List (Key×Value)} {k:Key} {v:Value}:(stored kvs k v).length<=kvs.length+1:=by
 unfold stored;split
 ·rw [z2z]
  lia
 ·rw [z1n];exact z47 _
section
variable {prog:Program} {w:World} {A:Around} {R:Result ->Shared ->Prop} {I:Addr} {fp wr:List Addr} {n:Nat} {P:Nat ->Value ->Prop} {St:Nat ->Heap ->Prop}
theorem ql2 {h0:Heap} (W:Walks prog w A.in1 I fp wr n P St) (d:Addr) (O:d∉fp) (a3:h0.get? d=none) (a2:∀ b∈wr,h0.get? b=none) (hn:n<=sizeLine) (f:Nat ->Str×Value) (hf:∀ i v,P i v ->∃ q t,v= .ref q/\IsTup h0 q #[.str (f i).1 t,(f i).2]):
  ∀ (k i:Nat) (s:Shared) (kvs:List (Key×Value)) (j:Int) (ti:Tok),i+k=n ->St i s.heap ->s.heap.DictOf (q17 prog w) d kvs ->kvs.length<=i ->(∀ b o,h0.get? b=some o ->s.heap.get? b=some o) ->
  (∀ h' tk,h'.DictOf (q17 prog w) d (qem f k i kvs) ->(∀ b o,h0.get? b=some o ->h'.get? b=some o) ->R (.ok (.ret .none)) {s with heap:=h',toks:=tk}) ->
  codeAny (model prog w) A (.builtin "dict.update.loop" ⟨[.ref d,.ref I,.int j ti,.none],[]⟩) R s
 | 0,i,s,kvs,j,ti,hk,a1,hm,hl,kp,hR=>by
  have hi:i=n:=by lia
  subst hi;have Z:d∉wr:=λ h=>O (W.sub _ h);refine z38 qhx ?_;rw [Around.under_plainId q8a _];refine z4e (m:=pyNext (.ref I)) (W.done s _ _ a1 λ h' tk J=> ?_);show wpAny _ _ (Builtin.Dict.addKeywords d [] >>=λ _=>ret .none) _ _ _;obtain ⟨o,es,ep,ho,r⟩:=hm;exact z4e (z4d (z4d (hR h' tk ⟨o,es,ep,J d o Z ho,r⟩ λ b o e=>J b o (λ hb=>by rw [a2 b hb] at e;cases e) (kp b o e))))
 | k+1,i,s,kvs,j,ti,hk,a1,hm,hl,kp,hR=>by
  have a9:i < n:=by lia
  have Z:d∉wr:=λ h=>O (W.sub _ h);refine z38 qhx ?_;rw [Around.under_plainId q8a _];refine z4e (m:=pyNext (.ref I)) (W.item i s _ _ a9 a1 λ v h' tk hP a6 J=> ?_);obtain ⟨q,t,rfl,oq,hq,hc,nq,a8⟩:=hf i v hP;have a7:∀ b o,h0.get? b=some o ->h'.get? b=some o:=λ b o e=>J b o (λ hb=>by rw [a2 b hb] at e;cases e) (kp b o e);have b2:h'.DictOf (q17 prog w) d kvs:=by
   obtain ⟨o,es,ep,ho,r⟩:=hm;exact ⟨o,es,ep,J d o Z ho,r⟩
  have a4:=a7 q _ hq;refine z4e (z3n (z4e (wpAny_tryCatch ?_)));unfold Builtin.Dict.pairItems;refine z4e (wpAny_typeOf (T:="tuple") ⟨oq,a4,hc⟩ ?_);rw [if_pos (by decide)];refine z4e (wpAny_seqItems a4 a8 (z4d ?_));show wpAny _ _ (holding [.str (f i).1 t,(f i).2] (dictSet d (.str (f i).1 t) (f i).2)) _ _ _;refine z3n (wpAny_dictSet_pairs (knd:=q17 prog w) (k:=Sum.inr (f i).1) (qcg _ _ _ _) b2 (λ h2 b3 a5=> ?_) (by lia));have b5:∀ b o,h0.get? b=some o ->h2.get? b=some o:=λ b o e=>(a5.2 b (λ z=>by rw [z,a3] at e;cases e)).trans (a7 b o e);refine z4d ⟨plainId_quiet q8a _,ql2 W d O a3 a2 hn f hf k (i+1) _ _ (j+1) _ (by lia) (W.frame _ _ _ a6 λ b hb o e=>(a5.2 b (λ z=>O (z ▸ hb))).trans e) b3 (z40 qp1 (z2p hl)) b5 λ h3 b7 b4 b6=> ?_⟩;exact hR h3 b7 b4 b6
end
def q3u (ps:List (Str×V)) (m:List (Key×V)):List (Key×V):=ps.foldl (λ m kv=>putK m (Sum.inr kv.1) kv.2) m
theorem qat:∀ (ps:List (Str×V)) (m:List (Key×V)),(q3u ps m).length<=m.length+ps.length
 | [],m=>z47 _
 | p::ps,m=>by
  have h:(putK m (Sum.inr p.1) p.2).length<=m.length+1:=by
   unfold putK;split
   ·rw [z2z]
    lia
   ·rw [z1n];exact z47 _
  have:=qat ps (putK m (Sum.inr p.1) p.2);show (q3u ps (putK m (Sum.inr p.1) p.2)).length<=m.length+(ps.length+1)
  lia
def PRel (p:Str×V) (q:Str×Value):Prop:=p.1=q.1/\RelV p.2 q.2
theorem qno:∀ {ps:List (Str×V)} {us:List (Str×Value)} (_:Paired PRel ps us) (i:Nat) (hi:i < ps.length),PRel ps[i] (us.getD i ("",.none))
 | _,_,.nil,i,hi=>absurd hi (Nat.not_lt_zero _)
 | _,_,.cons a b,0,hi=>a
 | _,_,.cons a b,i+1,hi=>qno b i (Nat.lt_of_succ_lt_succ hi)
theorem qen {ps:List (Str×V)} {us:List (Str×Value)} (r:Paired PRel ps us):∀ (k i:Nat) (m:List (Key×V)) (vs:List (Key×Value)),i+k=us.length ->KV m vs ->KV (q3u (ps.drop i) m) (qem (λ i=>us.getD i ("",.none)) k i vs)
 | 0,i,m,vs,h,J=>by
  have hl:=Paired.length r;rw [List.drop_eq_nil_of_le (by lia)];exact J
 | k+1,i,m,vs,h,J=>by
  have hl:=Paired.length r;have hi:i < ps.length:=by lia
  rw [z09 hi];show KV (q3u (ps.drop (i+1)) (putK m (Sum.inr ps[i].1) ps[i].2)) (qem _ k (i+1) (stored vs (Sum.inr (us.getD i ("",.none)).1) (us.getD i ("",.none)).2));have O:=qno r i hi;rw [<- O.1];exact qen r k (i+1) _ _ (by lia) (J.put _ O.2)
section
variable {X:Cx}
def qp2 (K:xA) (H:Hp) (y:V) (kv:Str×V):Prop:=∃ q,y=V.ref q/\SqT K H q [.str kv.1,kv.2]
def qr2 {xC:xG} {σ:St} {H:Hp} {s:Shared} (I:Inv X xC σ H s) {ys:List V} {ps:List (Str×V)} (h:Paired (qp2 X.K H) ys ps):∀ {its:xH},Vals ys its ->∃ us:List (Str×Value),Paired PRel ps us/\∀ i v,its[i]? =some v ->∃ q t,v= .ref q/\IsTup s.heap q #[.str (us.getD i ("",.none)).1 t,(us.getD i ("",.none)).2]:=by
 induction h with
 | nil=>
  intro its r;cases r
  exact ⟨[],.nil,λ i v e=>by simp at e⟩
 | cons a b ih=>
  intro its r;cases r with
  | cons r1 rr=>
   obtain ⟨us,h1,h2⟩:=ih rr;obtain ⟨q,rfl,hq⟩:=a;cases r1
   obtain ⟨it2,rv,tp,_⟩:=I.tuple hq;cases rv with
   | cons c1 c2=>
    cases c2 with
    | cons c3 c4=>
     cases c4
     obtain ⟨t,rfl⟩:=c1;refine ⟨(_,_)::us,.cons ⟨zr,c3⟩ h1,λ i v e=> ?_⟩;cases i with
     | zero=>
      have:v=Value.ref q:=by simpa using e.symm
      subst this;exact ⟨q,t,zr,tp⟩
     | succ i=>exact h2 i v (by simpa using e)
def qp3 (hc:X.calm=true) (K:xA) (hK:X.K=K:=by rfl):q1v X (.type "dict") (λ xs H Q=>∃ (p:Addr) (ys:List V) (ps:List (Str×V)),xs=[.ref p]/\SqL K H p ys/\Paired (qp2 K H) ys ps/\∀ d,H d=none ->Q (.ref d) (upd H d (.dK (q3u ps [])))):=by
 subst hK;intro xC s σ H xs vs Q I r h;obtain ⟨p,ys,ps,rfl,hp,hy,q⟩:=h;obtain ⟨u,rfl,ru⟩:=q2x r;cases ru
 obtain ⟨its,rv,⟨ol,nl,a6,Z,a4,O⟩,hz⟩:=I.list hp;obtain ⟨us,a7,b6⟩:=qr2 I hy rv;have a8:us.length=its.length:=by rw [<- Paired.length a7,<- Paired.length hy,rv.length]
 have a5:p < s.heap.objs.size:=z3y a6;have hh:X.A.in1.in1.handled=none:=I.ok.hd hc;refine callType_codes (Q₁:=λ ob s1=>ob= .ref s.heap.objs.size/\s1={s with heap:=s.heap.push {cls:= .type "dict",data:= .dict #[]}}) PySem.F.kt_called_dict (PySem.F.kt_typeCall_dict_1 _) PySem.F.entry_dict_init (kt_code_dict_new _ ⟨rfl,rfl⟩) ?_;rintro ob s1 ⟨rfl,rfl⟩;have d0:(s.heap.push {cls:= .type "dict",data:= .dict #[]}).DictOf (q17 X.prog X.w) s.heap.objs.size []:=Heap.DictOf.new s.heap;have l0:(s.heap.push {cls:= .type "dict",data:= .dict #[]}).get? p=some ol:=z0n _ a6;refine ⟨d0.typeIs,PySem.F.args_dict_init_2 _ _,?_⟩;unfold Builtin.«dict.__init__»;refine z4e ?_;unfold Builtin.Dict.selfAndRest;refine z4e (wpAny_notOrdered_dict d0.typeIs (z4d ?_));show wpAny _ _ (Builtin.Dict.updateFrom "dict.__init__" s.heap.objs.size (.ref p) [] .none) _ _ _;unfold Builtin.Dict.updateFrom;refine z4e (wpAny_typeOf (T:="list") ⟨ol,l0,Z⟩ ?_);rw [if_pos (by decide)];refine z4e (qww l0 Z O a4 hh λ h1 tk1 a1=> ?_);rw [if_pos (by rfl)];refine z4e (z4c ?_);have a9:PlainL h1 p its.toArray:=⟨ol,nl,a1 _ _ l0,Z,a4,O⟩;obtain ⟨od,b3,b4,b5,rd⟩:=d0;have a3:=a1 _ _ b5;have a2:s.heap.objs.size < h1.objs.size:=z3y a3;refine z4e (z24 a9.isList ?_);have J:∀ b,s.heap.objs.size<=b ->s.heap.get? b=none:=λ b hb=>by
  cases e:s.heap.get? b with
  | none=>rfl
  | some o=>exact absurd (z3y e) (Nat.not_lt_of_le hb)
 have hsz:us.length=its.toArray.size:=by rw [z22];exact a8
 have W0:Walks X.prog X.w X.A.in1.in1 h1.objs.size [h1.objs.size,p] [h1.objs.size] us.length (λ i v=>its.toArray[i]? =some v) (λ i h=>h.IsListIter h1.objs.size p i/\h.IsList p its.toArray):=by
  rw [hsz];exact Walks.list hh h1.objs.size p (z3z (Nat.lt_trans a5 a2)) its.toArray
 refine z4d ⟨plainId_quiet q8a _,ql2 (h0:=s.heap) (n:=us.length) (A:=X.A.in1) W0 s.heap.objs.size ?_ (J _ (z47 _)) ?_ (by rw [a8,<- rv.length];exact hz) (λ i=>us.getD i ("",.none)) ?_ us.length 0 _ [] 0 _ (z3w _) ⟨⟨_,z1b _ rfl,rfl,rfl⟩,a9.isList.at λ o e=>z0n _ e⟩ ⟨od,b3,b4,z0n _ a3,rd⟩ (z47 _) (λ b o e=>z0n _ (a1 _ _ (z0n _ e))) λ h' tk hm keep=> ?_⟩
 ·intro hb;simp only [z3m,z2q,or_false] at hb;rcases hb with e | e
  ·exact absurd e (z3z a2)
  ·exact absurd e.symm (z3z a5)
 ·intro b hb;rw [z1l.mp hb];exact J _ (z3x a2)
 ·intro i v hv;exact b6 i v (by simpa using hv)
 ·have b2:=qen a7 us.length 0 [] [] (z3w _) .nil;rw [List.drop_zero] at b2;refine ⟨zr,.ref s.heap.objs.size,_,I.laid (a:=s.heap.objs.size) (o:= .dK (q3u ps [])) (t':=tk) keep (z47 _) ⟨?_,beq_eq_false_iff_ne.mpr (Ne.symm (z3z I.big)),_,b2,hm⟩,zr,q _ (I.hok.fresh (z47 _))⟩;have h1:=qat ps [];rw [z33,z3w] at h1;rw [<- Paired.length hy] at h1;exact z40 h1 hz
end
def Itd (a:Addr) (o:Obj) (kvs:List (Key×V)):It:=
 ⟨λ i H=>H a=some (.frz o (.dK kvs))/\i < kvs.length,λ i H x H'=>H'=H/\∃ kv,kvs[i]? =some kv/\x=kV kv.1,λ i H=>H a=some (.frz o (.dK kvs))/\kvs.length<=i⟩
def qtb {P:Program} {w:World} {es:List DictEntry} {vs:List (Key×Value)} (p:Pairs (q17 P w) es vs):∀ {kvs:List (Key×V)} {i:Nat} {J:Key×V},KV kvs vs ->kvs[i]? =some J ->∃ e,es[i]? =some e/\RelV (kV J.1) e.key:=by
 induction p with
 | nil=>
  intro kvs i J r h;cases r
  simp at h
 | cons a b c ih=>
  intro kvs i J r h;cases r with
  | cons d f=>
   cases i with
   | zero=>
    simp at h
    subst h;refine ⟨_,zr,?_⟩;rw [<- d.1] at a;rcases q1u a with ⟨i,t,e1,e2⟩ | ⟨x',t,e1,e2⟩
    ·rw [e1];exact ⟨t,e2⟩
    ·rw [e1];exact ⟨t,e2⟩
   | succ i=>simpa using ih f (by simpa using h)
section
variable {X:Cx} {tg:Expr}
def Inv.freeze {xC:xG} {σ:St} {H:Hp} {s:Shared} {a:Addr} {o:Obj} {kvs:List (Key×V)} (I:Inv X xC σ H s) (e:H a=some (.dK kvs)) (ho:s.heap.get? a=some o):Inv X xC σ (upd H a (.frz o (.dK kvs))) s:=by
 have u:Un X.fs [] H (upd H a (.frz o (.dK kvs))) s.heap s.heap:=by
  refine ⟨λ b o q _ _ _=>q,λ b o q _ _ _=>⟨o.slots,q⟩,λ b J q n _=> ?_,λ b J q _=>⟨J,q⟩,λ b xs q=> ?_,λ b J u q=> ?_,λ b ps q=>⟨#[],?_⟩⟩
  ·rw [qi (λ z=>by rw [z,e] at n;cases n)];exact n
  ·rw [qi (λ z=>by rw [z,e] at q;cases q)];exact q
  ·rw [qi (λ z=>by rw [z,e] at q;cases q)];exact q
  ·rw [qi (λ z=>by rw [z,e] at q;cases q),q];simp
 have hok:HOk X.prog X.w (upd H a (.frz o (.dK kvs))) s.heap:=λ b J q=>by
  by_cases z:b=a
  ·subst z;rw [qb] at q;cases q
   have:=I.hok b _ e;exact ⟨ho,this⟩
  ·rw [qi z] at q;have hb:=I.hok b J q;exact hb.stay (λ c u _ g=>g) (λ c g=>by rw [qi (λ z=>by rw [z,e] at g;cases g)];exact g) λ c xs g=>by rw [qi (λ z=>by rw [z,e] at g;cases g)];exact g
 have:=I.un (t':=s.toks) u hok;exact this
def qr3 {P:Program} {w:World} {K:xA} (a it:Addr) (o:Obj) (es:Array DictEntry) (ep:Nat) (kvs:List (Key×V)) (ho:o.ExactDict) (J:o.data= .dict es ep):Turn P w K tg (Itd a o kvs) [it] it (λ i h=>h.IsKeyIter it a i es.size ep) where
 mem:=by simp
 obj:=λ i h st b hb=>by
  have e:b=it:=by simpa using hb
  subst e;obtain ⟨o,e,c,d⟩:=st;exact ⟨o,e,λ v z=>by rw [d] at z;cases z⟩
 keep:=λ i h h' st k=>by
  obtain ⟨o,e,r⟩:=st;exact ⟨o,k it (by simp) o e,r⟩
 item:=by
  intro X hP hw hK hc i xC s σ H E I hf st hg;subst hP hw hK;obtain ⟨ha,hi⟩:=hg;obtain ⟨a1,hz,a8,vs,a3,o2,a6,a5,Z,a9,O,_,a2,a7⟩:=I.hok a _ ha;rw [a1] at Z;cases Z
  rw [J] at O;cases O
  obtain ⟨e,he,ru⟩:=qtb a2 a3 (z0c hi);obtain ⟨f0,f1,f2,f3,f4,f5⟩:=hf it (by simp);refine qd2 st ⟨o,a1,ho,J⟩ (e:=e) (by simpa using he) λ h' a4 sb=> ?_;have I1:Inv X xC σ H {s with heap:=h'}:=I.turned (t':=s.toks) (λ b o hb e=>(sb.2 b hb).trans e) f0 f1 f3 f4 f5;obtain ⟨oi,ei,ci,di⟩:=id a4;exact ⟨_,rfl,qeb (s:={s with heap:=h'}) ei ci di (by decide) ⟨kV kvs[i].1,H,I1,ru,⟨rfl,_,z0c hi,rfl⟩,a4,λ b hb=>(hf b hb).1⟩⟩
 done:=by
  intro X hP hw hK hc i xC s σ H E I hf st hg;subst hP hw hK;obtain ⟨ha,hi⟩:=hg;obtain ⟨a1,hz,a8,vs,a3,o2,a6,a5,Z,a9,O,_,a2,a7⟩:=I.hok a _ ha;rw [a1] at Z;cases Z
  rw [J] at O;cases O
  have hl:es.size=kvs.length:=by
   have h1:=a2.length;have h2:kvs.length=vs.length:=Paired.length a3;rw [z18] at h1
   lia
  obtain ⟨f0,f1,f2,f3,f4,f5⟩:=hf it (by simp);exact qg1 (I.ok.hd hc) st ⟨o,a1,ho,J⟩ (by lia) λ h' eb=>⟨zr,I.turned (t':=s.toks) (λ b o hb e=>eb b o hb e) f0 f1 f3 f4 f5⟩
 self:=by
  intro A i s Q E st h;exact wpAny_pyIter_keyiter st h
def iDct (tl:TE):TI:=λ σ H R=>tl σ H λ x H1=>∃ a kvs,x= .ref a/\((H1 a=some (.dK kvs)/\∀ o,R (Itd a o kvs) (upd H1 a (.frz o (.dK kvs))))\/ ∃ o,H1 a=some (.frz o (.dK kvs))/\R (Itd a o kvs) H1)
def ql3 {l:Expr} {tl:TE} (hl:PE X l tl):PI X tg l (iDct tl):=by
 intro xC s σ H R I h;refine thn (hl xC s σ H _ I h) λ v s1 a4=> ?_;obtain ⟨x,H1,I1,r1,q1⟩:=a4;obtain ⟨a,kvs,e,q⟩:=q1;subst e;cases r1
 obtain ⟨H2,o,I2,ha,q2⟩:∃ H2 o,Inv X xC σ H2 s1/\H2 a=some (.frz o (.dK kvs))/\R (Itd a o kvs) H2:=by
  rcases q with ⟨e,q⟩ | ⟨o,e,q⟩
  ·obtain ⟨hz,O,vs,a3,o,es,ep,ho,r⟩:=I1.hok a _ e;exact ⟨_,o,I1.freeze e ho,qb,q o⟩
  ·exact ⟨H1,o,I1,e,q⟩
 obtain ⟨a1,hz,O,vs,a3,o2,es,ep,Z,a2,J,_,hp2,hnd⟩:=I2.hok a _ ha;rw [a1] at Z;cases Z
 refine qd1 O ⟨o,a1,a2,J⟩ ?_;refine ⟨s1.heap.objs.size,[s1.heap.objs.size],_,_,H2,zr,I2.kept (t':=s1.toks) λ b o e=>z0n _ e,qr3 a _ o es ep kvs a2 J,⟨_,z1b _ rfl,zr,zr⟩,λ b hb=> ?_,q2⟩;have e:b=s1.heap.objs.size:=by simpa using hb
 subst e;exact I2.fpOk (z47 _) (I2.hok.fresh (z47 _))
def q9f:q1v X (.type "dict") (λ xs H Q=>∃ (a:Addr) (kvs:List (Key×V)),xs=[.ref a]/\Rd H a (.dK kvs)/\∀ d,H d=none ->Q (.ref d) (upd H d (.dK kvs))):=by
 intro xC s σ H xs us Q I r h;obtain ⟨a,kvs,rfl,ha,q⟩:=h;obtain ⟨u,rfl,ru⟩:=q2x r;cases ru
 obtain ⟨hz,Z,vs,J,hd⟩:=ha.ok I.hok;have hl:kvs.length=vs.length:=Paired.length J;refine kt_call_dict Z hd (by lia) λ h' O hs=> ?_;exact ⟨.ref s.heap.objs.size,_,I.laid (a:=s.heap.objs.size) (o:= .dK kvs) (t':=s.toks) (λ b o e=>(hs.2 b (z3z (z3y e))).trans (z0n _ e)) (z47 _) ⟨hz,beq_eq_false_iff_ne.mpr (Ne.symm (z3z I.big)),vs,J,O⟩,zr,q _ (I.hok.fresh (z47 _))⟩
end
section
variable {X:Cx} {e:Expr} {lo hi:Option Expr} {se:Expr} {te:TE} {tl th ts:TO} {p2 pos:Pos}
end
section
variable {prog:Program} {w:World} {A:Around} {E:xB} {s:Shared}
def qwx {nm:String} {a b:Addr} {oa ob:Obj} {ea eb:Array DictEntry} {pa pb:Nat} {Q:Bool ->Shared ->Prop} (na:(a==sysModules)=false) (nb:(b==sysModules)=false) (O:s.heap.get? a=some oa) (J:oa.data= .dict ea pa)
  (a1:s.heap.get? b=some ob) (Z:ob.data= .dict eb pb) (a4:KeysOf (q17 prog w) eb) (hsz:ea.size=eb.size)
  (a3:∀ (i:Nat) (e:DictEntry),ea[i]? =some e ->∃ k j f,(q17 prog w).is k e.key=true/\e.hash=(q17 prog w).hash k/\(eb.findIdx? λ g=>(q17 prog w).is k g.key)=some j/\eb[j]? =some f/\SeqAt.EqAt A s e.val f.val true)
  (q:Q true s):wpAny (model prog w) A (Builtin.Dict.samePairs nm a b) Q E s:=by
 unfold Builtin.Dict.samePairs Builtin.Dict.showsAll;rw [if_neg (by rw [na];exact z1k),if_neg (by rw [nb];exact z1k)];refine z4e (z4d ?_);refine z4e (z4d ?_);refine z4e (z29 O J ?_);refine z4e (z29 a1 Z ?_);rw [if_neg (by simp [hsz])];refine z4e (z37 O J ?_);refine z4e ?_;rw [Std.Legacy.Range.forIn_eq_forIn_range'];simp only [Std.Legacy.Range.size,Nat.sub_zero,Nat.add_sub_cancel,Nat.div_one];refine wpAny_forIn_list _ (λ rest x s'=>s'=s/\x=(none,())/\∃ i,i<=ea.size/\rest=List.range' i (ea.size - i)) _ ?_ ?_ _ _ ⟨rfl,rfl,0,z4a _,by simp⟩
 ·rintro x rest st s' ⟨rfl,rfl,i,hi,hr⟩;have lt:i < ea.size:=by
   rcases Nat.lt_or_ge i ea.size with h | h
   ·exact h
   ·rw [Nat.sub_eq_zero_of_le h] at hr;cases hr
  have e2:ea.size - i=(ea.size - (i+1))+1:=by lia
  rw [e2,List.range'_succ,z2u] at hr;obtain ⟨rfl,hr⟩:=hr;refine z4e (z29 O J ?_);have ge:=z0b lt;obtain ⟨k,j,f,h1,h2,h3,h4,h5⟩:=a3 x _ ge;rw [ge];have a2:wpAny (model prog w) A (holding [ea[x].key,ea[x].val] (do
     let __x <- dictFind b ea[x].key ea[x].hash
     match __x with
      | some j=>do
       let __do_lift <- dictEntries b
       match __do_lift[j]? with
        | some f=>holding [f.val] (eqBool ea[x].val f.val)
        | x=>unsupported "internal:dict-equal"
      | x=>pure false)) (λ v s2=>v=true/\s2=s') E s':=by
   refine z3n (z4e ?_);rw [h2];refine wpAny_dictFind_of h1 a1 Z a4 ?_;rw [h3];refine z4e (z29 a1 Z ?_);rw [h4];exact z3n (h5 prog w _ _ ⟨zr,zr⟩)
  refine z4e (z4f a2 (λ v s2 hv=> ?_) λ _ _ z=>z);obtain ⟨rfl,rfl⟩:=hv;rw [if_neg (by decide)];refine z4e (z37 O J ?_);rw [if_neg (by simp)];exact z4d ⟨zr,zr,x+1,lt,hr⟩
 ·rintro st s' ⟨rfl,rfl,i,hi,hr⟩;exact z4d q
end
def qau {P:Program} {w:World} {es:List DictEntry} {vs:List (Key×Value)} (p:Pairs (q17 P w) es vs):∀ {i:Nat} {e:DictEntry},es[i]? =some e ->∃ J,vs[i]? =some J/\(q17 P w).is J.1 e.key=true/\e.val=J.2:=by
 induction p with
 | nil=>
  intro i e h;simp at h
 | cons a b c ih=>
  intro i e h;cases i with
  | zero=>
   simp at h
   subst h;exact ⟨_,zr,a,b⟩
  | succ i=>simpa using ih (by simpa using h)
def qr4 {P:Program} {w:World} {es:List DictEntry} {vs:List (Key×Value)} (p:Pairs (q17 P w) es vs) {i:Nat} {kv:Key×Value} (h:vs[i]? =some kv):∃ e,es[i]? =some e:=by
 have hl:=p.length;have hi:=(z07.mp h).1;exact ⟨_,z0c (by lia)⟩
def qr5 {kvs:List (Key×V)} {vs:List (Key×Value)} (r:KV kvs vs):∀ {i:Nat} {q:Key×Value},vs[i]? =some q ->∃ p,kvs[i]? =some p/\p.1=q.1/\RelV p.2 q.2:=by
 induction r with
 | nil=>
  intro i q h;simp at h
 | cons a b ih=>
  intro i q h;cases i with
  | zero=>
   simp at h
   subst h;exact ⟨_,zr,a⟩
  | succ i=>simpa using ih (by simpa using h)
def qyv {kvs:List (Key×V)} {vs:List (Key×Value)} (r:KV kvs vs) {i:Nat} {p:Key×V} (h:kvs[i]? =some p):∃ q,vs[i]? =some q/\p.1=q.1/\RelV p.2 q.2:=by
 have hl:kvs.length=vs.length:=Paired.length r;have hi:=(z07.mp h).1;obtain ⟨p',h',e⟩:=qr5 r (z0c (show i < vs.length by lia));rw [h] at h';cases h'
 exact ⟨_,z0c (show i < vs.length by lia),e⟩
def qwy {F:(Key×V) ->(Key×V) ->Prop} {k1 k2:List (Key×V)} (h:Paired F k1 k2):∀ {i:Nat} {p:Key×V},k1[i]? =some p ->∃ q,k2[i]? =some q/\F p q:=by
 induction h with
 | nil=>
  intro i p h;simp at h
 | cons a b ih=>
  intro i p h;cases i with
  | zero=>
   simp at h
   subst h;exact ⟨_,zr,a⟩
  | succ i=>simpa using ih (by simpa using h)
section
variable {X:Cx}
def DatP (K:xA) (H:Hp) (p q:Key×V):Prop:=p.1=q.1/\∃ d,Dat K H d p.2/\Dat K H d q.2/\d.depth<=60
def qyw (K:xA):R2:=λ x y H Q=>∃ a b k1 k2,x= .ref a/\y= .ref b/\Rd H a (.dK k1)/\Rd H b (.dK k2)/\Paired (DatP K H) k1 k2/\Q (.bl false) H
def qtc (hu:X.A.units+64 < cLine) (K:xA) (hK:X.K=K:=by rfl):OpR X (compareOp .NotEq) (qyw K):=by
  subst hK;intro xC s σ H x y v u Q I rx ry h;obtain ⟨a,b,k1,k2,rfl,rfl,ra,rb,hp,q⟩:=h;cases rx
  cases ry
  obtain ⟨hz1,c8,v1,b4,o1,e1,p1,O,a5,b6,c5,a9,d3⟩:=ra.ok I.hok;obtain ⟨hz2,c9,v2,kv2,o2,e2,p2,a3,b3,b7,c6,Z,a8⟩:=rb.ok I.hok;have l0:k1.length=k2.length:=Paired.length hp;have l1:k1.length=v1.length:=Paired.length b4;have l2:k2.length=v2.length:=Paired.length kv2;have l3:=a9.length;have l4:=Z.length;rw [z18] at l3 l4;show wpAny _ _ (richCompare .NotEq (.ref a) (.ref b)) _ _ s;refine wpAny_richCompare_same_room (T:="dict") ⟨o1,O,a5.1⟩ ⟨o2,a3,b3.1⟩ PySem.F.slot_dict_ne (z2n PySem.F.slot_dict_ne ⟨o1,O,a5.1⟩ PySem.F.entry_dict_ne ?_ (PySem.F.args_dict_ne_2 _ _)) (by lia);unfold Builtin.«dict.__ne__»;have T1:s.TypeIs (.ref a) "dict":=⟨o1,O,a5.1⟩;have T2:s.TypeIs (.ref b) "dict":=⟨o2,a3,b3.1⟩;have same:∀ nm (Q2:Bool ->Shared ->Prop) (E2:xB),Q2 true s ->wpAny (model X.prog X.w) X.A.in1 (Builtin.Dict.samePairs nm a b) Q2 E2 s:=λ nm Q2 E2 q2=>by
    refine qwx c8 c9 O b6 a3 b7 c6 (by lia) (λ i e he=> ?_) q2;have b8:e1.toList[i]? =some e:=by simpa using he
    obtain ⟨kv,c7,i1,i2⟩:=qau a9 b8;obtain ⟨pv,d0,pe,pr⟩:=qr5 b4 c7;obtain ⟨qv,d2,qe,d,a2,a6,dz⟩:=qwy hp d0;obtain ⟨qw,a4,we,wr⟩:=qyv kv2 d2;obtain ⟨f,hf⟩:=qr4 Z a4;obtain ⟨qw2,a1,j1,j2⟩:=qau Z hf;rw [a4] at a1;cases a1
    have ek:kv.1=qw.1:=by rw [<- pe,qe,we]
    obtain ⟨k',c4,b9⟩:=c5 e (Array.mem_of_getElem? he);have b5:k'=kv.1:=(q17 X.prog X.w).inj _ _ _ c4 i1;have J:e2[i]? =some f:=by simpa using hf
    have a7:i < e2.size:=(Array.getElem?_eq_some_iff.mp J).1;refine ⟨kv.1,i,f,i1,by rw [b9,b5],?_,J,?_⟩
    · rw [Array.findIdx?_eq_some_iff_getElem]
      refine ⟨a7,?_,λ j hj=> ?_⟩
      · have:e2[i]=f:=by
          have:=z0b a7;rw [this] at J;exact Option.some.inj J
        rw [this,ek];exact j1
      · intro z
        have c0:j < e2.size:=by lia
        obtain ⟨qj,d1,z1,_⟩:=qau Z (i:=j) (e:=e2[j]) (by simp [c0]);have ej:kv.1=qj.1:=(q17 X.prog X.w).inj _ _ _ z z1;have m1:(v2.map (·.1))[j]? =some qw.1:=by rw [z21,d1];show some qj.1=_;rw [<- ej,ek]
        have m2:(v2.map (·.1))[i]? =some qw.1:=by rw [z21,a4];rfl
        obtain ⟨b1,c1⟩:=z07.mp m1;obtain ⟨b2,c2⟩:=z07.mp m2;have:=(z08.mp a8) j i b1 b2 hj;exact this (c1.trans c2.symm)
    · rw [i2,j2]
      obtain ⟨as,r1⟩:=Dat.reads I _ _ _ a2 pr;obtain ⟨bs,r2⟩:=Dat.reads I _ _ _ a6 wr;have hq:=SeqAt.eqAt_reads d d X.A.in1 s _ _ as bs r1 r2 (Dat.lay _ _ a2) (Dat.lay _ _ a6) (by
        have:X.A.in1.units=X.A.units+1:=rfl;rw [this];have:min d.depth d.depth<=d.depth:=Nat.min_le_left _ _
        lia)
      rw [SeqAt.eqv_refl _ (Dat.lay _ _ a2)] at hq;exact hq
  refine z4e (m:=Builtin.Dict.dictSlotArgs "__ne__" ⟨[.ref a,.ref b],[]⟩) ?_;unfold Builtin.Dict.dictSlotArgs;refine z4e (wpAny_notOrdered_dict T1 ?_);refine z4d ?_;refine z4e (wpAny_isInstance T2 isSubtype_dict_dict ?_);rw [if_neg (by decide)];refine z4e (m:=Builtin.Dict.addrOf (Value.ref a)) (z4d ?_);refine z4e (m:=Builtin.Dict.addrOf (Value.ref b)) (z4d ?_);refine z4e (same _ _ _ ?_);exact z4d ⟨_,rfl,(λ z=>nomatch z),q1a I q rfl⟩
end
def qr6:bootBuiltins "abs"=some (.builtin "abs"):=by decide+kernel
def cA (mg:xE) (x:Str):Addr:=match mg x with
 | some (.ref a)=>a
 | _=>0
def q4o {mg:xE} {x:Str} {C:Addr} (h:mg x=some (.ref C)):cA mg x=C:=by
 unfold cA;rw [h]
structure MTop (K:xA) (C:Addr) (m qual:Str) (st:Stmt) (ps:xD):Prop where
 ex:∃ f fd,Fun K m qual st f fd/\Meth K C m f/\∀ us:List Value,us.length=ps.length ->bindArgs fd ⟨us,[]⟩=pure (ps.zip us)
def qwz {K:xA} {C:Addr} {m qual:Str} {st:Stmt} {ps:xD} {f:Addr} {oc:Value} {od O:Option Addr} {a1:Array (Option Value)} {kV J Z cdv ct:Value}
  (b:∀ (kV J Z:Value) (O:Option Addr) (cdv ct:Value) (us:xH),us.length=ps.length ->bindArgs (PySem.W.fnOf m qual (q1t st) (q1d st) (qd st) .none kV J Z O cdv ct) ⟨us,[]⟩=pure (ps.zip us))
  (a:PySem.W.findIn K (.ref C) m=some (some (.ref f))) (i:PySem.W.isFn K (.ref f)=true)
  (l:K.lookup f=some ⟨oc,od,.func (PySem.W.fnOf m qual (q1t st) (q1d st) (qd st) .none kV J Z O cdv ct),a1⟩) (c:PySem.W.codeIn K cdv qual=true) (k:PySem.W.keepIn K (.ref f)=true):MTop K C m qual st ps:=
 ⟨f,_,qqr (st:=st) l c k,⟨a,i,k⟩,b kV J Z O cdv ct⟩
structure MDef (P:Program) (w:World) (K:xA) (mg:xE) (base:Heap) (k:Nat) (C:Addr) (m:Str) (ps:xD) (sp:Sp):Prop where
 ex:∃ f fd,FnOk P w K mg base CX0 k f fd ps sp/\Meth K C m f/\Binds K fd ps []
theorem MTop.ok {P:Program} {w:World} {K:xA} {mg:xE} {base:Heap} {C:Addr} {m qual:Str} {st:Stmt} {N ps:xD} {k:Nat} {sp:Sp} (T:MTop K C m qual st ps) (S:FnScope N ps (qd st)) (len:∀ vs H Q E,sp vs H Q E ->vs.length=ps.length)
  (J:∀ (f:Addr) (cdv:Value) (A:Around) (outer:List Env) (s:Shared) (H:Hp) (vs:List V) (Q:VK) (E:XK),Room k (A.deeper (envOfC qual (qd st) s.heap.objs.size f cdv)) ->sp vs H Q E ->
   ∃ t,PSs (cxOf CX0 P w K mg base N qual (qd st) f cdv A outer s H E).nox (q1d st) t/\t {nx:=λ _ H'=>Q .non H',rt:=Q} (start N vs) H):MDef P w K mg base (k+1) C m ps sp:=by
 obtain ⟨f,fd,F,hm,hb⟩:=T.ex;exact ⟨f,fd,F.ok S len (J f),hm,Binds.all hb⟩
section
variable {X:Cx} {k k':Nat} {C:Addr} {ps ks:xD} {sp:Sp} {x m:Str} {p pos apos:Pos} {e o:Expr} {es:List Expr} {ta:TE} {t tk:TA} {kws:List Keyword}
def qg3 {pl:Sem Bool} (D:MDef X.prog X.w X.K X.mg X.base k C m ps sp) (c:Cls X.K C) (hr:Room k' X.A) (he:PE X o ta) (ha:PA X (e::es) t) (J:k<=k':=by decide)
  (Z:starEach (e::es) X.env=(false,eval e X.env)::starEach es X.env:=by rfl) (O:(backTo pos (starEach es X.env)).any (·.1)=false:=by rfl)
  (ht:eval (.Call (.Attribute o m apos) (e::es) [] pos) X.env=(do
   let ov <- eval o X.env
   standAt apos.atName
   let (f,first) <- holding [ov] (getMethod ov m pl)
   callWith pos f first (backTo pos (starEach (e::es) X.env)) (backToKw pos (keywordEach [] X.env))):=by rfl):
  PE X (.Call (.Attribute o m apos) (e::es) [] pos) (qvb C m sp [] E0 ta t):=by
 obtain ⟨f,fd,F,hm,hb⟩:=D.ex;exact qw8 he c hm F (hr.mono J) hb .nil qbu ha Z O ht
def qyx (C:Addr):TE:=λ _ H Q=>∀ x dx,H x=none ->H dx=none ->dx≠x ->Q (.ref x) (upd (upd H dx (.own x)) x (.ins C dx []))
def qr7 {xC:xG} {σ:St} {H:Hp} {s:Shared} {Q:VK} (hm:PySem.W.makesIn X.K C=true) (hi:PySem.W.findIn X.K (.ref C) "__init__"=some (some (.builtin "object.__init__"))) (I:Inv X xC σ H s)
  (h:∀ x dx,H x=none ->H dx=none ->dx≠x ->Q (.ref x) (upd (upd H dx (.own x)) x (.ins C dx []))):wpAny (model X.prog X.w) X.A (call (.ref C) []) (EP X xC σ Q) X.xe s:=by
 have hq:=h (s.heap.objs.size+1) s.heap.objs.size (I.hok.fresh (Nat.le_succ _)) (I.hok.fresh (z47 _)) (z3z (z2k _));have I2:=Inv.made (C:=C) I;have Y:=PySem.W.makes_of (M:=model X.prog X.w) I.kIn hm;refine wpAny_call (qqe I.kIn hm hi (λ self=>PySem.W.Looks.of_pure (PySem.W.oi_bind self)) ?_);have g2:((s.heap.push PySem.W.emptyDict).push (PySem.W.instObj C s.heap.objs.size)).get? (s.heap.objs.size+1)=some (PySem.W.instObj C s.heap.objs.size):=by
  have:=z1b (s.heap.push PySem.W.emptyDict) (o:=PySem.W.instObj C s.heap.objs.size) rfl
  rwa [z3e] at this
 have t1:PySem.W.Looks (model X.prog X.w) ((s.heap.push PySem.W.emptyDict).push (PySem.W.instObj C s.heap.objs.size)) (typeOf (.ref (s.heap.objs.size+1))) (.ref C):=(PySem.W.Looks.ld g2).andThen .now;have t2:PySem.W.Looks (model X.prog X.w) ((s.heap.push PySem.W.emptyDict).push (PySem.W.instObj C s.heap.objs.size)) (isInstance (.ref (s.heap.objs.size+1)) (.type "object")) true:=t1.andThen (Y.top.keeps λ b o e=>z0n _ (z0n _ e));refine codeAny_call_builtin PySem.W.oi_plain PySem.W.entry_oi (@PySem.W.check_slot (model X.prog X.w) _ _ _ "object.__init__" "object" "__init__" (.ref (s.heap.objs.size+1)) [] [] _ PySem.W.oi_kind PySem.W.oi_split t2 (PySem.W.oi_args _) ?_);rw [PySem.W.oi_run];exact z4d ⟨zr,V.ref (s.heap.objs.size+1),_,I2,zr,hq⟩
def q9g (hk:PySem.W.makesIn X.K C=true) (hi:PySem.W.findIn X.K (.ref C) "__init__"=some (some (.builtin "object.__init__"))) (kp:PySem.W.keepIn X.K (.ref C)=true) (hg:Gl X x) (hm:X.mg x=some (.ref C))
  (J:(x==("__debug__":Str))=false:=by decide):PE X (.Call (.Name x p) [] [] pos) (qyx C):=by
 intro xC s σ H Q I h;refine z1r (q4v I hg hm ?_ J);exact PySem.W.callWith_K0 I.kIn kp (qr7 hk hi I h)
structure FunD (K:xA) (x qual:Str) (st:Stmt) (f:Addr) (fd:FuncData):Prop where
 ex:∃ (oc:Value) (od:Option Addr) (dV kV doc pm:Value) (an:Option Addr) (cdv ct:Value) (osl:Array (Option Value)),
  fd=PySem.W.fnOf x qual (q1t st) (q1d st) (qd st) dV kV doc pm an cdv ct/\K.lookup f=some ⟨oc,od,.func fd,osl⟩/\PySem.W.codeIn K cdv qual=true
def FunD.ok {P:Program} {w:World} {K:xA} {mg:xE} {base:Heap} {x qual:Str} {st:Stmt} {f:Addr} {fd:FuncData} {N ps:xD} {k:Nat} {sp:Sp} (F:FunD K x qual st f fd) (S:FnScope N ps (qd st)) (len:∀ vs H Q E,sp vs H Q E ->vs.length=ps.length)
  (J:∀ (cdv:Value) (A:Around) (outer:List Env) (s:Shared) (H:Hp) (vs:List V) (Q:VK) (E:XK),Room k (A.deeper (envOfC qual (qd st) s.heap.objs.size f cdv)) ->sp vs H Q E ->
   ∃ t,PSs (cxOf CX0 P w K mg base N qual (qd st) f cdv A outer s H E).nox (q1d st) t/\t {nx:=λ _ H'=>Q .non H',rt:=Q} (start N vs) H):FnOk P w K mg base CX0 (k+1) f fd ps sp:=by
 obtain ⟨oc,od,dV,kV,doc,pm,an,cdv,ct,osl,rfl,lk,O⟩:=F.ex;refine qos lk O S len λ A outer s H vs Q E hr Z=> ?_;obtain ⟨t,h,q⟩:=J cdv A outer s H vs Q E hr Z;exact ⟨t,h.nox,q⟩
structure InitB (K:xA) (fd:FuncData) (y:Str) (dv:V):Prop where
 b0:∃ u,RelV dv u/\Binds K fd ["self",y] [u]
 b1:Binds K fd ["self",y] []
 bk:∀ (s:Shared) (v z:Value),K.In s.heap ->BindsTo s fd ⟨[v],[(y,z)]⟩ [("self",v),(y,z)]
structure ITop (K:xA) (C:Addr) (qual y:Str) (st:Stmt) (dv:V):Prop where
 ex:∃ f fd,FunD K "__init__" qual st f fd/\PySem.W.findIn K (.ref C) "__init__"=some (some (.ref f))/\PySem.W.isFn K (.ref f)=true/\InitB K fd y dv
def qnp {K:xA} {C:Addr} {qual y:Str} {st:Stmt} {dv:V} {u:Value} {f:Addr} {oc:Value} {od Z:Option Addr} {a1:Array (Option Value)} {dV kV J pm cdv ct:Value}
    (a:PySem.W.findIn K (.ref C) "__init__"=some (some (.ref f))) (i:PySem.W.isFn K (.ref f)=true)
    (l:K.lookup f=some ⟨oc,od,.func (PySem.W.fnOf "__init__" qual (q1t st) (q1d st) (qd st) dV kV J pm Z cdv ct),a1⟩) (c:PySem.W.codeIn K cdv qual=true) (ru:RelV dv u)
    (h0:∀ (s:Shared) (v:Value),K.In s.heap ->BindsTo s (PySem.W.fnOf "__init__" qual (q1t st) (q1d st) (qd st) dV kV J pm Z cdv ct) ⟨[v],[]⟩ [("self",v),(y,u)])
    (h1:∀ (s:Shared) (v z:Value),K.In s.heap ->BindsTo s (PySem.W.fnOf "__init__" qual (q1t st) (q1d st) (qd st) dV kV J pm Z cdv ct) ⟨[v,z],[]⟩ [("self",v),(y,z)])
    (hk:∀ (s:Shared) (v z:Value),K.In s.heap ->BindsTo s (PySem.W.fnOf "__init__" qual (q1t st) (q1d st) (qd st) dV kV J pm Z cdv ct) ⟨[v],[(y,z)]⟩ [("self",v),(y,z)]):ITop K C qual y st dv:=by
  refine ⟨f,_,⟨oc,od,dV,kV,J,pm,Z,cdv,ct,a1,zr,l,c⟩,a,i,⟨u,ru,λ s us X hl=> ?_⟩,λ s us X hl=> ?_,hk⟩
  · have O:us.length=1:=by
      rw [z1n] at hl;exact Nat.succ.inj hl
    match us,O with
    | [v],_=>exact h0 s v X
  · have O:us.length=2:=by
      rw [z30] at hl;exact hl
    match us,O with
    | [v,z],_=>exact h1 s v z X
structure IDef (P:Program) (w:World) (K:xA) (mg:xE) (base:Heap) (k:Nat) (C:Addr) (y:Str) (dv:V) (sp:Sp):Prop where
 ex:∃ f fd,FnOk P w K mg base CX0 k f fd ["self",y] sp/\PySem.W.findIn K (.ref C) "__init__"=some (some (.ref f))/\PySem.W.isFn K (.ref f)=true/\InitB K fd y dv
theorem ITop.ok {P:Program} {w:World} {K:xA} {mg:xE} {base:Heap} {C:Addr} {qual y:Str} {st:Stmt} {dv:V} {N:xD} {k:Nat} {sp:Sp} (T:ITop K C qual y st dv) (S:FnScope N ["self",y] (qd st)) (len:∀ vs H Q E,sp vs H Q E ->vs.length=(["self",y]:xD).length)
  (J:∀ (f:Addr) (cdv:Value) (A:Around) (outer:List Env) (s:Shared) (H:Hp) (vs:List V) (Q:VK) (E:XK),Room k (A.deeper (envOfC qual (qd st) s.heap.objs.size f cdv)) ->sp vs H Q E ->
   ∃ t,PSs (cxOf CX0 P w K mg base N qual (qd st) f cdv A outer s H E).nox (q1d st) t/\t {nx:=λ _ H'=>Q .non H',rt:=Q} (start N vs) H):IDef P w K mg base (k+1) C y dv sp:=by
 obtain ⟨f,fd,F,h1,h2,h3⟩:=T.ex;exact ⟨f,fd,F.ok S len (J f),h1,h2,h3⟩
variable {y:Str} {dv:V}
def qr8 (D:IDef X.prog X.w X.K X.mg X.base k C y dv sp) (hk:PySem.W.makesIn X.K C=true) (kp:PySem.W.keepIn X.K (.ref C)=true) (hr:Room k' X.A) (hg:Gl X x) (hm:X.mg x=some (.ref C)) (O:k+1<=k':=by decide)
  (J:(x==("__debug__":Str))=false:=by decide):PE X (.Call (.Name x p) [] [] pos) (qjw C sp [dv] E0 tNil):=by
 obtain ⟨f,fd,F,h1,h2,h3⟩:=D.ex;obtain ⟨u,ru,hb⟩:=h3.b0;exact qt0 ⟨hk,h1,h2,kp⟩ F (hr.mono O) hg hm hb (.cons ru .nil) qbu J
def qr9 (D:IDef X.prog X.w X.K X.mg X.base k C y dv sp) (hk:PySem.W.makesIn X.K C=true) (kp:PySem.W.keepIn X.K (.ref C)=true) (hr:Room k' X.A) (hg:Gl X x) (hm:X.mg x=some (.ref C)) (ha:PA X (e::es) t) (O:k+1<=k':=by decide)
  (J:(x==("__debug__":Str))=false:=by decide) (he:starEach (e::es) X.env=(false,eval e X.env)::starEach es X.env:=by rfl) (Z:(backTo pos (starEach es X.env)).any (·.1)=false:=by rfl):PE X (.Call (.Name x p) (e::es) [] pos) (qjw C sp [] E0 t):=by
 obtain ⟨f,fd,F,h1,h2,h3⟩:=D.ex;exact qw9 ⟨hk,h1,h2,kp⟩ F (hr.mono O) hg hm h3.b1 .nil qbu ha J he Z
end
end L2
namespace L2
open PySem PySem.Spec PyProof.Rows PySem.W
def q1j (x y:Int):Bool:=decide (x < y)
def q3h:Tim.STO q1j:=Tim.qvx
def iOf:Value ->Int
 | .int x _=>x
 | _=>0
def qd4 {ws:List Int}:∀ {us:xH},Vals (ws.map V.int) us ->us.map iOf=ws/\(∀ u∈us,∃ x t,u= .int x t)/\IntsAre us ws:=by
 induction ws with
 | nil=>
  intro us r;cases r
  exact ⟨rfl,(λ _ z=>nomatch z),.nil⟩
 | cons x ws ih=>
  intro us r;cases r with
  | cons r1 rr=>
   obtain ⟨t,rfl⟩:=r1;obtain ⟨a,b,c⟩:=ih rr;refine ⟨by rw [z3k,a];rfl,λ u J=> ?_,.cons x t c⟩;rcases z3m.mp J with rfl | J
   ·exact ⟨x,t,zr⟩
   ·exact b u J
theorem q6e:∀ {us:xH},(∀ u∈us,∃ x t,u= .int x t) ->Vals ((us.map iOf).map V.int) us
 | [],_=> .nil
 | u::us,h=>by
  obtain ⟨x,t,rfl⟩:=h u (z1o ..);exact .cons ⟨t,zr⟩ (q6e λ v hv=>h v (z15 _ hv))
section
variable {prog:Program} {w:World} {A:Around} {s:Shared} {a:Addr}
def qhy {ws:List Int} {vs:xH} (r:Vals (ws.map V.int) vs):Tim.Keys prog w A s a vs (λ v=>Tim.rank q1j (vs.map iOf) (iOf v)):=by
 intro h2 s' _;obtain ⟨e1,e2,e3⟩:=qd4 r;refine ⟨oneType',λ E Q q=> ?_,λ x hx y hy E Q q=> ?_⟩
 ·match vs,h2,e3 with
  | v1::v2::vr,_,e3=>
   rw [keyKind_ints e3];exact z4d q
 ·rw [<- Tim.qd3 q3h iOf hx hy] at q;obtain ⟨x',t,rfl⟩:=e2 x hx;obtain ⟨y',u,rfl⟩:=e2 y hy;rw [keyLt'_oneType];exact oneLt_int q
end
section
variable {X:Cx}
def q7e (K:xA) (hK:X.K=K:=by rfl):q1v X (.builtin "sorted") (λ xs H Q=>∃ p ws,xs=[.ref p]/\(SqL K H p (ws.map V.int)\/ SqT K H p (ws.map V.int))/\∀ l,H l=none ->Q (.ref l) (upd H l (.lst ((Tim.srt q1j ws).map V.int)))):=by
 subst hK;intro xC s σ H xs us Q I r h;obtain ⟨p,ws,rfl,O,q⟩:=h;obtain ⟨u,rfl,ru⟩:=q2x r;cases ru
 obtain ⟨T,o,its,n,hT,ho,hc,hd,rv,hz⟩:∃ (T:String) (o:Obj) (its:xH) (n:Nat),(T="list"\/ T="tuple")/\s.heap.get? p=some o/\o.cls= .type T/\o.data= .seq its.toArray n/\Vals (ws.map V.int) its/\(ws.map V.int).length<=sizeLine:=by
  rcases O with O | O
  ·obtain ⟨its,rv,⟨o,n,e,c,_,d⟩,z⟩:=I.list O;exact ⟨"list",o,its,n,.inl rfl,e,c,d,rv,z⟩
  ·obtain ⟨its,rv,⟨o,e,c,n,d⟩,z⟩:=I.tuple O;exact ⟨"tuple",o,its,n,.inr rfl,e,c,d,rv,z⟩
 have hl:its.length<=sizeLine:=by rw [<- rv.length];exact hz
 obtain ⟨e1,e2,_⟩:=qd4 rv;refine q4f (vs:=its) (rk:=λ v=>Tim.rank q1j (its.map iOf) (iOf v)) hl (λ A' E' R _ k=>q9d hT ho hc hd (by rw [z22];exact hl) (by rw [z1f];exact k)) (λ A' s' a _ _ _=>qhy rv) λ out l n h' tk so keep J hg=> ?_;have a1:∀ u∈out.toList,∃ x t,u= .int x t:=λ u hu=>e2 u (so.perm.mem_iff.mp hu);have ed:=Tim.q32 q3h iOf so;rw [e1] at ed;have Z:=q6e a1;rw [ed] at Z;exact I.q33 Z (by rw [z2z,(Tim.q18 q1j ws).length_eq];rw [z2z] at hz;exact hz) keep J hg (q l (I.hok.fresh J))
end
end L2
namespace L2
open PySem PySem.Spec PyProof.Rows
section
variable {X:Cx} {xC:xG} {σ:St} {H:Hp} {s:Shared} {a:Addr} {kvs:List (Key×V)} {k:Key} {z:V} {u r:Value} {A:Around} {E:xB}
def qyy {Q:xB} (I:Inv X xC σ H s) (e:H a=some (.dK kvs)) (hl:kvs.length < sizeLine) (ry:RelV (kV k) u) (rz:RelV z r)
  (h1:∀ v w' s',valV kvs k=some v ->Inv X xC σ H s' ->RelV v w' ->Q w' s') (h2:valV kvs k=none ->∀ s',Inv X xC σ (upd H a (.dK (putK kvs k z))) s' ->Q r s'):
  wpAny (model X.prog X.w) A (call (.builtin "dict.setdefault") [.ref a,u,r]) Q E s:=by
 obtain ⟨zl,hd,vs,J,dd⟩:=qou I.hok e;have rv:=J.val k;refine call_meetsIn PySem.F.slot_dict_setdefault dd.typeIs PySem.F.entry_dict_setdefault (PySem.F.args_dict_setdefault_3 _ _ _) (kt_meets_setdefault (q17 X.prog X.w) a (q96 ry) hd r) ⟨vs,dd,by rw [<- J.length];exact zl,λ w' hw=> ?_,λ hn h' O hs=> ?_⟩
 ·cases Z:valV kvs k with
  | none=>
   rw [Z,hw] at rv;exact rv.elim
  | some v=>
   rw [Z,hw] at rv;exact h1 v w' _ Z (I.tok _) rv
 ·have hp:(putK kvs k z).length<=sizeLine:=by have:=q3p kvs k z;lia
  have he:∃ q,h'.get? a=some q:=let ⟨q,_,_,hq,_⟩:=O;⟨q,hq⟩
  refine h2 ?_ _ (qbt I (by rw [e];exact True.intro) hs he (qkr hp hd (J.put k rz) O));cases Z:valV kvs k with
  | none=>rfl
  | some v=>
   rw [Z,hn] at rv;exact rv.elim
end
def qyz (td ty tx:TE):TE:=λ σ H Q=>td σ H λ x H1=>∃ a,x= .ref a/\IsD H1 a/\ty σ H1 λ y H2=>tx σ H2 λ z H3=>∃ kvs k,H3 a=some (.dK kvs)/\y=kV k/\kvs.length < sizeLine/\
 (∀ v,valV kvs k=some v ->Q v H3)/\(valV kvs k=none ->Q z (upd H3 a (.dK (putK kvs k z))))
section
variable {X:Cx} {o e f:Expr} {apos cpos:Pos} {td ty tx:TE}
def ql4 (ho:PE X o td) (he:PE X e ty) (hf:PE X f tx) (m:M2 X o "setdefault" apos e f cpos):PE X (.Call (.Attribute o "setdefault" apos) [e,f] [] cpos) (qyz td ty tx):=by
 intro xC s σ H Q I h;refine wpAny_Call_method m.base m.few m.line PySem.F.plainAttrs_dict PySem.F.slot_dict_setdefault PySem.F.type_dict_setdefault (thn (ho xC s σ H _ I h) λ u s1 O=> ?_);obtain ⟨x,H1,I1,rx,a,ex,d,q1⟩:=O;subst ex;obtain rfl:u=Value.ref a:=rx;obtain ⟨t1,t2,_⟩:=qqo I1 d;refine ⟨t1,t2,?_⟩;rw [m.trees];refine Calls.callWith_builtin rfl (Calls.evalArgs_plain (Calls.spliced_cons (thn (he xC s1 σ H1 _ I1 q1) λ iv s2 ⟨y,H2,I2,ry,q2⟩=>
  Calls.spliced_cons (thn (hf xC s2 σ H2 _ I2 q2) λ fv s3 ⟨z,H3,I3,rz,kvs,k,eH,ey,hl,q3,q4⟩=>Calls.spliced_nil ?_))))
 subst ey;exact qyy I3 eH hl ry rz (λ v w' s4 ev I4 J=>⟨_,H3,I4,J,q3 v ev⟩) λ en s4 I4=>⟨z,_,I4,rz,q4 en⟩
end
end L2
namespace L2
open PySem PySem.Spec PyProof.Rows PySem.W
def q1n (w:World):Bool:=w.params.followText "set-order"
def TxS (P:Program) (w:World) (h:Heap) (a:Addr) (xs:xD):Prop:=
 ∃ o es ep t,h.get? a=some o/\o.ExactSet/\o.data= .set es ep t/\ElemsOf (strKind P w) es.toList/\es.toList.map (λ e=>sOf e.2)=xs/\xs.Nodup/\es.size < scanBound/\t.fits es.size=true/\t.led= !q1n w/\(0 < es.size ->t.plain=false)
def qx0 (t:SetTable) (j:Nat):(t.put j).1.led=t.led/\(t.put j).1.plain=t.plain:=⟨rfl,rfl⟩
def qmr (t:SetTable) (n:Nat):(t.orStandIn n).led=t.led:=by
 unfold SetTable.orStandIn SetTable.standIn;split <;> rfl
def qp4 (t:SetTable) (es:Array (Int×Value)) (h:Int) (x:Value):(layNew t es h x).2.1.led=t.led:=by
 unfold layNew;split
 ·dsimp only
  rw [qmr];exact (qx0 _ _).1
 ·rfl
def qms (t:SetTable) (es:Array (Int×Value)) (n:Nat):(relayAll t es n).2.1.led=t.led/\(t.plain=false ->(relayAll t es n).2.1.plain=false):=by
 unfold relayAll;split
 ·rename_i t' order e;have e2:t'.led=t.led/\t'.plain=t.plain:=by
   unfold SetTable.relaid SetTable.laid at e;cases q:SetTable.layClean (SetTable.sizeAbove n - 1) (es.map (·.1)) with
   | none=>
    rw [q] at e;cases e
   | some ow=>
    rw [q] at e;cases e
    exact ⟨zr,zr⟩
  dsimp only
  split
  ·exact ⟨e2.1,λ z=>e2.2.trans z⟩
  ·exact ⟨zr,λ _=>rfl⟩
 ·exact ⟨zr,λ _=>rfl⟩
section
variable {P:Program} {w:World} {A:Around} {E:xB} {s:Shared} {a:Addr} {xs:xD}
def qav {x:Str} {v:Value} (h:(strKind P w).is x v=true):sOf v=x/\∃ t,v= .str x t:=by
 obtain ⟨t,rfl⟩:=Value.isStrOf_shape (x:=x) (v:=v) h;exact ⟨zr,t,zr⟩
def ql5 {es:List (Int×Value)} (h:ElemsOf (strKind P w) es) (x:Str):x∈es.map (λ e=>sOf e.2)↔∃ e∈es,(strKind P w).is x e.2=true:=by
 constructor
 ·intro hx;obtain ⟨e,J,rfl⟩:=z44.mp hx;obtain ⟨⟨k,hk,_⟩,_⟩:=h e J;exact ⟨e,J,by rw [(qav hk).1];exact hk⟩
 ·rintro ⟨e,J,hk⟩;exact z44.mpr ⟨e,J,(qav hk).1⟩
def qhz {h:Heap} {o:Obj} {es:Array (Int×Value)} {ep:Nat} {t:SetTable} (ho:h.get? a=some o) (Z:o.ExactSet) (hd:o.data= .set es ep t)
  {J:Array (Int×Value)} {t':SetTable} (O:ElemsOf (strKind P w) J.toList) (a1:(J.toList.map λ e=>sOf e.2).Nodup) (hb:J.size < scanBound) (hf:t'.fits J.size=true) (hl:t'.led= !q1n w) (hp:t'.plain=false):
  (h.update a (Obj.putSet J t')).get? a=some {o with data:= .set J (ep+1) t'}/\TxS P w (h.update a (Obj.putSet J t')) a (J.toList.map λ e=>sOf e.2):=by
 have hg:(h.update a (Obj.putSet J t')).get? a=some {o with data:= .set J (ep+1) t'}:=by
  have:=z0y (Obj.putSet J t') ho (by rw [putSet_of J t' hd];rfl);rw [putSet_of J t' hd] at this;exact this
 exact ⟨hg,_,J,ep+1,t',hg,Z,zr,O,zr,a1,hb,hf,hl,λ _=>hp⟩
def qtd {x:Str} {t0:Tok} {Q:Bool ->Shared ->Prop} (hS:TxS P w s.heap a xs) (b8:xs.length+1 < scanBound)
  (h:∀ b h' ys,Heap.SameBut a s.heap h' ->TxS P w h' a ys ->(if x∈xs then ys=xs else ys.Perm (xs++ [x])) ->Q b {s with heap:=h'}):
  wpAny (model P w) A (setAddHashed a (.str x t0) ((strKind P w).hash x)) Q E s:=by
 obtain ⟨o,es,ep,t,ho,c4,hd,a3,a5,d5,hb,hf,b2,hpl⟩:=id hS;have a9:(strKind P w).is x (.str x t0)=true:=strKind_is P w x t0;have b9:(Value.str x t0).scannable=true:=rfl;have hn:es.size=xs.length:=by rw [<- a5,z2z,z18]
 have d3:es.size+1 < scanBound:=by rw [hn];exact b8
 unfold setAddHashed setAddHashedIn;refine z3n (z4e (z2b ho hd hf ?_))
 dsimp only
 rw [byScan_of b9 hb a3];simp only [↓reduceIte];unfold setAddByScan;refine z4e ?_;refine z4e (z4c ?_);refine z4e (wpAny_setScan_of a9 ho hd hf a3 ?_);cases hr:List.findIdx? (λ e=>(strKind P w).is x e.2) es.toList with
 | some j=>
  dsimp only
  obtain ⟨hj,d6,_⟩:=List.findIdx?_eq_some_iff_getElem.mp hr;have hm:x∈xs:=by rw [<- a5];exact (ql5 a3 x).mpr ⟨_,z2j hj,d6⟩
  refine z4d (z4d ?_);have e:s={s with heap:=s.heap}:=by cases s;rfl
  have:=h false s.heap xs (Heap.SameBut.refl a s.heap) hS (by rw [if_pos hm]);rw [e];exact this
 | none=>
  dsimp only
  have hm:¬ x∈xs:=λ hx=>by
   rw [<- a5] at hx;obtain ⟨e,he,hp⟩:=(ql5 a3 x).mp hx;have:=List.findIdx?_eq_none_iff.mp hr e he;rw [hp] at this;cases this
  have c6:∀ (b:Bool) {s₁:Shared} {Q':Unit ->Shared ->Prop},Q' () s₁ ->wpAny (model P w) A (match b with | true=>rule "set.scan.the-table-gave-way" | false=>pure ()) Q' E s₁:=
   λ b s₁ Q' hq=>by cases b <;> first | exact z4d hq | exact z4c hq
  have O:=layNew_perm t es ((strKind P w).hash x) (.str x t0);have Z:=layNew_fits t es ((strKind P w).hash x) (.str x t0);have a7:=qp4 t es ((strKind P w).hash x) (.str x t0);generalize hL:layNew t es ((strKind P w).hash x) (.str x t0)=L at O Z a7 ⊢;obtain ⟨J,t1,a1,d7⟩:=L
  dsimp only at O Z a7 ⊢
  rw [z1z] at O;have a8:ElemsOf (strKind P w) J.toList:=(a3.push a9 b9).perm O;have b7:(J.toList.map λ e=>sOf e.2).Perm (xs++ [x]):=by
   have:=O.map λ e:Int×Value=>sOf e.2;rw [z35,a5] at this;exact this
  have b3:(xs++ [x]).Nodup:=z2c.mpr ⟨d5,by simp,λ u hu v hv e=>hm (by rw [z1l.mp hv] at e;exact e ▸ hu)⟩;have a2:J.size < scanBound:=by rw [<- z18,O.length_eq,z1n,z18];simpa using d3
  refine z4e (c6 _ ?_);have tail:∀ t2:SetTable,t2.fits J.size=true ->t2.led=t1.led ->t2.plain=false ->wpAny (model P w) A (do
    storeSet a J t2
    if (!a1&&t2.tooFull)=true then do
      (match (relayAll t2 J (SetTable.grown J.size)).2.2 with | true=>rule "set.scan.the-table-gave-way" | false=>pure ())
      storeSet a (relayAll t2 J (SetTable.grown J.size)).1 (relayAll t2 J (SetTable.grown J.size)).2.1
      pure (some true)
     else pure (some true)) (λ r s'=>∃ h' ys,r=some true/\s'={s with heap:=h'}/\Heap.SameBut a s.heap h'/\TxS P w h' a ys/\ys.Perm (xs++ [x])) E s:=λ t2 d4 c7 c8=>by
   refine z4e (wpAny_storeSet_of ho hd ?_ (fits_of_scanBound a2));obtain ⟨c5,d1⟩:=qhz (P:=P) (w:=w) ho c4 hd a8 (b7.nodup_iff.mpr b3) a2 d4 (by rw [c7,a7,b2]) c8;have b5:=z1a s.heap a (Obj.putSet J t2);split
   ·have hp:=relayAll_perm t2 J (SetTable.grown J.size);have b6:=relayAll_fits t2 J (SetTable.grown J.size);have a6:=qms t2 J (SetTable.grown J.size);generalize hRl:relayAll t2 J (SetTable.grown J.size)=Rl at hp b6 a6 ⊢;obtain ⟨a4,t3,d0⟩:=Rl
    dsimp only at hp b6 a6 ⊢
    have c1:ElemsOf (strKind P w) a4.toList:=a8.perm hp;have hsz:a4.size=J.size:=by rw [<- z18,hp.length_eq,z18]
    have c0:a4.size < scanBound:=by rw [hsz];exact a2
    have c9:(a4.toList.map λ e=>sOf e.2).Perm (xs++ [x]):=(hp.map _).trans b7;refine z4e (c6 _ ?_);refine z4e (wpAny_storeSet_of c5 rfl ?_ (fits_of_scanBound c0));obtain ⟨_,d2⟩:=qhz (P:=P) (w:=w) c5 c4 rfl c1 (c9.nodup_iff.mpr b3) c0 b6 (by rw [a6.1,c7,a7,b2]) (a6.2 c8);exact z4d ⟨_,_,zr,zr,b5.trans (z1a _ a _),d2,c9⟩
   ·exact z4d ⟨_,_,zr,zr,b5,d1,b7⟩
  split
  ·rename_i b4;refine z4e ?_;rw [hashByValue_scannable 8 b9];refine z4d ?_;refine z4f (tail _ (SetTable.fits_plain_off Z) rfl rfl) (λ r s' z=> ?_) λ e s' z=>z;obtain ⟨h',ys,rfl,rfl,h1,h2,h3⟩:=z;exact z4d (h true h' ys h1 h2 (by rw [if_neg hm];exact h3))
  ·rename_i b4;refine z4e (z4d ?_);simp only [↓reduceIte];refine z4f (tail t1 Z rfl (by simpa using b4)) (λ r s' z=> ?_) λ e s' z=>z;obtain ⟨h',ys,rfl,rfl,h1,h2,h3⟩:=z;exact z4d (h true h' ys h1 h2 (by rw [if_neg hm];exact h3))
end
def TxS.keep {P:Program} {w:World} {h h':Heap} {a:Addr} {xs:xD} (x:TxS P w h a xs) (k:∀ o,h.get? a=some o ->h'.get? a=some o):TxS P w h' a xs:=by
 obtain ⟨o,es,ep,t,ho,r⟩:=x;exact ⟨o,es,ep,t,k o ho,r⟩
section
variable {prog:Program} {w:World} {A:Around} {R:Result ->Shared ->Prop} {I:Addr} {fp wr:List Addr} {G:Array GenState ->Array GenState ->Prop} {n:Nat} {P:Nat ->Value ->Prop} {St:Nat ->Shared ->Prop}
def InS (val:Nat ->Str) (i:Nat) (ys:xD):Prop:=(∀ x,x∈ys↔∃ j,j < i/\val j=x)/\ys.length<=i
def InS.next {val:Nat ->Str} {i:Nat} {ys zs:xD} (h:InS val i ys) (e:if val i∈ys then zs=ys else zs.Perm (ys++ [val i])):InS val (i+1) zs:=by
 have step:∀ x,(∃ j,j < i+1/\val j=x)↔(∃ j,j < i/\val j=x)\/ x=val i:=λ x=>by
  constructor
  ·rintro ⟨j,hj,rfl⟩;rcases Nat.lt_or_ge j i with h1 | h1
   ·exact .inl ⟨j,h1,zr⟩
   ·exact .inr (by rw [show j=i by lia])
  ·rintro (⟨j,hj,rfl⟩ | rfl)
   ·exact ⟨j,by lia,zr⟩
   ·exact ⟨i,z2k _,zr⟩
 by_cases c:val i∈ys
 ·rw [if_pos c] at e;subst e;refine ⟨λ x=> ?_,Nat.le_succ_of_le h.2⟩;rw [step,<- h.1 x];exact ⟨.inl,λ z=>z.elim id λ q=>q ▸ c⟩
 ·rw [if_neg c] at e;refine ⟨λ x=> ?_,?_⟩
  ·rw [step,e.mem_iff,z2t,z1l,h.1 x]
  ·rw [e.length_eq,z1n];exact z2p h.2
def ql6 (W:WalksS prog w A.in1 I fp wr G n P St) (S:Addr) (a2:S∉fp) (val:Nat ->Str) (a8:∀ i v,P i v ->∃ t,v= .str (val i) t) (hb:n+1 < scanBound):
  ∀ (k i:Nat) (s:Shared) (ys:xD),n - i=k ->i<=n ->St i s ->TxS prog w s.heap S ys ->InS val i ys ->
   (∀ s' zs,Moved (S::wr) G s s' ->TxS prog w s'.heap S zs ->InS val n zs ->R (.ok (.ret .none)) s') ->
   codeAny (model prog w) A (.builtin "set.update.loop" ⟨[.ref S,.ref I],[]⟩) R s:=by
 have a3:S∉wr:=λ h=>a2 (W.sub _ h);have O:∀ b∈wr,b∈S::wr:=λ b hb=>z15 _ hb;intro k
 induction k with
 | zero=>
  intro i s ys hk hi Z hS J hR;have e:i=n:=by lia
  subst e;refine z38 F.entry_set_update_loop ?_;rw [Around.under_plainId F.plain_set_update_loop _];show wpAny _ A.in1 (pyNext (.ref I) >>=_) _ _ s;refine z4e (W.done s _ _ Z λ s' hm=> ?_);show wpAny _ A.in1 (ret Value.none) _ _ s';exact z4d (hR s' ys (hm.mono O) (hS.keep λ o e=>hm.heap S o a3 e) J)
 | succ k ih=>
  intro i s ys hk hi Z hS J hR;have a4:i < n:=by lia
  refine z38 F.entry_set_update_loop ?_;rw [Around.under_plainId F.plain_set_update_loop _];show wpAny _ A.in1 (pyNext (.ref I) >>=_) _ _ s;refine z4e (W.item i s _ _ a4 Z λ v s' hP a7 hm=> ?_);obtain ⟨t,rfl⟩:=a8 i v hP;have a9:TxS prog w s'.heap S ys:=hS.keep λ o e=>hm.heap S o a3 e;show wpAny _ A.in1 (holding [Value.str (val i) t] (setAdd S (.str (val i) t)) >>=_) _ _ s';refine z4e (z3n ?_);unfold setAdd;refine z3n ?_;refine z4e ((strKind prog w).pyHash (k:=val i) (strKind_is _ _ _ _) ?_);refine qtd (s:={s' with toks:=s'.toks+1}) a9 (by have:=J.2;lia) λ b h' zs a6 b2 hz=> ?_;refine z4d ⟨plainId_quiet F.plain_set_update_loop _,ih (i+1) _ zs (by lia) a4 (W.frame _ s' _ _ a7 (Nat.le_succ _) λ b hb o e=> ?_) b2 (J.next hz) λ b3 us a5 a1 hu=> ?_⟩
  ·rw [a6.2 b (λ h:b=S=>a2 (by rw [<- h];exact hb))];exact e
  ·refine hR b3 us (Moved.trans W.gtrans ((hm.mono O).then_heap (Nat.le_succ _) λ b o hb e=> ?_) a5) a1 hu;rw [a6.2 b (λ h:b=S=>hb (by rw [h];exact z1o))];exact e
end
def qa0 {prog:Program} {w:World} {A:Around} {E:xB} {s:Shared} (a:Value) {Q₁:xB}
  (h:Q₁ (.ref s.heap.objs.size) {s with heap:=s.heap.push {cls:= .type "set",dict:=none,data:= .set #[] 0 (.fresh 0 0 (!q1n w))}}):
  codeAny (model prog w) A (.call (.builtin "set.__new__") ⟨[.type "set",a],[]⟩) (wants Q₁ E) s:=by
 refine codeAny_of_tree ?_;show wpAny _ A.in1 (do checkBuiltinCall "set.__new__" ⟨[.type "set",a],[]⟩;again (.builtin "set.__new__" ⟨[.type "set",a],[]⟩)) _ _ s;refine z4e (wpAny_of_eq (PySem.F.newCall_set_1 a) (z4d ⟨plainId_quiet F.plain_set_new _,z38 F.entry_set_new ?_⟩));rw [Around.under_plainId F.plain_set_new _];unfold Builtin.«set.__new__» Builtin.Frozenset.newClass;have J:=sub_set_self;obtain ⟨hp,g,d,tk,os⟩:=s
 dsimp only
 wp_walk
 refine z2r (z4d ?_)
 dsimp only
 simp only [newObj];refine z4e (wpAny_alloc (z4d ?_));exact z4d h
def qi0 {P:Program} {w:World} {h:Heap} {a:Addr} (e:h.get? a=some {cls:= .type "set",dict:=none,data:= .set #[] 0 (.fresh 0 0 (!q1n w))}):TxS P w h a []:=
 ⟨_,#[],0,_,e,⟨rfl,rfl,rfl⟩,rfl,λ e he=>by simp at he,rfl,z3f,by decide,by rfl,rfl,λ z=>absurd z (by decide)⟩
def qra {vs:xH} {ws:xD} (h:StrsAre vs ws) (i:Nat) (v:Value) (e:vs[i]? =some v):∃ t,v= .str (ws.getD i "") t:=by
 induction h generalizing i with
 | nil=>simp at e
 | cons x t hr ih=>
  cases i with
  | zero=>
   simp at e
   exact ⟨t,e.symm⟩
  | succ i=>exact ih i (by simpa using e)
def sub_list_set':isSubtype (.type "list") (.type "set")=pure false:=by rw [isSubtype_type];kernel_rfl
def sub_list_frozenset':isSubtype (.type "list") (.type "frozenset")=pure false:=by rw [isSubtype_type];kernel_rfl
section
variable {prog:Program} {w:World} {A:Around} {E:xB} {s:Shared}
set_option maxHeartbeats 3200000 in
def qrb {l:Addr} {J:Array Value} {ws:xD} {Q:xB} (hh:A.handled=none) (hl:s.heap.IsList l J) (hi:StrsAre J.toList ws) (hb:J.size+1 < scanBound)
  (h:∀ (h':Heap) (tk:Nat) (ys:xD),TxS prog w h' s.heap.objs.size ys ->InS (λ i=>ws.getD i "") J.size ys ->(∀ b o,b < s.heap.objs.size ->s.heap.get? b=some o ->h'.get? b=some o) ->Q (.ref s.heap.objs.size) {s with heap:=h',toks:=tk}):
  wpAny (model prog w) A (call (.type "set") [.ref l]) Q E s:=by
 obtain ⟨c,tl,c6⟩:=PySem.F.called_set.mro;have c0:=PySem.F.called_set.made;have c9:=PySem.F.called_set.sub;refine wpAny_call (codeAny_of_tree ?_);show wpAny _ _ (callAny (.type "set") _) _ _ _;refine z4d ⟨Code.quiet_builtin _ (by decide+kernel),z38 PySem.F.entry_type_call ?_⟩;rw [Around.under_plain (weight_type_call_type "set" [.ref l] []) rfl];have h1:=PySem.F.called_set.notType;have h2:=PySem.F.called_set.canCreate;have hct:=PySem.F.typeCall_set_1 (.ref l)
 repeat (any_goals (first | assumption | wp_step))
 refine z42 (qa0 (.ref l) (E:=E) (Q₁:=λ obj s₁=>obj= .ref s.heap.objs.size/\s₁={s with heap:=s.heap.push {cls:= .type "set",dict:=none,data:= .set #[] 0 (.fresh 0 0 (!q1n w))}}) ⟨rfl,rfl⟩) λ r s₁ hr=> ?_;cases r with
 | error e=>exact hr
 | ok fl=>
  cases fl with
  | ret obj=>
   obtain ⟨rfl,rfl⟩:=hr;have hS:(s.heap.push {cls:= .type "set",dict:=none,data:= .set #[] 0 (.fresh 0 0 (!q1n w))}).get? s.heap.objs.size=some {cls:= .type "set",dict:=none,data:= .set #[] 0 (.fresh 0 0 (!q1n w))}:=z1b _ rfl;have hT:Shared.TypeIs {s with heap:=s.heap.push {cls:= .type "set",dict:=none,data:= .set #[] 0 (.fresh 0 0 (!q1n w))}} (.ref s.heap.objs.size) "set":=⟨_,hS,rfl⟩;have hli:=PySem.F.called_set.init.lookup;have hbi:=PySem.F.called_set.init.bind (.ref s.heap.objs.size)
   repeat (any_goals (first | assumption | wp_step))
   refine z42 (codeAny_call_builtin (R:=wants (λ r s₂=>r= .none/\∃ h' tk ys,s₂={s with heap:=h',toks:=tk}/\TxS prog w h' s.heap.objs.size ys/\InS (λ i=>ws.getD i "") J.size ys/\
     (∀ b o,b < s.heap.objs.size ->s.heap.get? b=some o ->h'.get? b=some o)) E) PySem.F.called_set.init.plain PySem.F.entry_set_init (check_set_init_1 hT ?_)) λ r₂ s₂ a1=> ?_
   ·obtain ⟨ol,a8,a3,nl,a4⟩:=hl;obtain ⟨d0,a2,c1,O⟩:=ol;simp only at a3 a4;subst a3;subst a4;have a9:(s.heap.push {cls:= .type "set",dict:=none,data:= .set #[] 0 (.fresh 0 0 (!q1n w))}).get? l=some {cls:= .type "list",dict:=a2,data:= .seq J nl,slots:=O}:=z0n _ a8;have c8:=sub_list_set';have c7:=sub_list_frozenset';have hne:(Value.type "list"==Value.type "dict")=false:=by decide
    have a5:(s.heap.push {cls:= .type "set",dict:=none,data:= .set #[] 0 (.fresh 0 0 (!q1n w))}).IsList l J:=⟨_,a9,rfl,nl,rfl⟩;unfold Builtin.«set.__init__» noKeywords Builtin.Frozenset.updateFrom;generalize b4:pyIter=PI
    wp_walk
    subst b4;refine z24 a5 ?_;refine z4e (wpAny_runValue ?_);have a6:l < s.heap.objs.size:=z3y a8;have b8:A.in1.in1.in1.handled=none:=by simp [hh]
    have a7:l≠(s.heap.push {cls:= .type "set",dict:=none,data:= .set #[] 0 (.fresh 0 0 (!q1n w))}).objs.size:=by
     rw [z3e];exact z3z (z2d a6)
    have b5:s.heap.objs.size∉ [(s.heap.push {cls:= .type "set",dict:=none,data:= .set #[] 0 (.fresh 0 0 (!q1n w))}).objs.size,l]:=by
     rw [z3e];simp only [z3m,z1l,z2q,or_false,not_or];exact ⟨z3z (z2k _),z41 a6⟩
    have b2:∀ (i:Nat) (v:Value),J[i]? =some v ->∃ t,v= .str ((λ i=>ws.getD i "") i) t:=λ i v hv=>qra hi i v (by rw [z0w];exact hv);refine ql6 ((Walks.list b8 _ l a7 J).toS) s.heap.objs.size b5 (λ i=>ws.getD i "") b2 hb (J.size - 0) 0 _ [] (by lia) (z4a _)
     ⟨⟨_,z1b _ rfl,rfl,rfl⟩,(a5.push _)⟩ (qi0 (z0n _ hS)) ⟨λ x=>⟨(λ z=>nomatch z),λ ⟨j,z,_⟩=>absurd z (Nat.not_lt_zero _)⟩,z47 _⟩ ?hR
    case hR=>
     intro s' zs hm Z hz;obtain ⟨h',g',d',c5,c4⟩:=s';have eg:g'=s.gens:=hm.gens;have ed:d'=s.drawn:=hm.drawn;have eo:c4=s.os:=hm.os;subst eg;subst ed;subst eo;show wpAny _ _ _ _ _ _;refine z4d ?_;show wpAny _ _ (ret Value.none) _ _ _;refine z4d ⟨zr,h',c5,zs,zr,Z,hz,λ b o hb e=> ?_⟩;have b6:b≠s.heap.objs.size:=z3z hb;have b7:b≠(s.heap.push {cls:= .type "set",dict:=none,data:= .set #[] 0 (.fresh 0 0 (!q1n w))}).objs.size:=by
      rw [z3e];exact z3z (z2d hb)
     exact hm.heap b o (by simp only [z3m,z1l,z2q,or_false,not_or];exact ⟨b6,b7⟩) (z0n _ (z0n _ e))
   ·cases r₂ with
    | error e=>exact a1
    | ok b3=>
     cases b3 with
     | ret r=>
      obtain ⟨rfl,h',tk,ys,rfl,Z,hz,b9⟩:=a1
      repeat (any_goals (first | assumption | wp_step))
      exact h _ _ _ Z hz b9
     | _=>exact a1.elim
  | _=>exact hr.elim
end
def sub_tuple_set':isSubtype (.type "tuple") (.type "set")=pure false:=by rw [isSubtype_type];kernel_rfl
def sub_tuple_frozenset':isSubtype (.type "tuple") (.type "frozenset")=pure false:=by rw [isSubtype_type];kernel_rfl
section
variable {prog:Program} {w:World} {A:Around} {E:xB} {s:Shared}
set_option maxHeartbeats 3200000 in
def qp5 {l:Addr} {J:Array Value} {ws:xD} {Q:xB} (hh:A.handled=none) (hl:s.heap.IsTuple l J) (hi:StrsAre J.toList ws) (hb:J.size+1 < scanBound)
  (h:∀ (h':Heap) (tk:Nat) (ys:xD),TxS prog w h' s.heap.objs.size ys ->InS (λ i=>ws.getD i "") J.size ys ->(∀ b o,b < s.heap.objs.size ->s.heap.get? b=some o ->h'.get? b=some o) ->Q (.ref s.heap.objs.size) {s with heap:=h',toks:=tk}):
  wpAny (model prog w) A (call (.type "set") [.ref l]) Q E s:=by
 obtain ⟨c,tl,c6⟩:=PySem.F.called_set.mro;have c0:=PySem.F.called_set.made;have c9:=PySem.F.called_set.sub;refine wpAny_call (codeAny_of_tree ?_);show wpAny _ _ (callAny (.type "set") _) _ _ _;refine z4d ⟨Code.quiet_builtin _ (by decide+kernel),z38 PySem.F.entry_type_call ?_⟩;rw [Around.under_plain (weight_type_call_type "set" [.ref l] []) rfl];have h1:=PySem.F.called_set.notType;have h2:=PySem.F.called_set.canCreate;have hct:=PySem.F.typeCall_set_1 (.ref l)
 repeat (any_goals (first | assumption | wp_step))
 refine z42 (qa0 (.ref l) (E:=E) (Q₁:=λ obj s₁=>obj= .ref s.heap.objs.size/\s₁={s with heap:=s.heap.push {cls:= .type "set",dict:=none,data:= .set #[] 0 (.fresh 0 0 (!q1n w))}}) ⟨rfl,rfl⟩) λ r s₁ hr=> ?_;cases r with
 | error e=>exact hr
 | ok fl=>
  cases fl with
  | ret obj=>
   obtain ⟨rfl,rfl⟩:=hr;have hS:(s.heap.push {cls:= .type "set",dict:=none,data:= .set #[] 0 (.fresh 0 0 (!q1n w))}).get? s.heap.objs.size=some {cls:= .type "set",dict:=none,data:= .set #[] 0 (.fresh 0 0 (!q1n w))}:=z1b _ rfl;have hT:Shared.TypeIs {s with heap:=s.heap.push {cls:= .type "set",dict:=none,data:= .set #[] 0 (.fresh 0 0 (!q1n w))}} (.ref s.heap.objs.size) "set":=⟨_,hS,rfl⟩;have hli:=PySem.F.called_set.init.lookup;have hbi:=PySem.F.called_set.init.bind (.ref s.heap.objs.size)
   repeat (any_goals (first | assumption | wp_step))
   refine z42 (codeAny_call_builtin (R:=wants (λ r s₂=>r= .none/\∃ h' tk ys,s₂={s with heap:=h',toks:=tk}/\TxS prog w h' s.heap.objs.size ys/\InS (λ i=>ws.getD i "") J.size ys/\
     (∀ b o,b < s.heap.objs.size ->s.heap.get? b=some o ->h'.get? b=some o)) E) PySem.F.called_set.init.plain PySem.F.entry_set_init (check_set_init_1 hT ?_)) λ r₂ s₂ a1=> ?_
   ·obtain ⟨ol,a8,a3,nl,a4⟩:=hl;obtain ⟨d0,a2,c1,O⟩:=ol;simp only at a3 a4;subst a3;subst a4;have a9:(s.heap.push {cls:= .type "set",dict:=none,data:= .set #[] 0 (.fresh 0 0 (!q1n w))}).get? l=some {cls:= .type "tuple",dict:=a2,data:= .seq J nl,slots:=O}:=z0n _ a8;have c8:=sub_tuple_set';have c7:=sub_tuple_frozenset';have hne:(Value.type "tuple"==Value.type "dict")=false:=by decide
    have a5:(s.heap.push {cls:= .type "set",dict:=none,data:= .set #[] 0 (.fresh 0 0 (!q1n w))}).IsTuple l J:=⟨_,a9,rfl,nl,rfl⟩;unfold Builtin.«set.__init__» noKeywords Builtin.Frozenset.updateFrom;generalize b4:pyIter=PI
    wp_walk
    subst b4;refine wpAny_pyIter_tuple a5 ?_;refine z4e (wpAny_runValue ?_);have a6:l < s.heap.objs.size:=z3y a8;have b8:A.in1.in1.in1.handled=none:=by simp [hh]
    have a7:l≠(s.heap.push {cls:= .type "set",dict:=none,data:= .set #[] 0 (.fresh 0 0 (!q1n w))}).objs.size:=by
     rw [z3e];exact z3z (z2d a6)
    have b5:s.heap.objs.size∉ [(s.heap.push {cls:= .type "set",dict:=none,data:= .set #[] 0 (.fresh 0 0 (!q1n w))}).objs.size,l]:=by
     rw [z3e];simp only [z3m,z1l,z2q,or_false,not_or];exact ⟨z3z (z2k _),z41 a6⟩
    have b2:∀ (i:Nat) (v:Value),J[i]? =some v ->∃ t,v= .str ((λ i=>ws.getD i "") i) t:=λ i v hv=>qra hi i v (by rw [z0w];exact hv);refine ql6 ((Walks.tuple b8 _ l a7 J).toS) s.heap.objs.size b5 (λ i=>ws.getD i "") b2 hb (J.size - 0) 0 _ [] (by lia) (z4a _)
     ⟨⟨_,z1b _ rfl,rfl,rfl⟩,(a5.push _)⟩ (qi0 (z0n _ hS)) ⟨λ x=>⟨(λ z=>nomatch z),λ ⟨j,z,_⟩=>absurd z (Nat.not_lt_zero _)⟩,z47 _⟩ ?hR
    case hR=>
     intro s' zs hm Z hz;obtain ⟨h',g',d',c5,c4⟩:=s';have eg:g'=s.gens:=hm.gens;have ed:d'=s.drawn:=hm.drawn;have eo:c4=s.os:=hm.os;subst eg;subst ed;subst eo;show wpAny _ _ _ _ _ _;refine z4d ?_;show wpAny _ _ (ret Value.none) _ _ _;refine z4d ⟨zr,h',c5,zs,zr,Z,hz,λ b o hb e=> ?_⟩;have b6:b≠s.heap.objs.size:=z3z hb;have b7:b≠(s.heap.push {cls:= .type "set",dict:=none,data:= .set #[] 0 (.fresh 0 0 (!q1n w))}).objs.size:=by
      rw [z3e];exact z3z (z2d hb)
     exact hm.heap b o (by simp only [z3m,z1l,z2q,or_false,not_or];exact ⟨b6,b7⟩) (z0n _ (z0n _ e))
   ·cases r₂ with
    | error e=>exact a1
    | ok b3=>
     cases b3 with
     | ret r=>
      obtain ⟨rfl,h',tk,ys,rfl,Z,hz,b9⟩:=a1
      repeat (any_goals (first | assumption | wp_step))
      exact h _ _ _ Z hz b9
     | _=>exact a1.elim
  | _=>exact hr.elim
end
theorem q9h {α:Type}:∀ (l:List α) (i:Nat) (h:i < l.length),(l[i]::l.eraseIdx i).Perm l
 | x::r,0,_=> .refl _
 | x::r,i+1,h=>(List.Perm.swap x _ _).trans (List.Perm.cons x (q9h r i (Nat.lt_of_succ_lt_succ h)))
section
variable {M:Model} {A:Around} {E:xB}
def qp6 {s:Shared} {J:Source} {n:Nat} {Q:Nat ->Shared ->Prop} (hn:n≠0) (h:∀ i d,i < n ->Q i {s with drawn:=d}):wpAny M A (choose J n) Q E s:=
 λ _ _ _=>⟨hn,h _ _ (Nat.mod_lt _ (Nat.pos_of_ne_zero hn))⟩
theorem ql7 {α:Type}:∀ (n:Nat) (xs:List α) (s:Shared) (Q:List α ->Shared ->Prop),n=xs.length ->(∀ ys d,ys.Perm xs ->Q ys {s with drawn:=d}) ->wpAny M A (drawOrder n xs) Q E s
 | 0,xs,s,Q,e,h=>by
  have:xs=[]:=z0j.mp e.symm;subst this;exact z4d (h [] s.drawn (.refl _))
 | n+1,[],s,Q,e,h=>by cases e
 | n+1,x::r,s,Q,e,h=>by
  unfold drawOrder;refine z4e (qp6 (by simp) λ i d hi=> ?_);have hx:(x::r)[i]? =some (x::r)[i]:=z0c hi;rw [hx]
  dsimp only
  refine z4e (ql7 n _ _ _ (by rw [List.length_eraseIdx,if_pos hi];exact (Nat.succ.inj e)) λ ys d2 hp=>z4d ?_);exact h _ d2 ((List.Perm.cons _ hp).trans (q9h _ _ hi))
end
theorem qnq {α:Type} (next:Nat ->Nat):∀ (n k:Nat) (left:List α) (out:Array α),n=left.length ->(pickOrder.go next n k left out).toList.Perm (out.toList++left)
 | 0,k,left,out,e=>by
  have:left=[]:=z0j.mp e.symm;subst this;unfold pickOrder.go;rw [z30]
 | n+1,k,left,out,e=>by
  unfold pickOrder.go;have hi:next k%left.length < left.length:=Nat.mod_lt _ (by lia);rw [z0c hi]
  dsimp only
  refine (qnq next n (k+1) _ _ (by rw [List.length_eraseIdx,if_pos hi];lia)).trans ?_;rw [z1z,z1x];exact List.Perm.append_left _ (q9h _ _ hi)
def q8b {α:Type} (next:Nat ->Nat) (xs:Array α):(pickOrder next xs).toList.Perm xs.toList:=by
 unfold pickOrder;have:=qnq next xs.size 0 xs.toList #[] (by simp)
 simpa using this
section
variable {prog:Program} {w:World} {A:Around} {E:xB} {s:Shared} {a:Addr}
def qmt {o:Obj} {es:Array (Int×Value)} {ep:Nat} {t:SetTable} {Q:Bool ->Shared ->Prop} (ho:s.heap.get? a=some o) (hd:o.data= .set es ep t) (hf:t.fits es.size=true) (h:Q (!q1n w&&(!t.plain&&decide (es.size > 1))) s):
  wpAny (model prog w) A (setDrawn a) Q E s:=by
 unfold setDrawn setsByText;refine z4e (z2b ho hd hf ?_);exact z4e (z4e (z2r (z4d (z4d h))))
end
def q2g:Slot "set_iterator" "__next__" "set_iterator.__next__":=
 .of (owner:="set_iterator") (n:="__next__") (by rw [typeLookup_type,builtinLookup_eq_fast];kernel_rfl) (by decide+kernel) (by decide+kernel) (by decide+kernel)
  (by first | exact .inl (by decide+kernel) | exact .inr (by decide+kernel)) (by rw [isSubtype_type];kernel_rfl)
def q6f:entryFor table "set_iterator.__next__"=some Builtin.«set_iterator.__next__»:=entryFor_of_tree (by kernel_rfl)
def ql8:Manifest.owners.lookup (String.ofList ['r','o','t','a','r','e','t','i','_','t','e','s'].reverse)=some Manifest.sig_set_iterator:=by kernel_rfl
def q7f (a:Value):argsOk "set_iterator.__next__" ⟨[a],[]⟩:=by
 unfold argsOk;rw [signature?_of (id:="set_iterator.__next__") (n:=['_','_','t','x','e','n','_','_']) (o:=['r','o','t','a','r','e','t','i','_','t','e','s']) (by kernel_rfl) ql8]
 kernel_rfl
def qg4:entryFor table "set.__iter__"=some Builtin.«frozenset.__iter__»:=entryFor_alias (id':="frozenset.__iter__") (by kernel_rfl) rfl (by decide+kernel) (by kernel_rfl)
section
variable {prog:Program} {w:World} {A:Around} {E:xB} {s:Shared} {a I:Addr} {es:Array (Int×Value)} {ep:Nat} {t:SetTable}
def q2i (first:Value) (i:Nat) (a:Addr) (n ep:Nat):Obj:={cls:= .type "set_iterator",data:= .fields #[first,.int i 0,.ref a,.int n 0,.int ep 0]}
def q65 (ps:List Nat):Obj:={cls:= .type "tuple",data:= .seq (ps.map λ (i:Nat)=>rawInt i).toArray}
def qte {o:Obj} {Q:xB} (ho:s.heap.get? a=some o) (O:o.ExactSet) (hd:o.data= .set es ep t) (hf:t.fits es.size=true) (hsz:es.size<=sizeLine)
  (h1:(!q1n w&&(!t.plain&&decide (es.size > 1)))=true ->∀ (ps:List Nat) (d:Drawn),ps.Perm (List.range es.size) ->Q (.ref (s.heap.objs.size+1)) {s with heap:=(s.heap.push (q65 ps)).push (q2i (.ref s.heap.objs.size) 0 a es.size ep),drawn:=d})
  (h0:(!q1n w&&(!t.plain&&decide (es.size > 1)))=false ->Q (.ref s.heap.objs.size) {s with heap:=s.heap.push (q2i (.int 0 0) 0 a es.size ep)}):wpAny (model prog w) A (pyIter (.ref a)) Q E s:=by
 have ty:s.TypeIs (.ref a) "set":=⟨o,ho,O.1⟩;refine wpAny_pyIter_slot ty PySem.F.slot_set_iter (z2n PySem.F.slot_set_iter ty qg4 ?_ (PySem.F.args_set_iter_1 _));unfold Builtin.«frozenset.__iter__» Builtin.Frozenset.slot0 Builtin.Frozenset.sizeOf;refine z4e (z4e ?_);show wpAny _ _ (pure (Value.ref a,([]:xH))) _ _ s;refine z4d ?_;refine z4d ?_;refine z4e (z4e (z1g ho hd hf (z4d ?_)));refine z4e (qmt ho hd hf ?_);have fin:∀ (first:Value) (J:Shared),(∀ Z,s.heap.get? a=some Z ->J.heap.get? a=some Z) ->Q (.ref J.heap.objs.size) {J with heap:=J.heap.push (q2i first 0 a es.size ep)} ->
   wpAny (model prog w) A.in1 (do ret (<- newFields "set_iterator" [first,rawInt 0,.ref a,rawInt es.size,rawInt (<- setEpoch a)])) (λ fin s'=>∃ v,fin=Fin.done (Flow.ret v)/\∃ T' r,s'.TypeIs v T'/\typeLookup (.type T') "__next__"=pure (some r)/\Q v s') E J:=λ first J hk hq=>by
  refine z4e (wpAny_setEpoch_of (hk _ ho) hd hf ?_);refine z4e (z27 (z4d ⟨_,zr,"set_iterator",_,⟨_,z1b _ rfl,zr⟩,q2g.lookup,?_⟩))
  simpa [rawInt,q2i] using hq
 cases hc:(!q1n w&&(!t.plain&&decide (es.size > 1))) with
 | true=>
  simp only [if_true];refine z4e (ql7 es.size _ _ _ (by simp) λ ps d hp=> ?_);simp only [newTuple];refine z4e (z27 ?_ ?_)
  ·refine fin _ _ (λ Z e=>z0n _ e) ?_;have:=h1 hc ps d hp;show Q (.ref (s.heap.push (q65 ps)).objs.size) {s with heap:=(s.heap.push (q65 ps)).push (q2i (.ref s.heap.objs.size) 0 a es.size ep),drawn:=d};rw [z3e];exact this
  ·show (List.map (λ (i:Nat)=>rawInt i) ps).toArray.size<=sizeLine;rw [z22,z2z,hp.length_eq,z28];exact hsz
 | false=>
  simp only [z1j,if_false];refine z4e (z4d ?_);exact fin _ s (λ _ e=>e) (h0 hc)
end
section
variable {prog:Program} {w:World} {A:Around} {E:xB} {s:Shared} {a I T:Addr} {es:Array (Int×Value)} {ep i:Nat} {t:SetTable} {o:Obj}
def qir {ps:List Nat} {p:Nat} {h:Int} {x:Value} {Q:Option Value ->Shared ->Prop} (J:s.heap.get? I=some (q2i (.ref T) i a es.size ep)) (hT:s.heap.get? T=some (q65 ps)) (ho:s.heap.get? a=some o) (hd:o.data= .set es ep t) (hf:t.fits es.size=true)
  (hp:ps[i]? =some p) (hx:es[p]? =some (h,x))
  (q:∀ h',h'.get? I=some (q2i (.ref T) (i+1) a es.size ep) ->Heap.SameBut I s.heap h' ->Q (some x) {s with heap:=h'}):wpAny (model prog w) A (pyNext (.ref I)) Q E s:=by
 have ty:s.TypeIs (.ref I) "set_iterator":=⟨_,J,rfl⟩;unfold pyNext;refine z4e (z3l (wpAny_callSpecial?_slot (name:=Str.ofString "__next__") ty q2g (z2n q2g ty q6f ?_ (q7f _))));unfold Builtin.«set_iterator.__next__»;refine z4e (z4d ?_);refine z4e (wpAny_fieldsOf J rfl ?_)
 dsimp only [z1f]
 refine z4e (z1g ho hd hf ?_);rw [if_neg (by simp)];have O:((ps.map λ (i:Nat)=>rawInt i).toArray)[i]? =some (rawInt p):=by
  rw [List.getElem?_toArray,z21,hp];rfl
 refine z4e (wpAny_seqItems hT rfl ?_)
 dsimp only
 rw [z25,O];show wpAny _ _ (setNextDrawn a ((p:Int)).toNat ((ep:Int)).toNat >>=_) _ _ s;rw [z25,z25];unfold setNextDrawn;refine z4e (z4e (z2b ho hd hf ?_))
 dsimp only
 rw [if_neg (by simp),hx];refine z4d ?_;refine z4e (z3h J rfl (by simp) ?_);refine z4d ⟨_,zr,z4d (q _ ?_ (z1a ..))⟩;have:=z0y (Obj.mapFields (·.setIfInBounds 1 (rawInt ((i:Int)+1)))) J rfl;exact this
def qeo {Q:Option Value ->Shared ->Prop} (hh:A.handled=none) (q:∀ h',(∀ b o,s.heap.get? b=some o ->h'.get? b=some o) ->Q none {s with heap:=h'}):
  wpAny (model prog w) A.in1 (newExc (.type "StopIteration") [] >>=raiseNew (α:=Fin)) (λ fin s'=>∃ v,fin=Fin.done (Flow.ret v)/\wpAny (model prog w) A (pure (some v)) Q E s')
   (λ e s'=>wpAny (model prog w) A (do let d <- isInstance e (.type "StopIteration");if d=true then pure none else throw e) Q E s') s:=by
 refine z4e ?_;simp only [newExc,newTuple];refine z4e (z27 ?_ (by size_fits));refine z4e (m:=firstArgMember _ _) (wpAny_of_eq (a:=Value.none) (by first | rfl | (simp only [firstArgMember];rfl)) ?_);refine z27 ?_ (by size_fits);simp only [raiseNew];refine z4e (wpAny_handled ?_);rw [show A.in1.handled=none from hh];refine z4e (z4d (wpAny_throw ?_));refine z4e (wpAny_isInstance (T:="StopIteration") (b:=true) ⟨_,z1b _ rfl,zr⟩ isSubtype_stop ?_);exact z4d (q _ λ b o e=>z0n _ (z0n _ e))
def ql9 {ps:List Nat} {Q:Option Value ->Shared ->Prop} (hh:A.handled=none) (J:s.heap.get? I=some (q2i (.ref T) i a es.size ep)) (hT:s.heap.get? T=some (q65 ps)) (ho:s.heap.get? a=some o) (hd:o.data= .set es ep t) (hf:t.fits es.size=true)
  (hp:ps[i]? =none) (q:∀ h',(∀ b o,b≠I ->s.heap.get? b=some o ->h'.get? b=some o) ->Q none {s with heap:=h'}):wpAny (model prog w) A (pyNext (.ref I)) Q E s:=by
 have ty:s.TypeIs (.ref I) "set_iterator":=⟨_,J,rfl⟩;unfold pyNext;refine z4e (z3l (wpAny_callSpecial?_slot (name:=Str.ofString "__next__") ty q2g (z2n q2g ty q6f ?_ (q7f _))));unfold Builtin.«set_iterator.__next__»;refine z4e (z4d ?_);refine z4e (wpAny_fieldsOf J rfl ?_)
 dsimp only [z1f]
 refine z4e (z1g ho hd hf ?_);rw [if_neg (by simp)];have O:((ps.map λ (i:Nat)=>rawInt i).toArray)[i]? =none:=by
  rw [List.getElem?_toArray,z21,hp];rfl
 refine z4e (wpAny_seqItems hT rfl ?_)
 dsimp only
 rw [z25,O]
 dsimp only
 have g1:=z0y (Obj.mapFields (·.setIfInBounds 0 (rawInt 0))) J rfl;refine z4e (z3h J rfl (by simp) ?_);refine z4e (z3h g1 rfl (by simp) ?_);refine qeo hh λ h' k=>q h' λ b o hb e=>k b o ?_;exact (((z1a ..).trans (z1a ..)).2 b hb).trans e
def qz0 (w:World) (a:Addr) (es:Array (Int×Value)) (ep:Nat) (t:SetTable) (k i:Nat) (nx:Option (Value×Nat)):Prop:=
 (q1n w=true/\nx=((pickOrder (w.params.setOrder a ep) es)[i]?).map λ e=>(e.2,k))\/
 (q1n w=false/\(!t.plain&&decide (es.size > 1))=false/\(!t.led&& !es.isEmpty)=false/\nx=match es[SetTable.below t.place k]?,t.place[SetTable.below t.place k]? with
  | some (_,x),some j=>some (x,j+1)
  | _,_=>none)
def q9i {k:Nat} {nx:Option (Value×Nat)} {Q:Option Value ->Shared ->Prop} (hh:A.handled=none) (hI:s.heap.get? I=some (q2i (.int k 0) i a es.size ep)) (ho:s.heap.get? a=some o) (hd:o.data= .set es ep t) (hf:t.fits es.size=true) (hn:qz0 w a es ep t k i nx)
  (q1:∀ x j h',nx=some (x,j) ->h'.get? I=some (q2i (.int j 0) (i+1) a es.size ep) ->Heap.SameBut I s.heap h' ->Q (some x) {s with heap:=h'})
  (q0:nx=none ->∀ h',(∀ b o,b≠I ->s.heap.get? b=some o ->h'.get? b=some o) ->Q none {s with heap:=h'}):wpAny (model prog w) A (pyNext (.ref I)) Q E s:=by
 have ty:s.TypeIs (.ref I) "set_iterator":=⟨_,hI,rfl⟩;unfold pyNext;refine z4e (z3l (wpAny_callSpecial?_slot (name:=Str.ofString "__next__") ty q2g (z2n q2g ty q6f ?_ (q7f _))));unfold Builtin.«set_iterator.__next__»;refine z4e (z4d ?_);refine z4e (wpAny_fieldsOf hI rfl ?_)
 dsimp only [z1f]
 refine z4e (z1g ho hd hf ?_);rw [if_neg (by simp)];refine z4e ?_;have Z:∀ x (j:Nat),nx=some (x,j) ->wpAny (model prog w) A.in1 (do
     setField (Value.ref I) 0 (rawInt j)
     setField (Value.ref I) 1 (rawInt ((i:Int)+1))
     ret x) (λ fin s'=>∃ v,fin=Fin.done (Flow.ret v)/\wpAny (model prog w) A (pure (some v)) Q E s')
    (λ e s'=>wpAny (model prog w) A (do let d <- isInstance e (.type "StopIteration");if d=true then pure none else throw e) Q E s') s:=λ x j en=>by
  have g1:=z0y (Obj.mapFields (·.setIfInBounds 0 (rawInt j))) hI rfl;have g2:=z0y (Obj.mapFields (·.setIfInBounds 1 (rawInt ((i:Int)+1)))) g1 rfl;refine z4e (z3h hI rfl (by simp) ?_);refine z4e (z3h g1 rfl (by simp) ?_);exact z4d ⟨_,zr,z4d (q1 x j _ en g2 ((z1a ..).trans (z1a ..)))⟩
 have O:nx=none ->wpAny (model prog w) A.in1 (do
     setField (Value.ref I) 2 Value.none
     let d <- newExc (Value.type "StopIteration") []
     raiseNew d) (λ fin s'=>∃ v,fin=Fin.done (Flow.ret v)/\wpAny (model prog w) A (pure (some v)) Q E s')
    (λ e s'=>wpAny (model prog w) A (do let d <- isInstance e (.type "StopIteration");if d=true then pure none else throw e) Q E s') s:=λ en=>by
  refine z4e (z3h hI rfl (by simp) ?_);refine qeo hh λ h' k=>q0 en h' λ b o hb e=>k b o ?_;exact ((z1a ..).2 b hb).trans e
 unfold setNext;refine z4e (z2b ho hd hf ?_);unfold setsByText;refine z4e (z4e (z2r (z4d ?_)));rcases hn with ⟨hb,J⟩ | ⟨hb,h1,h2,J⟩
 ·rw [if_pos (show ({program:=(model prog w).prog,params:=(model prog w).w.params}:Setting).params.followText "set-order"=true from hb)]
  dsimp only
  rw [if_neg (by simp)];unfold setWalk;refine z4e (z4e (z2b ho hd hf ?_));unfold setsByText;refine z4e (z4e (z2r (z4d ?_)));rw [if_pos (show ({program:=(model prog w).prog,params:=(model prog w).w.params}:Setting).params.followText "set-order"=true from hb)];refine z4e (z2r (z4d (z4d ?_)))
  dsimp only
  have e':(pickOrder ((model prog w).w.params.setOrder a ep) es)[(i:Int).toNat]? =(pickOrder (w.params.setOrder a ep) es)[i]? :=by
   rw [z25];rfl
  rw [e'];cases e:(pickOrder (w.params.setOrder a ep) es)[i]? with
  | none=>
   rw [e] at J;exact O J
  | some y=>
   rw [e] at J;exact Z y.2 _ J
 ·rw [if_neg (show ¬ ({program:=(model prog w).prog,params:=(model prog w).w.params}:Setting).params.followText "set-order"=true from by rw [show ({program:=(model prog w).prog,params:=(model prog w).w.params}:Setting).params.followText "set-order"=false from hb];exact z1k)]
  dsimp only
  show wpAny _ _ (if (!t.plain&&decide (es.size > 1))=true then _ else _) _ _ s;rw [if_neg (by rw [h1];exact z1k)];show wpAny _ _ ((if (!t.led&& !es.isEmpty)=true then unsupported _ else pure ()) >>=_) _ _ s;rw [if_neg (by rw [h2];exact z1k)];refine z4e (z4d (z4d ?_));rw [z25];cases e1:es[SetTable.below t.place k]? with
  | none=>
   rw [e1] at J;exact O J
  | some y=>
   cases e2:t.place[SetTable.below t.place k]? with
   | none=>
    rw [e1,e2] at J;exact O J
   | some j=>
    rw [e1,e2] at J;exact Z y.2 _ J
end
def qaw:Slot "set_iterator" "__iter__" "set_iterator.__iter__":=
 .of (owner:="set_iterator") (n:="__iter__") (by rw [typeLookup_type,builtinLookup_eq_fast];kernel_rfl) (by decide+kernel) (by decide+kernel) (by decide+kernel)
  (by first | exact .inl (by decide+kernel) | exact .inr (by decide+kernel)) (by rw [isSubtype_type];kernel_rfl)
def qis:entryFor table "set_iterator.__iter__"=some Builtin.«dict_keyiterator.__iter__»:=entryFor_alias (id':="dict_keyiterator.__iter__") (by kernel_rfl) rfl (by decide+kernel) (by kernel_rfl)
def qla (a:Value):argsOk "set_iterator.__iter__" ⟨[a],[]⟩:=by
 unfold argsOk;rw [signature?_of (id:="set_iterator.__iter__") (n:=['_','_','r','e','t','i','_','_']) (o:=['r','o','t','a','r','e','t','i','_','t','e','s']) (by kernel_rfl) ql8]
 kernel_rfl
section
variable {prog:Program} {w:World} {A:Around} {E:xB} {s:Shared} {a I T:Addr} {es:Array (Int×Value)} {ep:Nat} {t:SetTable} {o:Obj}
def qg5 {first:Value} {i n:Nat} {Q:xB} (hI:s.heap.get? I=some (q2i first i a n ep)) (h:Q (.ref I) s):wpAny (model prog w) A (pyIter (.ref I)) Q E s:=by
 have ty:s.TypeIs (.ref I) "set_iterator":=⟨_,hI,rfl⟩;refine wpAny_pyIter_slot ty qaw (z2n qaw ty qis ?_ (qla _));show wpAny _ _ (ret (.ref I)) _ _ s;exact z4d ⟨_,zr,"set_iterator",_,ty,q2g.lookup,h⟩
def qmu {ps:List Nat} (hh:A.handled=none) (hT:T≠I) (ha:a≠I) (hd:o.data= .set es ep t) (hf:t.fits es.size=true) (O:ps.Perm (List.range es.size)):
  Walks prog w A I [I,T,a] [I] es.size (λ i v=>∃ p h,ps[i]? =some p/\es[p]? =some (h,v)) (λ i h=>h.get? I=some (q2i (.ref T) i a es.size ep)/\h.get? T=some (q65 ps)/\h.get? a=some o) where
 sub:=λ b hb=>by simp at hb;simp [hb]
 frame:=λ _ _ _ st hk=>⟨hk I (by simp) _ st.1,hk T (by simp) _ st.2.1,hk a (by simp) _ st.2.2⟩
 item:=λ i s Q E hi st J=>by
  have pl:ps.length=es.size:=by rw [O.length_eq,z28]
  have h1:ps[i]? =some (ps[i]'(by lia)):=z0c (by lia);have hm:ps[i]'(by lia) < es.size:=z3c.mp (O.mem_iff.mp (z2j (by lia)));generalize ps[i]'(by lia)=p at h1 hm;have h2:es[p]? =some es[p]:=z0b hm;refine qir (h:=es[p].1) (x:=es[p].2) st.1 st.2.1 st.2.2 hd hf h1 h2 λ h' g Z=> ?_;exact J _ h' s.toks ⟨p,es[p].1,h1,h2⟩ ⟨g,(Z.2 T hT).trans st.2.1,(Z.2 a ha).trans st.2.2⟩ λ b o hb e=>(Z.2 b (λ z=>hb (by simp [z]))).trans e
 done:=λ s Q E st J=>by
  have pl:ps.length=es.size:=by rw [O.length_eq,z28]
  exact ql9 hh st.1 st.2.1 st.2.2 hd hf (List.getElem?_eq_none (by lia)) λ h' k=>J h' s.toks λ b o hb e=>k b o (λ z=>hb (by simp [z])) e
 self:=λ _ _ _ _ st J=>qg5 st.1 J
def qp7 (hh:A.handled=none) (ha:a≠I) (hd:o.data= .set es ep t) (hf:t.fits es.size=true) (hb:q1n w=true):
  Walks prog w A I [I,a] [I] es.size (λ i v=>∃ e,(pickOrder (w.params.setOrder a ep) es)[i]? =some e/\v=e.2) (λ i h=>h.get? I=some (q2i (.int 0 0) i a es.size ep)/\h.get? a=some o) where
 sub:=λ b hb=>by simp at hb;simp [hb]
 frame:=λ _ _ _ st hk=>⟨hk I (by simp) _ st.1,hk a (by simp) _ st.2⟩
 item:=λ i s Q E hi st O=>by
  have pl:(pickOrder (w.params.setOrder a ep) es).size=es.size:=by rw [<- z18,(q8b _ _).length_eq,z18]
  have h1:(pickOrder (w.params.setOrder a ep) es)[i]? =some ((pickOrder (w.params.setOrder a ep) es)[i]'(by lia)):=z0b (by lia);refine q9i (k:=0) hh st.1 st.2 hd hf (.inl ⟨hb,zr⟩) (λ x j h' J g Z=> ?_) λ J=> ?_
  ·rw [h1] at J;cases J
   exact O _ h' s.toks ⟨_,h1,zr⟩ ⟨g,(Z.2 a ha).trans st.2⟩ λ b o hb e=>(Z.2 b (λ z=>hb (by simp [z]))).trans e
  ·rw [h1] at J;cases J
 done:=λ s Q E st O=>by
  have pl:(pickOrder (w.params.setOrder a ep) es).size=es.size:=by rw [<- z18,(q8b _ _).length_eq,z18]
  have h1:(pickOrder (w.params.setOrder a ep) es)[es.size]? =none:=z0q (by lia);refine q9i (k:=0) hh st.1 st.2 hd hf (.inl ⟨hb,zr⟩) (λ x j h' J g Z=> ?_) λ J h' k=>O h' s.toks λ b o hb e=>k b o (λ z=>hb (by simp [z])) e;rw [h1] at J;cases J
 self:=λ _ _ _ _ st O=>qg5 st.1 O
def qrc (hh:A.handled=none) (ha:a≠I) (hd:o.data= .set es ep t) (hf:t.fits es.size=true) (hb:q1n w=false) (hl:t.led=true) (h1:es.size<=1):
  Walks prog w A I [I,a] [I] es.size (λ i v=>∃ e,es[i]? =some e/\v=e.2) (λ i h=>h.get? I=some (q2i (.int (((if i=0 then 0 else t.place.getD 0 0+1):Nat):Int) 0) i a es.size ep)/\h.get? a=some o) where
 sub:=λ b hb=>by simp at hb;simp [hb]
 frame:=λ _ _ _ st hk=>⟨hk I (by simp) _ st.1,hk a (by simp) _ st.2⟩
 item:=λ i s Q E hi st O=>by
  have i0:i=0:=by lia
  subst i0;have ps:t.place.size=es.size:=by
   unfold SetTable.fits at hf;simp at hf
   exact hf.1
  have e1:es[0]? =some (es[0]'(by lia)):=z0b (by lia);have e2:t.place[0]? =some (t.place.getD 0 0):=by
   rw [z0b (by lia)];simp [Array.getD,show 0 < t.place.size by lia]
  have eb:SetTable.below t.place 0=0:=by
   unfold SetTable.below;rw [show t.place.size=1 by lia];simp [SetTable.below.go]
  refine q9i (k:=0) hh st.1 st.2 hd hf (.inr ⟨hb,by simp;lia,by rw [hl];rfl,rfl⟩) (λ x j h' J g Z=> ?_) λ J=> ?_
  ·rw [eb,e1,e2] at J;cases J
   exact O _ h' s.toks ⟨_,e1,zr⟩ ⟨g,(Z.2 a ha).trans st.2⟩ λ b o hb e=>(Z.2 b (λ z=>hb (by simp [z]))).trans e
  ·rw [eb,e1,e2] at J;cases J
 done:=λ s Q E st O=>by
  have ps:t.place.size=es.size:=by
   unfold SetTable.fits at hf;simp at hf
   exact hf.1
  refine q9i hh st.1 st.2 hd hf (.inr ⟨hb,by simp;lia,by rw [hl];rfl,rfl⟩) (λ x j h' J g Z=> ?_) λ J h' k=>O h' s.toks λ b o hb e=>k b o (λ z=>hb (by simp [z])) e;have e0:es[SetTable.below t.place (if es.size=0 then 0 else t.place.getD 0 0+1)]? =none:=by
   by_cases z:es.size=0
   ·exact z0q (by lia)
   ·rw [if_neg z];have:SetTable.below t.place (t.place.getD 0 0+1)=1:=by
     unfold SetTable.below;rw [show t.place.size=1 by lia];simp [SetTable.below.go,Array.getD,show 0 < t.place.size by lia]
    rw [this];exact z0q (by lia)
  rw [e0] at J;cases J
 self:=λ _ _ _ _ st O=>qg5 st.1 O
end
section
variable {prog:Program} {w:World} {A:Around} {E:xB} {s:Shared} {a:Addr} {xs:xD}
def qtf {Q:Bool ->Shared ->Prop} (Z:s.TypeIs (.ref a) "set") (h:Q false s):wpAny (model prog w) A (Builtin.List.listLengthHint (.ref a)) Q E s:=by
 unfold Builtin.List.listLengthHint;refine z4e (wpAny_specialOf Z PySem.F.slot_set_len.lookup ?_);generalize O:("set.__len__":String)=a1
 wp_delta
 rw [show splitId a1=some ("set","__len__") from by subst O;decide+kernel];subst O;refine z4e (wpAny_isInstance (T:="set") (b:=true) Z (by rw [isSubtype_type];kernel_rfl) ?_);refine wpAny_ite_split (λ J=>absurd J (by decide)) (λ _=> ?_);refine wpAny_ite_split (λ _=> ?_) (λ J=>absurd (by decide+kernel) J);refine z4e (wpAny_typeOf Z ?_);exact z4d h
def qax {α:Type} {L:List α} {f:α ->Value} {P:Nat ->Value ->Prop} {acc:Array Value} {n:Nat} (hn:n=L.length) (hP:∀ i v,P i v ->∃ e,L[i]? =some e/\v=f e) (ha:ItemsOf P acc n):acc.toList=L.map f:=by
 apply z20
 intro j;rw [z21,z0w];cases e:acc[j]? with
 | some v=>
  obtain ⟨e',he,rfl⟩:=hP j v (ha.2 j v e);rw [he];rfl
 | none=>
  have:acc.size<=j:=by simpa using e
  rw [ha.1] at this;rw [List.getElem?_eq_none (by lia)];rfl
def q11 (prog:Program) (w:World) (A:Around) (s:Shared) (S:Addr) (xs:xD) (it:Value) (s1:Shared):Prop:=
 ∃ (J:Addr) (fp:List Addr) (n:Nat) (P:Nat ->Value ->Prop) (St:Nat ->Heap ->Prop) (h1:Heap) (d:Drawn),it= .ref J/\s1={s with heap:=h1,drawn:=d}/\(∀ b o,s.heap.get? b=some o ->h1.get? b=some o)/\
  Walks prog w A J fp [J] n P St/\St 0 h1/\S∉fp/\s.heap.objs.size<=J/\n<=sizeLine/\∀ acc,ItemsOf P acc n ->(acc.toList.map sOf).Perm xs/\∀ v∈acc.toList,∃ x t,v= .str x t
def qtg (hh:A.handled=none) (x:TxS prog w s.heap a xs) {S:Addr} (hS:S < s.heap.objs.size) (a1:S≠a):wpAny (model prog w) A (pyIter (.ref a)) (q11 prog w A s S xs) E s:=by
 obtain ⟨o,es,ep,t,ho,a5,hd,a4,a3,hnd,hb,hf,a2,a6⟩:=x;have al:a < s.heap.objs.size:=z3y ho;have hsz:es.size<=sizeLine:=fits_of_scanBound hb;have Z:∀ v∈es.toList.map (λ e=>e.2),∃ x t,v=Value.str x t:=λ v hv=>by
  obtain ⟨e,he,rfl⟩:=z44.mp hv;obtain ⟨⟨k,hk,_⟩,_⟩:=a4 e he;obtain ⟨_,t,ht⟩:=qav hk;exact ⟨k,t,ht⟩
 have good:∀ l:List Value,l.Perm (es.toList.map λ e=>e.2) ->(l.map sOf).Perm xs/\∀ v∈l,∃ x t,v=Value.str x t:=λ l hp=>by
  refine ⟨?_,λ v hv=>Z v (hp.mem_iff.mp hv)⟩;have:=hp.map sOf;rw [z46] at this;rw [<- a3];exact this
 refine qte ho a5 hd hf hsz (λ hdr ps d hp=> ?_) (λ J=> ?_)
 ·have hT:((s.heap.push (q65 ps)).push (q2i (.ref s.heap.objs.size) 0 a es.size ep)).get? s.heap.objs.size=some (q65 ps):=z0n _ (z1b _ rfl);have hI:((s.heap.push (q65 ps)).push (q2i (.ref s.heap.objs.size) 0 a es.size ep)).get? (s.heap.objs.size+1)=some (q2i (.ref s.heap.objs.size) 0 a es.size ep):=by
   have:=z1b (s.heap.push (q65 ps)) (o:=q2i (.ref s.heap.objs.size) 0 a es.size ep) rfl
   rwa [z3e] at this
  refine ⟨_,_,_,_,_,_,d,zr,zr,λ b o e=>z0n _ (z0n _ e),qmu hh (z3z (z2k _)) (z3z (z2d al)) hd hf hp,⟨hI,hT,z0n _ (z0n _ ho)⟩,?_,Nat.le_succ _,hsz,λ acc ha=> ?_⟩
  ·simp only [z3m,z2q,or_false,not_or];exact ⟨z3z (z2d hS),z3z hS,a1⟩
  ·have e:=qax (L:=ps) (f:=λ p=>((es[p]?).map (·.2)).getD .none) (by rw [hp.length_eq,z28]) (λ i v ⟨p,h,h1,h2⟩=>⟨p,h1,by rw [h2];rfl⟩) ha;refine good _ ?_;rw [e];refine (hp.map _).trans ?_;refine List.Perm.of_eq ?_
   apply z20
   intro j;have e2:es.toList[j]? =es[j]? :=z0w;rw [z21,z21,e2];by_cases hj:j < es.size
   ·rw [List.getElem?_range hj,z0b hj];simp [hj]
   ·rw [List.getElem?_eq_none (l:=List.range es.size) (by rw [z28];lia),z0q (by lia)];rfl
 ·have hI:(s.heap.push (q2i (.int 0 0) 0 a es.size ep)).get? s.heap.objs.size=some (q2i (.int 0 0) 0 a es.size ep):=z1b _ rfl;have sf:S∉ [s.heap.objs.size,a]:=by
   simp only [z3m,z2q,or_false,not_or];exact ⟨z3z hS,a1⟩
  cases O:q1n w with
  | true=>
   refine ⟨_,_,_,_,_,_,s.drawn,zr,zr,λ b o e=>z0n _ e,qp7 hh (z3z al) hd hf O,⟨hI,z0n _ ho⟩,sf,z47 _,hsz,λ acc ha=> ?_⟩;have e:=qax (L:=(pickOrder (w.params.setOrder a ep) es).toList) (f:=λ e=>e.2) (by rw [(q8b _ _).length_eq,z18]) (λ i v ⟨e,h1,h2⟩=>⟨e,by rw [z0w];exact h1,h2⟩) ha;refine good _ ?_;rw [e];exact (q8b _ _).map _
  | false=>
   have h1:es.size<=1:=by
    rw [O] at J;by_cases z:es.size<=1
    ·exact z
    ·have:=a6 (by lia);rw [this] at J;simp at J
     lia
   refine ⟨_,_,_,_,_,_,s.drawn,rfl,rfl,λ b o e=>z0n _ e,qrc hh (z3z al) hd hf O (by rw [a2,O];rfl) h1,⟨hI,z0n _ ho⟩,sf,z47 _,hsz,λ acc ha=> ?_⟩;have e:=qax (L:=es.toList) (f:=λ e=>e.2) (by rw [z18]) (λ i v ⟨e,h1,h2⟩=>⟨e,by rw [z0w];exact h1,h2⟩) ha;refine good _ ?_;rw [e]
end
section
variable {prog:Program} {w:World} {A:Around} {E:xB} {s:Shared} {a:Addr} {xs:xD}
def qep (xs:xD) (vs:xH):Prop:=(vs.map sOf).Perm xs/\∀ v∈vs,∃ x t,v= .str x t
def qp8 {R:Result ->Shared ->Prop} (hh:A.handled=none) (x:TxS prog w s.heap a xs) (S:Addr) (a2:S≠a) (res:Value) (c₀:Nat) (hS:s.heap.get? S=some {cls:= .type "list",data:= .seq #[] c₀})
  (hR:∀ h' tk d O c',(∀ b o,b≠S ->s.heap.get? b=some o ->h'.get? b=some o) ->h'.get? S=some {cls:= .type "list",dict:=none,data:= .seq O c',slots:=#[]} ->qep xs O.toList ->R (.ok (.ret res)) {s with heap:=h',toks:=tk,drawn:=d}):
  wpAny (model prog w) A.in1 (Builtin.List.listExtendWith (.ref S) (.ref a) res)
   (λ fin s'=>match fin with | .done f=>R (.ok f) s' | .again c'=>c'.quiet=true/\codeAny (model prog w) A c' R s') (λ e s'=>R (.error e) s') s:=by
 obtain ⟨o,es,ep,t,ho,a7,rest⟩:=id x;have ty:s.TypeIs (.ref a) "set":=⟨o,ho,a7.1⟩;unfold Builtin.List.listExtendWith;refine z4e (wpAny_typeOf (T:="set") ty ?_);have h1:Builtin.List.listSameRef (.ref S) (.ref a)=false:=by simp [Builtin.List.listSameRef,a2]
 simp only [h1,show (Value.type "set"==Value.type "list")=false by decide,show (Value.type "set"==Value.type "tuple")=false by decide,Bool.or_false,z1j,if_false];refine z4e (z4f (qtg (A:=A.in1) (E:=λ e s'=>R (.error e) s') hh x (z3y hS) a2) (λ it s1 good=> ?_) λ e s' z=>z);obtain ⟨J,fp,n,P,St,h2,d,rfl,rfl,keep,W,st,a3,hJ,hn,a5⟩:=good;have Z:=keep _ _ hS;have hSJ:S≠J:=z3z (z1q (z3y hS) hJ);have key:∀ (h:Heap) (c₁ tk:Nat),St 0 h ->(∀ b o,b≠S ->h2.get? b=some o ->h.get? b=some o) ->
   h.get? S=some {cls:= .type "list",data:= .seq #[] c₁} ->codeAny (model prog w) A (.builtin "list.extend.loop" ⟨[.ref S,.ref J,res],[]⟩) R {s with heap:=h,toks:=tk,drawn:=d}:=by
  intro h c₁ tk b2 hk Z;refine codeAny_extend_loopS W.toS hn S a3 res n 0 _ #[] c₁ rfl (z4a _) b2 Z (ItemsOf.nil _) λ s' O c' hm a8 ha=> ?_;rw [Moved.eq_with hm];refine hR s'.heap s'.toks d O c' (λ b o hb e=>hm.heap b o (λ a1=> ?_) (hk b o hb (keep b o e))) a8 (a5 O ha);rcases z3m.mp a1 with e' | a1
  ·exact hb e'
  ·have z:=z1l.mp a1;exact absurd (z3y e) (by rw [z];exact Nat.not_lt.mpr hJ)
 refine z4e (z3n (qtf ⟨o,keep _ _ ho,a7.1⟩ ?_));refine wpAny_ite_split (λ _=> ?_) (λ _=>z4d ⟨plainId_quiet PySem.F.plain_extend_loop _,key _ c₀ _ st (λ b o _ e=>e) Z⟩);refine z4e (z4c ?_);refine z4e ?_;show wpAny _ _ (updateSeq S (·.push .none) >>=λ _=>updateSeq S (·.pop)) _ _ _;refine z4e (wpAny_updateSeq Z rfl ?_);have a4:=z0y (Obj.mapSeq (·.push Value.none)) Z rfl;refine wpAny_updateSeq (hz:=by seq_fits) a4 rfl ?_;have a9:=z0y (Obj.mapSeq (·.pop)) a4 rfl;refine z4d ⟨plainId_quiet PySem.F.plain_extend_loop _,key _ _ _ ?_ (λ b o hb e=> ?_) a9⟩
 ·refine W.frame 0 _ _ st λ b hb o e=> ?_;have a6:b≠S:=λ h=>a3 (h ▸ hb);exact (z0o _ _ (Ne.symm a6)).trans ((z0o _ _ (Ne.symm a6)).trans e)
 ·exact (z0o _ _ (Ne.symm hb)).trans ((z0o _ _ (Ne.symm hb)).trans e)
def qmv {R:List Value ->Shared ->Prop} (hh:A.handled=none) (x:TxS prog w s.heap a xs)
  (h:∀ (vs:xH) (h':Heap) (tk:Nat) (d:Drawn),qep xs vs ->(∀ b o,s.heap.get? b=some o ->h'.get? b=some o) ->s.heap.objs.size<=h'.objs.size ->R vs {s with heap:=h',toks:=tk,drawn:=d}):wpAny (model prog w) A (collect (.ref a)) R E s:=by
 have al:a < s.heap.objs.size:=by
  obtain ⟨_,_,_,_,e,_⟩:=x;exact z3y e
 unfold collect;refine z4e (wpAny_runValue (z38 entry_proto_collect' ?_));rw [Around.under_plainId PySem.F.plain_proto_collect _];show wpAny _ A.in1 (newList [] >>=λ l=>again (.builtin "list.__iadd__" ⟨[l,.ref a],[]⟩)) _ _ s;refine z4e (z27 ?_);refine z4d ⟨plainId_quiet z0i _,z38 entry_list_iadd' ?_⟩;rw [Around.under_plainId z0i _];have hS:(s.heap.push {cls:= .type "list",data:= .seq ([]:xH).toArray}).get? s.heap.objs.size=some {cls:= .type "list",data:= .seq #[]}:=z1b _ rfl;show wpAny _ A.in1 (Builtin.List.listExtendWith (.ref s.heap.objs.size) (.ref a) (.ref s.heap.objs.size)) _ _ _;have key:=qp8 (A:=A) (prog:=prog) (w:=w) (xs:=xs) (a:=a) (s:={s with heap:=s.heap.push {cls:= .type "list",data:= .seq ([]:xH).toArray}}) hh (x.keep λ o e=>z0n _ e) s.heap.objs.size
  (z41 al) (.ref s.heap.objs.size) 0 hS
  (R:=λ (q:Result) (s':Shared)=>∃ (h':Heap) (tk:Nat) (d:Drawn) (J:Array Value) (Z:Nat),q= .ok (.ret (.ref s.heap.objs.size))/\s'={s with heap:=h',toks:=tk,drawn:=d}/\(∀ b o,s.heap.get? b=some o ->h'.get? b=some o)/\
   h'.get? s.heap.objs.size=some {cls:= .type "list",dict:=none,data:= .seq J Z,slots:=#[]}/\qep xs J.toList)
  (λ h' tk d J Z hk O a1=>⟨h',tk,d,J,Z,rfl,rfl,λ b o e=>hk b o (z3z (z3y e)) (z0n _ e),O,a1⟩)
 refine z4f key (λ f s' y=> ?_) λ e s' y=> ?_
 ·cases f with
  | done f=>
   obtain ⟨h',tk,d,J,Z,e,rfl,hk,O,ha⟩:=y;cases e
   show wpAny _ A (load s.heap.objs.size >>=_) _ _ _;refine z4e (wpAny_load O (z4d ?_));exact h J.toList h' tk d ha hk (z3x (z3y O))
  | again c=>
   refine ⟨y.1,z42 y.2 λ q s2 z=> ?_⟩;obtain ⟨h',tk,d,J,Z,rfl,rfl,hk,O,ha⟩:=z;show wpAny _ A (load s.heap.objs.size >>=_) _ _ _;refine z4e (wpAny_load O (z4d ?_));exact h J.toList h' tk d ha hk (z3x (z3y O))
 ·obtain ⟨_,_,_,_,_,e',_⟩:=y;cases e'
def qmw {x:Value} {Pv:List Value ->Prop} {rk:List Value ->Value ->Int} {Q:xB} (hz:∀ vs,Pv vs ->vs.length<=sizeLine)
  (hc:∀ (Z:Around) (E':xB) (R:List Value ->Shared ->Prop),Z.handled=A.handled ->(∀ vs h' tk d,Pv vs ->(∀ b o,s.heap.get? b=some o ->h'.get? b=some o) ->s.heap.objs.size<=h'.objs.size ->R vs {s with heap:=h',toks:=tk,drawn:=d}) ->wpAny (model prog w) Z (collect x) R E' s)
  (hk:∀ (vs:xH) (Z:Around) (s':Shared) (a:Addr),Pv vs ->Z.units<=A.units+4 ->s.heap.objs.size<=a ->(∀ b o,s.heap.get? b=some o ->s'.heap.get? b=some o) ->Tim.Keys prog w Z s' a vs (rk vs))
  (h:∀ (vs:xH) (out:Array Value) (l:Addr) (n:Nat) (h':Heap) (tk:Nat) (d:Drawn),Pv vs ->Tim.Sorted (rk vs) vs out.toList ->(∀ b o,s.heap.get? b=some o ->h'.get? b=some o) ->s.heap.objs.size<=l ->h'.get? l=some (seqObj "list" out n) ->Q (.ref l) {s with heap:=h',toks:=tk,drawn:=d}):
  wpAny (model prog w) A (call (.builtin "sorted") [x]) Q E s:=by
 refine Calls.call_function_entry kind_sorted plain_sorted entry_sorted (args_sorted1 _) ?_;unfold Builtin.«sorted»;refine z4e (m:=checkCount "sorted" 1 1 _) (z4d ?_);refine z4e (hc _ _ _ rfl λ vs h1 tk d pv keep hsz=> ?_);have hz:=hz vs pv;refine z4e (wpAny_newList ?_ hz);have O:(h1.push (seqObj "list" vs.toArray 0)).get? h1.objs.size=some (seqObj "list" vs.toArray 0):=z1b _ rfl;show wpAny _ _ _ _ _ {s with heap:=h1.push (seqObj "list" vs.toArray 0),toks:=tk,drawn:=d};have J:∀ b o,s.heap.get? b=some o ->(h1.push (seqObj "list" vs.toArray 0)).get? b=some o:=λ b o e=>z0n _ (keep b o e);refine z4e (z3n (z2n slot_list_sort ⟨_,O,zr⟩ entry_list_sort (Tim.q9z O hz (hk vs _ _ _ pv ?_ hsz J) λ out so=>⟨_,zr,?_⟩) (args_list_sort _)))
 ·show A.units+2<=A.units+4
  lia
 ·have a1:∀ b o,s.heap.get? b=some o ->b≠h1.objs.size:=λ b o e=>z3z (z1q (z3y e) hsz);have u1:=z1a (h1.push (seqObj "list" vs.toArray 0)) h1.objs.size (Obj.mapSeq λ _=>(#[]:Array Value));obtain ⟨e1,g1⟩:∃ e1,((h1.push (seqObj "list" vs.toArray 0)).update h1.objs.size (Obj.mapSeq λ _=>(#[]:Array Value))).get? h1.objs.size=some (seqObj "list" #[] e1):=⟨_,get?_update_seq O λ _=>#[]⟩;have g2:=z0n (seqObj "list" #[] 0) (z0n (seqObj "tuple" vs.toArray 0) g1);have g3:=get?_update_seq g2 λ _=>out;have u4:=z1a (((((h1.push (seqObj "list" vs.toArray 0)).update h1.objs.size (Obj.mapSeq λ _=>(#[]:Array Value))).push (seqObj "tuple" vs.toArray 0)).push (seqObj "list" #[] 0))) h1.objs.size (Obj.mapSeq λ _=>out);refine z4d ⟨_,zr,h vs out h1.objs.size _ _ tk d pv so (λ b o e=> ?_) hsz g3⟩;refine (u4.2 b (a1 b o e)).trans (z0n _ (z0n _ ((u1.2 b (a1 b o e)).trans (J b o e))))
end
def SetH (P:Program) (w:World) (a:Addr) (ys:xD):HO:= .ext λ h=>TxS P w h a ys
def uniq (ws:xD):List Str:=Tim.srt q1b ws.eraseDups
def q34 (ws:xD) (x:Str):x∈uniq ws↔x∈ws:=by
 unfold uniq;rw [(Tim.q18 q1b _).mem_iff];exact List.mem_eraseDups
section
variable {X:Cx} {xC:xG} {σ:St} {H:Hp} {s:Shared}
def Inv.drew {d:Drawn} (I:Inv X xC σ H s):Inv X xC σ H {s with drawn:=d}:=
 I.step (h':=s.heap) (g':=s.gens) (d':=d) (t':=s.toks) (ch:=[]) (λ _ z=>nomatch z) (λ _ _ _ _ _ e _=>e) (λ b o _ _ _ e _=>⟨o.slots,e⟩) (λ _ _ _ _ n=>n) (λ b o _ e=>⟨o,e⟩) (λ _ _ e=>e) (λ _ _ _ e=>e) (λ b ps e=>⟨#[],by rw [e];simp⟩) (λ _ e=>e) I.hok I.bare
def qi1 (hc:X.calm=true) (P:Program) (w:World) (K:xA) (hK:X.K=K:=by rfl) (hP:X.prog=P:=by rfl) (hw:X.w=w:=by rfl):q1v X (.type "set") (λ xs H Q=>∃ (p:Addr) (ws:xD),xs=[.ref p]/\(SqL K H p (ws.map V.str)\/ SqT K H p (ws.map V.str))/\ws.length<=4000/\
  ∀ (l:Addr) (ys:xD),H l=none ->ys.Nodup ->(∀ x,x∈ys↔x∈ws) ->Q (.ref l) (upd H l (SetH P w l ys))):=by
 subst hK hP hw;intro xC s σ H xs us Q I r h;obtain ⟨p,ws,rfl,hp,hl,q⟩:=h;obtain ⟨u,rfl,ru⟩:=q2x r;cases ru
 have fin:∀ (its:xH),its.length=ws.length ->∀ (h':Heap) (tk:Nat) (ys:xD),TxS X.prog X.w h' s.heap.objs.size ys ->InS (λ i=>ws.getD i "") its.toArray.size ys ->(∀ b o,b < s.heap.objs.size ->s.heap.get? b=some o ->h'.get? b=some o) ->EP X xC σ Q (.ref s.heap.objs.size) {s with heap:=h',toks:=tk}:=λ its O h' tk ys hS a2 keep=>by
  have Z:∀ b o,s.heap.get? b=some o ->h'.get? b=some o:=λ b o e=>keep b o (z3y e) e;have J:ys.Nodup:=by
   obtain ⟨_,_,_,_,_,_,_,_,_,J,_⟩:=hS;exact J
  have a1:∃ o,h'.get? s.heap.objs.size=some o:=by
   obtain ⟨o,_,_,_,e,_⟩:=hS;exact ⟨o,e⟩
  refine ⟨.ref _,_,I.laid (a:=s.heap.objs.size) (o:=SetH X.prog X.w s.heap.objs.size ys) (t':=tk) Z (z47 _) ⟨hS,a1,λ h1 h2 z k=>z.keep k⟩,zr,q _ ys I.fresh J λ x=> ?_⟩;rw [a2.1 x,z22,O]
  constructor
  ·rintro ⟨j,hj,rfl⟩;show ws.getD j ""∈ws;rw [z06,z0c hj];exact z2j hj
  ·intro hx;obtain ⟨j,hj,e⟩:=z1h hx;refine ⟨j,hj,?_⟩;show ws.getD j ""=x;rw [z06,z0c hj];exact e
 have hh:=I.ok.hd hc;rcases hp with hp | hp
 ·obtain ⟨its,rv,⟨o,n,e,c,_,d⟩,z⟩:=I.list hp;have O:its.length=ws.length:=by rw [<- rv.length,z2z]
  obtain ⟨_,_,e3⟩:=q5n rv;exact qrb hh ⟨o,e,c,n,d⟩ (by rw [z1f];exact e3) (by rw [z22,O];unfold scanBound;lia) (fin its O)
 ·obtain ⟨its,rv,⟨o,e,c,n,d⟩,z⟩:=I.tuple hp;have O:its.length=ws.length:=by rw [<- rv.length,z2z]
  obtain ⟨_,_,e3⟩:=q5n rv;exact qp5 hh ⟨o,e,c,n,d⟩ (by rw [z1f];exact e3) (by rw [z22,O];unfold scanBound;lia) (fin its O)
theorem q9j:∀ (n:Nat) (l:xD),l.length<=n ->l.eraseDups.Nodup
 | 0,l,h=>by
  have:l=[]:=z0j.mp (by lia);subst this;exact z3f
 | n+1,[],_=>z3f
 | n+1,x::l,h=>by
  rw [List.eraseDups_cons];refine z31.mpr ⟨λ hx=> ?_,q9j n _ (z40 (z0z _ _) (Nat.le_of_succ_le_succ h))⟩;have:=z2w.mp (List.mem_eraseDups.mp hx);simp at this
def qlb {ws ys:xD} (hn:ys.Nodup) (hm:∀ x,x∈ys↔x∈ws):Tim.srt q1b ys=uniq ws:=by
 unfold uniq;refine Tim.qky q1y ((Tim.q18 q1b ys).trans ?_) (Tim.q2v q1y ys);refine (List.perm_ext_iff_of_nodup hn (q9j _ _ (z47 _))).mpr λ x=> ?_;rw [hm x,List.mem_eraseDups]
def qay (hc:X.calm=true) (P:Program) (w:World) (hP:X.prog=P:=by rfl) (hw:X.w=w:=by rfl):q1v X (.builtin "sorted") (λ xs H Q=>∃ (p:Addr) (ys:xD),xs=[.ref p]/\H p=some (SetH P w p ys)/\∀ l,H l=none ->Q (.ref l) (upd H l (.lst ((Tim.srt q1b ys).map V.str)))):=by
 subst hP hw;intro xC s σ H xs us Q I r h;obtain ⟨p,ys,rfl,hp,q⟩:=h;obtain ⟨u,rfl,ru⟩:=q2x r;cases ru
 obtain ⟨hS,_,_⟩:ObjOk X.prog X.w H s.heap p (SetH X.prog X.w p ys):=I.hok p _ hp;have yl:ys.length<=sizeLine:=by
  obtain ⟨_,es,_,_,_,_,_,_,e,_,hb,_⟩:=id hS;rw [<- e,z2z,z18];exact fits_of_scanBound hb
 have hh:=I.ok.hd hc;have Z:∀ vs,qep ys vs ->Vals ((vs.map sOf).map V.str) vs:=λ vs z=>q40 z.2;refine qmw (Pv:=qep ys) (rk:=λ vs v=>Tim.rank q1b (vs.map sOf) (sOf v)) (λ vs z=>by rw [show vs.length=ys.length by rw [<- z.1.length_eq,z2z]];exact yl)
  (λ A' E' R e k=>qmv (by rw [e];exact hh) hS λ vs h' tk d z=>k vs h' tk d z) (λ vs A' s' a z _ _ _=>qas (Z vs z)) λ vs out l n h' tk d z so keep hl hg=> ?_
 have ed:=Tim.q32 q1y sOf so;have O:∀ u∈out.toList,∃ x t,u= .str x t:=λ u hu=>z.2 u (so.perm.mem_iff.mp hu);have J:=q40 O;have es:Tim.srt q1b (vs.map sOf)=Tim.srt q1b ys:=Tim.qky q1y ((Tim.q18 q1b _).trans z.1) (Tim.q2v q1y _);rw [ed,es] at J;exact Inv.q33 (s:={s with drawn:=d}) I.drew J (by rw [z2z,(Tim.q18 q1b ys).length_eq];exact yl) keep hl hg (q l (I.hok.fresh hl))
end
section
variable {X:Cx}
def Inv.thaw {xC:xG} {σ:St} {H:Hp} {s:Shared} {a:Addr} {o:Obj} {kvs:List (Key×V)} (I:Inv X xC σ H s) (e:H a=some (.frz o (.dK kvs))) (h0:∀ o u,X.H₀ a≠some (.frz o u)):Inv X xC σ (upd H a (.dK kvs)) s where
 ok:=I.ok
 os:=I.os
 bare:=I.bare
 base:=by
  refine ⟨I.base.keep,I.base.slot,λ b J q n hx=> ?_,I.base.there,λ b xs q=> ?_,λ b J u q=> ?_,λ b ps q=> ?_⟩
  ·have:=I.base.free b J q n hx;rw [qi (λ z=>by rw [z,e] at this;cases this)];exact this
  ·have:=I.base.tups b xs q;rw [qi (λ z=>by rw [z,e] at this;cases this)];exact this
  ·rw [qi (show b≠a from λ z=>h0 J u (by rw [<- z];exact q))];exact I.base.frzs b J u q
  ·obtain ⟨more,this⟩:=I.base.tbls b ps q;exact ⟨more,by rw [qi (λ z=>by rw [z,e] at this;cases this)];exact this⟩
 loc:=I.loc
 cell:=I.cell
 free:=by rw [qi (qu e I.free).symm];exact I.free
 freeC:=λ x c h=>by rw [qi (qu e (I.freeC x c h)).symm];exact I.freeC x c h
 pin:=λ p hp=>by
  obtain ⟨h1,h2,h3⟩:=I.pin p hp;exact ⟨h1,by rw [qi (qu e h2).symm];exact h2,h3⟩
 len:=I.len
 hok:=λ b J q=>by
  by_cases z:b=a
  ·subst z;rw [qb] at q;cases q
   obtain ⟨_,this⟩:=I.hok b _ e;exact this.stay (λ c u _ g=>g) (λ c g=>by rw [qi (λ z=>by rw [z,e] at g;cases g)];exact g) λ c xs g=>by rw [qi (λ z=>by rw [z,e] at g;cases g)];exact g
  ·rw [qi z] at q;have hb:=I.hok b J q;exact hb.stay (λ c u _ g=>g) (λ c g=>by rw [qi (λ z=>by rw [z,e] at g;cases g)];exact g) λ c xs g=>by rw [qi (λ z=>by rw [z,e] at g;cases g)];exact g
def q10u (H0:Hp) (te:TE):TE:=λ σ H Q=>te σ H λ v H1=>Q v H1\/ ∃ a o kvs,H1 a=some (.frz o (.dK kvs))/\(∀ o u,H0 a≠some (.frz o u))/\Q v (upd H1 a (.dK kvs))
def qnr {e:Expr} {te:TE} (he:PE X e te):PE X e (q10u X.H₀ te):=by
 intro xC s σ H Q I h;refine thn (he xC s σ H _ I h) λ v s1 J=> ?_;obtain ⟨x,H1,I1,r1,q1⟩:=J;rcases q1 with q | ⟨a,o,kvs,e1,h0,q⟩
 ·exact ⟨x,H1,I1,r1,q⟩
 ·exact ⟨x,_,I1.thaw e1 h0,r1,q⟩
end
def q1z (H:Hp) (zs:List V) (ps:xF):Prop:=Paired (λ x p=>∃ b,x=V.ref b/\H b=some (.tup (p.map V.str))) zs ps
theorem qrd {H:Hp}:∀ {zs:List V} {ps:xF} {its:xH},q1z H zs ps ->Vals zs its ->qjy H its ps
 | _,_,_,.nil,.nil=> .nil
 | _,_,_,.cons ⟨b,e,hb⟩ r,.cons rv rr=>by
  subst e;exact .cons ⟨b,rv,hb⟩ (qrd r rr)
section
variable {X:Cx}
def qa1 (hu:X.A.units+64 < cLine) (K:xA) (hK:X.K=K:=by rfl):q1v X (.builtin "sorted") (λ xs H Q=>∃ (p:Addr) (zs:List V) (ps:xF),xs=[.ref p]/\SqL K H p zs/\q1z H zs ps/\
  ∀ (l:Addr) (us:List V),H l=none ->q1z H us (Tim.srt q1c ps) ->Q (.ref l) (upd H l (.lst us))):=by
 subst hK;intro xC s σ H xs us Q I r h;obtain ⟨p,zs0,ps,rfl,hp,ht,q⟩:=h;obtain ⟨u,rfl,ru⟩:=q2x r;cases ru
 obtain ⟨its,a2,⟨o,n,e,c,_,d⟩,z⟩:=I.list hp;have J:qjy H its ps:=qrd ht a2;have Z:∀ v p,(∃ b,v=Value.ref b/\H b=some (.tup (p.map V.str))) ->TupAt s.heap v p:=λ v p ⟨b,e,hb⟩=>by
  obtain ⟨_,its,rv,o,e1,c,n,dd⟩:=I.hok b _ hb;exact ⟨b,o,its.toArray,n,e,e1,c,dd,by rw [z1f];exact rv⟩
 have O:Paired (λ v p=>TupAt s.heap v p/\decT H v=p) its ps:=Paired.mapP J λ v p z=>⟨Z v p z,by
  obtain ⟨b,rfl,hb⟩:=z;exact qbx hb⟩
 have ev:its.map (decT H)=ps:=(q4g O λ _ _ z=>z.2).1;have mem:∀ v∈its,∃ b,v=Value.ref b/\H b=some (.tup ((decT H v).map V.str)):=(q4g (f:=decT H) J λ v p ⟨b,e,hb⟩=>by
  rw [e];exact qbx hb).2
 have hl:its.length<=sizeLine:=by
  rw [<- a2.length];exact z
 refine q4f (vs:=its) (rk:=λ v=>Tim.rank q1c (its.map (decT H)) (decT H v)) hl
  (λ A' E' R _ k=>q9d (.inl rfl) e c d (by rw [z22];exact hl) (by rw [z1f];exact k))
  (λ A' s' a hu' ha keep=>qhv (s:=s) (decT H) O ha keep (by lia)) λ out l n h' tk so keep a1 hg=> ?_
 have ed:=Tim.q32 q2p (decT H) so;rw [ev] at ed;have mo:∀ v∈out.toList,∃ b,v=Value.ref b/\H b=some (.tup ((decT H v).map V.str)):=λ v hv=>mem v (so.perm.mem_iff.mp hv);obtain ⟨zs,rv,hp⟩:∃ zs:List V,Vals zs out.toList/\q1z H zs (out.toList.map (decT H)):=by
  revert mo;generalize out.toList=os;intro mo
  induction os with
  | nil=>exact ⟨[],.nil,.nil⟩
  | cons v os ih=>
   obtain ⟨zs,r1,r2⟩:=ih λ u hu=>mo u (z15 _ hu);obtain ⟨b,e,hb⟩:=mo v (z1o ..);exact ⟨.ref b::zs,.cons e r1,.cons ⟨b,zr,hb⟩ r2⟩
 rw [ed] at hp;refine I.q33 rv ?_ keep a1 hg (q l zs (I.hok.fresh a1) hp);rw [rv.length,so.perm.length_eq];exact hl
end
def qp9 {P:Program} {w:World} {es:List DictEntry} {vs:List (Key×Value)} (p:Pairs (q17 P w) es vs):∀ {kvs:List (Key×V)} {ws:List Int},KV kvs vs ->kvs.map (·.1)=ws.map Sum.inl ->Vals (ws.map V.int) (es.map (·.key)):=by
 induction p with
 | nil=>
  intro kvs ws r h;cases r
  have:ws=[]:=by simpa using h.symm
  subst this;exact .nil
 | cons a b c ih=>
  intro kvs ws r h;cases r with
  | cons d f=>
   cases ws with
   | nil=>simp at h
   | cons x ws=>
    rw [z3k,z3k,z2u] at h;rw [<- d.1,h.1] at a;refine .cons ?_ (ih f h.2);rcases q1u (show q85 (Sum.inl x) _=true from a) with ⟨i,t,e1,e2⟩ | ⟨x',t,e1,_⟩
    ·cases e1
     exact ⟨t,e2⟩
    ·cases e1
section
variable {X:Cx}
def qit (hc:X.calm=true) (K:xA) (hK:X.K=K:=by rfl):q1v X (.builtin "sorted") (λ xs H Q=>∃ (d:Addr) (kvs:List (Key×V)) (ws:List Int),xs=[.ref d]/\H d=some (.dK kvs)/\kvs.map (·.1)=ws.map Sum.inl/\
  ∀ l,H l=none ->Q (.ref l) (upd H l (.lst ((Tim.srt q1j ws).map V.int)))):=by
 subst hK;intro xC s σ H xs us Q I r h;obtain ⟨d,kvs,ws,rfl,hd,hk,q⟩:=h;obtain ⟨u,rfl,ru⟩:=q2x r;cases ru
 obtain ⟨hz,a2,vs,a4,o,es,ep,ho,hx,J,_,a1,hnd⟩:=I.hok d _ hd;have rv:Vals (ws.map V.int) (es.toList.map (·.key)):=qp9 a1 a4 hk;have wl:ws.length=kvs.length:=by
  have:=congrArg List.length hk;rw [z2z,z2z] at this;exact this.symm
 have hl:(es.toList.map (·.key)).length<=sizeLine:=by
  rw [<- rv.length,z2z,wl];exact hz
 obtain ⟨e1,e2,_⟩:=qd4 rv;refine q4f (vs:=es.toList.map (·.key)) (rk:=λ v=>Tim.rank q1j ((es.toList.map (·.key)).map iOf) (iOf v)) hl (λ A' E' R hh k=>q8h (hh.trans (I.ok.hd hc)) a2 ⟨o,ho,hx,J⟩ (by rw [z2z,z18] at hl;exact hl) k)
  (λ A' s' a _ _ _=>qhy rv) λ out l n h' tk so keep O hg=> ?_
 have a3:∀ u∈out.toList,∃ x t,u= .int x t:=λ u hu=>e2 u (so.perm.mem_iff.mp hu);have ed:=Tim.q32 q3h iOf so;rw [e1] at ed;have Z:=q6e a3;rw [ed] at Z;exact I.q33 Z (by rw [z2z,(Tim.q18 q1j ws).length_eq,wl];exact hz) keep O hg (q l (I.hok.fresh O))
end
def ItdT (a:Addr) (o:Obj) (kvs:List (List Key×V)):It:=
 ⟨λ i H=>H a=some (.frz o (.dT kvs))/\i < kvs.length,λ i H x H'=>H'=H/\∃ kv b,kvs[i]? =some kv/\x= .ref b/\H b=some (.tup (kv.1.map kV)),λ i H=>H a=some (.frz o (.dT kvs))/\kvs.length<=i⟩
section
variable {X:Cx} {tg:Expr}
def Inv.freezeT {xC:xG} {σ:St} {H:Hp} {s:Shared} {a:Addr} {o:Obj} {kvs:List (List Key×V)} (I:Inv X xC σ H s) (e:H a=some (.dT kvs)) (ho:s.heap.get? a=some o):Inv X xC σ (upd H a (.frz o (.dT kvs))) s:=by
 have u:Un X.fs [] H (upd H a (.frz o (.dT kvs))) s.heap s.heap:=by
  refine ⟨λ b o q _ _ _=>q,λ b o q _ _ _=>⟨o.slots,q⟩,λ b J q n _=> ?_,λ b J q _=>⟨J,q⟩,λ b xs q=> ?_,λ b J u q=> ?_,λ b ps q=>⟨#[],?_⟩⟩
  ·rw [qi (λ z=>by rw [z,e] at n;cases n)];exact n
  ·rw [qi (λ z=>by rw [z,e] at q;cases q)];exact q
  ·rw [qi (λ z=>by rw [z,e] at q;cases q)];exact q
  ·rw [qi (λ z=>by rw [z,e] at q;cases q),q];simp
 have st:∀ b J,ObjOk X.prog X.w H s.heap b J ->ObjOk X.prog X.w (upd H a (.frz o (.dT kvs))) s.heap b J:=λ b J hb=>hb.stay (λ c u _ g=>g) (λ c g=>by rw [qi (λ z=>by rw [z,e] at g;cases g)];exact g) λ c xs g=>by rw [qi (λ z=>by rw [z,e] at g;cases g)];exact g
 have hok:HOk X.prog X.w (upd H a (.frz o (.dT kvs))) s.heap:=λ b J q=>by
  by_cases z:b=a
  ·subst z;rw [qb] at q;cases q
   exact ⟨ho,st b _ (I.hok b _ e)⟩
  ·rw [qi z] at q;exact st b J (I.hok b J q)
 have:=I.un (t':=s.toks) u hok;exact this
theorem qlc {P:Program} {w:World} {H:Hp}:∀ {kvs:List (List Key×V)} {xs:List (List Key×Addr×Value)} {i:Nat} {J:List Key×V},Paired (λ (p:List Key×V) (q:List Key×Addr×Value)=>p.1=q.1/\H q.2.1=some (.tup (p.1.map kV))/\RelV p.2 q.2.2) kvs xs ->kvs[i]? =some J ->
  ∃ b e,(xs.map (entryOfKey (tupleKind (q17 P w))))[i]? =some e/\e.key= .ref b/\H b=some (.tup (J.1.map kV))
 | _,_,i,J,.nil,h=>by simp at h
 | _,_,0,J,.cons a r,h=>by
  simp at h
  subst h;exact ⟨_,_,zr,zr,a.2.1⟩
 | _,_,i+1,J,.cons a r,h=>by
  obtain ⟨b,e,h1,h2⟩:=qlc (P:=P) (w:=w) (i:=i) r (by simpa using h);exact ⟨b,e,by simpa using h1,h2⟩
def qpa {P:Program} {w:World} {K:xA} (a it:Addr) (o:Obj) (es:Array DictEntry) (ep:Nat) (kvs:List (List Key×V)) (ho:o.ExactDict) (J:o.data= .dict es ep):Turn P w K tg (ItdT a o kvs) [it] it (λ i h=>h.IsKeyIter it a i es.size ep) where
 mem:=by simp
 obj:=λ i h st b hb=>by
  have e:b=it:=by simpa using hb
  subst e;obtain ⟨o,e,c,d⟩:=st;exact ⟨o,e,λ v z=>by rw [d] at z;cases z⟩
 keep:=λ i h h' st k=>by
  obtain ⟨o,e,r⟩:=st;exact ⟨o,k it (by simp) o e,r⟩
 item:=by
  intro X hP hw hK hc i xC s σ H E I hf st hg;subst hP hw hK;obtain ⟨ha,hi⟩:=hg;obtain ⟨a1,hz,a8,xs,a3,o2,a6,a5,Z,a9,O,a2,a7⟩:=I.hok a _ ha;rw [a1] at Z;cases Z
  rw [J] at O;cases O
  obtain ⟨b,e,he,ek,hb⟩:=qlc (P:=X.prog) (w:=X.w) a3 (z0c hi);rw [<- a2] at he;obtain ⟨f0,f1,f2,f3,f4,f5⟩:=hf it (by simp);refine qd2 st ⟨o,a1,ho,J⟩ (e:=e) (by simpa using he) λ h' a4 sb=> ?_;have I1:Inv X xC σ H {s with heap:=h'}:=I.turned (t':=s.toks) (λ b o hb e=>(sb.2 b hb).trans e) f0 f1 f3 f4 f5;obtain ⟨oi,ei,ci,di⟩:=id a4;rw [ek];exact ⟨_,rfl,qeb (s:={s with heap:=h'}) ei ci di (by decide) ⟨.ref b,H,I1,rfl,⟨rfl,_,b,z0c hi,rfl,hb⟩,a4,λ b hb=>(hf b hb).1⟩⟩
 done:=by
  intro X hP hw hK hc i xC s σ H E I hf st hg;subst hP hw hK;obtain ⟨ha,hi⟩:=hg;obtain ⟨a1,hz,a8,xs,a3,o2,a6,a5,Z,a9,O,a2,a7⟩:=I.hok a _ ha;rw [a1] at Z;cases Z
  rw [J] at O;cases O
  have hl:es.size=kvs.length:=by
   rw [<- z18,a2,z2z];exact (Paired.length a3).symm
  obtain ⟨f0,f1,f2,f3,f4,f5⟩:=hf it (by simp);exact qg1 (I.ok.hd hc) st ⟨o,a1,ho,J⟩ (by lia) λ h' eb=>⟨zr,I.turned (t':=s.toks) (λ b o hb e=>eb b o hb e) f0 f1 f3 f4 f5⟩
 self:=by
  intro A i s Q E st h;exact wpAny_pyIter_keyiter st h
def q10v (tl:TE):TI:=λ σ H R=>tl σ H λ x H1=>∃ a kvs,x= .ref a/\((H1 a=some (.dT kvs)/\∀ o,R (ItdT a o kvs) (upd H1 a (.frz o (.dT kvs))))\/ ∃ o,H1 a=some (.frz o (.dT kvs))/\R (ItdT a o kvs) H1)
def qth {l:Expr} {tl:TE} (hl:PE X l tl):PI X tg l (q10v tl):=by
 intro xC s σ H R I h;refine thn (hl xC s σ H _ I h) λ v s1 a4=> ?_;obtain ⟨x,H1,I1,r1,q1⟩:=a4;obtain ⟨a,kvs,e,q⟩:=q1;subst e;cases r1
 obtain ⟨H2,o,I2,ha,q2⟩:∃ H2 o,Inv X xC σ H2 s1/\H2 a=some (.frz o (.dT kvs))/\R (ItdT a o kvs) H2:=by
  rcases q with ⟨e,q⟩ | ⟨o,e,q⟩
  ·obtain ⟨hz,O,xs,a3,o,es,ep,ho,r⟩:=I1.hok a _ e;exact ⟨_,o,I1.freezeT e ho,qb,q o⟩
  ·exact ⟨H1,o,I1,e,q⟩
 obtain ⟨a1,hz,O,xs,a3,o2,es,ep,Z,a2,J,hes,hnd⟩:=I2.hok a _ ha;rw [a1] at Z;cases Z
 refine qd1 O ⟨o,a1,a2,J⟩ ?_;refine ⟨s1.heap.objs.size,[s1.heap.objs.size],_,_,H2,zr,I2.kept (t':=s1.toks) λ b o e=>z0n _ e,qpa a _ o es ep kvs a2 J,⟨_,z1b _ rfl,zr,zr⟩,λ b hb=> ?_,q2⟩;have e:b=s1.heap.objs.size:=by simpa using hb
 subst e;exact I2.fpOk (z47 _) (I2.hok.fresh (z47 _))
end
def qre {a:Addr} {o:Obj} {kvs:List (List Key×V)} {g:TG} {tb:TS} {D:Ends} {σ:St} {H:Hp} (Pv:Nat ->St ->Hp ->Prop) (h0:Pv 0 σ H) (hl:∀ i σ H,i<=kvs.length ->Pv i σ H ->H a=some (.frz o (.dT kvs)))
  (hs:∀ i J b σ H,kvs[i]? =some J ->H b=some (.tup (J.1.map kV)) ->Pv i σ H ->g (.ref b) σ H λ σ2 H2=>tb {D with nx:=Pv (i+1),ct:=Pv (i+1),bk:=D.nx} σ2 H2) (he:∀ σ H,Pv kvs.length σ H ->D.nx σ H):
  ∃ W:Nat ->Nat ->St ->Hp ->Prop,(∃ m,W 0 m σ H)/\∀ i m σ H,W i m σ H ->((ItdT a o kvs).stop i H/\D.nx σ H)\/ ((ItdT a o kvs).go i H/\∃ N:St ->Hp ->Prop,(∀ σ' H',N σ' H' ->∃ O,O < m/\W (i+1) O σ' H')/\∀ x H',(ItdT a o kvs).yld i H x H' ->g x σ H' λ σ2 H2=>tb {D with nx:=N,ct:=N,bk:=D.nx} σ2 H2):=by
 refine qyk kvs.length Pv h0 (λ i σ H hi p=>⟨hl i σ H (z3x hi) p,hi⟩) (λ σ H p=>⟨⟨hl _ σ H (z47 _) p,z47 _⟩,he σ H p⟩) λ i σ H hi p x H' y=> ?_;obtain ⟨rfl,J,b,hk,rfl,hb⟩:=y;exact hs i J b σ H' hk hb p
end L2
namespace L2
open PySem PySem.Spec PyProof.Rows
section
variable {X:Cx}
end
section
variable {prog:Program} {w:World} {A:Around} {E:xB} {s:Shared}
end
section
variable {X:Cx}
end
section
variable {X:Cx}
end
section
variable {prog:Program} {w:World} {A:Around} {E:xB} {s:Shared}
end
section
variable {X:Cx} {xC:xG} {σ:St} {H:Hp} {s:Shared} {h':Heap}
end
section
variable {prog:Program} {w:World} {A:Around} {E:xB} {s:Shared}
end
section
variable {X:Cx} {elts:List Expr} {pt:Pos}
end
section
variable {X:Cx}
end
theorem MDef.imp {P:Program} {w:World} {K:xA} {mg:xE} {base:Heap} {k:Nat} {C:Addr} {m:Str} {ps:xD} {sp J:Sp} (D:MDef P w K mg base k C m ps sp) (h:∀ vs H Q E,J vs H Q E ->sp vs H Q E):MDef P w K mg base k C m ps J:=by
 obtain ⟨f,fd,F,hm,hb⟩:=D.ex;exact ⟨f,fd,F.imp h,hm,hb⟩
theorem MDef.mono {P:Program} {w:World} {K:xA} {mg:xE} {base:Heap} {j k:Nat} {C:Addr} {m:Str} {ps:xD} {sp:Sp} (D:MDef P w K mg base j C m ps sp) (h:j<=k):MDef P w K mg base k C m ps sp:=by
 obtain ⟨f,fd,F,hm,hb⟩:=D.ex;exact ⟨f,fd,F.mono h,hm,hb⟩
def qrf {ι:Type} (cls:ι ->Addr) (m:Str) (sp:ι ->Sp) (ta:TE) (t:TA):TE:=λ σ H Q=>ta σ H λ x H1=>∃ i a dx fs,x= .ref a/\H1 a=some (.ins (cls i) dx fs)/\fs.lookup m=none/\
 t σ H1 λ vs H2=>sp i (x::vs) H2 Q E0
section
variable {X:Cx} {k k':Nat} {ι:Type} {cls:ι ->Addr} {ps:xD} {sp:ι ->Sp} {x m:Str} {p pos apos:Pos} {e o:Expr} {es:List Expr} {ta:TE} {t:TA}
def q41 {pl:Sem Bool} (D:∀ i,MDef X.prog X.w X.K X.mg X.base k (cls i) m ps (sp i)) (c:∀ i,Cls X.K (cls i)) (hr:Room k' X.A) (he:PE X o ta) (ha:PA X (e::es) t) (J:k<=k':=by decide)
  (Z:starEach (e::es) X.env=(false,eval e X.env)::starEach es X.env:=by rfl) (O:(backTo pos (starEach es X.env)).any (·.1)=false:=by rfl)
  (ht:eval (.Call (.Attribute o m apos) (e::es) [] pos) X.env=(do
   let ov <- eval o X.env
   standAt apos.atName
   let (f,first) <- holding [ov] (getMethod ov m pl)
   callWith pos f first (backTo pos (starEach (e::es) X.env)) (backToKw pos (keywordEach [] X.env))):=by rfl):
  PE X (.Call (.Attribute o m apos) (e::es) [] pos) (qrf cls m sp ta t):=by
 intro xC s σ H Q I h;refine PySem.W.methodCall_KW (pl:=pl) (thn (he xC s σ H _ I h) λ u s1 a1=> ?_) ht;obtain ⟨x,H1,I1,rx,i,a,dx,fs,ex,ea,l,q⟩:=a1;obtain ⟨f,fd,F,hm,hb⟩:=(D i).ex;subst ex;obtain rfl:u=Value.ref a:=rx;refine q95 I1 ea (c i) hm l ?_;refine PySem.W.callWith_K (first:=[.ref a]) (h₀:=X.base) I.ok.mod.kin hm.kp (thn (ha pos xC s1 σ H1 _ I1 q) λ us s2 ⟨vs,H2,I2,r,q2⟩=>⟨I2.kIn,?_⟩) Z O;exact qeg (us:= .ref a::us) (vs:= .ref a::vs) F (hr.mono J) hb .nil qbu I2 (.cons rfl r) (by rw [z30];exact q2)
def q4x {pl:Sem Bool} (D:∀ i,MDef X.prog X.w X.K X.mg X.base k (cls i) m ps (sp i)) (c:∀ i,Cls X.K (cls i)) (hr:Room k' X.A) (he:PE X o ta) (J:k<=k':=by decide)
  (ht:eval (.Call (.Attribute o m apos) [] [] pos) X.env=(do
   let Z <- eval o X.env
   standAt apos.atName
   let (f,first) <- holding [Z] (getMethod Z m pl)
   callWith pos f first (backTo pos (starEach [] X.env)) (backToKw pos (keywordEach [] X.env))):=by rfl):
  PE X (.Call (.Attribute o m apos) [] [] pos) (qrf cls m sp ta tNil):=by
 intro xC s σ H Q I h;refine PySem.W.methodCall_KW (pl:=pl) (thn (he xC s σ H _ I h) λ u s1 O=> ?_) ht;obtain ⟨x,H1,I1,rx,i,a,dx,fs,ex,ea,l,q⟩:=O;obtain ⟨f,fd,F,hm,hb⟩:=(D i).ex;subst ex;obtain rfl:u=Value.ref a:=rx;refine q95 I1 ea (c i) hm l ?_;exact PySem.W.callWith_K0 (first:=[.ref a]) I1.kIn hm.kp (qeg (us:=[.ref a]) (vs:=[.ref a]) F (hr.mono J) hb .nil qbu I1 (.cons rfl .nil) q)
def q5o {C:Addr} (hg:Gl X x) (hm:X.mg x=some (.ref C)) (hd:(x==("__debug__":Str))=false:=by decide):PE X (.Name x pos) (tC (.ref C)):=qfw hg hm rfl hd
end
section
open PySem.AutoSeq1
end
section
variable {X:Cx}
end
section
variable {prog:Program} {w:World} {A:Around} {E:xB} {s:Shared}
end
section
variable {X:Cx} {elts:List Expr} {pt:Pos}
end
section
variable {X:Cx}
end
end L2
namespace L2
open PySem PySem.Spec PyProof.Rows PySem.W
section
variable {prog:Program} {w:World} {A:Around} {E:xB} {s:Shared}
end
section
variable {X:Cx}
section
variable {xC:xG} {σ:St} {H:Hp} {s:Shared} {a kS:Addr} {vs ks:xH} {rk:Value ->Int} {e e1:Nat} {P:PySem.Fin ->Shared ->Prop} {E:xB} {A:Around}
end
end
section
variable {X:Cx} {k k':Nat} {x p1:Str} {sp:Sp} {e:Expr} {t:TA} {p pos kpos xp:Pos}
end
end L2
namespace L2
open PySem PySem.Spec PyProof.Rows
section
variable {X:Cx}
end
section
variable {prog:Program} {w:World} {A:Around} {E:xB} {s:Shared}
end
section
variable {X:Cx} {elts:List Expr} {pt:Pos}
end
section
variable {prog:Program} {w:World} {A:Around} {E:xB} {s:Shared}
end
section
variable {X:Cx} {elts:List Expr} {pt:Pos}
end
section
variable {X:Cx} {k k':Nat} {C:Addr} {ps:xD} {sp:Sp} {x:Str} {p pos:Pos} {e:Expr} {es:List Expr} {t:TA}
end
end L2
namespace PySem
section
variable {prog:Program} {w:World} {K:Type} [DecidableEq K] {knd:HeapKind prog w K} {A:Around} {E:xB} {s:Shared} {d a:Addr} {k:K} {xs:List (K×Addr×Value)}
end
end PySem
namespace L2
open PySem PySem.Spec PyProof.Rows
section
variable {X:Cx} {xC:xG} {σ:St} {H:Hp} {s:Shared} {a b:Addr} {kvs:List (List Key×V)} {k:List Key} {z:V} {r:Value} {A:Around} {E:xB}
end
section
variable {X:Cx} {o e f:Expr} {apos cpos:Pos} {td ty tx:TE}
end
end L2
namespace L2
open PySem PySem.Spec PyProof.Rows PySem.W
section
variable {X:Cx} {tg:Expr}
end
end L2
open PySem PySem.W PyProof.Rows
namespace L2
def us0 {p:List Value ->Prop} (h:p []):∀ us:List Value,us.length=0 ->p us:=λ _ e=>(z0j.mp e).symm ▸ h
def us1 {p:List Value ->Prop} (h:∀ a:Value,p [a]):∀ us:List Value,us.length=1 ->p us
 | [],e=>absurd e (by decide)
 | a::t,e=>us0 (p:=λ us=>p (a::us)) (h a) t (Nat.succ.inj e)
def us2 {p:List Value ->Prop} (h:∀ a b:Value,p [a,b]):∀ us:List Value,us.length=2 ->p us
 | [],e=>absurd e (by decide)
 | a::t,e=>us1 (p:=λ us=>p (a::us)) (h a) t (Nat.succ.inj e)
def us3 {p:List Value ->Prop} (h:∀ a b c:Value,p [a,b,c]):∀ us:List Value,us.length=3 ->p us
 | [],e=>absurd e (by decide)
 | a::t,e=>us2 (p:=λ us=>p (a::us)) (h a) t (Nat.succ.inj e)
def us4 {p:List Value ->Prop} (h:∀ a b c d:Value,p [a,b,c,d]):∀ us:List Value,us.length=4 ->p us
 | [],e=>absurd e (by decide)
 | a::t,e=>us3 (p:=λ us=>p (a::us)) (h a) t (Nat.succ.inj e)
def us5 {p:List Value ->Prop} (h:∀ a b c d e:Value,p [a,b,c,d,e]):∀ us:List Value,us.length=5 ->p us
 | [],e=>absurd e (by decide)
 | a::t,e=>us4 (p:=λ us=>p (a::us)) (h a) t (Nat.succ.inj e)
structure FiK (K:xA) (x:Str) (st:Stmt):Prop where
 ex:∃ (f:Addr) (oc:Value) (od an:Option Addr) (osl:Array (Option Value)) (kV doc pm cdv ct:Value),PySem.W.nsIn K mainGlobals x=some (some (.ref f))/\
  K.lookup f=some ⟨oc,od,.func (PySem.W.fnOf x x (q1t st) (q1d st) (qd st) .none kV doc pm an cdv ct),osl⟩/\PySem.W.codeIn K cdv x=true/\PySem.W.keepIn K (.ref f)=true
def fiK {K:xA} {x:Str} {st:Stmt} {f:Addr} {oc:Value} {od Z:Option Addr} {O:Array (Option Value)} {kV J pm cdv ct:Value} (a:PySem.W.nsIn K mainGlobals x=some (some (.ref f)))
  (l:K.lookup f=some ⟨oc,od,.func (PySem.W.fnOf x x (q1t st) (q1d st) (qd st) .none kV J pm Z cdv ct),O⟩) (c:PySem.W.codeIn K cdv x=true) (k:PySem.W.keepIn K (.ref f)=true):FiK K x st:=
 ⟨f,oc,od,Z,O,kV,J,pm,cdv,ct,a,l,c,k⟩
def FiK.top {K:xA} {h:Heap} {mg:xE} {x:Str} {st:Stmt} {ps:xD} (F:FiK K x st) (X:K.In h) (G:h.Ns mainGlobals mg)
  (b:∀ (kV J Z:Value) (O:Option Addr) (cdv ct:Value) (us:xH),us.length=ps.length ->bindArgs (PySem.W.fnOf x x (q1t st) (q1d st) (qd st) .none kV J Z O cdv ct) ⟨us,[]⟩=pure (ps.zip us)):Top K mg x st ps:=by
 obtain ⟨f,oc,od,O,osl,kV,J,Z,cdv,ct,a,l,c,k⟩:=F.ex;exact qyn X G b a l c k
structure MiK (K:xA) (x m qual:Str) (st:Stmt):Prop where
 ex:∃ (C f:Addr) (oc:Value) (od an:Option Addr) (osl:Array (Option Value)) (kV doc pm cdv ct:Value),PySem.W.nsIn K mainGlobals x=some (some (.ref C))/\PySem.W.findIn K (.ref C) m=some (some (.ref f))/\PySem.W.isFn K (.ref f)=true/\
  K.lookup f=some ⟨oc,od,.func (PySem.W.fnOf m qual (q1t st) (q1d st) (qd st) .none kV doc pm an cdv ct),osl⟩/\PySem.W.codeIn K cdv qual=true/\PySem.W.keepIn K (.ref f)=true
def miK {K:xA} {x m qual:Str} {st:Stmt} {C f:Addr} {oc:Value} {od Z:Option Addr} {O:Array (Option Value)} {kV J pm cdv ct:Value} (n:PySem.W.nsIn K mainGlobals x=some (some (.ref C)))
  (a:PySem.W.findIn K (.ref C) m=some (some (.ref f))) (i:PySem.W.isFn K (.ref f)=true)
  (l:K.lookup f=some ⟨oc,od,.func (PySem.W.fnOf m qual (q1t st) (q1d st) (qd st) .none kV J pm Z cdv ct),O⟩) (c:PySem.W.codeIn K cdv qual=true) (k:PySem.W.keepIn K (.ref f)=true):MiK K x m qual st:=
 ⟨C,f,oc,od,Z,O,kV,J,pm,cdv,ct,n,a,i,l,c,k⟩
def MiK.top {K:xA} {h:Heap} {mg:xE} {x m qual:Str} {st:Stmt} {ps:xD} (F:MiK K x m qual st) (X:K.In h) (G:h.Ns mainGlobals mg)
  (b:∀ (kV J Z:Value) (O:Option Addr) (cdv ct:Value) (us:xH),us.length=ps.length ->bindArgs (PySem.W.fnOf m qual (q1t st) (q1d st) (qd st) .none kV J Z O cdv ct) ⟨us,[]⟩=pure (ps.zip us)):MTop K (cA mg x) m qual st ps:=by
 obtain ⟨C,f,oc,od,O,osl,kV,J,Z,cdv,ct,n,a,i,l,c,k⟩:=F.ex;rw [q4o (z3q X G n)];exact qwz b a i l c k
structure CiK (K:xA) (x:Str):Prop where
 ex:∃ C:Addr,PySem.W.nsIn K mainGlobals x=some (some (.ref C))/\PySem.W.plainGet K C Str.empty=true/\PySem.W.hasDictIn K C=true/\PySem.W.plainOver K C=true/\
  PySem.W.findIn K (.ref C) "__setattr__"=some (some (.builtin "object.__setattr__"))/\PySem.W.makesIn K C=true/\PySem.W.keepIn K (.ref C)=true
def ciK {K:xA} {x:Str} {C:Addr} (n:PySem.W.nsIn K mainGlobals x=some (some (.ref C))) (pg:PySem.W.plainGet K C Str.empty=true) (hd:PySem.W.hasDictIn K C=true) (po:PySem.W.plainOver K C=true)
  (sa:PySem.W.findIn K (.ref C) "__setattr__"=some (some (.builtin "object.__setattr__"))) (mk:PySem.W.makesIn K C=true) (kc:PySem.W.keepIn K (.ref C)=true):CiK K x:=⟨C,n,pg,hd,po,sa,mk,kc⟩
section
variable {K:xA} {h:Heap} {mg:xE} {x a:Str} {v:Option (Option Value)}
def CiK.g (F:CiK K x) (X:K.In h) (G:h.Ns mainGlobals mg):mg x=some (.ref (cA mg x)):=by
 obtain ⟨C,n,_⟩:=F.ex;rw [q4o (z3q X G n)];exact z3q X G n
def CiK.cl (F:CiK K x) (X:K.In h) (G:h.Ns mainGlobals mg):Cls K (cA mg x):=by
 obtain ⟨C,n,pg,hd,po,sa,_⟩:=F.ex;rw [q4o (z3q X G n)];exact ⟨pg,hd,po,sa⟩
def CiK.mk' (F:CiK K x) (X:K.In h) (G:h.Ns mainGlobals mg):PySem.W.makesIn K (cA mg x)=true:=by
 obtain ⟨C,n,_,_,_,_,mk,_⟩:=F.ex;rw [q4o (z3q X G n)];exact mk
def CiK.kp (F:CiK K x) (X:K.In h) (G:h.Ns mainGlobals mg):PySem.W.keepIn K (.ref (cA mg x))=true:=by
 obtain ⟨C,n,_,_,_,_,_,kc⟩:=F.ex;rw [q4o (z3q X G n)];exact kc
structure AiK (K:xA) (x a:Str) (v:Option (Option Value)):Prop where
 ex:∃ C:Addr,PySem.W.nsIn K mainGlobals x=some (some (.ref C))/\PySem.W.findIn K (.ref C) a=v
def aiK {C:Addr} (n:PySem.W.nsIn K mainGlobals x=some (some (.ref C))) (f:PySem.W.findIn K (.ref C) a=v):AiK K x a v:=⟨C,n,f⟩
def AiK.at' (F:AiK K x a v) (X:K.In h) (G:h.Ns mainGlobals mg):PySem.W.findIn K (.ref (cA mg x)) a=v:=by
 obtain ⟨C,n,f⟩:=F.ex;rw [q4o (z3q X G n)];exact f
end
end L2
namespace L2
open PySem PySem.Spec PyProof.Rows PySem.Builtin.Str
section
variable {X:Cx}
variable {v1 v2 v3 e:Expr} {t1 t2 t3 te:TE} {pos:Pos}
def q10w (he:PE X e te):PE X (.FormattedValue e (-1) none pos) (λ σ H Q=>te σ H λ x H1=>∃ z,x= .str z/\z.length<=sizeLine/\Q (.str z) H1):=by
 intro xC s σ H Q I h;refine FormattedValue_plain (thn (he xC s σ H _ I h) λ v s1 J=> ?_);obtain ⟨x,H1,I1,r1,z,ez,hz,q⟩:=J;subst ez;obtain ⟨t,rfl⟩:=r1;exact formatField_str (λ t' tk=>⟨.str z,H1,I1.tok _,⟨_,zr⟩,q⟩) hz
end
end L2
namespace L2
open PySem PySem.Spec PyProof.Rows PySem.Builtin.Str PySem.StrLaws PySem.NumText
end L2
namespace L2
open PySem PySem.Spec PyProof.Rows
def CXE (P:Program) (w:World):CXT:=λ outer H s E e s'=>
 ∃ (ea:Addr) (cls:Value) (t:Addr) (H':Hp) (B:Heap),e= .ref ea/\s'.os=s.os/\AllBare s'.gens/\Un (frs outer) [] H H' s.heap s'.heap/\HOk P w H' s'.heap/\
  Heap.FlyingW B outer ea cls (.ref t) s'.heap/\(∀ b u,H' b=some u ->∃ o,B.get? b=some o)/\(∀ b o,s.heap.get? b=some o ->b∉frs outer ->∃ o',B.get? b=some o')/\E cls none H'
def ObjOk.there {P:Program} {w:World} {H:Hp} {h:Heap} {a:Addr} {o:HO} (x:ObjOk P w H h a o):∃ u,h.get? a=some u:=by
 cases o with
 | lst xs=>obtain ⟨_,_,_,_,e⟩:=x;exact ⟨_,e⟩
 | tup xs=>obtain ⟨_,_,_,u,e,_⟩:=x;exact ⟨u,e⟩
 | dK kvs=>obtain ⟨_,_,_,_,o,_,_,e,_⟩:=x;exact ⟨o,e⟩
 | dT kvs=>obtain ⟨_,_,_,_,o,_,_,e,_⟩:=x;exact ⟨o,e⟩
 | set S n=>obtain ⟨o,_,_,_,e,_⟩:=x;exact ⟨o,e⟩
 | ins C dx fs=>obtain ⟨_,_,_,e,_⟩:=x;exact ⟨_,e⟩
 | own y=>obtain ⟨o,e⟩:=x;exact ⟨o,e⟩
 | xd fs=>obtain ⟨_,⟨o,_,_,e,_⟩,_⟩:=x;exact ⟨o,e⟩
 | rng lo hi=>obtain ⟨_,_,_,e⟩:=x;exact ⟨_,e⟩
 | frz ob u=>obtain ⟨e,_⟩:=x;exact ⟨_,e⟩
 | tbl ps=>exact ⟨_,(show h.get? a=some _ from x)⟩
 | met f y=>exact ⟨_,(show h.get? a=some _ from x)⟩
 | ext φ=>obtain ⟨_,⟨o,e⟩,_⟩:=x;exact ⟨o,e⟩
section
variable {X:Cx} {xC:xG} {σ:St} {H:Hp} {s:Shared} {E:XK} {B h':Heap} {ea t:Addr} {cls:Value}
def qns {P:Program} {w:World} {h:Heap} (ok:HOk P w H h) (st:B.StaysIn h) (b1:∀ b u,H b=some u ->∃ o,B.get? b=some o) (k:B.StaysIn h'):HOk P w H h':=λ a u e=>
 (ok a u e).stay (λ b v hb q=>by
  have J:∃ O,H b=some O:=by
   rcases hb with rfl | hb
   ·exact ⟨_,e⟩
   ·exact ⟨_,hb⟩
  obtain ⟨O,eu⟩:=J;obtain ⟨o,Z⟩:=b1 b O eu;have z:=st b o Z;rw [q] at z;cases z
  exact k b _ Z) (λ _ q=>q) λ _ _ q=>q
def qrg {l:List Env} {H H':Hp} {h h1 h2:Heap} (un:Un (frs l) [] H H' h h1) (st:B.StaysIn h1) (ff:h1.FunFrames B l) (Z:∀ b o,h.get? b=some o ->b∉frs l ->∃ o',B.get? b=some o') (k:B.StaysIn h2) (J:h2.FunFrames B l) (up:h1.UpToSlots h2):
  Un (frs l) [] H H' h h2:=by
 refine ⟨λ b o q n hb hx=> ?_,λ b o q n hb hx=> ?_,un.free,λ b o q _=> ?_,un.tups,un.frzs,un.tbls⟩
 ·have e1:=un.keep b o q n hb hx;obtain ⟨o',e2⟩:=Z b o q hb;have e3:=st b o' e2;rw [e1] at e3;cases e3
  exact k b _ e2
 ·obtain ⟨sl,e1⟩:=un.slot b o q n hb hx;obtain ⟨_,o1,e3,nf⟩:=ff.mem hb;rw [e1] at e3;cases e3
  obtain ⟨O,e4⟩:=up b _ e1 nf;exact ⟨O,e4⟩
 ·by_cases hb:b∈frs l
  ·obtain ⟨_,o1,e3,_⟩:=J.mem hb;exact ⟨o1,e3⟩
  ·obtain ⟨o',e2⟩:=Z b o q hb;exact ⟨o',k b _ e2⟩
def q10x {base h:Heap} {l:List Env} (f:h.FunFrames base l) (st:B.StaysIn h) {h2:Heap} (f2:h2.FunFrames B l):h.FunFrames B l:=by
 induction l with
 | nil=>trivial
 | cons env r ih=>
  obtain ⟨a1,⟨L,o,J,a3,a4⟩,a5⟩:=f;obtain ⟨c1,⟨L',o',c2,c3,c4⟩,c5⟩:=f2;rw [J] at c2;cases c2
  exact ⟨a1,⟨L,o,J,c3,a4⟩,ih a5 c5⟩
def qi2 (I:Inv X xC σ H s) (J:X.ex=[]) (st:B.StaysIn s.heap) (b1:∀ b u,H b=some u ->∃ o,B.get? b=some o) (O:∀ b o,X.s₀.heap.get? b=some o ->b∉frs X.outer ->∃ o',B.get? b=some o')
  (fl:Heap.FlyingW B X.outer ea cls (.ref t) h') (up:s.heap.UpToSlots h') (he:E cls none H):CXE X.prog X.w X.outer X.H₀ X.s₀ E (.ref ea) {s with heap:=h'}:=by
 have Z:=I.base;rw [J] at Z;exact ⟨ea,cls,t,H,B,zr,I.os,I.bare,qrg Z st (q10x I.funs st fl.2.2.1) O fl.1 fl.2.2.1 up,qns I.hok st b1 fl.1,fl,b1,O,he⟩
structure Leav (X:Cx) (E:XK):Prop where
 ex:X.ex=[]
 st:X.stack=X.env::X.outer
 fr:X.env.frame=some X.env.locals
 xe:X.xe=λ e s'=>wpAny (model X.prog X.w) X.A (leaving X.env e) (λ _ s''=>CXE X.prog X.w X.outer X.H₀ X.s₀ E e s'') (λ e' s''=>CXE X.prog X.w X.outer X.H₀ X.s₀ E e' s'') s'
def qnt {P:Program} {w:World} {K:xA} {mg:xE} {base:Heap} {N:xD} {qual:Str} {scope:Scope} {f:Addr} {cd:Value} {A:Around} {outer:List Env} {s:Shared} {H:Hp}:
  Leav (cxOf (CXE P w) P w K mg base N qual scope f cd A outer s H E) E:=⟨rfl,rfl,rfl,rfl⟩
def Inv.old (I:Inv X xC σ H s) (st:X.stack=X.env::X.outer) (fr:X.env.frame=some X.env.locals) {b:Addr} {o:Obj} (q:X.s₀.heap.get? b=some o) (hb:b∉frs X.outer):b∉frs X.stack:=λ z=>by
 rcases z3m.mp (I.stkSub b z) with e | e
 ·exact absurd (z1q (z3y q) I.ok.above) (by rw [e];exact z3o _)
 ·exact hb e
def qrh (L:Leav X E):q3l (CXE X.prog X.w) X E:=by
 intro xC σ H s e s' I h;obtain ⟨ea,cls,t,H',B,rfl,os,bare,un,hok,fl,b1,b2,he⟩:=h;have I':Inv X xC σ H' s':=I.call' (ch:=[]) os un hok bare (λ b z=>nomatch z);rw [L.xe];have J:=fl;rw [L.st] at J;refine wpAny_leaves_onW (by rw [<- L.st];exact I.ok.frames) L.fr J λ h' x1 x2=> ?_;refine qi2 I' L.ex fl.1 b1 (λ b o q hb=> ?_) x1 x2 he;obtain ⟨o',q'⟩:=I.base.there b o q (by rw [L.ex];simp);exact b2 b o' q' (I.old L.st L.fr q hb)
def qpb (L:Leav X E) (I:Inv X xC σ H s) {h1:Heap} {args:xH} (hx:Heap.MadeExcOf s.heap h1 ea cls args) (J:E cls none H):X.xe (.ref ea) {s with heap:=h1}:=by
 rw [L.xe];have O:∀ env∈X.env::X.outer,∀ b,env.frame=some b ->b∈frs X.stack:=λ env J b hb=>by rw [L.st];exact List.mem_filterMap.mpr ⟨env,J,hb⟩
 have fs:=I.stack;rw [L.st] at fs;refine wpAny_leaves_madeW (base:=PySem.W.hideAll s.heap (frs X.stack)) (h:=s.heap) (by rw [<- L.st];exact I.ok.frames) L.fr (λ b o q=>PySem.W.of_hideAll _ q) (PySem.W.funFrames_hide fs O) hx λ h' t x1 _ _ x4=> ?_;have up:s.heap.UpToSlots h':=(Heap.UpToSlots.of_keeps hx.keeps).trans x4;show CXE X.prog X.w X.outer X.H₀ X.s₀ E (.ref ea) {s with heap:=h'};refine qi2 (s:=s) I L.ex (λ b o q=>PySem.W.of_hideAll _ q) (λ b u q=> ?_) (λ b o q hb=> ?_) x1 up J
 ·obtain ⟨o,e⟩:∃ o,s.heap.get? b=some o:=(I.hok b u q).there;exact ⟨o,PySem.W.hideAll_get _ e λ z=>by rw [I.stkFree b z] at q;cases q⟩
 ·obtain ⟨o',q'⟩:=I.base.there b o q (by rw [L.ex];simp);exact ⟨o',PySem.W.hideAll_get _ q' (I.old L.st L.fr q hb)⟩
end
abbrev qvh:List Value:=[.type "ValueError",.type "Exception",.type "BaseException",.type "object"]
def qx1 {K:xA} {h:Heap} {C:Addr} {Z:xH} {J:String} (X:K.In h) (q:PySem.W.excIn K C Z J=true):
  ∃ bm N nm qn bs hd sn sub ab col dd k0 k1 k2 k3 k5 mN,h.get? C=some (excClassObj nm qn C N bs bm hd sn sub ab col dd k0 k1 k2 k3 k5 J)/\h.Ns N mN/\mN "__init__"=none/\OwnTail h Z bm:=by
 unfold PySem.W.excIn at q;split at q
 ·rename_i dd cd sl ho;split at q
  ·rename_i C' bm k0 k1 k2 k3 n k5 hm hs;simp only [z2l,beq_iff_eq,Bool.not_eq_true'] at q;obtain ⟨⟨⟨⟨⟨rfl,rfl⟩,O⟩,ht⟩,hok⟩,a1⟩:=q;obtain ⟨nm,bs,mro,ns,qn,hd,sn,sub,ab,col,del⟩:=cd
   dsimp only at hm O hok a1
   subst hm O;have a2:sl=#[k0,k1,k2,k3,some (.builtin n),k5]:=by
    obtain ⟨l⟩:=sl;simp only at hs;rw [hs]
   subst a2;exact ⟨bm,ns,nm,qn,bs,hd,sn,sub,ab,col,dd,k0,k1,k2,k3,k5,_,X _ _ ho,.of_isNs (PySem.W.isNs_of_in X hok),PySem.W.nsMap_none_of_in X hok a1,PySem.W.tail_of_in X ht⟩
  ·cases q
 ·cases q
def qz1 (C:Addr) (E:XK) (t:TA):TS:=λ _ σ H=>t σ H λ vs H1=>vs.length<=sizeLine/\E (.ref C) none H1
section
variable {X:Cx} {E:XK} {C:Addr} {x:Str} {np cpos pos:Pos} {e:Expr} {es:List Expr} {t:TA}
def qti (L:Leav X E) (hq:PySem.W.excIn X.K C qvh "ValueError.__new__"=true) (hm:X.mg x=some (.ref C)) (ha:PA X (e::es) t) (hg:Gl X x:=by rfl) (hc:X.calm=true:=by rfl)
  (Z:starEach (e::es) X.env=(false,eval e X.env)::starEach es X.env:=by rfl) (O:(backTo cpos (starEach es X.env)).any (·.1)=false:=by rfl) (hd:(x==("__debug__":Str))=false:=by decide):
  PS X (.Raise (some (.Call (.Name x np) (e::es) [] cpos)) none pos) (qz1 C E t):=by
 intro xC s σ H D I h;obtain ⟨bm,N,nm,q,bs,hdct,sn,sub,ab,col,dd,k0,k1,k2,k3,k5,mN,hC,hN,J,T⟩:=qx1 I.mod.kin hq;refine wpAny_Raise_call_subT (C:=C) (nm:=nm) (q:=q) (N:=N) (bs:=bs) (bm:=bm) (hdct:=hdct) (sn:=sn) (sub:=sub) (ab:=ab) (col:=col) (dd:=dd) (k0:=k0) (k1:=k1) (k2:=k2) (k3:=k3) (k5:=k5)
  F.excBase_ValueError (mN:=mN) (T.hasType F.excBase_ValueError.hasBase) (I.ok.hd hc) (by rw [Z];show (false || (backTo cpos (starEach es X.env)).any (·.1))=false;rw [O];rfl) J (q4v I hg hm ⟨rfl,?_⟩ hd)
 have a:=ha cpos xC s σ H _ I h;rw [Z] at a ⊢;refine Calls.evalArgs_plain (thn a λ us s2 ⟨vs,H2,I2,r,z,q⟩=>⟨rfl,by rw [<- r.length];exact z,I2.bk _ _ hC,hN.keeps I2.bk,T.keeps I2.bk,λ h' ea hx=> ?_⟩);exact qpb L I2 hx q
end
abbrev Cx.tried (X:Cx) (xC:xG) (xe:xB):Cx:={X with pn:=X.pn++xC,xe:=xe}
abbrev Cx.hand (X:Cx) (ea:Addr) (oe:Obj):Cx:={X with A:=X.A.mark (some (.ref ea)),calm:=false,pn:=(ea,oe)::X.pn,xe:=λ _ _=>False}
section
variable {X:Cx} {xC pins':xG} {σ:St} {H:Hp} {s:Shared} {xe:xB} {ea:Addr} {oe:Obj}
theorem Inv.tried (I:Inv X xC σ H s):Inv (X.tried xC xe) [] σ H s:=
 ⟨⟨I.ok.mod,I.ok.kind,I.ok.glob,I.ok.blt,I.ok.above,I.ok.inj,I.ok.has,I.ok.cab,I.ok.hd,I.ok.frames,I.ok.stk,I.ok.exf,I.ok.bs,I.ok.bsz,I.ok.noex,I.ok.exfs,I.ok.funs,I.ok.frf⟩,I.os,I.bare,I.base,I.loc,I.cell,I.free,I.freeC,
  λ p J=>I.pin p (by rw [z30] at J;exact J),I.hok,I.len⟩
def Inv.untried (I:Inv (X.tried xC xe) pins' σ H s) (ok:X.Ok):Inv X xC σ H s:=
 ⟨ok,I.os,I.bare,I.base,I.loc,I.cell,I.free,I.freeC,λ p hp=>I.pin p (z16 _ hp),I.hok,I.len⟩
theorem Inv.hand (I:Inv X xC σ H s) (h:s.heap.get? ea=some oe/\H ea=none/\ea≠X.env.locals/\ea∉X.fs/\∀ v,oe.data≠ .cell v):Inv (X.hand ea oe) xC σ H s:=
 ⟨⟨I.ok.mod,I.ok.kind,I.ok.glob,I.ok.blt,I.ok.above,I.ok.inj,I.ok.has,I.ok.cab,(λ z=>by cases z),I.ok.frames,I.ok.stk,I.ok.exf,I.ok.bs,I.ok.bsz,I.ok.noex,I.ok.exfs,I.ok.funs,I.ok.frf⟩,I.os,I.bare,I.base,I.loc,I.cell,I.free,I.freeC,
  λ p hp=>by
   rcases z3m.mp hp with rfl | z
   ·exact h
   ·exact I.pin p z,I.hok,I.len⟩
def Inv.unhand (I:Inv (X.hand ea oe) xC σ H s) (ok:X.Ok):Inv X xC σ H s:=
 ⟨ok,I.os,I.bare,I.base,I.loc,I.cell,I.free,I.freeC,λ p hp=>I.pin p (z15 _ hp),I.hok,I.len⟩
theorem SP.unhand {D:Ends} {f:Flow} (ok:X.Ok) (h:SP (X.hand ea oe) xC D f s):SP X xC D f s:=by
 cases f with
 | next=>obtain ⟨σ',H',I,q⟩:=h;exact ⟨σ',H',I.unhand ok,q⟩
 | brk=>obtain ⟨σ',H',I,q⟩:=h;exact ⟨σ',H',I.unhand ok,q⟩
 | cont=>obtain ⟨σ',H',I,q⟩:=h;exact ⟨σ',H',I.unhand ok,q⟩
 | ret u=>obtain ⟨v,σ',H',I,r,q⟩:=h;exact ⟨v,σ',H',I.unhand ok,r,q⟩
theorem SP.untried {D:Ends} {f:Flow} (ok:X.Ok) (h:SP (X.tried xC xe) pins' D f s):SP X xC D f s:=by
 cases f with
 | next=>obtain ⟨σ',H',I,q⟩:=h;exact ⟨σ',H',I.untried ok,q⟩
 | brk=>obtain ⟨σ',H',I,q⟩:=h;exact ⟨σ',H',I.untried ok,q⟩
 | cont=>obtain ⟨σ',H',I,q⟩:=h;exact ⟨σ',H',I.untried ok,q⟩
 | ret u=>obtain ⟨v,σ',H',I,r,q⟩:=h;exact ⟨v,σ',H',I.untried ok,r,q⟩
def q8c {M:Model} {A:Around} {E:xB} {i:Nat} {n:Str} {pos:Pos} {Q:Unit ->Shared ->Prop} (I:Inv X xC σ H s) (hN:X.N.Nodup) (hi:X.N[i]? =some n) (hl:X.env.kindOf n=some .local)
  (h:∀ s',Inv X xC (σ.set i none) H s' ->Q () s'):wpAny M A (do bindName X.env n .none;unbindBehindTheSuite X.env n pos) Q E s:=by
 obtain ⟨m,hn,a2⟩:=id I.loc;have Z:(X.env.scope.kind== .class || (X.env.scope.kind== .module&&X.env.locals !=X.env.globals))=false:=by rw [I.ok.kind];rfl
 have a1:i < σ.length:=by rw [I.len];exact (z07.mp hi).1
 have cne:=I.cne;obtain ⟨oL,_,_,hoL,_⟩:=id hn;refine wpAny_nameGoes_keeps hl hn Z λ h' v a3 J=> ?_;have O:∀ b o,X.s₀.heap.get? b=some o ->b≠X.env.locals:=λ b o e=>z3z (z1q (z3y e) I.ok.above);refine h _ ⟨I.ok,I.os,I.bare,⟨λ b o e n hb hx=>(J.2 b (O b o e)).trans (I.base.keep b o e n hb hx),λ b o e n hb hx=> ?_,I.base.free,λ b o e hx=> ?_,I.base.tups,I.base.frzs,I.base.tbls⟩,⟨_,a3,λ j y v' e1 e2 e3=> ?_⟩,λ y c e=> ?_,I.free,I.freeC,λ p hp=> ?_,λ b ob e=> ?_,by simpa using I.len⟩
 ·obtain ⟨sl,e1⟩:=I.base.slot b o e n hb hx;exact ⟨sl,(J.2 b (O b o e)).trans e1⟩
 ·obtain ⟨o',e1⟩:=I.base.there b o e hx;exact ⟨o',(J.2 b (O b o e)).trans e1⟩
 ·by_cases hj:j=i
  ·subst hj;rw [List.getElem?_set_self a1] at e2;cases e2
  ·rw [List.getElem?_set_ne (Ne.symm hj)] at e2;obtain ⟨u',r',q⟩:=a2 j y v' e1 e2 e3;refine ⟨u',r',?_⟩;rcases q with ⟨k,e⟩ | ⟨k,c,e,z⟩
   ·refine .inl ⟨k,?_⟩;have:y≠n:=λ e=>hj (qcz hN e1 (e ▸ hi));simp [this,e]
   ·exact .inr ⟨k,c,e,z.sameBut J (cne y c e)⟩
 ·obtain ⟨w',z⟩:=I.cell y c e;exact ⟨w',z.sameBut J (cne y c e)⟩
 ·obtain ⟨e,n,ne,nf,d⟩:=I.pin p hp;exact ⟨(J.2 p.1 ne).trans e,n,ne,nf,d⟩
 ·refine (I.hok b ob e).stay (λ c w' hc q=>(J.2 c ?_).trans q) (λ _ q=>q) λ _ _ q=>q;rintro rfl;rcases hc with z | hc
  ·rw [<- z,I.free] at e;cases e
  ·rw [I.free] at hc;cases hc
end
def wTry (K:xA) (W:Addr) (n:Nat) (th:Addr ->Obj ->St ->Hp ->Prop):XK:=λ cls _ H'=>PySem.W.exmOne K cls (.ref W)=some true/\∀ ea oe σ',oe.cls=cls ->H' ea=none ->σ'.length=n ->th ea oe σ' H'
def tTry (K:xA) (W:Addr) (n:Nat) (tb:XK ->TS) (th:Addr ->Obj ->TS):TS:=λ D σ H=>tb (wTry K W n λ ea oe=>th ea oe D) D σ H
def Ends.less (D:Ends) (i:Nat):Ends:={nx:=λ σ H=>D.nx (σ.set i none) H,rt:=D.rt,bk:=λ σ H=>D.bk (σ.set i none) H,ct:=λ σ H=>D.ct (σ.set i none) H}
def qz2 (K:xA) (W:Addr) (n i:Nat) (tb:XK ->TS) (th:Addr ->Obj ->TS):TS:=λ D σ H=>tb (wTry K W n λ ea oe σ'=>th ea oe (D.less i) (σ'.set i (some (.ref ea)))) D σ H
section
variable {X:Cx} {W:Addr} {x n:Str} {np hpos pos:Pos} {b₀:Stmt} {body suite:List Stmt} {tb:XK ->TS} {th:Addr ->Obj ->TS} {i:Nat}
def qld {xC:xG} {Q:Flow ->Shared ->Prop} {th:Addr ->Obj ->St ->Hp ->Prop} {hd:ExceptHandler} (ok:X.Ok) (a3:X.stack=X.env::X.outer) (a9:X.env.frame=some X.env.locals)
  (go:∀ (ea:Addr) (cls:Value) (t:Addr) (B:Heap) (σ:St) (H:Hp) (s:Shared),PySem.W.exmOne X.K cls (.ref W)=some true ->(∃ oe,oe.cls=cls/\s.heap.get? ea=some oe/\Inv (X.hand ea oe) xC σ H s) ->(∀ oe,oe.cls=cls ->th ea oe σ H) ->Heap.FlyingW B (X.env::X.outer) ea cls (.ref t) s.heap ->
   (∀ h2,Heap.FlyingW B (X.env::X.outer) ea cls (.ref t) h2 ->s.heap.UpToSlots h2 ->∃ oe,oe.cls=cls/\Inv (X.hand ea oe) xC σ H {s with heap:=h2}) ->
   wpAny (model X.prog X.w) X.A (handleBy (.ref ea) X.env [hd]) Q X.xe s):
  q3l (CXE X.prog X.w) (X.tried xC λ e s'=>wpAny (model X.prog X.w) X.A (noteFrame e X.env) (λ _ s₂=>wpAny (model X.prog X.w) X.A (setFlight e none) (λ _ s₃=>wpAny (model X.prog X.w) X.A (handleBy e X.env [hd]) Q X.xe s₃) X.xe s₂) X.xe s') (wTry X.K W X.N.length th):=by
 intro pins' σ' H1 s1 e s' I1 hx;obtain ⟨ea,cls,t,H',B,rfl,os,bare,un,hok,fl,b1,b2,hE,hw⟩:=hx;have a8:Heap.FlyingW B (X.env::X.outer) ea cls (.ref t) s'.heap:=by rw [<- a3];exact fl
 have hn:H' ea=none:=by
  cases q:H' ea with
  | none=>rfl
  | some u=>
   obtain ⟨o,e⟩:=b1 ea u q;rw [fl.2.1] at e;cases e
 have back:∀ h2,Heap.FlyingW B (X.env::X.outer) ea cls (.ref t) h2 ->s'.heap.UpToSlots h2 ->∃ oe,oe.cls=cls/\h2.get? ea=some oe/\Inv (X.hand ea oe) xC σ' H' {s' with heap:=h2}:=λ h2 f2 up=>by
  have f3:Heap.FlyingW B X.stack ea cls (.ref t) h2:=by rw [a3];exact f2
  have J:Inv X xC σ' H' {s' with heap:=h2}:=(I1.call' (s':={s' with heap:=h2}) (ch:=[]) os (qrg un fl.1 fl.2.2.1 b2 f3.1 f3.2.2.1 up) (qns hok fl.1 b1 f3.1) bare (λ b z=>nomatch z)).untried ok;obtain ⟨oe,ws,a1,a5,Z,_⟩:=f2.first;refine ⟨oe,a5,a1,J.hand ⟨a1,hn,λ z=> ?_,λ z=> ?_,λ v z=>by rw [Z] at z;cases z⟩⟩
  ·obtain ⟨m,⟨o,es,ep,ho,hd,_⟩,_⟩:=J.loc;rw [<- z] at ho;have O:h2.get? ea=some o:=ho;rw [a1] at O;cases O
   rw [Z] at hd;cases hd
  ·obtain ⟨_,o,ho,nf⟩:=J.funs.mem z;have O:h2.get? ea=some o:=ho;rw [a1] at O;cases O
   exact nf ws Z
 show wpAny (model X.prog X.w) X.A (noteFrame (.ref ea) X.env) _ _ _;refine wpAny_looks_onW (by rw [<- a3];exact ok.frames) a9 a8 λ h4 a2 a6=> ?_;refine wpAny_landsW a2 λ h5 a4 a7=> ?_;have J:=back h5 a4 (a6.trans a7);refine go ea cls t B σ' H' {s' with heap:=h5} hE J (λ oe hc=>hw ea oe σ' hc hn ?_) a4 λ h2 f2 up=> ?_
 ·obtain ⟨oe,_,_,J⟩:=J;exact J.len
 ·obtain ⟨oe,h1,_,J⟩:=back h2 f2 ((a6.trans a7).trans up);exact ⟨oe,h1,J⟩
def qeq {M:Model} {h:Heap} {oe:Obj} {ea:Addr} (e:h.get? ea=some oe):PySem.W.Looks M h (typeOf (.ref ea)) oe.cls:=(PySem.W.Looks.ld e).andThen .now
def qz3 (hm:X.mg x=some (.ref W)) (hb:∀ xC xe E,q3l (CXE X.prog X.w) (X.tried xC xe) E ->PSs (X.tried xC xe) body (tb E)) (hs:∀ ea oe,PSs (X.hand ea oe) (b₀::suite) (th ea oe))
  (hg:Gl X x:=by rfl) (a4:X.stack=X.env::X.outer:=by rfl) (a3:X.env.frame=some X.env.locals:=by rfl) (hd:(x==("__debug__":Str))=false:=by decide):
  PS X (.Try body [.ExceptHandler (some (.Name x np)) none (b₀::suite) hpos] [] [] pos) (tTry X.K W X.N.length tb th):=by
 intro xC s σ H D I h;refine wpAny_Try_except ?_;refine z4f (hb xC _ _ (qld (X:=X) (W:=W) (Q:=SP X xC D) (th:=λ ea oe=>th ea oe D) (hd:= .ExceptHandler (some (.Name x np)) none (b₀::suite) hpos) I.ok a4 a3 ?_) [] s σ H D I.tried h) (λ f s1 hf=> ?_) (λ e s1 z=>z)
 ·intro ea cls t B σ' H' s' hE J hw fl back;obtain ⟨oe,hc,ho,J⟩:=J;refine wpAny_handleBy_cons (codeAny_handlers_test ?_) (by intro q;cases q);refine q4v (X:=X.hand ea oe) J hg hm ?_ hd;refine (PySem.W.exm_one (M:=model X.prog X.w) J.kIn (hc ▸ qeq ho) hE).here ?_;show codeAny _ _ _ _ _;refine codeAny_handlers_suite ?_;refine lands_againW fl λ h6 a1 a5=> ?_;obtain ⟨Z,a2,J6⟩:=back h6 a1 a5;refine z4f (hs ea Z xC _ σ' H' D J6 (hw Z a2)) (λ f s2 hf=> ?_) (λ _ _ z=>z.elim);exact hf.unhand I.ok
 ·have O:=hf.untried I.ok;cases f with
  | next=>exact wpAny_execs_nil O
  | brk=>exact O
  | cont=>exact O
  | ret u=>exact O
def qtj (hm:X.mg x=some (.ref W)) (hb:∀ xC xe E,q3l (CXE X.prog X.w) (X.tried xC xe) E ->PSs (X.tried xC xe) body (tb E)) (hs:∀ ea oe,PSs (X.hand ea oe) (b₀::suite) (th ea oe))
  (hi:X.N[i]? =some n) (hl:X.env.kindOf n=some .local) (hN:X.N.Nodup)
  (hg:Gl X x:=by rfl) (a5:X.stack=X.env::X.outer:=by rfl) (a4:X.env.frame=some X.env.locals:=by rfl) (hd:(x==("__debug__":Str))=false:=by decide):
  PS X (.Try body [.ExceptHandler (some (.Name x np)) (some n) (b₀::suite) hpos] [] [] pos) (qz2 X.K W X.N.length i tb th):=by
 intro xC s σ H D I h;refine wpAny_Try_except ?_;refine z4f (hb xC _ _ (qld (X:=X) (W:=W) (Q:=SP X xC D) (th:=λ ea oe σ'=>th ea oe (D.less i) (σ'.set i (some (.ref ea)))) (hd:= .ExceptHandler (some (.Name x np)) (some n) (b₀::suite) hpos) I.ok a5 a4 ?_) [] s σ H D I.tried h) (λ f s1 hf=> ?_) (λ e s1 z=>z)
 ·intro ea cls t B σ' H' s' hE J hw fl back;obtain ⟨oe,hc,ho,J⟩:=J;refine wpAny_handleBy_cons (codeAny_handlers_test ?_) (by intro q;cases q);refine q4v (X:=X.hand ea oe) J hg hm ?_ hd;refine (PySem.W.exm_one (M:=model X.prog X.w) J.kIn (hc ▸ qeq ho) hE).here ?_;show codeAny _ _ _ _ _;refine codeAny_handlers_suite_as ?_;refine lands_againW fl λ h6 a2 a6=> ?_;obtain ⟨a1,a3,J6⟩:=back h6 a2 a6;refine q94 (X:=X.hand ea a1) J6 hN hi (.inl hl) (show RelV (.ref ea) (.ref ea) from rfl) (λ s7 J7=> ?_) (.inr hl);refine z4f (hs ea a1 xC _ _ H' (D.less i) J7 (hw a1 a3)) (λ f s2 hf=> ?_) (λ _ _ z=>z.elim);have O:=hf.unhand I.ok;cases f with
  | next=>obtain ⟨σ2,H2,Z,q⟩:=O;exact q8c Z hN hi hl λ s3 K3=>⟨_,H2,K3,q⟩
  | brk=>obtain ⟨σ2,H2,Z,q⟩:=O;exact q8c Z hN hi hl λ s3 K3=>⟨_,H2,K3,q⟩
  | cont=>obtain ⟨σ2,H2,Z,q⟩:=O;exact q8c Z hN hi hl λ s3 K3=>⟨_,H2,K3,q⟩
  | ret u=>obtain ⟨v,σ2,H2,Z,r,q⟩:=O;exact q8c Z hN hi hl λ s3 K3=>⟨v,_,H2,K3,r,q⟩
 ·have O:=hf.untried I.ok;cases f with
  | next=>exact wpAny_execs_nil O
  | brk=>exact O
  | cont=>exact O
  | ret u=>exact O
end
end L2
namespace L2
open PySem PySem.Spec PyProof.Rows PySem.W Builtin Builtin.ObjectAttr Builtin.Getset_descriptor
structure ExcI (K:xA) (C:Addr):Prop where
 hga:findIn K (.ref C) "__getattribute__"=some (some (.builtin "BaseException.__getattribute__"))
 hgx:findIn K (.ref C) "__getattr__"=some none
 ha:findIn K (.ref C) "__class__"=some (some (.builtin "object.__class__"))
 hm:mroIn K C (.type "object")=some true
 hb:subIn K (.ref C) (.type "BaseException")=some true
section
variable {prog:Program} {w:World} {A:Around} {E:xB} {K:xA} {h:Heap} {g:Array GenState} {d:Drawn} {t:Nat} {os:OsState} {a C:Addr} {o:Obj}
def qaz (F:ExcI K C):(clsIn K C).isSome=true:=by
 have hm:=F.hm;unfold mroIn at hm;cases e:clsIn K C with
 | none=>rw [e] at hm;cases hm
 | some _=>rfl
def qx2 {R:Result ->Shared ->Prop} {tp:Value} (X:K.In h) (hx:h.get? a=some o) (hc:o.cls= .ref C) (hm:mroIn K C (.type "object")=some true) (hq:R (.ok (.ret (.ref C))) ⟨h,g,d,t,os⟩):
  codeAny (model prog w) A (.call (.builtin "getset_descriptor.__get__") ⟨[.builtin "object.__class__",.ref a,tp],[]⟩) R ⟨h,g,d,t,os⟩:=by
 have L0:Looks (model prog w) h (typeOf (.ref a)) (.ref C):=hc ▸ qeq hx;have L1:=looks_mroIn (M:=model prog w) X hm;refine codeAny_call_builtin KF.slot_gs.plain KF.entry_gs (KF.slot_gs.check _ _ _ _ _ _ _ _ KF.type_class (KF.args_gs _ _ _) ?_);unfold Builtin.«getset_descriptor.__get__» descrGet;rw [dga_obj];refine z4e (z4d ?_);unfold descrGetter descrCheckInstance descrNameAndClass isInstance;simp only [KF.owner_class]
 repeat lk
 refine ⟨Code.quiet_builtin _ (by decide+kernel),z38 KF.entry_class ?_⟩;unfold Builtin.«object.__class__» shownTypeOf
 repeat lk
 exact hq
def qri {tk:Tok} {Q:Fin ->Shared ->Prop} (X:K.In h) (F:ExcI K C) (hx:h.get? a=some o) (J:o.cls= .ref C) (hq:Q (.done (.ret (.ref C))) ⟨h,g,d,t,os⟩):
  wpAny (model prog w) A (Builtin.«object.__getattribute__» ⟨[.ref a,.str "__class__" tk],[]⟩) Q E ⟨h,g,d,t,os⟩:=by
 have hT5:(⟨h,g,d,t,os⟩:Shared).TypeIs (.builtin "object.__class__") "getset_descriptor":=PySem.F.typeOf_object_class;have f5:=PySem.F.typeOf_object_class;have f6:=PySem.F.slot_gs_get.lookup;have f7:=PySem.F.slot_gs_set.lookup;have L1:=looks_findIn (M:=model prog w) X F.ha
 repeat (any_goals (first | assumption | (with_reducible refine wpAny_loadPart_at hx ?_;rw [J]) | with_reducible refine L1.at ?_ | wp_step))
 refine qx2 X hx J F.hm ?_
 repeat (any_goals (first | assumption | wp_step))
def qrj {M:Model} {J:Value} {Q:Unit ->Shared ->Prop} (X:K.In h) (F:ExcI K C) (hx:h.get? a=some o) (hc:o.cls= .ref C) (hq:Q () ⟨h,g,d,t,os⟩):
  wpAny M A (checkBuiltinCall "BaseException.__getattribute__" ⟨[.ref a,J],[]⟩) Q E ⟨h,g,d,t,os⟩:=by
 have hk:builtinKind "BaseException.__getattribute__"=some .slot:=by decide+kernel
 have O:splitId "BaseException.__getattribute__"=some ("BaseException","__getattribute__"):=by decide+kernel
 have ha:=PySem.F.args_bexc_ga (.ref a) J;have L1:Looks M h (isSubtype (.ref C) (.type "BaseException")) true:=looks_subIn X F.hb;simp only [checkBuiltinCall,hk,O];refine z4e ?_
 ·unfold isInstance
  repeat (first | (with_reducible refine wpAny_loadPart_at hx ?_;rw [hc]) | with_reducible refine L1.at ?_ | wp_step)
  exact hq
def qtk {tk:Tok} {R:Result ->Shared ->Prop} (X:K.In h) (F:ExcI K C) (hx:h.get? a=some o) (J:o.cls= .ref C) (hq:R (.ok (.ret (.ref C))) ⟨h,g,d,t,os⟩):
  codeAny (model prog w) A (.call (.builtin "BaseException.__getattribute__") ⟨[.ref a,.str "__class__" tk],[]⟩) R ⟨h,g,d,t,os⟩:=
 codeAny_call_builtin (PySem.F.excAttr_ValueError).ga.plain PySem.F.entry_bexc_ga (qrj X F hx J (qri X F hx J hq))
def qz4 {tk:Tok} {O J:Bool} {Q:xB} (X:K.In h) (F:ExcI K C) (hx:h.get? a=some o) (hc:o.cls= .ref C) (hq:Q (.ref C) ⟨h,g,d,t,os⟩):
  wpAny (model prog w) A (getAttrBy (.ref a) (.str "__class__" tk) O J) Q E ⟨h,g,d,t,os⟩:=by
 have f3:=(PySem.F.excAttr_ValueError).ga.bind (.ref a);have hx0:(J&&onTheHeap (Value.builtin "BaseException.__getattribute__"))=false:=by cases J <;> rfl
 have Z:(Value.builtin "BaseException.__getattribute__"==Value.builtin "object.__getattribute__")=false:=by decide+kernel
 have hx1:(onTheHeap (Value.ref C)&&Value.builtin "BaseException.__getattribute__"==Value.builtin "object.__getattribute__")=false:=by rw [Z];rfl
 have L1:=looks_findIn (M:=model prog w) X F.hga;have L2:=looks_findIn (M:=model prog w) X F.hgx
 repeat (any_goals (first | assumption | (with_reducible refine wpAny_loadPart_at hx ?_;rw [hc]) | with_reducible refine L1.at ?_ | with_reducible refine L2.at ?_ | wp_step))
 refine qtk X F hx hc ?_
 repeat (any_goals (first | assumption | wp_step))
def qtl {Q:Option Value ->Shared ->Prop} (X:K.In h) (F:ExcI K C) (hx:h.get? a=some o) (hc:o.cls= .ref C) (hq:Q (some (.ref C)) ⟨h,g,d,t+1,os⟩):
  wpAny (model prog w) A (getAttr? (.ref a) "__class__") Q E ⟨h,g,d,t,os⟩:=by
 unfold getAttr? getAttrBy?
 repeat (any_goals (first | assumption | with_reducible apply qz4 X F hx hc | wp_step))
def qvi (a C:Addr) (h:Heap):Prop:=∃ o,h.get? a=some o/\o.cls= .ref C
def qd5 (F:ExcI K C):KitX K (.ref a) (.ref C) (qvi a C) where
 ty:=λ M h _ p=>by
  obtain ⟨o,h1,h2⟩:=p;exact h2 ▸ qeq h1
 it:=λ _ _ X _=>by
  obtain ⟨cd,J⟩:=Option.isSome_iff_exists.mp (qaz F);unfold clsIn at J;split at J
  ·rename_i c' d' O a1 ho;intro A' Q' E' s' k q;unfold isType loadHead;exact z4e (wpAny_loadPart (k _ _ (X _ _ ho)) (z4d q))
  ·cases J
 ne:=λ h tp dd its n sl X Z=>by
  obtain ⟨cd,J⟩:=Option.isSome_iff_exists.mp (qaz F);refine Bool.eq_false_iff.mpr λ q=> ?_;have e:C=tp:=Value.ref.inj (beq_iff_eq.mp q);subst e;unfold clsIn at J;split at J
  ·rename_i c' d' O a1 ho;have z:=(X _ _ ho).symm.trans Z;cases z
  ·cases J
 ca:=λ {_ _ _ _ _ s} X p k=>by
  obtain ⟨h,g,d,t,os⟩:=s;obtain ⟨o,h1,h2⟩:=p;exact qtl X F h1 h2 k
end
def qiu:bootBuiltins "ValueError"=some (.type "ValueError"):=by decide+kernel
section
variable {X:Cx} {ea C R:Addr} {oe:Obj}
def Inv.excAt {xC:xG} {σ:St} {H:Hp} {s:Shared} (I:Inv (X.hand ea oe) xC σ H s) (hc:oe.cls= .ref C):qvi ea C s.heap:=⟨oe,(I.pin (ea,oe) z1o).1,hc⟩
def qrk (K:xA) (hK:X.K=K:=by rfl):q1v (X.hand ea oe) (.builtin "isinstance") (λ xs H Q=>∃ C c v b,xs=[.ref ea,v]/\oe.cls= .ref C/\ExcI K C/\(v= .ref c/\kitOne K (.ref C) (.ref c)=some b\/ ∃ n,v= .ty n/\kitOne K (.ref C) (.type n)=some b)/\Q (.bl b) H):=by
 subst hK;intro xC s σ H xs us Q I r h;obtain ⟨C,c,v,b,rfl,J,F,hv,q⟩:=h;obtain ⟨u,u2,rfl,ru,O⟩:=qef r;cases ru
 have fin:∀ tk,EP (X.hand ea oe) xC σ Q (.bool b) {s with toks:=tk}:=λ tk=>⟨.bl _,H,I.tok tk,rfl,q⟩;rcases hv with ⟨rfl,e⟩ | ⟨n,rfl,e⟩
 ·cases O
  exact kia_one (qd5 F) I.kIn (I.excAt J) e (λ z=>nomatch z) fin
 ·cases O
  exact kia_one (qd5 F) I.kIn (I.excAt J) e (λ z=>nomatch z) fin
theorem qi3:∀ {cs:List Addr} {its:xH},Vals (cs.map V.ref) its ->its=cs.map Value.ref
 | [],_,.nil=>rfl
 | c::r,_,.cons a b=>by
  cases a
  rw [qi3 b];rfl
def qpc (K:xA) (hK:X.K=K:=by rfl):q1v (X.hand ea oe) (.builtin "isinstance") (λ xs H Q=>∃ (C tp:Addr) (cs:List Addr) (b:Bool),xs=[.ref ea,.ref tp]/\H tp=some (.tup (cs.map V.ref))/\oe.cls= .ref C/\ExcI K C/\kitAny K (.ref C) (cs.map Value.ref)=some b/\Q (.bl b) H):=by
 subst hK;intro xC s σ H xs us Q I r h;obtain ⟨C,tp,cs,b,rfl,Z,hc,F,e,q⟩:=h;obtain ⟨u,u2,rfl,ru,rc⟩:=qef r;cases ru
 cases rc
 have fin:∀ tk,EP (X.hand ea oe) xC σ Q (.bool b) {s with toks:=tk}:=λ tk=>⟨.bl _,H,I.tok tk,rfl,q⟩;obtain ⟨its,rv,⟨o,ho,O,k,J⟩,_⟩:=I.tuple (SqT.of (K:=X.K) Z);have hi:its=cs.map Value.ref:=qi3 rv;obtain ⟨oc,od,a1,osl⟩:=o;cases O
 cases J
 rw [<- hi] at e;exact kia_tup (qd5 F) I.kIn (I.excAt hc) ho e (λ z=>nomatch z) fin
end
structure DefE (P:Program) (w:World) (K:xA) (mg:xE) (base:Heap) (k:Nat) (x:Str) (ps:xD) (sp:Sp):Prop where
 ex:∃ f fd,FnOk P w K mg base (CXE P w) k f fd ps sp/\mg x=some (.ref f)/\PySem.W.keepIn K (.ref f)=true/\Binds K fd ps []
section
variable {P:Program} {w:World} {K:xA} {mg:xE} {base:Heap}
def Top.okE {x:Str} {st:Stmt} {N ps:xD} {k:Nat} {sp:Sp} (T:Top K mg x st ps) (S:FnScope N ps (qd st)) (len:∀ vs H Q E,sp vs H Q E ->vs.length=ps.length)
  (J:∀ (f:Addr) (cdv:Value) (A:Around) (outer:List Env) (s:Shared) (H:Hp) (vs:List V) (Q:VK) (E:XK),Room k (A.deeper (envOfC x (qd st) s.heap.objs.size f cdv)) ->sp vs H Q E ->
   ∃ t,PSs (cxOf (CXE P w) P w K mg base N x (qd st) f cdv A outer s H E) (q1d st) t/\t {nx:=λ _ H'=>Q .non H',rt:=Q} (start N vs) H):DefE P w K mg base (k+1) x ps sp:=by
 obtain ⟨f,fd,F,hm,hb⟩:=T.ex;refine ⟨f,fd,?_,hm,F.kp,Binds.all hb⟩;obtain ⟨oc,od,kV,doc,pm,an,cdv,ct,osl,rfl,lk,O⟩:=F.ex;exact qos lk O S len (J f cdv)
end
section
variable {X:Cx} {k k':Nat} {ps:xD} {sp:Sp} {E:XK} {x:Str} {p pos:Pos} {e:Expr} {es:List Expr} {t:TA}
def qg6 (D:DefE X.prog X.w X.K X.mg X.base k x ps sp) (hx:q3l (CXE X.prog X.w) X E) (hr:Room k' X.A) (hg:Gl X x) (ha:PA X (e::es) t) (O:k<=k':=by decide)
  (J:(x==("__debug__":Str))=false:=by decide) (he:starEach (e::es) X.env=(false,eval e X.env)::starEach es X.env:=by rfl) (Z:(backTo pos (starEach es X.env)).any (·.1)=false:=by rfl):
  PE X (.Call (.Name x p) (e::es) [] pos) (qor sp [] E t):=by
 obtain ⟨f,fd,F,hm,hk,hb⟩:=D.ex;exact qng F (hr.mono O) hg hm hk hb .nil hx ha J he Z
end
structure XCls (K:xA) (C:Addr):Prop where
 new:excIn K C qvh "ValueError.__new__"=true
 isi:ExcI K C
 ve:mroIn K C (.type "ValueError")=some true
 self:mroIn K C (.ref C)=some true
 ty:typeIn K (.ref C)=some (.type "type")
structure XiK (K:xA) (x:Str):Prop where
 ex:∃ C:Addr,nsIn K mainGlobals x=some (some (.ref C))/\XCls K C
def xiK {K:xA} {x:Str} {C:Addr} (n:nsIn K mainGlobals x=some (some (.ref C))) (a:excIn K C [.type "ValueError",.type "Exception",.type "BaseException",.type "object"] "ValueError.__new__"=true) (b:findIn K (.ref C) "__getattribute__"=some (some (.builtin "BaseException.__getattribute__")))
  (c:findIn K (.ref C) "__getattr__"=some none) (d:findIn K (.ref C) "__class__"=some (some (.builtin "object.__class__"))) (e:mroIn K C (.type "object")=some true) (f:mroIn K C (.type "BaseException")=some true)
  (g:mroIn K C (.type "ValueError")=some true) (h:mroIn K C (.ref C)=some true) (i:typeIn K (.ref C)=some (.type "type")):XiK K x:=⟨C,n,a,⟨b,c,d,e,f⟩,g,h,i⟩
structure PiK (K:xA) (x y:Str) (b:Bool):Prop where
 ex:∃ C D:Addr,nsIn K mainGlobals x=some (some (.ref C))/\nsIn K mainGlobals y=some (some (.ref D))/\mroIn K C (.ref D)=some b
def piK {K:xA} {x y:Str} {b:Bool} {C D:Addr} (n:nsIn K mainGlobals x=some (some (.ref C))) (m:nsIn K mainGlobals y=some (some (.ref D))) (e:mroIn K C (.ref D)=some b):PiK K x y b:=⟨C,D,n,m,e⟩
section
variable {K:xA} {h:Heap} {mg:xE} {x y:Str} {b:Bool} {C D:Addr}
def XiK.g (F:XiK K x) (X:K.In h) (G:h.Ns mainGlobals mg):mg x=some (.ref (cA mg x)):=by
 obtain ⟨C,n,_⟩:=F.ex;rw [q4o (mg_of X G n)];exact mg_of X G n
def XiK.at' (F:XiK K x) (X:K.In h) (G:h.Ns mainGlobals mg):XCls K (cA mg x):=by
 obtain ⟨C,n,q⟩:=F.ex;rw [q4o (mg_of X G n)];exact q
def PiK.at' (F:PiK K x y b) (X:K.In h) (G:h.Ns mainGlobals mg):mroIn K (cA mg x) (.ref (cA mg y))=some b:=by
 obtain ⟨C,D,n,m,q⟩:=F.ex;rw [q4o (mg_of X G n),q4o (mg_of X G m)];exact q
def XCls.cls (F:XCls K C):(clsIn K C).isSome=true:=qaz F.isi
def XCls.kit (F:XCls K C) (G:XCls K D) (e:mroIn K C (.ref D)=some b):kitCls K (.ref C) (.ref D)=some b:=by
 show (if ((clsIn K D).isSome&&typeIn K (.ref D)==some (.type "type"))=true then subIn K (.ref C) (.ref D) else none)=some b;rw [if_pos (by rw [G.cls,G.ty];simp)];exact e
def XCls.one (F:XCls K C) (G:XCls K D) (e:mroIn K C (.ref D)=some b):kitOne K (.ref C) (.ref D)=some b:=by
 unfold kitOne;split
 ·rename_i z;have z':C=D:=Value.ref.inj (beq_iff_eq.mp z);subst z';rw [F.self] at e;exact e
 ·exact F.kit G e
def XCls.veI (F:XCls K C):kitOne K (.ref C) (.type "ValueError")=some true:=by
 unfold kitOne;rw [if_neg (λ z=>nomatch (beq_iff_eq.mp z:Value.ref C=Value.type "ValueError"))];show (if kitMeta "ValueError"=true then subIn K (.ref C) (.type "ValueError") else none)=some true;rw [if_pos (by decide+kernel)];exact F.ve
def XCls.caught (F:XCls K C) (G:XCls K D) (e:mroIn K C (.ref D)=some true):exmOne K (.ref C) (.ref D)=some true:=by
 unfold exmOne;rw [if_pos (by rw [show subIn K (.ref D) (.type "BaseException")=some true from G.isi.hb];rfl)];exact F.kit G e
theorem XCls.any (F:XCls K C):∀ (cs:List Addr),(∀ D∈cs,XCls K D/\mroIn K C (.ref D)=some false) ->kitAny K (.ref C) (cs.map Value.ref)=some false
 | [],_=>rfl
 | c::r,h=>by
  have q:=h c z1o;have e:=F.one q.1 q.2;show (match kitOne K (.ref C) (.ref c) with | some true=>some true | some false=>kitAny K (.ref C) (r.map Value.ref) | none=>none)=some false;rw [e];exact F.any r λ D hD=>h D (z15 _ hD)
end
end L2
namespace L2
open PySem PySem.Spec PyProof.Rows PySem.W
section
variable {X:Cx} {v1 v2 a:Expr} {t1 t2 ta:TE} {pos:Pos}
def qtm (h1:PE X v1 t1) (h2:PE X v2 t2):PE X (.JoinedStr [v1,v2] pos) (λ σ H Q=>t1 σ H λ x H1=>∃ a,x= .str a/\a.length<=100000/\t2 σ H1 λ y H2=>∃ b,y= .str b/\b.length<=100000/\Q (.str (a++b)) H2):=by
 intro xC s σ H Q I h;have Z:Str.empty.length=0:=rfl;refine JoinedStr_many (joinParts_cons (thn (h1 xC s σ H _ I h) λ v s1 O=> ?_));obtain ⟨x,H1,I1,r1,a,ea,la,q1⟩:=O;subst ea;obtain ⟨t,rfl⟩:=r1;refine ⟨?_,joinParts_cons (thn (h2 xC s1 σ H1 _ I1 q1) λ v s2 ⟨y,H2,I2,r2,b,eb,lb,q2⟩=> ?_)⟩
 ·rw [Str.length_append,Z,z3w];exact z40 la (by decide)
 subst eb;obtain ⟨t,rfl⟩:=r2;have J:(Str.empty++a++b).length<=sizeLine:=by
  rw [Str.length_append,Str.length_append,Z,z3w];exact z40 (Nat.add_le_add la lb) (by decide)
 rw [Str.empty_append] at J ⊢;exact ⟨J,joinParts_nil ⟨.str (a++b),H2,I2.tok _,⟨_,zr⟩,q2⟩ J⟩
end
end L2
namespace L2
open PySem PySem.Spec PyProof.Rows PySem.W Builtin
section
variable {X:Cx}
end
section
variable {prog:Program} {w:World} {A:Around} {E:xB}
end
section
variable {X:Cx}
end
end L2
namespace L2
open PySem PySem.Spec PyProof.Rows
section
variable {prog:Program} {w:World} {A:Around} {R:Result ->Shared ->Prop} {I:Addr} {fp wr:List Addr} {n:Nat} {P:Nat ->Value ->Prop} {St:Nat ->Heap ->Prop}
end
section
variable {X:Cx} {e d:Expr} {t tk:TA} {p pos kpos:Pos}
end
section
variable {X:Cx}
end
end L2
namespace L2
open PySem PySem.Spec PyProof.Rows PySem.W
namespace Tab
end Tab
end L2
namespace L2
open PySem PySem.Spec PyProof.Rows PySem.W
namespace Tab
end Tab
end L2
namespace L2
open PySem PySem.Spec PyProof.Rows PySem.W
section
variable {P:Program} {w:World} {A:Around} {E:xB} {s:Shared}
end
section
variable {prog:Program} {w:World} {A:Around} {R:Result ->Shared ->Prop} {I:Addr} {fp wr:List Addr} {G:Array GenState ->Array GenState ->Prop} {n:Nat} {P:Nat ->Value ->Prop} {St:Nat ->Shared ->Prop}
end
section
variable {prog:Program} {w:World} {A:Around} {E:xB} {s:Shared}
end
section
variable {prog:Program} {w:World} {A:Around} {E:xB} {s:Shared} {a:Addr} {xs:List (Addr×List Str)}
end
section
variable {X:Cx} {xC:xG} {σ:St} {H:Hp} {s:Shared}
end
section
variable {X:Cx} {xC:xG} {σ:St} {H:Hp} {s:Shared}
end
end L2
namespace L2
open PySem PySem.Spec PyProof.Rows PySem.Builtin.Str PySem.StrLaws PySem.NumText
def qvj {S G:Prop} (main:S ->G) (pf:S):G:=main pf
end L2
namespace Tim
open PySem PyProof.Rows
section
variable {M:Model} {A:Around} {E:xB} {s:Shared} {kd:SortKind} {S:Keyed ->Prop} {rk:Keyed ->Int} {n:Nat}
end
section
variable {prog:Program} {w:World} {A:Around} {E:xB} {s:Shared}
end
end Tim
namespace L2
open PySem PySem.Spec PyProof.Rows PySem.W
section
variable {prog:Program} {w:World} {A:Around} {E:xB} {s:Shared} {a:Addr}
end
section
variable {X:Cx} {xC:xG} {σ:St} {H:Hp} {s:Shared}
end
section
variable {prog:Program} {w:World} {A:Around} {E:xB} {s:Shared} {I:Addr} {fp:List Addr} {n:Nat} {P:Nat ->Value ->Prop} {St:Nat ->Heap ->Prop} {T:String}
end
section
variable {X:Cx} {e:Expr} {te:TE} {p1 p2 q1 q2:Pos}
end
section
variable {prog:Program} {w:World} {A:Around} {E:xB} {s:Shared}
end
section
variable {prog:Program} {w:World} {A:Around} {E:xB} {s:Shared} {I:Addr} {fp:List Addr} {n:Nat} {P:Nat ->Value ->Prop} {St:Nat ->Heap ->Prop} {T:String}
end
section
variable {X:Cx} {e:Expr} {te:TE} {p1 p2 q1 q2:Pos}
end
end L2
namespace L2
open PySem PySem.Spec PyProof.Rows
section
variable {M:Model} {A:Around} {E:xB} {s:Shared} {B:Heap} {env:Env} {outer l:List Env} {L e:Addr} {cls a0 fl:Value}
end
section
variable {X:Cx} {xC pins':xG} {σ σ':St} {H H':Hp} {s s':Shared} {N:xD} {scope:Scope} {cl:List (Str×Addr)} {C:Addr} {fp:List Addr} {xe:xB} {E:XK}
end
section
variable {X:Cx} {xC:xG} {σ:St} {H:Hp} {s:Shared} {N:xD} {caps:List (Option Nat)} {scope:Scope} {elt tg iter:Expr} {ifs:List Expr} {wi:TI} {g:TG} {tf:TT} {te:TE} {pos:Pos} {E:XK}
end
section
variable {X:Cx} {xC:xG} {σ:St} {H:Hp} {s:Shared} {a b:Addr} {kvs more:List (Key×V)} {A:Around} {E:xB}
end
section
variable {X:Cx} {o e:Expr} {apos cpos:Pos} {td ty:TE}
end
section
variable {X:Cx}
end
section
variable {P:Program} {w:World}
end
section
variable {P:Program} {w:World} {H:Hp} {h:Heap} {a:Addr}
end
section
variable {X:Cx} {xC:xG} {σ:St} {H:Hp} {s:Shared} {a b:Addr} {v d:V} {r:Value} {A:Around} {E:xB} {kvs:List (NK×V)} {k:NK}
end
section
variable {X:Cx} {P:Program} {w:World} {o i e f value:Expr} {pos pos' tpos apos cpos:Pos} {td ty tv tx:TE}
end
end L2
namespace L2
open PySem PySem.Spec PyProof.Rows PySem.W
section
variable {prog:Program} {w:World} {A:Around} {E:xB} {s:Shared}
end
section
variable {X:Cx} {P:Program} {w:World} {k k':Nat} {x p1:Str} {sp:Sp} {e:Expr} {t:TA} {p pos kpos xp:Pos}
end
end L2
namespace L2
open PySem PySem.Spec PyProof.Rows
section
variable {X:Cx}
end
section
variable {X:Cx}
end
section
variable {X:Cx}
end
section
variable {X:Cx}
end
end L2
set_option maxHeartbeats 4000000
namespace Wy
open PySem L2
def top (i:Nat):Stmt:=PySem.Challenge.pw_whyrows_k33_no_worth.main.body.getD i (.Pass ⟨0,0,0,0⟩)
abbrev q9k:Stmt:=top 13
abbrev q42:Stmt:=top 14
abbrev qb0:Stmt:=top 15
abbrev q9l:Stmt:=top 17
abbrev q7g:Stmt:=top 19
abbrev q43:Stmt:=top 20
abbrev q9m:Stmt:=top 21
abbrev q3r:Stmt:=top 24
abbrev q8i:Stmt:=top 25
abbrev q9n:Stmt:=top 26
abbrev q6g:Stmt:=top 27
abbrev q4q:Stmt:=top 28
abbrev q5p:Stmt:=top 29
abbrev qb1:Stmt:=top 30
abbrev qd6:Stmt:=top 31
abbrev q55:Stmt:=q14 (top 33) 0
abbrev q6h:Stmt:=q14 (top 34) 0
abbrev q56:Stmt:=q14 (top 34) 1
abbrev q6i:Stmt:=q14 (top 34) 2
abbrev q57:Stmt:=q14 (top 34) 3
abbrev q6j:Stmt:=q14 (top 34) 4
abbrev q4h:Stmt:=q14 (top 34) 5
abbrev q7h:Stmt:=q14 (top 35) 0
abbrev q5q:Stmt:=q14 (top 35) 1
abbrev q7i:Stmt:=q14 (top 35) 2
abbrev q5r:Stmt:=q14 (top 35) 3
abbrev q7j:Stmt:=q14 (top 35) 4
abbrev q4r:Stmt:=q14 (top 33) 0
abbrev q44:Stmt:=q14 (top 36) 0
abbrev q45:Stmt:=q14 (top 36) 1
abbrev q7k:Stmt:=q14 (top 36) 2
abbrev q5s:Stmt:=q14 (top 36) 3
abbrev q7l:Stmt:=q14 (top 36) 4
abbrev q5t:Stmt:=q14 (top 36) 5
abbrev q7m:Stmt:=q14 (top 36) 6
abbrev q4s:Stmt:=q14 (top 36) 7
abbrev q3n:Stmt:=q14 (top 37) 0
abbrev q6k:Stmt:=q14 (top 37) 1
abbrev q58:Stmt:=q14 (top 37) 2
abbrev q6l:Stmt:=q14 (top 37) 3
abbrev q59:Stmt:=q14 (top 37) 4
abbrev q6m:Stmt:=q14 (top 37) 5
abbrev q4i:Stmt:=q14 (top 33) 0
abbrev q6n:Stmt:=q14 (top 38) 0
abbrev q5a:Stmt:=q14 (top 38) 1
abbrev q6o:Stmt:=q14 (top 38) 2
abbrev q5b:Stmt:=q14 (top 38) 3
abbrev q6p:Stmt:=q14 (top 38) 4
abbrev q4j:Stmt:=q14 (top 33) 0
abbrev q7n:Stmt:=q14 (top 39) 0
abbrev q5u:Stmt:=q14 (top 39) 1
abbrev q7o:Stmt:=q14 (top 39) 2
abbrev q5v:Stmt:=q14 (top 39) 3
abbrev q7p:Stmt:=q14 (top 39) 4
abbrev q4t:Stmt:=q14 (top 33) 0
abbrev q5w:Stmt:=top 41
abbrev q6q:Stmt:=top 42
abbrev q8j:Stmt:=top 43
abbrev q7q:Stmt:=top 44
abbrev q5x:Stmt:=top 45
abbrev q6r:Stmt:=top 46
abbrev q6s:Stmt:=top 47
abbrev qb2:Stmt:=top 48
abbrev q6t:Stmt:=top 49
abbrev q7r:Stmt:=top 50
abbrev q46:Stmt:=top 51
abbrev q7s:Stmt:=top 52
abbrev q5c:Stmt:=top 53
abbrev q5y:Stmt:=top 54
abbrev q37:Stmt:=top 55
abbrev qpd:Stmt:=top 56
local macro_rules | `(tactic| k_updF)=>`(tactic| exact ⟨rfl,rfl,rfl,by decide+kernel,rfl,by decide+kernel,by decide+kernel⟩)
def qmx:FnScope ["thing"] ["thing"] (qd q9k):=by k_updF
def qa7:FnScope ["thing","first_signs"] ["thing","first_signs"] (qd q42):=by k_updF
def qpe:FnScope ["thing"] ["thing"] (qd qb0):=by k_updF
def q4k:FnScope ["why","found","product","ways","name"] ["why"] (qd q9l):=by k_updF
def qa2:FnScope ["names","by","worths","name"] ["names","by","worths"] (qd q7g):=by k_updF
def q2s:FnScope ["product","by","worths","worth","name"] ["product","by","worths"] (qd q43):=by k_updF
def q4l:FnScope ["why","by","worths","worth","product","ways"] ["why","by","worths"] (qd q9m):=by k_updF
def q9o:FnScope ["thing"] ["thing"] (qd q3r):=by k_updF
def qle:FnScope ["thing"] ["thing"] (qd q8i):=by k_updF
def q66:FnScope ["tree","words","node","word"] ["tree","words"] (qd q9n):=by k_updF
def qg7:FnScope ["node","members"] ["node","members"] (qd q6g):=by k_updF
def q36:FnScope ["tree","words","members","nodes","node"] ["tree","words"] (qd q4q):=by k_updF
def q2z:FnScope ["sets","once","words","by_size"] ["sets"] (qd q5p):=by k_updF
def q3i:FnScope ["sets","by_size","smaller","kept","size","least_here","words"] ["sets"] (qd qb1):=by k_updF
def qb3:FnScope ["one","other","together","words"] ["one","other"] (qd qd6):=by k_updF
def qg8:FnScope ["self","thing"] ["self","thing"] (qd q6h):=by k_updF
def qd7:FnScope ["self"] ["self"] (qd q56):=by k_updF
def qg9:FnScope ["self"] ["self"] (qd q6i):=by k_updF
def qd8:FnScope ["self","one","other"] ["self","one","other"] (qd q57):=by k_updF
def qga:FnScope ["self","one","other"] ["self","one","other"] (qd q6j):=by k_updF
def qb4:FnScope ["self","worth","many"] ["self","worth","many"] (qd q4h):=by k_updF
def qiv:FnScope ["self","thing"] ["self","thing"] (qd q7h):=by k_updF
def qer:FnScope ["self"] ["self"] (qd q5q):=by k_updF
def qiw:FnScope ["self"] ["self"] (qd q7i):=by k_updF
def qes:FnScope ["self","one","other"] ["self","one","other"] (qd q5r):=by k_updF
def qix:FnScope ["self","one","other"] ["self","one","other"] (qd q7j):=by k_updF
def qc4:FnScope ["self","worth","many"] ["self","worth","many"] (qd q4r):=by k_updF
def qiy:FnScope ["self","many"] ["self","many"] (qd q44):=by k_updF
def qa8:FnScope ["self","numbers"] ["self","numbers"] (qd q45):=by k_updF
def qiz:FnScope ["self","thing"] ["self","thing"] (qd q7k):=by k_updF
def qet:FnScope ["self"] ["self"] (qd q5s):=by k_updF
def qj0:FnScope ["self"] ["self"] (qd q7l):=by k_updF
def qeu:FnScope ["self","one","other"] ["self","one","other"] (qd q5t):=by k_updF
def q6u:FnScope ["self","one","other","sums","number"] ["self","one","other"] (qd q7m):=by k_updF
def qc5:FnScope ["self","worth","many"] ["self","worth","many"] (qd q4s):=by k_updF
def qgb:FnScope ["self","top"] ["self","top"] (qd q3n):=by k_updF
def qgc:FnScope ["self","thing"] ["self","thing"] (qd q6k):=by k_updF
def qd9:FnScope ["self"] ["self"] (qd q58):=by k_updF
def qgd:FnScope ["self"] ["self"] (qd q6l):=by k_updF
def qda:FnScope ["self","one","other"] ["self","one","other"] (qd q59):=by k_updF
def qge:FnScope ["self","one","other"] ["self","one","other"] (qd q6m):=by k_updF
def qb5:FnScope ["self","worth","many"] ["self","worth","many"] (qd q4i):=by k_updF
def qgf:FnScope ["self","thing"] ["self","thing"] (qd q6n):=by k_updF
def qdb:FnScope ["self"] ["self"] (qd q5a):=by k_updF
def qgg:FnScope ["self"] ["self"] (qd q6o):=by k_updF
def qdc:FnScope ["self","one","other"] ["self","one","other"] (qd q5b):=by k_updF
def qgh:FnScope ["self","one","other"] ["self","one","other"] (qd q6p):=by k_updF
def qb6:FnScope ["self","worth","many"] ["self","worth","many"] (qd q4j):=by k_updF
def qj1:FnScope ["self","thing"] ["self","thing"] (qd q7n):=by k_updF
def qev:FnScope ["self"] ["self"] (qd q5u):=by k_updF
def qj2:FnScope ["self"] ["self"] (qd q7o):=by k_updF
def qew:FnScope ["self","one","other"] ["self","one","other"] (qd q5v):=by k_updF
def qj3:FnScope ["self","one","other"] ["self","one","other"] (qd q7p):=by k_updF
def qc6:FnScope ["self","worth","many"] ["self","worth","many"] (qd q4t):=by k_updF
def qex:FnScope ["_law_script","_law_k"] ["_law_script","_law_k"] (qd q5w):=by k_updF
def q1q:FnScope ["_law_cell","_law_many","_law_number_here","_law_found","_law_k"] ["_law_cell","_law_many"] (qd q6q):=by k_updF
def q38:FnScope ["_law_cell","_law_size","_law_signs","_law_found","_law_number_here"] ["_law_cell","_law_size"] (qd q8j):=by k_updF
def q1o:FnScope ["_law_cell","_law_many","_law_signs","_law_way","_law_base","_law_size","_law_at","_law_found","_law_k","_law_word_here","_law_sign"] ["_law_cell","_law_many"] (qd q7q):=by k_updF
def q2j:FnScope ["_law_cells","_law_words_here","_law_ways","_law_cell","_law_row","_law_size","_law_product"] ["_law_cells","_law_words_here"] (qd q5x):=by k_updF
def q8t:FnScope ["_law_one","_law_other","_law_word_here"] ["_law_one","_law_other"] (qd q6r):=by k_updF
def q23:FnScope ["_law_cells","_law_words_here","_law_most","_law_kept","_law_cell","_law_row","_law_some","_law_one"] ["_law_cells","_law_words_here","_law_most"] (qd q6s):=by k_updF
def qpf:FnScope ["_law_kind","_law_many","_law_top"] ["_law_kind","_law_many","_law_top"] (qd qb2):=by k_updF
def q8u:FnScope ["_law_cell","_law_way"] ["_law_cell"] (qd q6t):=by k_updF
def q4p:FnScope ["_law_kind","_law_cell","_law_words_here","_law_many","_law_top","_law_way","_law_number_here","_law_great"] ["_law_kind","_law_cell","_law_words_here","_law_many","_law_top"] (qd q7r):=by k_updF
def q3s:FnScope ["_law_kind","_law_cells","_law_words_here","_law_many","_law_top","_law_found","_law_k"] ["_law_kind","_law_cells","_law_words_here","_law_many","_law_top"] (qd q46):=by k_updF
def qj4:FnScope ["_law_found","_law_due"] ["_law_found","_law_due"] (qd q7s):=by k_updF
def qdd:FnScope ["_law_kind","_law_number_here","_law_words_here","_law_many","_law_top"] ["_law_kind","_law_number_here","_law_words_here","_law_many","_law_top"] (qd q5c):=by k_updF
def qey:FnScope ["_law_why","_law_by_here","_law_worths"] ["_law_why","_law_by_here","_law_worths"] (qd q5y):=by k_updF
def q4m:FnScope ["_law_why","_law_by_here","_law_worths","e"] ["_law_why","_law_by_here","_law_worths"] (qd q37):=by k_updF
def q2h:FnScope ["_law_script","_law_way","_law_kind","_law_many","_law_top","_law_words_here","_law_cells","_law_why","_law_worths","_law_by_here","_law_first","_law_word_here","_law_spoiled","_law_due","_law_handed","_law_beside"] ["_law_script"] (qd qpd):=by k_updF
structure Txt (K:xA) (mg:xE):Prop where
 qme:mg "ValueError"=none
 b_abs:mg "abs"=none
 b_all:mg "all"=none
 b_any:mg "any"=none
 qfr:mg "bool"=none
 qft:mg "dict"=none
 b_int:mg "int"=none
 q1m:mg "isinstance"=none
 b_len:mg "len"=none
 q81:mg "list"=none
 b_max:mg "max"=none
 b_min:mg "min"=none
 q78:mg "range"=none
 b_set:mg "set"=none
 q2q:mg "sorted"=none
 b_str:mg "str"=none
 qc3:mg "tuple"=none
 qfq:∃ t,mg "SMALL_LETTERS"=some (.str "abcdefghijklmnopqrstuvwxyz" t)
 qfp:∃ t,mg "FURTHER_SIGNS"=some (.str "abcdefghijklmnopqrstuvwxyz0123456789" t)
 qm0:∃ t,mg "MOST_SIGNS"=some (.int 12 t)
 c_END:∃ t,mg "END"=some (.str "" t)
 qpu:Top K mg "is_whole" q9k ["thing"]
 qbk:Top K mg "is_text_begun_by" q42 ["thing","first_signs"]
 qsi:Top K mg "is_word" qb0 ["thing"]
 qpr:Top K mg "names_of" q9l ["why"]
 qm7:Top K mg "ask_worths" q7g ["names","by","worths"]
 qbn:Top K mg "product_reckoned" q43 ["product","by","worths"]
 qpy:Top K mg "reckoned" q9m ["why","by","worths"]
 qac:Top K mg "is_tuple_of_words" q3r ["thing"]
 qn3:Top K mg "is_accord" q8i ["thing"]
 qps:Top K mg "put_into" q9n ["tree","words"]
 qjs:Top K mg "kids_within" q6g ["node","members"]
 qdx:Top K mg "has_one_within" q4q ["tree","words"]
 qhe:Top K mg "once_by_size" q5p ["sets"]
 qsk:Top K mg "thinned" qb1 ["sets"]
 qv4:Top K mg "agreed" qd6 ["one","other"]
 qhd:Top K mg "_law_cell_at" q5w ["_law_script","_law_k"]
 qa6:Top K mg "_law_stream" q6q ["_law_cell","_law_many"]
 qn2:Top K mg "_law_word" q8j ["_law_cell","_law_size"]
 qm8:Top K mg "_law_words" q7q ["_law_cell","_law_many"]
 qha:Top K mg "_law_few_why" q5x ["_law_cells","_law_words_here"]
 qjn:Top K mg "_law_within" q6r ["_law_one","_law_other"]
 qjr:Top K mg "_law_accord" q6s ["_law_cells","_law_words_here","_law_most"]
 qs9:Top K mg "_law_by" qb2 ["_law_kind","_law_many","_law_top"]
 qjk:Top K mg "_law_number" q6t ["_law_cell"]
 qmb:Top K mg "_law_worth" q7r ["_law_kind","_law_cell","_law_words_here","_law_many","_law_top"]
 qbl:Top K mg "_law_many_worths" q46 ["_law_kind","_law_cells","_law_words_here","_law_many","_law_top"]
 qma:Top K mg "_law_alike" q7s ["_law_found","_law_due"]
 qfs:Top K mg "_law_no_worth" q5c ["_law_kind","_law_number_here","_law_words_here","_law_many","_law_top"]
 qh8:Top K mg "_law_refused" q5y ["_law_why","_law_by_here","_law_worths"]
 q91:Top K mg "_law_refused_by_any" q37 ["_law_why","_law_by_here","_law_worths"]
 t_law:Top K mg "law" qpd ["_law_script"]
 q109:mg "Reckoning"=some (.ref (cA mg "Reckoning"))
 q105:Cls K (cA mg "Reckoning")
 q107:PySem.W.makesIn K (cA mg "Reckoning")=true
 q106:PySem.W.keepIn K (.ref (cA mg "Reckoning"))=true
 q108:PySem.W.findIn K (.ref (cA mg "Reckoning")) "__init__"=some (some (.builtin "object.__init__"))
 qsj:NoAttr K (cA mg "Reckoning") "either"
 qs8:NoAttr K (cA mg "Reckoning") "nought"
 qpq:MTop K (cA mg "Reckoning") "repeated" "Reckoning.repeated" q55 ["self","worth","many"]
 quw:mg "Counts"=some (.ref (cA mg "Counts"))
 qsb:Cls K (cA mg "Counts")
 qsh:PySem.W.makesIn K (cA mg "Counts")=true
 qs7:PySem.W.keepIn K (.ref (cA mg "Counts"))=true
 qsa:PySem.W.findIn K (.ref (cA mg "Counts")) "__init__"=some (some (.builtin "object.__init__"))
 qjm:MTop K (cA mg "Counts") "fits" "Counts.fits" q6h ["self","thing"]
 qfl:MTop K (cA mg "Counts") "nought" "Counts.nought" q56 ["self"]
 qjq:MTop K (cA mg "Counts") "unit" "Counts.unit" q6i ["self"]
 qfo:MTop K (cA mg "Counts") "either" "Counts.either" q57 ["self","one","other"]
 qjp:MTop K (cA mg "Counts") "both" "Counts.both" q6j ["self","one","other"]
 qcf:MTop K (cA mg "Counts") "repeated" "Counts.repeated" q4h ["self","worth","many"]
 qy2:mg "Costs"=some (.ref (cA mg "Costs"))
 qv6:Cls K (cA mg "Costs")
 qux:PySem.W.makesIn K (cA mg "Costs")=true
 qut:PySem.W.keepIn K (.ref (cA mg "Costs"))=true
 qv2:PySem.W.findIn K (.ref (cA mg "Costs")) "__init__"=some (some (.builtin "object.__init__"))
 qmg:MTop K (cA mg "Costs") "fits" "Costs.fits" q7h ["self","thing"]
 qhf:MTop K (cA mg "Costs") "nought" "Costs.nought" q5q ["self"]
 qm6:MTop K (cA mg "Costs") "unit" "Costs.unit" q7i ["self"]
 qh9:MTop K (cA mg "Costs") "either" "Costs.either" q5r ["self","one","other"]
 qmf:MTop K (cA mg "Costs") "both" "Costs.both" q7j ["self","one","other"]
 qe2:MTop K (cA mg "Costs") "repeated" "Reckoning.repeated" q4r ["self","worth","many"]
 qoa:mg "Bests"=some (.ref (cA mg "Bests"))
 q4c:Cls K (cA mg "Bests")
 qmc:PySem.W.makesIn K (cA mg "Bests")=true
 qm3:PySem.W.keepIn K (.ref (cA mg "Bests"))=true
 q5g:NoAttr K (cA mg "Bests") "most"
 qm1:ITop K (cA mg "Bests") "Bests.__init__" "many" q44 (.int 3)
 qbo:MTop K (cA mg "Bests") "least_ones" "Bests.least_ones" q45 ["self","numbers"]
 qmd:MTop K (cA mg "Bests") "fits" "Bests.fits" q7k ["self","thing"]
 qh6:MTop K (cA mg "Bests") "nought" "Bests.nought" q5s ["self"]
 qm5:MTop K (cA mg "Bests") "unit" "Bests.unit" q7l ["self"]
 qhb:MTop K (cA mg "Bests") "either" "Bests.either" q5t ["self","one","other"]
 qm2:MTop K (cA mg "Bests") "both" "Bests.both" q7m ["self","one","other"]
 qdv:MTop K (cA mg "Bests") "repeated" "Bests.repeated" q4s ["self","worth","many"]
 qm9:mg "Trusts"=some (.ref (cA mg "Trusts"))
 q8f:Cls K (cA mg "Trusts")
 qik:PySem.W.makesIn K (cA mg "Trusts")=true
 qil:PySem.W.keepIn K (.ref (cA mg "Trusts"))=true
 q82:NoAttr K (cA mg "Trusts") "top"
 qji:ITop K (cA mg "Trusts") "Trusts.__init__" "top" q3n (.int 100)
 qjj:MTop K (cA mg "Trusts") "fits" "Trusts.fits" q6k ["self","thing"]
 qfn:MTop K (cA mg "Trusts") "nought" "Trusts.nought" q58 ["self"]
 qjl:MTop K (cA mg "Trusts") "unit" "Trusts.unit" q6l ["self"]
 qfj:MTop K (cA mg "Trusts") "either" "Trusts.either" q59 ["self","one","other"]
 qjg:MTop K (cA mg "Trusts") "both" "Trusts.both" q6m ["self","one","other"]
 qce:MTop K (cA mg "Trusts") "repeated" "Reckoning.repeated" q4i ["self","worth","many"]
 qv5:mg "Truths"=some (.ref (cA mg "Truths"))
 qse:Cls K (cA mg "Truths")
 qsg:PySem.W.makesIn K (cA mg "Truths")=true
 qsf:PySem.W.keepIn K (.ref (cA mg "Truths"))=true
 qsd:PySem.W.findIn K (.ref (cA mg "Truths")) "__init__"=some (some (.builtin "object.__init__"))
 qjo:MTop K (cA mg "Truths") "fits" "Truths.fits" q6n ["self","thing"]
 qfk:MTop K (cA mg "Truths") "nought" "Truths.nought" q5a ["self"]
 qjf:MTop K (cA mg "Truths") "unit" "Truths.unit" q6o ["self"]
 qfm:MTop K (cA mg "Truths") "either" "Truths.either" q5b ["self","one","other"]
 qjh:MTop K (cA mg "Truths") "both" "Truths.both" q6p ["self","one","other"]
 qcd:MTop K (cA mg "Truths") "repeated" "Reckoning.repeated" q4j ["self","worth","many"]
 qy3:mg "Hands"=some (.ref (cA mg "Hands"))
 qur:Cls K (cA mg "Hands")
 quq:PySem.W.makesIn K (cA mg "Hands")=true
 qus:PySem.W.keepIn K (.ref (cA mg "Hands"))=true
 qup:PySem.W.findIn K (.ref (cA mg "Hands")) "__init__"=some (some (.builtin "object.__init__"))
 qmi:MTop K (cA mg "Hands") "fits" "Hands.fits" q7n ["self","thing"]
 qh7:MTop K (cA mg "Hands") "nought" "Hands.nought" q5u ["self"]
 qm4:MTop K (cA mg "Hands") "unit" "Hands.unit" q7o ["self"]
 qhc:MTop K (cA mg "Hands") "either" "Hands.either" q5v ["self","one","other"]
 qmh:MTop K (cA mg "Hands") "both" "Hands.both" q7p ["self","one","other"]
 qe0:MTop K (cA mg "Hands") "repeated" "Reckoning.repeated" q4t ["self","worth","many"]
 qv1:mg "NoFact"=some (.ref (cA mg "NoFact"))
 qv0:XCls K (cA mg "NoFact")
 quz:mg "NoName"=some (.ref (cA mg "NoName"))
 qv3:XCls K (cA mg "NoName")
 qpt:mg "NoRounds"=some (.ref (cA mg "NoRounds"))
 qpx:XCls K (cA mg "NoRounds")
 quu:mg "NoRule"=some (.ref (cA mg "NoRule"))
 quo:XCls K (cA mg "NoRule")
 quv:mg "NoText"=some (.ref (cA mg "NoText"))
 quy:XCls K (cA mg "NoText")
 qij:mg "NoWorth"=some (.ref (cA mg "NoWorth"))
 q3c:XCls K (cA mg "NoWorth")
 qsl:mg "TooMuch"=some (.ref (cA mg "TooMuch"))
 qsc:XCls K (cA mg "TooMuch")
 qpv:mg "WhyError"=some (.ref (cA mg "WhyError"))
 qpw:XCls K (cA mg "WhyError")
 qe1:PySem.W.mroIn K (cA mg "NoWorth") (.ref (cA mg "NoFact"))=some false
 qdz:PySem.W.mroIn K (cA mg "NoWorth") (.ref (cA mg "NoName"))=some false
 qbj:PySem.W.mroIn K (cA mg "NoWorth") (.ref (cA mg "NoRounds"))=some false
 qdy:PySem.W.mroIn K (cA mg "NoWorth") (.ref (cA mg "NoRule"))=some false
 qdw:PySem.W.mroIn K (cA mg "NoWorth") (.ref (cA mg "NoText"))=some false
 qcb:PySem.W.mroIn K (cA mg "NoWorth") (.ref (cA mg "NoWorth"))=some true
 qcc:PySem.W.mroIn K (cA mg "NoWorth") (.ref (cA mg "TooMuch"))=some false
 qbm:PySem.W.mroIn K (cA mg "NoWorth") (.ref (cA mg "WhyError"))=some true
def qm {b:Bool} {A B:Prop} (e:b=false) (h:B):if b=true then A else B:=by
 subst e;exact iteF h
def q1k {b:Bool} {A B:Prop} (e:b=true) (h:A):if b=true then A else B:=by
 subst e;exact iteT h
def q3j (z:Str):z.cps.toList.length=z.length:=by simp [Str.length]
def qde (a b:Str):(a++b).cps.toList=a.cps.toList++b.cps.toList:=by
 show (a.cps++b.cps).toList=_;rw [z19]
def q3q (a b:Str):(a++b).length=a.length+b.length:=by
 show (a.cps++b.cps).size=a.cps.size+b.cps.size;exact Array.size_append
def qtn {z:Str} (h:∀ c∈z.cps.toList,c < 0x110000):PyData.strOk z=true:=by
 unfold PyData.strOk;rw [<- Array.all_toList,z2m];exact λ c hc=>z3b (h c hc)
def qx3 {z:Str} {lo hi:Option Int} {c:Nat} (h:c∈(cutS z lo hi).cps.toList):c∈z.cps.toList:=by
 unfold cutS at h;rw [z1f] at h;exact z13 (z14 h)
theorem q7t {K:xA} {H:Hp}:∀ {ds:List PyData} {xs:List V} {i:Nat} {x:V},Dats K H ds xs ->xs[i]? =some x ->∃ d,ds[i]? =some d/\Dat K H d x
 | _,_,i,x,.nil,h=>by simp at h
 | _,_,0,x,.cons a b,h=>by
  simp at h
  subst h;exact ⟨_,zr,a⟩
 | _,_,i+1,x,.cons a b,h=>by
  obtain ⟨d,e,r⟩:=q7t (i:=i) (x:=x) b (by simpa using h);exact ⟨d,by simpa using e,r⟩
theorem q7u {K:xA} {H:Hp}:∀ {ds:List PyData} {xs:List V},Dats K H ds xs ->ds.length=xs.length
 | _,_,.nil=>rfl
 | _,_,.cons a b=>by rw [z2h,z2h,q7u b]
def KeepT (H H':Hp):Prop:=∀ b ys,H b=some (.tup ys) ->H' b=some (.tup ys)
def Same.keepT {H H':Hp} (s:Same H H'):KeepT H H':=λ b ys e=>s b _ e
def KeepT.trans {H H1 H2:Hp} (a:KeepT H H1) (b:KeepT H1 H2):KeepT H H2:=λ c ys e=>b c ys (a c ys e)
theorem KeepT.upd {H H':Hp} {d:Addr} {xs ys:List V} (k:KeepT H H') (e:H' d=some (.lst xs)):KeepT H (upd H' d (.lst ys)):=λ b zs hb=>by
 rw [qi (λ z=>by rw [z] at hb;have:=k _ _ hb;rw [e] at this;cases this)];exact k b zs hb
abbrev Tab:=List (List Str×Int)
def encI (W:Tab):List (List Str×V):=W.map λ kv=>(kv.1,V.int kv.2)
def encD (W:Tab):HO:= .dT ((encI W).map λ kv=>(kv.1.map Sum.inr,kv.2))
def getA (W:Tab) (k:xD):Option Int:=(W.find? λ kv=>decide (kv.1=k)).map (·.2)
def putA (W:Tab) (k:xD) (v:Int):Tab:=if (W.any λ kv=>decide (kv.1=k))=true then W.map (λ kv=>if kv.1=k then (kv.1,v) else kv) else W++ [(k,v)]
def qby {a b:xD}:a.map (Sum.inr:Str ->Key)=b.map Sum.inr↔a=b:=by
 constructor
 ·intro h;exact List.map_inj_right (λ x y e=>Sum.inr.inj e) |>.mp h
 ·intro h;rw [h]
def qx4 (a b:xD):decide (a.map (Sum.inr:Str ->Key)=b.map Sum.inr)=decide (a=b):=decide_eq_decide.mpr qby
def qto (W:Tab) (k:xD):valV ((encI W).map λ J=>(J.1.map (Sum.inr:Str ->Key),J.2)) (k.map Sum.inr)=(getA W k).map V.int:=by
 unfold valV getA encI
 induction W with
 | nil=>rfl
 | cons p W ih=>
  rw [z3k,z3k];by_cases e:p.1=k
  ·rw [z0r (by rw [e];simp),z0r (by simpa using e)];rfl
  ·rw [z0s (by simpa using λ q=>e (qby.mp q)),z0s (by simpa using e)];exact ih
def qtp (W:Tab) (k:xD) (v:Int):putK ((encI W).map λ J=>(J.1.map (Sum.inr:Str ->Key),J.2)) (k.map Sum.inr) (V.int v)=(encI (putA W k v)).map λ J=>(J.1.map Sum.inr,J.2):=by
 unfold putK putA encI;have e1:((List.map (λ J:List Str×V=>(J.1.map (Sum.inr:Str ->Key),J.2)) (W.map λ J=>(J.1,V.int J.2))).any λ J=>decide (J.1=k.map Sum.inr))=W.any λ J=>decide (J.1=k):=by
  rw [List.any_map,List.any_map]
  congr 1
  funext J
  exact qx4 J.1 k
 rw [e1];split
 ·rw [z46,z46,z46,z46];refine z1e λ J _=> ?_;show (if J.1.map (Sum.inr:Str ->Key)=k.map Sum.inr then (J.1.map Sum.inr,V.int v) else (J.1.map Sum.inr,V.int J.2))=_;by_cases h:J.1=k
  ·rw [if_pos (by rw [h])];show _=(((if J.1=k then (J.1,v) else J).1).map Sum.inr,V.int (if J.1=k then (J.1,v) else J).2);rw [if_pos h]
  ·rw [if_neg (λ q=>h (qby.mp q))];show _=(((if J.1=k then (J.1,v) else J).1).map Sum.inr,V.int (if J.1=k then (J.1,v) else J).2);rw [if_neg h]
 ·rw [z35,z35];rfl
def qlf (W:Tab) (k:xD) (v:Int):(putA W k v).map (·.1)=if k∈W.map (·.1) then W.map (·.1) else W.map (·.1)++ [k]:=by
 unfold putA;have e:(W.any λ J=>decide (J.1=k))=decide (k∈W.map (·.1)):=by
  rw [z2y,z2o,decide_eq_true_iff,z44]
  constructor
  ·rintro ⟨p,O,h⟩;exact ⟨p,O,of_decide_eq_true h⟩
  ·rintro ⟨p,O,h⟩;exact ⟨p,O,z3b h⟩
 rw [e];by_cases h:k∈W.map (·.1)
 ·rw [if_pos (z3b h),if_pos h,z46];refine z1e λ J _=> ?_;show (if J.1=k then (J.1,v) else J).1=J.1;split <;> rfl
 ·rw [if_neg (by simpa using h),if_neg h,z35];rfl
def qz5 {W:Tab} (h:(W.map (·.1)).Nodup) (k:xD) (v:Int):((putA W k v).map (·.1)).Nodup:=by
 rw [qlf];split
 ·exact h
 ·rename_i hk;exact qfz h hk
def qx5 (W:Tab) (k:xD) (v:Int):(putA W k v).length<=W.length+1:=by
 have:(putA W k v).length=((putA W k v).map (·.1)).length:=by rw [z2z]
 rw [this,qlf];split
 ·rw [z2z];lia
 ·rw [z1n,z2z];exact z47 _
def q10y (kv:List Str×Int):PyData:= .tuple [.tuple (kv.1.map .str),.int kv.2]
def whyD (W:Tab):List PyData:=W.map q10y
theorem qcp {α β:Type} {F:α ->β ->Prop} {x:α} {y:β}:∀ {xs:List α} {ys:List β},Paired F xs ys ->F x y ->Paired F (xs++ [x]) (ys++ [y])
 | _,_,.nil,h=> .cons h .nil
 | _,_,.cons a b,h=> .cons a (qcp b h)
def PlAt (H:Hp) (x:V) (kv:List Str×Int):Prop:=∃ q b,x= .ref q/\H q=some (.tup [.ref b,.int kv.2])/\H b=some (.tup (kv.1.map V.str))
def PlAt.keep {H H':Hp} {x:V} {J:List Str×Int} (h:PlAt H x J) (s:KeepT H H'):PlAt H' x J:=by
 obtain ⟨q,b,e,h1,h2⟩:=h;exact ⟨q,b,e,s _ _ h1,s _ _ h2⟩
theorem qgi {H H':Hp} (s:KeepT H H'):∀ {xs:List V} {ps:Tab},Paired (PlAt H) xs ps ->Paired (PlAt H') xs ps
 | _,_,.nil=> .nil
 | _,_,.cons a b=> .cons (a.keep s) (qgi s b)
def q1l {ns:List Int} {k:Nat} (h:k < ns.length):atI (ns.map V.int) (k:Int)=some (V.int (ns.getD k 0)):=by
 rw [qnl h];exact q5k (by rw [z21,z0c h];rfl)
theorem qb7 {K:xA} {H:Hp}:∀ ns:List Int,Dats K H (ns.map .int) (ns.map V.int)
 | []=> .nil
 | n::ns=> .cons (.int n) (qb7 ns)
def qez (ns:List Int):PyData.depthAll (ns.map .int)=0:=by
 induction ns with
 | nil=>rfl
 | cons x p ih=>
  show max (PyData.depth (.int x)) (PyData.depthAll (p.map .int))=0;rw [ih];rfl
def qlg (xs:List V) (n:Nat) (h:n<=xs.length):cutV xs (some (n:Int)) none=xs.drop n:=by
 unfold cutV;rw [HT.sIx_nat,HT.sIx_none,Nat.min_eq_left h,z0m (by rw [z2g];exact z47 _)]
variable {P:Program} {w:World} {K:xA} {mg:xE} {base:Heap}
def qrl:Sp:=λ vs H Q _=>∃ c m:Int,vs=[.int c,.int m]/\0<=m/\m<=100/\∀ p (ns:List Int) H',Same H H' ->H' p=some (.lst (ns.map V.int)) ->ns.length=m.toNat ->H p=none ->(∀ n∈ns,0<=n/\n < 2147483647) ->Q (.ref p) H'
def q39 (T:Txt K mg):Def P w K mg base 1 "_law_stream" ["_law_cell","_law_many"] qrl:=by
 refine T.qa6.ok q1q (λ vs H Q E h=> ?_) λ f cdv A outer s H vs Q E hr h=> ?_
 ·obtain ⟨c,m,rfl,_⟩:=h;rfl
 ·obtain ⟨c,m,rfl,m0,m1,k⟩:=h;refine ⟨_,(q9c
   (qo (i:=2) q1q.nd rfl (Or.inl rfl) (qk q19 qc (qk qz (pv 0) qc)))
   (qo (i:=3) q1q.nd rfl (Or.inl rfl) (q1e q26))
   (q22 PassesOwn.never rfl (q4w rfl T.q78 (pa_1 (qk q19 (pv 1) qc))) (q13 (i:=4) q1q.nd rfl (Or.inl rfl)) (q2r
   (qo (i:=2) q1q.nd rfl (Or.inl rfl) (qk qz (qk q53 (pv 2) qc) qc))
   (q2b (q64 z0k z0f z0g q3y (pv 3) (pa_1 (pv 2))))))
   (qh (q21 (q31 K) (pv 3) (q1p qc) q4d))),?_⟩
  refine ⟨_,rfl,_,_,rfl,rfl,(by show (0:Int) < 2147483646;decide),_,_,rfl,rfl,?_⟩;refine ⟨by decide,λ p hp=> ?_⟩;refine ⟨_,rfl,_,_,rfl,rfl,_,rfl,by lia,by lia,q87 (lo:=0) (n:=(m+2).toNat) (λ i σ H'=>∃ (J:Option V) (n:Int) (ns:List Int),σ=[some (.int c),some (.int m),some (.int n),some (.ref p),J]/\H'=upd H p (.lst (ns.map V.int))/\ns.length=i/\∀ x∈ns,0<=x/\x < 2147483647)
   ⟨none,_,[],rfl,rfl,rfl,λ _ z=>nomatch z⟩ ?_ ?_⟩
  ·rintro i σ H' hi ⟨J,n,ns,rfl,rfl,hl,hn⟩;refine ⟨_,rfl,_,_,rfl,rfl,.inr ⟨by decide,by decide⟩,_,_,rfl,rfl,(by show (0:Int) < 2147483647;decide),?_⟩;refine ⟨_,rfl,.inl ⟨rfl,_,SqL.of qb⟩,_,rfl,_,_,_,rfl,rfl,qb,by rw [z2z,hl];exact q1i (by lia),?_⟩;refine ⟨_,_,ns++ [n*48271%2147483647],rfl,?_,by rw [z1n,hl];rfl,λ x hx=> ?_⟩
   ·rw [q5i,z35];rfl
   ·rcases z2t.mp hx with hx | hx
    ·exact hn x hx
    ·rw [z1l.mp hx];exact ⟨z39 _ (by decide),z1v _ (by decide)⟩
  ·rintro σ H' ⟨J,n,ns,rfl,rfl,hl,hn⟩;refine ⟨_,zr,_,zr,_,_,zr,SqL.of qb,λ q hq=> ?_⟩;have e:cutV (ns.map V.int) (some 2) none=(ns.drop 2).map V.int:=by
    have:=qlg (ns.map V.int) 2 (by rw [z2z];lia);rw [List.map_drop];exact this
   rw [e];have s1:=qf (o:=HO.lst (ns.map V.int)) hp;exact k q (ns.drop 2) _ (s1.trans (qf hq)) qb (by rw [z2g];lia) (s1.free hq) λ x hx=>hn x (z13 hx)
def fur:Str:="abcdefghijklmnopqrstuvwxyz0123456789"
def qnu:fur.length=36:=by decide+kernel
def qz6:∀ c∈fur.cps.toList,c < 0x110000:=by decide+kernel
def Wz (n:Nat) (z:Str):Prop:=z.length<=n/\∀ c∈z.cps.toList,c∈fur.cps.toList
def Wz.ok {n:Nat} {z:Str} (h:Wz n z):PyData.strOk z=true:=qtn λ c hc=>qz6 c (h.2 c hc)
def Wz.cut {n:Nat} {z:Str} (h:Wz n z) (lo hi:Option Int):Wz n (cutS z lo hi):=⟨z40 (qck z lo hi) h.1,λ c hc=>h.2 c (qx3 hc)⟩
def Wz.app {n m:Nat} {z y:Str} (h:Wz n z) (k:Wz m y):Wz (n+m) (z++y):=⟨by rw [q3q];exact Nat.add_le_add h.1 k.1,λ c J=>by
 rw [qde] at J;exact (z2t.mp J).elim (h.2 c) (k.2 c)⟩
def Wz.one {c:Nat} (h:c∈fur.cps.toList):Wz 1 ⟨#[c]⟩:=⟨z47 _,λ d hd=>by
 have:d=c:=by simpa using hd
 subst this;exact h⟩
def Wz.le {n m:Nat} {z:Str} (h:Wz n z) (k:n<=m):Wz m z:=⟨z40 h.1 k,h.2⟩
def Wz.size {n:Nat} {z:Str} (h:Wz n z) (k:n<=1000):z.length<=sizeLine:=z40 (z40 h.1 k) (by decide)
def q76 (d:Nat):(⟨#[d]⟩:Str).length<=1:=z47 _
def qrm (c:Int) {m:Int} (h0:0 < m) (h1:m<=36):∃ d,atI fur.cps.toList (c%m)=some d/\d∈fur.cps.toList:=
 qaq (z39 _ (by lia)) (by rw [q3j,qnu];have:=z1v c h0;lia)
def q7v:fur.length<=sizeLine:=by rw [qnu];decide
def qlh {W:Tab} (h:(W.map (·.1)).Nodup) {k:xD} (hk:k∈W.map (·.1)):∃ n,getA W k=some n/\(k,n)∈W:=by
 obtain ⟨⟨k',n⟩,hp,e⟩:=z44.mp hk;have e':k'=k:=e;subst e';unfold getA;cases q:W.find? λ kv=>decide (kv.1=k') with
 | none=>
  have:=List.find?_eq_none.mp q _ hp;simp at this
 | some x=>
  have h1:=List.find?_some q;have h2:=List.mem_of_find?_eq_some q;obtain ⟨x1,x2⟩:=x;have:x1=k':=by simpa using h1
  subst this;exact ⟨x2,zr,h2⟩
def qtq {K:xA} {H:Hp} {b:Addr} {p:xD} (h:H b=some (.tup (p.map V.str))) (ho:∀ x∈p,PyData.strOk x=true):Dat K H (.tuple (p.map .str)) (.ref b):=by
 refine .tup (SqT.of h) ?_;clear h
 induction p with
 | nil=>exact .nil
 | cons x p ih=>exact .cons (.str x (ho x (z1o ..))) (ih λ y hy=>ho y (z15 _ hy))
theorem qli {K:xA} {H:Hp}:∀ {xs:List V} {W:Tab},Paired (PlAt H) xs W ->(∀ O∈W,∀ z∈O.1,PyData.strOk z=true) ->Dats K H (whyD W) xs
 | _,_,.nil,_=> .nil
 | _,_,.cons ⟨q,b,e,h1,h2⟩ r,ok=>by
  subst e;exact .cons (.tup (SqT.of h1) (.cons (qtq h2 (ok _ (z1o ..))) (.cons (.int _) .nil))) (qli r λ O J=>ok O (z15 _ J))
theorem q5d {α β:Type} {F:α ->β ->Prop}:∀ {l:List α} {k:List β} {i:Nat} {x:α},Paired F l k ->l[i]? =some x ->∃ y,k[i]? =some y/\F x y
 | _,_,_,_,.nil,h=>by simp at h
 | _,_,0,_,.cons a _,h=>by
  simp at h
  subst h;exact ⟨_,zr,a⟩
 | _,_,i+1,x,.cons _ r,h=>by
  obtain ⟨y,e,f⟩:=q5d (i:=i) (x:=x) r (by simpa using h);exact ⟨y,by simpa using e,f⟩
def qpg (p:xD):PyData.depthAll (p.map .str)=0:=by
 induction p with
 | nil=>rfl
 | cons x p ih=>
  show max (PyData.depth (.str x)) (PyData.depthAll (p.map .str))=0;rw [ih];rfl
theorem qi4 {α:Type} {lt:α ->α ->Bool} (h:Tim.STO lt):∀ {l:List α},l.Pairwise (λ a b=>lt b a=false) ->l.Nodup ->l.Pairwise λ a b=>lt a b=true
 | [],_,_=> .nil
 | a::l,h1,h2=>by
  obtain ⟨a1,a2⟩:=z1p.mp h1;obtain ⟨b1,b2⟩:=z31.mp h2;refine z1p.mpr ⟨λ b hb=> ?_,qi4 h a2 b2⟩;cases e:lt a b with
  | true=>rfl
  | false=>exact absurd (h.tri a b e (a1 b hb)) λ z=>b1 (z ▸ hb)
def qtr {W:Tab} {k:xD} {v:Int} {J:List Str×Int} (h:J∈putA W k v):J∈W\/ J=(k,v):=by
 unfold putA at h;split at h
 ·obtain ⟨x,hx,e⟩:=z44.mp h;by_cases q:x.1=k
  ·rw [if_pos q] at e;exact .inr (by rw [<- e,q])
  ·rw [if_neg q] at e;exact .inl (e ▸ hx)
 ·rcases z2t.mp h with h | h
  ·exact .inl h
  ·exact .inr (z1l.mp h)
theorem q28 {α β:Type} {F:α ->β ->Prop}:∀ {xs J:List α} {ys O:List β},Paired F xs ys ->Paired F J O ->Paired F (xs++J) (ys++O)
 | _,_,_,_,.nil,h=>h
 | _,_,_,_,.cons a b,h=> .cons a (q28 b h)
def qph (W:Tab):PyData.depthAll (whyD W)<=2:=by
 induction W with
 | nil=>exact z4a _
 | cons p W ih=>
  refine Nat.max_le.mpr ⟨?_,ih⟩;show max (PyData.depthAll (p.1.map .str)+1) (max 0 0)+1<=2;rw [qpg];decide
def qi5 (W:Tab):PyData.depth (.list (whyD W))<=60:=z40 (z2p (qph W)) (by decide)
abbrev NN (ps:Tab):Prop:=∀ p∈ps,0<=p.2
def Bd (n L:Nat) (b:Int) (W:Tab):Prop:=W.length<=n/\∀ p∈W,(∀ x∈p.1,PyData.strOk x=true)/\p.1.length<=L/\0<=p.2/\p.2<=b
def Bd.le {n L Z J:Nat} {b O:Int} {W:Tab} (h:Bd n L b W) (h1:n<=Z) (h2:L<=J) (h3:b<=O):Bd Z J O W:=
 ⟨z40 h.1 h1,λ p hp=>let ⟨a,b,c,d⟩:=h.2 p hp;⟨a,z40 b h2,c,z3v d h3⟩⟩
abbrev BW (W:Tab):Prop:=Bd 200 1000 (2^599) W
def WA (H:Hp) (l:Addr) (W:Tab):Prop:=∃ xs,H l=some (.lst xs)/\Paired (PlAt H) xs W/\BW W
def WA.same {H H':Hp} {l:Addr} {W:Tab} (h:WA H l W) (s:Same H H'):WA H' l W:=by
 obtain ⟨xs,h1,h2,h3⟩:=h;exact ⟨xs,s _ _ h1,qgi (Same.keepT s) h2,h3⟩
def WA.bd {H:Hp} {l:Addr} {W:Tab} (h:WA H l W):BW W:=by
 obtain ⟨xs,h1,h2,h3⟩:=h;exact h3
def WA.dat {K:xA} {H:Hp} {l:Addr} {W:Tab} (h:WA H l W):Dat K H (.list (whyD W)) (.ref l):=by
 obtain ⟨xs,h1,h2,h3⟩:=h;exact .lst (SqL.of h1) (qli h2 λ p hp=>(h3.2 p hp).1)
noncomputable def WA.xs {H : Hp} {l : Addr} {W : Tab} (h : WA H l W) : List V := Classical.choose h
theorem WA.lst {H:Hp} {l:Addr} {W:Tab} (h:WA H l W):H l=some (.lst h.xs):=(Classical.choose_spec h).1
def WA.prd {H:Hp} {l:Addr} {W:Tab} (h:WA H l W):Paired (PlAt H) h.xs W:=(Classical.choose_spec h).2.1
def WA.copy {H:Hp} {l q:Addr} {W:Tab} (h:WA H l W) (hq:H q=none):WA (upd H q (.lst h.xs)) q W:=⟨h.xs,qb,qgi (Same.keepT (qf hq)) h.prd,h.bd⟩
def q10z (W:Tab) (ns:xD):Prop:=(ns.Pairwise λ a b=>q1b a b=true)/\∀ x,x∈ns↔∃ kv∈W,x∈kv.1
def qts {kvs:List (Key×V)} {k:Key} (v:V) (h:k∈kvs.map (·.1)):(putK kvs k v).map (·.1)=kvs.map (·.1):=by
 obtain ⟨p,hp,e⟩:=z44.mp h;unfold putK;rw [if_pos (z2o.mpr ⟨p,hp,z3b e⟩),z46];refine z1e λ J _=> ?_;show (if J.1=k then (J.1,v) else J).1=J.1;split <;> rfl
def qrn {kvs:List (Key×V)} {k:Key} (v:V) (h:¬ k∈kvs.map (·.1)):(putK kvs k v).map (·.1)=kvs.map (·.1)++ [k]:=by
 unfold putK;rw [if_neg,z35]
 ·rfl
 ·intro z;obtain ⟨p,hp,e⟩:=z2o.mp z;exact h (z44.mpr ⟨p,hp,of_decide_eq_true e⟩)
def qlj (H:Hp) (d:Addr) (ws:xD) (v:V):Prop:=∃ kvs,H d=some (.dK kvs)/\kvs.map (·.1)=ws.map Sum.inr/\ws.Nodup/\∀ kv∈kvs,kv.2=v
def qnv {x:Str} {ws:xD}:(Sum.inr x:Key)∈ws.map Sum.inr↔x∈ws:=by
 rw [z44]
 constructor
 ·rintro ⟨y,hy,e⟩;cases e
  exact hy
 ·exact λ h=>⟨x,h,zr⟩
def qlk {kvs:List (Key×V)} {k:Key} {v:V} (h:∀ O∈kvs,O.2=v):∀ O∈putK kvs k v,O.2=v:=λ O J=>by
 unfold putK at J;split at J
 ·obtain ⟨x,hx,e⟩:=z44.mp J;by_cases q:x.1=k
  ·rw [if_pos q] at e;rw [<- e]
  ·rw [if_neg q] at e;exact e ▸ h x hx
 ·rcases z2t.mp J with g | g
  ·exact h O g
  ·rw [z1l.mp g]
def qtt {H:Hp} {d:Addr} {ws:xD} {v:V} {x:Str} {kvs:List (Key×V)} (h1:kvs.map (·.1)=ws.map Sum.inr) (h2:ws.Nodup) (O:∀ kv∈kvs,kv.2=v):∃ J,qlj (upd H d (.dK (putK kvs (Sum.inr x) v))) d J v/\(∀ y,y∈J↔y∈ws\/ y=x)/\J.length<=ws.length+1:=by
 by_cases h:x∈ws
 ·refine ⟨ws,⟨_,qb,?_,h2,qlk O⟩,λ y=>⟨.inl,λ z=>z.elim id λ e=>e ▸ h⟩,Nat.le_succ _⟩;rw [qts v (by rw [h1];exact qnv.mpr h),h1]
 ·refine ⟨ws++ [x],⟨_,qb,?_,qfz h2 h,qlk O⟩,λ y=>by rw [z2t,z1l],by rw [z1n];exact z47 _⟩;rw [qrn v (by rw [h1];exact λ z=>h (qnv.mp z)),h1,z35];rfl
def qtu:Sp:=λ vs H Q _=>∃ (l:Addr) (W:Tab),vs=[.ref l]/\WA H l W/\∀ p ns H',Same H H' ->H p=none ->H' p=some (.lst (ns.map V.str)) ->q10z W ns ->ns.length<=200000 ->Q (.ref p) H'
def qtv {W:Tab} {n L:Nat} (h:∀ p∈W,p.1.length<=L) (hn:W.length<=n):(W.flatMap (·.1)).length<=n*L:=by
 have:(W.flatMap (·.1)).length<=W.length*L:=by
  clear hn
  induction W with
  | nil=>simp
  | cons p W ih=>
   rw [List.flatMap_cons,z1n,z2h,Nat.add_mul];have h1:=h p (z1o ..);have h2:=ih λ q hq=>h q (z15 _ hq)
   lia
 exact z40 this (Nat.mul_le_mul_right _ hn)
def qmy (T:Txt K mg):Def P w K mg base 1 "names_of" ["why"] qtu:=by
 refine T.qpr.ok q4k (λ vs H Q E h=> ?_) λ f cdv A outer s H vs Q E hr h=> ?_
 ·obtain ⟨l,W,rfl,_⟩:=h;rfl
 ·obtain ⟨l,W,rfl,⟨xs,hl,hp,hb⟩,k⟩:=h;refine ⟨_,(q4e
   (qo (i:=1) q4k.nd rfl (Or.inl rfl) q5l)
   (q22 PassesOwn.never rfl (q1f K (pv 0)) (qkg rfl (q5j (q13 (i:=2) q4k.nd rfl (Or.inl rfl)) (q5j (q13 (i:=3) q4k.nd rfl (Or.inl rfl)) qfx))) (qg (q22 PassesOwn.never rfl (q75 K (pv 2)) (q13 (i:=4) q4k.nd rfl (Or.inl rfl)) (qg (q74 (q35 hr) (pv 1) (pv 4) q25 rfl)))))
   (qh (qp (qiq rfl K) rfl T.q2q q2e (pa_1 (pv 1))))),?_⟩
  refine λ d hd=> ?_;have s1:=qf (o:=HO.dK []) hd;have xl:=Paired.length hp;have fl:∀ i,((W.take i).flatMap (·.1)).length<=200000:=λ i=>qtv (n:=200) (L:=1000) (λ p hp=>(hb.2 p (z14 hp)).2.1) (z40 (by rw [z2f];lia) hb.1);refine ⟨_,rfl,l,rfl,⟨_,SqL.of (s1 _ _ hl)⟩,q2n (xs:=xs) (λ i σ G=>Same H G/\(∃ v1 v2 v3,σ=[some (.ref l),some (.ref d),v1,v2,v3])/\∃ ws,qlj G d ws (.bl true)/\(∀ x,x∈ws↔x∈(W.take i).flatMap (·.1))/\ws.length<=((W.take i).flatMap (·.1)).length) ⟨s1,⟨_,_,_,rfl⟩,[],⟨[],qb,rfl,z3f,λ _ z=>nomatch z⟩,λ x=>by simp,z4a _⟩ (λ i σ G _ z=>SqL.of (z.1 _ _ hl)) ?_ ?_⟩
  ·rintro i x σ G hx ⟨sg,⟨v1,v2,v3,rfl⟩,ws,hk,hm,J⟩;obtain ⟨kv,a6,a7⟩:=q5d hp hx;obtain ⟨q,b,rfl,hq,a3⟩:=a7.keep (Same.keepT sg);refine ⟨_,_,zr,SqT.of hq,zr,_,_,zr,_,_,zr,zr,?_⟩;have a1:(W.take (i+1)).flatMap (·.1)=(W.take i).flatMap (·.1)++kv.1:=by
    rw [z3g,a6,z1i];simp
   have a5:=fl (i+1);rw [a1,z1n] at a5;refine ⟨_,rfl,b,rfl,⟨_,SqT.of a3⟩,qbp (xs:=kv.1.map V.str) (λ j σ F=>Same H F/\F b=some (.tup (kv.1.map V.str))/\(∃ v3,σ=[some (.ref l),some (.ref d),some (.ref b),some (.int kv.2),v3])/\∃ ws,qlj F d ws (.bl true)/\(∀ x,x∈ws↔x∈(W.take i).flatMap (·.1)\/ x∈kv.1.take j)/\ws.length<=((W.take i).flatMap (·.1)).length+j) ⟨sg,a3,⟨_,rfl⟩,ws,hk,λ x=>by rw [hm x];simp,J⟩ (λ j σ F _ z=>SqT.of z.2.1) ?_ ?_⟩
   ·rintro j y σ F hy ⟨sf,fb,⟨v3,rfl⟩,ws,⟨kvs,O,Z,a2,a4⟩,hm,J⟩;rw [z21] at hy;obtain ⟨z,hz,rfl⟩:=z0p.mp hy;have jl:j < kv.1.length:=(z07.mp hz).1;have kl:kvs.length=ws.length:=by
     have:=congrArg List.length Z;rw [z2z,z2z] at this;exact this
    obtain ⟨a8,g1,g2,g3⟩:=qtt (H:=F) (d:=d) (x:=z) Z a2 a4;refine ⟨_,rfl,_,rfl,d,_,rfl,DPut.k (k:=Sum.inr z) O (by rw [kl];exact z1q (show ws.length < 1000000 by lia) (by decide)),?_⟩;refine ⟨λ c o hc=>by rw [qi (λ e=>by rw [e,hd] at hc;cases hc)];exact sf c o hc,by rw [qi (λ e=>by rw [e,O] at fb;cases fb)];exact fb,⟨_,rfl⟩,a8,g1,λ x=> ?_,by lia⟩;rw [g2,hm,z3g,hz,or_assoc];simp
   ·rintro σ F ⟨sf,fb,⟨v3,rfl⟩,ws,hk,hm,J⟩;rw [z2z,z2s] at hm;rw [z2z] at J;refine ⟨sf,⟨_,_,_,zr⟩,ws,hk,λ x=> ?_,?_⟩
    ·rw [hm,a1,z2t]
    ·rw [a1,z1n];exact J
  ·rintro σ G ⟨sg,⟨v1,v2,v3,rfl⟩,ws,⟨kvs,O,Z,a2,a4⟩,hm,J⟩;rw [xl,z2s] at hm;have fl2:=fl xs.length;refine ⟨_,zr,d,kvs,ws,zr,O,Z,λ p hp=> ?_⟩;refine k p _ _ (sg.trans (qf hp)) (sg.free hp) qb ⟨qi4 q1y (Tim.q2v q1y _) ((Tim.q18 q1b _).nodup_iff.mpr a2),λ x=> ?_⟩ ?_
   ·rw [(Tim.q18 q1b _).mem_iff,hm,List.mem_flatMap]
   ·rw [(Tim.q18 q1b _).length_eq]
    lia
def qnw {z:Str} {m:Int} (h1:1<=z.length) (hm:1<=m):1<=(cutS z none (some m)).length:=by
 obtain ⟨k,rfl⟩:=z0l (show 0<=m by lia);have hk:1<=k:=by lia
 show 1<=(cutS z none (some (k:Int))).cps.size;rw [<- z18];unfold cutS;rw [HT.sIx_nat,HT.sIx_none,z1f,z2f,z2g,q3j]
 lia
def qx6 (K:xA):Sp:=λ vs H Q _=>∃ (a:Addr) (ns:List Int) (k:Int),vs=[.ref a,.int k]/\SqL K H a (ns.map V.int)/\0<=k/\Q (.int (ns.getD k.toNat 0)) H
def q3v (T:Txt K mg):Def P w K mg base 1 "_law_cell_at" ["_law_script","_law_k"] (qx6 K):=by
 refine T.qhd.ok qex (λ vs H Q E h=> ?_) λ f cdv A outer s H vs Q E hr h=> ?_
 ·obtain ⟨a,ns,k,rfl,_⟩:=h;rfl
 ·obtain ⟨a,ns,k,rfl,O,h0,q⟩:=h;refine ⟨_,(q2r
   (q15 (qq qv9 (pv 1) (qp (q2y K) rfl T.b_len q3z (pa_1 (pv 0))) (qt _)) (qg (qh (qy (ql K) (pv 0) (pv 1) (λ _ _=>rfl)))) qx)
   (qh qc)),?_⟩
  refine ⟨_,zr,_,zr,_,_,zr,.inl ⟨_,O,zr⟩,_,_,zr,zr,_,zr,?_⟩;rw [z2z];refine ite2 (λ h1=> ?_) (λ h1=> ?_)
  ·have J:k < ns.length:=by simpa using h1
   have hk:k.toNat < ns.length:=by lia
   refine ⟨_,zr,_,zr,_,_,_,V.int (ns.getD k.toNat 0),zr,zr,O,?_,q⟩;rw [qyp h0 (by rw [z2z];exact J),z21,z0c hk,qnl hk];rfl
  ·have J:¬ k < ns.length:=by simpa using h1
   have e:ns.getD k.toNat 0=0:=by
    exact qwp (by lia)
   rw [e] at q;exact q
def kidV (kvs:List (Key×V)) (w:Str):Option Addr:=match valV kvs (Sum.inr w) with
 | some (.ref b)=>some b
 | _=>none
def q7w (H:Hp) (a:Addr):List (Key×V):=match H a with
 | some (.dK kvs)=>kvs
 | _=>[]
def go (H:Hp):Addr ->List Str ->Option Addr
 | a,[]=>some a
 | a,w::ws=>(kidV (q7w H a) w).bind λ b=>go H b ws
theorem q3a (H:Hp):∀ (x y:xD) (a:Addr),go H a (x++y)=(go H a x).bind λ b=>go H b y
 | [],y,a=>rfl
 | w::x,y,a=>by
  show (kidV (q7w H a) w).bind (λ b=>go H b (x++y))=((kidV (q7w H a) w).bind λ b=>go H b x).bind λ b=>go H b y;cases kidV (q7w H a) w with
  | none=>rfl
  | some b=>exact q3a H x y b
def q1r {H:Hp} {a:Addr} {kvs:List (Key×V)} (e:H a=some (.dK kvs)) (w:Str) (ws:xD):go H a (w::ws)=(kidV kvs w).bind λ b=>go H b ws:=by
 show (kidV (q7w H a) w).bind (λ b=>go H b ws)=_;rw [show q7w H a=kvs by unfold q7w;rw [e]]
structure Nodes (H:Hp) (r:Addr):Prop where
 node:∀ p a,go H r p=some a ->∃ kvs,H a=some (.dK kvs)
 inj:∀ p q a,go H r p=some a ->go H r q=some a ->p=q
def qx7 (kvs:List (Key×V)) (w u:Str) (m:Addr):kidV (putK kvs (Sum.inr w) (.ref m)) u=if u=w then some m else kidV kvs u:=by
 unfold kidV;rw [q3g];by_cases h:u=w
 ·rw [if_pos h,if_pos (by rw [h])]
 ·rw [if_neg h,if_neg (λ z=>h (by injection z))]
def qz7 {H:Hp} {r a m:Addr} {p:xD} {w:Str} {kvs:List (Key×V)} (N:Nodes H r) (ha:go H r p=some a) (hk:H a=some (.dK kvs)) (hn:kidV kvs w=none) (hm:H m=none):
    ∀ (y x:xD) (b:Addr),go H r x=some b ->go (upd (upd H m (.dK [])) a (.dK (putK kvs (Sum.inr w) (.ref m)))) b y=if x++y=p++ [w] then some m else go H b y:=by
  have a2:a≠m:=qu hk hm;have a3:go H r (p++ [w])=none:=by
    rw [q3a,ha];show go H a [w]=none;rw [q1r hk,hn];rfl
  intro y
  induction y with
  | nil=>
    intro x b hb;rw [z30,if_neg (λ z=>by rw [z,a3] at hb;cases hb)];rfl
  | cons u ys ih=>
    intro x b hb;obtain ⟨kb,J⟩:=N.node x b hb;have step:∀ c,kidV kb u=some c ->go H r (x++ [u])=some c:=λ c O=>by
      rw [q3a,hb];show go H b [u]=some c;rw [q1r J,O];rfl
    by_cases e:b=a
    · subst e
      have ex:x=p:=N.inj x p b hb ha;subst ex;rw [hk] at J;cases J
      have e':upd (upd H m (.dK [])) b (.dK (putK kvs (Sum.inr w) (.ref m))) b=some (.dK (putK kvs (Sum.inr w) (.ref m))):=qb;rw [q1r e',qx7,q1r hk];by_cases hu:u=w
      · subst hu
        rw [if_pos rfl,hn];show go _ m ys=_;cases ys with
        | nil=>
          rw [if_pos rfl];rfl
        | cons v vs=>
          have em:upd (upd H m (.dK [])) b (.dK (putK kvs (Sum.inr u) (.ref m))) m=some (.dK []):=by rw [qi a2.symm,qb]
          rw [q1r em,if_neg (λ z=>by
            have:=List.append_cancel_left z;simp at this)]
          rfl
      · rw [if_neg hu]
        cases O:kidV kvs u with
        | none=>
          rw [if_neg (λ z=>by
            have:=List.append_cancel_left z;simp at this
            exact hu this.1)]
          rfl
        | some c=>
          show go _ c ys=if _ then _ else go H c ys
          rw [ih (x++ [u]) c (step c O),z1x];rfl
    · have a1:b≠m:=qu J hm
      have e':upd (upd H m (.dK [])) a (.dK (putK kvs (Sum.inr w) (.ref m))) b=some (.dK kb):=by rw [qi e,qi a1];exact J
      rw [q1r e',q1r J];cases O:kidV kb u with
      | none=>
        rw [if_neg (λ z=> ?_)]
        · rfl
        · have:go H r (x++u::ys)=none:=by
            rw [q3a,hb];show go H b (u::ys)=none;rw [q1r J,O];rfl
          have h2:x=p:=by
            have hl:=congrArg List.length z;rw [z1n,z1n,z2h,z0x] at hl;by_cases hy:ys=[]
            · subst hy
              exact (List.append_inj' z rfl).1
            · exfalso
              have Z:x.length < p.length:=by
                have:0 < ys.length:=List.length_pos_iff.mpr hy
                lia
              have a4:x++ [u] <+:p:=by
                have h3:x++ [u] <+:p++ [w]:=⟨ys,by rw [z1x];exact z⟩;exact List.prefix_of_prefix_length_le h3 (List.prefix_append _ _) (by rw [z1n];exact Z)
              obtain ⟨t,ht⟩:=a4;rw [<- ht,q3a,q3a,hb] at ha;have:go H b [u]=none:=by
                rw [q1r J,O];rfl
              simp [this] at ha
          subst h2;rw [hb] at ha;cases ha
          exact e rfl
      | some c=>
        show go _ c ys=if _ then _ else go H c ys
        rw [ih (x++ [u]) c (step c O),z1x];rfl
def Ks (kvs:List (Key×V)) (us:xD):Prop:=kvs.map (·.1)=us.map Sum.inr/\us.Nodup
def qdf (kvs:List (Key×V)) (k:Key):(valV kvs k).isSome=true↔∃ kv∈kvs,kv.1=k:=by
 unfold valV;rw [Option.isSome_map,List.find?_isSome];simp
def Ks.mem {kvs:List (Key×V)} {us:xD} (h:Ks kvs us) (w:Str):w∈us↔(valV kvs (.inr w)).isSome=true:=by
 rw [qdf]
 constructor
 ·intro hw;have:(Sum.inr w:Key)∈kvs.map (·.1):=by
   rw [h.1];exact z44.mpr ⟨w,hw,zr⟩
  obtain ⟨O,hk,e⟩:=z44.mp this;exact ⟨O,hk,e⟩
 ·rintro ⟨O,hk,e⟩;have:(Sum.inr w:Key)∈us.map Sum.inr:=by
   rw [<- h.1,<- e];exact z44.mpr ⟨O,hk,zr⟩
  obtain ⟨u,hu,J⟩:=z44.mp this;injection J with J;rw [<- J];exact hu
def Ks.put {kvs:List (Key×V)} {us:xD} (h:Ks kvs us) (w:Str) (v:V):∃ O,Ks (putK kvs (.inr w) v) O:=by
 unfold putK;split
 ·refine ⟨us,?_,h.2⟩;rw [z46,<- h.1]
  apply z1e
  intro J _;show (if J.1=Sum.inr w then (J.1,v) else J).1=J.1;split <;> rfl
 ·rename_i z;refine ⟨us++ [w],by rw [z35,z35,h.1];rfl,?_⟩;rw [z2c];refine ⟨h.2,by simp,λ a ha b hb e=>z ?_⟩;have eb:b=w:=by simpa using hb
  rw [e,eb,h.mem,qdf] at ha;obtain ⟨J,hk,ek⟩:=ha;exact z2o.mpr ⟨J,hk,z3b ek⟩
def Ks.len {kvs:List (Key×V)} {us:xD} (h:Ks kvs us):us.length=kvs.length:=by
 have:=congrArg List.length h.1;rw [z2z,z2z] at this;exact this.symm
def Ks.get {kvs:List (Key×V)} {us:xD} (h:Ks kvs us) {i:Nat} {J:Key×V} (e:kvs[i]? =some J):∃ w,us[i]? =some w/\J.1= .inr w:=by
 have:(us.map (Sum.inr:Str ->Key))[i]? =some J.1:=by rw [<- h.1,z21,e];rfl
 rw [z21] at this;obtain ⟨w,hw,e⟩:=z0p.mp this;exact ⟨w,hw,e.symm⟩
structure PathOk (H0 H:Hp) (r:Addr) (S:List Str ->Prop) (n:Nat):Prop where
 nodes:Nodes H r
 dom:∀ p,(∃ a,go H r p=some a)↔S p
 new:∀ p a,go H r p=some a ->H0 a=none
 size:∀ p a kvs,go H r p=some a ->H a=some (.dK kvs) ->kvs.length<=n
 refs:∀ p a kvs w v,go H r p=some a ->H a=some (.dK kvs) ->valV kvs (Sum.inr w)=some v ->∃ b,v= .ref b
 nd:∀ p a kvs,go H r p=some a ->H a=some (.dK kvs) ->∃ us,Ks kvs us
def qro {H:Hp} {r m:Addr} {o:HO} (N:Nodes H r) (hm:H m=none):∀ (y x:xD) (b:Addr),go H r x=some b ->go (upd H m o) b y=go H b y:=by
 intro y
 induction y with
 | nil=>exact λ _ _ _=>rfl
 | cons u ys ih=>
  intro x b hb;obtain ⟨kb,J⟩:=N.node x b hb;have e':upd H m o b=some (.dK kb):=by rw [qi (qu J hm)];exact J
  rw [q1r e',q1r J];cases hc:kidV kb u with
  | none=>rfl
  | some c=>
   refine ih (x++ [u]) c ?_;rw [q3a,hb];show go H b [u]=some c;rw [q1r J,hc];rfl
def PathOk.lay {O H:Hp} {r m:Addr} {S:List Str ->Prop} {n:Nat} {o:HO} (T:PathOk O H r S n) (hm:H m=none):PathOk O (upd H m o) r S n:=by
 have g:∀ x,go (upd H m o) r x=go H r x:=λ x=>qro T.nodes hm x [] r rfl;have old:∀ x b kb,go H r x=some b ->upd H m o b=some (.dK kb) ->H b=some (.dK kb):=λ x b kb hb e=>by
  obtain ⟨Z,J⟩:=T.nodes.node x b hb;rw [qi (qu J hm)] at e;exact e
 refine ⟨⟨λ x b hb=> ?_,λ x y b hx hy=> ?_⟩,λ x=> ?_,λ x b hb=> ?_,λ x b kb hb e=> ?_,λ x b kb w v hb e hv=> ?_,λ x b kb hb e=> ?_⟩
 ·rw [g] at hb;obtain ⟨Z,J⟩:=T.nodes.node x b hb;exact ⟨Z,by rw [qi (qu J hm)];exact J⟩
 ·rw [g] at hx hy;exact T.nodes.inj x y b hx hy
 ·rw [g];exact T.dom x
 ·rw [g] at hb;exact T.new x b hb
 ·rw [g] at hb;exact T.size x b kb hb (old x b kb hb e)
 ·rw [g] at hb;exact T.refs x b kb w v hb (old x b kb hb e) hv
 ·rw [g] at hb;exact T.nd x b kb hb (old x b kb hb e)
def qi6 {H0 H:Hp} {r a m:Addr} {S:List Str ->Prop} {n:Nat} {p:xD} {w:Str} {kvs:List (Key×V)} (T:PathOk H0 H r S n) (s0:Same H0 H) (ha:go H r p=some a) (hk:H a=some (.dK kvs)) (hn:kidV kvs w=none) (hm:H m=none):
  PathOk H0 (upd (upd H m (.dK [])) a (.dK (putK kvs (Sum.inr w) (.ref m)))) r (λ x=>S x\/ x=p++ [w]) (n+1)/\go (upd (upd H m (.dK [])) a (.dK (putK kvs (Sum.inr w) (.ref m)))) r (p++ [w])=some m:=by
 have g:∀ x,go (upd (upd H m (.dK [])) a (.dK (putK kvs (Sum.inr w) (.ref m)))) r x=if x=p++ [w] then some m else go H r x:=λ x=>qz7 T.nodes ha hk hn hm x [] r rfl
 have a2:a≠m:=qu hk hm;have hM:upd (upd H m (.dK [])) a (.dK (putK kvs (Sum.inr w) (.ref m))) m=some (.dK []):=by rw [qi a2.symm,qb]
 generalize hH:upd (upd H m (.dK [])) a (.dK (putK kvs (Sum.inr w) (.ref m)))=H' at*;have old:∀ b kb,H b=some (.dK kb) ->(b=a/\kb=kvs/\H' b=some (.dK (putK kvs (Sum.inr w) (.ref m))))\/ H' b=some (.dK kb):=λ b kb e=>by
  by_cases z:b=a
  ·subst z;rw [hk] at e;cases e
   exact .inl ⟨rfl,rfl,by rw [<- hH,qb]⟩
  ·exact .inr (by rw [<- hH,qi z,qi (qu e hm)];exact e)
 refine ⟨⟨⟨λ x b hb=> ?_,λ x y b hx hy=> ?_⟩,λ x=> ?_,λ x b hb=> ?_,λ x b kb hb e=> ?_,λ x b kb u v hb e Z=> ?_,λ x b kb hb e=> ?_⟩,by rw [g,if_pos rfl]⟩
 ·rw [g] at hb;by_cases z:x=p++ [w]
  ·rw [if_pos z] at hb;cases hb
   exact ⟨_,hM⟩
  ·rw [if_neg z] at hb;obtain ⟨kb,e⟩:=T.nodes.node x b hb;rcases old b kb e with ⟨_,_,q⟩ | q
   ·exact ⟨_,q⟩
   ·exact ⟨_,q⟩
 ·rw [g] at hx hy;by_cases z1:x=p++ [w]
  ·by_cases z2:y=p++ [w]
   ·rw [z1,z2]
   ·rw [if_pos z1] at hx;rw [if_neg z2] at hy;cases hx
    obtain ⟨kb,e⟩:=T.nodes.node y _ hy;rw [hm] at e;cases e
  ·by_cases z2:y=p++ [w]
   ·rw [if_neg z1] at hx;rw [if_pos z2] at hy;cases hy
    obtain ⟨kb,e⟩:=T.nodes.node x _ hx;rw [hm] at e;cases e
   ·rw [if_neg z1] at hx;rw [if_neg z2] at hy;exact T.nodes.inj x y b hx hy
 ·rw [g];by_cases z:x=p++ [w]
  ·rw [if_pos z];exact ⟨λ _=> .inr z,λ _=>⟨m,zr⟩⟩
  ·rw [if_neg z,T.dom x];exact ⟨.inl,λ q=>q.elim id λ q=>absurd q z⟩
 ·rw [g] at hb;by_cases z:x=p++ [w]
  ·rw [if_pos z] at hb;cases hb
   exact s0.free hm
  ·rw [if_neg z] at hb;exact T.new x b hb
 ·rw [g] at hb;by_cases z:x=p++ [w]
  ·rw [if_pos z] at hb;cases hb
   rw [hM] at e;cases e
   exact z4a _
  ·rw [if_neg z] at hb;obtain ⟨O,J⟩:=T.nodes.node x b hb;have hs:=T.size x b O hb J;rcases old b O J with ⟨_,rfl,q⟩ | q
   ·rw [q] at e;cases e
    have:=q3p O (Sum.inr w) (V.ref m)
    lia
   ·rw [q] at e;cases e
    lia
 ·rw [g] at hb;by_cases z:x=p++ [w]
  ·rw [if_pos z] at hb;cases hb
   rw [hM] at e;cases e
   cases Z
  ·rw [if_neg z] at hb;obtain ⟨O,J⟩:=T.nodes.node x b hb;rcases old b O J with ⟨_,rfl,q⟩ | q
   ·rw [q] at e;cases e
    rw [q3g] at Z;by_cases hu:(Sum.inr u:Key)=Sum.inr w
    ·rw [if_pos hu] at Z;cases Z
     exact ⟨m,zr⟩
    ·rw [if_neg hu] at Z;exact T.refs x b _ u v hb J Z
   ·rw [q] at e;cases e
    exact T.refs x b _ u v hb J Z
 ·rw [g] at hb;by_cases z:x=p++ [w]
  ·rw [if_pos z] at hb;cases hb
   rw [hM] at e;cases e
   exact ⟨[],zr,z3f⟩
  ·rw [if_neg z] at hb;obtain ⟨O,J⟩:=T.nodes.node x b hb;obtain ⟨us,a1⟩:=T.nd x b O hb J;rcases old b O J with ⟨_,rfl,q⟩ | q
   ·rw [q] at e;cases e
    exact a1.put w (.ref m)
   ·rw [q] at e;cases e
    exact ⟨us,a1⟩
def endW:Str:=""
def q16 {n:Nat} (h:n < 1000000):n < sizeLine:=z1q h (by decide)
def qz8:Sp:=λ vs H Q _=>∃ (H0:Hp) (r t:Addr) (ws:xD) (S:List Str ->Prop) (n:Nat),vs=[.ref r,.ref t]/\H0 t=some (.tup (ws.map V.str))/\Same H0 H/\PathOk H0 H r S n/\n+ws.length<=900000/\¬ S (ws++ [endW])/\
 ∀ H' S',Same H0 H' ->PathOk H0 H' r S' (n+ws.length+1) ->(∀ x,S' x↔S x\/ x <+:ws++ [endW]) ->Q .non H'
def qmz (T:Txt K mg):Def P w K mg base 1 "put_into" ["tree","words"] qz8:=by
  refine T.qps.ok q66 (λ vs H Q E h=> ?_) λ f cdv A outer s H vs Q E hr h=> ?_
  · obtain ⟨H0,r,t,ws,S,n,rfl,_⟩:=h
    rfl
  · obtain ⟨H0,r,t,ws,S,n,rfl,ht,s0,T0,hn,hS,q⟩:=h
    refine ⟨_,(q4e
      (qo (i:=2) q66.nd rfl (Or.inl rfl) (pv 0))
      (q22 PassesOwn.never rfl (q75 K (pv 1)) (q13 (i:=3) q66.nd rfl (Or.inl rfl)) (qg (qo (i:=2) q66.nd rfl (Or.inl rfl) (ql4 (pv 2) (pv 3) q5l ⟨rfl,rfl,rfl,rfl⟩))))
      (q74 (q35 hr) (pv 2) (qjx rfl T.c_END) q5l rfl)),?_⟩
    refine ⟨_,zr,?_⟩;refine ⟨_,rfl,t,rfl,⟨_,SqT.of (s0 _ _ ht)⟩,qbp (xs:=ws.map V.str) (λ i σ H'=>∃ (c:Addr) (v:Option V) (S':List Str ->Prop),σ=[some (.ref r),some (.ref t),some (.ref c),v]/\Same H0 H'/\PathOk H0 H' r S' (n+i)/\(∀ x,S' x↔S x\/ x <+:ws.take i)/\go H' r (ws.take i)=some c)
      ⟨r,none,S,rfl,s0,T0,λ x=>⟨.inl,λ z=>z.elim id λ z=> ?_⟩,rfl⟩ (λ i σ H' _ z=>by obtain ⟨_,_,_,_,z,_⟩:=z;exact SqT.of (z _ _ ht)) ?_ ?_⟩
    · have:x=[]:=by simpa using z
      rw [this];exact (T0.dom []).mp ⟨r,zr⟩
    · rintro i x σ H1 hx ⟨c,v,S',rfl,s1,O,J,hc⟩
      rw [z21] at hx;obtain ⟨u,hu,rfl⟩:=z0p.mp hx;have il:i < ws.length:=(z07.mp hu).1;obtain ⟨kvs,Z⟩:=O.nodes.node _ c hc;have et:ws.take (i+1)=ws.take i++ [u]:=by
        rw [z3g,hu];rfl
      have a1:∀ x,x <+:ws.take (i+1)↔x <+:ws.take i\/ x=ws.take i++ [u]:=λ x=>by
        rw [et,List.prefix_concat_iff];exact or_comm
      refine ⟨_,zr,c,zr,.inl ⟨kvs,.inl Z⟩,_,zr,λ m hm=> ?_⟩;have sz:=O.size _ c kvs hc Z;have a2:c≠m:=qu Z hm;refine ⟨kvs,Sum.inr u,by rw [qi a2];exact Z,rfl,q16 (by lia),λ v hv=> ?_,λ hv=> ?_⟩
      · obtain ⟨b,rfl⟩:=O.refs _ c kvs u v hc Z hv
        have hg:go (upd H1 m (.dK [])) r (ws.take (i+1))=some b:=by
          rw [qro O.nodes hm _ [] r rfl,et,q3a,hc];show go H1 c [u]=some b;rw [q1r Z];unfold kidV;rw [hv];rfl
        have T2:=O.lay (o:=HO.dK []) hm;refine ⟨b,_,S',zr,s1.trans (qf hm),⟨T2.nodes,T2.dom,T2.new,λ p a k h1 h2=>Nat.le_succ_of_le (T2.size p a k h1 h2),T2.refs,T2.nd⟩,λ x=> ?_,hg⟩;have a3:S' (ws.take (i+1)):=(T2.dom _).mp ⟨b,hg⟩;rw [J x,a1]
        constructor
        · rintro (z | z)
          · exact .inl z
          · exact .inr (.inl z)
        · rintro (z | z | z)
          · exact .inl z
          · exact .inr z
          · rw [z,<- et]
            exact (J _).mp a3
      · have hk:kidV kvs u=none:=by
          unfold kidV;rw [hv]
        obtain ⟨T2,hg⟩:=qi6 O s1 hc Z hk hm;refine ⟨m,_,_,rfl,?_,T2,λ x=> ?_,by rw [et];exact hg⟩
        · exact (s1.trans (qf hm)).set (O.new _ c hc)
        · show S' x\/ x=ws.take i++ [u]↔_
          rw [J x,a1,or_assoc]
    · rintro σ H1 ⟨c,v,S',rfl,s1,O,J,hc⟩
      rw [z2z] at O;rw [z2z,z2s] at hc;rw [z2z,z2s] at J;obtain ⟨kvs,Z⟩:=O.nodes.node _ c hc;have sz:=O.size _ c kvs hc Z;intro m hm;have a2:c≠m:=qu Z hm;have hk:kidV kvs endW=none:=by
        cases e:kidV kvs endW with
        | none=>rfl
        | some b=>
          have:S' (ws++ [endW]):=(O.dom _).mp ⟨b,by
            rw [q3a,hc];show go H1 c [endW]=some b;rw [q1r Z,e];rfl⟩
          rcases (J _).mp this with z | z
          · exact absurd z hS
          · have:=z.length_le
            rw [z1n,z0x] at this
            lia
      obtain ⟨T2,hg⟩:=qi6 O s1 hc Z hk hm;refine ⟨_,rfl,c,_,rfl,DPut.k (k:=Sum.inr endW) (by rw [qi a2];exact Z) (q16 (by lia)),?_⟩;refine q _ _ ((s1.trans (qf hm)).set (O.new _ c hc)) T2 λ x=> ?_;show S' x\/ x=ws++ [endW]↔_;rw [J x,List.prefix_concat_iff,or_assoc,or_comm (a:=x=ws++ [endW])]
def kidR (kvs:List (Key×V)) (w:Str):V:=(valV kvs (.inr w)).getD .non
def qx8:Sp:=λ vs H Q _=>∃ (a m:Addr) (kvs mvs:List (Key×V)) (us ms:xD),vs=[.ref a,.ref m]/\a≠m/\H a=some (.dK kvs)/\H m=some (.dK mvs)/\Ks kvs us/\Ks mvs ms/\us.length<=900000/\ms.length<=900000/\
 ∀ p (ws:xD) H',Same H H' ->H p=none ->H' p=some (.lst (ws.map (kidR kvs))) ->ws.Nodup ->(∀ w,w∈ws↔w∈us/\w∈ms) ->Q (.ref p) H'
def qgj {kvs:List (Key×V)} {w:Str} (h:(valV kvs (.inr w)).isSome=true):valV kvs (.inr w)=some (kidR kvs w):=by
 unfold kidR;cases e:valV kvs (.inr w) with
 | none=>rw [e] at h;cases h
 | some v=>rfl
def qgk (T:Txt K mg):Def P w K mg base 1 "kids_within" ["node","members"] qx8:=by
 refine T.qjs.ok qg7 (λ vs H Q E h=> ?_) λ f cdv A outer s H vs Q E hr h=> ?_
 ·obtain ⟨a,m,kvs,a2,us,ms,rfl,_⟩:=h;rfl
 ·obtain ⟨a,m,kvs,a2,us,ms,rfl,a3,ha,hm,k1,k2,l1,l2,k⟩:=h;have e1:=k1.len;have e2:=k2.len;refine ⟨_,(q2r
   (q15 (qq qv9 (qp qhs rfl T.b_len q3z (pa_1 (pv 0))) (qp qhs rfl T.b_len q3z (pa_1 (pv 1))) (qt _)) (qg (qh (qnr (q29 (N:=["word","node","members"]) (caps:=[none,some 0,some 1]) rfl (by with_unfolding_all rfl) (ql3 (pv 0)) (λ _ _ _ _ _=>(q13 (i:=0) (show (["word","node","members"]:xD).Nodup by decide+kernel) rfl (Or.inl rfl))) (λ _ _ _ _ _=>qek (qea (qks (q35 hr) (pv 0) (pv 2)))) (λ _ _ _ _ _=>(q73 (q35 hr) (pv 1) (pv 0) (λ _ _=>rfl))))))) qx)
   (qh (qnr (q29 (N:=["word","node"]) (caps:=[none,some 0]) rfl (by with_unfolding_all rfl) (ql3 (pv 1)) (λ _ _ _ _ _=>(q13 (i:=0) (show (["word","node"]:xD).Nodup by decide+kernel) rfl (Or.inl rfl))) (λ _ _ _ _ _=>qek (qea (qks (q35 hr) (pv 0) (pv 1)))) (λ _ _ _ _ _=>(q73 (q35 hr) (pv 1) (pv 0) (λ _ _=>rfl))))))),?_⟩
  refine ⟨_,zr,a,kvs,zr,ha,_,zr,m,a2,zr,hm,_,_,zr,zr,_,zr,ite2 (λ _=> ?_) (λ _=> ?_)⟩
  ·refine ⟨_,zr,a,kvs,zr,.inl ⟨ha,λ o D hD=> ?_⟩⟩;have O:D≠a:=λ z=>by rw [z,qb] at hD;cases hD
   have Z:H D=none:=by rw [qi O] at hD;exact hD
   refine q1w kvs.length (λ i σ' H'=>(∃ v,σ'=[v,some (.ref a),some (.ref m)])/\(∀ b u,b≠a ->H b=some u ->H' b=some u)/\H' a=some (.frz o (.dK kvs))/\H' D=some (.lst (((us.take i).filter λ w=>decide (w∈ms)).map (kidR kvs)))) ⟨⟨_,rfl⟩,(λ b u hb e=>by rw [qi (qu e Z),qi hb];exact e),by rw [qi O.symm,qb],qb⟩ (λ i σ' H' hi p=>⟨p.2.2.1,hi⟩) (λ σ' H' p=>⟨⟨p.2.2.1,z47 _⟩,?_⟩) (λ i σ' H' hi p x H2 y=> ?_)
   ·obtain ⟨_,sm,ea,eD⟩:=p;refine .inr ⟨a,o,kvs,ea,(λ o u z=>by have z':H a=some (.frz o u):=z;rw [ha] at z';cases z'),?_⟩;rw [<- e1,z2s] at eD;refine k D _ _ (λ b u e=> ?_) Z (by rw [qi O];exact eD) (k1.2.filter _) λ w=>by rw [z2w];simp
    by_cases z:b=a
    ·subst z;rw [ha] at e;cases e
     exact qb
    ·rw [qi z];exact sm b u z e
   ·obtain ⟨⟨v,rfl⟩,sm,ea,eD⟩:=p;obtain ⟨rfl,kv,hk,rfl⟩:=y;obtain ⟨w,hw,ew⟩:=k1.get hk;rw [ew];have J:(us.take (i+1)).filter (λ w=>decide (w∈ms))=(us.take i).filter (λ w=>decide (w∈ms))++(if w∈ms then [w] else []):=by
     rw [z3g,hw,z1t]
     congr 1
     by_cases z:w∈ms
     ·rw [if_pos z];simp [z]
     ·rw [if_neg z];simp [z]
    refine ⟨_,zr,_,zr,m,_,zr,DGet.k (k:=Sum.inr w) (sm m _ a3.symm hm),_,zr,ite2 (λ h1=> ?_) (λ h1=> ?_)⟩
    ·have a1:w∈ms:=(k2.mem w).mpr h1;have hu:w∈us:=z17 hw;refine ⟨_,zr,_,zr,a,kidR kvs w,zr,.inl ⟨kvs,.inr w,.inr ⟨o,ea⟩,zr,(qgj ((k1.mem w).mp hu)).symm⟩,?_⟩;refine ⟨_,eD,?_,⟨_,rfl⟩,(λ b u hb e=>by rw [qi (qu e Z)];exact sm b u hb e),by rw [qi O.symm];exact ea,?_⟩
     ·rw [z2z];exact q16 (by have:=z0z (λ w=>decide (w∈ms)) (us.take i);rw [z2f] at this;lia)
     ·rw [qb,J,if_pos a1,z35];rfl
    ·have a1:w∉ms:=λ z=>h1 ((k2.mem w).mp z);exact ⟨⟨_,rfl⟩,sm,ea,by rw [J,if_neg a1,z30];exact eD⟩
  ·refine ⟨_,zr,m,a2,zr,.inl ⟨hm,λ o D hD=> ?_⟩⟩;have O:D≠m:=λ z=>by rw [z,qb] at hD;cases hD
   have Z:H D=none:=by rw [qi O] at hD;exact hD
   refine q1w a2.length (λ i σ' H'=>(∃ v,σ'=[v,some (.ref a)])/\(∀ b u,b≠m ->H b=some u ->H' b=some u)/\H' m=some (.frz o (.dK a2))/\H' D=some (.lst (((ms.take i).filter λ w=>decide (w∈us)).map (kidR kvs)))) ⟨⟨_,rfl⟩,(λ b u hb e=>by rw [qi (qu e Z),qi hb];exact e),by rw [qi O.symm,qb],qb⟩ (λ i σ' H' hi p=>⟨p.2.2.1,hi⟩) (λ σ' H' p=>⟨⟨p.2.2.1,z47 _⟩,?_⟩) (λ i σ' H' hi p x H2 y=> ?_)
   ·obtain ⟨_,sm,ea,eD⟩:=p;refine .inr ⟨m,o,a2,ea,(λ o u z=>by have z':H m=some (.frz o u):=z;rw [hm] at z';cases z'),?_⟩;rw [<- e2,z2s] at eD;refine k D _ _ (λ b u e=> ?_) Z (by rw [qi O];exact eD) (k2.2.filter _) λ w=>by rw [z2w,and_comm];simp
    by_cases z:b=m
    ·subst z;rw [hm] at e;cases e
     exact qb
    ·rw [qi z];exact sm b u z e
   ·obtain ⟨⟨v,rfl⟩,sm,ea,eD⟩:=p;obtain ⟨rfl,kv,hk,rfl⟩:=y;obtain ⟨w,hw,ew⟩:=k2.get hk;rw [ew];have J:(ms.take (i+1)).filter (λ w=>decide (w∈us))=(ms.take i).filter (λ w=>decide (w∈us))++(if w∈us then [w] else []):=by
     rw [z3g,hw,z1t]
     congr 1
     by_cases z:w∈us
     ·rw [if_pos z];simp [z]
     ·rw [if_neg z];simp [z]
    refine ⟨_,zr,_,zr,a,_,zr,DGet.k (k:=Sum.inr w) (sm a _ a3 ha),_,zr,ite2 (λ h1=> ?_) (λ h1=> ?_)⟩
    ·have a1:w∈us:=(k1.mem w).mpr h1;refine ⟨_,zr,_,zr,a,kidR kvs w,zr,?_,?_⟩
     ·rw [<- qgj h1];exact DGet.k (sm a _ a3 ha)
     refine ⟨_,eD,?_,⟨_,rfl⟩,(λ b u hb e=>by rw [qi (qu e Z)];exact sm b u hb e),by rw [qi O.symm];exact ea,?_⟩
     ·rw [z2z];exact q16 (by have:=z0z (λ w=>decide (w∈us)) (ms.take i);rw [z2f] at this;lia)
     ·rw [qb,J,if_pos a1,z35];rfl
    ·have a1:w∉us:=λ z=>h1 ((k1.mem w).mp z);exact ⟨⟨_,rfl⟩,sm,ea,by rw [J,if_neg a1,z30];exact eD⟩
def mu (acc:xF) (p:xD):Nat:=1+(acc.map λ q=>if p <+:q++ [endW] then q.length+2 - p.length else 0).sum
theorem qll {α:Type} (f g:α ->Nat):∀ l:List α,(l.map λ x=>f x+g x).sum=(l.map f).sum+(l.map g).sum
 | []=>rfl
 | x::l=>by
  rw [z3k,z3k,z3k,z3r,z3r,z3r,qll f g l]
  lia
theorem qb8 {α:Type} {f:α ->Nat}:∀ {l:List α},(∀ x∈l,f x=0) ->(l.map f).sum=0
 | [],_=>rfl
 | x::l,h=>by
  rw [z3k,z3r,h x (z1o ..),qb8 λ y hy=>h y (z15 _ hy)]
theorem qgl {α:Type} {f g:α ->Nat}:∀ {l:List α},(∀ x∈l,f x<=g x) ->(l.map f).sum<=(l.map g).sum
 | [],_=>z47 _
 | x::l,h=>by
  rw [z3k,z3k,z3r,z3r];exact Nat.add_le_add (h x (z1o ..)) (qgl λ y hy=>h y (z15 _ hy))
theorem qgm {α:Type} {f:α ->Nat}:∀ {l:List α},(∀ x∈l,1<=f x) ->l.length<=(l.map f).sum
 | [],_=>z47 _
 | x::l,h=>by
  rw [z3k,z3r,z2h];have:=h x (z1o ..);have:=qgm λ y hy=>h y (z15 _ hy)
  lia
def qx9 {p q:xD} {w v:Str} (h1:p++ [w] <+:q) (h2:p++ [v] <+:q):w=v:=by
 obtain ⟨s,rfl⟩:=h1;obtain ⟨t,e⟩:=h2;rw [z1x,z1x] at e;have:=List.append_cancel_left e;simp at this
 exact this.1.symm
theorem qnx (p q:xD) (c:Nat):∀ {ws:xD},ws.Nodup ->(ws.map λ w=>if p++ [w] <+:q then c else 0).sum<=if p <+:q then c else 0
 | [],_=>z4a _
 | w::ws,nd=>by
  rw [z3k,z3r];have J:=z31.mp nd;by_cases h:p++ [w] <+:q
  ·have hp:p <+:q:=(List.prefix_append p [w]).trans h;rw [if_pos h,if_pos hp,qb8 λ v hv=>if_neg λ z=>J.1 (by rw [qx9 h z];exact hv)]
   lia
  ·rw [if_neg h,z3w];exact qnx p q c J.2
theorem qlm (p:xD) {ws:xD} (nd:ws.Nodup):∀ acc:List (List Str),(ws.map λ w=>(acc.map λ q=>if p++ [w] <+:q++ [endW] then q.length+2 - p.length else 0).sum).sum<=(acc.map λ q=>if p <+:q++ [endW] then q.length+2 - p.length else 0).sum
 | []=>Nat.le_of_eq (qb8 λ _ _=>rfl)
 | q::acc=>by
  have e:(ws.map λ w=>((q::acc).map λ q=>if p++ [w] <+:q++ [endW] then q.length+2 - p.length else 0).sum)=ws.map λ w=>(if p++ [w] <+:q++ [endW] then q.length+2 - p.length else 0)+(acc.map λ q=>if p++ [w] <+:q++ [endW] then q.length+2 - p.length else 0).sum:=by
   apply z1e
   intro w _;rw [z3k,z3r]
  rw [e,qll,z3k,z3r];exact Nat.add_le_add (qnx p (q++ [endW]) _ nd) (qlm p nd acc)
theorem qrp {p:xD} {w:Str}:∀ {acc:xF},(∃ q∈acc,p++ [w] <+:q++ [endW]) ->mu acc (p++ [w])<=(acc.map λ q=>if p++ [w] <+:q++ [endW] then q.length+2 - p.length else 0).sum
 | [],h=>by
  obtain ⟨_,h,_⟩:=h;cases h
 | q::acc,h=>by
  unfold mu;rw [z3k,z3r,z3k,z3r];have all:(acc.map λ q=>if p++ [w] <+:q++ [endW] then q.length+2 - (p++ [w]).length else 0).sum<=(acc.map λ q=>if p++ [w] <+:q++ [endW] then q.length+2 - p.length else 0).sum:=qgl λ q _=>by
   split
   ·rw [z1n]
    lia
   ·exact z47 _
  by_cases hq:p++ [w] <+:q++ [endW]
  ·rw [if_pos hq,if_pos hq];have hl:=hq.length_le;rw [z1n,z1n,z0x,z0x] at hl;have e1:(p++ [w]).length=p.length+1:=by rw [z1n];rfl
   lia
  ·rw [if_neg hq,if_neg hq];have:∃ q∈acc,p++ [w] <+:q++ [endW]:=by
    obtain ⟨q',h1,h2⟩:=h;rcases z3m.mp h1 with rfl | h1
    ·exact absurd h2 hq
    ·exact ⟨q',h1,h2⟩
   have:=qrp this;unfold mu at this
   lia
def qxa {acc:xF} {p ws:xD} (nd:ws.Nodup) (h:∀ w∈ws,∃ q∈acc,p++ [w] <+:q++ [endW]):((ws.map λ w=>p++ [w]).map (mu acc)).sum < mu acc p:=by
 rw [z46];have h1:(ws.map (mu acc∘λ w=>p++ [w])).sum<=(ws.map λ w=>(acc.map λ q=>if p++ [w] <+:q++ [endW] then q.length+2 - p.length else 0).sum).sum:=qgl λ w hw=>qrp (h w hw);have h2:=qlm p nd acc;show _ < 1+_
 lia
def qn0 {α β:Type} {F:α ->β ->Prop} {xs:List α} {ps:List β} (h:Paired F xs ps):xs≠ [] ->∃ ys y J p,xs=ys++ [y]/\ps=J++ [p]/\Paired F ys J/\F y p:=by
 induction h with
 | nil=>exact λ z=>absurd rfl z
 | @cons a b as bs h1 h2 ih=>
  intro _;cases as with
  | nil=>
   cases h2
   exact ⟨[],a,[],b,zr,zr,.nil,h1⟩
  | cons c cs=>
   obtain ⟨ys,y,J,p,e1,e2,h3,h4⟩:=ih (by simp);exact ⟨a::ys,y,b::J,p,by rw [e1];rfl,by rw [e2];rfl,.cons h1 h3,h4⟩
theorem qi7 {α β γ:Type} {F:α ->β ->Prop} {f:γ ->α} {g:γ ->β}:∀ {l:List γ},(∀ x∈l,F (f x) (g x)) ->Paired F (l.map f) (l.map g)
 | [],_=> .nil
 | x::l,h=> .cons (h x (z1o ..)) (qi7 λ y hy=>h y (z15 _ hy))
structure Paths (acc:xF) (S:List Str ->Prop):Prop where
 dom:∀ p,S p↔p=[]\/ ∃ q∈acc,p <+:q++ [endW]
 ne:∀ q∈acc,endW∉q
def qny {p q:xD} (h:p++ [endW] <+:q++ [endW]) (hq:endW∉q):p=q:=by
 rcases List.prefix_concat_iff.mp h with e | h
 ·exact List.append_cancel_right e
 ·exact absurd (h.subset (by simp)) hq
theorem qi8 (w:Str):∀ (ws:xD) (m:List (Key×V)),(valV (q3u (ws.map λ w=>(w,V.bl true)) m) (.inr w)).isSome=true↔w∈ws\/ (valV m (.inr w)).isSome=true
 | [],m=>by simp [q3u]
 | x::ws,m=>by
  show (valV (q3u (ws.map λ w=>(w,V.bl true)) (putK m (.inr x) (.bl true))) (.inr w)).isSome=true↔_;rw [qi8 w ws,q3g];by_cases e:w=x
  ·subst e;rw [if_pos rfl];simp
  ·rw [if_neg (λ z=>e (by injection z)),z3m];simp [e]
theorem qln:∀ (ws:xD) (m:List (Key×V)) {us:xD},Ks m us ->∃ J,Ks (q3u (ws.map λ w=>(w,V.bl true)) m) J
 | [],m,us,h=>⟨us,h⟩
 | x::ws,m,us,h=>by
  obtain ⟨J,h'⟩:=h.put x (.bl true);exact qln ws _ h'
def qz9:Sp:=λ vs H Q _=>∃ (H0:Hp) (r t:Addr) (ws:xD) (acc:xF) (S:List Str ->Prop) (n:Nat),vs=[.ref r,.ref t]/\H t=some (.tup (ws.map V.str))/\PathOk H0 H r S n/\n<=900000/\ws.length<=1000/\Paths acc S/\mu acc []<=900000/\
 ∀ H',Same H H' ->Q (.bl (decide (∃ q∈acc,∀ w∈q,w∈ws))) H'
def qc7 (T:Txt K mg):Def P w K mg base 2 "has_one_within" ["tree","words"] qz9:=by
  refine T.qdx.ok q36 (λ vs H Q E h=> ?_) λ f cdv A outer s H vs Q E hr h=> ?_
  · obtain ⟨H0,r,t,ws,acc,S,n,rfl,_⟩:=h
    rfl
  · obtain ⟨H0,r,t,ws,acc,S,n,rfl,ht,T0,hn,hl,hP,d2,k⟩:=h
    refine ⟨_,(q9c
      (qo (i:=2) q36.nd rfl (Or.inl rfl) (q2a (qp3 rfl K) rfl T.qft qbw (pa_1 (q29 (N:=["word"]) (caps:=[none]) rfl (by with_unfolding_all rfl) (q75 K (pv 1)) (λ _ _ _ _ _=>(q13 (i:=0) (show (["word"]:xD).Nodup by decide+kernel) rfl (Or.inl rfl))) (λ _ _ _ _ _=>q2o) (λ _ _ _ _ _=>(q54 (pa_2 (pv 0) q25)))))))
      (qo (i:=3) q36.nd rfl (Or.inl rfl) (q1e (pa_1 (pv 0))))
      (qst PassesOwn.never (qq qol (qp (q2y K) rfl T.b_len q3z (pa_1 (pv 3))) qc (qt _)) (q4e
      (qo (i:=4) q36.nd rfl (Or.inl rfl) (qye z0k PySem.F.slot_list_pop PySem.F.type_list_pop qyf (pv 3)))
      (q15 (qea (qks (q35 hr) (qjx rfl T.c_END) (pv 4))) (qg (qh q25)) qx)
      (q2b (q64 z0k z0d z0e q88 (pv 3) (pa_1 (q12 (qgk T) hr rfl (pa_2 (pv 4) (pv 2))))))))
      (qh q25)),?_⟩
    refine ⟨_,zr,t,zr,⟨_,SqT.of ht⟩,λ D hD=> ?_⟩;refine q1w (ws.map V.str).length (λ i σ' H'=>(∃ v,σ'=[v])/\Same H H'/\∃ ys,H' D=some (.lst ys)/\ys.length=i/\∀ H2,KeepT H' H2 ->Paired (qp2 K H2) ys ((ws.take i).map λ w=>(w,V.bl true))) ⟨⟨_,zr⟩,qf hD,[],qb,zr,λ _ _=> .nil⟩ (λ i σ' H' hi p=> ?_) (λ σ' H' p=>⟨?_,?_⟩) (λ i σ' H' hi p x H2 y=> ?_)
    · obtain ⟨_,sm,_⟩:=p
      exact ⟨_,(ws.map V.str)[i],SqT.of (sm _ _ ht),z0c hi⟩
    · obtain ⟨_,sm,_⟩:=p
      exact ⟨_,SqT.of (sm _ _ ht),z47 _⟩
    · obtain ⟨_,s1,ys,ey,ly,hy⟩:=p
      have c1:=hy H' λ _ _ e=>e;rw [z2z,z2s] at c1;refine ⟨D,ys,_,zr,SqL.of ey,c1,λ m hm=> ?_⟩;have s2:=s1.trans (qf (o:=HO.dK (q3u (ws.map λ w=>(w,V.bl true)) [])) hm);have em:=qb (H:=H') (a:=m) (o:=HO.dK (q3u (ws.map λ w=>(w,V.bl true)) []));obtain ⟨ms,b7⟩:=qln ws [] (us:=[]) ⟨rfl,z3f⟩;have c7:∀ w,w∈ms↔w∈ws:=λ w=>by
        rw [b7.mem,qi8];simp [valV]
      have lms:ms.length<=1000:=by
        rw [b7.len];have:=qat (ws.map λ w=>(w,V.bl true)) [];rw [z2z] at this;simp at this
        lia
      have c9:H m=none:=s1.free hm;generalize upd H' m (.dK (q3u (ws.map λ w=>(w,V.bl true)) []))=G at*;generalize q3u (ws.map λ w=>(w,V.bl true)) []=d7 at*;refine ⟨_,rfl,by show 1<=sizeLine;decide,λ q hq=> ?_⟩;have hqH:H q=none:=s2.free hq;refine ⟨λ mm σ H'=>∃ (v:Option V) (xs:List V) (ps:xF),σ=[some (.ref r),some (.ref t),some (.ref m),some (.ref q),v]/\Same G H'/\H' q=some (.lst xs)/\Paired (λ x p=>∃ b,x=V.ref b/\go H r p=some b) xs ps/\(∀ p∈ps,∀ w∈p,w∈ws)/\(∀ u∈acc,(∀ w∈u,w∈ws) ->∃ p∈ps,p <+:u)/\mm=(ps.map (mu acc)).sum/\mm<=900000,
        ⟨mu acc [],none,[.ref r],[[]],rfl,qf hq,qb,.cons ⟨r,rfl,rfl⟩ .nil,(λ p hp w hw=>by rw [z1l.mp hp] at hw;cases hw),(λ u _ _=>⟨[],by simp,List.nil_prefix⟩),by simp,d2⟩,?_⟩
      rintro mm σ G1 ⟨v,xs,ps,rfl,s3,eq,b6,b5,b3,d0,d8⟩;have lxs:xs.length<=900000:=by
        have h1:=Paired.length b6;have h2:=qgm (f:=mu acc) (l:=ps) λ p _=>by unfold mu;lia
        lia
      refine ⟨_,zr,_,_,zr,.inl ⟨_,SqL.of eq,zr⟩,_,_,zr,zr,_,zr,ite2 (λ h1=> ?_) (λ h1=> ?_)⟩
      · have d3:xs≠ []:=λ z=>by
          rw [z] at h1;exact absurd h1 (by decide)
        obtain ⟨a6,y,qs,p,rfl,rfl,d6,b,rfl,hb⟩:=qn0 b6 d3;refine ⟨λ σ' G'=>∃ m',m' < mm/\∃ (v:Option V) (xs:List V) (ps:xF),σ'=[some (.ref r),some (.ref t),some (.ref m),some (.ref q),v]/\Same G G'/\G' q=some (.lst xs)/\Paired (λ x p=>∃ b,x=V.ref b/\go H r p=some b) xs ps/\(∀ p∈ps,∀ w∈p,w∈ws)/\(∀ u∈acc,(∀ w∈u,w∈ws) ->∃ p∈ps,p <+:u)/\m'=(ps.map (mu acc)).sum/\m'<=900000,λ _ _ z=>z,?_⟩;obtain ⟨kvs,Z⟩:=T0.nodes.node p b hb;obtain ⟨us,a9⟩:=T0.nd p b kvs hb Z;have sz:=T0.size p b kvs hb Z;refine ⟨_,zr,.inl ⟨zr,_,SqL.of eq⟩,_,_,.ref b,zr,zr,eq,by simp,?_⟩;rw [List.dropLast_concat];have s4:Same G (upd G1 q (.lst a6)):=s3.set hq;have e4:=qb (H:=G1) (a:=q) (o:=HO.lst a6);generalize upd G1 q (.lst a6)=G2 at*;have b2:=s4 _ _ (s2 _ _ Z);have c5:∀ w,(valV kvs (.inr w)).isSome=true ->∃ c,kidR kvs w= .ref c/\go H r (p++ [w])=some c:=λ w hw=>by
          have hv:=qgj hw;obtain ⟨c,ec⟩:=T0.refs p b kvs w _ hb Z hv;refine ⟨c,ec,?_⟩;rw [q3a,hb];show go H b [w]=some c;rw [q1r Z];unfold kidV;rw [hv,ec];rfl
        have b4:∀ w,(valV kvs (.inr w)).isSome=true ->∃ u∈acc,p++ [w] <+:u++ [endW]:=λ w hw=>by
          obtain ⟨c,_,hc⟩:=c5 w hw;rcases (hP.dom _).mp ((T0.dom _).mp ⟨c,hc⟩) with z | z
          · simp at z
          · exact z
        refine ⟨_,zr,b,_,zr,DGet.k (k:=Sum.inr endW) b2,_,zr,ite2 (λ h2=> ?_) (λ h2=> ?_)⟩
        · obtain ⟨u,hu,a1⟩:=b4 endW h2
          have c8:=qny a1 (hP.ne u hu);have kk:=k G2 (s2.trans s4);rw [z3b ⟨u,hu,by rw [<- c8];exact b5 p (by simp)⟩] at kk;exact kk
        · refine ⟨_,rfl,.inl ⟨rfl,_,SqL.of e4⟩,_,rfl,_,rfl,b,m,kvs,d7,us,ms,rfl,qu Z c9,b2,s4 _ _ em,a9,b7,by rw [a9.len];lia,by lia,λ c a2 G3 s5 hc ec nd a4=> ?_⟩
          have c4:∀ w∈a2,(valV kvs (.inr w)).isSome=true:=λ w hw=>(a9.mem w).mp ((a4 w).mp hw).1;have hlt:=qxa (acc:=acc) (p:=p) nd λ w hw=>b4 w (c4 w hw);have d1:((qs++a2.map λ w=>p++ [w]).map (mu acc)).sum < mm:=by
            rw [d0,z35,z35,List.sum_append,List.sum_append];simp only [z3k,z43,z3r,List.sum_nil]
            lia
          have a5:Paired (λ x p=>∃ b,x=V.ref b/\go H r p=some b) (a6++a2.map (kidR kvs)) (qs++a2.map λ w=>p++ [w]):=q28 d6 (qi7 λ w hw=>c5 w (c4 w hw));have c6:(a6++a2.map (kidR kvs)).length<=900000:=by
            have h1:=Paired.length a5;have h2:=qgm (f:=mu acc) (l:=qs++a2.map λ w=>p++ [w]) λ p _=>by unfold mu;lia
            lia
          rw [z1n] at c6;refine ⟨q,c,_,_,zr,zr,s5 _ _ e4,ec,z3x (q16 (by lia)),?_⟩;refine ⟨_,d1,_,_,_,zr,(s4.trans s5).set hq,qb,a5,λ p' J w hw=> ?_,λ u hu a8=> ?_,zr,by lia⟩
          · rcases z2t.mp J with J | J
            · exact b5 p' (z2t.mpr (.inl J)) w hw
            · obtain ⟨w',d5,rfl⟩:=z44.mp J
              rcases z2t.mp hw with hw | hw
              · exact b5 p (by simp) w hw
              · rw [z1l.mp hw]
                exact (c7 w').mp ((a4 w').mp d5).2
          · obtain ⟨p',J,a1⟩:=b3 u hu a8
            rcases z2t.mp J with J | J
            · exact ⟨p',z2t.mpr (.inl J),a1⟩
            · rw [z1l.mp J] at a1
              obtain ⟨tl,a7⟩:=a1;cases tl with
              | nil=>
                rw [z30] at a7;refine absurd ?_ h2;obtain ⟨c',a3⟩:=(T0.dom (p++ [endW])).mpr ((hP.dom _).mpr (.inr ⟨u,hu,by rw [a7];exact List.prefix_refl _⟩));rw [q3a,hb] at a3;have O:go H b [endW]=some c':=a3;rw [q1r Z] at O;cases e:valV kvs (.inr endW) with
                | none=>
                  unfold kidV at O;rw [e] at O;cases O
                | some _=>rfl
              | cons w' tl=>
                have b9:p++ [w'] <+:u:=⟨tl,by rw [<- a7];simp⟩;refine ⟨p++ [w'],z2t.mpr (.inr (z44.mpr ⟨w',(a4 w').mpr ⟨?_,(c7 w').mpr (a8 w' (by rw [<- a7];simp))⟩,rfl⟩)),b9⟩;obtain ⟨c',a3⟩:=(T0.dom (p++ [w'])).mpr ((hP.dom _).mpr (.inr ⟨u,hu,b9.trans (List.prefix_append _ _)⟩));rw [q3a,hb] at a3;have O:go H b [w']=some c':=a3;rw [q1r Z] at O;rw [a9.mem];cases e:valV kvs (.inr w') with
                | none=>
                  unfold kidV at O;rw [e] at O;cases O
                | some _=>rfl
      · have b8:xs=[]:=by
          cases xs with
          | nil=>rfl
          | cons x xs=>exact absurd (by simp) h1
        subst b8;cases b6
        have kk:=k G1 (s2.trans s3);rw [z2v (by
          rintro ⟨u,hu,a8⟩;obtain ⟨p,hp,_⟩:=b3 u hu a8;cases hp)] at kk
        exact kk
    · obtain ⟨⟨v,rfl⟩,sm,ys,ey,ly,hy⟩:=p
      obtain ⟨rfl,hx⟩:=y;have c0:=hx _ (SqT.of (sm _ _ ht));rw [z21] at c0;obtain ⟨z,hz,rfl⟩:=z0p.mp c0;refine ⟨_,rfl,by show 2<=sizeLine;decide,λ p hp=> ?_⟩;have s2:=qf (o:=HO.tup [.str z,.bl true]) hp;have d4:p≠D:=(qu ey hp).symm;refine ⟨_,s2 _ _ ey,by rw [ly];exact q16 (by rw [z2z] at hi;lia),⟨_,rfl⟩,(sm.trans s2).set hD,ys++ [.ref p],qb,by rw [z1n,ly];rfl,λ G hG=> ?_⟩;rw [z3g,hz,z35];refine q28 (hy G λ b zs e=>hG b zs ?_) (.cons ⟨p,zr,SqT.of (hG p _ (by rw [qi d4,qb]))⟩ .nil);rw [qi (λ z=>by rw [z,ey] at e;cases e)];exact s2 _ _ e
def qrq:bootBuiltins "set"=some (.type "set"):=by decide+kernel
def encB (U:xF):List (List Key×V):=U.map λ u=>(u.map Sum.inr,V.bl true)
def addU (U:xF) (u:xD):List (List Str):=if u∈U then U else U++ [u]
def qtw (U:xF) (u:xD):putK (encB U) (u.map Sum.inr) (V.bl true)=encB (addU U u):=by
 have any:((encB U).any λ J=>decide (J.1=u.map Sum.inr))=decide (u∈U):=by
  rw [z2y,z2o,decide_eq_true_iff]
  constructor
  ·rintro ⟨J,hk,e⟩;obtain ⟨v,hv,rfl⟩:=z44.mp hk;have:=qby.mp (of_decide_eq_true e);rw [<- this];exact hv
  ·intro h;exact ⟨_,z44.mpr ⟨u,h,zr⟩,z3b rfl⟩
 unfold putK addU;rw [any];by_cases h:u∈U
 ·rw [if_pos (z3b h),if_pos h];unfold encB;rw [z46]
  apply z1e
  intro v _;show (if v.map (Sum.inr:Str ->Key)=u.map Sum.inr then (v.map Sum.inr,V.bl true) else (v.map Sum.inr,V.bl true))=_;split <;> rfl
 ·rw [if_neg (by simpa using h),if_neg h];unfold encB;rw [z35];rfl
def qtx {U:xF} {u v:xD}:v∈addU U u↔v∈U\/ v=u:=by
 unfold addU;by_cases h:u∈U
 ·rw [if_pos h];exact ⟨.inl,λ z=>z.elim id λ z=>by rw [z];exact h⟩
 ·rw [if_neg h,z2t,z1l]
def qxb {U:xF} {u:xD} (h:U.Nodup):(addU U u).Nodup:=by
 unfold addU;by_cases J:u∈U
 ·rw [if_pos J];exact h
 ·rw [if_neg J,z2c];exact ⟨h,by simp,λ a ha b hb e=>J (by rw [<- z1l.mp hb,<- e];exact ha)⟩
def qty {U:xF} {u:xD}:(addU U u).length<=U.length+1:=by
 unfold addU;split
 ·lia
 ·rw [z1n];exact z47 _
def szF (U:xF) (n:Int):List (List Str):=U.filter λ u=>decide ((u.length:Int)=n)
structure Mid (H0 H:Hp) (kvs:List (Key×V)) (ns:List Int) (U:xF):Prop where
 keys:kvs.map (·.1)=ns.map Sum.inl
 nd:ns.Nodup
 has:∀ n∈ns,∃ c xs,valV kvs (.inl n)=some (.ref c)/\H c=some (.lst xs)/\q1z H xs (szF U n)/\H0 c=none
 inj:∀ n m c,valV kvs (.inl n)=some (.ref c) ->valV kvs (.inl m)=some (.ref c) ->n=m
 all:∀ u∈U,(u.length:Int)∈ns
def qbz {kvs:List (Key×V)} {ns:List Int} (h:kvs.map (·.1)=ns.map Sum.inl) (n:Int):n∈ns↔(valV kvs (.inl n)).isSome=true:=by
 rw [qdf]
 constructor
 ·intro hn;have:(Sum.inl n:Key)∈kvs.map (·.1):=by
   rw [h];exact z44.mpr ⟨n,hn,zr⟩
  obtain ⟨O,hk,e⟩:=z44.mp this;exact ⟨O,hk,e⟩
 ·rintro ⟨O,hk,e⟩;have:(Sum.inl n:Key)∈ns.map Sum.inl:=by
   rw [<- h,<- e];exact z44.mpr ⟨O,hk,zr⟩
  obtain ⟨m,hm,J⟩:=z44.mp this;injection J with J;rw [<- J];exact hm
theorem q1s {H H':Hp} (k:KeepT H H'):∀ {zs:List V} {ps:xF},q1z H zs ps ->q1z H' zs ps
 | _,_,.nil=> .nil
 | _,_,.cons ⟨b,e,hb⟩ h=> .cons ⟨b,e,k _ _ hb⟩ (q1s k h)
def Mid.same {J H H':Hp} {kvs:List (Key×V)} {ns:List Int} {U:xF} (M:Mid J H kvs ns U) (s:Same H H'):Mid J H' kvs ns U:=
 ⟨M.keys,M.nd,λ n hn=>by
  obtain ⟨c,xs,h1,h2,h3,h4⟩:=M.has n hn;exact ⟨c,xs,h1,s _ _ h2,q1s (λ b ys e=>s b _ e) h3,h4⟩,M.inj,M.all⟩
def qxc (U:xF) (u:xD) (n:Int):szF (U++ [u]) n=szF U n++(if (u.length:Int)=n then [u] else []):=by
 unfold szF;rw [z1t]
 congr 1
 by_cases h:(u.length:Int)=n
 ·rw [if_pos h];simp [h]
 ·rw [if_neg h];simp [h]
def Mid.more {H0 H:Hp} {kvs:List (Key×V)} {ns:List Int} {U:xF} {u:xD} {c b:Addr} {xs:List V} (M:Mid H0 H kvs ns U) (O:valV kvs (.inl (u.length:Int))=some (.ref c)) (hx:H c=some (.lst xs)) (hb:H b=some (.tup (u.map V.str))):
  Mid H0 (upd H c (.lst (xs++ [.ref b]))) kvs ns (U++ [u]):=by
 have Z:KeepT H (upd H c (.lst (xs++ [.ref b]))):=KeepT.upd (λ _ _ e=>e) hx;have hn:(u.length:Int)∈ns:=(qbz M.keys _).mpr (by rw [O];rfl);refine ⟨M.keys,M.nd,λ n hn=> ?_,M.inj,λ v J=> ?_⟩
 ·obtain ⟨c',a1,h1,h2,h3,h4⟩:=M.has n hn;rw [qxc];by_cases e:(u.length:Int)=n
  ·subst e;rw [O] at h1;cases h1
   rw [hx] at h2;cases h2
   refine ⟨c,_,O,qb,?_,h4⟩;rw [if_pos rfl];exact q28 (q1s Z h3) (.cons ⟨b,zr,Z _ _ hb⟩ .nil)
  ·have ne:c'≠c:=λ z=>e (M.inj _ _ c O (by rw [<- z];exact h1));refine ⟨c',a1,h1,by rw [qi ne];exact h2,?_,h4⟩;rw [if_neg e,z30];exact q1s Z h3
 ·rcases z2t.mp J with J | J
  ·exact M.all v J
  ·rw [z1l.mp J];exact hn
def Mid.new {O H:Hp} {kvs:List (Key×V)} {ns:List Int} {U:xF} {n:Int} {e:Addr} (M:Mid O H kvs ns U) (hn:valV kvs (.inl n)=none) (he:H e=some (.lst [])) (h0:O e=none) (J:∀ m c,valV kvs (.inl m)=some (.ref c) ->c≠e):
  Mid O H (putK kvs (.inl n) (.ref e)) (ns++ [n]) U:=by
 have nn:n∉ns:=λ z=>by
  have:=(qbz M.keys n).mp z;rw [hn] at this;cases this
 refine ⟨?_,?_,λ m hm=> ?_,λ m m' c h1 h2=> ?_,λ v Z=>z2t.mpr (.inl (M.all v Z))⟩
 ·rw [qt1 _ hn,z35,z35,M.keys];rfl
 ·rw [z2c];exact ⟨M.nd,by simp,λ a ha b hb e=>nn (by rw [<- z1l.mp hb,<- e];exact ha)⟩
 ·rw [q3g];rcases z2t.mp hm with hm | hm
  ·obtain ⟨c,xs,h1,h2⟩:=M.has m hm;refine ⟨c,xs,?_,h2⟩;rw [if_neg (λ z=>nn (by injection z with z;rw [<- z];exact hm))];exact h1
  ·rw [z1l.mp hm];refine ⟨e,[],if_pos rfl,he,?_,h0⟩;have:szF U n=[]:=by
    unfold szF;rw [List.filter_eq_nil_iff];intro v Z z;have:=M.all v Z;rw [of_decide_eq_true z] at this;exact nn this
   rw [this];exact .nil
 ·rw [q3g] at h1 h2;by_cases e1:(Sum.inl m:Key)=Sum.inl n
  ·by_cases e2:(Sum.inl m':Key)=Sum.inl n
   ·injection e1 with e1;injection e2 with e2;rw [e1,e2]
   ·rw [if_pos e1] at h1;rw [if_neg e2] at h2;cases h1
    exact absurd rfl (J _ _ h2)
  ·by_cases e2:(Sum.inl m':Key)=Sum.inl n
   ·rw [if_neg e1] at h1;rw [if_pos e2] at h2;cases h2
    exact absurd rfl (J _ _ h1)
   ·rw [if_neg e1] at h1;rw [if_neg e2] at h2;exact M.inj _ _ c h1 h2
def qf0 (K:xA) (H:Hp) (xs:List V) (ss:xF):Prop:=Paired (λ x s=>∃ b,x=V.ref b/\(SqL K H b (s.map V.str)\/ SqT K H b (s.map V.str))) xs ss
theorem qi9 {K:xA} {H:Hp}:∀ {xs:List V} {J:xF} {i:Nat} {x:V},qf0 K H xs J ->xs[i]? =some x ->∃ s b,J[i]? =some s/\x=V.ref b/\(SqL K H b (s.map V.str)\/ SqT K H b (s.map V.str))
 | _,_,i,x,.nil,h=>by simp at h
 | _,_,0,x,.cons ⟨b,e,hb⟩ _,h=>by
  simp at h
  subst h;exact ⟨_,b,zr,e,hb⟩
 | _,_,i+1,x,.cons _ r,h=>by
  obtain ⟨s,b,e,q⟩:=qi9 (i:=i) (x:=x) r (by simpa using h);exact ⟨s,b,by simpa using e,q⟩
def qxd (K:xA):Sp:=λ vs H Q _=>∃ (l:Addr) (xs:List V) (ss:xF),vs=[.ref l]/\SqL K H l xs/\qf0 K H xs ss/\ss.length<=20000/\(∀ s∈ss,s.length<=4000)/\
 ∀ d kvs ns (U:xF) H',Same H H' ->H d=none ->H' d=some (.dK kvs) ->Mid H H' kvs ns U ->(∀ u,u∈U↔∃ s∈ss,u=uniq s) ->U.Nodup ->U.length<=ss.length ->Q (.ref d) H'
def qf1 (T:Txt K mg):Def P w K mg base 1 "once_by_size" ["sets"] (qxd K):=by
 refine T.qhe.ok q2z (λ vs H Q E h=> ?_) λ f cdv A outer s H vs Q E hr h=> ?_
 ·obtain ⟨l,xs,ss,rfl,_⟩:=h;rfl
 ·obtain ⟨l,xs,ss,rfl,hl,hx,h1,h2,k⟩:=h;have lx:xs.length=ss.length:=Paired.length hx;refine ⟨_,(qox
   (qo (i:=1) q2z.nd rfl (Or.inl rfl) qkt)
   (q22 PassesOwn.never rfl (q1f K (pv 0)) (q13 (i:=2) q2z.nd rfl (Or.inl rfl)) (qg (q74 (q35 hr) (pv 1) (q2a (q8g K) rfl T.qc3 q9b (pa_1 (qp (qay rfl P w) rfl T.q2q q2e (pa_1 (q2a (qi1 rfl P w K) rfl T.b_set qrq (pa_1 (pv 2))))))) q25 rfl)))
   (qo (i:=3) q2z.nd rfl (Or.inl rfl) q5l)
   (q22 PassesOwn.never rfl (qth (pv 1)) (q13 (i:=2) q2z.nd rfl (Or.inl rfl)) (qg (q2b (q64 z0k z0f z0g q3y (ql4 (pv 3) (qp (q2y K) rfl T.b_len q3z (pa_1 (pv 2))) (q1e q26) ⟨rfl,rfl,rfl,rfl⟩) (pa_1 (pv 2))))))
   (qh (pv 3))),?_⟩
  intro o ho;have t0:=qf (o:=HO.dT []) ho;refine ⟨_,rfl,l,rfl,⟨_,t0.seq hl⟩,q2n (xs:=xs) (λ i σ H'=>∃ (v:Option V) (U:xF),σ=[some (.ref l),some (.ref o),v,none]/\Same H H'/\H' o=some (.dT (encB U))/\U.Nodup/\U.length<=i/\∀ u,u∈U↔∃ s∈ss.take i,u=uniq s)
   ⟨none,[],rfl,t0,qb,z3f,z47 _,λ u=>by simp⟩ (λ i σ H' _ z=>by obtain ⟨_,_,_,z,_⟩:=z;exact z.seq hl) ?_ ?_⟩
  ·rintro i x σ H1 a7 ⟨v,U,rfl,s1,e1,nd,lu,hU⟩;obtain ⟨st,b,hs,rfl,hb⟩:=qi9 hx a7;have il:i < xs.length:=(z07.mp a7).1;have a9:SqL K H1 b (st.map V.str)\/ SqT K H1 b (st.map V.str):=hb.elim (λ z=> .inl (s1.seq z)) (λ z=> .inr (s1.seqT z));refine ⟨_,zr,_,zr,b,st,zr,a9,h2 st (z17 hs),λ e ys he b7 b6=> ?_⟩;have s2:=qf (o:=SetH P w e ys) he;refine ⟨e,ys,zr,qb,λ g hg=> ?_⟩;rw [qlb b7 b6];have s3:=qf (o:=HO.lst ((uniq st).map V.str)) hg;refine ⟨_,_,zr,.inl ⟨SqL.of qb,λ t ht=> ?_⟩⟩;have J:=qf (o:=HO.tup ((uniq st).map V.str)) ht;refine ⟨o,_,rfl,DPut.t (k:=(uniq st).map Sum.inr) (J _ _ (s3 _ _ (s2 _ _ e1))) (by rw [q8s];exact qb) (by unfold encB;rw [z2z];exact q16 (by lia)),?_⟩;rw [qtw];refine ⟨_,addU U (uniq st),zr,(s1.trans (s2.trans (s3.trans J))).set ho,qb,qxb nd,z40 qty (by lia),λ u=> ?_⟩;rw [qtx,hU,z3g,hs]
   constructor
   ·rintro (⟨s,h1,h2⟩ | h)
    ·exact ⟨s,z2t.mpr (.inl h1),h2⟩
    ·exact ⟨st,z2t.mpr (.inr (by simp)),h⟩
   ·rintro ⟨s,h1,h2⟩;rcases z2t.mp h1 with h1 | h1
    ·exact .inl ⟨s,h1,h2⟩
    ·have:s=st:=by simpa using h1
     rw [this] at h2;exact .inr h2
  ·rintro σ H1 ⟨v,U,rfl,s1,e1,nd,lu,hU⟩;rw [lx,z2s] at hU;intro d hd;have a3:H d=none:=s1.free hd;have s2:=qf (o:=HO.dK []) hd;have eo:=s2 _ _ e1;have a4:d≠o:=(qu e1 hd).symm;refine ⟨_,rfl,o,_,rfl,.inl ⟨eo,λ ob=>qre (λ i σ H'=>∃ (v:Option V) (kvs:List (Key×V)) (ns:List Int),σ=[some (.ref l),some (.ref o),v,some (.ref d)]/\Same H H'/\H' o=some (.frz ob (.dT (encB U)))/\H' d=some (.dK kvs)/\kvs.length<=i/\Mid H H' kvs ns (U.take i))
    ⟨v,[],[],rfl,(s1.trans s2).set ho,qb,by rw [qi a4,qb],z47 _,⟨rfl,z3f,(λ _ z=>nomatch z),(λ n m c h _=>nomatch h),λ u hu=>by simp at hu⟩⟩ (λ i σ H' _ z=>by obtain ⟨_,_,_,_,_,z,_⟩:=z;exact z) ?_ ?_⟩⟩
   ·rintro i kv b σ H2 hk hb ⟨v,kvs,ns,rfl,s3,e3,ed,lk,M⟩;have il:i < (encB U).length:=(z07.mp hk).1;have iu:i < U.length:=by unfold encB at il;rw [z2z] at il;exact il
    obtain ⟨u,hu,rfl⟩:∃ u,U[i]? =some u/\kv=(u.map Sum.inr,V.bl true):=by
     unfold encB at hk;rw [z21] at hk;obtain ⟨u,h1,h2⟩:=z0p.mp hk;exact ⟨u,h1,h2.symm⟩
    have Z:H2 b=some (.tup (u.map V.str)):=by rw [hb,q8s]
    have et:U.take (i+1)=U.take i++ [u]:=by rw [z3g,hu];rfl
    refine ⟨_,rfl,d,rfl,.inl ⟨kvs,.inl ed⟩,_,rfl,_,_,rfl,.inr ⟨_,SqT.of Z,rfl⟩,by show 0<=sizeLine;decide,λ e he=> ?_⟩;rw [z2z];have J:=qf (o:=HO.lst []) he;have a5:H e=none:=s3.free he;have M1:=M.same J;have szs:U.length<=20000:=by lia
    have a8:∀ n,(szF (U.take i) n).length<=20000:=λ n=>by
     have:=z0z (λ u:List Str=>decide ((u.length:Int)=n)) (U.take i);rw [z2f] at this;unfold szF
     lia
    refine ⟨kvs,.inl (u.length:Int),J _ _ ed,zr,q16 (by lia),λ v hv=> ?_,λ hv=> ?_⟩
    ·obtain ⟨c,zs,g1,O,g3,g4⟩:=M1.has _ ((qbz M1.keys _).mpr (by rw [hv];rfl));rw [hv] at g1;cases g1
     have lz:=Paired.length g3;refine ⟨.inl ⟨rfl,_,SqL.of O⟩,_,rfl,c,_,_,rfl,rfl,O,q16 (by have:=a8 (u.length:Int);lia),?_⟩;have b3:c≠o:=λ z=>by rw [z,J _ _ e3] at O;cases O
     have a2:c≠d:=λ z=>by rw [z,J _ _ ed] at O;cases O
     rw [et];exact ⟨_,kvs,ns,rfl,(s3.trans J).set g4,by rw [qi b3.symm];exact J _ _ e3,by rw [qi a2.symm];exact J _ _ ed,by lia,M1.more hv O (J _ _ Z)⟩
    ·have a6:e≠d:=(qu ed he).symm;have b4:e≠o:=(qu e3 he).symm;have M2:=M1.new hv qb a5 λ m c hm z=>by
      obtain ⟨c',xs',q1,q2,_⟩:=M.has m ((qbz M.keys m).mpr (by rw [hm];rfl));rw [hm] at q1;cases q1
      rw [z] at q2;rw [q2] at he;cases he
     have M3:Mid H (upd (upd H2 e (.lst [])) d (.dK (putK kvs (.inl (u.length:Int)) (.ref e)))) (putK kvs (.inl (u.length:Int)) (.ref e)) (ns++ [(u.length:Int)]) (U.take i):=by
      refine ⟨M2.keys,M2.nd,λ n hn=> ?_,M2.inj,M2.all⟩;obtain ⟨c,zs,g1,O,g3,g4⟩:=M2.has n hn;have a2:c≠d:=λ z=>by rw [z,J _ _ ed] at O;cases O
      refine ⟨c,zs,g1,by rw [qi a2];exact O,q1s (λ b' ys a1=> ?_) g3,g4⟩;rw [qi (λ z=>by rw [z,J _ _ ed] at a1;cases a1)];exact a1
     have ee:upd (upd H2 e (.lst [])) d (.dK (putK kvs (.inl (u.length:Int)) (.ref e))) e=some (.lst []):=by rw [qi a6,qb]
     have b5:valV (putK kvs (.inl (u.length:Int)) (.ref e)) (.inl (u.length:Int))=some (.ref e):=by rw [q3g,if_pos rfl]
     have b2:upd (upd H2 e (.lst [])) d (.dK (putK kvs (.inl (u.length:Int)) (.ref e))) b=some (.tup (u.map V.str)):=by
      rw [qi (λ z=>by rw [z,ed] at Z;cases Z)];exact J _ _ Z
     refine ⟨.inl ⟨rfl,_,SqL.of ee⟩,_,rfl,e,_,_,rfl,rfl,ee,by show 0 < sizeLine;decide,?_⟩;have s5:Same H (upd (upd H2 e (.lst [])) d (.dK (putK kvs (.inl (u.length:Int)) (.ref e)))):=(s3.trans J).set a3;rw [et];refine ⟨_,_,_,zr,s5.set a5,?_,?_,z40 (q3p _ _ _) (by lia),M3.more b5 ee b2⟩
     ·rw [qi b4.symm,qi a4.symm];exact J _ _ e3
     ·rw [qi a6.symm,qb]
   ·rintro σ H2 ⟨v,kvs,ns,rfl,s3,e3,ed,lk,M⟩;have lU:(encB U).length=U.length:=by unfold encB;rw [z2z]
    rw [lU,z2s] at M;refine ⟨_,zr,k d kvs ns U H2 s3 a3 ed M hU nd (by lia)⟩
def Up (F:xF) (x:xD):Prop:=∃ f∈F,∀ w∈f,w∈x
def Norm (r:xD):Prop:=r.Pairwise λ a b=>q1b a b=true
structure Acc (R:xF):Prop where
 srt:R.Pairwise λ a b=>q1c a b=true
 norm:∀ r∈R,Norm r
 anti:∀ r∈R,∀ q∈R,(∀ w∈r,w∈q) ->r=q
def q6a {α:Type} {lt:α ->α ->Bool} (h:Tim.STO lt) {l:List α} (a:l.Pairwise λ a b=>lt b a=false) (n:l.Nodup):l.Pairwise λ a b=>lt a b=true:=
 (List.Pairwise.and a n).imp λ {x y} z=>by
  cases e:lt x y with
  | true=>rfl
  | false=>exact absurd (h.tri x y e z.1) z.2
def qf2 {α:Type} {lt:α ->α ->Bool} (h:Tim.STO lt) {l:List α} (a:l.Pairwise λ a b=>lt a b=true):l.Pairwise λ a b=>lt b a=false:=
 a.imp λ {x y} z=>by
  cases e:lt y x with
  | false=>rfl
  | true=>
   have:=h.tr x y x z e;rw [h.irr] at this;cases this
def q47 {α:Type} {lt:α ->α ->Bool} (h:Tim.STO lt) {l:List α} (a:l.Pairwise λ a b=>lt a b=true):l.Nodup:=
 a.imp λ {x y} z e=>by
  rw [e,h.irr] at z;cases z
def qia {α:Type} [DecidableEq α] {lt:α ->α ->Bool} (h:Tim.STO lt) {l k:List α} (a:l.Pairwise λ a b=>lt a b=true) (b:k.Pairwise λ a b=>lt a b=true) (m:∀ x,x∈l↔x∈k):l=k:=
 h.uniq ((List.perm_ext_iff_of_nodup (q47 h a) (q47 h b)).mpr m) (qf2 h a) (qf2 h b)
def qgn {r q:xD} (hr:Norm r) (hq:Norm q) (h1:∀ w∈r,w∈q) (h2:∀ w∈q,w∈r):r=q:=qia q1y hr hq λ x=>⟨h1 x,h2 x⟩
def q4y (s:xD):Norm (uniq s):=q6a q1y (Tim.q2v q1y _) ((Tim.q18 q1b _).nodup_iff.mpr (q9j _ _ (z47 _)))
theorem q6b {α:Type} [DecidableEq α]:∀ {u v:List α},u.Nodup ->(∀ w∈u,w∈v) ->u.length<=v.length
 | [],_,_,_=>z4a _
 | x::u,v,nd,h=>by
  have J:=z31.mp nd;have hx:=h x (z1o ..);have:=q6b (u:=u) (v:=v.erase x) J.2 λ w hw=>(List.mem_erase_of_ne (λ e=>J.1 (by rw [<- e];exact hw))).mpr (h w (z15 _ hw));rw [List.length_erase_of_mem hx] at this;have:=List.length_pos_of_mem hx;rw [z2h]
  lia
def qtz (s:xD):(uniq s).length<=s.length:=q6b (q47 q1y (q4y s)) λ w hw=>(q34 s w).mp hw
def qlo {r q:xD} (hr:Norm r) (hq:Norm q) (h1:∀ w∈r,w∈q) (hl:q.length<=r.length):r=q:=by
 refine qgn hr hq h1 λ w hw=> ?_;have nr:=q47 q1y hr
 apply Classical.byContradiction
 intro hn;have:=q6b (u:=w::r) (v:=q) (z31.mpr ⟨hn,nr⟩) λ x hx=>by
  rcases z3m.mp hx with rfl | hx
  ·exact hw
  ·exact h1 x hx
 rw [z2h] at this
 lia
def qza {R Q:xF} (hR:Acc R) (J:Acc Q) (h:∀ x,Up R x↔Up Q x):R=Q:=by
 have one:∀ {A B:xF},Acc A ->Acc B ->(∀ x,Up A x↔Up B x) ->∀ r∈A,r∈B:=λ {A B} Z hB h r hr=>by
  obtain ⟨q,hq,h1⟩:=(h r).mp ⟨r,hr,λ _ z=>z⟩;obtain ⟨r',O,h2⟩:=(h q).mpr ⟨q,hq,λ _ z=>z⟩;have e:=Z.anti r' O r hr λ w hw=>h1 w (h2 w hw);subst e;rw [qgn (Z.norm _ hr) (hB.norm _ hq) h2 h1];exact hq
 exact qia q2p hR.srt J.srt λ x=>⟨one hR J h x,one J hR (λ y=>(h y).symm) x⟩
structure ThI (U:xF) (szs:List Int) (i:Nat) (acc:xF):Prop where
 sub:∀ u∈acc,u∈U/\(u.length:Int)∈szs.take i
 cov:∀ u∈U,(u.length:Int)∈szs.take i ->∃ q∈acc,∀ w∈q,w∈u
 anti:∀ u∈acc,∀ q∈acc,(∀ w∈u,w∈q) ->u=q
 nd:acc.Nodup
def lst (U acc:xF) (n:Int):List (List Str):=(szF U n).filter λ u=> !decide (∃ q∈acc,∀ w∈q,w∈u)
def q5z {U acc:xF} {n:Int} {u:xD}:u∈lst U acc n↔u∈U/\(u.length:Int)=n/\¬ ∃ q∈acc,∀ w∈q,w∈u:=by
 unfold lst szF;rw [z2w,z2w];simp [and_assoc]
def ThI.step {U:xF} {O:List Int} {i:Nat} {acc:xF} {n:Int} (T:ThI U O i acc) (hs:O.Pairwise λ a b=>q1j a b=true) (hi:O[i]? =some n) (nU:U.Nodup) (Z:∀ u∈U,Norm u):ThI U O (i+1) (acc++lst U acc n):=by
 have et:O.take (i+1)=O.take i++ [n]:=by rw [z3g,hi];rfl
 have less:∀ m∈O.take i,m < n:=λ m hm=>by
  obtain ⟨j,hj,e⟩:=z1h hm;rw [z2f] at hj;obtain ⟨a1,en⟩:=z07.mp hi;have:=(z08.mp hs) j i (by lia) a1 (by lia);rw [z1y] at e;rw [en,e] at this;exact of_decide_eq_true this
 refine ⟨λ u J=> ?_,λ u J hl=> ?_,λ u J q hq h=> ?_,?_⟩
 ·rw [et];rcases z2t.mp J with J | J
  ·exact ⟨(T.sub u J).1,z2t.mpr (.inl (T.sub u J).2)⟩
  ·obtain ⟨h1,h2,_⟩:=q5z.mp J;exact ⟨h1,z2t.mpr (.inr (by rw [h2];simp))⟩
 ·rw [et] at hl;rcases z2t.mp hl with hl | hl
  ·obtain ⟨q,h1,h2⟩:=T.cov u J hl;exact ⟨q,z2t.mpr (.inl h1),h2⟩
  ·have e:(u.length:Int)=n:=by simpa using hl
   by_cases z:∃ q∈acc,∀ w∈q,w∈u
   ·obtain ⟨q,h1,h2⟩:=z;exact ⟨q,z2t.mpr (.inl h1),h2⟩
   ·exact ⟨u,z2t.mpr (.inr (q5z.mpr ⟨J,e,z⟩)),λ _ z=>z⟩
 ·rcases z2t.mp J with J | J
  ·rcases z2t.mp hq with hq | hq
   ·exact T.anti u J q hq h
   ·exact absurd ⟨u,J,h⟩ (q5z.mp hq).2.2
  ·obtain ⟨u1,u2,_⟩:=q5z.mp J;rcases z2t.mp hq with hq | hq
   ·have l1:=less _ (T.sub q hq).2;have:=q6b (q47 q1y (Z u u1)) h
    lia
   ·obtain ⟨q1,q2,_⟩:=q5z.mp hq;exact qlo (Z u u1) (Z q q1) h (by lia)
 ·rw [z2c];refine ⟨T.nd,(nU.filter _).filter _,λ a ha b hb e=> ?_⟩;subst e;exact (q5z.mp hb).2.2 ⟨a,ha,λ _ z=>z⟩
def qzb {acc:xF} {B:Nat} (h:∀ q∈acc,q.length<=B):mu acc []<=1+acc.length*(B+2):=by
 unfold mu;have:∀ acc:List (List Str),(∀ q∈acc,q.length<=B) ->(acc.map λ q=>if [] <+:q++ [endW] then q.length+2 - ([]:xD).length else 0).sum<=acc.length*(B+2):=λ acc=>by
  induction acc with
  | nil=>exact λ _=>z4a _
  | cons q acc ih=>
   intro h;have h1:=h q (z1o ..);have h2:=ih λ x hx=>h x (z15 _ hx);rw [z3k,z3r,if_pos List.nil_prefix,z2h,Nat.succ_mul];have e0:([]:xD).length=0:=rfl
   lia
 have:=this acc h
 lia
open Classical in
noncomputable def restT (H : Hp) (r : Addr) : Hp := fun b => if ∃ p, go H r p = some b then none else H b
def qrr (H:Hp) (r:Addr):Same (restT H r) H:=λ b o e=>by
 unfold restT at e;split at e
 ·cases e
 ·exact e
def qrs {H:Hp} {r b:Addr} {p:xD} (h:go H r p=some b):restT H r b=none:=by
 unfold restT;exact if_pos ⟨p,h⟩
def PathOk.other {H0 H:Hp} {r b:Addr} {S:List Str ->Prop} {n:Nat} {o:HO} (T:PathOk H0 H r S n) (h:H b=some o) (hn:∀ kvs,o≠ .dK kvs):restT H r b=some o:=by
 unfold restT;rw [if_neg]
 ·exact h
 ·rintro ⟨p,hp⟩;obtain ⟨kvs,e⟩:=T.nodes.node p b hp;rw [h] at e;exact hn kvs (Option.some.inj e)
def PathOk.bas {H0 H:Hp} {r:Addr} {S:List Str ->Prop} {n:Nat} (T:PathOk H0 H r S n):PathOk (restT H r) H r S n:=⟨T.nodes,T.dom,λ _ _ h=>qrs h,T.size,T.refs,T.nd⟩
def PathOk.back {H1 H H':Hp} {r:Addr} {S O:List Str ->Prop} {n Z:Nat} (T:PathOk H1 H r S n) (s1:Same H1 H) (s2:Same (restT H r) H') (J:PathOk (restT H r) H' r O Z):PathOk H1 H' r O Z/\Same H1 H':=by
 have old:∀ a o,H1 a=some o ->restT H r a=some o:=λ a o e=>by
  unfold restT;rw [if_neg]
  ·exact s1 _ _ e
  ·rintro ⟨p,hp⟩;rw [T.new p a hp] at e;cases e
 refine ⟨⟨J.nodes,J.dom,λ p a h=> ?_,J.size,J.refs,J.nd⟩,λ a o e=>s2 _ _ (old a o e)⟩;have:=J.new p a h;cases e:H1 a with
 | none=>rfl
 | some o=>
  rw [old a o e] at this;cases this
def qxe {H H':Hp} {r:Addr} (N:Nodes H r) (k:∀ b kvs,H b=some (.dK kvs) ->H' b=some (.dK kvs)):∀ (y x:xD) (b:Addr),go H r x=some b ->go H' b y=go H b y:=by
 intro y
 induction y with
 | nil=>exact λ _ _ _=>rfl
 | cons u ys ih=>
  intro x b hb;obtain ⟨kb,J⟩:=N.node x b hb;rw [q1r (k _ _ J),q1r J];cases hc:kidV kb u with
  | none=>rfl
  | some c=>
   refine ih (x++ [u]) c ?_;rw [q3a,hb];show go H b [u]=some c;rw [q1r J,hc];rfl
def PathOk.keep {O H H':Hp} {r:Addr} {S:List Str ->Prop} {n:Nat} (T:PathOk O H r S n) (k:∀ b kvs,H b=some (.dK kvs) ->H' b=some (.dK kvs)):PathOk O H' r S n:=by
 have g:∀ x,go H' r x=go H r x:=λ x=>qxe T.nodes k x [] r rfl;have old:∀ x b kb,go H r x=some b ->H' b=some (.dK kb) ->H b=some (.dK kb):=λ x b kb hb e=>by
  obtain ⟨Z,J⟩:=T.nodes.node x b hb;rw [k _ _ J] at e;rw [J];exact e
 refine ⟨⟨λ x b hb=> ?_,λ x y b hx hy=> ?_⟩,λ x=> ?_,λ x b hb=> ?_,λ x b kb hb e=> ?_,λ x b kb w v hb e hv=> ?_,λ x b kb hb e=> ?_⟩
 ·rw [g] at hb;obtain ⟨Z,J⟩:=T.nodes.node x b hb;exact ⟨Z,k _ _ J⟩
 ·rw [g] at hx hy;exact T.nodes.inj x y b hx hy
 ·rw [g];exact T.dom x
 ·rw [g] at hb;exact T.new x b hb
 ·rw [g] at hb;exact T.size x b kb hb (old x b kb hb e)
 ·rw [g] at hb;exact T.refs x b kb w v hb (old x b kb hb e) hv
 ·rw [g] at hb;exact T.nd x b kb hb (old x b kb hb e)
theorem q48 {H:Hp}:∀ {xs:List V} {ps:xF} {i:Nat} {x:V},q1z H xs ps ->xs[i]? =some x ->∃ p b,ps[i]? =some p/\x=V.ref b/\H b=some (.tup (p.map V.str))
 | _,_,i,x,.nil,h=>by simp at h
 | _,_,0,x,.cons ⟨b,e,hb⟩ _,h=>by
  simp at h
  subst h;exact ⟨_,b,zr,e,hb⟩
 | _,_,i+1,x,.cons _ r,h=>by
  obtain ⟨s,b,e,q⟩:=q48 (i:=i) (x:=x) r (by simpa using h);exact ⟨s,b,by simpa using e,q⟩
def qxf (K:xA):Sp:=λ vs H Q _=>∃ (l:Addr) (xs:List V) (ss:xF),vs=[.ref l]/\SqL K H l xs/\qf0 K H xs ss/\ss.length<=20000/\(∀ s∈ss,s.length<=30/\endW∉s)/\
 ∀ p zs (R:xF) H',Same H H' ->H p=none ->H' p=some (.lst zs) ->q1z H' zs R ->Acc R ->(∀ x,Up R x↔Up ss x) ->Q (.ref p) H'
def q9p (T:Txt K mg):Def P w K mg base 3 "thinned" ["sets"] (qxf K):=by
 refine T.qsk.ok q3i (λ vs H Q E h=> ?_) λ f cdv A outer s H vs Q E hr h=> ?_
 ·obtain ⟨l,xs,ss,rfl,_⟩:=h;rfl
 ·obtain ⟨l,xs,ss,rfl,hl,hx,l1,l2,k⟩:=h;refine ⟨_,(qox
   (qo (i:=1) q3i.nd rfl (Or.inl rfl) (q12 (qf1 T) hr rfl (pa_1 (pv 0))))
   (qo (i:=2) q3i.nd rfl (Or.inr rfl) q5l)
   (qo (i:=3) q3i.nd rfl (Or.inl rfl) (q1e q26))
   (q22 PassesOwn.never rfl (q1f K (qp (qit rfl K) rfl T.q2q q2e (pa_1 (pv 1)))) (q13 (i:=4) q3i.nd rfl (Or.inl rfl)) (q4e
   (q99 (i:=5) q3i.nd rfl rfl (N:=["words","smaller"]) (caps:=[none,some 2]) rfl (by with_unfolding_all rfl) (q1f K (q73 (q35 hr) (pv 1) (pv 4) (λ _ _=>rfl))) (λ _ _ _ _ _=>(q13 (i:=0) (show (["words","smaller"]:xD).Nodup by decide+kernel) rfl (Or.inl rfl))) (λ _ _ _ _ _=>qek (q3k (q3x (q12 (qc7 T) hr rfl (pa_2 (pv 1) (pv 0)))))) (λ _ _ _ _ _=>(pv 0)))
   (q22 PassesOwn.never rfl (q1f K (pv 5)) (q13 (i:=6) q3i.nd rfl (Or.inl rfl)) (qg (q2b (q12 (qmz T) hr rfl (pa_2 (pv 2) (pv 6))))))
   (q2b (q64 z0k z0d z0e q88 (pv 3) (pa_1 (pv 5))))))
   (qh (qp (qa1 hr.units K) rfl T.q2q q2e (pa_1 (pv 3))))),?_⟩
  refine ⟨_,zr,l,xs,ss,zr,hl,hx,l1,λ s hs=>z40 (l2 s hs).1 (by decide),λ d kvs ns U H1 s1 hd ed M hU nU lU=> ?_⟩;have a4:∀ u∈U,Norm u:=λ u J=>by
   obtain ⟨s,_,rfl⟩:=(hU u).mp J;exact q4y s
  have a3:∀ u∈U,u.length<=30:=λ u J=>by
   obtain ⟨s,hs,rfl⟩:=(hU u).mp J;exact z40 (qtz s) (l2 s hs).1
  have d4:∀ u∈U,endW∉u:=λ u J=>by
   obtain ⟨s,hs,rfl⟩:=(hU u).mp J;exact λ z=>(l2 s hs).2 ((q34 s _).mp z)
  intro r b6;have t1:=qf (o:=HO.dK []) b6;refine ⟨by show 0<=sizeLine;decide,λ q hq=> ?_⟩;have t2:=qf (o:=HO.lst []) hq;have hqr:q≠r:=(qu qb hq).symm;have c8:H1 q=none:=t1.free hq;refine ⟨_,zr,d,kvs,ns,zr,t2 _ _ (t1 _ _ ed),M.keys,λ sl a9=> ?_⟩;have t3:=qf (o:=HO.lst ((Tim.srt q1j ns).map V.int)) a9;have d5:sl≠r:=(qu (t2 _ _ qb) a9).symm;have b7:sl≠q:=(qu qb a9).symm;have b9:(Tim.srt q1j ns).Pairwise λ a b=>q1j a b=true:=q6a q3h (Tim.q2v q3h _) ((Tim.q18 q1j _).nodup_iff.mpr M.nd);have a7:∀ n,n∈Tim.srt q1j ns↔n∈ns:=λ n=>(Tim.q18 q1j ns).mem_iff;have er:upd (upd (upd H1 r (.dK [])) q (.lst [])) sl (.lst ((Tim.srt q1j ns).map V.int)) r=some (.dK []):=(t2.trans t3) _ _ qb;have c0:upd (upd (upd H1 r (.dK [])) q (.lst [])) sl (.lst ((Tim.srt q1j ns).map V.int)) q=some (.lst []):=t3 _ _ qb;have b3:upd (upd (upd H1 r (.dK [])) q (.lst [])) sl (.lst ((Tim.srt q1j ns).map V.int)) sl=some (.lst ((Tim.srt q1j ns).map V.int)):=qb;have s2:Same H1 (upd (upd (upd H1 r (.dK [])) q (.lst [])) sl (.lst ((Tim.srt q1j ns).map V.int))):=t1.trans (t2.trans t3);generalize upd (upd (upd H1 r (.dK [])) q (.lst [])) sl (.lst ((Tim.srt q1j ns).map V.int))=G at*;generalize Tim.srt q1j ns=a5 at*;have P0:PathOk H1 G r (λ p=>p=[]) 0:=by
   have g:∀ p a,go G r p=some a ->p=[]/\a=r:=λ p a h=>by
    cases p with
    | nil=>exact ⟨rfl,(Option.some.inj h).symm⟩
    | cons w ws=>
     rw [q1r er] at h;cases h
   refine ⟨⟨λ p a h=> ?_,λ p q' a h1 h2=> ?_⟩,λ p=>⟨λ ⟨a,h⟩=>(g p a h).1,λ h=>⟨r,by rw [h];rfl⟩⟩,λ p a h=> ?_,λ p a kvs h e=> ?_,λ p a kvs w v h e hv=> ?_,λ p a kvs h e=> ?_⟩
   ·rw [(g p a h).2];exact ⟨[],er⟩
   ·rw [(g p a h1).1,(g q' a h2).1]
   ·rw [(g p a h).2];exact b6
   ·rw [(g p a h).2,er] at e;cases e
    exact z47 _
   ·rw [(g p a h).2,er] at e;cases e
    cases hv
   ·rw [(g p a h).2,er] at e;cases e
    exact ⟨[],zr,z3f⟩
  refine ⟨sl,rfl,⟨_,SqL.of b3⟩,q2n (xs:=a5.map V.int) (λ i σ H'=>∃ (v1 v2 v3:Option V) (zs:List V) (acc:xF) (S:List Str ->Prop) (n:Nat),σ=[some (.ref l),some (.ref d),some (.ref r),some (.ref q),v1,v2,v3]/\Same H1 H'/\H' q=some (.lst zs)/\H' sl=some (.lst (a5.map V.int))/\q1z H1 zs acc/\PathOk H1 H' r S n/\Paths acc S/\n<=acc.length*31/\ThI U a5 i acc)
   ⟨none,none,none,[],[],λ p=>p=[],0,rfl,s2,c0,b3,.nil,P0,⟨λ p=>by simp,λ _ z=>nomatch z⟩,z4a _,⟨(λ _ z=>nomatch z),(λ u J h=>by simp at h),(λ _ z=>nomatch z),z3f⟩⟩ (λ i σ H' _ z=>by obtain ⟨_,_,_,_,_,_,_,_,_,_,z,_⟩:=z;exact SqL.of z) ?_ ?_⟩
  ·rintro i x σ H2 hx ⟨v1,v2,v3,zs,acc,S,n,rfl,s3,eq,es,hz,T2,hP,hn,TI⟩;rw [z21] at hx;obtain ⟨m,hm,rfl⟩:=z0p.mp hx;have d2:m∈ns:=(a7 m).mp (z17 hm);obtain ⟨c,ys,hv,hc,hy,_⟩:=M.has m d2;have a6:∀ u∈acc,u∈U:=λ u J=>(TI.sub u J).1;have d6:acc.length<=U.length:=q6b TI.nd a6;have a8:=TI.step b9 hm nU a4;have b2:(acc++lst U acc m).length<=U.length:=q6b a8.nd λ u J=>(a8.sub u J).1;rw [z1n] at b2;have c6:mu acc []<=900000:=by
    have:=qzb (acc:=acc) (B:=30) λ u J=>a3 u (a6 u J)
    lia
   have dg:DGet H2 d (V.int m) (some (.ref c)):=by
    rw [<- hv];exact DGet.k (k:=Sum.inl m) (s3 _ _ ed)
   have ly:=Paired.length hy;refine ⟨_,zr,_,zr,d,_,zr,dg,c,zr,⟨_,SqL.of (s3 _ _ hc)⟩,λ D hD=> ?_⟩;have hD1:H1 D=none:=s3.free hD;have lsz:(szF U m).length<=U.length:=z0z _ _;refine q1w ys.length (λ j σ' H'=>(∃ v,σ'=[v,some (.ref r)])/\Same H2 H'/\∃ ws,H' D=some (.lst ws)/\q1z H1 ws (((szF U m).take j).filter λ u=> !decide (∃ q∈acc,∀ w∈q,w∈u))/\ws.length<=j) ⟨⟨_,rfl⟩,qf hD,[],qb,.nil,z47 _⟩ (λ j σ' H' hj p=> ?_) (λ σ' H' p=>⟨?_,?_⟩) (λ j σ' H' hj p x H3 y=> ?_)
   ·obtain ⟨_,sm,_⟩:=p;exact ⟨_,ys[j],SqL.of (sm _ _ (s3 _ _ hc)),z0c hj⟩
   ·obtain ⟨_,sm,_⟩:=p;exact ⟨_,SqL.of (sm _ _ (s3 _ _ hc)),z47 _⟩
   ·obtain ⟨_,sm,ws,eD,hw,lw⟩:=p;rw [ly,z2s] at hw;have hw:q1z H1 ws (lst U acc m):=hw;have b8:ws.length=(lst U acc m).length:=Paired.length hw;have T3:=T2.keep (H':=H') λ b kb e=>sm _ _ e;refine ⟨_,rfl,D,rfl,⟨_,SqL.of eD⟩,q2n (xs:=ws) (λ j σ G'=>∃ (v:Option V) (S':List Str ->Prop) (n':Nat),σ=[some (.ref l),some (.ref d),some (.ref r),some (.ref q),some (.int m),some (.ref D),v]/\Same H1 G'/\G' q=some (.lst zs)/\G' sl=some (.lst (a5.map V.int))/\G' D=some (.lst ws)/\PathOk H1 G' r S' n'/\Paths (acc++(lst U acc m).take j) S'/\n'<=(acc.length+j)*31)
     ⟨v3,S,n,rfl,s3.trans sm,sm _ _ eq,sm _ _ es,eD,T3,by rw [List.take_zero,z30];exact hP,hn⟩ (λ j σ H' _ z=>by obtain ⟨_,_,_,_,_,_,_,z,_⟩:=z;exact SqL.of z) ?_ ?_⟩
    ·rintro j x σ G1 hx ⟨v,S',n',rfl,g1,gq,gs,gD,T4,Z,b4⟩;obtain ⟨u,b,J,rfl,hb⟩:=q48 hw hx;have jl:j < (lst U acc m).length:=(z07.mp J).1;have c9:u∈lst U acc m:=z17 J;obtain ⟨uU,ul,un⟩:=q5z.mp c9;have lu:=a3 u uU;have c4:=g1 _ _ hb;have et:(lst U acc m).take (j+1)=(lst U acc m).take j++ [u]:=by rw [z3g,J];rfl
     have d3:(lst U acc m).Nodup:=(nU.filter _).filter _;refine ⟨_,rfl,_,rfl,restT G1 r,r,b,u,S',n',rfl,T4.other c4 (λ _ z=>nomatch z),qrr _ _,T4.bas,by lia,?_,λ G2 S2 g2 T5 c1=> ?_⟩
     ·intro z;rcases (Z.dom _).mp z with z | ⟨q',a2,b5⟩
      ·simp at z
      ·have e:=qny b5 (Z.ne q' a2);subst e;rcases z2t.mp a2 with h | h
       ·exact un ⟨u,h,λ _ z=>z⟩
       ·obtain ⟨j',c5,e'⟩:=z1h h;rw [z2f] at c5;rw [z1y] at e';obtain ⟨_,eu⟩:=z07.mp J;exact (z08.mp d3) j' j (by lia) jl (by lia) (e'.trans eu.symm)
     ·obtain ⟨T6,g3⟩:=T4.back g1 g2 T5;have c7:n'+u.length+1<=(acc.length+(j+1))*31:=by lia
      refine ⟨_,S2,_,rfl,g3,g2 _ _ (T4.other gq (λ _ z=>nomatch z)),g2 _ _ (T4.other gs (λ _ z=>nomatch z)),g2 _ _ (T4.other gD (λ _ z=>nomatch z)),T6,⟨λ p=> ?_,λ q' a2=> ?_⟩,c7⟩
      ·rw [c1,Z.dom,et]
       constructor
       ·rintro ((h | ⟨q',h1,h2⟩) | h)
        ·exact .inl h
        ·refine .inr ⟨q',?_,h2⟩;rw [<- z1x];exact z2t.mpr (.inl h1)
        ·exact .inr ⟨u,by simp,h⟩
       ·rintro (h | ⟨q',h1,h2⟩)
        ·exact .inl (.inl h)
        ·rw [<- z1x] at h1;rcases z2t.mp h1 with h1 | h1
         ·exact .inl (.inr ⟨q',h1,h2⟩)
         ·rw [z1l.mp h1] at h2;exact .inr h2
      ·rw [et,<- z1x] at a2;rcases z2t.mp a2 with h1 | h1
       ·exact Z.ne q' h1
       ·rw [z1l.mp h1];exact d4 u uU
    ·rintro σ G1 ⟨v,S',n',rfl,g1,gq,gs,gD,T4,Z,b4⟩;rw [b8,z2s] at Z;have lz:=Paired.length hz;refine ⟨_,zr,.inl ⟨zr,_,SqL.of gq⟩,_,zr,q,D,_,_,zr,zr,gq,gD,z3x (q16 (by lia)),?_⟩;have kq:∀ b kb,G1 b=some (.dK kb) ->upd G1 q (.lst (zs++ws)) b=some (.dK kb):=λ b kb e=>by
      rw [qi (λ z=>by rw [z,gq] at e;cases e)];exact e
     exact ⟨_,_,_,_,acc++lst U acc m,S',n',rfl,g1.set c8,qb,by rw [qi b7];exact gs,q28 hz hw,T4.keep kq,Z,by rw [z1n,<- b8];exact b4,a8⟩
   ·obtain ⟨⟨v,rfl⟩,sm,ws,eD,hw,lw⟩:=p;obtain ⟨rfl,hx⟩:=y;have d1:=hx _ (SqL.of (sm _ _ (s3 _ _ hc)));obtain ⟨u,b,J,rfl,hb⟩:=q48 hy d1;have uU:u∈U:=(z2w.mp (z17 J)).1;have a1:((szF U m).take (j+1)).filter (λ u=> !decide (∃ q∈acc,∀ w∈q,w∈u))=((szF U m).take j).filter (λ u=> !decide (∃ q∈acc,∀ w∈q,w∈u))++(if (!decide (∃ q∈acc,∀ w∈q,w∈u))=true then [u] else []):=by
     rw [z3g,J,z1t]
     congr 1
     show List.filter _ [u]=_;rw [z2i,List.filter_nil]
    have T3:=T2.keep (H':=H3) λ b kb e=>sm _ _ e;refine ⟨_,zr,_,zr,H1,r,b,u,acc,S,n,zr,sm _ _ (s3 _ _ hb),T3,by lia,z40 (a3 u uU) (by decide),hP,c6,λ H4 s4=>⟨_,zr,ite2 (λ h1=> ?_) (λ h1=> ?_)⟩⟩
    ·refine ⟨_,rfl,_,s4 _ _ eD,q16 (by lia),⟨_,rfl⟩,(sm.trans s4).set hD,_,qb,?_,by rw [z1n];show _+1<=_;lia⟩;rw [a1,if_pos h1];exact q28 hw (.cons ⟨b,zr,hb⟩ .nil)
    ·refine ⟨⟨_,zr⟩,sm.trans s4,ws,s4 _ _ eD,?_,by lia⟩;rw [a1,if_neg h1,z30];exact hw
  ·rintro σ H2 ⟨v1,v2,v3,zs,acc,S,n,rfl,s3,eq,es,hz,T2,hP,hn,TI⟩;rw [z2z] at TI;have cov:∀ u∈U,∃ q∈acc,∀ w∈q,w∈u:=λ u J=>TI.cov u J (by rw [z2s,a7];exact M.all u J);refine ⟨_,zr,q,zs,acc,zr,SqL.of eq,q1s (λ b ys e=>s3 b _ e) hz,λ p us hp d0=> ?_⟩;have s4:=qf (o:=HO.lst us) hp;have O:∀ x,x∈Tim.srt q1c acc↔x∈acc:=λ x=>(Tim.q18 q1c acc).mem_iff;refine k p us (Tim.srt q1c acc) _ (s1.trans (s3.trans s4)) (s1.free (s3.free hp)) qb (q1s (λ b ys e=>s4 b _ e) d0) ⟨q6a q2p (Tim.q2v q2p _) ((Tim.q18 q1c _).nodup_iff.mpr TI.nd),λ x hx=>a4 x (TI.sub x ((O x).mp hx)).1,λ x hx y hy h=>TI.anti x ((O x).mp hx) y ((O y).mp hy) h⟩ λ x=> ?_
   constructor
   ·rintro ⟨u,J,h⟩;obtain ⟨s,hs,rfl⟩:=(hU u).mp (TI.sub u ((O u).mp J)).1;exact ⟨s,hs,λ w hw=>h w ((q34 s w).mpr hw)⟩
   ·rintro ⟨s,hs,h⟩;obtain ⟨q',h1,h2⟩:=cov (uniq s) ((hU _).mpr ⟨s,hs,rfl⟩);exact ⟨q',(O q').mpr h1,λ w hw=>h w ((q34 s w).mp (h2 w hw))⟩
def qc0 (K:xA) (H:Hp) (zs:List V) (C:xF):Prop:=Paired (λ x s=>∃ b,x=V.ref b/\SqT K H b (s.map V.str)) zs C
theorem q9q {K:xA} {H H':Hp} (k:∀ b xs,SqT K H b xs ->SqT K H' b xs):∀ {zs:List V} {C:xF},qc0 K H zs C ->qc0 K H' zs C
 | _,_,.nil=> .nil
 | _,_,.cons ⟨b,e,hb⟩ h=> .cons ⟨b,e,k _ _ hb⟩ (q9q k h)
theorem q9r {K:xA} {H:Hp}:∀ {zs:List V} {C:xF},qc0 K H zs C ->qf0 K H zs C
 | _,_,.nil=> .nil
 | _,_,.cons ⟨b,e,hb⟩ h=> .cons ⟨b,e,.inr hb⟩ (q9r h)
def qc1 {K:xA} {H:Hp} {t b:Addr} {zs ys xs:List V} (J:H t=some (.lst zs)) (h:SqT K H b xs):SqT K (upd H t (.lst ys)) b xs:=by
 rcases h with (h | ⟨o,h⟩) | h
 ·exact .inl (.inl (by rw [qi (λ z=>by rw [z,J] at h;cases h)];exact h))
 ·exact .inl (.inr ⟨o,by rw [qi (λ z=>by rw [z,J] at h;cases h)];exact h⟩)
 ·exact .inr h
def q5e (A B:xF):List (List Str):=A.flatMap λ a=>B.map λ b=>a++b
def qb9 {A B:xF} {c:xD}:c∈q5e A B↔∃ a∈A,∃ b∈B,c=a++b:=by
 unfold q5e;rw [List.mem_flatMap]
 constructor
 ·rintro ⟨a,ha,h⟩;obtain ⟨b,hb,rfl⟩:=z44.mp h;exact ⟨a,ha,b,hb,zr⟩
 ·rintro ⟨a,ha,b,hb,rfl⟩;exact ⟨a,ha,z44.mpr ⟨b,hb,zr⟩⟩
def qib (A B:xF):(q5e A B).length=A.length*B.length:=by
 unfold q5e
 induction A with
 | nil=>simp
 | cons a A ih=>
  rw [List.flatMap_cons,z1n,ih,z2z,z2h,Nat.succ_mul]
  lia
def qpi (A B:xF) (a:xD):q5e (A++ [a]) B=q5e A B++B.map λ b=>a++b:=by
 unfold q5e;rw [z1i];simp
def qgo {A B:xF} {x:xD}:Up (q5e A B) x↔Up A x/\Up B x:=by
 constructor
 ·rintro ⟨c,hc,h⟩;obtain ⟨a,ha,b,hb,rfl⟩:=qb9.mp hc;exact ⟨⟨a,ha,λ w hw=>h w (z2t.mpr (.inl hw))⟩,b,hb,λ w hw=>h w (z2t.mpr (.inr hw))⟩
 ·rintro ⟨⟨a,ha,h1⟩,b,hb,h2⟩;exact ⟨a++b,qb9.mpr ⟨a,ha,b,hb,zr⟩,λ w hw=>(z2t.mp hw).elim (h1 w) (h2 w)⟩
def qrt (K:xA):Sp:=λ vs H Q _=>∃ (a b:Addr) (xs ys:List V) (A B:xF),vs=[.ref a,.ref b]/\SqL K H a xs/\SqL K H b ys/\q1z H xs A/\q1z H ys B/\A.length*B.length<=20000/\B.length<=20000/\(∀ r∈A,r.length<=15/\endW∉r)/\(∀ r∈B,r.length<=15/\endW∉r)/\
 ∀ p zs (R:xF) H',Same H H' ->H p=none ->H' p=some (.lst zs) ->q1z H' zs R ->Acc R ->(∀ x,Up R x↔Up A x/\Up B x) ->Q (.ref p) H'
def qru (T:Txt K mg):Def P w K mg base 4 "agreed" ["one","other"] (qrt K):=by
 refine T.qv4.ok qb3 (λ vs H Q E h=> ?_) λ f cdv A outer s H vs Q E hr h=> ?_
 ·obtain ⟨a,b,xs,ys,A,B,rfl,_⟩:=h;rfl
 ·obtain ⟨a,b,xs,ys,FA,FB,rfl,ha,hb,hA,hB,lA,lB,oA,oB,k⟩:=h;have lx:=Paired.length hA;have ly:=Paired.length hB;refine ⟨_,(q4e
   (qo (i:=2) qb3.nd rfl (Or.inl rfl) (q1e q26))
   (q22 PassesOwn.never rfl (q1f K (pv 0)) (q13 (i:=3) qb3.nd rfl (Or.inr rfl)) (qg (q2b (q64 z0k z0d z0e q88 (pv 2) (pa_1 (q29 (N:=["more_words","words"]) (caps:=[none,some 3]) rfl (by with_unfolding_all rfl) (q1f K (pv 1)) (λ _ _ _ _ _=>(q13 (i:=0) (show (["more_words","words"]:xD).Nodup by decide+kernel) rfl (Or.inl rfl))) (λ _ _ _ _ _=>q2o) (λ _ _ _ _ _=>(qk (qwv K) (pv 1) (pv 0)))))))))
   (qh (q12 (q9p T) hr rfl (pa_1 (pv 2))))),?_⟩
  refine ⟨by show 0<=sizeLine;decide,λ t ht=> ?_⟩;have s0:=qf (o:=HO.lst []) ht;refine ⟨_,zr,a,zr,⟨_,s0.seq ha⟩,q2n (xs:=xs) (λ i σ H'=>∃ (v:Option V) (zs:List V),σ=[some (.ref a),some (.ref b),some (.ref t),v]/\Same H H'/\H' t=some (.lst zs)/\qc0 K H' zs (q5e (FA.take i) FB))
   ⟨none,[],rfl,s0,qb,.nil⟩ (λ i σ H' _ z=>by obtain ⟨_,_,_,z,_⟩:=z;exact z.seq ha) ?_ ?_⟩
  ·rintro i x σ H1 hx ⟨v,zs,rfl,s1,et,hz⟩;obtain ⟨wa,ba,Z,rfl,a3⟩:=q48 hA hx;have lz:=Paired.length hz;rw [qib,z2f] at lz;have il:i < FA.length:=(z07.mp Z).1;have lz2:zs.length<=20000:=by rw [lz];exact z40 (z3i (by lia) (z47 _)) lA
   refine ⟨_,zr,.inl ⟨zr,_,SqL.of et⟩,_,zr,b,zr,⟨_,s1.seq hb⟩,λ D hD=> ?_⟩;refine q1w ys.length (λ j σ' H'=>(∃ v,σ'=[v,some (.ref ba)])/\Same H1 H'/\∃ us,H' D=some (.lst us)/\(∀ H2,(∀ b xs,SqT K H' b xs ->SqT K H2 b xs) ->qc0 K H2 us ((FB.take j).map λ b=>wa++b))) ⟨⟨_,zr⟩,qf hD,[],qb,λ _ _=> .nil⟩ (λ j σ' H' hj p=> ?_) (λ σ' H' p=>⟨?_,?_⟩) (λ j σ' H' hj p x H3 y=> ?_)
   ·obtain ⟨_,J,_⟩:=p;exact ⟨_,ys[j],(s1.trans J).seq hb,z0c hj⟩
   ·obtain ⟨_,J,_⟩:=p;exact ⟨_,(s1.trans J).seq hb,z47 _⟩
   ·obtain ⟨_,J,us,eD,hu⟩:=p;have O:=hu H' λ _ _ z=>z;have lu:=Paired.length O;rw [z2z,z2f] at lu;rw [ly,z2s] at hu;refine ⟨t,D,_,_,zr,zr,J _ _ et,eD,z3x (q16 (by lia)),?_⟩;have a2:FA.take (i+1)=FA.take i++ [wa]:=by rw [z3g,Z];rfl
    refine ⟨_,zs++us,zr,(s1.trans J).set ht,qb,?_⟩;rw [a2,qpi];exact q28 (q9q (λ b xs h=>qc1 (J _ _ et) (J.seqT h)) hz) (hu _ λ b xs h=>qc1 (J _ _ et) h)
   ·obtain ⟨⟨v,rfl⟩,J,us,eD,hu⟩:=p;obtain ⟨rfl,a6⟩:=y;have a5:=a6 _ ((s1.trans J).seq hb);obtain ⟨wb,bb,a1,rfl,a4⟩:=q48 hB a5;have O:=hu H3 λ _ _ z=>z;have lu:=Paired.length O;rw [z2z,z2f] at lu;have o1:=oA wa (z17 Z);have o2:=oB wb (z17 a1);refine ⟨_,rfl,_,rfl,_,_,_,_,rfl,rfl,SqT.of (J _ _ (s1 _ _ a3)),SqT.of (J _ _ (s1 _ _ a4)),z3x (q16 (by rw [z2z,z2z];lia)),λ p H4 s4 hp=> ?_⟩;rw [<- z35] at hp;refine ⟨_,s4 _ _ eD,q16 (by lia),⟨_,zr⟩,(J.trans s4).set hD,us++ [.ref p],qb,λ H5 h5=> ?_⟩;rw [z3g,a1,z35];exact q28 (hu H5 λ b xs h=>h5 b xs (qc1 (s4 _ _ eD) (s4.seqT h))) (.cons ⟨p,zr,h5 _ _ (qc1 (s4 _ _ eD) hp)⟩ .nil)
  ·rintro σ H1 ⟨v,zs,rfl,s1,et,hz⟩;rw [lx,z2s] at hz;have lz:=Paired.length hz;refine ⟨_,rfl,t,zs,q5e FA FB,rfl,SqL.of et,q9r hz,by rw [qib];exact lA,λ c hc=> ?_,λ p us R H2 s2 hp ep hR aR uR=> ?_⟩
   ·obtain ⟨x,hx,y,hy,rfl⟩:=qb9.mp hc;have o1:=oA x hx;have o2:=oB y hy;refine ⟨by rw [z1n];lia,λ z=> ?_⟩;rcases z2t.mp z with z | z
    ·exact o1.2 z
    ·exact o2.2 z
   ·exact k p us R H2 (s1.trans s2) (s1.free hp) ep hR aR λ x=>by rw [uR,qgo]
def qrv {R A B:xF} (hR:Acc R) (h:∀ x,Up R x↔Up A x/\Up B x):∀ r∈R,∃ a∈A,∃ b∈B,∀ w∈r,w∈a\/ w∈b:=λ r hr=>by
 obtain ⟨⟨a,ha,h1⟩,b,hb,h2⟩:=(h r).mp ⟨r,hr,λ _ z=>z⟩;refine ⟨a,ha,b,hb,?_⟩;obtain ⟨q,hq,J⟩:=(h (a++b)).mpr ⟨⟨a,ha,λ w hw=>z2t.mpr (.inl hw)⟩,b,hb,λ w hw=>z2t.mpr (.inr hw)⟩;have e:=hR.anti q hq r hr λ w hw=>(z2t.mp (J w hw)).elim (h1 w) (h2 w);subst e;exact λ w hw=>z2t.mp (J w hw)
theorem qgp:∀ (W:xD) (R:xF),R.Nodup ->(∀ r∈R,Norm r/\∀ w∈r,w∈W) ->R.length<=2^W.length
 | [],R,nd,h=>by
  have:∀ r∈R,r=[]:=λ r hr=>by
   cases r with
   | nil=>rfl
   | cons w r=>exact absurd ((h _ hr).2 w (z1o ..)) (by simp)
  exact q6b (v:=[[]]) nd λ r hr=>by rw [this r hr];simp
 | x::W,R,nd,h=>by
  have e:R.length=(R.filter λ r=>decide (x∈r)).length+(R.filter λ r=> !decide (x∈r)).length:=by
   induction R with
   | nil=>rfl
   | cons r R ih=>
    have:=ih (z31.mp nd).2 λ q hq=>h q (z15 _ hq);by_cases z:x∈r <;> simp [z] <;> lia
  have h0:(R.filter λ r=> !decide (x∈r)).length<=2^W.length:=qgp W _ (nd.filter _) λ r hr=>by
   obtain ⟨h1,h2⟩:=z2w.mp hr;refine ⟨(h r h1).1,λ w hw=> ?_⟩;rcases z3m.mp ((h r h1).2 w hw) with rfl | z
   ·exact absurd hw (by simpa using h2)
   ·exact z
  have h1:((R.filter λ r=>decide (x∈r)).map λ r=>r.filter λ w=>decide (w≠x)).length<=2^W.length:=by
   refine qgp W _ ?_ λ q hq=> ?_
   ·refine List.pairwise_map.mpr ((nd.filter _).imp_of_mem λ {a b} ha hb O e=>O ?_);obtain ⟨a1,a2⟩:=z2w.mp ha;obtain ⟨b1,b2⟩:=z2w.mp hb;have J:∀ (p q:xD),x∈q ->(p.filter λ w=>decide (w≠x))=(q.filter λ w=>decide (w≠x)) ->∀ w∈p,w∈q:=λ p q hq e w hw=>by
     by_cases z:w=x
     ·rw [z];exact hq
     ·have:w∈p.filter λ w=>decide (w≠x):=z2w.mpr ⟨hw,z3b z⟩;rw [e] at this;exact (z2w.mp this).1
    exact qgn (h a a1).1 (h b b1).1 (J a b (of_decide_eq_true b2) e) (J b a (of_decide_eq_true a2) e.symm)
   ·obtain ⟨r,hr,rfl⟩:=z44.mp hq;obtain ⟨r1,_⟩:=z2w.mp hr;refine ⟨List.Pairwise.filter _ (h r r1).1,λ w hw=> ?_⟩;obtain ⟨w1,w2⟩:=z2w.mp hw;rcases z3m.mp ((h r r1).2 w w1) with z | z
    ·exact absurd z (of_decide_eq_true w2)
    ·exact z
  rw [z2z] at h1;rw [z2h,Nat.pow_succ]
  lia
structure Of (n:Nat) (W:xD) (R:xF):Prop where
 top:n<=10
 few:W.length<=n
 ne:endW∉W
 sub:∀ r∈R,∀ w∈r,w∈W
def Of.len {n:Nat} {W:xD} {R:xF} (h:Of n W R) {r:xD} (hr:r∈R) (nr:Norm r):r.length<=10/\endW∉r:=
 ⟨by have:=q6b (q47 q1y nr) (h.sub r hr);have:=h.few;have:=h.top;lia,λ z=>h.ne (h.sub r hr _ z)⟩
def Of.card {n:Nat} {W:xD} {R:xF} (h:Of n W R) (a:Acc R):R.length<=2^n:=by
 have h1:=qgp W R (q47 q2p a.srt) λ r hr=>⟨a.norm r hr,h.sub r hr⟩;exact z40 h1 (Nat.pow_le_pow_right (by decide) h.few)
def Of.cards {n:Nat} {W:xD} {R:xF} (h:Of n W R) (a:Acc R):R.length<=1024:=
 z40 (h.card a) (z40 (Nat.pow_le_pow_right (by decide) h.top) (by decide))
def qnz (a b:Str):eqV (.str a) (.str b)=decide (a=b):=by
 show (a==b)=_;by_cases h:a=b <;> simp [h]
def qlp (x:Str) (ws:xD):inV (.str x) (ws.map V.str)=decide (x∈ws):=by
 unfold inV;rw [z2y,z2o,decide_eq_true_iff]
 constructor
 ·rintro ⟨y,hy,h⟩;obtain ⟨z,hz,rfl⟩:=z44.mp hy;rw [qnz] at h;have:=of_decide_eq_true h;exact this ▸ hz
 ·intro h;exact ⟨.str x,z44.mpr ⟨x,h,rfl⟩,by rw [qnz];simp⟩
def qic (ws:xD):(ws.map V.str).all q71=true:=by
 rw [z2m];intro x hx;obtain ⟨z,_,rfl⟩:=z44.mp hx;rfl
def qrw:Sp:=λ vs H Q _=>∃ (a b:Addr) (r q:xD),vs=[.ref a,.ref b]/\H a=some (.tup (r.map V.str))/\H b=some (.tup (q.map V.str))/\Q (.bl (decide (∀ x∈r,x∈q))) H
def q8v (T:Txt K mg):Def P w K mg base 1 "_law_within" ["_law_one","_law_other"] qrw:=by
 refine T.qjn.ok q8t (λ vs H Q E h=> ?_) λ f cdv A outer s H vs Q E hr h=> ?_
 ·obtain ⟨a,b,r,q,rfl,_⟩:=h;rfl
 ·obtain ⟨a,b,r,q,rfl,ha,hb,k⟩:=h;refine ⟨_,(q2r
   (q22 PassesOwn.never rfl (q75 K (pv 0)) (q13 (i:=2) q8t.nd rfl (Or.inl rfl)) (qg (q15 (qq (qqw K) (pv 2) (pv 1) (by with_unfolding_all rfl)) (qg (qh q25)) qx)))
   (qh q25)),?_⟩
  refine ⟨_,rfl,a,rfl,⟨_,SqT.of ha⟩,qbp (xs:=r.map V.str) (λ i σ H'=>H'=H/\(∃ v,σ=[some (.ref a),some (.ref b),v])/\∀ x∈r.take i,x∈q) ⟨rfl,⟨_,rfl⟩,λ x hx=>by simp at hx⟩ (λ i σ H' _ z=>by rw [z.1];exact SqT.of ha) ?_ ?_⟩
  ·rintro i x σ H1 hx ⟨rfl,⟨v,rfl⟩,J⟩;rw [z21] at hx;obtain ⟨z,hz,rfl⟩:=z0p.mp hx;refine ⟨_,zr,_,zr,b,_,zr,.inr (SqT.of hb),zr,qic q,_,zr,?_⟩;rw [qlp];refine ite2 (λ h1=> ?_) (λ h1=> ?_)
   ·have hn:z∉q:=by simpa using h1
    rw [z2v (λ y=>hn (y z (z17 hz)))] at k;exact k
   ·have hn:z∈q:=by simpa using h1
    refine ⟨zr,⟨_,zr⟩,λ y hy=> ?_⟩;rw [z3g,hz] at hy;rcases z2t.mp hy with hy | hy
    ·exact J y hy
    ·rw [show y=z by simpa using hy];exact hn
  ·rintro σ H1 ⟨rfl,⟨v,rfl⟩,J⟩;rw [z2z,z2s] at J;rw [z3b J] at k;exact k
def qf3 {R S:xF} (hR:Acc R) (h:∀ x,Up R x↔Up S x):∀ r∈R,∃ s∈S,∀ w∈r,w∈s:=λ r hr=>by
 obtain ⟨s,J,h1⟩:=(h r).mp ⟨r,hr,λ _ z=>z⟩;obtain ⟨q,hq,h2⟩:=(h s).mpr ⟨s,J,λ _ z=>z⟩;have e:=hR.anti q hq r hr λ w hw=>h1 w (h2 w hw);subst e;exact ⟨s,J,h2⟩
def Of.agr {n:Nat} {W:xD} {A B C:xF} (a:Of n W A) (b:Of n W B) (hC:Acc C) (h:∀ x,Up C x↔Up A x/\Up B x):Of n W C:=⟨a.top,a.few,a.ne,λ r hr w hw=>by
 obtain ⟨x,hx,y,hy,z⟩:=qrv hC h r hr;exact (z w hw).elim (a.sub x hx w) (b.sub y hy w)⟩
def Of.thin {n:Nat} {W:xD} {A B C:xF} (a:Of n W A) (b:Of n W B) (hC:Acc C) (h:∀ x,Up C x↔Up (A++B) x):Of n W C:=⟨a.top,a.few,a.ne,λ r hr w hw=>by
 obtain ⟨x,hx,z⟩:=qf3 hC h r hr;exact (z2t.mp hx).elim (λ q=>a.sub x q w (z w hw)) (λ q=>b.sub x q w (z w hw))⟩
theorem qid {K:xA} {H:Hp}:∀ {zs:List V} {C:xF},q1z H zs C ->qf0 K H zs C
 | _,_,.nil=> .nil
 | _,_,.cons ⟨b,e,hb⟩ h=> .cons ⟨b,e,.inr (SqT.of hb)⟩ (qid h)
def dR (r:xD):PyData:= .tuple (r.map .str)
theorem qrx {K:xA} {H:Hp}:∀ {r:xD},(∀ w∈r,PyData.strOk w=true) ->Dats K H (r.map .str) (r.map V.str)
 | [],_=> .nil
 | w::r,h=> .cons (.str w (h w (z1o ..))) (qrx λ x hx=>h x (z15 _ hx))
theorem qlq {K:xA} {H:Hp}:∀ {zs:List V} {R:xF},q1z H zs R ->(∀ r∈R,∀ w∈r,PyData.strOk w=true) ->Dats K H (R.map dR) zs
 | _,_,.nil,_=> .nil
 | _,_,.cons ⟨b,e,hb⟩ t,h=>by
  rw [e];exact .cons (.tup (SqT.of hb) (qrx (h _ (z1o ..)))) (qlq t λ r hr=>h r (z15 _ hr))
def qxg (r:xD):PyData.depthAll (r.map .str)=0:=by
 induction r with
 | nil=>rfl
 | cons x p ih=>
  show max (PyData.depth (.str x)) (PyData.depthAll (p.map .str))=0;rw [ih];rfl
def qo0 (R:xF):PyData.depthAll (R.map dR)<=1:=by
 induction R with
 | nil=>exact z4a _
 | cons r R ih=>
  show max (PyData.depth (dR r)) (PyData.depthAll (R.map dR))<=1;refine Nat.max_le.mpr ⟨?_,ih⟩;show PyData.depthAll (r.map .str)+1<=1;rw [qxg];exact z47 _
def addN:V ->V ->V
 | .int i,.int j=> .int (i+j)
 | _,_=> .non
def minN:V ->V ->V
 | .non,y=>y
 | x,.non=>x
 | .int i,.int j=> .int (if j < i then j else i)
 | x,_=>x
def IsN (x:V):Prop:=x= .non\/ ∃ i,x= .int i
def sp_k (v:V):Sp:=λ vs H Q _=>∃ p:Addr,vs=[.ref p]/\Q v H
def qpj (f:Int ->Int ->Int):Sp:=λ vs H Q _=>∃ (p:Addr) (i j:Int),vs=[.ref p,.int i,.int j]/\Q (.int (f i j)) H
def qzc:Sp:=λ vs H Q _=>∃ (p:Addr) (i j:Int),vs=[.ref p,.int i,.int j]/\qvg i j/\Q (.int (i*j)) H
def qvk (f:V ->V ->V):Sp:=λ vs H Q _=>∃ (p:Addr) (x y:V),vs=[.ref p,x,y]/\IsN x/\IsN y/\Q (f x y) H
def qvl (f:Bool ->Bool ->Bool):Sp:=λ vs H Q _=>∃ (p:Addr) (x y:Bool),vs=[.ref p,.bl x,.bl y]/\Q (.bl (f x y)) H
def qdg (T:Txt K mg):MDef P w K mg base 1 (cA mg "Counts") "nought" ["self"] (sp_k (.int 0)):=by
 refine T.qfl.ok qd7 (λ vs H Q E h=> ?_) λ f cdv A outer s H vs Q E hr h=> ?_
 ·obtain ⟨p,rfl,_⟩:=h;rfl
 ·obtain ⟨p,rfl,q⟩:=h;exact ⟨_,(qg (qh qc)),q⟩
def qgq (T:Txt K mg):MDef P w K mg base 1 (cA mg "Counts") "unit" ["self"] (sp_k (.int 1)):=by
 refine T.qjq.ok qg9 (λ vs H Q E h=> ?_) λ f cdv A outer s H vs Q E hr h=> ?_
 ·obtain ⟨p,rfl,_⟩:=h;rfl
 ·obtain ⟨p,rfl,q⟩:=h;exact ⟨_,(qg (qh qc)),q⟩
def qdh (T:Txt K mg):MDef P w K mg base 1 (cA mg "Counts") "either" ["self","one","other"] (qpj (· + ·)):=by
 refine T.qfo.ok qd8 (λ vs H Q E h=> ?_) λ f cdv A outer s H vs Q E hr h=> ?_
 ·obtain ⟨p,i,j,rfl,_⟩:=h;rfl
 ·obtain ⟨p,i,j,rfl,q⟩:=h;exact ⟨_,(qg (qh (qk q19 (pv 1) (pv 2)))),⟨_,zr,_,zr,_,_,zr,zr,q⟩⟩
def qgr (T:Txt K mg):MDef P w K mg base 1 (cA mg "Counts") "both" ["self","one","other"] qzc:=by
 refine T.qjp.ok qga (λ vs H Q E h=> ?_) λ f cdv A outer s H vs Q E hr h=> ?_
 ·obtain ⟨p,i,j,rfl,_⟩:=h;rfl
 ·obtain ⟨p,i,j,rfl,b,q⟩:=h;exact ⟨_,(qg (qh (qk qnn (pv 1) (pv 2)))),⟨_,zr,_,zr,_,_,zr,zr,b,q⟩⟩
def qf4 (T:Txt K mg):MDef P w K mg base 1 (cA mg "Costs") "nought" ["self"] (sp_k .non):=by
 refine T.qhf.ok qer (λ vs H Q E h=> ?_) λ f cdv A outer s H vs Q E hr h=> ?_
 ·obtain ⟨p,rfl,_⟩:=h;rfl
 ·obtain ⟨p,rfl,q⟩:=h;exact ⟨_,(qg (qh q2k)),q⟩
def qj5 (T:Txt K mg):MDef P w K mg base 1 (cA mg "Costs") "unit" ["self"] (sp_k (.int 0)):=by
 refine T.qm6.ok qiw (λ vs H Q E h=> ?_) λ f cdv A outer s H vs Q E hr h=> ?_
 ·obtain ⟨p,rfl,_⟩:=h;rfl
 ·obtain ⟨p,rfl,q⟩:=h;exact ⟨_,(qg (qh qc)),q⟩
def qf5 (T:Txt K mg):MDef P w K mg base 1 (cA mg "Costs") "either" ["self","one","other"] (qvk minN):=by
 refine T.qh9.ok qes (λ vs H Q E h=> ?_) λ f cdv A outer s H vs Q E hr h=> ?_
 ·obtain ⟨p,x,y,rfl,_⟩:=h;rfl
 ·obtain ⟨p,x,y,rfl,hx,hy,q⟩:=h;refine ⟨_,(q4e
   (q15 (qq q7b (pv 1) q2k (qt _)) (qg (qh (pv 2))) qx)
   (q15 (qq q7b (pv 2) q2k (qt _)) (qg (qh (pv 1))) qx)
   (qh (qp (qal rfl) rfl T.b_min qkv (pa_2 (pv 1) (pv 2))))),?_⟩
  rcases hx with rfl | ⟨i,rfl⟩
  ·exact ⟨_,zr,zr,_,zr,q1k rfl ⟨_,zr,q⟩⟩
  ·rcases hy with rfl | ⟨j,rfl⟩
   ·exact ⟨_,zr,zr,_,zr,qm rfl ⟨_,zr,zr,_,zr,q1k rfl ⟨_,zr,q⟩⟩⟩
   ·exact ⟨_,zr,zr,_,zr,qm rfl ⟨_,zr,zr,_,zr,qm rfl ⟨_,zr,_,zr,_,_,zr,q⟩⟩⟩
def qj6 (T:Txt K mg):MDef P w K mg base 1 (cA mg "Costs") "both" ["self","one","other"] (qvk addN):=by
 refine T.qmf.ok qix (λ vs H Q E h=> ?_) λ f cdv A outer s H vs Q E hr h=> ?_
 ·obtain ⟨p,x,y,rfl,_⟩:=h;rfl
 ·obtain ⟨p,x,y,rfl,hx,hy,q⟩:=h;refine ⟨_,(q2r
   (q15 (PW.pt (q86 (qq q7b (pv 1) q2k (qt _)) (q68 (qq q7b (pv 2) q2k (qt _))))) (qg (qh q2k)) qx)
   (qh (qk q19 (pv 1) (pv 2)))),?_⟩
  rcases hx with rfl | ⟨i,rfl⟩
  ·exact ⟨_,zr,zr,_,zr,q1k rfl q⟩
  ·rcases hy with rfl | ⟨j,rfl⟩
   ·exact ⟨_,zr,zr,_,zr,qm rfl ⟨_,zr,zr,_,zr,q1k rfl q⟩⟩
   ·exact ⟨_,zr,zr,_,zr,qm rfl ⟨_,zr,zr,_,zr,qm rfl ⟨_,zr,_,zr,_,_,zr,zr,q⟩⟩⟩
def qu0 (C:Addr):Sp:=λ vs H Q _=>∃ (p dx:Addr) (v:V),vs=[.ref p,v]/\H p=some (.ins C dx [])/\Q .non (upd H p (.ins C dx [("top",v)]))
def q8w (T:Txt K mg):IDef P w K mg base 1 (cA mg "Trusts") "top" (.int 100) (qu0 (cA mg "Trusts")):=by
 refine T.qji.ok qgb (λ vs H Q E h=> ?_) λ f cdv A outer s H vs Q E hr h=> ?_
 ·obtain ⟨p,dx,v,rfl,_⟩:=h;rfl
 ·obtain ⟨p,dx,v,rfl,hp,q⟩:=h;exact ⟨_,(qg (qqg (pv 0) (pv 1) rfl)),⟨_,rfl,_,rfl,p,_,dx,_,rfl,hp,T.q8f,T.q82,(by show 0 < 1000;decide),q⟩⟩
def qdi (T:Txt K mg):MDef P w K mg base 1 (cA mg "Trusts") "nought" ["self"] (sp_k (.int 0)):=by
 refine T.qfn.ok qd9 (λ vs H Q E h=> ?_) λ f cdv A outer s H vs Q E hr h=> ?_
 ·obtain ⟨p,rfl,_⟩:=h;rfl
 ·obtain ⟨p,rfl,q⟩:=h;exact ⟨_,(qg (qh qc)),q⟩
def qu1 (C:Addr):Sp:=λ vs H Q _=>∃ (p dx:Addr) (v:V),vs=[.ref p]/\H p=some (.ins C dx [("top",v)])/\Q v H
def qgs (T:Txt K mg):MDef P w K mg base 1 (cA mg "Trusts") "unit" ["self"] (qu1 (cA mg "Trusts")):=by
 refine T.qjl.ok qgd (λ vs H Q E h=> ?_) λ f cdv A outer s H vs Q E hr h=> ?_
 ·obtain ⟨p,dx,v,rfl,_⟩:=h;rfl
 ·obtain ⟨p,dx,v,rfl,hp,q⟩:=h;exact ⟨_,(qg (qh (qan (pv 0) rfl))),⟨_,zr,p,_,dx,_,v,zr,hp,T.q8f,T.q82,zr,q⟩⟩
def qdj (T:Txt K mg):MDef P w K mg base 1 (cA mg "Trusts") "either" ["self","one","other"] (qpj λ i j=>if j > i then j else i):=by
 refine T.qfj.ok qda (λ vs H Q E h=> ?_) λ f cdv A outer s H vs Q E hr h=> ?_
 ·obtain ⟨p,i,j,rfl,_⟩:=h;rfl
 ·obtain ⟨p,i,j,rfl,q⟩:=h;exact ⟨_,(qg (qh (qp (qqc rfl) rfl T.b_max qyq (pa_2 (pv 1) (pv 2))))),⟨_,zr,_,zr,_,_,zr,q⟩⟩
def qgt (T:Txt K mg):MDef P w K mg base 1 (cA mg "Trusts") "both" ["self","one","other"] (qpj λ i j=>if j < i then j else i):=by
 refine T.qjg.ok qge (λ vs H Q E h=> ?_) λ f cdv A outer s H vs Q E hr h=> ?_
 ·obtain ⟨p,i,j,rfl,_⟩:=h;rfl
 ·obtain ⟨p,i,j,rfl,q⟩:=h;exact ⟨_,(qg (qh (qp (qal rfl) rfl T.b_min qkv (pa_2 (pv 1) (pv 2))))),⟨_,zr,_,zr,_,_,zr,q⟩⟩
def qdk (T:Txt K mg):MDef P w K mg base 1 (cA mg "Truths") "nought" ["self"] (sp_k (.bl false)):=by
 refine T.qfk.ok qdb (λ vs H Q E h=> ?_) λ f cdv A outer s H vs Q E hr h=> ?_
 ·obtain ⟨p,rfl,_⟩:=h;rfl
 ·obtain ⟨p,rfl,q⟩:=h;exact ⟨_,(qg (qh q25)),q⟩
def qgu (T:Txt K mg):MDef P w K mg base 1 (cA mg "Truths") "unit" ["self"] (sp_k (.bl true)):=by
 refine T.qjf.ok qgg (λ vs H Q E h=> ?_) λ f cdv A outer s H vs Q E hr h=> ?_
 ·obtain ⟨p,rfl,_⟩:=h;rfl
 ·obtain ⟨p,rfl,q⟩:=h;exact ⟨_,(qg (qh q25)),q⟩
def qdl (T:Txt K mg):MDef P w K mg base 1 (cA mg "Truths") "either" ["self","one","other"] (qvl (· || ·)):=by
 refine T.qfm.ok qdc (λ vs H Q E h=> ?_) λ f cdv A outer s H vs Q E hr h=> ?_
 ·obtain ⟨p,i,j,rfl,_⟩:=h;rfl
 ·obtain ⟨p,i,j,rfl,q⟩:=h;refine ⟨_,(qg (qh (qv7 (pv 1) (q51 (pv 2))))),⟨_,zr,_,zr,?_⟩⟩;cases i with
  | true=>exact iteT q
  | false=>exact iteF ⟨_,rfl,q⟩
def qgv (T:Txt K mg):MDef P w K mg base 1 (cA mg "Truths") "both" ["self","one","other"] (qvl (· && ·)):=by
 refine T.qjh.ok qgh (λ vs H Q E h=> ?_) λ f cdv A outer s H vs Q E hr h=> ?_
 ·obtain ⟨p,i,j,rfl,_⟩:=h;rfl
 ·obtain ⟨p,i,j,rfl,q⟩:=h;refine ⟨_,(qg (qh (q7a (pv 1) (q51 (pv 2))))),⟨_,zr,_,zr,?_⟩⟩;cases i with
  | true=>exact iteT ⟨_,rfl,q⟩
  | false=>exact iteF q
def q8d (m:Int) (ns:List Int):List Int:=(Tim.srt q1j ns).take m.toNat
def sums (a b:List Int):List Int:=a.flatMap λ x=>b.map λ y=>x+y
def qu2 (a b:List Int):(sums a b).length=a.length*b.length:=by
 unfold sums
 induction a with
 | nil=>simp
 | cons x a ih=>rw [List.flatMap_cons,z1n,ih,z2z,z2h,Nat.succ_mul,Nat.add_comm]
def qu3 (xs:List V) {m:Int} (h:0<=m):cutV xs none (some m)=xs.take m.toNat:=by
 obtain ⟨n,rfl⟩:=z0l h;unfold cutV;rw [HT.sIx_nat,HT.sIx_none,List.drop_zero];show xs.take (min n xs.length - 0)=xs.take n;rw [Nat.sub_zero,<- List.take_eq_take_min]
def BeAt (mg:xE) (H:Hp) (p:Addr) (m:Int):Prop:=∃ dx,H p=some (.ins (cA mg "Bests") dx [("most",.int m)])
def BeAt.same {mg:xE} {H H':Hp} {p:Addr} {m:Int} (h:BeAt mg H p m) (s:Same H H'):BeAt mg H' p m:=by
 obtain ⟨dx,e⟩:=h;exact ⟨dx,s _ _ e⟩
def qu4 (C:Addr):Sp:=λ vs H Q _=>∃ (p dx:Addr) (v:V),vs=[.ref p,v]/\H p=some (.ins C dx [])/\Q .non (upd H p (.ins C dx [("most",v)]))
def qa3 (T:Txt K mg):IDef P w K mg base 1 (cA mg "Bests") "many" (.int 3) (qu4 (cA mg "Bests")):=by
 refine T.qm1.ok qiy (λ vs H Q E h=> ?_) λ f cdv A outer s H vs Q E hr h=> ?_
 ·obtain ⟨p,dx,v,rfl,_⟩:=h;rfl
 ·obtain ⟨p,dx,v,rfl,hp,q⟩:=h;exact ⟨_,(qg (qqg (pv 0) (pv 1) rfl)),⟨_,rfl,_,rfl,p,_,dx,_,rfl,hp,T.q4c,T.q5g,(by show 0 < 1000;decide),q⟩⟩
def qu5 (mg:xE):Sp:=λ vs H Q _=>∃ (p b:Addr) (m:Int) (ns:List Int),vs=[.ref p,.ref b]/\BeAt mg H p m/\0<=m/\H b=some (.lst (ns.map V.int))/\∀ l H',Same H H' ->H l=none ->H' l=some (.lst ((q8d m ns).map V.int)) ->Q (.ref l) H'
def q3t (T:Txt K mg):MDef P w K mg base 1 (cA mg "Bests") "least_ones" ["self","numbers"] (qu5 mg):=by
 refine T.qbo.ok qa8 (λ vs H Q E h=> ?_) λ f cdv A outer s H vs Q E hr h=> ?_
 ·obtain ⟨p,b,m,ns,rfl,_⟩:=h;rfl
 ·obtain ⟨p,b,m,ns,rfl,⟨dx,hp⟩,m0,hb,q⟩:=h;refine ⟨_,(qg (qh (q21 (q31 K) (qp (q7e K) rfl T.q2q q2e (pa_1 (pv 1))) q4d (q1p (qan (pv 0) rfl))))),?_⟩;refine ⟨_,zr,b,ns,zr,.inl (SqL.of hb),λ l hl=> ?_⟩;have s1:=qf (o:=HO.lst ((Tim.srt q1j ns).map V.int)) hl;refine ⟨_,zr,p,_,dx,_,_,zr,s1 _ _ hp,T.q4c,T.q5g,zr,_,zr,_,_,zr,SqL.of qb,λ l2 J=> ?_⟩;rw [qu3 _ m0,<- List.map_take];exact q l2 _ (s1.trans (qf J)) (s1.free J) qb
def qpk:Sp:=λ vs H Q _=>∃ p:Addr,vs=[.ref p]/\∀ l,H l=none ->Q (.ref l) (upd H l (.lst []))
def qf6 (T:Txt K mg):MDef P w K mg base 1 (cA mg "Bests") "nought" ["self"] qpk:=by
 refine T.qh6.ok qet (λ vs H Q E h=> ?_) λ f cdv A outer s H vs Q E hr h=> ?_
 ·obtain ⟨p,rfl,_⟩:=h;rfl
 ·obtain ⟨p,rfl,q⟩:=h;exact ⟨_,(qg (qh (q1e q26))),⟨by decide,q⟩⟩
def qu6:Sp:=λ vs H Q _=>∃ p:Addr,vs=[.ref p]/\∀ l,H l=none ->Q (.ref l) (upd H l (.lst [.int 0]))
def qj7 (T:Txt K mg):MDef P w K mg base 1 (cA mg "Bests") "unit" ["self"] qu6:=by
 refine T.qm5.ok qj0 (λ vs H Q E h=> ?_) λ f cdv A outer s H vs Q E hr h=> ?_
 ·obtain ⟨p,rfl,_⟩:=h;rfl
 ·obtain ⟨p,rfl,q⟩:=h;exact ⟨_,(qg (qh (q1e (pa_1 qc)))),⟨by show 1<=sizeLine;decide,q⟩⟩
def qry (mg:xE) (g:List Int ->List Int ->List Int):Sp:=λ vs H Q _=>∃ (p a b:Addr) (m:Int) (xs ys:List Int),vs=[.ref p,.ref a,.ref b]/\BeAt mg H p m/\0<=m/\H a=some (.lst (xs.map V.int))/\H b=some (.lst (ys.map V.int))/\xs.length<=20/\ys.length<=20/\
 ∀ l H',Same H H' ->H l=none ->H' l=some (.lst ((q8d m (g xs ys)).map V.int)) ->Q (.ref l) H'
def qf7 (T:Txt K mg):MDef P w K mg base 2 (cA mg "Bests") "either" ["self","one","other"] (qry mg (· ++ ·)):=by
 refine T.qhb.ok qeu (λ vs H Q E h=> ?_) λ f cdv A outer s H vs Q E hr h=> ?_
 ·obtain ⟨p,a,b,m,xs,ys,rfl,_⟩:=h;rfl
 ·obtain ⟨p,a,b,m,xs,ys,rfl,O,m0,ha,hb,lx,ly,q⟩:=h;refine ⟨_,(qg (qh (qg3 (q3t T) T.q4c hr (pv 0) (pa_1 (qk qeh (pv 1) (pv 2)))))),?_⟩;obtain ⟨dx,J⟩:=id O;refine ⟨_,rfl,p,dx,_,rfl,J,rfl,_,rfl,_,rfl,a,b,_,_,rfl,rfl,ha,hb,by rw [z2z,z2z];exact z3x (q1i (by lia)),λ c hc=> ?_⟩;have s1:=qf (o:=HO.lst (xs.map V.int++ys.map V.int)) hc;exact ⟨p,c,m,xs++ys,zr,O.same s1,m0,by rw [qb,z35],λ l H' s' hl e=>q l H' (s1.trans s') (s1.free hl) e⟩
def qj8 (T:Txt K mg):MDef P w K mg base 2 (cA mg "Bests") "both" ["self","one","other"] (qry mg sums):=by
 refine T.qm2.ok q6u (λ vs H Q E h=> ?_) λ f cdv A outer s H vs Q E hr h=> ?_
 ·obtain ⟨p,a,b,m,xs,ys,rfl,_⟩:=h;rfl
 ·obtain ⟨p,a,b,m,xs,ys,rfl,hp,m0,ha,hb,lx,ly,q⟩:=h;refine ⟨_,(q4e
   (qo (i:=3) q6u.nd rfl (Or.inl rfl) (q1e q26))
   (q22 PassesOwn.never rfl (q1f K (pv 1)) (q13 (i:=4) q6u.nd rfl (Or.inr rfl)) (qg (q2b (q64 z0k z0d z0e q88 (pv 3) (pa_1 (q29 (N:=["more","number"]) (caps:=[none,some 4]) rfl (by with_unfolding_all rfl) (q1f K (pv 2)) (λ _ _ _ _ _=>(q13 (i:=0) (show (["more","number"]:xD).Nodup by decide+kernel) rfl (Or.inl rfl))) (λ _ _ _ _ _=>q2o) (λ _ _ _ _ _=>(qk q19 (pv 1) (pv 0)))))))))
   (qh (qg3 (q3t T) T.q4c hr (pv 0) (pa_1 (pv 3))))),?_⟩
  refine ⟨by decide,λ S hS=> ?_⟩;refine ⟨_,rfl,a,rfl,⟨_,SqL.of (qf hS _ _ ha)⟩,q2n (xs:=xs.map V.int) (λ i σ H'=>∃ v:Option V,σ=[some (.ref p),some (.ref a),some (.ref b),some (.ref S),v]/\Same H H'/\H' S=some (.lst ((sums (xs.take i) ys).map V.int))) ⟨none,rfl,qf hS,qb⟩ (λ i σ H' _ z=>by obtain ⟨_,_,z,_⟩:=z;exact SqL.of (z _ _ ha)) ?_ ?_⟩
  ·rintro i x σ H' hx ⟨v,rfl,s1,h1⟩;rw [z21] at hx;obtain ⟨n,Z,rfl⟩:=z0p.mp hx;have il:i < xs.length:=(z07.mp Z).1;have J:=s1 _ _ hb;refine ⟨_,zr,.inl ⟨zr,_,SqL.of h1⟩,_,zr,b,zr,⟨_,SqL.of J⟩,λ D hD=> ?_⟩;refine q1w (ys.map V.int).length (λ i σ' G=>(∃ v,σ'=[v,some (.int n)])/\Same H' G/\G D=some (.lst (((ys.take i).map λ y=>n+y).map V.int))) ⟨⟨_,zr⟩,qf hD,qb⟩ (λ i σ' G hi p=> ?_) (λ σ' G p=>⟨?_,?_⟩) (λ i σ' G hi p x H2 y=> ?_)
   ·obtain ⟨_,O,_⟩:=p;exact ⟨_,_,SqL.of (O _ _ J),z0c hi⟩
   ·obtain ⟨_,O,_⟩:=p;exact ⟨_,SqL.of (O _ _ J),z47 _⟩
   ·obtain ⟨_,O,e⟩:=p;rw [z2z,z2s] at e;have el:(sums (xs.take i) ys).length<=400:=by
     rw [qu2,z2f];exact z3i (show min i xs.length<=20 by lia) ly
    refine ⟨S,D,_,_,rfl,rfl,O _ _ h1,e,by rw [z2z,z2z,z2z];exact z3x (q1i (by lia)),_,rfl,(s1.trans O).set hS,?_⟩;rw [qb,z3g,Z,<- z35]
    congr 3
    unfold sums;rw [z1i];show _=_++List.flatMap _ [n];rw [List.flatMap_cons,List.flatMap_nil,z30]
   ·obtain ⟨⟨v,rfl⟩,O,e⟩:=p;obtain ⟨rfl,hx⟩:=y;have a2:=hx _ (SqL.of (O _ _ J));rw [z21] at a2;obtain ⟨z,a3,rfl⟩:=z0p.mp a2;refine ⟨_,zr,_,zr,_,_,zr,zr,?_⟩;refine ⟨_,e,by rw [z2z,z2z,z2f];exact q1i (by lia),⟨_,rfl⟩,O.set hD,?_⟩;rw [qb,z3g,a3,z35,z35];rfl
  ·rintro σ H' ⟨v,rfl,s1,h1⟩;rw [z2z,z2s] at h1;obtain ⟨dx,a1⟩:=hp.same s1;exact ⟨_,zr,p,dx,_,zr,a1,zr,_,zr,p,S,m,sums xs ys,zr,⟨dx,a1⟩,m0,h1,λ l H2 s2 hl e=>q l H2 (s1.trans s2) (s1.free hl) e⟩
def qzd:Sp:=λ vs H Q _=>∃ o,vs=[o]/\∀ p,H p=none ->Q (.ref p) (upd H p (.lst []))
def qf8 (T:Txt K mg):MDef P w K mg base 1 (cA mg "Hands") "nought" ["self"] qzd:=by
 refine T.qh7.ok qev (λ vs H Q E h=> ?_) λ f cdv A outer s H vs Q E hr h=> ?_
 ·obtain ⟨o,rfl,_⟩:=h;rfl
 ·obtain ⟨o,rfl,k⟩:=h;exact ⟨_,(qg (qh (q1e q26))),by show 0<=sizeLine;decide,λ p hp=>k p hp⟩
def qze:Sp:=λ vs H Q _=>∃ o,vs=[o]/\∀ p e H',Same H H' ->H p=none ->H' p=some (.lst [.ref e]) ->H' e=some (.tup []) ->Q (.ref p) H'
def qj9 (T:Txt K mg):MDef P w K mg base 1 (cA mg "Hands") "unit" ["self"] qze:=by
 refine T.qm4.ok qj2 (λ vs H Q E h=> ?_) λ f cdv A outer s H vs Q E hr h=> ?_
 ·obtain ⟨o,rfl,_⟩:=h;rfl
 ·obtain ⟨o,rfl,k⟩:=h;refine ⟨_,(qg (qh (q1e (pa_1 (q54 q26))))),by show 0<=sizeLine;decide,λ e he=>⟨by show 1<=sizeLine;decide,λ p J=> ?_⟩⟩;have s1:=qf (o:=HO.tup []) he;have O:=qf (o:=HO.lst [.ref e]) J;exact k p e _ (s1.trans O) (s1.free J) qb (O _ _ qb)
def qxh:Sp:=λ vs H Q _=>∃ (o:V) (a b:Addr) (xs ys:List V) (A B:xF),vs=[o,.ref a,.ref b]/\H a=some (.lst xs)/\H b=some (.lst ys)/\q1z H xs A/\q1z H ys B/\A.length<=2000/\B.length<=2000/\(∀ r∈A,r.length<=15/\endW∉r)/\(∀ r∈B,r.length<=15/\endW∉r)/\
 ∀ p zs (R:xF) H',Same H H' ->H p=none ->H' p=some (.lst zs) ->q1z H' zs R ->Acc R ->(∀ x,Up R x↔Up (A++B) x) ->Q (.ref p) H'
def qf9 (T:Txt K mg):MDef P w K mg base 4 (cA mg "Hands") "either" ["self","one","other"] qxh:=by
 refine T.qhc.ok qew (λ vs H Q E h=> ?_) λ f cdv A outer s H vs Q E hr h=> ?_
 ·obtain ⟨o,a,b,xs,ys,A,B,rfl,_⟩:=h;rfl
 ·obtain ⟨o,a,b,xs,ys,FA,FB,rfl,ha,hb,J,O,lA,lB,wA,wB,k⟩:=h;have l1:=Paired.length J;have l2:=Paired.length O;refine ⟨_,(qg (qh (q12 (q9p T) hr rfl (pa_1 (qk qeh (pv 1) (pv 2)))))),?_⟩;refine ⟨_,zr,_,zr,a,b,_,_,zr,zr,ha,hb,z3x (q16 (by lia)),λ c hc=> ?_⟩;have s1:=qf (o:=HO.lst (xs++ys)) hc;refine ⟨c,xs++ys,FA++FB,rfl,SqL.of qb,qid (q1s (λ b ys e=>s1 b _ e) (q28 J O)),by rw [z1n];lia,λ r hr=> ?_,λ p zs R H' s2 hp ep tp aR uR=>k p zs R H' (s1.trans s2) (s1.free hp) ep tp aR uR⟩;have:=(z2t.mp hr).elim (wA r) (wB r);exact ⟨by lia,this.2⟩
def qu7 (K:xA):Sp:=λ vs H Q E=>∃ o ws,vs=o::ws/\qrt K ws H Q E
def qja (T:Txt K mg):MDef P w K mg base 5 (cA mg "Hands") "both" ["self","one","other"] (qu7 K):=by
 refine T.qmh.ok qj3 (λ vs H Q E h=> ?_) λ f cdv A outer s H vs Q E hr h=> ?_
 ·obtain ⟨o,ws,rfl,a,b,xs,ys,A,B,rfl,_⟩:=h;rfl
 ·obtain ⟨o,ws,rfl,a,b,xs,ys,FA,FB,rfl,h⟩:=h;exact ⟨_,(qg (qh (q12 (qru T) hr rfl (pa_2 (pv 1) (pv 2))))),_,zr,_,zr,a,b,xs,ys,FA,FB,zr,h⟩
def AscI (l:List Int):Prop:=l.Pairwise λ a b=>q1j b a=false
def qba (m:Int) (a:List Int):AscI (q8d m a):=(Tim.q2v q3h a).sublist (List.take_sublist _ _)
def minS (F:xF):List (List Str):=(F.map uniq).filter λ u=> !(F.map uniq).any λ v=>decide ((∀ w∈v,w∈u)/\v≠u)
def nubF:List (List Str) ->List (List Str)
 | []=>[]
 | x::l=>if x∈l then nubF l else x::nubF l
theorem q9s {x:xD}:∀ {l:xF},x∈nubF l↔x∈l
 | []=>Iff.rfl
 | y::l=>by
  unfold nubF;split
  ·rename_i h;rw [q9s,z3m];exact ⟨.inr,λ z=>z.elim (λ e=>e ▸ h) id⟩
  ·rw [z3m,z3m,q9s]
theorem qgw:∀ l:List (List Str),(nubF l).Nodup
 | []=>z3f
 | y::l=>by
  unfold nubF;split
  ·exact qgw l
  ·rename_i h;exact z31.mpr ⟨λ z=>h (q9s.mp z),qgw l⟩
def q3w (F:xF):List (List Str):=Tim.srt q1c (nubF (minS F))
def q4z {F:xF} {r:xD}:r∈q3w F↔r∈minS F:=by
 unfold q3w;rw [(Tim.q18 q1c _).mem_iff,q9s]
def q60 {F:xF} {r:xD}:r∈minS F↔(∃ f∈F,uniq f=r)/\∀ f∈F,(∀ w∈uniq f,w∈r) ->uniq f=r:=by
 unfold minS;rw [z2w,z44];refine and_congr Iff.rfl ?_
 constructor
 ·intro h f hf hw
  apply Classical.byContradiction
  intro hn;have:((F.map uniq).any λ v=>decide ((∀ w∈v,w∈r)/\v≠r))=true:=z2o.mpr ⟨uniq f,z44.mpr ⟨f,hf,rfl⟩,z3b ⟨hw,hn⟩⟩;rw [this] at h;cases h
 ·intro h;have:((F.map uniq).any λ v=>decide ((∀ w∈v,w∈r)/\v≠r))=false:=by
   rw [List.any_eq_false];intro v hv;obtain ⟨f,hf,rfl⟩:=z44.mp hv;intro z;have z:=of_decide_eq_true z;exact z.2 (h f hf z.1)
  rw [this];rfl
def q49 (F:xF):Acc (q3w F):=by
 refine ⟨q6a q2p (Tim.q2v q2p _) ((Tim.q18 q1c _).nodup_iff.mpr (qgw _)),λ r hr=> ?_,λ r hr q hq h=> ?_⟩
 ·obtain ⟨⟨f,_,rfl⟩,_⟩:=q60.mp (q4z.mp hr);exact q4y f
 ·obtain ⟨⟨f,hf,rfl⟩,_⟩:=q60.mp (q4z.mp hr);exact (q60.mp (q4z.mp hq)).2 f hf h
theorem qo1 {F:xF}:∀ (n:Nat) (f:xD),f∈F ->(uniq f).length<=n ->∃ r∈minS F,∀ w∈r,w∈uniq f
 | n,f,hf,hn=>by
  by_cases z:∀ g∈F,(∀ w∈uniq g,w∈uniq f) ->uniq g=uniq f
  ·exact ⟨uniq f,q60.mpr ⟨⟨f,hf,zr⟩,z⟩,λ _ z=>z⟩
  ·obtain ⟨g,z⟩:=Classical.not_forall.mp z;obtain ⟨hg,z⟩:=Classical.not_imp.mp z;obtain ⟨hw,J⟩:=Classical.not_imp.mp z;have hl:(uniq g).length < (uniq f).length:=by
    apply Classical.byContradiction
    intro q;exact J (qlo (q4y g) (q4y f) hw (by lia))
   match n with
   | 0=>lia
   | n+1=>
    obtain ⟨r,hr,h⟩:=qo1 n g hg (by lia);exact ⟨r,hr,λ w q=>hw w (h w q)⟩
def qdm {F:xF} {x:xD}:Up (q3w F) x↔Up F x:=by
 constructor
 ·rintro ⟨r,hr,h⟩;obtain ⟨⟨f,hf,rfl⟩,_⟩:=q60.mp (q4z.mp hr);exact ⟨f,hf,λ w hw=>h w ((q34 f w).mpr hw)⟩
 ·rintro ⟨f,hf,h⟩;obtain ⟨r,hr,h1⟩:=qo1 _ f hf (z47 _);exact ⟨r,q4z.mpr hr,λ w hw=>h w ((q34 f w).mp (h1 w hw))⟩
def q7x {A R:xF} (a:Acc R) (h:∀ x,Up R x↔Up A x):R=q3w A:=qza a (q49 A) λ x=>(h x).trans qdm.symm
inductive Wo where
 | num (i:Int) | non | nums (l:List Int) | tr (b:Bool) | acc (R:xF)
inductive Kd where
 | counts | costs | bests (m:Int) | trusts (t:Int) | truths | hands
def Kd.ok:Kd ->Prop
 | .bests m=>1<=m/\m<=9
 | .trusts t=>0<=t
 | _=>True
structure HOk (W:xD):Prop where
 few:W.length<=7
 ne:endW∉W
 ok:∀ w∈W,PyData.strOk w=true
inductive q11 (W:xD):Kd ->Wo ->Prop where
 | counts {i:Int} (h:0<=i):q11 W .counts (.num i)
 | costN (i:Int):q11 W .costs (.num i)
 | costX:q11 W .costs .non
 | bests {m:Int} {l:List Int} (h:AscI l) (hl:l.length<=m.toNat):q11 W (.bests m) (.nums l)
 | trusts {t i:Int} (h:0<=i) (h2:i<=t):q11 W (.trusts t) (.num i)
 | truths (b:Bool):q11 W .truths (.tr b)
 | hands {R:xF} (a:Acc R) (o:Of 7 W R):q11 W .hands (.acc R)
def noW:Kd ->Wo
 | .counts=> .num 0
 | .costs=> .non
 | .bests _=> .nums []
 | .trusts _=> .num 0
 | .truths=> .tr false
 | .hands=> .acc []
def unW:Kd ->Wo
 | .counts=> .num 1
 | .costs=> .num 0
 | .bests _=> .nums [0]
 | .trusts t=> .num t
 | .truths=> .tr true
 | .hands=> .acc [[]]
def eiW:Kd ->Wo ->Wo ->Wo
 | .counts,.num i,.num j=> .num (i+j)
 | .costs,.non,y=>y
 | .costs,.num i,.num j=> .num (if j < i then j else i)
 | .bests m,.nums a,.nums b=> .nums (q8d m (a++b))
 | .trusts _,.num i,.num j=> .num (if j > i then j else i)
 | .truths,.tr a,.tr b=> .tr (a || b)
 | .hands,.acc A,.acc B=> .acc (q3w (A++B))
 | _,x,_=>x
def boW:Kd ->Wo ->Wo ->Wo
 | .counts,.num i,.num j=> .num (i*j)
 | .costs,.num i,.num j=> .num (i+j)
 | .bests m,.nums a,.nums b=> .nums (q8d m (sums a b))
 | .trusts _,.num i,.num j=> .num (if j < i then j else i)
 | .truths,.tr a,.tr b=> .tr (a&&b)
 | .hands,.acc A,.acc B=> .acc (q3w (q5e A B))
 | _,_,_=> .non
def Of.nil {W:xD} (h:HOk W):Of 7 W []:=⟨by decide,h.few,h.ne,λ _ z=>nomatch z⟩
def Of.one {W:xD} (h:HOk W):Of 7 W [[]]:=⟨by decide,h.few,h.ne,λ r hr w hw=>by rw [z1l.mp hr] at hw;cases hw⟩
def qzf:Acc []:=⟨List.Pairwise.nil,(λ _ z=>nomatch z),λ _ z=>nomatch z⟩
def qzg:Acc [[]]:=⟨z0h _ _,(λ r hr=>by rw [z1l.mp hr];exact List.Pairwise.nil),λ r hr q hq _=>by rw [z1l.mp hr,z1l.mp hq]⟩
def qpl {A:xF} (a:Acc A):q3w A=A:=(q7x a λ _=>Iff.rfl).symm
section
variable {W:xD} {k:Kd} {a b c:Wo}
def qdn (m:Int) (l:List Int):(q8d m l).length<=m.toNat:=by
 unfold q8d;rw [z2f]
 lia
def qxi (hW:HOk W):q11 W k (noW k)\/ ∃ t,k= .trusts t:=by
 cases k with
 | counts=>exact .inl (.counts (z49 _))
 | costs=>exact .inl .costX
 | bests m=>exact .inl (.bests List.Pairwise.nil (z4a _))
 | trusts t=>exact .inr ⟨t,rfl⟩
 | truths=>exact .inl (.truths _)
 | hands=>exact .inl (.hands qzf (.nil hW))
def q7y (hW:HOk W) (hk:k.ok):q11 W k (noW k):=by
 rcases qxi (k:=k) hW with h | ⟨t,rfl⟩
 ·exact h
 ·exact .trusts (z49 _) hk
def qzh (hW:HOk W) (hk:k.ok):q11 W k (unW k):=by
 cases k with
 | counts=>exact .counts (by decide)
 | costs=>exact .costN _
 | bests m=>
  have:1<=m:=hk.1;exact .bests (z0h _ _) (by show 1<=m.toNat;lia)
 | trusts t=>exact .trusts hk (z49 _)
 | truths=>exact .truths _
 | hands=>exact .hands qzg (.one hW)
def q8x (ha:q11 W k a) (hb:q11 W k b):q11 W k (eiW k a b):=by
 cases ha with
 | counts h=>cases hb with | counts h'=>exact .counts (by lia)
 | costN i=>cases hb with
  | costN j=>exact .costN _
  | costX=>exact .costN _
 | costX=>exact hb
 | bests h hl=>cases hb with | bests h' hl'=>exact .bests (qba _ _) (qdn _ _)
 | trusts h h2=>cases hb with
  | trusts h' h2'=>
   refine .trusts ?_ ?_ <;> split <;> lia
 | truths x=>cases hb with | truths y=>exact .truths _
 | hands x o=>cases hb with | hands y o'=>exact .hands (q49 _) (o.thin o' (q49 _) λ _=>qdm)
def qzi (ha:q11 W k a) (hb:q11 W k b):q11 W k (boW k a b):=by
 cases ha with
 | counts h=>cases hb with | counts h'=>exact .counts (z3j h h')
 | costN i=>cases hb with
  | costN j=>exact .costN _
  | costX=>exact .costX
 | costX=>cases hb with
  | costN j=>exact .costX
  | costX=>exact .costX
 | bests h hl=>cases hb with | bests h' hl'=>exact .bests (qba _ _) (qdn _ _)
 | trusts h h2=>cases hb with
  | trusts h' h2'=>
   refine .trusts ?_ ?_ <;> split <;> lia
 | truths x=>cases hb with | truths y=>exact .truths _
 | hands x o=>cases hb with | hands y o'=>exact .hands (q49 _) (o.agr o' (q49 _) λ _=>qdm.trans qgo)
end
def WV (H:Hp):Wo ->V ->Prop
 | .num i,x=>x= .int i
 | .non,x=>x= .non
 | .tr b,x=>x= .bl b
 | .nums l,x=>∃ p,x= .ref p/\H p=some (.lst (l.map V.int))
 | .acc R,x=>∃ p zs,x= .ref p/\H p=some (.lst zs)/\q1z H zs R
def WV.same {H H':Hp} {w:Wo} {x:V} (h:WV H w x) (s:Same H H'):WV H' w x:=by
 cases w with
 | num i=>exact h
 | non=>exact h
 | tr b=>exact h
 | nums l=>
  obtain ⟨p,e,h⟩:=h;exact ⟨p,e,s _ _ h⟩
 | acc R=>
  obtain ⟨p,zs,e,h,t⟩:=h;exact ⟨p,zs,e,s _ _ h,q1s (λ b ys z=>s b _ z) t⟩
def dW:Wo ->PyData
 | .num i=> .int i
 | .non=> .none
 | .tr b=> .bool b
 | .nums l=> .list (l.map .int)
 | .acc R=> .list (R.map dR)
def WV.dat {K:xA} {W:xD} {k:Kd} {H:Hp} {w:Wo} {x:V} (hW:HOk W) (g:q11 W k w) (h:WV H w x):Dat K H (dW w) x:=by
 cases g with
 | counts _=>cases h;exact .int _
 | costN _=>cases h;exact .int _
 | costX=>cases h;exact .non
 | bests _ _=>
  obtain ⟨p,rfl,h⟩:=h;exact .lst (SqL.of h) (qb7 _)
 | trusts _ _=>cases h;exact .int _
 | truths _=>cases h;exact .bl _
 | hands a o=>
  obtain ⟨p,zs,rfl,h,t⟩:=h;exact .lst (SqL.of h) (qlq t λ r hr w hw=>hW.ok w (o.sub r hr w hw))
def qdo (w:Wo):(dW w).depth<=60:=by
 cases w with
 | num i=>exact z4a _
 | non=>exact z4a _
 | tr b=>exact z4a _
 | nums l=>exact z40 (z2p (Nat.le_of_eq (qez l))) (by decide)
 | acc R=>exact z40 (z2p (qo0 R)) (by decide)
def NewV (H:Hp) (x:V):Prop:=∀ p,x= .ref p ->H p=none
def q3b {H:Hp} {p:Addr} (h:H p=none):NewV H (.ref p):=λ q e=>by cases e;exact h
def q24 {H:Hp} (i:Int):NewV H (.int i):=λ _ e=>nomatch e
def qbb {H:Hp} (b:Bool):NewV H (.bl b):=λ _ e=>nomatch e
def q77 {H:Hp}:NewV H .non:=λ _ e=>nomatch e
def NewV.back {H H':Hp} {x:V} (s:Same H H') (h:NewV H' x):NewV H x:=λ p e=>s.free (h p e)
def clsK (mg:xE):Kd ->Addr
 | .counts=>cA mg "Counts"
 | .costs=>cA mg "Costs"
 | .bests _=>cA mg "Bests"
 | .trusts _=>cA mg "Trusts"
 | .truths=>cA mg "Truths"
 | .hands=>cA mg "Hands"
def fsK:Kd ->List (Str×V)
 | .bests m=>[("most",.int m)]
 | .trusts t=>[("top",.int t)]
 | _=>[]
def meN:List Str:=["nought","unit","either","both","fits","repeated"]
def qc2 {m:Str} (hm:m∈meN) (k:Kd):(fsK k).lookup m=none:=by
 cases k with
 | bests n=>
  have:(m=="most")=false:=by
   rw [beq_eq_false_iff_ne];intro e;subst e;exact absurd hm (by decide)
  show (match m=="most" with | true=>some _ | false=>List.lookup m [])=none;rw [this];rfl
 | trusts t=>
  have:(m=="top")=false:=by
   rw [beq_eq_false_iff_ne];intro e;subst e;exact absurd hm (by decide)
  show (match m=="top" with | true=>some _ | false=>List.lookup m [])=none;rw [this];rfl
 | _=>rfl
def qbc (k:Kd):(fsK k).lookup ("nought":Str)=none:=qc2 (by decide) k
def qzj (k:Kd):(fsK k).lookup ("unit":Str)=none:=qc2 (by decide) k
def qbd (k:Kd):(fsK k).lookup ("either":Str)=none:=qc2 (by decide) k
def qzk (k:Kd):(fsK k).lookup ("both":Str)=none:=qc2 (by decide) k
def qzl (k:Kd):(fsK k).lookup ("fits":Str)=none:=qc2 (by decide) k
def qzm (k:Kd):(fsK k).lookup ("repeated":Str)=none:=qc2 (by decide) k
def ByAt (mg:xE) (H:Hp) (o:Addr) (k:Kd):Prop:=∃ dx,H o=some (.ins (clsK mg k) dx (fsK k))
def ByAt.same {mg:xE} {H H':Hp} {o:Addr} {k:Kd} (h:ByAt mg H o k) (s:Same H H'):ByAt mg H' o k:=by
 obtain ⟨dx,e⟩:=h;exact ⟨dx,s _ _ e⟩
def szW:Wo ->Int
 | .num i=>i
 | _=>0
def q110 (mg:xE) (k:Kd):Sp:=λ vs H Q _=>∃ o,vs=[.ref o]/\ByAt mg H o k/\∀ z H',Same H H' ->NewV H z ->WV H' (noW k) z ->Q z H'
def q111 (mg:xE) (k:Kd):Sp:=λ vs H Q _=>∃ o,vs=[.ref o]/\ByAt mg H o k/\∀ z H',Same H H' ->NewV H z ->WV H' (unW k) z ->Q z H'
def q112 (mg:xE) (k:Kd):Sp:=λ vs H Q _=>∃ (o:Addr) (x y:V) (a b:Wo) (W:xD),vs=[.ref o,x,y]/\ByAt mg H o k/\k.ok/\q11 W k a/\q11 W k b/\WV H a x/\WV H b y/\∀ z H',Same H H' ->NewV H z ->WV H' (eiW k a b) z ->Q z H'
def q113 (mg:xE) (k:Kd):Sp:=λ vs H Q _=>∃ (o:Addr) (x y:V) (a b:Wo) (W:xD),vs=[.ref o,x,y]/\ByAt mg H o k/\k.ok/\q11 W k a/\q11 W k b/\WV H a x/\WV H b y/\(k= .counts ->szW a < 2^600/\szW b < 2^600)/\∀ z H',Same H H' ->NewV H z ->WV H' (boW k a b) z ->Q z H'
def LtW (k:Kd) (B:Int) (a:Wo):Prop:=k= .counts ->szW a < B
def LtW.mono {k:Kd} {A B:Int} {a:Wo} (h:LtW k A a) (hB:A<=B):LtW k B a:=λ e=>Int.lt_of_lt_of_le (h e) hB
def LtW.and {k:Kd} {A B:Int} {a b:Wo} (h:LtW k A a) (h2:LtW k B b):k= .counts ->szW a < A/\szW b < B:=λ e=>⟨h e,h2 e⟩
def LtW.bo {W:xD} {k:Kd} {A B:Int} {a b:Wo} (h:LtW k A a) (ga:q11 W k a) (gb:q11 W k b) (h2:LtW k B b) (hA:0<=A) (hB:0<=B):LtW k (A*B) (boW k a b):=λ e=>by
 subst e;cases ga with | counts i=>cases gb with | counts j=>
  have h1:=h rfl;have h2:=h2 rfl;exact z1u (z02 (z3u h2) i) (Int.mul_lt_mul_of_pos_right h1 (z1u j h2))
def q114 (k:Kd):LtW k (2^600) (noW k):=λ e=>by subst e;show (0:Int) < _;decide+kernel
def wd7 {W:xD} {R:xF} (a:Acc R) (o:Of 7 W R):∀ r∈R,r.length<=15/\endW∉r:=λ r hr=>⟨z40 (o.len hr (a.norm r hr)).1 (by decide),(o.len hr (a.norm r hr)).2⟩
def q30 (T:Txt K mg) (k:Kd):Cls K (clsK mg k):=by
 cases k with
 | counts=>exact T.qsb
 | costs=>exact T.qv6
 | bests _=>exact T.q4c
 | trusts _=>exact T.q8f
 | truths=>exact T.qse
 | hands=>exact T.qur
def q6c (T:Txt K mg) (k:Kd):MDef P w K mg base 1 (clsK mg k) "nought" ["self"] (q110 mg k):=by
 cases k with
 | counts=>exact (qdg T).imp λ vs H Q E ⟨o,e,_,q⟩=>⟨o,e,q _ _ (Same.refl _) (q24 _) rfl⟩
 | costs=>exact (qf4 T).imp λ vs H Q E ⟨o,e,_,q⟩=>⟨o,e,q _ _ (Same.refl _) q77 rfl⟩
 | bests _=>exact (qf6 T).imp λ vs H Q E ⟨o,e,_,q⟩=>⟨o,e,λ l hl=>q _ _ (qf hl) (q3b hl) ⟨l,rfl,qb⟩⟩
 | trusts _=>exact (qdi T).imp λ vs H Q E ⟨o,e,_,q⟩=>⟨o,e,q _ _ (Same.refl _) (q24 _) rfl⟩
 | truths=>exact (qdk T).imp λ vs H Q E ⟨o,e,_,q⟩=>⟨o,e,q _ _ (Same.refl _) (qbb _) rfl⟩
 | hands=>exact (qf8 T).imp λ vs H Q E ⟨o,e,_,q⟩=>⟨_,e,λ l hl=>q _ _ (qf hl) (q3b hl) ⟨l,[],rfl,qb,.nil⟩⟩
def qxj (T:Txt K mg) (k:Kd):MDef P w K mg base 1 (clsK mg k) "unit" ["self"] (q111 mg k):=by
 cases k with
 | counts=>exact (qgq T).imp λ vs H Q E ⟨o,e,_,q⟩=>⟨o,e,q _ _ (Same.refl _) (q24 _) rfl⟩
 | costs=>exact (qj5 T).imp λ vs H Q E ⟨o,e,_,q⟩=>⟨o,e,q _ _ (Same.refl _) (q24 _) rfl⟩
 | bests _=>exact (qj7 T).imp λ vs H Q E ⟨o,e,_,q⟩=>⟨o,e,λ l hl=>q _ _ (qf hl) (q3b hl) ⟨l,rfl,qb⟩⟩
 | trusts t=>exact (qgs T).imp λ vs H Q E ⟨o,e,⟨dx,h⟩,q⟩=>⟨o,dx,.int t,e,h,q _ _ (Same.refl _) (q24 _) rfl⟩
 | truths=>exact (qgu T).imp λ vs H Q E ⟨o,e,_,q⟩=>⟨o,e,q _ _ (Same.refl _) (qbb _) rfl⟩
 | hands=>exact (qj9 T).imp λ vs H Q E ⟨o,e,_,q⟩=>⟨_,e,λ p t H' s hp h1 h2=>q _ _ s (q3b hp) ⟨p,_,rfl,h1,.cons ⟨t,rfl,h2⟩ .nil⟩⟩
def q6d (T:Txt K mg) (k:Kd):MDef P w K mg base 4 (clsK mg k) "either" ["self","one","other"] (q112 mg k):=by
 cases k with
 | counts=>
  refine (MDef.mono (qdh T) (by decide)).imp λ vs H Q E J=> ?_;obtain ⟨o,x,y,a,b,W,e,_,_,ga,gb,O,Z,q⟩:=J;cases ga with | counts h=>cases gb with | counts h'=>
   cases O;cases Z
   exact ⟨o,_,_,e,q _ _ (Same.refl _) (q24 _) rfl⟩
 | costs=>
  refine (MDef.mono (qf5 T) (by decide)).imp λ vs H Q E J=> ?_;obtain ⟨o,x,y,a,b,W,e,_,_,ga,gb,O,Z,q⟩:=J;cases ga with
  | costN i=>cases gb with
   | costN j=>cases O;cases Z;exact ⟨o,_,_,e,.inr ⟨_,rfl⟩,.inr ⟨_,rfl⟩,q _ _ (Same.refl _) (q24 _) rfl⟩
   | costX=>cases O;cases Z;exact ⟨o,_,_,e,.inr ⟨_,rfl⟩,.inl rfl,q _ _ (Same.refl _) (q24 _) rfl⟩
  | costX=>cases gb with
   | costN j=>cases O;cases Z;exact ⟨o,_,_,e,.inl rfl,.inr ⟨_,rfl⟩,q _ _ (Same.refl _) (q24 _) rfl⟩
   | costX=>cases O;cases Z;exact ⟨o,_,_,e,.inl rfl,.inl rfl,q _ _ (Same.refl _) q77 rfl⟩
 | bests m=>
  refine (MDef.mono (qf7 T) (by decide)).imp λ vs H Q E J=> ?_;obtain ⟨o,x,y,a,b,W,e,⟨dx,hb⟩,hk,ga,gb,O,Z,q⟩:=J;cases ga with | bests h hl=>cases gb with | bests h' hl'=>
   obtain ⟨pa,rfl,ea⟩:=O;obtain ⟨pb,rfl,eb⟩:=Z;have:m<=9:=hk.2;have:1<=m:=hk.1;exact ⟨o,pa,pb,m,_,_,e,⟨dx,hb⟩,by lia,ea,eb,by lia,by lia,λ l H' s hl e=>q _ _ s (q3b hl) ⟨l,zr,e⟩⟩
 | trusts t=>
  refine (MDef.mono (qdj T) (by decide)).imp λ vs H Q E J=> ?_;obtain ⟨o,x,y,a,b,W,e,_,_,ga,gb,O,Z,q⟩:=J;cases ga with | trusts h h2=>cases gb with | trusts h' h2'=>
   cases O;cases Z
   exact ⟨o,_,_,e,q _ _ (Same.refl _) (q24 _) rfl⟩
 | truths=>
  refine (MDef.mono (qdl T) (by decide)).imp λ vs H Q E J=> ?_;obtain ⟨o,x,y,a,b,W,e,_,_,ga,gb,O,Z,q⟩:=J;cases ga with | truths h=>cases gb with | truths h'=>
   cases O;cases Z
   exact ⟨o,_,_,e,q _ _ (Same.refl _) (qbb _) rfl⟩
 | hands=>
  refine (MDef.mono (qf9 T) (by decide)).imp λ vs H Q E J=> ?_;obtain ⟨o,x,y,a,b,W,e,_,_,ga,gb,O,Z,q⟩:=J;cases ga with | hands A oA=>cases gb with | hands B oB=>
   obtain ⟨pa,za,rfl,ea,ta⟩:=O;obtain ⟨pb,zb,rfl,eb,tb⟩:=Z;have lA:=oA.cards A;have lB:=oB.cards B;refine ⟨_,pa,pb,za,zb,_,_,e,ea,eb,ta,tb,by lia,by lia,wd7 A oA,wd7 B oB,λ p zs R H' s hp ep tp aR uR=>q _ _ s (q3b hp) ⟨p,zs,zr,ep,?_⟩⟩;rw [<- q7x aR uR];exact tp
def qxk (T:Txt K mg) (k:Kd):MDef P w K mg base 5 (clsK mg k) "both" ["self","one","other"] (q113 mg k):=by
 cases k with
 | counts=>
  refine (MDef.mono (qgr T) (by decide)).imp λ vs H Q E J=> ?_;obtain ⟨o,x,y,a,b,W,e,_,_,ga,gb,O,Z,sz,q⟩:=J;cases ga with | counts h=>cases gb with | counts h'=>
   cases O;cases Z
   have sz:=sz rfl;exact ⟨o,_,_,e,⟨⟨h,sz.1⟩,h',sz.2⟩,q _ _ (Same.refl _) (q24 _) rfl⟩
 | costs=>
  refine (MDef.mono (qj6 T) (by decide)).imp λ vs H Q E J=> ?_;obtain ⟨o,x,y,a,b,W,e,_,_,ga,gb,O,Z,_,q⟩:=J;cases ga with
  | costN i=>cases gb with
   | costN j=>cases O;cases Z;exact ⟨o,_,_,e,.inr ⟨_,rfl⟩,.inr ⟨_,rfl⟩,q _ _ (Same.refl _) (q24 _) rfl⟩
   | costX=>cases O;cases Z;exact ⟨o,_,_,e,.inr ⟨_,rfl⟩,.inl rfl,q _ _ (Same.refl _) q77 rfl⟩
  | costX=>cases gb with
   | costN j=>cases O;cases Z;exact ⟨o,_,_,e,.inl rfl,.inr ⟨_,rfl⟩,q _ _ (Same.refl _) q77 rfl⟩
   | costX=>cases O;cases Z;exact ⟨o,_,_,e,.inl rfl,.inl rfl,q _ _ (Same.refl _) q77 rfl⟩
 | bests m=>
  refine (MDef.mono (qj8 T) (by decide)).imp λ vs H Q E J=> ?_;obtain ⟨o,x,y,a,b,W,e,⟨dx,hb⟩,hk,ga,gb,O,Z,_,q⟩:=J;cases ga with | bests h hl=>cases gb with | bests h' hl'=>
   obtain ⟨pa,rfl,ea⟩:=O;obtain ⟨pb,rfl,eb⟩:=Z;have:m<=9:=hk.2;have:1<=m:=hk.1;exact ⟨o,pa,pb,m,_,_,e,⟨dx,hb⟩,by lia,ea,eb,by lia,by lia,λ l H' s hl e=>q _ _ s (q3b hl) ⟨l,zr,e⟩⟩
 | trusts t=>
  refine (MDef.mono (qgt T) (by decide)).imp λ vs H Q E J=> ?_;obtain ⟨o,x,y,a,b,W,e,_,_,ga,gb,O,Z,_,q⟩:=J;cases ga with | trusts h h2=>cases gb with | trusts h' h2'=>
   cases O;cases Z
   exact ⟨o,_,_,e,q _ _ (Same.refl _) (q24 _) rfl⟩
 | truths=>
  refine (MDef.mono (qgv T) (by decide)).imp λ vs H Q E J=> ?_;obtain ⟨o,x,y,a,b,W,e,_,_,ga,gb,O,Z,_,q⟩:=J;cases ga with | truths h=>cases gb with | truths h'=>
   cases O;cases Z
   exact ⟨o,_,_,e,q _ _ (Same.refl _) (qbb _) rfl⟩
 | hands=>
  refine (MDef.mono (qja T) (by decide)).imp λ vs H Q E J=> ?_;obtain ⟨o,x,y,a,b,W,e,_,_,ga,gb,O,Z,_,q⟩:=J;cases ga with | hands A oA=>cases gb with | hands B oB=>
   obtain ⟨pa,za,rfl,ea,ta⟩:=O;obtain ⟨pb,zb,rfl,eb,tb⟩:=Z;have lA:=oA.card A;have lB:=oB.card B;refine ⟨_,_,e,pa,pb,za,zb,_,_,zr,SqL.of ea,SqL.of eb,ta,tb,z40 (z3i lA lB) (by decide),z40 lB (by decide),wd7 A oA,wd7 B oB,λ p zs R H' s hp ep tp aR uR=>q _ _ s (q3b hp) ⟨p,zs,zr,ep,?_⟩⟩;rw [<- q7x aR λ x=>(uR x).trans qgo.symm];exact tp
def itS (n:Int):Nat ->Int
 | 0=>n
 | i+1=>itS n i*48271%2147483647
def strF (c m:Int):List Int:=((List.range (m+2).toNat).map λ j=>itS (1+c%2147483646) (j+1)).drop 2
def q9t {c m:Int} (h:0<=m):(strF c m).length=m.toNat:=by
 unfold strF;rw [z2g,z2z,z28]
 lia
def qxl {c m n:Int} (h:n∈strF c m):0<=n/\n < 2147483647:=by
 obtain ⟨j,_,rfl⟩:=z44.mp (z13 h);exact ⟨z39 _ (by decide),z1v _ (by decide)⟩
def qdp {c m:Int} (k:Nat):0<=(strF c m).getD k 0/\(strF c m).getD k 0 < 2147483647:=by
 rw [z06];cases e:(strF c m)[k]? with
 | none=>exact ⟨z49 _,by decide⟩
 | some n=>exact qxl (z17 e)
def q61 {c m:Int} {k:Nat} (h:0<=m) (hk:(k:Int) < m):atI ((strF c m).map V.int) k=some (V.int ((strF c m).getD k 0)):=q1l (by rw [q9t h];lia)
def cutL (ns:List Int) (lo hi:Option Int):List Int:=(ns.drop (HT.sIx ns.length 0 lo)).take (HT.sIx ns.length ns.length hi - HT.sIx ns.length 0 lo)
def qfa (ns:List Int) (lo hi:Option Int):cutV (ns.map V.int) lo hi=(cutL ns lo hi).map V.int:=by
 unfold cutV cutL;rw [z2z,List.map_take,List.map_drop]
def qdq (ns:List Int) (lo hi:Option Int):(cutL ns lo hi).length<=ns.length:=by
 unfold cutL;rw [z2f,z2g]
 lia
def qgx (ns:List Int) (lo hi:Nat):(cutL ns (some (lo:Int)) (some (hi:Int))).length<=hi - lo:=by
 unfold cutL;rw [HT.sIx_nat,HT.sIx_nat,z2f]
 lia
def qpm:Sp:=λ vs H Q _=>∃ c m:Int,vs=[.int c,.int m]/\0<=m/\m<=100/\∀ p H',Same H H' ->H p=none ->H' p=some (.lst ((strF c m).map V.int)) ->Q (.ref p) H'
def q5f (T:Txt K mg):Def P w K mg base 1 "_law_stream" ["_law_cell","_law_many"] qpm:=by
 refine T.qa6.ok q1q (λ vs H Q E h=> ?_) λ f cdv A outer s H vs Q E hr h=> ?_
 ·obtain ⟨c,m,rfl,_⟩:=h;rfl
 ·obtain ⟨c,m,rfl,m0,m1,k⟩:=h;refine ⟨_,(q9c
   (qo (i:=2) q1q.nd rfl (Or.inl rfl) (qk q19 qc (qk qz (pv 0) qc)))
   (qo (i:=3) q1q.nd rfl (Or.inl rfl) (q1e q26))
   (q22 PassesOwn.never rfl (q4w rfl T.q78 (pa_1 (qk q19 (pv 1) qc))) (q13 (i:=4) q1q.nd rfl (Or.inl rfl)) (q2r
   (qo (i:=2) q1q.nd rfl (Or.inl rfl) (qk qz (qk q53 (pv 2) qc) qc))
   (q2b (q64 z0k z0f z0g q3y (pv 3) (pa_1 (pv 2))))))
   (qh (q21 (q31 K) (pv 3) (q1p qc) q4d))),?_⟩
  refine ⟨_,rfl,_,_,rfl,rfl,(by show (0:Int) < 2147483646;decide),_,_,rfl,rfl,?_⟩;refine ⟨by decide,λ p hp=> ?_⟩;refine ⟨_,zr,_,_,zr,zr,_,zr,by lia,by lia,q87 (lo:=0) (n:=(m+2).toNat) (λ i σ H'=>∃ (J:Option V),σ=[some (.int c),some (.int m),some (.int (itS (1+c%2147483646) i)),some (.ref p),J]/\H'=upd H p (.lst (((List.range i).map λ j=>itS (1+c%2147483646) (j+1)).map V.int)))
   ⟨none,rfl,rfl⟩ ?_ ?_⟩
  ·rintro i σ H' hi ⟨J,rfl,rfl⟩;refine ⟨_,rfl,_,_,rfl,rfl,.inr ⟨by decide,by decide⟩,_,_,rfl,rfl,(by show (0:Int) < 2147483647;decide),?_⟩;refine ⟨_,rfl,.inl ⟨rfl,_,SqL.of qb⟩,_,rfl,_,_,_,rfl,rfl,qb,by rw [z2z,z2z,z28];exact q1i (by lia),?_⟩;refine ⟨_,zr,?_⟩;rw [q5i,z34,z35,z35];rfl
  ·rintro σ H' ⟨J,rfl,rfl⟩;refine ⟨_,zr,_,zr,_,_,zr,SqL.of qb,λ q hq=> ?_⟩;have e:∀ ns:List Int,2<=ns.length ->cutV (ns.map V.int) (some 2) none=(ns.drop 2).map V.int:=λ ns h=>by
    have:=qlg (ns.map V.int) 2 (by rw [z2z];lia);rw [List.map_drop];exact this
   rw [e _ (by rw [z2z,z28];lia)];have s1:=qf (o:=HO.lst (((List.range (m+2).toNat).map λ j=>itS (1+c%2147483646) (j+1)).map V.int)) hp;exact k q _ (s1.trans (qf hq)) (s1.free hq) qb
def q8e (ws:xD) (n:Int):Str:=ws.getD (n%(ws.length:Int)).toNat endW
def oneS (ws:xD) (m c:Int):List Str:=if (strF c (m+3)).getD 1 0%16=5 then [] else (cutL (strF c (m+3)) (some 3) (some (4+(strF c (m+3)).getD 0 0%m))).map (q8e ws)
def qxm {ws:xD} {n:Int} (h:1<=ws.length):atI (ws.map V.str) (n%((ws.map V.str).length:Int))=some (V.str (q8e ws n)):=by
 rw [z2z];have h0:=z39 n (show (ws.length:Int)≠0 by lia);have h1:=z1v n (show (0:Int) < (ws.length:Int) by lia);obtain ⟨j,J⟩:=z0l h0;unfold q8e;rw [J];rw [J] at h1;have hl:j < ws.length:=by lia
 refine q5k ?_;show (ws.map V.str)[j]? =some (V.str (ws.getD j endW));rw [z21,z06,z0c hl];rfl
def qo2 {ws:xD} {n:Int} (h:1<=ws.length):q8e ws n∈ws:=by
 have h0:=z39 n (show (ws.length:Int)≠0 by lia);have h1:=z1v n (show (0:Int) < (ws.length:Int) by lia);unfold q8e;have hl:(n%(ws.length:Int)).toNat < ws.length:=by lia
 rw [z06,z0c hl];exact z2j hl
def qgy {u x:xD}:Up [u] x↔∀ w∈u,w∈x:=⟨λ ⟨f,hf,h⟩=>by rw [z1l.mp hf] at h;exact h,λ h=>⟨u,z1l.mpr rfl,h⟩⟩
def qgz {A B:xF} {x:xD}:Up (A++B) x↔Up A x\/ Up B x:=by
 constructor
 ·rintro ⟨a,ha,h⟩;rcases z2t.mp ha with ha | ha
  ·exact .inl ⟨a,ha,h⟩
  ·exact .inr ⟨a,ha,h⟩
 ·rintro (⟨a,ha,h⟩ | ⟨a,ha,h⟩)
  ·exact ⟨a,z2t.mpr (.inl ha),h⟩
  ·exact ⟨a,z2t.mpr (.inr ha),h⟩
def qzn {J F:xF} {u o:xD} (h:∀ x,Up J x↔Up F x) (hu:∀ x:List Str,(∀ w∈u,w∈x)↔∀ w∈o,w∈x):∀ x,Up (J.filter (λ r=> !decide (∀ x∈u,x∈r))++ [u]) x↔Up (F++ [o]) x:=λ x=>by
 rw [qgz,qgz,qgy,qgy,<- hu,<- h]
 constructor
 ·rintro (⟨r,hr,z⟩ | z)
  ·exact .inl ⟨r,(z2w.mp hr).1,z⟩
  ·exact .inr z
 ·rintro (⟨r,hr,z⟩ | z)
  ·by_cases q:∀ x∈u,x∈r
   ·exact .inr λ w hw=>z w (q w hw)
   ·exact .inl ⟨r,z2w.mpr ⟨hr,by rw [z2v q];rfl⟩,z⟩
  ·exact .inr z
def qzo {J F:xF} {u o:xD} (h:∀ x,Up J x↔Up F x) (hu:∀ x:List Str,(∀ w∈u,w∈x)↔∀ w∈o,w∈x) (hw:∃ r∈J,∀ x∈r,x∈u):∀ x,Up J x↔Up (F++ [o]) x:=λ x=>by
 rw [qgz,qgy,<- hu,<- h]
 constructor
 ·exact .inl
 ·rintro (z | z)
  ·exact z
  ·obtain ⟨r,hr,q⟩:=hw;exact ⟨r,hr,λ w hw=>z w (q w hw)⟩
def qpn:Sp:=λ vs H Q _=>∃ (ca wa:Addr) (cs:List Int) (ws:xD) (m:Int) (n:Nat),vs=[.ref ca,.ref wa,.int m]/\H ca=some (.lst (cs.map V.int))/\cs.length<=100/\H wa=some (.lst (ws.map V.str))/\1<=ws.length/\n<=10/\ws.length<=n/\endW∉ws/\1<=m/\m<=40/\
 ∀ p zs (R:xF) H',Same H H' ->H p=none ->H' p=some (.lst zs) ->q1z H' zs R ->Acc R ->Of n ws R ->R.length<=cs.length ->(∀ x,Up R x↔Up (cs.map (oneS ws m)) x) ->Q (.ref p) H'
def qfb (T:Txt K mg):Def P w K mg base 2 "_law_accord" ["_law_cells","_law_words_here","_law_most"] qpn:=by
  refine T.qjr.ok q23 (λ vs H Q E h=> ?_) λ f cdv A outer s H vs Q E hr h=> ?_
  · obtain ⟨ca,wa,cs,ws,m,nn,rfl,_⟩:=h
    rfl
  · obtain ⟨ca,wa,cs,ws,m,nn,rfl,d7,cl,f6,wl,e5,g1,g2,m0,m1,k⟩:=h
    refine ⟨_,(q4e
      (qo (i:=3) q23.nd rfl (Or.inl rfl) (q1e q26))
      (q22 PassesOwn.never rfl (q1f K (pv 0)) (q13 (i:=4) q23.nd rfl (Or.inl rfl)) (qox
      (qo (i:=5) q23.nd rfl (Or.inl rfl) (q12 (q5f T) hr rfl (pa_2 (pv 4) (qk q19 (pv 2) qc))))
      (q99 (i:=6) q23.nd rfl rfl (N:=["_law_number_here","_law_words_here"]) (caps:=[none,some 1]) rfl (by with_unfolding_all rfl) (q1f K (q21 (q31 K) (pv 5) (q1p qc) (q1p (qk q19 qc (qk qz (qy (ql K) (pv 5) qc (λ _ _=>rfl)) (pv 2)))))) (λ _ _ _ _ _=>(q13 (i:=0) (show (["_law_number_here","_law_words_here"]:xD).Nodup by decide+kernel) rfl (Or.inl rfl))) (λ _ _ _ _ _=>q2o) (λ _ _ _ _ _=>(qy (ql K) (pv 1) (qk qz (pv 0) (qp (q2y K) rfl T.b_len q3z (pa_1 (pv 1)))) (λ _ _=>rfl))))
      (q15 (qq q1h (qk qz (qy (ql K) (pv 5) qc (λ _ _=>rfl)) qc) qc (qt _)) (qg (qo (i:=6) q23.nd rfl (Or.inl rfl) (q1e q26))) qx)
      (qo (i:=7) q23.nd rfl (Or.inr rfl) (q2a (q8g K) rfl T.qc3 q9b (pa_1 (qp (qay rfl P w) rfl T.q2q q2e (pa_1 (q2a (qi1 rfl P w K) rfl T.b_set qrq (pa_1 (pv 6))))))))
      (q15 (q3k (q3x (qp (qhw rfl K) rfl T.b_any qqx (pa_1 (q29 (N:=["_law_old","_law_one"]) (caps:=[none,some 7]) rfl (by with_unfolding_all rfl) (q1f K (pv 3)) (λ _ _ _ _ _=>(q13 (i:=0) (show (["_law_old","_law_one"]:xD).Nodup by decide+kernel) rfl (Or.inl rfl))) (λ _ _ _ _ _=>q2o) (λ _ _ _ _ _=>(q12 (q8v T) hr rfl (pa_2 (pv 0) (pv 1))))))))) (qg (qo (i:=3) q23.nd rfl (Or.inl rfl) (qk qeh (q29 (N:=["_law_old","_law_one"]) (caps:=[none,some 7]) rfl (by with_unfolding_all rfl) (q1f K (pv 3)) (λ _ _ _ _ _=>(q13 (i:=0) (show (["_law_old","_law_one"]:xD).Nodup by decide+kernel) rfl (Or.inl rfl))) (λ _ _ _ _ _=>qek (q3k (q3x (q12 (q8v T) hr rfl (pa_2 (pv 1) (pv 0)))))) (λ _ _ _ _ _=>(pv 0))) (q1e (pa_1 (pv 7)))))) qx)))
      (qh (qp (qa1 hr.units K) rfl T.q2q q2e (pa_1 (pv 3))))),?_⟩
    refine ⟨by show 0<=sizeLine;decide,λ k0 f0=> ?_⟩;have s0:=qf (o:=HO.lst []) f0;refine ⟨_,rfl,ca,rfl,⟨_,SqL.of (s0 _ _ d7)⟩,q2n (xs:=cs.map V.int) (λ i σ H'=>∃ (v1 v2 v3 v4:Option V) (kq:Addr) (zs:List V) (O:xF),σ=[some (.ref ca),some (.ref wa),some (.int m),some (.ref kq),v1,v2,v3,v4]/\Same H H'/\H' kq=some (.lst zs)/\q1z H' zs O/\O.length<=i/\(∀ r∈O,Norm r/\∀ x∈r,x∈ws)/\(∀ r∈O,∀ q∈O,(∀ x∈r,x∈q) ->r=q)/\O.Nodup/\∀ x,Up O x↔Up ((cs.take i).map (oneS ws m)) x)
      ⟨none,none,none,none,k0,[],[],rfl,s0,qb,.nil,z47 _,(λ _ z=>nomatch z),(λ _ z=>nomatch z),z3f,λ _=>Iff.rfl⟩ (λ i σ H' _ z=>by obtain ⟨_,_,_,_,_,_,_,_,z,_⟩:=z;exact SqL.of (z _ _ d7)) ?_ ?_⟩
    · rintro i x σ H0 hx ⟨v1,v2,v3,v4,kq,zs,O,rfl,s1,ek,hz,lk,hN,a6,d1,c4⟩
      rw [z21] at hx;obtain ⟨c,d8,rfl⟩:=z0p.mp hx;have icl:i < cs.length:=(z07.mp d8).1;have lzk:=Paired.length hz;refine ⟨_,zr,_,zr,_,_,zr,zr,c,m+3,zr,by lia,by lia,λ p H1 t1 hpn hp=> ?_⟩;have hl:(strF c (m+3)).length=(m+3).toNat:=q9t (by lia);obtain ⟨ns,e0⟩:∃ ns,ns=strF c (m+3):=⟨_,rfl⟩;have c6:oneS ws m c=if ns.getD 1 0%16=5 then [] else (cutL ns (some 3) (some (4+ns.getD 0 0%m))).map (q8e ws):=by rw [e0];rfl
      have c7:(cs.take (i+1)).map (oneS ws m)=(cs.take i).map (oneS ws m)++ [oneS ws m c]:=by rw [z3g,d8,z35];rfl
      rw [<- e0] at hl hp;have a0:atI (ns.map V.int) 0=some (V.int (ns.getD 0 0)):=q1l (k:=0) (by lia);have a1:atI (ns.map V.int) 1=some (V.int (ns.getD 1 0)):=q1l (k:=1) (by lia);refine ⟨_,rfl,_,rfl,_,rfl,_,_,_,_,rfl,rfl,SqL.of hp,a0,_,rfl,_,_,rfl,rfl,(by show (0:Int) < m;lia),_,_,rfl,rfl,_,rfl,_,_,rfl,SqL.of hp,λ q hq=> ?_⟩;have lm:=qdq ns (some 3) (some (4+ns.getD 0 0%m));rw [qfa];obtain ⟨ms,f2⟩:∃ ms,ms=cutL ns (some 3) (some (4+ns.getD 0 0%m)):=⟨_,rfl⟩;rw [<- f2] at c6 lm ⊢;have t2:=qf (o:=HO.lst (ms.map V.int)) hq;refine ⟨q,zr,⟨_,SqL.of qb⟩,λ D hD=> ?_⟩;have t3:=qf (o:=HO.lst []) hD;refine q1w (ms.map V.int).length (λ i σ' H'=>(∃ v,σ'=[v,some (.ref wa)])/\Same (upd H1 q (.lst (ms.map V.int))) H'/\∃ ys:List Str,H' D=some (.lst (ys.map V.str))/\ys.length=i/\(∀ y∈ys,y∈ws)/\ys=(ms.take i).map (q8e ws)) ⟨⟨_,rfl⟩,t3,[],qb,rfl,(λ _ z=>nomatch z),rfl⟩ (λ i σ' H' hi p=> ?_) (λ σ' H' p=>⟨?_,?_⟩) (λ i σ' H' hi p x H2 y=> ?_)
      · obtain ⟨_,Z,_⟩:=p
        exact ⟨_,(ms.map V.int)[i],SqL.of (Z _ _ qb),z0c hi⟩
      · obtain ⟨_,Z,_⟩:=p
        exact ⟨_,SqL.of (Z _ _ qb),z47 _⟩
      · obtain ⟨_,Z,ys,e,yl,hys,c9⟩:=p
        rw [z2z] at yl;rw [z2z,z2s] at c9;have lys:ys.length<=43:=by lia
        have g0:=t1.trans (t2.trans Z);have f3:=Z _ _ (t2 _ _ hp)
        apply qvj
        · intro key
          refine ⟨_,rfl,_,_,_,_,rfl,rfl,SqL.of f3,a1,_,_,rfl,rfl,(by show (0:Int) < 16;decide),rfl,_,rfl,ite2 (λ c5=>⟨by show 0<=sizeLine;decide,λ D0 d5=> ?_⟩) (λ c5=> ?_)⟩
          · have a7:=g0.trans (qf (o:=HO.lst []) d5)
            have b8:([]:xD).length<=43:=by decide
            have b7:∀ y∈([]:xD),y∈ws:=λ _ z=>nomatch z;have c0:upd H' D0 (.lst []) D0=some (.lst (([]:xD).map V.str)):=qb;have hU:∀ x:List Str,(∀ w∈uniq [],w∈x)↔∀ w∈oneS ws m c,w∈x:=λ x=>by
              rw [c6,if_pos (by have:=of_decide_eq_true c5;injection this)];exact Iff.of_eq (forall_congr λ w=>by rw [q34])
            clear d5;generalize ([]:xD)=J at a7 b8 b7 c0 hU;generalize upd H' D0 (.lst [])=HX at a7 c0 ⊢;revert a7 b8 b7 c0 hU;revert J;revert HX;revert D0;exact key
          · have hU:∀ x:List Str,(∀ w∈uniq ys,w∈x)↔∀ w∈oneS ws m c,w∈x:=λ x=>by
              rw [c6,if_neg (λ z=>c5 (z3b (congrArg V.int z))),<- c9];exact Iff.of_eq (forall_congr λ w=>by rw [q34])
            refine key D H' ys ?_ ?_ ?_ ?_ ?_ <;> assumption
        · intro D0 HX J b1 b2 b3 b4 b5
          have a7:Same H0 HX:=by assumption
          have b8:J.length<=43:=by assumption
          have b7:∀ y∈J,y∈ws:=by assumption
          have c0:HX D0=some (.lst (J.map V.str)):=by assumption
          have hU:∀ x:List Str,(∀ w∈uniq J,w∈x)↔∀ w∈oneS ws m c,w∈x:=by assumption
          clear b1 b2 b3 b4 b5;have f1:=a7 _ _ ek;have e6:q1z HX zs O:=q1s (λ b ys z=>a7 b _ z) hz;refine ⟨_,rfl,D0,J,rfl,.inl (SqL.of c0),by have:=b8;lia,λ e1 us e7 f9 d2=> ?_⟩;have u1:=qf (o:=SetH P w e1 us) e7;refine ⟨e1,us,zr,qb,λ e2 e8=> ?_⟩;rw [qlb f9 d2];have u2:=qf (o:=HO.lst ((uniq J).map V.str)) e8;refine ⟨_,_,zr,.inl ⟨SqL.of qb,λ t ht=> ?_⟩⟩;have u3:=qf (o:=HO.tup ((uniq J).map V.str)) ht;have uA:=u1.trans (u2.trans u3);have et:=qb (H:=upd (upd HX e1 (SetH P w e1 us)) e2 (.lst ((uniq J).map V.str))) (a:=t) (o:=HO.tup ((uniq J).map V.str));have nu:=q4y J;have wu:∀ x∈uniq J,x∈ws:=λ x hx=>b7 x ((q34 J x).mp hx);have sB:=a7.trans uA;have a4:=uA _ _ f1;have a8:q1z (upd (upd (upd HX e1 (SetH P w e1 us)) e2 (.lst ((uniq J).map V.str))) t (.tup ((uniq J).map V.str))) zs O:=q1s (λ b ys z=>uA b _ z) e6;generalize upd (upd (upd HX e1 (SetH P w e1 us)) e2 (.lst ((uniq J).map V.str))) t (.tup ((uniq J).map V.str))=G1 at*;generalize uniq J=u at*;refine ⟨_,zr,kq,zr,⟨_,SqL.of a4⟩,λ D hD=> ?_⟩;refine q1w zs.length (λ j σ' H'=>(∃ v,σ'=[v,some (.ref t)])/\Same G1 H'/\H' D=some (.lst (((O.take j).map λ r=>decide (∀ x∈r,x∈u)).map V.bl))) ⟨⟨_,zr⟩,qf hD,qb⟩ (λ j σ' H' hj p=> ?_) (λ σ' H' p=>⟨?_,?_⟩) (λ j σ' H' hj p x H3 y=> ?_)
          · obtain ⟨_,Z,_⟩:=p
            exact ⟨_,zs[j],SqL.of (Z _ _ a4),z0c hj⟩
          · obtain ⟨_,Z,_⟩:=p
            exact ⟨_,SqL.of (Z _ _ a4),z47 _⟩
          · obtain ⟨_,Z,eD⟩:=p
            rw [Paired.length a8,z2s] at eD;refine ⟨D,O.map λ r=>decide (∀ x∈r,x∈u),zr,SqL.of eD,_,zr,ite2 (λ h1=> ?_) (λ h1=> ?_)⟩
            · have no:∀ r∈O,¬ ∀ x∈r,x∈u:=λ r hr z=>by
                have:((O.map λ r=>decide (∀ x∈r,x∈u)).any id)=true:=z2o.mpr ⟨true,z44.mpr ⟨r,hr,z3b z⟩,rfl⟩;rw [this] at h1;cases h1
              have b6:=Z _ _ a4;have d4:=Z _ _ et;have a9:q1z H' zs O:=q1s (λ b ys z=>Z b _ z) a8;refine ⟨_,zr,kq,zr,⟨_,SqL.of b6⟩,λ D2 d6=> ?_⟩;refine q1w zs.length (λ j σ' G2=>(∃ v,σ'=[v,some (.ref t)])/\Same H' G2/\∃ qs,G2 D2=some (.lst qs)/\q1z H' qs ((O.take j).filter λ r=> !decide (∀ x∈u,x∈r))/\qs.length<=j) ⟨⟨_,rfl⟩,qf d6,[],qb,.nil,z47 _⟩ (λ j σ' G2 hj p=> ?_) (λ σ' G2 p=>⟨?_,?_⟩) (λ j σ' G2 hj p x G3 y=> ?_)
              · obtain ⟨_,a2,_⟩:=p
                exact ⟨_,zs[j],SqL.of (a2 _ _ b6),z0c hj⟩
              · obtain ⟨_,a2,_⟩:=p
                exact ⟨_,SqL.of (a2 _ _ b6),z47 _⟩
              · obtain ⟨_,a2,qs,c8,hq,lq⟩:=p
                rw [Paired.length a9,z2s] at hq;rw [Paired.length a9] at lq;refine ⟨_,rfl,by show 1<=sizeLine;decide,λ e3 e9=> ?_⟩;have u4:=qf (o:=HO.lst [.ref t]) e9;refine ⟨D2,e3,_,_,rfl,rfl,u4 _ _ c8,qb,z3x (q16 (by show _+1 < _;lia)),λ pk f4=> ?_⟩;have u5:=qf (o:=HO.lst (qs++ [.ref t])) f4;have sC:=a2.trans (u4.trans u5);refine ⟨_,_,_,_,pk,_,O.filter (λ r=> !decide (∀ x∈u,x∈r))++ [u],rfl,s1.trans (sB.trans (Z.trans sC)),qb,q28 (q1s (λ b ys z=>sC b _ z) hq) (.cons ⟨t,rfl,sC _ _ d4⟩ .nil),?_,λ r hr=> ?_,λ r hr q a3 h=> ?_,?_,by rw [c7];exact qzn c4 hU⟩
                · have:=z0z (λ r=> !decide (∀ x∈u,x∈r)) O
                  rw [z1n];show _+1<=_
                  lia
                · rcases z2t.mp hr with hr | hr
                  · exact hN r (z2w.mp hr).1
                  · rw [z1l.mp hr]
                    exact ⟨nu,wu⟩
                · rcases z2t.mp hr with hr | hr
                  · rcases z2t.mp a3 with a3 | a3
                    · exact a6 r (z2w.mp hr).1 q (z2w.mp a3).1 h
                    · rw [z1l.mp a3] at h
                      exact absurd h (no r (z2w.mp hr).1)
                  · rcases z2t.mp a3 with a3 | a3
                    · rw [z1l.mp hr] at h
                      have:=(z2w.mp a3).2;rw [z3b h] at this;cases this
                    · rw [z1l.mp hr,z1l.mp a3]
                · rw [z2c]
                  refine ⟨d1.filter _,by simp,λ x hx y hy e=> ?_⟩;rw [z1l.mp hy] at e;exact no x (z2w.mp hx).1 (by rw [e];exact λ _ z=>z)
              · obtain ⟨⟨v,rfl⟩,a2,qs,c8,hq,lq⟩:=p
                obtain ⟨rfl,d3⟩:=y;have b9:=d3 _ (SqL.of (a2 _ _ b6));obtain ⟨r,br,hr,rfl,d0⟩:=q48 a9 b9;have c1:(O.take (j+1)).filter (λ r=> !decide (∀ x∈u,x∈r))=(O.take j).filter (λ r=> !decide (∀ x∈u,x∈r))++(if (!decide (∀ x∈u,x∈r))=true then [r] else []):=by
                  rw [z3g,hr,z1t]
                  congr 1
                  show List.filter _ [r]=_;rw [z2i,List.filter_nil]
                refine ⟨_,zr,_,zr,t,br,u,r,zr,a2 _ _ d4,a2 _ _ d0,_,zr,ite2 (λ h2=> ?_) (λ h2=> ?_)⟩
                · refine ⟨_,rfl,_,c8,q16 (by have:=Paired.length a9;lia),⟨_,rfl⟩,a2.set d6,_,qb,?_,by rw [z1n];show _+1<=_;lia⟩
                  rw [c1,if_pos h2];exact q28 hq (.cons ⟨br,zr,d0⟩ .nil)
                · refine ⟨⟨_,zr⟩,a2,qs,c8,?_,by lia⟩
                  rw [c1,if_neg h2,z30];exact hq
            · exact ⟨_,_,_,_,kq,zs,O,zr,s1.trans (sB.trans Z),Z _ _ a4,q1s (λ b ys z=>Z b _ z) a8,by lia,hN,a6,d1,by
                rw [c7];refine qzo c4 hU ?_;have h2:((O.map λ r=>decide (∀ x∈r,x∈u)).any id)=true:=by
                  cases z:((O.map λ r=>decide (∀ x∈r,x∈u)).any id) with
                  | true=>rfl
                  | false=>exact absurd (by rw [z];rfl) h1
                obtain ⟨b,hb,eb⟩:=z2o.mp h2;obtain ⟨r,hr,rfl⟩:=z44.mp hb;exact ⟨r,hr,of_decide_eq_true eb⟩⟩
          · obtain ⟨⟨v,rfl⟩,Z,eD⟩:=p
            obtain ⟨rfl,d3⟩:=y;have b9:=d3 _ (SqL.of (Z _ _ a4));obtain ⟨r,br,hr,rfl,d0⟩:=q48 a8 b9;refine ⟨_,zr,_,zr,br,t,r,u,zr,Z _ _ d0,Z _ _ et,_,eD,?_,⟨_,zr⟩,Z.set hD,?_⟩
            · rw [z2z,z2z,z2f]
              exact q16 (by lia)
            · rw [qb,z3g,hr,z35,z35]
              rfl
      · obtain ⟨⟨v,rfl⟩,Z,ys,e,yl,hy,c9⟩:=p
        obtain ⟨rfl,hx⟩:=y;have b9:=hx _ (SqL.of (Z _ _ qb));rw [z21] at b9;obtain ⟨n,d9,rfl⟩:=z0p.mp b9;have e4:=Z _ _ (t2 _ _ (t1 _ _ (s1 _ _ f6)));have wp:(0:Int) < ((ws.map V.str).length:Int):=by rw [z2z];lia
        have f5:=qxm (ws:=ws) (n:=n) wl;have f8:=qo2 (ws:=ws) (n:=n) wl;refine ⟨_,zr,_,zr,_,zr,_,_,zr,.inl ⟨_,SqL.of e4,zr⟩,_,_,zr,zr,wp,_,_,_,_,zr,zr,SqL.of e4,f5,?_⟩;have il:i < ms.length:=(z07.mp d9).1;refine ⟨_,e,by rw [z2z,yl];exact q1i (by lia),⟨_,rfl⟩,Z.set hD,ys++ [q8e ws n],by rw [qb,z35];rfl,by rw [z1n,yl];rfl,(λ y f7=> ?_),by rw [z3g,d9,z35,<- c9];rfl⟩;rcases z2t.mp f7 with h | h
        · exact hy y h
        · rw [z1l.mp h]
          exact f8
    · rintro σ H1 ⟨v1,v2,v3,v4,kq,zs,O,rfl,s1,ek,hz,lk,hN,a6,d1,c4⟩
      rw [z2z,z2s] at c4;refine ⟨_,zr,kq,zs,O,zr,SqL.of ek,hz,λ p us hp d2=> ?_⟩;have s2:=qf (o:=HO.lst us) hp;have a5:∀ x,x∈Tim.srt q1c O↔x∈O:=λ x=>(Tim.q18 q1c O).mem_iff;exact k p us (Tim.srt q1c O) _ (s1.trans s2) (s1.free hp) qb (q1s (λ b ys e=>s2 b _ e) d2) ⟨q6a q2p (Tim.q2v q2p _) ((Tim.q18 q1c _).nodup_iff.mpr d1),λ x hx=>(hN x ((a5 x).mp hx)).1,λ x hx y hy h=>a6 x ((a5 x).mp hx) y ((a5 y).mp hy) h⟩ ⟨e5,g1,g2,λ r hr=>(hN r ((a5 r).mp hr)).2⟩ (by rw [(Tim.q18 q1c O).length_eq];rw [z2z] at lk;exact lk) λ x=>by
        rw [<- c4];exact ⟨λ ⟨r,hr,z⟩=>⟨r,(a5 r).mp hr,z⟩,λ ⟨r,hr,z⟩=>⟨r,(a5 r).mpr hr,z⟩⟩
def vi {a b:Int} (h:decide (V.int a=V.int b)=true):a=b:=by
 have:=of_decide_eq_true h;injection this
def vin {a b:Int} (h:¬ decide (V.int a=V.int b)=true):a≠b:=λ e=>h (z3b (congrArg V.int e))
def numF (c:Int):Int:=if (strF c 3).getD 0 0%3=0 then c%10^6 else if (strF c 3).getD 0 0%3=1 then 0 - c%10^6 else (strF c 3).getD 1 0%7 - 3
def qo3 (c:Int): -(10^6) < numF c/\numF c < 10^6:=by
 unfold numF;have m0:=z39 c (show (10:Int)^15≠0 by decide);have m1:=z1v c (show (0:Int) < 10^6 by decide);have e0:=z39 ((strF c 3).getD 1 0) (show (7:Int)≠0 by decide);have e1:=z1v ((strF c 3).getD 1 0) (show (0:Int) < 7 by decide);split
 ·lia
 ·split <;> lia
def qxn:Sp:=λ vs H Q _=>∃ c:Int,vs=[.int c]/\∀ H',Same H H' ->Q (.int (numF c)) H'
def q8y (T:Txt K mg):Def P w K mg base 2 "_law_number" ["_law_cell"] qxn:=by
 refine T.qjk.ok q8u (λ vs H Q E h=> ?_) λ f cdv A outer s H vs Q E hr h=> ?_
 ·obtain ⟨c,rfl,_⟩:=h;rfl
 ·obtain ⟨c,rfl,q⟩:=h;refine ⟨_,(q9c
   (qo (i:=1) q8u.nd rfl (Or.inl rfl) (q12 (q5f T) hr rfl (pa_2 (pv 0) qc)))
   (q15 (qq q1h (qk qz (qy (ql K) (pv 1) qc (λ _ _=>rfl)) qc) qc (qt _)) (qg (qh (qk qz (pv 0) (qk q8o qc qc)))) qx)
   (q15 (qq q1h (qk qz (qy (ql K) (pv 1) qc (λ _ _=>rfl)) qc) qc (qt _)) (qg (qh (qk qkh qc (qk qz (pv 0) (qk q8o qc qc))))) qx)
   (qh (qk qkh (qk qz (qy (ql K) (pv 1) qc (λ _ _=>rfl)) qc) qc))),?_⟩
  refine ⟨_,zr,c,3,zr,by decide,by decide,λ p H1 s1 hn J=> ?_⟩
  replace q:=q H1 s1
  have a0:=q61 (c:=c) (m:=3) (k:=0) (by decide) (by decide);have a1:=q61 (c:=c) (m:=3) (k:=1) (by decide) (by decide);unfold numF at q;generalize strF c 3=is at*;generalize is.getD 0 0=i0 at*;generalize is.getD 1 0=i1 at*;have O:(0:Int) < 10^6:=by decide
  refine ⟨_,rfl,_,_,_,_,rfl,rfl,SqL.of J,a0,_,_,rfl,rfl,(by show (0:Int) < 3;decide),rfl,_,rfl,ite2 (λ h=> ?_) (λ h=> ?_)⟩
  ·rw [if_pos (vi h)] at q;exact ⟨_,zr,_,_,zr,zr,⟨by decide,by decide,by decide⟩,_,_,zr,zr,O,q⟩
  ·rw [if_neg (vin h)] at q;refine ⟨_,rfl,_,_,_,_,rfl,rfl,SqL.of J,a0,_,_,rfl,rfl,(by show (0:Int) < 3;decide),rfl,_,rfl,ite2 (λ h=> ?_) (λ h=> ?_)⟩
   ·rw [if_pos (vi h)] at q;exact ⟨_,zr,_,_,zr,zr,⟨by decide,by decide,by decide⟩,_,_,zr,zr,O,_,_,zr,zr,q⟩
   ·rw [if_neg (vin h)] at q;exact ⟨_,rfl,_,_,_,_,rfl,rfl,SqL.of J,a1,_,_,rfl,rfl,(by show (0:Int) < 7;decide),_,_,rfl,rfl,q⟩
def q9u:Kd ->Int
 | .counts=>0
 | .costs=>1
 | .bests _=>2
 | .trusts _=>3
 | .truths=>4
 | .hands=>5
def ofK (m t:Int):Kd ->Prop
 | .bests n=>n=m
 | .trusts n=>n=t
 | _=>True
def q115 {c m t:Int} (h0:0<=c) (h6:c < 6) (hm:1<=m/\m<=9) (ht:0<=t):∃ k:Kd,q9u k=c/\ofK m t k/\k.ok:=by
 by_cases e0:c=0
 ·exact ⟨.counts,e0.symm,trivial,trivial⟩
 by_cases e1:c=1
 ·exact ⟨.costs,e1.symm,trivial,trivial⟩
 by_cases e2:c=2
 ·exact ⟨.bests m,e2.symm,zr,hm⟩
 by_cases e3:c=3
 ·exact ⟨.trusts t,e3.symm,zr,ht⟩
 by_cases e4:c=4
 ·exact ⟨.truths,e4.symm,trivial,trivial⟩
 exact ⟨.hands,by show 5=c;lia,trivial,trivial⟩
def q4a {H:Hp} {x dx C:Addr} {fs:List (Str×V)} (nx:H x=none) (J:H dx=none):Same H (upd (upd H dx (.own x)) x (.ins C dx fs)):=λ c o e=>by
 rw [qi (qu e nx),qi (qu e J)];exact e
def q116 (mg:xE):Sp:=λ vs H Q _=>∃ (k:Kd) (m t:Int),vs=[.int (q9u k),.int m,.int t]/\ofK m t k/\∀ o H',Same H H' ->ByAt mg H' o k ->Q (.ref o) H'
def qpo (T:Txt K mg):Def P w K mg base 3 "_law_by" ["_law_kind","_law_many","_law_top"] (q116 mg):=by
 refine T.qs9.ok qpf (λ vs H Q E h=> ?_) λ f cdv A outer s H vs Q E hr h=> ?_
 ·obtain ⟨k,m,t,rfl,_⟩:=h;rfl
 ·obtain ⟨k,m,t,rfl,hk,q⟩:=h;refine ⟨_,(qve
   (q15 (qq q1h (pv 0) qc (qt _)) (qg (qh (q9g T.qsh T.qsa T.qs7 rfl T.quw))) qx)
   (q15 (qq q1h (pv 0) qc (qt _)) (qg (qh (q9g T.qux T.qv2 T.qut rfl T.qy2))) qx)
   (q15 (PW.pt (qai (qq q1h (pv 0) qc (qt _)) (q8n (qq q1h (pv 1) qc (qt _))))) (qg (qh (qr8 (qa3 T) T.qmc T.qm3 hr rfl T.qoa))) qx)
   (q15 (qq q1h (pv 0) qc (qt _)) (qg (qh (qr9 (qa3 T) T.qmc T.qm3 hr rfl T.qoa (pa_1 (pv 1))))) qx)
   (q15 (PW.pt (qai (qq q1h (pv 0) qc (qt _)) (q8n (qq q1h (pv 2) qc (qt _))))) (qg (qh (qr8 (q8w T) T.qik T.qil hr rfl T.qm9))) qx)
   (q15 (qq q1h (pv 0) qc (qt _)) (qg (qh (qr9 (q8w T) T.qik T.qil hr rfl T.qm9 (pa_1 (pv 2))))) qx)
   (q15 (qq q1h (pv 0) qc (qt _)) (qg (qh (q9g T.qsg T.qsd T.qsf rfl T.qv5))) qx)
   (qh (q9g T.quq T.qup T.qus rfl T.qy3))),?_⟩
  cases k with
  | counts=>exact ⟨_,rfl,rfl,_,rfl,q1k rfl λ x dx nx J O=>q _ _ (q4a nx J) ⟨dx,qb⟩⟩
  | costs=>exact ⟨_,rfl,rfl,_,rfl,qm rfl ⟨_,rfl,rfl,_,rfl,q1k rfl λ x dx nx J O=>q _ _ (q4a nx J) ⟨dx,qb⟩⟩⟩
  | bests n=>
   cases (show n=m from hk)
   refine ⟨_,zr,zr,_,zr,qm rfl ⟨_,zr,zr,_,zr,qm rfl ⟨_,zr,zr,_,zr,q1k rfl ?_⟩⟩⟩;refine ⟨_,zr,zr,_,zr,ite2 (λ h=> ?_) (λ h=> ?_)⟩
   ·cases vi h
    intro x dx nx J O;refine ⟨x,dx,_,zr,qb,zr,?_⟩;rw [q5i];exact q _ _ (q4a nx J) ⟨dx,qb⟩
   ·refine ⟨_,zr,zr,_,zr,q1k rfl ?_⟩;refine ⟨_,zr,λ x dx nx J O=> ?_⟩;refine ⟨x,dx,_,zr,qb,zr,?_⟩;rw [q5i];exact q _ _ (q4a nx J) ⟨dx,qb⟩
  | trusts n=>
   cases (show n=t from hk)
   refine ⟨_,zr,zr,_,zr,qm rfl ⟨_,zr,zr,_,zr,qm rfl ⟨_,zr,zr,_,zr,qm rfl ⟨_,zr,zr,_,zr,qm rfl ⟨_,zr,zr,_,zr,q1k rfl ?_⟩⟩⟩⟩⟩;refine ⟨_,zr,zr,_,zr,ite2 (λ h=> ?_) (λ h=> ?_)⟩
   ·cases vi h
    intro x dx nx J O;refine ⟨x,dx,_,zr,qb,zr,?_⟩;rw [q5i];exact q _ _ (q4a nx J) ⟨dx,qb⟩
   ·refine ⟨_,zr,zr,_,zr,q1k rfl ?_⟩;refine ⟨_,zr,λ x dx nx J O=> ?_⟩;refine ⟨x,dx,_,zr,qb,zr,?_⟩;rw [q5i];exact q _ _ (q4a nx J) ⟨dx,qb⟩
  | truths=>
   refine ⟨_,zr,zr,_,zr,qm rfl ⟨_,zr,zr,_,zr,qm rfl ⟨_,zr,zr,_,zr,qm rfl ⟨_,zr,zr,_,zr,qm rfl ⟨_,zr,zr,_,zr,qm rfl ⟨_,zr,zr,_,zr,qm rfl ⟨_,zr,zr,_,zr,q1k rfl ?_⟩⟩⟩⟩⟩⟩⟩;exact λ x dx nx J O=>q _ _ (q4a nx J) ⟨dx,qb⟩
  | hands=>
   refine ⟨_,zr,zr,_,zr,qm rfl ⟨_,zr,zr,_,zr,qm rfl ⟨_,zr,zr,_,zr,qm rfl ⟨_,zr,zr,_,zr,qm rfl ⟨_,zr,zr,_,zr,qm rfl ⟨_,zr,zr,_,zr,qm rfl ⟨_,zr,zr,_,zr,qm rfl ?_⟩⟩⟩⟩⟩⟩⟩;exact λ x dx nx J O=>q _ _ (q4a nx J) ⟨dx,qb⟩
def qu8 {ns:List Int} {i:Int} (h0:0<=i) (h1:i < (ns.length:Int)):atI (ns.map V.int) i=some (V.int (ns.getD i.toNat 0)):=by
 obtain ⟨j,rfl⟩:=z0l h0;exact q1l (by lia)
def absI (i:Int):Int:=if i < 0 then -i else i
def bigF (is:List Int):Int:=is.getD 1 0*is.getD 2 0*is.getD 3 0*is.getD 4 0
def qbe (W:xD) (c:Int):Kd ->Wo
 | .counts=> .num (absI (numF c))
 | .costs=>if (strF c 12).getD 0 0%6=0 then .non else .num (numF c)
 | .bests m=> .nums (Tim.srt q1j ((cutL (strF c 12) (some 1) (some (1+(strF c 12).getD 0 0%(m+1)))).map λ o=>numF (o*1000003)))
 | .trusts t=> .num (([0,t,absI (numF c),bigF (strF c 12),bigF (strF c 12),bigF (strF c 12) / 7].getD ((strF c 12).getD 0 0%6).toNat 0)%(t+1))
 | .truths=> .tr (decide (V.int ((strF c 12).getD 0 0%2)=V.int 1))
 | .hands=> .acc (q3w ((cutL (strF c 12) (some 2) (some (2+(strF c 12).getD 0 0%4))).map (oneS W 3)))
def qu9 {W:xD} {F:xF} (hW:HOk W) (h:∀ f∈F,∀ w∈f,w∈W):Of 7 W (q3w F):=⟨by decide,hW.few,hW.ne,λ r hr w hw=>by
 obtain ⟨⟨f,hf,rfl⟩,_⟩:=q60.mp (q4z.mp hr);exact h f hf w ((q34 f w).mp hw)⟩
def qxo {W:xD} {m c:Int} (wl:1<=W.length):∀ w∈oneS W m c,w∈W:=λ w hw=>by
 unfold oneS at hw;split at hw
 ·cases hw
 ·obtain ⟨n,_,rfl⟩:=z44.mp hw;exact qo2 wl
def qfc {W:xD} {k:Kd} (hW:HOk W) (wl:1<=W.length) (hk:k.ok) (c:Int):q11 W k (qbe W c k):=by
  cases k with
  | counts=>
    refine .counts ?_;unfold absI;split <;> lia
  | costs=>
    show q11 W .costs (if _ then _ else _);split
    · exact .costX
    · exact .costN _
  | bests m=>
    refine .bests (Tim.q2v q3h _) ?_;rw [(Tim.q18 q1j _).length_eq,z2z];have h1:1<=m:=hk.1;have e0:=z39 ((strF c 12).getD 0 0) (show m+1≠0 by lia);have e1:=z1v ((strF c 12).getD 0 0) (show 0 < m+1 by lia);generalize (strF c 12).getD 0 0%(m+1)=r at*;obtain ⟨n,rfl⟩:=z0l e0;have:=qgx (strF c 12) 1 (1+n);have e:((1+n:Nat):Int)=1+(n:Int):=by lia
    rw [e] at this;exact z40 this (by lia)
  | trusts t=>
    have h1:0<=t:=hk;refine .trusts (z39 _ (by lia)) ?_;have:=z1v ([0,t,absI (numF c),bigF (strF c 12),bigF (strF c 12),bigF (strF c 12) / 7].getD ((strF c 12).getD 0 0%6).toNat 0) (show 0 < t+1 by lia)
    lia
  | truths=>exact .truths _
  | hands=>exact .hands (q49 _) (qu9 hW λ f hf=>by
      obtain ⟨n,_,rfl⟩:=z44.mp hf;exact qxo wl)
def qua:Sp:=λ vs H Q _=>∃ (k:Kd) (c m t:Int) (wa:Addr) (W:xD),vs=[.int (q9u k),.int c,.ref wa,.int m,.int t]/\ofK m t k/\k.ok/\(1<=m/\m<=9)/\0<=t/\H wa=some (.lst (W.map V.str))/\HOk W/\1<=W.length/\
 ∀ x H',Same H H' ->NewV H x ->WV H' (qbe W c k) x ->Q x H'
def qjb (T:Txt K mg):Def P w K mg base 3 "_law_worth" ["_law_kind","_law_cell","_law_words_here","_law_many","_law_top"] qua:=by
 refine T.qmb.ok q4p (λ vs H Q E h=> ?_) λ f cdv A outer s H vs Q E hr h=> ?_
 ·obtain ⟨k,c,m,t,wa,W,rfl,_⟩:=h;rfl
 ·obtain ⟨k,c,m,t,wa,W,rfl,hk,ko,hm,ht,hw,hW,wl,q⟩:=h;refine ⟨_,(qvf
   (qo (i:=5) q4p.nd rfl (Or.inl rfl) (q12 (q5f T) hr rfl (pa_2 (pv 1) qc)))
   (qo (i:=6) q4p.nd rfl (Or.inl rfl) (q12 (q8y T) hr rfl (pa_1 (pv 1))))
   (q15 (qq q1h (pv 0) qc (qt _)) (qg (qh (qp qkj rfl T.b_abs qr6 (pa_1 (pv 6))))) qx)
   (q15 (PW.pt (qai (qq q1h (pv 0) qc (qt _)) (q8n (qq q1h (qk qz (qy (ql K) (pv 5) qc (λ _ _=>rfl)) qc) qc (qt _))))) (qg (qh q2k)) qx)
   (q15 (qq q1h (pv 0) qc (qt _)) (qg (qh (pv 6))) qx)
   (q15 (qq q1h (pv 0) qc (qt _)) (qg (qh (qp (q7e K) rfl T.q2q q2e (pa_1 (q29 (N:=["_law_other"]) (caps:=[none]) rfl (by with_unfolding_all rfl) (q1f K (q21 (q31 K) (pv 5) (q1p qc) (q1p (qk q19 qc (qk qz (qy (ql K) (pv 5) qc (λ _ _=>rfl)) (qk q19 (pv 3) qc)))))) (λ _ _ _ _ _=>(q13 (i:=0) (show (["_law_other"]:xD).Nodup by decide+kernel) rfl (Or.inl rfl))) (λ _ _ _ _ _=>q2o) (λ _ _ _ _ _=>(q12 (q8y T) hr rfl (pa_1 (qk q53 (pv 0) qc))))))))) qx)
   (q15 (qq q1h (pv 0) qc (qt _)) (q2r
   (qo (i:=7) q4p.nd rfl (Or.inl rfl) (qk q53 (qk q53 (qk q53 (qy (ql K) (pv 5) qc (λ _ _=>rfl)) (qy (ql K) (pv 5) qc (λ _ _=>rfl))) (qy (ql K) (pv 5) qc (λ _ _=>rfl))) (qy (ql K) (pv 5) qc (λ _ _=>rfl))))
   (qh (qk qz (qy (ql K) (q1e (pa_6 qc (pv 4) (qp qkj rfl T.b_abs qr6 (pa_1 (pv 6))) (pv 7) (pv 7) (qk qw1 (pv 7) qc))) (qk qz (qy (ql K) (pv 5) qc (λ _ _=>rfl)) qc) (λ _ _=>rfl)) (qk q19 (pv 4) qc)))) qx)
   (q15 (qq q1h (pv 0) qc (qt _)) (qg (qh (q3o q1h (qk qz (qy (ql K) (pv 5) qc (λ _ _=>rfl)) qc) qc (qt _)))) qx)
   (qh (q12 (qfb T) hr rfl (pa_3 (q21 (q31 K) (pv 5) (q1p qc) (q1p (qk q19 qc (qk qz (qy (ql K) (pv 5) qc (λ _ _=>rfl)) qc)))) (pv 2) qc)))),?_⟩
  refine ⟨_,zr,c,12,zr,by decide,by decide,λ p H1 s1 hn hp=> ?_⟩;refine ⟨_,zr,c,zr,λ H2 s2=> ?_⟩;have J:=s2 _ _ hp;have O:=s1.trans s2;have b5:=O _ _ hw;have nb:=qo3 c;have a0:=q61 (c:=c) (m:=12) (k:=0) (by decide) (by decide);have a1:=q61 (c:=c) (m:=12) (k:=1) (by decide) (by decide);have a2:=q61 (c:=c) (m:=12) (k:=2) (by decide) (by decide);have a3:=q61 (c:=c) (m:=12) (k:=3) (by decide) (by decide);have a4:=q61 (c:=c) (m:=12) (k:=4) (by decide) (by decide);cases k with
  | counts=>exact ⟨_,rfl,rfl,_,rfl,q1k rfl ⟨_,rfl,_,rfl,q _ _ O (q24 _) rfl⟩⟩
  | costs=>
   refine ⟨_,zr,zr,_,zr,qm rfl ⟨_,zr,zr,_,zr,q1k rfl ?_⟩⟩;refine ⟨_,rfl,_,_,_,_,rfl,rfl,SqL.of J,a0,_,_,rfl,rfl,(by show (0:Int) < 6;decide),rfl,_,rfl,ite2 (λ h=> ?_) (λ h=> ?_)⟩
   ·exact q _ _ O q77 (by show WV _ (if _ then _ else _) _;rw [if_pos (vi h)];rfl)
   ·exact ⟨_,rfl,rfl,_,rfl,q1k rfl ⟨_,rfl,q _ _ O (q24 _) (by show WV _ (if _ then _ else _) _;rw [if_neg (vin h)];rfl)⟩⟩
  | bests n=>
   cases (show n=m from hk)
   refine ⟨_,zr,zr,_,zr,qm rfl ⟨_,zr,zr,_,zr,qm rfl ⟨_,zr,zr,_,zr,qm rfl ⟨_,zr,zr,_,zr,q1k rfl ?_⟩⟩⟩⟩;refine ⟨_,rfl,_,rfl,_,rfl,_,_,_,_,rfl,rfl,SqL.of J,a0,_,rfl,_,_,rfl,rfl,_,_,rfl,rfl,(by show 0 < m+1;lia),_,_,rfl,rfl,_,rfl,_,_,rfl,SqL.of J,λ l hl=> ?_⟩;have Z:=qdq (strF c 12) (some 1) (some (1+(strF c 12).getD 0 0%(m+1)));rw [q9t (by decide)] at Z;have Z:_<=12:=Z;rw [qfa];obtain ⟨ms,a6⟩:∃ ms,ms=cutL (strF c 12) (some 1) (some (1+(strF c 12).getD 0 0%(m+1))):=⟨_,rfl⟩;rw [<- a6] at Z ⊢;have t2:=qf (o:=HO.lst (ms.map V.int)) hl;refine ⟨l,zr,⟨_,SqL.of qb⟩,λ D hD=> ?_⟩;have t3:=qf (o:=HO.lst []) hD;refine q1w (ms.map V.int).length (λ i σ' H'=>(∃ v,σ'=[v])/\Same (upd H2 l (.lst (ms.map V.int))) H'/\H' D=some (.lst (((ms.take i).map λ o=>numF (o*1000003)).map V.int))) ⟨⟨_,zr⟩,t3,qb⟩ (λ i σ' H' hi p=> ?_) (λ σ' H' p=>⟨?_,?_⟩) (λ i σ' H' hi p x H3 y=> ?_)
   ·obtain ⟨_,sm,_⟩:=p;exact ⟨_,(ms.map V.int)[i],SqL.of (sm _ _ qb),z0c hi⟩
   ·obtain ⟨_,sm,_⟩:=p;exact ⟨_,SqL.of (sm _ _ qb),z47 _⟩
   ·obtain ⟨_,sm,e⟩:=p;rw [z2z,z2s] at e;refine ⟨D,_,zr,.inl (SqL.of e),λ l2 a5=> ?_⟩;have sA:=O.trans (t2.trans sm);exact q _ _ (sA.trans (qf a5)) (q3b (sA.free a5)) ⟨l2,zr,by rw [qb,a6]⟩
   ·obtain ⟨⟨v,rfl⟩,sm,e⟩:=p;obtain ⟨rfl,hx⟩:=y;have a8:=hx _ (SqL.of (sm _ _ qb));rw [z21] at a8;obtain ⟨n,a7,rfl⟩:=z0p.mp a8;have il:i < ms.length:=(z07.mp a7).1;refine ⟨_,zr,_,_,zr,zr,.inr ⟨by decide,by decide⟩,_,zr,λ H4 s4=> ?_⟩;refine ⟨_,s4 _ _ e,by rw [z2z,z2z,z2f];exact q1i (by lia),⟨_,rfl⟩,(sm.trans s4).set hD,?_⟩;rw [qb,z3g,a7,z35,z35];rfl
  | trusts n=>
   cases (show n=t from hk)
   refine ⟨_,zr,zr,_,zr,qm rfl ⟨_,zr,zr,_,zr,qm rfl ⟨_,zr,zr,_,zr,qm rfl ⟨_,zr,zr,_,zr,qm rfl ⟨_,zr,zr,_,zr,q1k rfl ?_⟩⟩⟩⟩⟩;have b2:=qdp (c:=c) (m:=12) 2;have b3:=qdp (c:=c) (m:=12) 3;have b4:=qdp (c:=c) (m:=12) 4;refine ⟨_,zr,_,_,_,_,zr,zr,SqL.of J,a1,_,zr,_,_,_,_,zr,zr,SqL.of J,a2,_,_,zr,zr,.inr ⟨by lia,by lia⟩,_,zr,_,_,_,_,zr,zr,SqL.of J,a3,_,_,zr,zr,.inr ⟨by lia,by lia⟩,_,zr,_,_,_,_,zr,zr,SqL.of J,a4,_,_,zr,zr,.inr ⟨by lia,by lia⟩,?_⟩;refine ⟨_,rfl,_,rfl,_,rfl,_,rfl,_,rfl,_,rfl,_,_,rfl,rfl,⟨by decide,by decide⟩,by show 6<=sizeLine;decide,λ L hL=> ?_⟩;have e0:=z39 ((strF c 12).getD 0 0) (show (6:Int)≠0 by decide);have e1:=z1v ((strF c 12).getD 0 0) (show (0:Int) < 6 by decide);have a9:=qu8 (ns:=[0,t,absI (numF c),bigF (strF c 12),bigF (strF c 12),bigF (strF c 12) / 7]) e0 e1;have u1:=qf (o:=HO.lst ([0,t,absI (numF c),bigF (strF c 12),bigF (strF c 12),bigF (strF c 12) / 7].map V.int)) hL;refine ⟨_,rfl,_,_,_,_,rfl,rfl,SqL.of (u1 _ _ J),a0,_,_,rfl,rfl,(by show (0:Int) < 6;decide),_,_,_,_,rfl,rfl,SqL.of qb,a9,_,rfl,_,_,rfl,rfl,_,_,rfl,rfl,(by show 0 < t+1;lia),?_⟩;exact q _ _ (O.trans u1) (q24 _) rfl
  | truths=>
   refine ⟨_,zr,zr,_,zr,qm rfl ⟨_,zr,zr,_,zr,qm rfl ⟨_,zr,zr,_,zr,qm rfl ⟨_,zr,zr,_,zr,qm rfl ⟨_,zr,zr,_,zr,qm rfl ⟨_,zr,zr,_,zr,q1k rfl ?_⟩⟩⟩⟩⟩⟩;exact ⟨_,rfl,_,_,_,_,rfl,rfl,SqL.of J,a0,_,_,rfl,rfl,(by show (0:Int) < 2;decide),rfl,q _ _ O (qbb _) rfl⟩
  | hands=>
   refine ⟨_,zr,zr,_,zr,qm rfl ⟨_,zr,zr,_,zr,qm rfl ⟨_,zr,zr,_,zr,qm rfl ⟨_,zr,zr,_,zr,qm rfl ⟨_,zr,zr,_,zr,qm rfl ⟨_,zr,zr,_,zr,qm rfl ?_⟩⟩⟩⟩⟩⟩;refine ⟨_,rfl,_,rfl,_,rfl,_,_,_,_,rfl,rfl,SqL.of J,a0,_,_,rfl,rfl,(by show (0:Int) < 4;decide),_,_,rfl,rfl,_,rfl,_,_,rfl,SqL.of J,λ l hl=> ?_⟩;have Z:=qdq (strF c 12) (some 2) (some (2+(strF c 12).getD 0 0%4));rw [q9t (by decide)] at Z;have Z:_<=12:=Z;rw [qfa];have t2:=qf (o:=HO.lst ((cutL (strF c 12) (some 2) (some (2+(strF c 12).getD 0 0%4))).map V.int)) hl;refine ⟨_,zr,l,wa,_,W,3,7,zr,qb,by lia,t2 _ _ b5,wl,by decide,hW.few,hW.ne,by decide,by decide,λ p zs R H' s hp ep tp aR oR lR uR=> ?_⟩;have sA:=O.trans t2;refine q _ _ (sA.trans s) (q3b (sA.free hp)) ⟨p,zs,zr,ep,?_⟩;rw [<- q7x aR uR];exact tp
def repL (l:List Int) (j:Int):List Int:=(List.replicate j.toNat l).flatten
def repW:Kd ->Wo ->Int ->Wo
 | .counts,.num i,n=> .num (i*n)
 | .bests m,.nums l,n=> .nums (q8d m (repL l (if m < n then m else n)))
 | k,w,n=>if n=0 then noW k else eiW k w w
section
variable {W:xD} {k:Kd} {a:Wo}
def qo4 (hW:HOk W) (hk:k.ok) (h:q11 W k a) {n:Int} (hn:0<=n):q11 W k (repW k a n):=by
 cases h with
 | counts h=>exact .counts (z3j h hn)
 | bests h hl=>exact .bests (qba _ _) (qdn _ _)
 | costN i=>
  show q11 W _ (if _ then _ else _);split
  ·exact q7y hW hk
  ·exact q8x (.costN i) (.costN i)
 | costX=>
  show q11 W _ (if _ then _ else _);split
  ·exact q7y hW hk
  ·exact q8x .costX .costX
 | trusts h h2=>
  show q11 W _ (if _ then _ else _);split
  ·exact q7y hW hk
  ·exact q8x (.trusts h h2) (.trusts h h2)
 | truths b=>
  show q11 W _ (if _ then _ else _);split
  ·exact q7y hW hk
  ·exact q8x (.truths b) (.truths b)
 | hands x o=>
  show q11 W _ (if _ then _ else _);split
  ·exact q7y hW hk
  ·exact q8x (.hands x o) (.hands x o)
end
def q9v (mg:xE) (k:Kd):Sp:=λ vs H Q _=>∃ (o:Addr) (x:V) (n:Int) (a:Wo) (W:xD),vs=[.ref o,x,.int n]/\ByAt mg H o k/\k.ok/\HOk W/\q11 W k a/\WV H a x/\0<=n/\(k= .counts ->szW a < 2^600/\n < 2^600)/\∀ z H',Same H H' ->NewV H z ->WV H' (repW k a n) z ->Q z H'
def qbf (T:Txt K mg):MDef P w K mg base 1 (cA mg "Counts") "repeated" ["self","worth","many"] (q9v mg .counts):=by
 refine T.qcf.ok qb4 (λ vs H Q E h=> ?_) λ f cdv A outer s H vs Q E hr h=> ?_
 ·obtain ⟨o,x,n,a,W,rfl,_⟩:=h;rfl
 ·obtain ⟨o,x,n,a,W,rfl,_,_,_,ga,va,hn,sz,q⟩:=h;have sz:=sz rfl;cases ga with | counts h=>
   cases va
   exact ⟨_,(qg (qh (qk qnn (pv 1) (pv 2)))),⟨_,zr,_,zr,_,_,zr,zr,⟨⟨h,sz.1⟩,hn,sz.2⟩,q _ _ (Same.refl _) (q24 _) rfl⟩⟩
def qc8 (T:Txt K mg) (m:Int):MDef P w K mg base 2 (cA mg "Bests") "repeated" ["self","worth","many"] (q9v mg (.bests m)):=by
 refine T.qdv.ok qc5 (λ vs H Q E h=> ?_) λ f cdv A outer s H vs Q E hr h=> ?_
 ·obtain ⟨o,x,n,a,W,rfl,_⟩:=h;rfl
 ·obtain ⟨o,x,n,a,W,rfl,⟨dx,J⟩,hk,_,ga,va,hn,sz,q⟩:=h;cases ga with | @bests _ l h hl=>
   obtain ⟨p,rfl,e⟩:=va;have m9:m<=9:=hk.2;have m1:1<=m:=hk.1;have b0:0<=(if m < n then m else n):=by split <;> lia
   have b9:(if m < n then m else n)<=9:=by split <;> lia
   refine ⟨_,(qg (qh (qg3 (q3t T) T.q4c hr (pv 0) (pa_1 (qk qyg (pv 1) (qp (qal rfl) rfl T.b_min qkv (pa_2 (pv 2) (qan (pv 0) rfl)))))))),?_⟩;refine ⟨_,zr,o,dx,_,zr,J,zr,_,zr,_,zr,_,zr,o,_,dx,_,_,zr,J,T.q4c,T.q5g,zr,_,_,zr,p,_,_,zr,zr,e,by lia,by lia,?_,λ c hc=> ?_⟩
   ·rw [z2z];refine z40 (z3i (show l.length<=9 by lia) (show (if m < n then m else n).toNat<=9 by lia)) (by decide)
   ·have s1:=qf (o:=HO.lst (List.replicate (if m < n then m else n).toNat (l.map V.int)).flatten) hc;refine ⟨o,c,m,repL l (if m < n then m else n),rfl,⟨dx,s1 _ _ J⟩,by lia,?_,λ l2 H' s' O e2=>q _ _ (s1.trans s') (q3b (s1.free O)) ⟨l2,rfl,e2⟩⟩;rw [qb]
    congr 2
    unfold repL;rw [List.map_flatten,List.map_replicate]
def qc9 (T:Txt K mg):MDef P w K mg base 5 (cA mg "Costs") "repeated" ["self","worth","many"] (q9v mg .costs):=by
 refine T.qe2.ok qc4 (λ vs H Q E h=> ?_) λ f cdv A outer s H vs Q E hr h=> ?_
 ·obtain ⟨o,x,n,a,W,rfl,_⟩:=h;rfl
 ·obtain ⟨o,x,n,a,W,rfl,⟨dx,J⟩,hk,_,ga,va,hn,sz,q⟩:=h;have eq:repW .costs a n=if n=0 then noW .costs else eiW .costs a a:=by cases ga <;> rfl
  rw [eq] at q;refine ⟨_,(q2r
   (q15 (qq q1h (pv 2) qc (qt _)) (qg (qh (q4x (q6c T) (q30 T) hr (pv 0)))) qx)
   (qh (q41 (q6d T) (q30 T) hr (pv 0) (pa_2 (pv 1) (pv 1))))),?_⟩
  refine ⟨_,zr,zr,_,zr,ite2 (λ h=> ?_) (λ h=> ?_)⟩
  ·rw [if_pos (vi h)] at q;exact ⟨_,zr,.costs,o,dx,_,zr,J,qbc .costs,o,zr,⟨dx,J⟩,λ z H' s' O Z=>q z H' s' O Z⟩
  ·rw [if_neg (vin h)] at q;exact ⟨_,zr,.costs,o,dx,_,zr,J,qbd .costs,_,zr,_,zr,o,_,_,a,a,W,zr,⟨dx,J⟩,hk,ga,ga,va,va,λ z H' s' O Z=>q z H' s' O Z⟩
def qbg (T:Txt K mg) (t:Int):MDef P w K mg base 5 (cA mg "Trusts") "repeated" ["self","worth","many"] (q9v mg (.trusts t)):=by
 refine T.qce.ok qb5 (λ vs H Q E h=> ?_) λ f cdv A outer s H vs Q E hr h=> ?_
 ·obtain ⟨o,x,n,a,W,rfl,_⟩:=h;rfl
 ·obtain ⟨o,x,n,a,W,rfl,⟨dx,J⟩,hk,_,ga,va,hn,sz,q⟩:=h;have eq:repW (.trusts t) a n=if n=0 then noW (.trusts t) else eiW (.trusts t) a a:=by cases ga <;> rfl
  rw [eq] at q;refine ⟨_,(q2r
   (q15 (qq q1h (pv 2) qc (qt _)) (qg (qh (q4x (q6c T) (q30 T) hr (pv 0)))) qx)
   (qh (q41 (q6d T) (q30 T) hr (pv 0) (pa_2 (pv 1) (pv 1))))),?_⟩
  refine ⟨_,zr,zr,_,zr,ite2 (λ h=> ?_) (λ h=> ?_)⟩
  ·rw [if_pos (vi h)] at q;exact ⟨_,zr,(.trusts t),o,dx,_,zr,J,qbc (.trusts t),o,zr,⟨dx,J⟩,λ z H' s' O Z=>q z H' s' O Z⟩
  ·rw [if_neg (vin h)] at q;exact ⟨_,zr,(.trusts t),o,dx,_,zr,J,qbd (.trusts t),_,zr,_,zr,o,_,_,a,a,W,zr,⟨dx,J⟩,hk,ga,ga,va,va,λ z H' s' O Z=>q z H' s' O Z⟩
def qbh (T:Txt K mg):MDef P w K mg base 5 (cA mg "Truths") "repeated" ["self","worth","many"] (q9v mg .truths):=by
 refine T.qcd.ok qb6 (λ vs H Q E h=> ?_) λ f cdv A outer s H vs Q E hr h=> ?_
 ·obtain ⟨o,x,n,a,W,rfl,_⟩:=h;rfl
 ·obtain ⟨o,x,n,a,W,rfl,⟨dx,J⟩,hk,_,ga,va,hn,sz,q⟩:=h;have eq:repW .truths a n=if n=0 then noW .truths else eiW .truths a a:=by cases ga <;> rfl
  rw [eq] at q;refine ⟨_,(q2r
   (q15 (qq q1h (pv 2) qc (qt _)) (qg (qh (q4x (q6c T) (q30 T) hr (pv 0)))) qx)
   (qh (q41 (q6d T) (q30 T) hr (pv 0) (pa_2 (pv 1) (pv 1))))),?_⟩
  refine ⟨_,zr,zr,_,zr,ite2 (λ h=> ?_) (λ h=> ?_)⟩
  ·rw [if_pos (vi h)] at q;exact ⟨_,zr,.truths,o,dx,_,zr,J,qbc .truths,o,zr,⟨dx,J⟩,λ z H' s' O Z=>q z H' s' O Z⟩
  ·rw [if_neg (vin h)] at q;exact ⟨_,zr,.truths,o,dx,_,zr,J,qbd .truths,_,zr,_,zr,o,_,_,a,a,W,zr,⟨dx,J⟩,hk,ga,ga,va,va,λ z H' s' O Z=>q z H' s' O Z⟩
def qca (T:Txt K mg):MDef P w K mg base 5 (cA mg "Hands") "repeated" ["self","worth","many"] (q9v mg .hands):=by
 refine T.qe0.ok qc6 (λ vs H Q E h=> ?_) λ f cdv A outer s H vs Q E hr h=> ?_
 ·obtain ⟨o,x,n,a,W,rfl,_⟩:=h;rfl
 ·obtain ⟨o,x,n,a,W,rfl,⟨dx,J⟩,hk,_,ga,va,hn,sz,q⟩:=h;have eq:repW .hands a n=if n=0 then noW .hands else eiW .hands a a:=by cases ga <;> rfl
  rw [eq] at q;refine ⟨_,(q2r
   (q15 (qq q1h (pv 2) qc (qt _)) (qg (qh (q4x (q6c T) (q30 T) hr (pv 0)))) qx)
   (qh (q41 (q6d T) (q30 T) hr (pv 0) (pa_2 (pv 1) (pv 1))))),?_⟩
  refine ⟨_,zr,zr,_,zr,ite2 (λ h=> ?_) (λ h=> ?_)⟩
  ·rw [if_pos (vi h)] at q;exact ⟨_,zr,.hands,o,dx,_,zr,J,qbc .hands,o,zr,⟨dx,J⟩,λ z H' s' O Z=>q z H' s' O Z⟩
  ·rw [if_neg (vin h)] at q;exact ⟨_,zr,.hands,o,dx,_,zr,J,qbd .hands,_,zr,_,zr,o,_,_,a,a,W,zr,⟨dx,J⟩,hk,ga,ga,va,va,λ z H' s' O Z=>q z H' s' O Z⟩
def qn1 (T:Txt K mg) (k:Kd):MDef P w K mg base 5 (clsK mg k) "repeated" ["self","worth","many"] (q9v mg k):=by
 cases k with
 | counts=>exact MDef.mono (qbf T) (by decide)
 | costs=>exact qc9 T
 | bests m=>exact MDef.mono (qc8 T m) (by decide)
 | trusts t=>exact qbg T t
 | truths=>exact qbh T
 | hands=>exact qca T
def qub (K:xA):Sp:=λ vs H Q _=>∃ (x y:V) (d:PyData),vs=[x,y]/\Dat K H d x/\Dat K H d y/\d.depth<=60/\Q (.bl true) H
def qa4 (T:Txt K mg):Def P w K mg base 1 "_law_alike" ["_law_found","_law_due"] (qub K):=by
 refine T.qma.ok qj4 (λ vs H Q E h=> ?_) λ f cdv A outer s H vs Q E hr h=> ?_
 ·obtain ⟨x,y,d,rfl,_⟩:=h;rfl
 ·obtain ⟨x,y,d,rfl,dx,J,dd,q⟩:=h;refine ⟨_,(q4e
   (q15 (qq q7b (pv 1) q2k (qt _)) (qg (qh (q3o q7b (pv 0) q2k (qt _)))) qx)
   (q15 (PW.pt (q86 (qq qok (qp (q2f K) rfl T.q1m q1g (pa_2 (pv 0) (q4n rfl T.qfr qbv))) (qp (q2f K) rfl T.q1m q1g (pa_2 (pv 1) (q4n rfl T.qfr qbv))) (qt _)) (q68 (qq qok (qp (q2f K) rfl T.q1m q1g (pa_2 (pv 0) (q4n rfl T.q81 q5m))) (qp (q2f K) rfl T.q1m q1g (pa_2 (pv 1) (q4n rfl T.q81 q5m))) (qt _))))) (qg (qh q25)) qx)
   (qh (q3o (qkx hr.units K) (pv 0) (pv 1) (qt _)))),?_⟩
  by_cases O:y= .non
  ·subst O;cases J
   cases dx
   exact ⟨_,zr,zr,_,zr,q1k rfl ⟨_,zr,zr,q⟩⟩
  refine ⟨_,zr,zr,_,zr,qm (by simp [O]) ?_⟩;refine ⟨_,zr,x,_,d,zr,dx,by decide,_,zr,y,_,d,zr,J,by decide,zr,_,zr,qm (by simp) ?_⟩;refine ⟨_,zr,x,_,d,zr,dx,by decide,_,zr,y,_,d,zr,J,by decide,zr,_,zr,qm (by simp) ?_⟩;refine ⟨_,zr,_,zr,d,d,dx,J,dd,?_⟩;rw [PySem.SeqAt.eqv_refl _ (Dat.lay _ _ dx)];exact q
def small:Str:="abcdefghijklmnopqrstuvwxyz"
def q8z (fs:Str):List Nat ->Bool
 | []=>false
 | c::r=>decide (c∈fs.cps.toList)&&r.all λ d=>decide (d∈fur.cps.toList)
def txtB (fs z:Str):Bool:=decide (1<=z.length)&&decide (z.length<=12)&&q8z fs z.cps.toList
def txtD (fs:Str):PyData ->Bool
 | .str z=>txtB fs z
 | _=>false
def q4b:PyData ->Bool
 | .int _=>true
 | _=>false
def shD:PyData ->Prop
 | .str z=>z.length<=200
 | _=>True
def qxp {K:xA} {H:Hp} {d:PyData} {x:V} (h:Dat K H d x):(∃ z,d= .str z/\x= .str z)\/ (tyIs (tyD d) "str"=false/\∀ fs,txtD fs d=false):=by
 cases h with
 | str z _=>exact .inl ⟨z,rfl,rfl⟩
 | non=>exact .inr ⟨rfl,λ _=>rfl⟩
 | bl _=>exact .inr ⟨rfl,λ _=>rfl⟩
 | int _=>exact .inr ⟨rfl,λ _=>rfl⟩
 | lst _ _=>exact .inr ⟨rfl,λ _=>rfl⟩
 | tup _ _=>exact .inr ⟨rfl,λ _=>rfl⟩
def qdr {fs z:Str} (h:¬ (1<=z.length/\z.length<=12)):txtB fs z=false:=by
 unfold txtB;by_cases h1:1<=z.length
 ·have h2:¬ z.length<=12:=λ q=>h ⟨h1,q⟩;simp [h2]
 ·simp [h1]
def qo5 {fs z:Str} (h1:1<=z.length) (h2:z.length<=12):txtB fs z=q8z fs z.cps.toList:=by
 unfold txtB;simp [h1,h2]
def qfd {z:Str} (h:1<=z.length):∃ c r,z.cps.toList=c::r:=by
 have:=q3j z;cases e:z.cps.toList with
 | nil=>rw [e] at this;simp at this;lia
 | cons c r=>exact ⟨c,r,rfl⟩
def quc {z:Str} (h:1<=z.length):(cutS z (some 1) none).cps.toList=z.cps.toList.tail:=by
 have e1:HT.sIx z.length 0 (some 1)=1:=by
  have:=HT.sIx_nat z.length 0 1;rw [show ((1:Nat):Int)=1 from rfl] at this;rw [this]
  lia
 have hl:=q3j z;unfold cutS;rw [e1,HT.sIx_none];show ((z.cps.toList.drop 1).take (z.length - 1)).toArray.toList=_;rw [z1f,z0m (by rw [z2g];lia),List.drop_one]
def qud (K:xA):Sp:=λ vs H Q _=>∃ x fs d,vs=[x,.str fs]/\Dat K H d x/\shD d/\∀ H',Same H H' ->Q (.bl (txtD fs d)) H'
def qa9 (T:Txt K mg):Def P w K mg base 1 "is_text_begun_by" ["thing","first_signs"] (qud K):=by
 refine T.qbk.ok qa7 (λ vs H Q E h=> ?_) λ f cdv A outer s H vs Q E hr h=> ?_
 ·obtain ⟨x,fs,d,rfl,_⟩:=h;rfl
 ·obtain ⟨x,fs,d,rfl,hd,hz,k⟩:=h;refine ⟨_,(q2r
   (q15 (PW.pt (q86 (q3k (q3x (qp (q2f K) rfl T.q1m q1g (pa_2 (pv 0) (q4n rfl T.b_str qyr))))) (q68 (q3k (qsw qjv qjv qc (qp (q2y K) rfl T.b_len q3z (pa_1 (pv 0))) (q10p rfl T.qm0)))))) (qg (qh q25)) qx)
   (qh (q7a (q3o qhj (qy q8p (pv 0) qc (λ _ _=>rfl)) (pv 1) (by with_unfolding_all rfl)) (q51 (qp (q89 rfl K) rfl T.b_all qel (pa_1 (q29 (N:=["sign"]) (caps:=[none]) rfl (by with_unfolding_all rfl) (qym (q21 qap (pv 0) (q1p qc) q4d)) (λ _ _ _ _ _=>(q13 (i:=0) (show (["sign"]:xD).Nodup by decide+kernel) rfl (Or.inl rfl))) (λ _ _ _ _ _=>q2o) (λ _ _ _ _ _=>(q3o qhj (pv 0) (qjx rfl T.qfp) (by with_unfolding_all rfl)))))))))),?_⟩
  rcases qxp hd with ⟨z,rfl,rfl⟩ | ⟨ty,hn⟩
  ·have hz:z.length<=200:=hz;have O:z.length<=sizeLine:=z40 hz (by decide);have no:¬ (1<=z.length/\z.length<=12) ->Q (.bl false) H:=λ q=>by
    have:=k H (Same.refl H);rw [show txtD fs (.str z)=false from qdr q] at this;exact this
   refine ⟨_,zr,_,_,_,zr,hd,by decide,_,zr,?_⟩;refine qm (show (!tyIs "str" "str")=false by decide) ?_;refine ⟨_,zr,_,_,zr,⟨O,zr⟩,_,_,zr,zr,_,zr,?_⟩;refine ite2 (λ h1=> ?_) (λ h1=> ?_)
   ·refine ⟨_,_,zr,zr,_,zr,?_⟩;refine ite2 (λ h2=> ?_) (λ h2=> ?_)
    ·exact no λ q=>by simp at h2;lia
    ·have l1:1<=z.length:=by simp at h1;lia
     have l2:z.length<=12:=by simp at h2;lia
     obtain ⟨c,r,J⟩:=qfd l1;have et:txtD fs (.str z)=q8z fs z.cps.toList:=qo5 (fs:=fs) l1 l2;rw [J] at et;refine ⟨_,rfl,_,_,c,rfl,rfl,O,(by rw [J];exact q5k (j:=0) rfl),_,rfl,_,_,rfl,rfl,_,rfl,?_⟩;rw [StrLaws.found_one];refine ite2 (λ h3=> ?_) (λ h3=> ?_)
     ·refine ⟨_,zr,_,zr,_,zr,O,_,zr,λ D hD=> ?_⟩;have Z:(cutS z (some 1) none).cps.toList=r:=by rw [quc l1,J];rfl
      have hrl:r.length<=12:=by
       have:=q3j z;rw [J,z2h] at this
       lia
      have a1:(cutS z (some 1) none).cps.size=r.length:=by rw [<- Z,z18]
      refine q1w r.length (λ i σ' H'=>(∃ v,σ'=[v])/\H'=upd H D (.lst ((r.take i).map λ c=>V.bl (decide (c∈fur.cps.toList))))) ⟨⟨_,rfl⟩,rfl⟩ (λ i σ' H' hi _=>by show i < _;rw [a1];exact hi) (λ σ' H' p=>⟨a1.symm,?_⟩) (λ i σ' H' hi p x H2 y=> ?_)
      ·obtain ⟨_,rfl⟩:=p;refine ⟨D,r.map λ c=>decide (c∈fur.cps.toList),rfl,SqL.of (by rw [qb,z2s,z46];rfl),?_⟩;have:=k (upd H D (.lst ((r.take r.length).map λ c=>V.bl (decide (c∈fur.cps.toList))))) (qf hD);rw [et] at this;have e2:q8z fs (c::r)=(r.map λ c=>decide (c∈fur.cps.toList)).all id:=by
        show (decide (c∈fs.cps.toList)&&_)=_;rw [h3,z3s,z45];rfl
       rw [e2] at this;exact this
      ·obtain ⟨⟨v,rfl⟩,rfl⟩:=p;obtain ⟨rfl,c',hc,rfl⟩:=y;have a2:r[i]? =some c':=by rw [<- Z,z0w];exact hc
       refine ⟨_,zr,_,_,zr,zr,_,qb,?_,⟨_,zr⟩,?_⟩
       ·rw [z2z,z2f];exact q1i (by lia)
       ·rw [q5i,StrLaws.found_one,z3g,a2,z35];rfl
     ·have:=k H (Same.refl H);rw [et] at this;have e2:q8z fs (c::r)=false:=by
       show (decide (c∈fs.cps.toList)&&_)=_;rw [Bool.eq_false_iff.mpr h3,z3d]
      rw [e2] at this;exact this
   ·refine ⟨_,zr,iteT ?_⟩;exact no λ q=>by simp at h1;lia
  ·refine ⟨_,zr,_,_,_,zr,hd,by decide,_,zr,?_⟩;refine q1k (by rw [ty];rfl) (iteT ?_);have:=k H (Same.refl H);rw [hn] at this;exact this
def qxq (K:xA) (fs:Str):Sp:=λ vs H Q _=>∃ x d,vs=[x]/\Dat K H d x/\shD d/\∀ H',Same H H' ->Q (.bl (txtD fs d)) H'
def qpp (T:Txt K mg):Def P w K mg base 2 "is_word" ["thing"] (qxq K small):=by
 refine T.qsi.ok qpe (λ vs H Q E h=> ?_) λ f cdv A outer s H vs Q E hr h=> ?_
 ·obtain ⟨x,d,rfl,_⟩:=h;rfl
 ·obtain ⟨x,d,rfl,hd,hz,k⟩:=h;refine ⟨_,(qg (qh (q12 (qa9 T) hr rfl (pa_2 (pv 0) (qjx rfl T.qfq))))),?_⟩;exact ⟨_,zr,_,_,d,zr,hd,hz,k⟩
def que (K:xA):Sp:=λ vs H Q _=>∃ x d,vs=[x]/\Dat K H d x/\Q (.bl (q4b d)) H
def q67 (T:Txt K mg):Def P w K mg base 1 "is_whole" ["thing"] (que K):=by
 refine T.qpu.ok qmx (λ vs H Q E h=> ?_) λ f cdv A outer s H vs Q E hr h=> ?_
 ·obtain ⟨x,d,rfl,_⟩:=h;rfl
 ·obtain ⟨x,d,rfl,hd,k⟩:=h;refine ⟨_,(qg (qh (q7a (qp (q2f K) rfl T.q1m q1g (pa_2 (pv 0) (q4n rfl T.b_int qys))) (q51 (qy9 (qp (q2f K) rfl T.q1m q1g (pa_2 (pv 0) (q4n rfl T.qfr qbv)))))))),?_⟩;refine ⟨_,zr,_,_,_,zr,hd,by decide,_,zr,ite2 (λ h1=> ?_) (λ h1=> ?_)⟩
  ·refine ⟨_,zr,_,_,_,zr,hd,by decide,_,zr,?_⟩;cases hd <;> first | exact k | (exact absurd h1 z1k)
  ·cases hd <;> first | exact k | (exact absurd rfl h1)
def strD:PyData ->Str
 | .str z=>z
 | _=>endW
def intD:PyData ->Int
 | .int i=>i
 | _=>0
def setD:PyData ->List Str
 | .tuple es=>es.map strD
 | _=>[]
def twB:PyData ->Bool
 | .tuple es=>es.all (txtD small)
 | _=>false
def accB:PyData ->Bool
 | .list ds=>ds.all twB&&decide (ds.map setD=q3w (ds.map setD))
 | _=>false
def fitB:Kd ->PyData ->Bool
 | .counts,.int i=>decide (0<=i)
 | .costs,.none=>true
 | .costs,.int _=>true
 | .bests m,.list ds=>decide ((ds.length:Int)<=m)&&(ds.all q4b&&decide (ds.map intD=Tim.srt q1j (ds.map intD)))
 | .trusts t,.int i=>decide (0<=i)&&decide (i<=t)
 | .truths,.bool _=>true
 | .hands,d=>accB d
 | _,_=>false
def okT:PyData ->Prop
 | .tuple es=>es.length<=10/\∀ x∈es,shD x
 | _=>True
def okF:PyData ->Prop
 | .list ds=>ds.length<=2000/\∀ e∈ds,okT e
 | _=>True
def qbi {K:xA} {H:Hp} {d:PyData} {x:V} (h:Dat K H d x):(∃ i,d= .int i/\x= .int i)\/ (q4b d=false/\∀ i,d≠ .int i):=by
 cases h with
 | int i=>exact .inl ⟨i,rfl,rfl⟩
 | non=>exact .inr ⟨rfl,λ _ z=>nomatch z⟩
 | bl _=>exact .inr ⟨rfl,λ _ z=>nomatch z⟩
 | str _ _=>exact .inr ⟨rfl,λ _ z=>nomatch z⟩
 | lst _ _=>exact .inr ⟨rfl,λ _ z=>nomatch z⟩
 | tup _ _=>exact .inr ⟨rfl,λ _ z=>nomatch z⟩
def qo6 {K:xA} {H:Hp} {d:PyData} {x:V} (h:Dat K H d x):(∃ a xs ds,d= .list ds/\x= .ref a/\SqL K H a xs/\Dats K H ds xs)\/ (tyIs (tyD d) "list"=false/\(∀ ds,d≠ .list ds)):=by
 cases h with
 | lst a b=>exact .inl ⟨_,_,_,rfl,rfl,a,b⟩
 | non=>exact .inr ⟨rfl,λ _ z=>nomatch z⟩
 | bl _=>exact .inr ⟨rfl,λ _ z=>nomatch z⟩
 | int _=>exact .inr ⟨rfl,λ _ z=>nomatch z⟩
 | str _ _=>exact .inr ⟨rfl,λ _ z=>nomatch z⟩
 | tup _ _=>exact .inr ⟨rfl,λ _ z=>nomatch z⟩
def qlr {K:xA} {H:Hp} {d:PyData} {x:V} (h:Dat K H d x):(∃ a xs ds,d= .tuple ds/\x= .ref a/\SqT K H a xs/\Dats K H ds xs)\/ (tyIs (tyD d) "tuple"=false/\twB d=false):=by
 cases h with
 | tup a b=>exact .inl ⟨_,_,_,rfl,rfl,a,b⟩
 | non=>exact .inr ⟨rfl,rfl⟩
 | bl _=>exact .inr ⟨rfl,rfl⟩
 | int _=>exact .inr ⟨rfl,rfl⟩
 | str _ _=>exact .inr ⟨rfl,rfl⟩
 | lst _ _=>exact .inr ⟨rfl,rfl⟩
theorem qfe {K:xA} {H:Hp}:∀ {ds:List PyData} {xs:List V},Dats K H ds xs ->ds.all q4b=true ->xs=(ds.map intD).map V.int/\ds=(ds.map intD).map PyData.int
 | _,_,.nil,_=>⟨rfl,rfl⟩
 | d::ds,x::xs,.cons h t,e=>by
  rw [List.all_cons,z2l] at e;rcases qbi h with ⟨i,rfl,rfl⟩ | ⟨n,_⟩
  ·obtain ⟨a,b⟩:=qfe t e.2;exact ⟨by rw [z3k,z3k,<- a];rfl,by rw [z3k,z3k,<- b];rfl⟩
  ·rw [n] at e;exact absurd e.1 z1k
theorem qff {K:xA} {H:Hp}:∀ {es:List PyData} {xs:List V},Dats K H es xs ->es.all (txtD small)=true ->xs=(es.map strD).map V.str/\es=(es.map strD).map PyData.str/\(∀ w∈es.map strD,PyData.strOk w=true/\txtB small w=true)
 | _,_,.nil,_=>⟨rfl,rfl,λ _ z=>nomatch z⟩
 | d::ds,x::xs,.cons h t,e=>by
  rw [List.all_cons,z2l] at e;cases h with
  | str z hz=>
   obtain ⟨a,b,c⟩:=qff t e.2;refine ⟨by rw [z3k,z3k,<- a];rfl,by rw [z3k,z3k,<- b];rfl,λ w hw=> ?_⟩;rcases z3m.mp hw with rfl | hw
   ·exact ⟨hz,e.1⟩
   ·exact c w hw
  | non=>exact absurd e.1 z1k
  | bl _=>exact absurd e.1 z1k
  | int _=>exact absurd e.1 z1k
  | lst _ _=>exact absurd e.1 z1k
  | tup _ _=>exact absurd e.1 z1k
theorem qo7 {K:xA} {H:Hp}:∀ {ds:List PyData} {xs:List V},Dats K H ds xs ->ds.all twB=true ->qc0 K H xs (ds.map setD)/\ds=(ds.map setD).map dR/\∀ s∈ds.map setD,∀ w∈s,PyData.strOk w=true/\txtB small w=true
 | _,_,.nil,_=>⟨.nil,rfl,λ _ z=>nomatch z⟩
 | d::ds,x::xs,.cons h t,e=>by
  rw [List.all_cons,z2l] at e;rcases qlr h with ⟨a,ys,es,rfl,rfl,Z,J⟩ | ⟨_,n⟩
  ·obtain ⟨b,c,g⟩:=qo7 t e.2;obtain ⟨b1,c1,g1⟩:=qff J e.1;refine ⟨.cons ⟨a,rfl,by rw [b1] at Z;exact Z⟩ b,?_,λ s O=> ?_⟩
   ·rw [z3k,z3k,<- c];exact congrArg (· ::ds) (congrArg PyData.tuple c1)
   ·rcases z3m.mp O with rfl | O
    ·exact g1
    ·exact g s O
  ·rw [n] at e;exact absurd e.1 z1k
theorem qie:∀ p q:List Str,PyData.eqvAll (p.map .str) (q.map .str)=decide (p=q)
 | [],[]=>by rw [z43,PyData.eqvAll];rfl
 | [],_::_=>by rw [z43,z3k,PyData.eqvAll];rfl
 | _::_,[]=>by rw [z43,z3k,PyData.eqvAll];rfl
 | x::p,y::q=>by
  have es:PyData.eqv (.str x) (.str y)=decide (x=y):=by
   show (x==y)=_;by_cases h:x=y <;> simp [h]
  rw [z3k,z3k,PyData.eqvAll,es,qie p q];by_cases h:x=y
  ·by_cases h2:p=q <;> simp [h,h2]
  ·simp [h]
theorem qif:∀ p q:List (List Str),PyData.eqvAll (p.map dR) (q.map dR)=decide (p=q)
 | [],[]=>by rw [z43,PyData.eqvAll];rfl
 | [],_::_=>by rw [z43,z3k,PyData.eqvAll];rfl
 | _::_,[]=>by rw [z43,z3k,PyData.eqvAll];rfl
 | x::p,y::q=>by
  have es:PyData.eqv (dR x) (dR y)=decide (x=y):=by
   unfold dR;rw [PyData.eqv,qie]
  rw [z3k,z3k,PyData.eqvAll,es,qif p q];by_cases h:x=y
  ·by_cases h2:p=q <;> simp [h,h2]
  ·simp [h]
theorem qig:∀ p q:List Int,PyData.eqvAll (p.map .int) (q.map .int)=decide (p=q)
 | [],[]=>by rw [z43,PyData.eqvAll];rfl
 | [],_::_=>by rw [z43,z3k,PyData.eqvAll];rfl
 | _::_,[]=>by rw [z43,z3k,PyData.eqvAll];rfl
 | x::p,y::q=>by
  have es:PyData.eqv (.int x) (.int y)=decide (x=y):=by
   show (x==y)=_;by_cases h:x=y <;> simp [h]
  rw [z3k,z3k,PyData.eqvAll,es,qig p q];by_cases h:x=y
  ·by_cases h2:p=q <;> simp [h,h2]
  ·simp [h]
def qzp {z:Str} (h:txtB small z=true):z≠endW:=λ e=>by
 subst e;exact absurd h (by decide+kernel)
def q7z (K:xA) (mg:xE) (k:Kd):Sp:=λ vs H Q _=>∃ (o:Addr) (x:V) (d:PyData),vs=[.ref o,x]/\ByAt mg H o k/\Dat K H d x/\okF d/\∀ H',Same H H' ->Q (.bl (fitB k d)) H'
def qh0 (T:Txt K mg):MDef P w K mg base 2 (cA mg "Counts") "fits" ["self","thing"] (q7z K mg .counts):=by
 refine T.qjm.ok qg8 (λ vs H Q E h=> ?_) λ f cdv A outer s H vs Q E hr h=> ?_
 ·obtain ⟨o,x,d,rfl,_⟩:=h;rfl
 ·obtain ⟨o,x,d,rfl,_,hd,_,q⟩:=h;refine ⟨_,(qg (qh (q7a (q12 (q67 T) hr rfl (pa_1 (pv 1))) (q51 (q3o q10h (pv 1) qc (qt _)))))),?_⟩;have q:=q H (Same.refl H);refine ⟨_,zr,x,d,zr,hd,_,zr,?_⟩;rcases qbi hd with ⟨i,rfl,rfl⟩ | ⟨n,hn⟩
  ·exact q1k rfl ⟨_,zr,_,_,zr,zr,q⟩
  ·refine qm n ?_;have e:fitB .counts d=false:=by
    cases d with
    | int i=>exact absurd rfl (hn i)
    | _=>rfl
   rw [e] at q;exact q
def qjc (T:Txt K mg):MDef P w K mg base 2 (cA mg "Costs") "fits" ["self","thing"] (q7z K mg .costs):=by
 refine T.qmg.ok qiv (λ vs H Q E h=> ?_) λ f cdv A outer s H vs Q E hr h=> ?_
 ·obtain ⟨o,x,d,rfl,_⟩:=h;rfl
 ·obtain ⟨o,x,d,rfl,_,hd,_,q⟩:=h;refine ⟨_,(qg (qh (qv7 (q3o q7b (pv 1) q2k (qt _)) (q51 (q12 (q67 T) hr rfl (pa_1 (pv 1))))))),?_⟩;have q:=q H (Same.refl H);refine ⟨_,zr,zr,_,zr,?_⟩;cases hd with
  | non=>exact q1k rfl q
  | bl b=>exact qm rfl ⟨_,rfl,_,_,rfl,.bl b,q⟩
  | int i=>exact qm rfl ⟨_,rfl,_,_,rfl,.int i,q⟩
  | str z hz=>exact qm rfl ⟨_,rfl,_,_,rfl,.str z hz,q⟩
  | lst a b=>exact qm rfl ⟨_,rfl,_,_,rfl,.lst a b,q⟩
  | tup a b=>exact qm rfl ⟨_,rfl,_,_,rfl,.tup a b,q⟩
def qh1 (T:Txt K mg) (t:Int):MDef P w K mg base 2 (cA mg "Trusts") "fits" ["self","thing"] (q7z K mg (.trusts t)):=by
  refine T.qjj.ok qgc (λ vs H Q E h=> ?_) λ f cdv A outer s H vs Q E hr h=> ?_
  · obtain ⟨o,x,d,rfl,_⟩:=h
    rfl
  · obtain ⟨o,x,d,rfl,⟨dx,hp⟩,hd,_,q⟩:=h
    refine ⟨_,(qg (qh (q7a (q12 (q67 T) hr rfl (pa_1 (pv 1))) (q51 (qsv qjv qjv qc (pv 1) (qan (pv 0) rfl)))))),?_⟩;have q:=q H (Same.refl H);refine ⟨_,zr,x,d,zr,hd,_,zr,?_⟩;rcases qbi hd with ⟨i,rfl,rfl⟩ | ⟨n,hn⟩
    · refine q1k rfl ⟨_,zr,_,_,zr,zr,_,zr,ite2 (λ h1=> ?_) (λ h1=> ?_)⟩
      · refine ⟨_,zr,o,_,dx,_,_,zr,hp,T.q8f,T.q82,zr,_,_,zr,zr,?_⟩
        have e:fitB (.trusts t) (.int i)=decide (i<=t):=by
          show (decide (0<=i)&&decide (i<=t))=_;rw [h1,z3s]
        rw [e] at q;exact q
      · have e:fitB (.trusts t) (.int i)=false:=by
          show (decide (0<=i)&&decide (i<=t))=_;rw [Bool.eq_false_iff.mpr h1,z3d]
        rw [e] at q;exact q
    · refine qm n ?_
      have e:fitB (.trusts t) d=false:=by
        cases d with
        | int i=>exact absurd rfl (hn i)
        | _=>rfl
      rw [e] at q;exact q
def qh2 (T:Txt K mg):MDef P w K mg base 1 (cA mg "Truths") "fits" ["self","thing"] (q7z K mg .truths):=by
 refine T.qjo.ok qgf (λ vs H Q E h=> ?_) λ f cdv A outer s H vs Q E hr h=> ?_
 ·obtain ⟨o,x,d,rfl,_⟩:=h;rfl
 ·obtain ⟨o,x,d,rfl,_,hd,_,q⟩:=h;refine ⟨_,(qg (qh (qp (q2f K) rfl T.q1m q1g (pa_2 (pv 1) (q4n rfl T.qfr qbv))))),?_⟩;have q:=q H (Same.refl H);refine ⟨_,zr,x,_,d,zr,hd,by decide,?_⟩;cases hd <;> exact q
def qjd (T:Txt K mg) (m:Int):MDef P w K mg base 2 (cA mg "Bests") "fits" ["self","thing"] (q7z K mg (.bests m)):=by
 refine T.qmd.ok qiz (λ vs H Q E h=> ?_) λ f cdv A outer s H vs Q E hr h=> ?_
 ·obtain ⟨o,x,d,rfl,_⟩:=h;rfl
 ·obtain ⟨o,x,d,rfl,⟨dx,hp⟩,hd,hz,q⟩:=h;refine ⟨_,(q2r
   (q15 (PW.pt (q86 (q3k (q3x (qp (q2f K) rfl T.q1m q1g (pa_2 (pv 1) (q4n rfl T.q81 q5m))))) (q68 (qq qol (qp (q2y K) rfl T.b_len q3z (pa_1 (pv 1))) (qan (pv 0) rfl) (qt _))))) (qg (qh q25)) qx)
   (qh (q7a (qp (q89 rfl K) rfl T.b_all qel (pa_1 (q29 (N:=["part"]) (caps:=[none]) rfl (by with_unfolding_all rfl) (q1f K (pv 1)) (λ _ _ _ _ _=>(q13 (i:=0) (show (["part"]:xD).Nodup by decide+kernel) rfl (Or.inl rfl))) (λ _ _ _ _ _=>q2o) (λ _ _ _ _ _=>(q12 (q67 T) hr rfl (pa_1 (pv 0))))))) (q51 (q3o (qkx hr.units K) (pv 1) (qp (q7e K) rfl T.q2q q2e (pa_1 (pv 1))) (qt _)))))),?_⟩
  refine ⟨_,zr,x,_,d,zr,hd,by decide,_,zr,?_⟩;rcases qo6 hd with ⟨a,xs,ds,rfl,rfl,hl,O⟩ | ⟨ty,hn⟩
  ·refine qm (show (!tyIs "list" "list")=false by decide) ?_;have el:=q7u O;have hz1:ds.length<=2000:=hz.1;refine ⟨_,zr,_,_,zr,.inl ⟨_,hl,zr⟩,_,zr,o,_,dx,_,_,zr,hp,T.q4c,T.q5g,zr,_,_,zr,zr,_,zr,?_⟩;rw [<- el];refine ite2 (λ h1=> ?_) (λ h1=> ?_)
   ·have q:=q H (Same.refl H);have e:fitB (.bests m) (.list ds)=false:=by
     have:¬ (ds.length:Int)<=m:=Int.not_le.mpr (of_decide_eq_true h1);show (decide ((ds.length:Int)<=m)&&_)=false;rw [z2v this,z3d]
    rw [e] at q;exact q
   ·have hm:(ds.length:Int)<=m:=Int.not_lt.mp λ z=>h1 (z3b z);refine ⟨_,zr,a,zr,⟨_,hl⟩,λ D hD=> ?_⟩;refine q1w xs.length (λ i σ' H'=>(∃ v,σ'=[v])/\Same H H'/\H' D=some (.lst (((ds.take i).map q4b).map V.bl))) ⟨⟨_,zr⟩,qf hD,qb⟩ (λ i σ' H' hi p=> ?_) (λ σ' H' p=>⟨?_,?_⟩) (λ i σ' H' hi p x H2 y=> ?_)
    ·obtain ⟨_,J,_⟩:=p;exact ⟨xs,xs[i],J.seq hl,z0c hi⟩
    ·obtain ⟨_,J,_⟩:=p;exact ⟨xs,J.seq hl,z47 _⟩
    ·obtain ⟨_,J,e⟩:=p;refine ⟨D,ds.map q4b,rfl,SqL.of (by rw [e,<- el,z2s]),_,rfl,?_⟩;have e2:(ds.map q4b).all id=ds.all q4b:=by rw [z45];rfl
     rw [e2];have ef:fitB (.bests m) (.list ds)=(ds.all q4b&&decide (ds.map intD=Tim.srt q1j (ds.map intD))):=by
      show (decide ((ds.length:Int)<=m)&&_)=_;rw [z3b hm,z3s]
     refine ite2 (λ h2=> ?_) (λ h2=> ?_)
     ·obtain ⟨ex,ed⟩:=qfe O h2;refine ⟨_,rfl,_,rfl,a,ds.map intD,rfl,.inl (by rw [<- ex];exact J.seq hl),λ l a2=> ?_⟩;have s2:=qf (o:=HO.lst ((Tim.srt q1j (ds.map intD)).map V.int)) a2;have sA:=J.trans s2;refine ⟨.list ((ds.map intD).map .int),.list ((Tim.srt q1j (ds.map intD)).map .int),?_,.lst (SqL.of qb) (qb7 _),?_,?_⟩
      ·rw [<- ed];exact Dat.same sA _ _ hd
      ·show PyData.depthAll ((ds.map intD).map .int)+1<=60;rw [qez];decide
      ·have q:=q _ sA;rw [ef,h2,z3s,<- qig] at q;exact q
     ·have q:=q _ J;rw [ef,Bool.eq_false_iff.mpr h2,z3d] at q;exact q
    ·obtain ⟨⟨v,rfl⟩,J,e⟩:=p;obtain ⟨rfl,hx⟩:=y;obtain ⟨d,Z,a1⟩:=q7t (Dats.same J _ _ O) (hx xs (J.seq hl));refine ⟨_,zr,x,d,zr,a1,_,e,?_,⟨_,zr⟩,J.set hD,?_⟩
     ·rw [z2z,z2z,z2f];exact q16 (by lia)
     ·rw [qb,z3g,Z,z35,z35];rfl
  ·refine q1k (by rw [ty];rfl) (iteT ?_);have q:=q H (Same.refl H);have e:fitB (.bests m) d=false:=by
    cases d with
    | list ds=>exact absurd rfl (hn ds)
    | _=>rfl
   rw [e] at q;exact q
def q117 (K:xA):Sp:=λ vs H Q _=>∃ (x:V) (d:PyData),vs=[x]/\Dat K H d x/\okT d/\∀ H',Same H H' ->Q (.bl (twB d)) H'
def q9w (T:Txt K mg):Def P w K mg base 3 "is_tuple_of_words" ["thing"] (q117 K):=by
 refine T.qac.ok q9o (λ vs H Q E h=> ?_) λ f cdv A outer s H vs Q E hr h=> ?_
 ·obtain ⟨x,d,rfl,_⟩:=h;rfl
 ·obtain ⟨x,d,rfl,hd,hz,q⟩:=h;refine ⟨_,(qg (qh (q7a (qp (q2f K) rfl T.q1m q1g (pa_2 (pv 0) (q4n rfl T.qc3 q9b))) (q51 (qp (q89 rfl K) rfl T.b_all qel (pa_1 (q29 (N:=["part"]) (caps:=[none]) rfl (by with_unfolding_all rfl) (q75 K (pv 0)) (λ _ _ _ _ _=>(q13 (i:=0) (show (["part"]:xD).Nodup by decide+kernel) rfl (Or.inl rfl))) (λ _ _ _ _ _=>q2o) (λ _ _ _ _ _=>(q12 (qpp T) hr rfl (pa_1 (pv 0))))))))))),?_⟩;refine ⟨_,zr,x,_,d,zr,hd,by decide,_,zr,?_⟩;rcases qlr hd with ⟨a,xs,ds,rfl,rfl,ht,Z⟩ | ⟨ty,hn⟩
  ·refine q1k (show tyIs "tuple" "tuple"=true by decide) ?_;have el:=q7u Z;have hz1:ds.length<=10:=hz.1;refine ⟨_,zr,a,zr,⟨_,ht⟩,λ D hD=> ?_⟩;refine q1w xs.length (λ i σ' H'=>(∃ v,σ'=[v])/\Same H H'/\H' D=some (.lst (((ds.take i).map (txtD small)).map V.bl))) ⟨⟨_,zr⟩,qf hD,qb⟩ (λ i σ' H' hi p=> ?_) (λ σ' H' p=>⟨?_,?_⟩) (λ i σ' H' hi p x H2 y=> ?_)
   ·obtain ⟨_,J,_⟩:=p;exact ⟨xs,xs[i],J.seqT ht,z0c hi⟩
   ·obtain ⟨_,J,_⟩:=p;exact ⟨xs,J.seqT ht,z47 _⟩
   ·obtain ⟨_,J,e⟩:=p;refine ⟨D,ds.map (txtD small),rfl,SqL.of (by rw [e,<- el,z2s]),?_⟩;rw [z45];exact q _ J
   ·obtain ⟨⟨v,rfl⟩,J,e⟩:=p;obtain ⟨rfl,hx⟩:=y;obtain ⟨d,O,a1⟩:=q7t (Dats.same J _ _ Z) (hx xs (J.seqT ht));refine ⟨_,zr,x,d,zr,a1,hz.2 d (z17 O),λ H3 s3=>⟨_,s3 _ _ e,?_,⟨_,zr⟩,(J.trans s3).set hD,?_⟩⟩
    ·rw [z2z,z2z,z2f];exact q1i (by lia)
    ·rw [qb,z3g,O,z35,z35];rfl
  ·refine qm ty ?_;have q:=q H (Same.refl H);rw [hn] at q;exact q
def qzq (K:xA):Sp:=λ vs H Q _=>∃ (x:V) (d:PyData),vs=[x]/\Dat K H d x/\okF d/\∀ H',Same H H' ->Q (.bl (accB d)) H'
def qls (T:Txt K mg):Def P w K mg base 4 "is_accord" ["thing"] (qzq K):=by
 refine T.qn3.ok qle (λ vs H Q E h=> ?_) λ f cdv A outer s H vs Q E hr h=> ?_
 ·obtain ⟨x,d,rfl,_⟩:=h;rfl
 ·obtain ⟨x,d,rfl,hd,hz,q⟩:=h;refine ⟨_,(q2r
   (q15 (PW.pt (q86 (q3k (q3x (qp (q2f K) rfl T.q1m q1g (pa_2 (pv 0) (q4n rfl T.q81 q5m))))) (q68 (q3k (q3x (qp (q89 rfl K) rfl T.b_all qel (pa_1 (q29 (N:=["part"]) (caps:=[none]) rfl (by with_unfolding_all rfl) (q1f K (pv 0)) (λ _ _ _ _ _=>(q13 (i:=0) (show (["part"]:xD).Nodup by decide+kernel) rfl (Or.inl rfl))) (λ _ _ _ _ _=>q2o) (λ _ _ _ _ _=>(q12 (q9w T) hr rfl (pa_1 (pv 0)))))))))))) (qg (qh q25)) qx)
   (qh (q3o (qkx hr.units K) (pv 0) (q12 (q9p T) hr rfl (pa_1 (pv 0))) (qt _)))),?_⟩
  refine ⟨_,zr,x,_,d,zr,hd,by decide,_,zr,?_⟩;rcases qo6 hd with ⟨a,xs,ds,rfl,rfl,hl,O⟩ | ⟨ty,hn⟩
  ·refine qm (show (!tyIs "list" "list")=false by decide) ?_;have el:=q7u O;have hz1:ds.length<=2000:=hz.1;refine ⟨_,zr,a,zr,⟨_,hl⟩,λ D hD=> ?_⟩;refine q1w xs.length (λ i σ' H'=>(∃ v,σ'=[v])/\Same H H'/\H' D=some (.lst (((ds.take i).map twB).map V.bl))) ⟨⟨_,zr⟩,qf hD,qb⟩ (λ i σ' H' hi p=> ?_) (λ σ' H' p=>⟨?_,?_⟩) (λ i σ' H' hi p x H2 y=> ?_)
   ·obtain ⟨_,J,_⟩:=p;exact ⟨xs,xs[i],J.seq hl,z0c hi⟩
   ·obtain ⟨_,J,_⟩:=p;exact ⟨xs,J.seq hl,z47 _⟩
   ·obtain ⟨_,J,e⟩:=p;refine ⟨D,ds.map twB,rfl,SqL.of (by rw [e,<- el,z2s]),_,rfl,?_⟩;have e2:(ds.map twB).all id=ds.all twB:=by rw [z45];rfl
    rw [e2];have ef:accB (.list ds)=(ds.all twB&&decide (ds.map setD=q3w (ds.map setD))):=rfl;cases h2:ds.all twB with
    | true=>
     refine qm rfl ?_;obtain ⟨ts,ed,ok⟩:=qo7 O h2;refine ⟨_,rfl,_,rfl,a,xs,ds.map setD,rfl,J.seq hl,q9r (q9q (λ _ _ z=>J.seqT z) ts),by rw [z2z];lia,λ r hr=> ?_,λ p zs R H3 s3 hp ep tp aR uR=> ?_⟩
     ·refine ⟨?_,λ z=>qzp ((ok r hr _ z).2) rfl⟩;obtain ⟨e,he,rfl⟩:=z44.mp hr;have ho:=hz.2 e he;cases e with
      | tuple es=>
       show (es.map strD).length<=30;rw [z2z];exact z40 ho.1 (by decide)
      | _=>exact z4a _
     ·have eR:=q7x aR uR;have a2:∀ r∈R,∀ w∈r,PyData.strOk w=true:=λ r hr w hw=>by
       obtain ⟨s,hs,z⟩:=qf3 aR uR r hr;exact (ok s hs w (z w hw)).1
      refine ⟨.list ((ds.map setD).map dR),.list (R.map dR),?_,.lst (SqL.of ep) (qlq tp a2),?_,?_⟩
      ·rw [<- ed];exact Dat.same (J.trans s3) _ _ hd
      ·exact z40 (z2p (qo0 _)) (by decide)
      ·have q:=q _ (J.trans s3);rw [ef,h2,z3s,<- eR,<- qif] at q;exact q
    | false=>
     refine q1k rfl ?_;have q:=q _ J;rw [ef,h2,z3d] at q;exact q
   ·obtain ⟨⟨v,rfl⟩,J,e⟩:=p;obtain ⟨rfl,hx⟩:=y;obtain ⟨d,Z,a1⟩:=q7t (Dats.same J _ _ O) (hx xs (J.seq hl));refine ⟨_,zr,x,d,zr,a1,hz.2 d (z17 Z),λ H3 s3=>⟨_,s3 _ _ e,?_,⟨_,zr⟩,(J.trans s3).set hD,?_⟩⟩
    ·rw [z2z,z2z,z2f];exact q16 (by lia)
    ·rw [qb,z3g,Z,z35,z35];rfl
  ·refine q1k (by rw [ty];rfl) (iteT ?_);have q:=q H (Same.refl H);have e:accB d=false:=by
    cases d with
    | list ds=>exact absurd rfl (hn ds)
    | _=>rfl
   rw [e] at q;exact q
def qje (T:Txt K mg):MDef P w K mg base 5 (cA mg "Hands") "fits" ["self","thing"] (q7z K mg .hands):=by
 refine T.qmi.ok qj1 (λ vs H Q E h=> ?_) λ f cdv A outer s H vs Q E hr h=> ?_
 ·obtain ⟨o,x,d,rfl,_⟩:=h;rfl
 ·obtain ⟨o,x,d,rfl,_,hd,hz,q⟩:=h;exact ⟨_,(qg (qh (q12 (qls T) hr rfl (pa_1 (pv 1))))),_,zr,x,d,zr,hd,hz,q⟩
def qxr (T:Txt K mg) (k:Kd):MDef P w K mg base 5 (clsK mg k) "fits" ["self","thing"] (q7z K mg k):=by
 cases k with
 | counts=>exact MDef.mono (qh0 T) (by decide)
 | costs=>exact MDef.mono (qjc T) (by decide)
 | bests m=>exact MDef.mono (qjd T m) (by decide)
 | trusts t=>exact MDef.mono (qh1 T t) (by decide)
 | truths=>exact MDef.mono (qh2 T) (by decide)
 | hands=>exact qje T
def fitH (d:PyData):fitB .hands d=accB d:=by cases d <;> rfl
def quf {W:xD} {k:Kd} {a:Wo} (g:q11 W k a) (hk:k.ok) (hW:∀ w∈W,txtB small w=true):fitB k (dW a)=true:=by
 cases g with
 | counts h=>exact z3b h
 | costN i=>rfl
 | costX=>rfl
 | @bests m l h hl=>
  have J:(l.map PyData.int).map intD=l:=by rw [z46];exact z4b _
  have e1:(l.map PyData.int).all q4b=true:=by rw [z45];exact z2m.mpr λ _ _=>rfl
  show (decide (((l.map PyData.int).length:Int)<=m)&&((l.map PyData.int).all q4b&&decide ((l.map PyData.int).map intD=Tim.srt q1j ((l.map PyData.int).map intD))))=true;rw [J,e1,z2z,z3b (show l=Tim.srt q1j l from q3h.uniq (Tim.q18 q1j l).symm h (Tim.q2v q3h l)),z3s,Bool.and_true];have:1<=m:=hk.1;exact z3b (by lia)
 | trusts h h2=>
  show (decide _&&decide _)=true;rw [z3b h,z3b h2];rfl
 | truths b=>rfl
 | @hands R a o=>
  have J:(R.map dR).map setD=R:=by
   rw [z46]
   conv=>rhs;rw [<- z4b R]
   refine z1e λ r _=> ?_;show (r.map PyData.str).map strD=r;rw [z46];exact z4b _
  have e1:(R.map dR).all twB=true:=by
   rw [z45];refine z2m.mpr λ r hr=> ?_;show (r.map PyData.str).all (txtD small)=true;rw [z45];exact z2m.mpr λ w hw=>hW w (o.sub r hr w hw)
  show ((R.map dR).all twB&&decide ((R.map dR).map setD=q3w ((R.map dR).map setD)))=true;rw [J,e1,z3b (qpl a).symm];rfl
def qrz {W:xD} {k:Kd} {a:Wo} (g:q11 W k a) (hk:k.ok) (hW:∀ w∈W,txtB small w=true):okF (dW a):=by
 cases g with
 | counts h=>trivial
 | costN i=>trivial
 | costX=>trivial
 | @bests m l h hl=>
  have:m<=9:=hk.2;refine ⟨by rw [z2z];lia,λ e J=> ?_⟩;obtain ⟨i,_,rfl⟩:=z44.mp J;trivial
 | trusts h h2=>trivial
 | truths b=>trivial
 | @hands R a o=>
  refine ⟨by rw [z2z];exact z40 (o.cards a) (by decide),λ e J=> ?_⟩;obtain ⟨r,hr,rfl⟩:=z44.mp J;refine ⟨by rw [z2z];exact (o.len hr (a.norm r hr)).1,λ x hx=> ?_⟩;obtain ⟨w,hw,rfl⟩:=z44.mp hx;have t:=hW w (o.sub r hr w hw);show w.length<=200
  apply Classical.byContradiction
  intro z;rw [qdr (λ q=>z (z40 q.2 (by decide)))] at t;cases t
def Ws (z:Str):Prop:=∀ c r,z.cps.toList=c::r ->c∈small.cps.toList
def qzr:Ws "":=λ c r h=>by
 have:(("":Str).cps.toList:List Nat)=[]:=by decide+kernel
 rw [this] at h;cases h
def qlt {d:Nat} (h:d∈small.cps.toList):Ws ⟨#[d]⟩:=λ c r e=>by
 injection (show [d]=c::r from e) with e1 e2;subst e1;exact h
def qxs {z:Str} (h:z.cps.toList=[]):z="":=by
 cases z with | mk a=>
  have ha:a.toList=[]:=h;have:a=#[]:=Array.toList_eq_nil_iff.mp ha;subst this;decide+kernel
def q90 {a b:Str} (h:Ws a) (k:a.cps.toList=[] ->Ws b):Ws (a++b):=λ c r e=>by
 rw [qde] at e;cases ea:a.cps.toList with
 | nil=>
  rw [ea,List.nil_append] at e;exact k ea c r e
 | cons x xs=>
  rw [ea,List.cons_append] at e;injection e with e1 _;subst e1;exact h _ _ ea
def qfg {z:Str} {hi:Option Int} (h:Ws z):Ws (cutS z none hi):=λ c r e=>by
 unfold cutS at e;rw [z1f,HT.sIx_none,List.drop_zero,Nat.sub_zero] at e;cases J:z.cps.toList with
 | nil=>rw [J,List.take_nil] at e;cases e
 | cons x xs=>
  rw [J] at e;cases n:HT.sIx z.length z.length hi with
  | zero=>rw [n,List.take_zero] at e;cases e
  | succ m=>
   rw [n,List.take_succ_cons] at e;injection e with e1 _;subst e1;exact h _ _ J
def qs0 (a:Str) (d:Nat):(a++(⟨#[d]⟩:Str)).cps.toList≠ []:=λ e=>by
 rw [qde] at e;exact absurd (List.append_eq_nil_iff.mp e).2 (by intro z;cases z)
def qzs {z:Str} {m:Int} (h1:1<=z.length) (hm:1<=m):(cutS z none (some m)).cps.toList≠ []:=λ e=>by
 have:=qnw h1 hm;rw [<- q3j,e] at this;exact absurd this (by decide)
def qug {y:Str} (h:1<=y.length):(cutS y none (some (-1))).length<=y.length - 1:=by
 rw [<- q3j];unfold cutS;rw [z1f,z2f,HT.sIx_none,List.drop_zero,Nat.sub_zero];refine z40 (Nat.min_le_left _ _) ?_;have:HT.sIx y.length y.length (some (-1))=y.length - 1:=by
  unfold HT.sIx;simp
  lia
 lia
def qxt (z:Str) {m:Int} (h:0<=m):((cutS z none (some m)).length:Int)<=m:=by
 obtain ⟨k,rfl⟩:=z0l h;rw [<- q3j];unfold cutS;rw [z1f,z2f,HT.sIx_none,HT.sIx_nat,List.drop_zero,Nat.sub_zero];have:=Nat.min_le_left (min k z.length) z.cps.toList.length;have:=Nat.min_le_left k z.length
 lia
def quh (z:Str) {lo hi:Int} (h0:0<=lo) (h1:lo<=hi):((cutS z (some lo) (some hi)).length:Int)<=hi - lo:=by
 obtain ⟨a,rfl⟩:=z0l h0;obtain ⟨b,rfl⟩:=z0l (z3v h0 h1);rw [<- q3j];unfold cutS;rw [z1f,z2f,HT.sIx_nat,HT.sIx_nat];have:=Nat.min_le_left (min b z.length - min a z.length) (z.cps.toList.drop (min a z.length)).length
 lia
def q118:∀ k:Nat,k < 26 ->∃ d,fur.cps.toList[k]? =some d/\d∈small.cps.toList:=by decide+kernel
def qds (c:Int):∃ d,atI fur.cps.toList (c%26)=some d/\d∈fur.cps.toList/\d∈small.cps.toList:=by
 have h0:0<=c%26:=z39 _ (by decide);have h1:c%26 < 26:=z1v _ (by decide);obtain ⟨k,hk⟩:=z0l h0;rw [hk];obtain ⟨d,hd,hs⟩:=q118 k (by lia);exact ⟨d,q5k hd,z17 hd,hs⟩
def qzt {z:Str} (h:Wz 12 z) (h1:1<=z.length) (hs:Ws z):txtB small z=true:=by
 rw [qo5 h1 h.1];obtain ⟨c,r,e⟩:=qfd h1;rw [e];show (decide _&&_)=true;rw [z3b (hs c r e),z3s];exact z2m.mpr λ d hd=>z3b (h.2 d (by rw [e];exact z15 _ hd))
def qs1:Sp:=λ vs H Q _=>∃ c m:Int,vs=[.int c,.int m]/\1<=m/\m<=40/\∀ z H',Same H H' ->Wz m.toNat z ->z.length=m.toNat ->Ws z ->Q (.str z) H'
def qa5 (T:Txt K mg):Def P w K mg base 2 "_law_word" ["_law_cell","_law_size"] qs1:=by
 refine T.qn2.ok q38 (λ vs H Q E h=> ?_) λ f cdv A outer s H vs Q E hr h=> ?_
 ·obtain ⟨c,m,rfl,_⟩:=h;rfl
 ·obtain ⟨c,m,rfl,m0,m1,k⟩:=h;refine ⟨_,(q9c
   (qo (i:=2) q38.nd rfl (Or.inl rfl) q50)
   (qo (i:=3) q38.nd rfl (Or.inl rfl) q50)
   (q22 PassesOwn.never rfl (q1f K (q12 (q39 T) hr rfl (pa_2 (pv 0) (pv 1)))) (q13 (i:=4) q38.nd rfl (Or.inl rfl)) (qg (q15 (qq q1h (pv 3) q50 (qt _)) (qg (qo (i:=3) q38.nd rfl (Or.inl rfl) (qy q8p (pv 2) (qk qz (pv 4) qc) (λ _ _=>rfl)))) (qg (qo (i:=3) q38.nd rfl (Or.inl rfl) (qk q70 (pv 3) (qy q8p (pv 2) (qk qz (pv 4) qc) (λ _ _=>rfl))))))))
   (qh (pv 3))),?_⟩
  refine ⟨_,zr,_,zr,c,m,zr,by lia,by lia,λ p ns H1 s1 hp hl _ hn=> ?_⟩;refine ⟨p,rfl,⟨_,SqL.of hp⟩,q2n (xs:=ns.map V.int) (λ i σ H'=>H'=H1/\∃ (v:Option V) (z:Str),σ=[some (.int c),some (.int m),some (.str fur),some (.str z),v]/\Wz i z/\z.length=i/\Ws z) ⟨rfl,_,"",rfl,⟨z47 _,λ c hc=>nomatch hc⟩,rfl,qzr⟩ (λ i σ H' _ z=>by rw [z.1];exact SqL.of hp) ?_ ?_⟩
  ·rintro i x σ H' hx ⟨rfl,v,z,rfl,hw,hz,Z⟩;rw [z21] at hx;obtain ⟨n,O,rfl⟩:=z0p.mp hx;have il:i < ns.length:=(z07.mp O).1;refine ⟨_,zr,zr,_,zr,ite2 (λ h1=> ?_) (λ h1=> ?_)⟩
   ·obtain ⟨d,hd,J,a1⟩:=qds n;have e:z="":=by
     have:=of_decide_eq_true h1;injection this
    have i0:i=0:=by rw [<- hz,e];rfl
    refine ⟨_,rfl,_,rfl,_,_,rfl,rfl,(by show (0:Int) < 26;decide),_,_,d,rfl,rfl,q7v,hd,?_⟩;exact ⟨rfl,_,_,rfl,(Wz.one J).le (by lia),by rw [i0];rfl,qlt a1⟩
   ·obtain ⟨d,hd,J⟩:=qrm n (m:=36) (by decide) (by decide);refine ⟨_,rfl,_,rfl,_,rfl,_,_,rfl,rfl,(by show (0:Int) < 36;decide),_,_,d,rfl,rfl,q7v,hd,_,_,rfl,rfl,?_,?_⟩
    ·exact z40 (Nat.add_le_add (Nat.le_of_eq hz) (q76 d)) (z40 (show i+1<=1000 by lia) (by decide))
    ·exact ⟨rfl,_,_,rfl,hw.app (Wz.one J),by rw [q3q,hz];rfl,q90 Z λ e=>absurd (show decide (V.str z=V.str "")=true from z3b (congrArg V.str (qxs e))) h1⟩
  ·rintro σ H' ⟨rfl,v,z,rfl,hw,hz,Z⟩;rw [z2z,hl] at hw hz;exact ⟨_,zr,k z _ s1 hw hz Z⟩
def qs2:Sp:=λ vs H Q _=>∃ c m:Int,vs=[.int c,.int m]/\0<=m/\m<=20/\∀ p (ws:xD) H',Same H H' ->H' p=some (.lst (ws.map V.str)) ->ws.length=m.toNat ->H p=none ->(∀ z∈ws,Wz 12 z/\1<=z.length/\Ws z) ->Q (.ref p) H'
def qh3 (T:Txt K mg):Def P w K mg base 3 "_law_words" ["_law_cell","_law_many"] qs2:=by
 refine T.qm8.ok q1o (λ vs H Q E h=> ?_) λ f cdv A outer s H vs Q E hr h=> ?_
 ·obtain ⟨c,m,rfl,_⟩:=h;rfl
 ·obtain ⟨c,m,rfl,m0,m1,k⟩:=h;refine ⟨_,(qve
   (qo (i:=2) q1o.nd rfl (Or.inl rfl) q50)
   (qo (i:=3) q1o.nd rfl (Or.inl rfl) (q12 (q39 T) hr rfl (pa_2 (pv 0) qc)))
   (qo (i:=4) q1o.nd rfl (Or.inl rfl) (q12 (qa5 T) hr rfl (pa_2 (pv 0) qc)))
   (qo (i:=5) q1o.nd rfl (Or.inl rfl) (qk q19 qc (qk qz (qy (ql K) (pv 3) qc (λ _ _=>rfl)) qc)))
   (qo (i:=6) q1o.nd rfl (Or.inl rfl) (qk qz (qy (ql K) (pv 3) qc (λ _ _=>rfl)) (pv 5)))
   (qo (i:=7) q1o.nd rfl (Or.inl rfl) (q1e q26))
   (q22 PassesOwn.never rfl (q4w rfl T.q78 (pa_1 (pv 1))) (q13 (i:=8) q1o.nd rfl (Or.inl rfl)) (qg (q15 (qq q1h (qk qz (qy (ql K) (pv 3) qc (λ _ _=>rfl)) qc) qc (qt _)) (q2r
   (qo (i:=9) q1o.nd rfl (Or.inl rfl) (q12 (qa5 T) hr rfl (pa_2 (qk q19 (qy (ql K) (pv 3) qc (λ _ _=>rfl)) (qk q53 qc (pv 8))) (qk q19 qc (qk qz (qk q19 (qy (ql K) (pv 3) qc (λ _ _=>rfl)) (qk q53 qc (pv 8))) qc)))))
   (q2b (q64 z0k z0f z0g q3y (pv 7) (pa_1 (qk q70 (q21 qap (pv 9) q4d (q1p (qec qak qc))) (qy q8p (pv 2) (qk qz (qk q19 (qy (ql K) (pv 3) qc (λ _ _=>rfl)) (pv 8)) qc) (λ _ _=>rfl))))))) (qg (q15 (qq q1h (qk qz (qy (ql K) (pv 3) qc (λ _ _=>rfl)) qc) qc (qt _)) (qg (q2b (q64 z0k z0f z0g q3y (pv 7) (pa_1 (q21 qap (pv 4) q4d (q1p (qk q19 qc (qk qz (qk q19 (qy (ql K) (pv 3) qc (λ _ _=>rfl)) (pv 8)) qc)))))))) (q4e
   (qo (i:=10) q1o.nd rfl (Or.inl rfl) (qy q8p (pv 2) (qk qz (qk q19 (qy (ql K) (pv 3) qc (λ _ _=>rfl)) (pv 8)) qc) (λ _ _=>rfl)))
   (q15 (qq q1h (pv 6) qc (qt _)) (qg (qo (i:=10) q1o.nd rfl (Or.inl rfl) (qy q8p (pv 2) (qk qz (qk q19 (qy (ql K) (pv 3) qc (λ _ _=>rfl)) (pv 8)) qc) (λ _ _=>rfl)))) qx)
   (q2b (q64 z0k z0f z0g q3y (pv 7) (pa_1 (qk q70 (qk q70 (q21 qap (pv 4) q4d (q1p (pv 6))) (pv 10)) (q21 qap (pv 4) (q1p (qk q19 (pv 6) qc)) (q1p (pv 5)))))))))))))
   (qh (pv 7))),?_⟩
  refine ⟨_,zr,c,4,zr,by decide,by decide,λ p ns H1 s1 hp hl _ hn=> ?_⟩;refine ⟨_,zr,c,12,zr,by decide,by decide,λ z H2 s2 hz hzl a8=> ?_⟩;have a5:=s2 _ _ hp;have hl4:ns.length=4:=hl;have a0:atI (ns.map V.int) 0=some (V.int (ns.getD 0 0)):=q1l (k:=0) (by lia);have a1:atI (ns.map V.int) 1=some (V.int (ns.getD 1 0)):=q1l (k:=1) (by lia);have a2:atI (ns.map V.int) 2=some (V.int (ns.getD 2 0)):=q1l (k:=2) (by lia);have a3:atI (ns.map V.int) 3=some (V.int (ns.getD 3 0)):=q1l (k:=3) (by lia);generalize ns.getD 0 0=O at*;generalize ns.getD 1 0=n1 at*;generalize ns.getD 2 0=n2 at*;generalize ns.getD 3 0=n3 at*;refine ⟨_,rfl,_,_,_,_,rfl,rfl,SqL.of a5,a0,_,_,rfl,rfl,(by show (0:Int) < 12;decide),_,_,rfl,rfl,?_⟩;refine ⟨_,rfl,_,_,_,_,rfl,rfl,SqL.of a5,a1,_,rfl,_,_,rfl,rfl,(by show (0:Int) < 1+O%12;lia),?_⟩;refine ⟨by decide,λ q hq=> ?_⟩;have s3:=qf (o:=HO.lst []) hq;have sz:z.length<=sizeLine:=hz.size (by decide);refine ⟨_,rfl,_,rfl,by lia,by lia,q87 (lo:=0) (n:=m.toNat) (λ i σ H'=>Same H2 H'/\(∃ ws:List Str,H' q=some (.lst (ws.map V.str))/\ws.length=i/\∀ y∈ws,Wz 12 y/\1<=y.length/\Ws y)/\∃ (v1 v2 v3:Option V),σ=[some (.int c),some (.int m),some (.str fur),some (.ref p),some (.str z),some (.int (1+O%12)),some (.int (n1%(1+O%12))),some (.ref q),v1,v2,v3])
   ⟨s3,⟨[],qb,rfl,λ _ z=>nomatch z⟩,_,_,_,rfl⟩ ?_ ?_⟩
  ·rintro i σ H' hi ⟨sm,⟨ws,hw,wl,a6⟩,v1,v2,v3,rfl⟩;have J:=sm _ _ a5;have lw:ws.length < sizeLine:=by rw [wl];exact q1i (by lia)
   have fin:∀ (y:Str) (H3:Hp),Same H' H3 ->Wz 12 y ->1<=y.length ->Ws y ->Same H2 (upd H3 q (.lst (ws.map V.str++ [V.str y])))/\∃ a9:List Str,upd H3 q (.lst (ws.map V.str++ [V.str y])) q=some (.lst (a9.map V.str))/\a9.length=i+1/\∀ x∈a9,Wz 12 x/\1<=x.length/\Ws x:=λ y H3 s4 hy b7 a7=>by
    refine ⟨(sm.trans s4).set hq,ws++ [y],by rw [qb,z35];rfl,by rw [z1n,wl];rfl,λ x hx=> ?_⟩;rcases z2t.mp hx with hx | hx
    ·exact a6 x hx
    ·rw [z1l.mp hx];exact ⟨hy,b7,a7⟩
   refine ⟨_,rfl,_,_,_,_,rfl,rfl,SqL.of J,a2,_,_,rfl,rfl,(by show (0:Int) < 4;decide),rfl,_,rfl,ite2 (λ h1=> ?_) (λ h1=> ?_)⟩
   ·refine ⟨_,rfl,_,_,_,_,rfl,rfl,SqL.of J,a3,_,rfl,_,_,rfl,rfl,.inl ⟨by decide,by decide⟩,_,_,rfl,rfl,_,rfl,_,_,_,_,rfl,rfl,SqL.of J,a1,_,rfl,_,_,rfl,rfl,.inl ⟨by decide,by decide⟩,_,_,rfl,rfl,_,_,rfl,rfl,(by show (0:Int) < 12;decide),_,_,rfl,rfl,_,_,rfl,by lia,by lia,λ y H3 s4 hy hyl a7=> ?_⟩;obtain ⟨d,hd,a4,b6⟩:=qds (O+(0+(i:Int)));have Z:Wz 12 y:=hy.le (by lia);have yz:y.length<=sizeLine:=Z.size (by decide);have cy:=Z.cut none (some (-1));refine ⟨_,rfl,.inl ⟨rfl,_,SqL.of (s4 _ _ hw)⟩,_,rfl,_,rfl,_,rfl,_,rfl,yz,_,rfl,_,rfl,_,_,_,_,rfl,rfl,SqL.of (s4 _ _ J),a0,_,rfl,_,_,rfl,rfl,_,_,rfl,rfl,(by show (0:Int) < 26;decide),_,_,d,rfl,rfl,q7v,hd,_,_,rfl,rfl,z40 (Nat.add_le_add cy.1 (q76 d)) (by decide),?_⟩;refine ⟨_,_,_,rfl,rfl,s4 _ _ hw,by rw [z2z];exact lw,?_⟩;obtain ⟨f1,f2⟩:=fin _ H3 s4 ⟨by rw [q3q];exact z40 (Nat.add_le_add (qug (by lia)) (q76 d)) (by have:=Z.1;lia),(cy.app (Wz.one a4)).2⟩ (by rw [q3q];exact Nat.le_add_left 1 _) (q90 (qfg a7) λ _=>qlt b6);exact ⟨f1,f2,_,_,_,zr⟩
   ·refine ⟨_,rfl,_,_,_,_,rfl,rfl,SqL.of J,a2,_,_,rfl,rfl,(by show (0:Int) < 4;decide),rfl,_,rfl,ite2 (λ h2=> ?_) (λ h2=> ?_)⟩
    ·have cz:=hz.cut none (some (1+(O+(0+(i:Int)))%12));refine ⟨_,rfl,.inl ⟨rfl,_,SqL.of hw⟩,_,rfl,_,rfl,_,_,_,_,rfl,rfl,SqL.of J,a0,_,rfl,_,_,rfl,rfl,_,_,rfl,rfl,(by show (0:Int) < 12;decide),_,_,rfl,rfl,_,rfl,_,rfl,sz,?_⟩;refine ⟨_,_,_,rfl,rfl,hw,by rw [z2z];exact lw,?_⟩;obtain ⟨f1,f2⟩:=fin _ H' (Same.refl _) cz (qnw (by lia) (by lia)) (qfg a8);exact ⟨f1,f2,_,_,_,zr⟩
    ·obtain ⟨d,hd,a4⟩:=qrm (n3+(0+(i:Int))) (m:=36) (by decide) (by decide);obtain ⟨d',b5,b2,b3⟩:=qds (n3+(0+(i:Int)));have b8:0<=n1%(1+O%12):=z39 _ (by lia);have n11:n1%(1+O%12) < 1+O%12:=z1v _ (by lia);have b4:∀ x:Nat,(cutS z none (some (n1%(1+O%12)))++(⟨#[x]⟩:Str)++cutS z (some (n1%(1+O%12)+1)) (some (1+O%12))).length<=12:=λ x=>by
      rw [q3q,q3q];have q1:=qxt z b8;have q2:=quh z (lo:=n1%(1+O%12)+1) (hi:=1+O%12) (by lia) (by lia);have q3:=q76 x
      lia
     have c1:=hz.cut none (some (n1%(1+O%12)));have c2:=hz.cut (some (n1%(1+O%12)+1)) (some (1+O%12));refine ⟨_,rfl,_,rfl,_,_,_,_,rfl,rfl,SqL.of J,a3,_,rfl,_,_,rfl,rfl,_,_,rfl,rfl,(by show (0:Int) < 36;decide),_,_,d,rfl,rfl,q7v,hd,?_⟩;refine ⟨_,zr,zr,_,zr,ite2 (λ h3=> ?_) (λ h3=> ?_)⟩
     ·refine ⟨_,rfl,_,rfl,_,_,_,_,rfl,rfl,SqL.of J,a3,_,rfl,_,_,rfl,rfl,_,_,rfl,rfl,(by show (0:Int) < 26;decide),_,_,d',rfl,rfl,q7v,b5,?_⟩;have ca:=c1.app (Wz.one b2);refine ⟨_,zr,.inl ⟨zr,_,SqL.of hw⟩,_,zr,_,zr,_,zr,_,zr,sz,_,zr,_,_,zr,zr,z40 (Nat.add_le_add c1.1 (q76 d')) (by decide),?_⟩;refine ⟨_,zr,_,zr,_,_,zr,zr,_,zr,_,zr,_,zr,_,zr,sz,_,_,zr,zr,z40 (Nat.add_le_add ca.1 c2.1) (by decide),?_⟩;refine ⟨_,_,_,rfl,rfl,hw,by rw [z2z];exact lw,?_⟩;obtain ⟨f1,f2⟩:=fin _ H' (Same.refl _) ⟨b4 d',(ca.app c2).2⟩ (by rw [q3q,q3q];exact z40 (Nat.le_add_left 1 _) (Nat.le_add_right _ _)) (q90 (q90 (qfg a8) λ _=>qlt b3) λ e=>absurd e (qs0 _ _));exact ⟨f1,f2,_,_,_,zr⟩
     ·have ca:=c1.app (Wz.one a4);refine ⟨_,zr,.inl ⟨zr,_,SqL.of hw⟩,_,zr,_,zr,_,zr,_,zr,sz,_,zr,_,_,zr,zr,z40 (Nat.add_le_add c1.1 (q76 d)) (by decide),?_⟩;refine ⟨_,zr,_,zr,_,_,zr,zr,_,zr,_,zr,_,zr,_,zr,sz,_,_,zr,zr,z40 (Nat.add_le_add ca.1 c2.1) (by decide),?_⟩;refine ⟨_,_,_,rfl,rfl,hw,by rw [z2z];exact lw,?_⟩;obtain ⟨f1,f2⟩:=fin _ H' (Same.refl _) ⟨b4 d,(ca.app c2).2⟩ (by rw [q3q,q3q];exact z40 (Nat.le_add_left 1 _) (Nat.le_add_right _ _)) (q90 (q90 (qfg a8) λ e=>absurd e (qzs (by lia) (by have:=vin h3;lia))) λ e=>absurd e (qs0 _ _));exact ⟨f1,f2,_,_,_,zr⟩
  ·rintro σ H' ⟨sm,⟨ws,hw,wl,a6⟩,v1,v2,v3,rfl⟩;exact ⟨_,zr,k q ws H' ((s1.trans s2).trans sm) hw wl ((s1.trans s2).free hq) a6⟩
def rkP (k:Kd) (g:Str ->Wo) (p:xD):Wo:=p.foldl (λ a n=>boW k a (g n)) (unW k)
def rkS (k:Kd) (l:List Wo):Wo:=l.foldl (eiW k) (noW k)
def rkT (k:Kd) (g:Str ->Wo) (p:List Str×Int):Wo:=repW k (rkP k g p.1) p.2
def rkY (k:Kd) (g:Str ->Wo) (Y:Tab):Wo:=rkS k (Y.map (rkT k g))
section
variable {W:xD} {k:Kd} {g:Str ->Wo}
def qlu (p:xD) (n:Str):rkP k g (p++ [n])=boW k (rkP k g p) (g n):=by
 unfold rkP;rw [z2e];rfl
def q9x (hW:HOk W) (hk:k.ok) (hg:∀ z,q11 W k (g z)) (p:xD):q11 W k (rkP k g p):=by
 unfold rkP;have:∀ (p:xD) (a:Wo),q11 W k a ->q11 W k (p.foldl (λ a n=>boW k a (g n)) a):=λ p=>by
  induction p with
  | nil=>exact λ a h=>h
  | cons n p ih=>exact λ a h=>ih _ (qzi h (hg n))
 exact this p _ (qzh hW hk)
def qui (hW:HOk W) (hk:k.ok) {l:List Wo} (h:∀ a∈l,q11 W k a):q11 W k (rkS k l):=by
 have:∀ (l:List Wo) (a:Wo),(∀ b∈l,q11 W k b) ->q11 W k a ->q11 W k (l.foldl (eiW k) a):=λ l=>by
  induction l with
  | nil=>exact λ a _ h=>h
  | cons n l ih=>exact λ a hl h=>ih _ (λ b hb=>hl b (z15 _ hb)) (q8x h (hl n (z1o ..)))
 exact this l _ h (q7y hW hk)
def quj (l:List Wo) (a:Wo):rkS k (l++ [a])=eiW k (rkS k l) a:=by
 unfold rkS;rw [z2e];rfl
def quk (hW:HOk W) (hk:k.ok) (hg:∀ z,q11 W k (g z)) {p:List Str×Int} (h:0<=p.2):q11 W k (rkT k g p):=qo4 hW hk (q9x hW hk hg p.1) h
def qs3 (hW:HOk W) (hk:k.ok) (hg:∀ z,q11 W k (g z)) {Y:Tab} (h:NN Y):∀ a∈Y.map (rkT k g),q11 W k a:=λ a ha=>by
 obtain ⟨p,hp,rfl⟩:=z44.mp ha;exact quk hW hk hg (h p hp)
def qlv (hW:HOk W) (hk:k.ok) (hg:∀ z,q11 W k (g z)) {Y:Tab} (h:NN Y):q11 W k (rkY k g Y):=qui hW hk (qs3 hW hk hg h)
def qul (Y:Tab) (p:List Str×Int):rkY k g (Y++ [p])=eiW k (rkY k g Y) (rkT k g p):=by
 unfold rkY;rw [z35];exact quj _ _
end
def WD (H:Hp) (d:Addr) (f:Str ->Option Wo):Prop:=∃ kvs,Rd H d (.dK kvs)/\∀ z,f z=none\/ ∃ a v,f z=some a/\valV kvs (Sum.inr z)=some v/\WV H a v
theorem WD.same {H H':Hp} {d:Addr} {f:Str ->Option Wo} (h:WD H d f) (s:Same H H'):WD H' d f:=by
 obtain ⟨kvs,hr,hv⟩:=h;refine ⟨kvs,?_,λ z=> ?_⟩
 ·rcases hr with hr | ⟨o,hr⟩
  ·exact .inl (s _ _ hr)
  ·exact .inr ⟨o,s _ _ hr⟩
 ·rcases hv z with h | ⟨a,v,e1,e2,hw⟩
  ·exact .inl h
  ·exact .inr ⟨a,v,e1,e2,hw.same s⟩
def WD.get {H:Hp} {d:Addr} {f:Str ->Option Wo} (h:WD H d f) {z:Str} {a:Wo} (e:f z=some a):∃ v,DGet H d (.str z) (some v)/\WV H a v:=by
 obtain ⟨kvs,hr,hv⟩:=h;rcases hv z with e1 | ⟨b,v,e1,e2,hw⟩
 ·rw [e1] at e;cases e
 ·rw [e1] at e;cases e
  exact ⟨v,.inl ⟨kvs,Sum.inr z,hr,zr,e2.symm⟩,hw⟩
def gOf (k:Kd) (f:Str ->Option Wo) (z:Str):Wo:=(f z).getD (noW k)
structure FOk (W:xD) (k:Kd) (f:Str ->Option Wo):Prop where
 hk:k.ok
 hW:HOk W
 tW:∀ w∈W,txtB small w=true
 good:∀ z a,f z=some a ->q11 W k a
 lt:∀ z,LtW k (2^600) (gOf k f z)
def FOk.g {W:xD} {k:Kd} {f:Str ->Option Wo} (h:FOk W k f) (z:Str):q11 W k (gOf k f z):=by
 unfold gOf;cases e:f z with
 | none=>exact q7y h.hW h.hk
 | some a=>exact h.good z a e
def q119 (K:xA) (mg:xE):Sp:=λ vs H Q _=>∃ (b o d:Addr) (p:xD) (k:Kd) (f:Str ->Option Wo) (W:xD),vs=[.ref b,.ref o,.ref d]/\H b=some (.tup (p.map V.str))/\ByAt mg H o k/\WD H d f/\FOk W k f/\(∀ n∈p,∃ a,f n=some a)/\(∀ i,LtW k (2^600) (rkP k (gOf k f) (p.take i)))/\∀ z H',Same H H' ->NewV H z\/ p≠ [] ->WV H' (rkP k (gOf k f) p) z ->Q z H'
def qaa (T:Txt K mg):Def P w K mg base 6 "product_reckoned" ["product","by","worths"] (q119 K mg):=by
 refine T.qbn.ok q2s (λ vs H Q E h=> ?_) λ f cdv A outer s H vs Q E hr h=> ?_
 ·obtain ⟨b,o,d,p,k,f,W,rfl,_⟩:=h;rfl
 ·obtain ⟨b,o,d,p,k,ff,W,rfl,hb,hB,hd,ok,a2,a3,q⟩:=h;refine ⟨_,(q4e
   (qo (i:=3) q2s.nd rfl (Or.inl rfl) (q4x (qxj T) (q30 T) hr (pv 1)))
   (q22 PassesOwn.never rfl (q75 K (pv 0)) (q13 (i:=4) q2s.nd rfl (Or.inl rfl)) (qg (qo (i:=3) q2s.nd rfl (Or.inl rfl) (q41 (qxk T) (q30 T) hr (pv 1) (pa_2 (pv 3) (q73 (q35 hr) (pv 2) (pv 4) (λ _ _=>rfl)))))))
   (qh (pv 3))),?_⟩
  obtain ⟨dx,a1⟩:=id hB;refine ⟨_,zr,k,o,dx,_,zr,a1,qzj k,o,zr,hB,λ z0 H1 s1 n0 w0=> ?_⟩;refine ⟨_,zr,b,zr,⟨_,SqT.of (s1 _ _ hb)⟩,qbp (xs:=p.map V.str) (λ i σ G=>Same H G/\∃ z v,σ=[some (.ref b),some (.ref o),some (.ref d),some z,v]/\NewV H z/\WV G (rkP k (gOf k ff) (p.take i)) z) ⟨s1,z0,_,zr,n0,w0⟩ (λ i σ G _ z=>SqT.of (z.1 _ _ hb)) ?_ ?_⟩
  ·rintro i x σ G hx ⟨J,z,v,rfl,nz,wz⟩;rw [z21] at hx;obtain ⟨n,hn,rfl⟩:=z0p.mp hx;obtain ⟨a,ha⟩:=a2 n (z17 hn);obtain ⟨u,hu,wu⟩:=(hd.same J).get ha;obtain ⟨dx,O⟩:=hB.same J;have ga:=ok.good n a ha;have eg:gOf k ff n=a:=by
    unfold gOf;rw [ha];rfl
   have Z:=ok.lt n;rw [eg] at Z;refine ⟨_,zr,k,o,dx,_,zr,O,qzk k,_,zr,_,zr,_,zr,d,_,zr,hu,o,z,u,_,a,W,zr,⟨dx,O⟩,ok.hk,q9x ok.hW ok.hk ok.g _,ga,wz,wu,(a3 i).and Z,λ z2 G2 s2 n2 w2=> ?_⟩;refine ⟨J.trans s2,z2,_,zr,n2.back J,?_⟩;rw [z3g,hn];show WV G2 (rkP k (gOf k ff) (p.take i++ [n])) z2;rw [qlu,eg];exact w2
  ·rintro σ G ⟨J,z,v,rfl,nz,wz⟩;rw [z2z,z2s] at wz;exact ⟨_,zr,q z G J (.inl nz) wz⟩
def YOk (k:Kd) (g:Str ->Wo) (Y:Tab):Prop:=∀ p∈Y,p.2 < 2^600/\∀ i,LtW k (2^600) (rkP k g (p.1.take i))
def qum {x:Str} {ps:xD} {k:Nat} {sp J:Sp} (D:DefE P w K mg base k x ps sp) (h:∀ vs H Q E,J vs H Q E ->sp vs H Q λ _ _ _=>False):Def P w K mg base k x ps J:=by
 obtain ⟨f,fd,F,hm,hk,hb⟩:=D.ex;refine ⟨f,fd,⟨λ vs H Q E z=>F.len _ _ _ _ (h _ _ _ _ z),λ A outer s H args us vs Q E hr he hb hv hs=> ?_⟩,hm,hk,hb⟩;refine z42 (F.run A outer s H args us vs Q _ hr he hb hv (h _ _ _ _ hs)) λ r s' z=> ?_;cases r with
 | error e=>
  obtain ⟨_,_,_,_,_,_,_,_,_,_,_,_,_,z⟩:=z;exact z.elim
 | ok fl=>cases fl <;> exact z
def VD (K:xA) (H:Hp) (d:Addr) (f:Str ->Option PyData):Prop:=∃ kvs,Rd H d (.dK kvs)/\∀ z,(f z=none/\valV kvs (Sum.inr z)=none)\/ ∃ a v,f z=some a/\valV kvs (Sum.inr z)=some v/\Dat K H a v
theorem VD.same {H H':Hp} {d:Addr} {f:Str ->Option PyData} (h:VD K H d f) (s:Same H H'):VD K H' d f:=by
 obtain ⟨kvs,hr,hv⟩:=h;refine ⟨kvs,?_,λ z=> ?_⟩
 ·rcases hr with hr | ⟨o,hr⟩
  ·exact .inl (s _ _ hr)
  ·exact .inr ⟨o,s _ _ hr⟩
 ·rcases hv z with h | ⟨a,v,e1,e2,hw⟩
  ·exact .inl h
  ·exact .inr ⟨a,v,e1,e2,Dat.same s _ _ hw⟩
def VD.get {H:Hp} {d:Addr} {f:Str ->Option PyData} (h:VD K H d f) (z:Str):(f z=none/\DGet H d (.str z) none)\/ ∃ a v,f z=some a/\DGet H d (.str z) (some v)/\Dat K H a v:=by
 obtain ⟨kvs,hr,hv⟩:=h;rcases hv z with ⟨e1,e2⟩ | ⟨a,v,e1,e2,hw⟩
 ·exact .inl ⟨e1,.inl ⟨kvs,Sum.inr z,hr,zr,e2.symm⟩⟩
 ·exact .inr ⟨a,v,e1,.inl ⟨kvs,Sum.inr z,hr,zr,e2.symm⟩,hw⟩
def badB (k:Kd) (f:Str ->Option PyData) (n:Str):Bool:=match f n with
 | none=>true
 | some d=> !fitB k d
def qxu (K:xA) (mg:xE):Sp:=λ vs H Q E=>∃ (p o d:Addr) (ns:xD) (k:Kd) (f:Str ->Option PyData),vs=[.ref p,.ref o,.ref d]/\H p=some (.lst (ns.map V.str))/\ByAt mg H o k/\VD K H d f/\(∀ z a,f z=some a ->okF a)/\(∀ n∈ns,n.length<=1000)/\
 ∀ H',Same H H' ->(ns.any (badB k f)=false ->Q .non H')/\(ns.any (badB k f)=true ->E (.ref (cA mg "NoWorth")) none H')
def qh4 (T:Txt K mg):DefE P w K mg base 6 "ask_worths" ["names","by","worths"] (qxu K mg):=by
 refine T.qm7.okE qa2 (λ vs H Q E h=> ?_) λ f cdv A outer s H vs Q E hr h=> ?_
 ·obtain ⟨p,o,d,ns,k,f,rfl,_⟩:=h;rfl
 ·obtain ⟨p,o,d,ns,k,O,rfl,hp,hB,hd,fine,nl,q⟩:=h;refine ⟨_,(qg (q22 PassesOwn.leaving rfl (q1f K (pv 0)) (q13 (i:=3) qa2.nd rfl (Or.inl rfl)) (qg (q15 (PW.pt (q86 (qea (qqn (q35 hr) (pv 3) (pv 2))) (q68 (q3k (q3x (q41 (qxr T) (q30 T) hr (pv 1) (pa_1 (q73 (q35 hr) (pv 2) (pv 3) (λ _ _=>rfl))))))))) (qg (qti qnt T.q3c.new T.qij (pa_1 (qtm (q10w (pv 3)) q50)))) qx)))),?_⟩;refine ⟨_,zr,p,zr,⟨_,SqL.of hp⟩,q2n (xs:=ns.map V.str) (λ i σ G=>Same H G/\(ns.take i).any (badB k O)=false/\∃ v,σ=[some (.ref p),some (.ref o),some (.ref d),v]) ⟨Same.refl _,zr,_,zr⟩ (λ i σ G _ z=>SqL.of (z.1 _ _ hp)) ?_ ?_⟩
  ·rintro i x σ G hx ⟨J,bi,v,rfl⟩;rw [z21] at hx;obtain ⟨z,hz,rfl⟩:=z0p.mp hx;have zm:=z17 hz;have zl:=nl z zm;have no:badB k O z=true ->∀ H',Same H H' ->E (.ref (cA mg "NoWorth")) none H':=λ b H' s'=>(q H' s').2 (z2o.mpr ⟨z,zm,b⟩);have a1:badB k O z=false ->(ns.take (i+1)).any (badB k O)=false:=λ b=>by
    rw [z3g,hz,List.any_append,bi];show (false || (badB k O z || false))=false;rw [b];rfl
   rcases (hd.same J).get z with ⟨e1,hu⟩ | ⟨a,u,e1,hu,wu⟩
   ·refine ⟨_,zr,_,zr,d,_,zr,hu,_,zr,q1k rfl (iteT ?_)⟩;have nb:=no (by unfold badB;rw [e1]);exact ⟨_,rfl,z,rfl,z40 zl (by decide),_,rfl,z40 zl (by decide),_,rfl,by decide,by show 1<=sizeLine;decide,nb G J⟩
   ·obtain ⟨dx,Z⟩:=hB.same J;refine ⟨_,zr,_,zr,d,_,zr,hu,_,zr,qm rfl ?_⟩;refine ⟨_,zr,k,o,dx,_,zr,Z,qzl k,_,zr,_,zr,d,_,zr,hu,o,u,a,zr,⟨dx,Z⟩,wu,fine z a e1,λ H2 s2=> ?_⟩;by_cases hf:fitB k a=true
    ·rw [hf];exact ⟨_,rfl,iteF ⟨J.trans s2,a1 (by unfold badB;rw [e1];show (!fitB k a)=false;rw [hf];rfl),_,rfl⟩⟩
    ·have hf:fitB k a=false:=Bool.eq_false_iff.mpr hf;have nb:=no (by unfold badB;rw [e1];show (!fitB k a)=true;rw [hf];rfl);rw [hf];exact ⟨_,rfl,iteT ⟨_,rfl,z,rfl,z40 zl (by decide),_,rfl,z40 zl (by decide),_,rfl,by decide,by show 1<=sizeLine;decide,nb H2 (J.trans s2)⟩⟩
  ·rintro σ G ⟨J,bi,v,rfl⟩;rw [z2z,z2s] at bi;exact (q _ J).1 bi
structure RkIn (K:xA) (mg:xE) (H:Hp) (l o d:Addr) (Y:Tab) (k:Kd) (fd:Str ->Option PyData):Prop where
 wa:WA H l Y
 by_:ByAt mg H o k
 vd:VD K H d fd
 fine:∀ z a,fd z=some a ->okF a
 short:∀ p∈Y,∀ n∈p.1,n.length<=1000
def qzu (K:xA) (mg:xE):Sp:=λ vs H Q E=>∃ (l o d:Addr) (Y:Tab) (k:Kd) (fd:Str ->Option PyData),vs=[.ref l,.ref o,.ref d]/\RkIn K mg H l o d Y k fd/\
 (((∀ p∈Y,∀ n∈p.1,badB k fd n=false)/\∃ (f:Str ->Option Wo) (W:xD),WD H d f/\FOk W k f/\(∀ p∈Y,∀ n∈p.1,∃ a,f n=some a)/\YOk k (gOf k f) Y/\∀ z H',Same H H' ->NewV H z ->WV H' (rkY k (gOf k f) Y) z ->Q z H')\/
 ((∃ p∈Y,∃ n∈p.1,badB k fd n=true)/\∀ H',Same H H' ->E (.ref (cA mg "NoWorth")) none H'))
def q80 (T:Txt K mg):DefE P w K mg base 7 "reckoned" ["why","by","worths"] (qzu K mg):=by
 refine T.qpy.okE q4l (λ vs H Q E h=> ?_) λ f cdv A outer s H vs Q E hr h=> ?_
 ·obtain ⟨l,o,d,Y,k,f,rfl,_⟩:=h;rfl
 ·obtain ⟨l,o,d,Y,k,fd,rfl,ri,hq⟩:=h;have hl:=ri.wa;have hB:=ri.by_;refine ⟨_,(q9c
   (q2b (qg6 (qh4 T) (qrh qnt) hr rfl (pa_3 (q12 (qmy T) hr rfl (pa_1 (pv 0))) (pv 1) (pv 2))))
   (qo (i:=3) q4l.nd rfl (Or.inl rfl) (q4x (q6c T) (q30 T) hr (pv 1)))
   (q22 PassesOwn.leaving rfl (q1f K (pv 0)) (qkg rfl (q5j (q13 (i:=4) q4l.nd rfl (Or.inl rfl)) (q5j (q13 (i:=5) q4l.nd rfl (Or.inl rfl)) qfx))) (qg (qo (i:=3) q4l.nd rfl (Or.inl rfl) (q41 (q6d T) (q30 T) hr (pv 1) (pa_2 (pv 3) (q41 (qn1 T) (q30 T) hr (pv 1) (pa_2 (q12 (qaa T) hr rfl (pa_3 (pv 4) (pv 1) (pv 2))) (pv 5))))))))
   (qh (pv 3))),?_⟩
  refine ⟨_,zr,l,Y,zr,hl,λ p ns H1 s1 _ hp a1 _=> ?_⟩;refine ⟨_,zr,_,zr,p,o,d,ns,k,fd,zr,hp,hB.same s1,ri.vd.same s1,ri.fine,λ n hn=> ?_,λ H2 s2=>⟨λ gd=> ?_,λ bd=> ?_⟩⟩
  ·obtain ⟨J,O,hx⟩:=(a1.2 n).mp hn;exact ri.short J O n hx
  ·rcases hq with ⟨_,ff,W,hd,ok,b2,hY,q⟩ | ⟨⟨p',b3,n,hn,hb⟩,_⟩
   ·have a2:=s1.trans s2;obtain ⟨dx,a4⟩:=hB.same a2;refine ⟨_,zr,k,o,dx,_,zr,a4,qbc k,o,zr,⟨dx,a4⟩,λ z0 H3 s3 n0 w0=> ?_⟩;have a3:=a2.trans s3;obtain ⟨xs,a7,a6,a5⟩:=hl.same a3;have xl:=Paired.length a6;refine ⟨_,zr,l,zr,⟨_,SqL.of a7⟩,q2n (xs:=xs) (λ i σ G=>Same H3 G/\∃ z v1 v2,σ=[some (.ref l),some (.ref o),some (.ref d),some z,v1,v2]/\NewV H z/\WV G (rkY k (gOf k ff) (Y.take i)) z) ⟨Same.refl _,z0,_,_,zr,n0.back a2,w0⟩ (λ i σ G _ z=>SqL.of (z.1 _ _ a7)) ?_ ?_⟩
    ·rintro i x σ G hx ⟨sg,z,v1,v2,rfl,nz,wz⟩;obtain ⟨J,O,b4⟩:=q5d a6 hx;obtain ⟨qa,b,rfl,hq,a9⟩:=b4.keep (Same.keepT sg);have hm:=z17 O;have sH:=a3.trans sg;obtain ⟨dx,Z⟩:=hB.same sH;have a8:0<=J.2:=(a5.2 J hm).2.2.1;have b6:NN Y:=λ p hp=>(a5.2 p hp).2.2.1;have gP:=q9x ok.hW ok.hk ok.g J.1;refine ⟨_,_,zr,SqT.of hq,zr,_,_,zr,_,_,zr,zr,?_⟩;refine ⟨_,zr,k,o,dx,_,zr,Z,qbd k,_,zr,_,zr,k,o,dx,_,zr,Z,qzm k,_,zr,_,zr,_,zr,b,o,d,J.1,k,ff,W,zr,a9,⟨dx,Z⟩,hd.same sH,ok,b2 J hm,(hY J hm).2,λ u G2 s2 _ wu=> ?_⟩;have b5:LtW k (2^600) (rkP k (gOf k ff) J.1):=by
      have:=(hY J hm).2 J.1.length;rw [z2s] at this;exact this
     refine ⟨_,zr,o,u,J.2,_,W,zr,⟨dx,s2 _ _ Z⟩,ok.hk,ok.hW,gP,wu,a8,λ e=>⟨b5 e,(hY J hm).1⟩,λ y G3 s3 _ wy=> ?_⟩;refine ⟨o,z,y,_,_,W,zr,⟨dx,(s2.trans s3) _ _ Z⟩,ok.hk,qlv ok.hW ok.hk ok.g (λ p hp=>b6 p (z14 hp)),qo4 ok.hW ok.hk gP a8,wz.same (s2.trans s3),wy,λ y2 G4 s4 n4 w4=> ?_⟩;have sA:=s2.trans (s3.trans s4);refine ⟨sg.trans sA,y2,_,_,zr,n4.back (sH.trans (s2.trans s3)),?_⟩;rw [z3g,O];show WV G4 (rkY k (gOf k ff) (Y.take i++ [J])) y2;rw [qul];exact w4
    ·rintro σ G ⟨sg,z,v1,v2,rfl,nz,wz⟩;rw [xl,z2s] at wz;exact ⟨_,zr,q z G (a3.trans sg) nz wz⟩
   ·exact absurd (z2o.mpr ⟨n,(a1.2 n).mpr ⟨p',b3,hn⟩,hb⟩) (by rw [gd];exact z1k)
  ·rcases hq with ⟨g,_⟩ | ⟨_,e⟩
   ·obtain ⟨n,hn,hb⟩:=z2o.mp bd;obtain ⟨J,O,hx⟩:=(a1.2 n).mp hn;rw [g J O n hx] at hb;cases hb
   ·exact e H2 (s1.trans s2)
def qzv (K:xA) (mg:xE):Sp:=λ vs H Q _=>∃ (l o d:Addr) (Y:Tab) (k:Kd) (fd:Str ->Option PyData),vs=[.ref l,.ref o,.ref d]/\RkIn K mg H l o d Y k fd/\
 (∀ p∈Y,∀ n∈p.1,badB k fd n=false)/\∃ (f:Str ->Option Wo) (W:xD),WD H d f/\FOk W k f/\(∀ p∈Y,∀ n∈p.1,∃ a,f n=some a)/\YOk k (gOf k f) Y/\∀ z H',Same H H' ->NewV H z ->WV H' (rkY k (gOf k f) Y) z ->Q z H'
def q8k (T:Txt K mg):Def P w K mg base 7 "reckoned" ["why","by","worths"] (qzv K mg):=qum (q80 T) λ vs H Q E h=>by
 obtain ⟨l,o,d,Y,k,fd,e,ri,g⟩:=h;exact ⟨l,o,d,Y,k,fd,e,ri,.inl g⟩
def q62 {K:xA} {H:Hp} {ds:List PyData} {xs:List V} (h:Dats K H ds xs) {i:Int} (h0:0<=i) (h1:i < (ds.length:Int)):∃ x,atI xs i=some x/\Dat K H (ds.getD i.toNat .none) x:=by
 obtain ⟨n,rfl⟩:=z0l h0;have el:=q7u h;have hn:n < xs.length:=by lia
 have hx:=z0c hn;obtain ⟨d,hd,J⟩:=q7t h hx;refine ⟨xs[n],q5k hx,?_⟩;show Dat K H (ds.getD n .none) _;rw [z06,hd];exact J
def okA:PyData.strOk "a"=true:=by decide+kernel
def qzw:PyData.strOk "A"=true:=by decide+kernel
def qxv {ds:List PyData} (h:¬ Acc (ds.map setD)):accB (.list ds)=false:=by
 show (_&&decide (ds.map setD=q3w (ds.map setD)))=false;rw [z2v (λ e=>h (by rw [e];exact q49 _)),Bool.and_false]
def qlw {ds:List PyData} (h:ds.all twB=false):accB (.list ds)=false:=by
 show (ds.all twB&&_)=false;rw [h,z3d]
def qxw {z:Str} (h:txtB small z=true):z.length<=200:=by
 apply Classical.byContradiction
 intro q;rw [qdr (λ r=>q (z40 r.2 (by decide)))] at h;cases h
def rngD (m:Int):List PyData:=(List.range (m+1).toNat).map λ (k:Nat)=> .int (0+(k:Int))
def nosL (w0:Str) (n:Int):Kd ->List PyData
 | .counts=>[.int (-1),.int (-1 - n%10^30),.bool true,.none,.str "a"]
 | .costs=>[.bool true,.bool false,.str "a",.list [.int 0],.tuple [.int 0]]
 | .bests m=>[.list (rngD m),.list [.none],.tuple [.int 1],.none,.int 0]
 | .trusts t=>[.int (t+1),.int (t+1+n),.int (-1),.bool true,.none]
 | .truths=>[.int 0,.int 1,.none,.str "a",.list []]
 | .hands=>[.list [.tuple [.str w0,.str w0]],.list [.list [.str w0]],.tuple [],.none,.list [.tuple [.str "A"]]]
def noE (w0:Str) (n:Int) (k:Kd):PyData:=(nosL w0 n k).getD (n%5).toNat .none
def qun {J:Str} {n:Int} {k:Kd} (hn:0<=n) (hk:k.ok) (t0:txtB small J=true):∀ d∈nosL J n k,fitB k d=false/\okF d/\d.depth<=60:=by
  have one:∀ x:PyData,okT x ->okF (.list [x]):=λ x hx=>⟨by show 1<=2000;decide,λ e O=>by rw [z1l.mp O];exact hx⟩;intro d h;cases k with
  | counts=>
    simp only [nosL,z3m,z2q,or_false] at h;have hm:0<=n%10^30:=z39 _ (by decide);rcases h with rfl | rfl | rfl | rfl | rfl <;> first | exact ⟨rfl,trivial,by decide⟩ | exact ⟨z2v (by lia),trivial,z4a _⟩
  | costs=>
    simp only [nosL,z3m,z2q,or_false] at h;rcases h with rfl | rfl | rfl | rfl | rfl <;> first | exact ⟨rfl,trivial,by decide⟩ | exact ⟨rfl,one _ trivial,by decide⟩
  | bests m=>
    have h1:1<=m:=hk.1;have h9:m<=9:=hk.2;simp only [nosL,z3m,z2q,or_false] at h;have Z:(rngD m).length=(m+1).toNat:=by unfold rngD;rw [z2z,z28]
    rcases h with rfl | rfl | rfl | rfl | rfl
    · refine ⟨?_,⟨by rw [Z];lia,λ e O=> ?_⟩,?_⟩
      · show (decide (((rngD m).length:Int)<=m)&&_)=false
        rw [Z,z2v (by lia),z3d]
      · obtain ⟨k,_,rfl⟩:=z44.mp O
        trivial
      · have:∀ ks:List Nat,PyData.depthAll (ks.map λ (k:Nat)=> .int (0+(k:Int)))=0:=λ ks=>by
          induction ks with
          | nil=>rfl
          | cons k ks ih=>
            show max (PyData.depth (.int _)) (PyData.depthAll (ks.map _))=0;rw [ih];rfl
        show PyData.depthAll (rngD m)+1<=60;unfold rngD;rw [this];decide
    · refine ⟨?_,one _ trivial,by decide⟩
      show (decide _&&(false&&_))=false;rw [z3d,Bool.and_false]
    all_goals exact ⟨rfl,trivial,by decide⟩
  | trusts t=>
    simp only [nosL,z3m,z2q,or_false] at h;have ft:∀ i:Int,¬ i<=t ->fitB (.trusts t) (.int i)=false:=λ i hi=>by
      show (decide _&&decide _)=false;rw [z2v hi,Bool.and_false]
    rcases h with rfl | rfl | rfl | rfl | rfl <;> first | exact ⟨rfl,trivial,by decide⟩ | exact ⟨ft _ (by lia),trivial,z4a _⟩
  | truths=>
    simp only [nosL,z3m,z2q,or_false] at h;rcases h with rfl | rfl | rfl | rfl | rfl <;> first | exact ⟨rfl,trivial,by decide⟩ | exact ⟨rfl,⟨by decide,λ _ z=>nomatch z⟩,by decide⟩
  | hands=>
    have l0:=qxw t0;simp only [nosL,z3m,z2q,or_false] at h;rcases h with rfl | rfl | rfl | rfl | rfl
    · refine ⟨?_,one _ ⟨by show 2<=10;decide,λ x hx=> ?_⟩,by show 2<=60;decide⟩
      · rw [fitH]
        refine qxv λ a=> ?_;have:=(z1p.mp (a.norm [J,J] (z1l.mpr rfl))).1 J (by simp);rw [q1y.irr] at this;cases this
      · simp only [z3m,z2q,or_false] at hx
        rcases hx with rfl | rfl <;> exact l0
    · rw [fitH]
      exact ⟨qlw rfl,one _ trivial,by show 2<=60;decide⟩
    · exact ⟨zr,trivial,by decide⟩
    · exact ⟨zr,trivial,by decide⟩
    · rw [fitH]
      exact ⟨qlw (by decide+kernel),one _ ⟨by decide,λ x hx=>by rw [z1l.mp hx];show ("A":Str).length<=200;decide+kernel⟩,by decide⟩
def qxx {J:Str} {n:Int} {k:Kd} (hn:0<=n) (hk:k.ok) (t0:txtB small J=true):fitB k (noE J n k)=false/\okF (noE J n k)/\(noE J n k).depth<=60:=by
 refine qun hn hk t0 _ ?_;unfold noE;have l5:(nosL J n k).length=5:=by cases k <;> rfl
 have h0:=z39 n (show (5:Int)≠0 by decide);have h1:=z1v n (show (0:Int) < 5 by decide);rw [z06,z0c (show (n%5).toNat < (nosL J n k).length by lia)];exact z2j _
def qzx (K:xA):Sp:=λ vs H Q _=>∃ (k:Kd) (n m t:Int) (wa:Addr) (W:xD),vs=[.int (q9u k),.int n,.ref wa,.int m,.int t]/\ofK m t k/\(1<=m/\m<=9)/\0<=n/\H wa=some (.lst (W.map V.str))/\1<=W.length/\(∀ w∈W,PyData.strOk w=true)/\∀ z H',Same H H' ->Dat K H' (noE (W.getD 0 endW) n k) z ->Q z H'
def qdt (T:Txt K mg):Def P w K mg base 1 "_law_no_worth" ["_law_kind","_law_number_here","_law_words_here","_law_many","_law_top"] (qzx K):=by
 refine T.qfs.ok qdd (λ vs H Q E h=> ?_) λ f cdv A outer s H vs Q E hr h=> ?_
 ·obtain ⟨k,n,m,t,wa,W,rfl,_⟩:=h;rfl
 ·obtain ⟨k,n,m,t,wa,W,rfl,b2,hm,hn,hw,wl,b3,q⟩:=h;refine ⟨_,(q10q
   (@q15 _ _ _ _ _ _ _ _ (qq q1h (pv 0) qc (qt _)) (@qg _ _ _ (@qh _ _ _ _ (@qy _ _ _ _ _ _ _ (ql K) (@q1e _ _ _ _ (@pa_5 _ _ _ _ _ _ _ _ _ _ _ (qec qak qc) (@qk _ _ _ _ _ _ _ _ qkh (qec qak qc) (@qk _ _ _ _ _ _ _ _ qz (pv 1) (@qk _ _ _ _ _ _ _ _ q8o qc qc))) q25 q2k q50 rfl rfl rfl rfl rfl)) (@qk _ _ _ _ _ _ _ _ qz (pv 1) qc) (λ _ _=>rfl)))) qx)
   (@q15 _ _ _ _ _ _ _ _ (qq q1h (pv 0) qc (qt _)) (@qg _ _ _ (@qh _ _ _ _ (@qy _ _ _ _ _ _ _ (ql K) (@q1e _ _ _ _ (@pa_5 _ _ _ _ _ _ _ _ _ _ _ q25 q25 q50 (@q1e _ _ _ _ (@pa_1 _ _ _ qc rfl)) (@q54 _ _ _ _ _ (@pa_1 _ _ _ qc rfl)) rfl rfl rfl rfl rfl)) (@qk _ _ _ _ _ _ _ _ qz (pv 1) qc) (λ _ _=>rfl)))) qx)
   (@q15 _ _ _ _ _ _ _ _ (qq q1h (pv 0) qc (qt _)) (@qg _ _ _ (@qh _ _ _ _ (@qy _ _ _ _ _ _ _ (ql K) (@q1e _ _ _ _ (@pa_5 _ _ _ _ _ _ _ _ _ _ _ (q29 (N:=["_law_k"]) (caps:=[none]) rfl (by with_unfolding_all rfl) (q4w rfl T.q78 (@pa_1 _ _ _ (@qk _ _ _ _ _ _ _ _ q19 (pv 3) qc) rfl)) (λ _ _ _ _ _=>(q13 (i:=0) (show (["_law_k"]:xD).Nodup by decide+kernel) rfl (Or.inl rfl))) (λ _ _ _ _ _=>q2o) (λ _ _ _ _ _=>(pv 0))) (@q1e _ _ _ _ (@pa_1 _ _ _ q2k rfl)) (@q54 _ _ _ _ _ (@pa_1 _ _ _ qc rfl)) q2k qc rfl rfl rfl rfl rfl)) (@qk _ _ _ _ _ _ _ _ qz (pv 1) qc) (λ _ _=>rfl)))) qx)
   (@q15 _ _ _ _ _ _ _ _ (qq q1h (pv 0) qc (qt _)) (@qg _ _ _ (@qh _ _ _ _ (@qy _ _ _ _ _ _ _ (ql K) (@q1e _ _ _ _ (@pa_5 _ _ _ _ _ _ _ _ _ _ _ (@qk _ _ _ _ _ _ _ _ q19 (pv 4) qc) (@qk _ _ _ _ _ _ _ _ q19 (@qk _ _ _ _ _ _ _ _ q19 (pv 4) qc) (pv 1)) (qec qak qc) q25 q2k rfl rfl rfl rfl rfl)) (@qk _ _ _ _ _ _ _ _ qz (pv 1) qc) (λ _ _=>rfl)))) qx)
   (@q15 _ _ _ _ _ _ _ _ (qq q1h (pv 0) qc (qt _)) (@qg _ _ _ (@qh _ _ _ _ (@qy _ _ _ _ _ _ _ (ql K) (@q1e _ _ _ _ (@pa_5 _ _ _ _ _ _ _ _ _ _ _ qc qc q2k q50 (@q1e _ _ _ _ q26) rfl rfl rfl rfl rfl)) (@qk _ _ _ _ _ _ _ _ qz (pv 1) qc) (λ _ _=>rfl)))) qx)
   (@qh _ _ _ _ (@qy _ _ _ _ _ _ _ (ql K) (@q1e _ _ _ _ (@pa_5 _ _ _ _ _ _ _ _ _ _ _ (@q1e _ _ _ _ (@pa_1 _ _ _ (@q54 _ _ _ _ _ (@pa_2 _ _ _ _ _ (@qy _ _ _ _ _ _ _ (ql K) (pv 2) qc (λ _ _=>rfl)) (@qy _ _ _ _ _ _ _ (ql K) (pv 2) qc (λ _ _=>rfl)) rfl rfl)) rfl)) (@q1e _ _ _ _ (@pa_1 _ _ _ (@q1e _ _ _ _ (@pa_1 _ _ _ (@qy _ _ _ _ _ _ _ (ql K) (pv 2) qc (λ _ _=>rfl)) rfl)) rfl)) (@q54 _ _ _ _ _ q26) q2k (@q1e _ _ _ _ (@pa_1 _ _ _ (@q54 _ _ _ _ _ (@pa_1 _ _ _ q50 rfl)) rfl)) rfl rfl rfl rfl rfl)) (@qk _ _ _ _ _ _ _ _ qz (pv 1) qc) (λ _ _=>rfl)))),?_⟩
  have e0:=z39 n (show (5:Int)≠0 by decide);have e1:=z1v n (show (0:Int) < 5 by decide);cases k with
  | counts=>
   refine ⟨_,zr,zr,_,zr,q1k rfl ?_⟩;refine ⟨_,rfl,_,rfl,_,rfl,_,_,rfl,rfl,⟨by decide,by decide,by decide⟩,_,_,rfl,rfl,(by show (0:Int) < 10^30;decide),_,_,rfl,rfl,by show 5<=sizeLine;decide,λ a3 h3=> ?_⟩;have dd:Dats K (upd H a3 (.lst [V.int (-1),V.int (-1 - n%10^30),V.bl true,V.non,V.str "a"])) (nosL (W.getD 0 endW) n .counts) [V.int (-1),V.int (-1 - n%10^30),V.bl true,V.non,V.str "a"]:= .cons (.int _) (.cons (.int _) (.cons (.bl true) (.cons .non (.cons (.str _ okA) .nil))));obtain ⟨x,hx,dx⟩:=q62 dd e0 e1;exact ⟨_,rfl,_,_,rfl,rfl,(by show (0:Int) < 5;decide),_,_,_,x,rfl,rfl,SqL.of qb,hx,q _ _ (qf h3) dx⟩
  | costs=>
   refine ⟨_,zr,zr,_,zr,qm rfl ⟨_,zr,zr,_,zr,q1k rfl ?_⟩⟩;refine ⟨by show 1<=sizeLine;decide,λ J h1=>⟨by show 1<=sizeLine;decide,λ O h2=>⟨by show 5<=sizeLine;decide,λ a4 h4=> ?_⟩⟩⟩;have t3:=qf (o:=HO.lst [V.bl true,V.bl false,V.str "a",V.ref J,V.ref O]) h4;have t2:=(qf (o:=HO.tup [V.int 0]) h2).trans t3;have dd:Dats K _ (nosL (W.getD 0 endW) n .costs) [V.bl true,V.bl false,V.str "a",V.ref J,V.ref O]:= .cons (.bl true) (.cons (.bl false) (.cons (.str _ okA) (.cons (.lst (SqL.of (t2 _ _ qb)) (.cons (.int 0) .nil)) (.cons (.tup (SqT.of (t3 _ _ qb)) (.cons (.int 0) .nil)) .nil))));obtain ⟨x,hx,dx⟩:=q62 dd e0 e1;exact ⟨_,rfl,_,_,rfl,rfl,(by show (0:Int) < 5;decide),_,_,_,x,rfl,rfl,SqL.of qb,hx,q _ _ ((qf h1).trans t2) dx⟩
  | bests m'=>
   have:m'=m:=b2;subst this;refine ⟨_,zr,zr,_,zr,qm rfl ⟨_,zr,zr,_,zr,qm rfl ⟨_,zr,zr,_,zr,q1k rfl ?_⟩⟩⟩;refine ⟨_,zr,_,_,zr,zr,_,zr,by lia,by lia,λ D hD=> ?_⟩;refine q1w (m'+1).toNat (λ i σ' H'=>(∃ v,σ'=[v])/\Same H H'/\H' D=some (.lst (((List.range i).map λ (k:Nat)=>V.int (0+(k:Int)))))) ⟨⟨_,zr⟩,qf hD,qb⟩ (λ i σ' H' hi p=>hi) (λ σ' H' p=>⟨z47 _,?_⟩) (λ i σ' H' hi p x H2 y=> ?_)
   ·obtain ⟨_,sm,e⟩:=p;refine ⟨by show 1<=sizeLine;decide,λ J h1=>⟨by show 1<=sizeLine;decide,λ O h2=>⟨by show 5<=sizeLine;decide,λ a4 h4=> ?_⟩⟩⟩;have t3:=qf (o:=HO.lst [V.ref D,V.ref J,V.ref O,V.non,V.int 0]) h4;have t2:=(qf (o:=HO.tup [V.int 1]) h2).trans t3;have t1:=(qf (o:=HO.lst [V.non]) h1).trans t2;have this:∀ (G:Hp) (ks:List Nat),Dats K G (ks.map λ (k:Nat)=>PyData.int (0+(k:Int))) (ks.map λ (k:Nat)=>V.int (0+(k:Int))):=λ G ks=>by
     induction ks with
     | nil=>exact .nil
     | cons k ks ih=>exact .cons (.int _) ih
    have dd:Dats K _ (nosL (W.getD 0 endW) n (.bests m')) [V.ref D,V.ref J,V.ref O,V.non,V.int 0]:= .cons (.lst (SqL.of (t1 _ _ e)) (this _ _)) (.cons (.lst (SqL.of (t2 _ _ qb)) (.cons .non .nil)) (.cons (.tup (SqT.of (t3 _ _ qb)) (.cons (.int 1) .nil)) (.cons .non (.cons (.int 0) .nil))));obtain ⟨x,hx,dx⟩:=q62 dd e0 e1;exact ⟨_,rfl,_,_,rfl,rfl,(by show (0:Int) < 5;decide),_,_,_,x,rfl,rfl,SqL.of qb,hx,q _ _ (sm.trans t1) dx⟩
   ·obtain ⟨⟨v,rfl⟩,sm,e⟩:=p;obtain ⟨rfl,rfl⟩:=y;refine ⟨_,zr,_,e,?_,⟨_,zr⟩,sm.set hD,?_⟩
    ·rw [z2z,z28];exact q1i (by lia)
    ·rw [qb,z34,z35];rfl
  | trusts t'=>
   have:t'=t:=b2;subst this;refine ⟨_,zr,zr,_,zr,qm rfl ⟨_,zr,zr,_,zr,qm rfl ⟨_,zr,zr,_,zr,qm rfl ⟨_,zr,zr,_,zr,q1k rfl ?_⟩⟩⟩⟩;refine ⟨_,rfl,_,_,rfl,rfl,_,rfl,_,_,rfl,rfl,_,rfl,_,_,rfl,rfl,_,rfl,by show 5<=sizeLine;decide,λ O h2=> ?_⟩;have dd:Dats K (upd H O (.lst [V.int (t'+1),V.int (t'+1+n),V.int (-1),V.bl true,V.non])) (nosL (W.getD 0 endW) n (.trusts t')) [V.int (t'+1),V.int (t'+1+n),V.int (-1),V.bl true,V.non]:= .cons (.int _) (.cons (.int _) (.cons (.int _) (.cons (.bl true) (.cons .non .nil))));obtain ⟨x,hx,dx⟩:=q62 dd e0 e1;exact ⟨_,rfl,_,_,rfl,rfl,(by show (0:Int) < 5;decide),_,_,_,x,rfl,rfl,SqL.of qb,hx,q _ _ (qf h2) dx⟩
  | truths=>
   refine ⟨_,zr,zr,_,zr,qm rfl ⟨_,zr,zr,_,zr,qm rfl ⟨_,zr,zr,_,zr,qm rfl ⟨_,zr,zr,_,zr,qm rfl ⟨_,zr,zr,_,zr,q1k rfl ?_⟩⟩⟩⟩⟩;refine ⟨by show 0<=sizeLine;decide,λ J h1=>⟨by show 5<=sizeLine;decide,λ a3 h3=> ?_⟩⟩;have t2:=qf (o:=HO.lst [V.int 0,V.int 1,V.non,V.str "a",V.ref J]) h3;have dd:Dats K _ (nosL (W.getD 0 endW) n .truths) [V.int 0,V.int 1,V.non,V.str "a",V.ref J]:= .cons (.int 0) (.cons (.int 1) (.cons .non (.cons (.str _ okA) (.cons (.lst (SqL.of (t2 _ _ qb)) .nil) .nil))));obtain ⟨x,hx,dx⟩:=q62 dd e0 e1;exact ⟨_,rfl,_,_,rfl,rfl,(by show (0:Int) < 5;decide),_,_,_,x,rfl,rfl,SqL.of qb,hx,q _ _ ((qf h1).trans t2) dx⟩
  | hands=>
   refine ⟨_,zr,zr,_,zr,qm rfl ⟨_,zr,zr,_,zr,qm rfl ⟨_,zr,zr,_,zr,qm rfl ⟨_,zr,zr,_,zr,qm rfl ⟨_,zr,zr,_,zr,qm rfl ?_⟩⟩⟩⟩⟩;have Z:atI (W.map V.str) 0=some (V.str (W.getD 0 endW)):=by
    refine q5k (j:=0) ?_;rw [z21,z06,z0c (show 0 < W.length by lia)];rfl
   have a9:PyData.strOk (W.getD 0 endW)=true:=by
    rw [z06,z0c (show 0 < W.length by lia)];exact b3 _ (z2j _)
   generalize W.getD 0 endW=z at*;refine ⟨_,rfl,_,_,_,_,rfl,rfl,SqL.of hw,Z,_,rfl,_,_,_,_,rfl,rfl,SqL.of hw,Z,by show 2<=sizeLine;decide,λ J h1=>⟨by show 1<=sizeLine;decide,λ O h2=> ?_⟩⟩;have s1:=qf (o:=HO.tup [V.str z,V.str z]) h1;have s2:=qf (o:=HO.lst [V.ref J]) h2;refine ⟨_,rfl,_,_,_,_,rfl,rfl,SqL.of (s2 _ _ (s1 _ _ hw)),Z,by show 1<=sizeLine;decide,λ a3 h3=>⟨by show 1<=sizeLine;decide,λ a4 h4=>⟨by show 0<=sizeLine;decide,λ a5 h5=>⟨by show 1<=sizeLine;decide,λ a6 h6=>⟨by show 1<=sizeLine;decide,λ a7 h7=>⟨by show 5<=sizeLine;decide,λ a8 h8=> ?_⟩⟩⟩⟩⟩⟩;have t8:=qf (o:=HO.lst [V.ref O,V.ref a4,V.ref a5,V.non,V.ref a7]) h8;have t7:=(qf (o:=HO.lst [V.ref a6]) h7).trans t8;have t6:=(qf (o:=HO.tup [V.str "A"]) h6).trans t7;have t5:=(qf (o:=HO.tup []) h5).trans t6;have t4:=(qf (o:=HO.lst [V.ref a3]) h4).trans t5;have t3:=(qf (o:=HO.lst [V.str z]) h3).trans t4;have dd:Dats K _ (nosL z n .hands) [V.ref O,V.ref a4,V.ref a5,V.non,V.ref a7]:= .cons (.lst (SqL.of (t3 _ _ qb)) (.cons (.tup (SqT.of (t3 _ _ (s2 _ _ qb))) (.cons (.str _ a9) (.cons (.str _ a9) .nil))) .nil)) (.cons (.lst (SqL.of (t5 _ _ qb)) (.cons (.lst (SqL.of (t4 _ _ qb)) (.cons (.str _ a9) .nil)) .nil)) (.cons (.tup (SqT.of (t6 _ _ qb)) .nil) (.cons .non (.cons (.lst (SqL.of (t8 _ _ qb)) (.cons (.tup (SqT.of (t7 _ _ qb)) (.cons (.str _ qzw) .nil)) .nil)) .nil))));obtain ⟨x,hx,dx⟩:=q62 dd e0 e1;exact ⟨_,rfl,_,_,rfl,rfl,(by show (0:Int) < 5;decide),_,_,_,x,rfl,rfl,SqL.of qb,hx,q _ _ (s1.trans (s2.trans t3)) dx⟩
def F2 (ws:xD) (W:Tab):Prop:=Bd 20 2 (10^6) W/\∀ p∈W,1<=p.2/\∀ z∈p.1,z∈ws
def F2.bw {ws:xD} {W:Tab} (h:F2 ws W):BW W:=h.1.le (by decide) (by decide) (by decide)
def qzy (K:xA):Sp:=λ vs H Q _=>∃ (ra wa:Addr) (cs:List Int) (ws:xD),vs=[.ref ra,.ref wa]/\SqL K H ra (cs.map V.int)/\cs.length<=20/\H wa=some (.lst (ws.map V.str))/\1<=ws.length/\(∀ z∈ws,PyData.strOk z=true)/\
 ∀ l W H',Same H H' ->H l=none ->WA H' l W ->F2 ws W ->Q (.ref l) H'
def qfh (T:Txt K mg):Def P w K mg base 2 "_law_few_why" ["_law_cells","_law_words_here"] (qzy K):=by
 refine T.qha.ok q2j (λ vs H Q E h=> ?_) λ f cdv A outer s H vs Q E hr h=> ?_
 ·obtain ⟨ra,wa,cs,ws,rfl,_⟩:=h;rfl
 ·obtain ⟨ra,wa,cs,ws,rfl,c0,csl,f3,wl,hok,k⟩:=h;refine ⟨_,(q4e
   (qo (i:=2) q2j.nd rfl (Or.inr rfl) qkt)
   (q22 PassesOwn.never rfl (q1f K (pv 0)) (q13 (i:=3) q2j.nd rfl (Or.inl rfl)) (q9c
   (qo (i:=4) q2j.nd rfl (Or.inl rfl) (q12 (q39 T) hr rfl (pa_2 (pv 3) qc)))
   (qo (i:=5) q2j.nd rfl (Or.inl rfl) (qk qz (qy (ql K) (pv 4) qc (λ _ _=>rfl)) qc))
   (qo (i:=6) q2j.nd rfl (Or.inl rfl) (q2a (q8g K) rfl T.qc3 q9b (pa_1 (qp (qkz K) rfl T.q2q q2e (pa_1 (q29 (N:=["_law_number_here","_law_words_here"]) (caps:=[none,some 1]) rfl (by with_unfolding_all rfl) (q1f K (q21 (q31 K) (pv 4) (q1p qc) (q1p (qk q19 qc (pv 5))))) (λ _ _ _ _ _=>(q13 (i:=0) (show (["_law_number_here","_law_words_here"]:xD).Nodup by decide+kernel) rfl (Or.inl rfl))) (λ _ _ _ _ _=>q2o) (λ _ _ _ _ _=>(qy (ql K) (pv 1) (qk qz (pv 0) (qp (q2y K) rfl T.b_len q3z (pa_1 (pv 1)))) (λ _ _=>rfl)))))))))
   (q74 (q35 hr) (pv 2) (pv 6) (qk q19 qc (qk qz (pv 3) (qy (ql K) (q1e (pa_2 qc (qk q8o qc qc))) (qk qz (qy (ql K) (pv 4) qc (λ _ _=>rfl)) qc) (λ _ _=>rfl)))) rfl)))
   (qh (q29 (N:=["_law_product","_law_ways"]) (caps:=[none,some 2]) rfl (by with_unfolding_all rfl) (q1f K (qp (ql1 hr.units rfl K) rfl T.q2q q2e (pa_1 (pv 2)))) (λ _ _ _ _ _=>(q13 (i:=0) (show (["_law_product","_law_ways"]:xD).Nodup by decide+kernel) rfl (Or.inl rfl))) (λ _ _ _ _ _=>q2o) (λ _ _ _ _ _=>(q54 (pa_2 (pv 0) (q73 (q35 hr) (pv 1) (pv 0) (λ _ _=>rfl)))))))),?_⟩
  refine λ d hd=> ?_;have s1:=qf (o:=HO.dT []) hd;refine ⟨_,rfl,ra,rfl,⟨_,s1.seq c0⟩,q2n (xs:=cs.map V.int) (λ i σ G=>Same H G/\(∃ v1 v2 v3 v4,σ=[some (.ref ra),some (.ref wa),some (.ref d),v1,v2,v3,v4])/\∃ W:Tab,G d=some (encD W)/\(W.map (·.1)).Nodup/\W.length<=i/\∀ J∈W,1<=J.2/\J.1.length<=2/\(∀ z∈J.1,z∈ws)/\J.2<=10^6) ⟨s1,⟨_,_,_,_,rfl⟩,[],qb,z3f,z47 _,λ _ z=>nomatch z⟩ (λ i σ G _ z=>z.1.seq c0) ?_ ?_⟩
  ·rintro i x σ G0 hx ⟨f5,⟨v1,v2,v3,v4,rfl⟩,W,d1,a2,a9,a8⟩;rw [z21] at hx;obtain ⟨c,hc,rfl⟩:=z0p.mp hx;have ic:i < cs.length:=(z07.mp hc).1;refine ⟨_,zr,c,5,zr,by decide,by decide,λ p is G st hp il _ _=> ?_⟩;have il5:is.length=5:=il;have sg:=f5.trans st;have hW:=st _ _ d1;have c8:atI (is.map V.int) 0=some (V.int (is.getD 0 0)):=q1l (k:=0) (by lia);have c9:atI (is.map V.int) 1=some (V.int (is.getD 1 0)):=q1l (k:=1) (by lia);refine ⟨_,rfl,_,_,_,_,rfl,rfl,SqL.of hp,c8,_,_,rfl,rfl,(by show (0:Int) < 3;decide),?_⟩;refine ⟨_,zr,_,zr,_,zr,_,_,zr,zr,_,zr,_,_,zr,SqL.of hp,λ q hq=> ?_⟩;obtain ⟨ms,em,lm⟩:∃ ms:List Int,cutV (is.map V.int) (some 3) (some (3+is.getD 0 0%3))=ms.map V.int/\ms.length<=2:=by
    refine ⟨_,qfa is _ _,?_⟩;have h0:0<=is.getD 0 0%3:=z39 _ (by decide);have h1:is.getD 0 0%3 < 3:=z1v _ (by decide);obtain ⟨r,hr⟩:=z0l h0;rw [hr,show (3:Int)+(r:Int)=((3+r:Nat):Int) by lia];exact z40 (qgx is 3 (3+r)) (by lia)
   rw [em];have t2:=qf (o:=HO.lst (ms.map V.int)) hq;refine ⟨q,zr,⟨_,SqL.of qb⟩,λ D hD=> ?_⟩;have t3:=qf (o:=HO.lst []) hD;refine q1w (ms.map V.int).length (λ i σ' H'=>(∃ v,σ'=[v,some (.ref wa)])/\Same (upd G q (.lst (ms.map V.int))) H'/\∃ ys:List Str,H' D=some (.lst (ys.map V.str))/\ys.length=i/\∀ y∈ys,y∈ws) ⟨⟨_,rfl⟩,t3,[],qb,rfl,λ _ z=>nomatch z⟩ (λ i σ' H' hi p=> ?_) (λ σ' H' p=>⟨?_,?_⟩) (λ i σ' H' hi p x H2 y=> ?_)
   ·obtain ⟨_,O,_⟩:=p;exact ⟨_,(ms.map V.int)[i],SqL.of (O _ _ qb),z0c hi⟩
   ·obtain ⟨_,O,_⟩:=p;exact ⟨_,SqL.of (O _ _ qb),z47 _⟩
   ·obtain ⟨_,O,ys,e,yl,hy⟩:=p;rw [z2z] at yl;refine ⟨_,ys,zr,.inl (SqL.of e),λ l d5=> ?_⟩;have u1:=qf (o:=HO.lst ((Tim.srt q1b ys).map V.str)) d5;refine ⟨_,_,zr,.inl ⟨SqL.of qb,λ t ht=> ?_⟩⟩;have u2:=qf (o:=HO.tup ((Tim.srt q1b ys).map V.str)) ht;have uA:=t2.trans (O.trans (u1.trans u2));have e0:=uA _ _ hp;have d4:=uA _ _ hW;have e9:upd (upd H' l (.lst ((Tim.srt q1b ys).map V.str))) t (.tup ((Tim.srt q1b ys).map V.str)) t=some (.tup (((Tim.srt q1b ys).map (Sum.inr:Str ->Key)).map kV)):=by
     rw [qb,q8s]
    generalize upd (upd H' l (.lst ((Tim.srt q1b ys).map V.str))) t (.tup ((Tim.srt q1b ys).map V.str))=H6 at*;have c7:(Tim.srt q1b ys).length=ys.length:=(Tim.q18 q1b _).length_eq;have b9:((encI W).map λ J=>(J.1.map (Sum.inr:Str ->Key),J.2)).length=W.length:=by rw [z2z];unfold encI;rw [z2z]
    refine ⟨_,rfl,_,_,rfl,rfl,⟨by decide,by decide,by decide⟩,by show 2<=sizeLine;decide,λ L hL=> ?_⟩;have u3:=qf (o:=HO.lst [V.int 3,V.int (10^6)]) hL;obtain ⟨v,d2,hv⟩:=qaq (xs:=[V.int 3,V.int (10^6)]) (i:=is.getD 1 0%2) (z39 _ (by decide)) (z1v _ (by decide));refine ⟨_,rfl,_,_,_,_,rfl,rfl,SqL.of (u3 _ _ e0),c9,_,_,rfl,rfl,(by show (0:Int) < 2;decide),_,_,_,v,rfl,rfl,SqL.of qb,d2,?_⟩;simp only [z3m,z2q,or_false] at hv;have fin:∀ n:Int,1<=n ->n<=10^6 ->(Same H (upd (upd H6 L (.lst [V.int 3,V.int (10^6)])) d (.dT (putK ((encI W).map λ J=>(J.1.map Sum.inr,J.2)) ((Tim.srt q1b ys).map Sum.inr) (V.int n))))/\∃ W':Tab,upd (upd H6 L (.lst [V.int 3,V.int (10^6)])) d (.dT (putK ((encI W).map λ J=>(J.1.map Sum.inr,J.2)) ((Tim.srt q1b ys).map Sum.inr) (V.int n))) d=some (encD W')/\(W'.map (·.1)).Nodup/\W'.length<=i+1/\∀ J∈W',1<=J.2/\J.1.length<=2/\(∀ z∈J.1,z∈ws)/\J.2<=10^6):=λ n d7 d8=>by
     refine ⟨(sg.trans (uA.trans u3)).set hd,putA W (Tim.srt q1b ys) n,by rw [qb,qtp];rfl,qz5 a2 _ _,z40 (qx5 _ _ _) (z2p a9),λ J b2=> ?_⟩;rcases qtr b2 with h | h
     ·exact a8 J h
     ·rw [h];exact ⟨d7,by rw [c7];lia,λ z hz=>hy z ((Tim.q18 q1b _).mem_iff.mp hz),d8⟩
    have b7:=u3 _ _ d4;have c1:=u3 _ _ e9;have c6:((encI W).map λ J=>(J.1.map (Sum.inr:Str ->Key),J.2)).length < sizeLine:=by rw [b9];exact q1i (by lia)
    rcases hv with rfl | rfl
    ·have h0:0<=c%3:=z39 _ (by decide);have h1:c%3 < 3:=z1v _ (by decide);refine ⟨_,_,rfl,rfl,(by show (0:Int) < 3;decide),_,_,rfl,rfl,_,rfl,_,rfl,d,_,rfl,DPut.t b7 c1 c6,?_⟩;obtain ⟨f1,f2⟩:=fin (1+c%3) (by lia) (by lia);exact ⟨f1,⟨_,_,_,_,zr⟩,f2⟩
    ·have h0:0<=c%10^6:=z39 _ (by decide);have h1:c%10^6 < 10^6:=z1v _ (by decide);refine ⟨_,_,rfl,rfl,(by show (0:Int) < 10^6;decide),_,_,rfl,rfl,_,rfl,_,rfl,d,_,rfl,DPut.t b7 c1 c6,?_⟩;obtain ⟨f1,f2⟩:=fin (1+c%10^6) (by lia) (by lia);exact ⟨f1,⟨_,_,_,_,zr⟩,f2⟩
   ·obtain ⟨⟨v,rfl⟩,O,ys,e,yl,hy⟩:=p;obtain ⟨rfl,hx⟩:=y;have a4:=hx _ (SqL.of (O _ _ qb));rw [z21] at a4;obtain ⟨n,d9,rfl⟩:=z0p.mp a4;have c4:=O _ _ (t2 _ _ (sg _ _ f3));have wp:(0:Int) < ((ws.map V.str).length:Int):=by rw [z2z];lia
    have e7:=z39 n (show ((ws.map V.str).length:Int)≠0 by lia);have e8:=z1v n wp;obtain ⟨v2,f0,d6⟩:=qaq (xs:=ws.map V.str) (i:=n%((ws.map V.str).length:Int)) e7 e8;obtain ⟨z,hz,rfl⟩:=z44.mp d6;refine ⟨_,zr,_,zr,_,zr,_,_,zr,.inl ⟨_,SqL.of c4,zr⟩,_,_,zr,zr,wp,_,_,_,_,zr,zr,SqL.of c4,f0,?_⟩;have il:i < ms.length:=(z07.mp d9).1;refine ⟨_,e,by rw [z2z,yl];exact q1i (by lia),⟨_,rfl⟩,O.set hD,ys++ [z],by rw [qb,z35];rfl,by rw [z1n,yl];rfl,λ y f4=> ?_⟩;rcases z2t.mp f4 with h | h
    ·exact hy y h
    ·rw [z1l.mp h];exact hz
  ·rintro σ G ⟨sg,⟨v1,v2,v3,v4,rfl⟩,W,hW,a2,a9,a8⟩;rw [z2z] at a9;refine ⟨_,zr,d,encI W,zr,hW,λ l zs hl hz=> ?_⟩;have ek:(encI W).map (·.1)=W.map (·.1):=by unfold encI;rw [z46];rfl
   rw [ek] at hz;have u1:=qf (o:=HO.lst zs) hl;refine ⟨l,zr,⟨_,SqL.of qb⟩,λ D2 a7=> ?_⟩;have e4:zs.length=(Tim.srt q1c (W.map (·.1))).length:=Paired.length hz;have a5:G D2=none:=u1.free a7;have d0:(Tim.srt q1c (W.map (·.1))).length=W.length:=by
    rw [(Tim.q18 q1c _).length_eq,z2z]
   have a1:∀ p∈Tim.srt q1c (W.map (·.1)),p∈W.map (·.1):=λ p hp=>(Tim.q18 q1c _).mem_iff.mp hp;generalize Tim.srt q1c (W.map (·.1))=S at*;refine q1w zs.length (λ i σ' H'=>(∃ v,σ'=[v,some (.ref d)])/\Same (upd G l (.lst zs)) H'/\∃ ys,H' D2=some (.lst ys)/\(∀ H2,KeepT H' H2 ->Paired (PlAt H2) ys ((S.take i).map λ k=>(k,(getA W k).getD 0)))/\ys.length=i) ⟨⟨_,zr⟩,qf a7,[],qb,λ _ _=> .nil,zr⟩ (λ i σ' H' hi p=> ?_) (λ σ' H' p=>⟨?_,?_⟩) (λ i σ' H' hi p x H2 y=> ?_)
   ·obtain ⟨_,O,_⟩:=p;exact ⟨_,zs[i],SqL.of (O _ _ qb),z0c hi⟩
   ·obtain ⟨_,O,_⟩:=p;exact ⟨_,SqL.of (O _ _ qb),z47 _⟩
   ·obtain ⟨_,O,ys,e,c5,yl⟩:=p;rw [e4,z2s] at c5;have Z:∀ J∈S.map λ k=>(k,(getA W k).getD 0),1<=J.2/\J.1.length<=2/\(∀ z∈J.1,z∈ws)/\J.2<=10^6:=λ J b2=>by
     obtain ⟨pr,a3,rfl⟩:=z44.mp b2;obtain ⟨n,hn,a6⟩:=qlh a2 (a1 pr a3);have:=a8 _ a6;rw [hn];exact this
    have w5:F2 ws (S.map λ k=>(k,(getA W k).getD 0)):=by
     refine ⟨⟨by rw [z2z];lia,λ p hp=> ?_⟩,λ p hp=>⟨(Z p hp).1,(Z p hp).2.2.1⟩⟩;obtain ⟨b1,b3,b4,b5⟩:=Z p hp;exact ⟨λ x hx=>hok x (b4 x hx),b3,by lia,b5⟩
    exact k D2 _ H' (sg.trans (u1.trans O)) (sg.free a5) ⟨ys,e,c5 H' (λ _ _ z=>z),w5.bw⟩ w5
   ·obtain ⟨⟨v,rfl⟩,O,ys,e2,e6,yl⟩:=p;obtain ⟨rfl,hx⟩:=y;have a4:=hx _ (SqL.of (O _ _ qb));obtain ⟨pr,a3,b,rfl,hb⟩:=q5d hz a4;obtain ⟨n,hn,a6⟩:=qlh a2 (a1 pr (z17 a3));have b6:=O _ _ (u1 _ _ hb);have b8:DGet H2 d (.ref b) (some (.int n)):=by
     have e1:(some (V.int n))=valV ((encI W).map λ J=>(J.1.map (Sum.inr:Str ->Key),J.2)) (pr.map Sum.inr):=by rw [qto,hn];rfl
     rw [e1];exact DGet.t (O _ _ (u1 _ _ hW)) (by rw [q8s];exact b6)
    refine ⟨_,rfl,_,rfl,_,rfl,d,_,rfl,b8,by show 2<=sizeLine;decide,λ q hq=> ?_⟩;have u3:=qf (o:=HO.tup [.ref b,.int n]) hq;have e5:q≠D2:=λ z=>by
     rw [z,e2] at hq;cases hq
    have d3:b≠D2:=λ z=>by
     rw [z,a5] at hb;cases hb
    refine ⟨_,u3 _ _ e2,by rw [yl];exact q1i (by lia),⟨_,rfl⟩,(O.trans u3).set a7,ys++ [.ref q],qb,λ H5 h5=> ?_,by rw [z1n,yl];rfl⟩;rw [z3g,a3,z35];refine qcp (e6 H5 (((Same.keepT u3).upd (u3 _ _ e2)).trans h5)) ⟨q,b,rfl,h5 q _ ?_,h5 b _ (by rw [qi d3];exact u3 _ _ b6)⟩;rw [qi e5,qb];show some (HO.tup [V.ref b,V.int n])=some (HO.tup [V.ref b,V.int ((getA W pr).getD 0)]);rw [hn];rfl
def qzz (xs:List V) (k:Nat):cutV xs none (some (k:Int))=xs.take k:=by
 unfold cutV;rw [HT.sIx_none,HT.sIx_nat,List.drop_zero,Nat.sub_zero];by_cases h:k<=xs.length
 ·rw [Nat.min_eq_left h]
 ·rw [Nat.min_eq_right (by lia),z2s,z0m (by lia)]
def qlx {kvs:List (Key×V)} {k:Key} {v:V} {J:Key×V} (h:J∈putK kvs k v):J∈kvs\/ J.2=v:=by
 unfold putK at h;split at h
 ·obtain ⟨x,hx,e⟩:=z44.mp h;by_cases q:x.1=k
  ·rw [if_pos q] at e;rw [<- e];exact .inr rfl
  ·rw [if_neg q] at e;exact .inl (e ▸ hx)
 ·rcases z2t.mp h with g | g
  ·exact .inl g
  ·rw [z1l.mp g];exact .inr rfl
def mf (ws:xD) (cs:List Int) (k:Kd):Nat ->Str ->Option Wo
 | 0,_=>none
 | i+1,z=>if z=ws.getD i endW then some (qbe (ws.take 4) (cs.getD i 0) k) else mf ws cs k i z
theorem qh5 {ws:xD} {cs:List Int} {k:Kd} {z:Str} {a:Wo}:∀ {n:Nat},mf ws cs k n z=some a ->∃ c,a=qbe (ws.take 4) c k
 | 0,h=>by cases h
 | n+1,h=>by
  unfold mf at h;split at h
  ·cases h
   exact ⟨_,zr⟩
  ·exact qh5 h
theorem qvm {ws:xD} {cs:List Int} {k:Kd} {j:Nat}:∀ {n:Nat},j < n ->∃ a,mf ws cs k n (ws.getD j endW)=some a
 | 0,h=>by lia
 | n+1,h=>by
  unfold mf;split
  ·exact ⟨_,zr⟩
  ·rename_i e;exact qvm (by
    have:j≠n:=λ q=>e (by rw [q])
    lia)
def qvn {ws:xD} {cs:List Int} {k:Kd} {z:Str} (h:z∈ws):∃ a,mf ws cs k ws.length z=some a:=by
 obtain ⟨i,hi,ei⟩:=z1h h;have:=qvm (cs:=cs) (k:=k) (ws:=ws) hi;rw [z06,z0c hi] at this;rw [<- ei];exact this
structure Wsd (W:xD) (k:Kd) (H:Hp) (kvs:List (Key×V)) (f:Str ->Option Wo):Prop where
 val:∀ z,(f z=none/\valV kvs (Sum.inr z)=none)\/ ∃ a v,f z=some a/\valV kvs (Sum.inr z)=some v/\WV H a v
 all:∀ kv∈kvs,∃ a,q11 W k a/\WV H a kv.2
theorem Wsd.same {W:xD} {k:Kd} {H H':Hp} {kvs:List (Key×V)} {f:Str ->Option Wo} (h:Wsd W k H kvs f) (s:Same H H'):Wsd W k H' kvs f:=by
 refine ⟨λ z=> ?_,λ kv J=> ?_⟩
 ·rcases h.val z with h | ⟨a,v,e1,e2,hw⟩
  ·exact .inl h
  ·exact .inr ⟨a,v,e1,e2,hw.same s⟩
 ·obtain ⟨a,g,w⟩:=h.all kv J;exact ⟨a,g,w.same s⟩
def qly {G F:Hp} {d:Addr} {kvs:List (Key×V)} (O:G d=some (.dK kvs)) (Z:∀ c o,c≠d ->G c=some o ->F c=some o) {x:V} {wo:Wo} (J:WV G wo x):WV F wo x:=by
 cases wo with
 | num i=>exact J
 | non=>exact J
 | tr b=>exact J
 | nums l=>
  obtain ⟨p,e,h⟩:=J;exact ⟨p,e,Z _ _ (λ q=>by subst q;rw [O] at h;cases h) h⟩
 | acc R=>
  obtain ⟨p,zs,e,h,tt⟩:=J;exact ⟨p,zs,e,Z _ _ (λ q=>by subst q;rw [O] at h;cases h) h,q1s (λ b ys z=>Z b _ (λ q=>by subst q;rw [O] at z;cases z) z) tt⟩
def Wsd.but {W:xD} {k:Kd} {G F:Hp} {d:Addr} {kvs O:List (Key×V)} {f:Str ->Option Wo} (h:Wsd W k G kvs f) (Z:G d=some (.dK O)) (hF:∀ c o,c≠d ->G c=some o ->F c=some o):Wsd W k F kvs f:=by
 refine ⟨λ z=> ?_,λ kv J=> ?_⟩
 ·rcases h.val z with h | ⟨a,v,e1,e2,hw⟩
  ·exact .inl h
  ·exact .inr ⟨a,v,e1,e2,qly Z hF hw⟩
 ·obtain ⟨a,g,w⟩:=h.all kv J;exact ⟨a,g,qly Z hF w⟩
def qxy:Sp:=λ vs H Q _=>∃ (k:Kd) (ca wa:Addr) (cs:List Int) (m t:Int) (ws:xD),vs=[.int (q9u k),.ref ca,.ref wa,.int m,.int t]/\ofK m t k/\k.ok/\(1<=m/\m<=9)/\0<=t/\H ca=some (.lst (cs.map V.int))/\H wa=some (.lst (ws.map V.str))/\HOk (ws.take 4)/\1<=ws.length/\ws.length<=7/\ws.length<=cs.length/\
 ∀ d kvs H',Same H H' ->H d=none ->H' d=some (.dK kvs) ->kvs.length<=7 ->Wsd (ws.take 4) k H' kvs (mf ws cs k ws.length) ->Q (.ref d) H'
def qab (T:Txt K mg):Def P w K mg base 4 "_law_many_worths" ["_law_kind","_law_cells","_law_words_here","_law_many","_law_top"] qxy:=by
 refine T.qbl.ok q3s (λ vs H Q E h=> ?_) λ f cdv A outer s H vs Q E hr h=> ?_
 ·obtain ⟨k,ca,wa,cs,m,t,ws,rfl,_⟩:=h;rfl
 ·obtain ⟨k,ca,wa,cs,m,t,ws,rfl,a5,hk,hm,ht,hc,hw,hW,w1,w7,wc,q⟩:=h;refine ⟨_,(q4e
   (qo (i:=5) q3s.nd rfl (Or.inl rfl) q5l)
   (q22 PassesOwn.never rfl (q4w rfl T.q78 (pa_1 (qp (q2y K) rfl T.b_len q3z (pa_1 (pv 2))))) (q13 (i:=6) q3s.nd rfl (Or.inl rfl)) (qg (q74 (q35 hr) (pv 5) (qy (ql K) (pv 2) (pv 6) (λ _ _=>rfl)) (q12 (qjb T) hr rfl (pa_5 (pv 0) (qy (ql K) (pv 1) (pv 6) (λ _ _=>rfl)) (q21 (q31 K) (pv 2) q4d (q1p qc)) (pv 3) (pv 4))) rfl)))
   (qh (pv 5))),?_⟩
  refine λ d hd=> ?_;have s1:=qf (o:=HO.dK []) hd;have a6:((ws.map V.str).length:Int).toNat=ws.length:=by rw [z2z];lia
  have a1:1<=(ws.take 4).length:=by rw [z2f];lia
  refine ⟨_,rfl,_,_,rfl,.inl ⟨_,SqL.of (s1 _ _ hw),rfl⟩,_,rfl,by lia,by rw [z2z];lia,?_⟩;rw [a6];refine q87 (lo:=0) (n:=ws.length) (λ i σ G=>Same H G/\∃ (v:Option V) (kvs:List (Key×V)),σ=[some (.int (q9u k)),some (.ref ca),some (.ref wa),some (.int m),some (.int t),some (.ref d),v]/\G d=some (.dK kvs)/\kvs.length<=i/\Wsd (ws.take 4) k G kvs (mf ws cs k i)) ⟨s1,none,[],rfl,qb,z47 _,⟨λ z=> .inl ⟨rfl,rfl⟩,λ _ z=>nomatch z⟩⟩ ?_ ?_
  ·rintro i σ G hi ⟨Z,v,kvs,rfl,gd,kl,O⟩;have hg:atI (ws.map V.str) (0+(i:Int))=some (V.str (ws.getD i endW)):=by
    rw [Int.zero_add];refine q5k ?_;rw [z21,z06,z0c hi];rfl
   have a3:atI (cs.map V.int) (0+(i:Int))=some (V.int (cs.getD i 0)):=by
    rw [Int.zero_add];exact q1l (by lia)
   refine ⟨_,zr,_,zr,_,zr,_,_,_,_,zr,zr,SqL.of (Z _ _ hc),a3,_,zr,_,zr,_,_,zr,SqL.of (Z _ _ hw),λ l hl=> ?_⟩;rw [show cutV (ws.map V.str) none (some 4)=(ws.take 4).map V.str by rw [List.map_take];exact qzz _ 4];have s4:=qf (o:=HO.lst ((ws.take 4).map V.str)) hl;refine ⟨_,zr,_,zr,k,cs.getD i 0,m,t,l,ws.take 4,zr,a5,hk,hm,ht,qb,hW,a1,λ x G2 s2 nx wx=> ?_⟩;have sA:=s4.trans s2;have J:=sA _ _ gd;refine ⟨_,zr,_,zr,_,zr,_,_,_,_,zr,zr,SqL.of ((Z.trans sA) _ _ hw),hg,d,_,zr,DPut.k (k:=Sum.inr (ws.getD i endW)) J (q1i (by lia)),?_⟩;refine ⟨(Z.trans sA).set hd,_,_,rfl,qb,by have:=q3p kvs (Sum.inr (ws.getD i endW):Key) x;lia,?_⟩;have hF:∀ c o,c≠d ->G2 c=some o ->upd G2 d (.dK (putK kvs (Sum.inr (ws.getD i endW)) x)) c=some o:=λ c o hc z=>by rw [qi hc];exact z
   have h2:=(O.same sA).but J hF;have a2:=qly J hF wx;refine ⟨λ z=> ?_,λ kv a4=> ?_⟩
   ·rw [q3g];show (mf ws cs k (i+1) z=none/\_)\/ _;unfold mf;by_cases e:z=ws.getD i endW
    ·rw [if_pos e,if_pos (by rw [e])];exact .inr ⟨_,x,zr,zr,a2⟩
    ·rw [if_neg e,if_neg (λ q=>e (Sum.inr.inj q))];exact h2.val z
   ·rcases qlx a4 with h | h
    ·exact h2.all kv h
    ·rw [h];exact ⟨_,qfc hW a1 hk _,a2⟩
  ·rintro σ G ⟨Z,v,kvs,rfl,gd,kl,O⟩;exact ⟨_,zr,q d kvs G Z hd gd (z40 kl w7) O⟩
def qo8 (K:xA) (mg:xE):Sp:=λ vs H Q _=>∃ (l o d:Addr) (Y:Tab) (k:Kd) (fd:Str ->Option PyData),vs=[.ref l,.ref o,.ref d]/\RkIn K mg H l o d Y k fd/\
 (((∀ p∈Y,∀ n∈p.1,badB k fd n=false)/\∃ (f:Str ->Option Wo) (W:xD),WD H d f/\FOk W k f/\(∀ p∈Y,∀ n∈p.1,∃ a,f n=some a)/\YOk k (gOf k f) Y/\∀ H',Same H H' ->Q (.bl false) H')\/
 ((∃ p∈Y,∃ n∈p.1,badB k fd n=true)/\∀ H',Same H H' ->Q (.bl true) H'))
def qfi (T:Txt K mg):Def P w K mg base 8 "_law_refused" ["_law_why","_law_by_here","_law_worths"] (qo8 K mg):=by
 refine T.qh8.ok qey (λ vs H Q E h=> ?_) λ f cdv A outer s H vs Q E hr h=> ?_
 ·obtain ⟨l,o,d,Y,k,fd,rfl,_⟩:=h;rfl
 ·obtain ⟨l,o,d,Y,k,fd,rfl,ri,hq⟩:=h;refine ⟨_,(q2r
   (qz3 T.qij (λ _ _ _ hp=>(qg (q2b (qg6 (q80 T) hp hr rfl (pa_3 (pv 0) (pv 1) (pv 2)))))) (λ ea oe=>(qg (qh q25))))
   (qh q25)),?_⟩
  refine ⟨_,zr,_,zr,_,zr,l,o,d,Y,k,fd,zr,ri,?_⟩;rcases hq with ⟨g,ff,W,hd,ok,J,hY,q⟩ | ⟨b,q⟩
  ·exact .inl ⟨g,ff,W,hd,ok,J,hY,λ z H' s' _ _=>q H' s'⟩
  ·refine .inr ⟨b,λ H' s'=>⟨T.q3c.caught T.q3c T.qcb,λ ea oe σ' hc hn hl=> ?_⟩⟩;exact q H' s'
def q8l (T:Txt K mg):Def P w K mg base 8 "_law_refused_by_any" ["_law_why","_law_by_here","_law_worths"] (qo8 K mg):=by
 refine T.q91.ok q4m (λ vs H Q E h=> ?_) λ f cdv A outer s H vs Q E hr h=> ?_
 ·obtain ⟨l,o,d,Y,k,fd,rfl,_⟩:=h;rfl
 ·obtain ⟨l,o,d,Y,k,fd,rfl,ri,hq⟩:=h;refine ⟨_,(q2r
   (qtj (i:=3) T.qpv (λ _ _ _ hp=>(qg (q2b (qg6 (q80 T) hp hr rfl (pa_3 (pv 0) (pv 1) (pv 2)))))) (λ ea oe=>(q2r
   (q15 (q3x (qp (qpc K) rfl T.q1m q1g (pa_2 (pv 3) (q54 (pa_6 (q5o rfl T.qv1) (q5o rfl T.quz) (q5o rfl T.qpt) (q5o rfl T.quu) (q5o rfl T.quv) (q5o rfl T.qsl)))))) (qg (qh q25)) qx)
   (qh (qp (qrk K) rfl T.q1m q1g (pa_2 (pv 3) (q4n rfl T.qme qiu)))))) rfl rfl q4m.nd)
   (qh q25)),?_⟩
  refine ⟨_,zr,_,zr,_,zr,l,o,d,Y,k,fd,zr,ri,?_⟩;rcases hq with ⟨g,ff,W,hd,ok,J,hY,q⟩ | ⟨b,q⟩
  ·exact .inl ⟨g,ff,W,hd,ok,J,hY,λ z H' s' _ _=>q H' s'⟩
  refine .inr ⟨b,λ H' s'=>⟨T.q3c.caught T.qpw T.qbm,λ ea oe σ' hc hn hl=> ?_⟩⟩;have O:σ'.length=4:=hl;obtain ⟨a,b,c,e,rfl⟩:∃ a b c e,σ'=[a,b,c,e]:=by
   match σ',O with
   | [a,b,c,e],_=>exact ⟨a,b,c,e,rfl⟩
  refine ⟨_,rfl,by show 6<=sizeLine;decide,λ t ht=>⟨cA mg "NoWorth",t,[cA mg "NoFact",cA mg "NoName",cA mg "NoRounds",cA mg "NoRule",cA mg "NoText",cA mg "TooMuch"],false,rfl,qb,hc,T.q3c.isi,T.q3c.any _ λ D Z=> ?_,_,rfl,qm rfl ?_⟩⟩
  ·simp only [z3m,z2q,or_false] at Z;rcases Z with rfl | rfl | rfl | rfl | rfl | rfl
   ·exact ⟨T.qv0,T.qe1⟩
   ·exact ⟨T.qv3,T.qdz⟩
   ·exact ⟨T.qpx,T.qbj⟩
   ·exact ⟨T.quo,T.qdy⟩
   ·exact ⟨T.quy,T.qdw⟩
   ·exact ⟨T.qsc,T.qcc⟩
  ·exact ⟨_,zr,cA mg "NoWorth",0,_,true,zr,hc,T.q3c.isi,.inr ⟨_,zr,T.q3c.veI⟩,q _ (s'.trans (qf ht))⟩
section
variable {W:xD} {k:Kd} {g:Str ->Wo}
def q100 (hW:HOk W) (hk:k.ok) (Z:∀ z,q11 W k (g z)) (hl:∀ z,LtW k (10^24) (g z)):∀ p:List Str,LtW k (2*(10^24)^p.length) (rkP k g p):=λ p=>by
 have:∀ n:Nat,∀ p:List Str,p.length=n ->LtW k (2*(10^24)^n) (rkP k g p):=λ n=>by
  induction n with
  | zero=>
   intro p O e;rw [z0j.mp O];subst e;show (1:Int) < 2*(10^24)^0;decide
  | succ n ih=>
   intro p O;have J:p≠ []:=λ z=>by rw [z] at O;cases O
   rw [<- List.dropLast_concat_getLast J,qlu];have:=LtW.bo (ih p.dropLast (by rw [List.length_dropLast,O];rfl)) (q9x hW hk Z _) (Z _) (hl (p.getLast J)) (z3j (by decide) (Int.pow_nonneg (by decide))) (by decide);refine this.mono ?_;rw [Int.pow_succ,Int.mul_assoc];exact z49 _
 exact this _ p rfl
def qxz (hW:HOk W) (hk:k.ok) (hg:∀ z,q11 W k (g z)) (hl:∀ z,LtW k (10^24) (g z)) {p:xD} {n:Nat} (h:p.length<=n):LtW k (2*(10^24)^n) (rkP k g p):=by
  refine (q100 hW hk hg hl p).mono (z02 ?_ (by decide));obtain ⟨m,rfl⟩:=Nat.exists_eq_add_of_le h;rw [Int.pow_add];have a:(0:Int)<=(10^24)^p.length:=Int.pow_nonneg (by decide);have b:(1:Int)<=(10^24)^m:=Int.pow_pos (by decide)
  calc (10^24:Int)^p.length=(10^24)^p.length*1:=(Int.mul_one _).symm
    _<=(10^24)^p.length*(10^24)^m:=z02 b a
def q101:(2*(10^24)^6:Int)<=2^600:=by decide+kernel
def q102 (hW:HOk W) (hk:k.ok) (hg:∀ z,q11 W k (g z)) (hl:∀ z,LtW k (10^24) (g z)) {Y:Tab} (h:∀ p∈Y,p.1.length<=6/\p.2 < 2^600):YOk k g Y:=λ p J=>⟨(h p J).2,λ i=>(qxz hW hk hg hl (n:=6) (z40 (by rw [z2f];lia) (h p J).1)).mono q101⟩
end
def qs4 (W:xD) (k:Kd) (c:Int):LtW k (10^24) (qbe W c k):=λ e=>by
 subst e;show absI (numF c) < 10^24;have:=qo3 c;unfold absI;split <;> lia
def q103 (xs:List V):cutV xs none (some (-1))=xs.take (xs.length - 1):=by
 unfold cutV;rw [HT.sIx_none,List.drop_zero,Nat.sub_zero];have:HT.sIx xs.length xs.length (some (-1))=xs.length - 1:=by
  unfold HT.sIx;simp
  lia
 rw [this]
theorem q9y (k j:Key):∀ kvs:List (Key×V),valV (q2m kvs k) j=if j=k then none else valV kvs j
 | []=>by split <;> rfl
 | p::r=>by
  by_cases e:p.1=k
  ·rw [qqs e,q9y k j r];by_cases q:j=k
   ·rw [if_pos q,if_pos q]
   ·rw [if_neg q,if_neg q,q27 λ z=>q (z.symm.trans e)]
  ·rw [qqt e];by_cases q:p.1=j
   ·rw [q2c q,q2c q,if_neg λ z=>e (q.trans z)]
   ·rw [q27 q,q27 q,q9y k j r]
def qs5 {G F:Hp} {d b:Addr} {kvs:List (Key×V)} {o:HO} (J:G d=some (.dK kvs)) (O:∀ c o,c≠d ->G c=some o ->F c=some o) (no:∀ kvs,o≠ .dK kvs) (h:Rd G b o):Rd F b o:=by
 rcases h with h | ⟨q,h⟩
 ·exact .inl (O _ _ (λ e=>by subst e;rw [J] at h;cases h;exact no _ rfl) h)
 ·exact .inr ⟨q,O _ _ (λ e=>by subst e;rw [J] at h;cases h) h⟩
section
variable {K:xA} {G F:Hp} {d:Addr} {kvs:List (Key×V)}
def qy0 {a:Addr} {xs:List V} (gd:G d=some (.dK kvs)) (hF:∀ c o,c≠d ->G c=some o ->F c=some o) (h:SqL K G a xs):SqL K F a xs:=h.imp (qs5 gd hF λ _ z=>nomatch z) id
def qy1 {a:Addr} {xs:List V} (gd:G d=some (.dK kvs)) (hF:∀ c o,c≠d ->G c=some o ->F c=some o) (h:SqT K G a xs):SqT K F a xs:=h.imp (qs5 gd hF λ _ z=>nomatch z) id
mutual
theorem qo9 (J:G d=some (.dK kvs)) (O:∀ c o,c≠d ->G c=some o ->F c=some o):∀ (x:PyData) (v:V),Dat K G x v ->Dat K F x v
 | _,_,.non=> .non
 | _,_,.bl b=> .bl b
 | _,_,.int i=> .int i
 | _,_,.str x h=> .str x h
 | _,_,.lst h r=> .lst (qy0 J O h) (qdu J O _ _ r)
 | _,_,.tup h r=> .tup (qy1 J O h) (qdu J O _ _ r)
theorem qdu (J:G d=some (.dK kvs)) (O:∀ c o,c≠d ->G c=some o ->F c=some o):∀ (ds:List PyData) (xs:List V),Dats K G ds xs ->Dats K F ds xs
 | _,_,.nil=> .nil
 | _,_,.cons a b=> .cons (qo9 J O _ _ a) (qdu J O _ _ b)
end
end
def qih {k:Kd} {g g':Str ->Wo} {p:xD} (h:∀ n∈p,g n=g' n):rkP k g p=rkP k g' p:=by
 unfold rkP;generalize unW k=a
 induction p generalizing a with
 | nil=>rfl
 | cons n p ih=>
  rw [List.foldl_cons,List.foldl_cons,h n (z1o ..)];exact ih (λ m hm=>h m (z15 _ hm)) _
def qs6 {k:Kd} {g g':Str ->Wo} {Y:Tab} (h:∀ p∈Y,∀ n∈p.1,g n=g' n):rkY k g Y=rkY k g' Y:=by
 unfold rkY;rw [z1e λ p hp=>show rkT k g p=rkT k g' p by unfold rkT;rw [qih (h p hp)]]
def gS (f:Str ->Option Wo) (z0:Str) (s0:Option PyData) (z:Str):Option PyData:=if z=z0 then s0 else (f z).map dW
def fS (f:Str ->Option Wo) (z0 z:Str):Option Wo:=if z=z0 then none else f z
structure Spo (K:xA) (H:Hp) (kv2:List (Key×V)) (f:Str ->Option Wo) (z0:Str) (s0:Option PyData):Prop where
 vd:∀ z,(gS f z0 s0 z=none/\valV kv2 (Sum.inr z)=none)\/ ∃ a v,gS f z0 s0 z=some a/\valV kv2 (Sum.inr z)=some v/\Dat K H a v
 wd:∀ z,fS f z0 z=none\/ ∃ a v,fS f z0 z=some a/\valV kv2 (Sum.inr z)=some v/\WV H a v
 all:∀ kv∈kv2,∃ d,Dat K H d kv.2/\d.depth<=60
section
variable {K:xA} {mg:xE} {W:xD} {k:Kd} {H:Hp} {kvs kv2:List (Key×V)} {f:Str ->Option Wo} {z0:Str} {s0:Option PyData}
theorem Spo.same {H':Hp} (h:Spo K H kv2 f z0 s0) (s:Same H H'):Spo K H' kv2 f z0 s0:=by
 refine ⟨λ z=> ?_,λ z=> ?_,λ kv J=> ?_⟩
 ·rcases h.vd z with q | ⟨a,v,e1,e2,q⟩
  ·exact .inl q
  ·exact .inr ⟨a,v,e1,e2,Dat.same s _ _ q⟩
 ·rcases h.wd z with q | ⟨a,v,e1,e2,q⟩
  ·exact .inl q
  ·exact .inr ⟨a,v,e1,e2,q.same s⟩
 ·obtain ⟨d,q,e⟩:=h.all kv J;exact ⟨d,Dat.same s _ _ q,e⟩
def Spo.of (w:Wsd W k H kvs f) (hW:HOk W) (hg:∀ z a,f z=some a ->q11 W k a) (ne:∀ z,z≠z0 ->valV kv2 (Sum.inr z)=valV kvs (Sum.inr z)) (eq:(s0=none/\valV kv2 (Sum.inr z0)=none)\/ ∃ a v,s0=some a/\valV kv2 (Sum.inr z0)=some v/\Dat K H a v)
  (all:∀ J∈kv2,J∈kvs\/ ∃ d,Dat K H d J.2/\d.depth<=60):Spo K H kv2 f z0 s0:=by
 refine ⟨λ z=> ?_,λ z=> ?_,λ J O=> ?_⟩
 ·unfold gS;by_cases e:z=z0
  ·rw [if_pos e,e];exact eq
  ·rw [if_neg e,ne z e];rcases w.val z with ⟨e1,e2⟩ | ⟨a,v,e1,e2,q⟩
   ·exact .inl ⟨by rw [e1];rfl,e2⟩
   ·exact .inr ⟨dW a,v,by rw [e1];rfl,e2,q.dat hW (hg z a e1)⟩
 ·unfold fS;by_cases e:z=z0
  ·rw [if_pos e];exact .inl rfl
  ·rw [if_neg e,ne z e];rcases w.val z with ⟨e1,_⟩ | q
   ·exact .inl e1
   ·exact .inr q
 ·rcases all J O with h | h
  ·obtain ⟨a,g,v⟩:=w.all J h;exact ⟨dW a,v.dat hW g,qdo _⟩
  ·exact h
def qii (h:∀ O∈kv2,∃ d,Dat K H d O.2/\d.depth<=60):Paired (DatP K H) kv2 kv2:=by
 induction kv2 with
 | nil=>exact .nil
 | cons p r ih=>
  obtain ⟨d,q,e⟩:=h p (z1o ..);exact .cons ⟨zr,d,q,q,e⟩ (ih λ O J=>h O (z15 _ J))
end
structure At33 (K:xA) (mg:xE) (a p wp yl dw o:Addr) (ns is cs:List Int) (ws:xD) (Y:Tab) (k:Kd) (m t:Int) (kvs:List (Key×V)) (H:Hp):Prop where
 scr:SqL K H a (ns.map V.int)
 way:H p=some (.lst (is.map V.int))
 of:ofK m t k
 kok:k.ok
 mm:1<=m/\m<=9
 words:H wp=some (.lst (ws.map V.str))
 w2:2<=ws.length
 w7:ws.length<=7
 tx:∀ z∈ws,Wz 12 z/\1<=z.length/\Ws z
 why:WA H yl Y
 few:Bd 20 2 (10^6) Y
 nm:∀ p∈Y,∀ z∈p.1,z∈ws
 dct:H dw=some (.dK kvs)
 kl:kvs.length<=7
 wsd:Wsd (ws.take 4) k H kvs (mf ws cs k ws.length)
 by_:ByAt mg H o k
section
variable {K:xA} {mg:xE} {a p wp yl dw o:Addr} {ns is cs:List Int} {ws:xD} {Y:Tab} {k:Kd} {m t:Int} {kvs:List (Key×V)} {H:Hp}
theorem At33.same {H':Hp} (h:At33 K mg a p wp yl dw o ns is cs ws Y k m t kvs H) (s:Same H H'):At33 K mg a p wp yl dw o ns is cs ws Y k m t kvs H':=
 ⟨s.seq h.scr,s _ _ h.way,h.of,h.kok,h.mm,s _ _ h.words,h.w2,h.w7,h.tx,h.why.same s,h.few,h.nm,s _ _ h.dct,h.kl,h.wsd.same s,h.by_.same s⟩
def qvo {ws:xD} (w7:ws.length<=7) (tx:∀ z∈ws,Wz 12 z/\1<=z.length/\Ws z):HOk (ws.take 4):=⟨by rw [z2f];lia,λ z=>absurd (tx _ (z14 z)).2.1 (by decide+kernel),λ w hw=>(tx w (z14 hw)).1.ok⟩
def At33.hW (h:At33 K mg a p wp yl dw o ns is cs ws Y k m t kvs H):HOk (ws.take 4):=qvo h.w7 h.tx
def At33.tt (h:At33 K mg a p wp yl dw o ns is cs ws Y k m t kvs H) {z:Str} (hz:z∈ws):txtB small z=true:=qzt (h.tx z hz).1 (h.tx z hz).2.1 (h.tx z hz).2.2
def At33.good (h:At33 K mg a p wp yl dw o ns is cs ws Y k m t kvs H) (z:Str) (w:Wo) (e:mf ws cs k ws.length z=some w):q11 (ws.take 4) k w:=by
 obtain ⟨c,rfl⟩:=qh5 e;have:=h.w2;exact qfc h.hW (by rw [z2f];lia) h.kok c
def At33.lt24 (h:At33 K mg a p wp yl dw o ns is cs ws Y k m t kvs H) (z:Str):LtW k (10^24) (gOf k (mf ws cs k ws.length) z):=by
 unfold gOf;cases e:mf ws cs k ws.length z with
 | none=>exact λ q=>by subst q;show (0:Int) < 10^24;decide
 | some a=>
  obtain ⟨c,rfl⟩:=qh5 e;exact qs4 _ k c
def At33.fok (h:At33 K mg a p wp yl dw o ns is cs ws Y k m t kvs H):FOk (ws.take 4) k (mf ws cs k ws.length):=⟨h.kok,h.hW,λ w hw=>h.tt (z14 hw),h.good,λ z=>(h.lt24 z).mono (by decide+kernel)⟩
def At33.yok (h:At33 K mg a p wp yl dw o ns is cs ws Y k m t kvs H):YOk k (gOf k (mf ws cs k ws.length)) Y:=q102 h.hW h.kok h.fok.g h.lt24 λ p J=>⟨z40 (h.few.2 p J).2.1 (by decide),z1u (h.few.2 p J).2.2.2 (by decide+kernel)⟩
def At33.names (h:At33 K mg a p wp yl dw o ns is cs ws Y k m t kvs H):∀ p∈Y,∀ n∈p.1,∃ a,mf ws cs k ws.length n=some a:=λ p hp n hn=>qvn (h.nm p hp n hn)
def At33.rgood (h:At33 K mg a p wp yl dw o ns is cs ws Y k m t kvs H):q11 (ws.take 4) k (rkY k (gOf k (mf ws cs k ws.length)) Y):=qlv h.hW h.kok h.fok.g λ p hp=>(h.few.2 p hp).2.2.1
def At33.short (h:At33 K mg a p wp yl dw o ns is cs ws Y k m t kvs H):∀ p∈Y,∀ n∈p.1,n.length<=1000:=λ p hp n hn=>z40 (h.tx n (h.nm p hp n hn)).1.1 (by decide)
def At33.fit (h:At33 K mg a p wp yl dw o ns is cs ws Y k m t kvs H) {z:Str} {w:Wo} (e:mf ws cs k ws.length z=some w):fitB k (dW w)=true/\okF (dW w):=⟨quf (h.good z w e) h.kok h.fok.tW,qrz (h.good z w e) h.kok h.fok.tW⟩
def At33.rkIn (h:At33 K mg a p wp yl dw o ns is cs ws Y k m t kvs H) {l d:Addr} (hl:WA H l Y) (hd:H d=some (.dK kvs)):RkIn K mg H l o d Y k λ z=>(mf ws cs k ws.length z).map dW where
 wa:=hl
 by_:=h.by_
 vd:=⟨kvs,.inl hd,λ z=>by
  rcases h.wsd.val z with ⟨e1,e2⟩ | ⟨a,v,e1,e2,q⟩
  ·exact .inl ⟨congrArg (Option.map dW) e1,e2⟩
  ·exact .inr ⟨dW a,v,congrArg (Option.map dW) e1,e2,q.dat h.hW (h.good z a e1)⟩⟩
 fine:=λ z a e=>by
  obtain ⟨w,e1,rfl⟩:=z0p.mp e;exact (h.fit e1).2
 short:=h.short
def At33.wd (h:At33 K mg a p wp yl dw o ns is cs ws Y k m t kvs H) {d:Addr} (hd:H d=some (.dK kvs)):WD H d (mf ws cs k ws.length):=⟨kvs,.inl hd,λ z=>(h.wsd.val z).imp (·.1) id⟩
def At33.nobad (h:At33 K mg a p wp yl dw o ns is cs ws Y k m t kvs H):∀ p∈Y,∀ n∈p.1,badB k (λ z=>(mf ws cs k ws.length z).map dW) n=false:=λ p hp n hn=>by
 obtain ⟨w,e⟩:=h.names p hp n hn;unfold badB;show (match Option.map dW (mf ws cs k ws.length n) with | none=>true | some d=> !fitB k d)=false;rw [e];show (!fitB k (dW w))=false;rw [(h.fit e).1];rfl
def At33.rkIn2 (h:At33 K mg a p wp yl dw o ns is cs ws Y k m t kvs H) {l d:Addr} {kv2:List (Key×V)} {z0:Str} {s0:Option PyData} (hl:WA H l Y) (hd:H d=some (.dK kv2)) (sp:Spo K H kv2 (mf ws cs k ws.length) z0 s0) (fs:∀ a,s0=some a ->okF a):RkIn K mg H l o d Y k (gS (mf ws cs k ws.length) z0 s0) where
 wa:=hl
 by_:=h.by_
 vd:=⟨kv2,.inl hd,sp.vd⟩
 fine:=λ z a e=>by
  unfold gS at e;split at e
  ·exact fs a e
  ·obtain ⟨w,e1,rfl⟩:=z0p.mp e;exact (h.fit e1).2
 short:=h.short
def At33.still (h:At33 K mg a p wp yl dw o ns is cs ws Y k m t kvs H) {d:Addr} {kv2:List (Key×V)} {z0:Str} {s0:Option PyData} (hd:H d=some (.dK kv2)) (sp:Spo K H kv2 (mf ws cs k ws.length) z0 s0) (no:∀ p∈Y,z0∉p.1):
  (∀ p∈Y,∀ n∈p.1,badB k (gS (mf ws cs k ws.length) z0 s0) n=false)/\WD H d (fS (mf ws cs k ws.length) z0)/\FOk (ws.take 4) k (fS (mf ws cs k ws.length) z0)/\(∀ p∈Y,∀ n∈p.1,∃ a,fS (mf ws cs k ws.length) z0 n=some a)/\YOk k (gOf k (fS (mf ws cs k ws.length) z0)) Y/\rkY k (gOf k (fS (mf ws cs k ws.length) z0)) Y=rkY k (gOf k (mf ws cs k ws.length)) Y:=by
 have ne:∀ p∈Y,∀ n∈p.1,n≠z0:=λ p J n hn e=>no p J (e ▸ hn);have O:∀ p∈Y,∀ n∈p.1,gOf k (fS (mf ws cs k ws.length) z0) n=gOf k (mf ws cs k ws.length) n:=λ p J n hn=>by
  unfold gOf fS;rw [if_neg (ne p J n hn)]
 refine ⟨λ p J n hn=> ?_,⟨kv2,.inl hd,sp.wd⟩,⟨h.kok,h.hW,h.fok.tW,λ z w e=> ?_,λ z=> ?_⟩,λ p J n hn=> ?_,λ p J=>⟨(h.yok p J).1,λ i=> ?_⟩,qs6 O⟩
 ·have:=h.nobad p J n hn;unfold badB gS at*;rw [if_neg (ne p J n hn)];exact this
 ·unfold fS at e;split at e
  ·cases e
  ·exact h.good z w e
 ·unfold gOf fS;split
  ·exact q114 k
  ·exact h.fok.lt z
 ·unfold fS;rw [if_neg (ne p J n hn)];exact h.names p J n hn
 ·rw [qih λ n hn=>O p J n (z14 hn)];exact (h.yok p J).2 i
end
def sp_law (K:xA):Sp:=λ vs H Q _=>∃ (a:Addr) (ns:List Int),vs=[.ref a]/\SqL K H a (ns.map V.int)/\ns.length<=63/\∀ H',Q (.bl true) H'
def S33 (a p wp ca yl dw o:Addr) (m t:Int) (k:Kd) (fr:V) (v1 v2 v3 v4 v5:Option V):L2.St:=[some (.ref a),some (.ref p),some (.int (q9u k)),some (.int m),some (.int t),some (.ref wp),some (.ref ca),some (.ref yl),some (.ref dw),some (.ref o),some fr,v1,v2,v3,v4,v5]
def q104 {l:PySem.W.OpenLaw} {w:World} {K:xA} {mg:xE} {fa:Addr} (T:Txt K mg) (k6:mg "law"=some (.ref fa)):
    ∃ fd:FuncData,(∀ (s:Shared) (v:Value),BindsTo s fd ⟨[v],[]⟩ [("_law_script",v)])/\∀ base:Heap,K.In base ->base.Ns mainGlobals mg ->FnOk l.prog w K mg base CX0 9 fa fd ["_law_script"] (sp_law K):=by
  refine T.t_law.fin k6 q2h (λ vs H Q E h=> ?_) λ base f cdv A outer s H vs Q E hr h=> ?_
  · obtain ⟨a,ns,rfl,_⟩:=h
    rfl
  · obtain ⟨a,ns,rfl,hS,m2,q⟩:=h
    refine qwq 5 (λ σ H'=>∃ (p:Addr) (is:List Int) (kd m t:Int),σ=[some (.ref a),some (.ref p),some (.int kd),some (.int m),some (.int t),none,none,none,none,none,none,none,none,none,none,none]/\Same H H'/\H' p=some (.lst (is.map V.int))/\is.length=12/\(∀ i,0<=is.getD i 0)/\(0<=kd/\kd < 6)/\(1<=m/\m<=9)/\0<=t) ?_ (λ u hu hC=>⟨_,(q10r
      (qo (i:=1) q2h.nd rfl (Or.inr rfl) (q12 (q39 T) hr rfl (pa_2 (q12 (q3v T) hr rfl (pa_2 (pv 0) qc)) qc)))
      (qo (i:=2) q2h.nd rfl (Or.inl rfl) (qk qz (qy (ql K) (pv 1) qc (λ _ _=>rfl)) qc))
      (qo (i:=3) q2h.nd rfl (Or.inl rfl) (qk q19 qc (qk qz (qy (ql K) (pv 1) qc (λ _ _=>rfl)) qc)))
      (qo (i:=4) q2h.nd rfl (Or.inl rfl) qc)
      (q15 (qq q1h (qk qz (qy (ql K) (pv 1) qc (λ _ _=>rfl)) qc) qc (qt _)) (qg (qo (i:=4) q2h.nd rfl (Or.inl rfl) (qk qz (q12 (q3v T) hr rfl (pa_2 (pv 0) qc)) (qy (ql K) (q1e (pa_2 qc (qk q8o qc qc))) (qk qz (qy (ql K) (pv 1) qc (λ _ _=>rfl)) qc) (λ _ _=>rfl))))) qx)
      hu),?_⟩)
    · refine qqy 7 (λ σ H'=>∃ (p wp ca yl dw o:Addr) (is cs:List Int) (ws:xD) (Y:Tab) (k:Kd) (m t:Int) (kvs:List (Key×V)) (fr:V) (v1 v2 v3 v4 v5:Option V),σ=S33 a p wp ca yl dw o m t k fr v1 v2 v3 v4 v5/\At33 K mg a p wp yl dw o ns is cs ws Y k m t kvs H'/\WV H' (rkY k (gOf k (mf ws cs k ws.length)) Y) fr) ⟨_,(qg (qh (q12 (qa4 T) hr rfl (pa_2 (q12 (q8k T) hr rfl (pa_3 (q2a (q9a K) rfl T.q81 q5m (pa_1 (pv 7))) (pv 9) (pv 8))) (pv 10))))),?_⟩ (λ u hu hC=>⟨_,(q10s
      (qo (i:=5) q2h.nd rfl (Or.inl rfl) (q12 (qh3 T) hr rfl (pa_2 (qy (ql K) (pv 1) qc (λ _ _=>rfl)) (qk q19 qc (qk qz (qy (ql K) (pv 1) qc (λ _ _=>rfl)) qc)))))
      (q99 (i:=6) q2h.nd rfl rfl (N:=["_law_k","_law_script","_law_way"]) (caps:=[none,some 0,some 1]) rfl (by with_unfolding_all rfl) (q4w rfl T.q78 (pa_1 qc)) (λ _ _ _ _ _=>(q13 (i:=0) (show (["_law_k","_law_script","_law_way"]:xD).Nodup by decide+kernel) rfl (Or.inl rfl))) (λ _ _ _ _ _=>q2o) (λ _ _ _ _ _=>(qk q19 (qk q19 (q12 (q3v T) hr rfl (pa_2 (pv 1) (qk q19 qc (pv 0)))) (qk qz (qy (ql K) (pv 2) qc (λ _ _=>rfl)) qc)) (qk q53 qc (pv 0)))))
      (qo (i:=7) q2h.nd rfl (Or.inl rfl) (q12 (qfh T) hr rfl (pa_2 (qk qeh (q12 (q39 T) hr rfl (pa_2 (qy (ql K) (pv 1) qc (λ _ _=>rfl)) (qk q19 qc (qk qz (qy (ql K) (pv 1) qc (λ _ _=>rfl)) qc)))) (q21 (q31 K) (pv 0) (q1p qc) (q1p qc))) (q21 (q31 K) (pv 5) q4d (q1p (qec qak qc))))))
      (qo (i:=8) q2h.nd rfl (Or.inl rfl) (q12 (qab T) hr rfl (pa_5 (pv 2) (pv 6) (pv 5) (pv 3) (pv 4))))
      (qo (i:=9) q2h.nd rfl (Or.inl rfl) (q12 (qpo T) hr rfl (pa_3 (pv 2) (pv 3) (pv 4))))
      (qo (i:=10) q2h.nd rfl (Or.inl rfl) (q12 (q8k T) hr rfl (pa_3 (q2a (q9a K) rfl T.q81 q5m (pa_1 (pv 7))) (pv 9) (q2a q9f rfl T.qft qbw (pa_1 (pv 8))))))
      (q15 (qq qol (qk qz (qy (ql K) (pv 1) qc (λ _ _=>rfl)) qc) qc (qt _)) (qvf
      (qo (i:=11) q2h.nd rfl (Or.inr rfl) (qy (ql K) (pv 5) (qk qz (qy (ql K) (pv 1) qc (λ _ _=>rfl)) (qp (q2y K) rfl T.b_len q3z (pa_1 (pv 5)))) (λ _ _=>rfl)))
      (qo (i:=12) q2h.nd rfl (Or.inl rfl) (q2a q9f rfl T.qft qbw (pa_1 (pv 8))))
      (q15 (qq q1h (qk qz (qy (ql K) (pv 1) qc (λ _ _=>rfl)) qc) qc (qt _)) (qg (q2b (qt5 (pv 12) (pv 11) ⟨rfl,rfl,rfl,rfl⟩))) (qg (q74 (q35 hr) (pv 12) (pv 11) (q12 (qdt T) hr rfl (pa_5 (pv 2) (qk q19 (qk qz (q12 (q3v T) hr rfl (pa_2 (pv 0) qc)) (qk q8o qc qc)) (qy (ql K) (pv 1) qc (λ _ _=>rfl))) (pv 5) (pv 3) (pv 4))) rfl)))
      (qo (i:=13) q2h.nd rfl (Or.inl rfl) (qp (qhw rfl K) rfl T.b_any qqx (pa_1 (q29 (N:=["_law_product","_law_ways","_law_word_here"]) (caps:=[none,none,some 11]) rfl (by with_unfolding_all rfl) (q1f K (pv 7)) (λ _ _ _ _ _=>(qwu K (n:=2) rfl (q5j (q13 (i:=0) (show (["_law_product","_law_ways","_law_word_here"]:xD).Nodup by decide+kernel) rfl (Or.inl rfl)) (q5j (q13 (i:=1) (show (["_law_product","_law_ways","_law_word_here"]:xD).Nodup by decide+kernel) rfl (Or.inl rfl)) qfx)))) (λ _ _ _ _ _=>q2o) (λ _ _ _ _ _=>(q3o (qyo K) (pv 2) (pv 0) (by with_unfolding_all rfl)))))))
      (qo (i:=14) q2h.nd rfl (Or.inl rfl) (q2a (q9a K) rfl T.q81 q5m (pa_1 (pv 7))))
      (qo (i:=15) q2h.nd rfl (Or.inl rfl) (q2a q9f rfl T.qft qbw (pa_1 (pv 12))))
      (q15 (PW.pt (q86 (PW.pt (qai (qki (pv 13) (λ _=>rfl)) (q8n (q3k (q3x (q12 (q8l T) hr rfl (pa_3 (pv 14) (pv 9) (pv 15)))))))) (q68 (qq qok (q12 (qfi T) hr rfl (pa_3 (pv 14) (pv 9) (pv 15))) (pv 13) (qt _))))) (qg (qh q25)) qx)
      (q15 (PW.pt (q86 (qq (qyu hr.units K) (pv 14) (pv 7) (qt _)) (q68 (qq (qtc hr.units K) (pv 15) (pv 12) (qt _))))) (qg (qh q25)) qx)
      (q15 (PW.pt (qai (q3k (qki (pv 13) (λ _=>rfl))) (q8n (q3k (q3x (q12 (qa4 T) hr rfl (pa_2 (q12 (q8k T) hr rfl (pa_3 (pv 14) (pv 9) (pv 15))) (pv 10)))))))) (qg (qh q25)) qx)) qx)
      hu),?_⟩)
      · rintro σ H1 ⟨p,wp,ca,yl,dw,o,is,cs,ws,Y,k,m,t,kvs,fr,v1,v2,v3,v4,v5,rfl,h,wf⟩
        refine ⟨_,zr,yl,_,zr,.inl (SqL.of h.why.lst),λ l1 b8=> ?_⟩;have s1:=qf (o:=HO.lst h.why.xs) b8;have h1:=h.same s1;refine ⟨_,zr,_,zr,l1,o,dw,Y,k,_,zr,h1.rkIn (h.why.copy b8) h1.dct,h1.nobad,_,_,h1.wd h1.dct,h1.fok,h1.names,h1.yok,λ z H2 s2 _ v=> ?_⟩;exact ⟨_,zr,z,fr,_,zr,v.dat h.hW h.rgood,(wf.same (s1.trans s2)).dat h.hW h.rgood,qdo _,q _⟩
      · rintro σ H1 ⟨p,is,kd,m,t,rfl,s1,Z,il,ig,⟨l9,m0⟩,hm,ht⟩
        have a0:atI (is.map V.int) 0=some (V.int (is.getD 0 0)):=q1l (k:=0) (by lia);have a5:atI (is.map V.int) 5=some (V.int (is.getD 5 0)):=q1l (k:=5) (by lia);have a6:atI (is.map V.int) 6=some (V.int (is.getD 6 0)):=q1l (k:=6) (by lia);have a7:atI (is.map V.int) 7=some (V.int (is.getD 7 0)):=q1l (k:=7) (by lia);have a8:atI (is.map V.int) 8=some (V.int (is.getD 8 0)):=q1l (k:=8) (by lia);have a9:atI (is.map V.int) 9=some (V.int (is.getD 9 0)):=q1l (k:=9) (by lia);have j4:atI (is.map V.int) 10=some (V.int (is.getD 10 0)):=q1l (k:=10) (by lia);have j5:atI (is.map V.int) 11=some (V.int (is.getD 11 0)):=q1l (k:=11) (by lia);have j7:=ig 11;generalize is.getD 0 0=i0 at*;generalize is.getD 5 0=i5 at*;generalize is.getD 6 0=i6 at*;generalize is.getD 7 0=i7 at*;generalize is.getD 8 0=i8 at*;generalize is.getD 9 0=i9 at*;generalize is.getD 10 0=l8 at*;generalize is.getD 11 0=f6 at*;obtain ⟨k,rfl,d5,hk⟩:=q115 l9 m0 hm ht;refine ⟨_,rfl,_,_,_,_,rfl,rfl,SqL.of Z,a0,_,rfl,_,_,_,_,rfl,rfl,SqL.of Z,a5,_,_,rfl,rfl,(by show (0:Int) < 6;decide),_,_,rfl,rfl,_,2+i5%6,rfl,by lia,by lia,λ wp ws H2 s2 hw lw _ tx=> ?_⟩;have b0:0<=i5%6:=z39 _ (by decide);have b1:i5%6 < 6:=z1v _ (by decide);have w2:2<=ws.length:=by lia
        have w7:ws.length<=7:=by lia
        have d0:=s1.trans s2;have f0:=s2 _ _ Z;have e6:=d0.seq hS;refine ⟨_,zr,by decide,by decide,λ D hD=> ?_⟩;refine q1w 7 (λ i σ' H'=>(∃ v,σ'=[v,some (.ref a),some (.ref p)])/\Same H2 H'/\∃ cs:List Int,H' D=some (.lst (cs.map V.int))/\cs.length=i) ⟨⟨_,zr⟩,qf hD,[],qb,zr⟩ (λ i σ' H' hi p=>hi) (λ σ' H' p=>⟨z47 _,?_⟩) (λ i σ' H' hi p x H3 y=> ?_)
        case refine_2=>
          obtain ⟨⟨v,rfl⟩,O,cs,e,cl⟩:=p;obtain ⟨rfl,rfl⟩:=y;refine ⟨_,rfl,_,rfl,_,_,rfl,rfl,a,ns,2+(0+(i:Int)),rfl,O.seq e6,by lia,_,rfl,_,_,_,_,rfl,rfl,SqL.of (O _ _ f0),a6,_,_,rfl,rfl,(by show (0:Int) < 97;decide),_,_,rfl,rfl,_,rfl,_,_,rfl,rfl,.inl ⟨by decide,by decide⟩,_,_,rfl,rfl,?_⟩;exact ⟨_,e,by rw [z2z,cl];exact q1i (by lia),⟨_,rfl⟩,O.set hD,cs++ [_],by rw [qb,z35];rfl,by rw [z1n,cl];rfl⟩
        obtain ⟨_,O,cs,hc,cl⟩:=p;clear hD;have d6:=O _ _ f0;have f4:=O _ _ hw;have e7:=O.seq e6;generalize H'=H3 at*;clear O f0 hw e6 Z d0 s1 s2 hS;refine ⟨_,rfl,_,_,_,_,rfl,rfl,SqL.of d6,a7,_,rfl,_,_,_,_,rfl,rfl,SqL.of d6,a8,_,_,rfl,rfl,(by show (0:Int) < 4;decide),_,_,rfl,rfl,_,1+i8%4,rfl,by lia,by lia,λ q2 js H4 s4 hq jl _ _=> ?_⟩;have c0:0<=i8%4:=z39 _ (by decide);have c1:i8%4 < 4:=z1v _ (by decide);refine ⟨_,zr,_,zr,_,zr,_,_,zr,s4.seq e7,λ l5 k7=> ?_⟩;rw [qfa];have j6:=qgx ns 8 20;generalize cutL ns (some ((8:Nat):Int)) (some ((20:Nat):Int))=ms at*;have s5:=qf (o:=HO.lst (ms.map V.int)) k7;have jl':js.length<=4:=by lia
        refine ⟨q2,l5,_,_,rfl,rfl,s5 _ _ hq,qb,by rw [z2z,z2z];exact z3x (q1i (by lia)),λ l6 c8=> ?_⟩;have s6:=qf (o:=HO.lst (js.map V.int++ms.map V.int)) c8;have f9:=s4.trans (s5.trans s6);refine ⟨_,zr,_,zr,_,zr,_,_,zr,SqL.of (f9 _ _ f4),λ l7 k8=> ?_⟩;rw [q103,<- List.map_take,z2z];have s7:=qf (o:=HO.lst ((ws.take (ws.length - 1)).map V.str)) k8;refine ⟨l6,l7,js++ms,ws.take (ws.length - 1),rfl,SqL.of (s7 _ _ (by rw [qb,z35])),by rw [z1n];lia,qb,by rw [z2f];lia,λ z hz=>(tx z (z14 hz)).1.ok,λ yl Y H8 s8 _ wY f2=> ?_⟩;have d2:=f9.trans (s7.trans s8);have h7:=d2 _ _ d6;have f5:=d2 _ _ f4;have h3:=d2.seq e7;have h4:=d2 _ _ hc;clear d6 f4 e7 hc d2 f9 s8 s7 s6 s5 s4;refine ⟨_,zr,_,zr,_,zr,_,zr,_,zr,k,D,wp,cs,m,t,ws,zr,d5,hk,hm,ht,h4,f5,qvo w7 tx,by lia,w7,by lia,λ dw kvs H9 s9 _ g2 kl wsd=> ?_⟩;refine ⟨_,zr,_,zr,_,zr,k,m,t,zr,d5,λ o j3 f8 hB=> ?_⟩;have d3:=s9.trans f8;have c7:At33 K mg a p wp yl dw o ns is cs ws Y k m t kvs j3:=⟨d3.seq h3,d3 _ _ h7,d5,hk,hm,d3 _ _ f5,w2,w7,tx,wY.same d3,f2.1,λ p Z z hz=>z14 ((f2.2 p Z).2 z hz),f8 _ _ g2,kl,wsd.same f8,hB⟩;clear h3 h7 f5 wY wsd hB g2 h4 d3;refine ⟨_,zr,yl,_,zr,.inl (SqL.of c7.why.lst),λ l1 b8=> ?_⟩;have u1:=qf (o:=HO.lst c7.why.xs) b8;have w1:=c7.why.copy b8;have h1:=c7.same u1;refine ⟨_,zr,_,zr,dw,kvs,zr,.inl h1.dct,λ d1 h5=> ?_⟩;have u2:=qf (o:=HO.dK kvs) h5;have h2:=h1.same u2;refine ⟨l1,o,d1,Y,k,_,zr,h2.rkIn (w1.same u2) qb,h2.nobad,_,_,h2.wd qb,h2.fok,h2.names,h2.yok,λ fr b6 d0 nv wf=> ?_⟩;have h:=h2.same d0;clear nv d0 h2 u2 h5 h1 w1 u1 b8 c7;refine ⟨_,rfl,_,_,_,_,rfl,rfl,SqL.of h.way,a9,_,_,rfl,rfl,(by show (0:Int) < 3;decide),_,_,rfl,rfl,_,rfl,ite2 (λ _=> ?_) (λ _=>hC _ _ ⟨p,wp,D,yl,dw,o,is,cs,ws,Y,k,m,t,kvs,fr,_,_,_,_,_,rfl,h,wf⟩)⟩;have j2:(0:Int) < ((ws.map V.str).length:Int):=by rw [z2z];lia
        obtain ⟨v2,l2,k9⟩:=qaq (xs:=ws.map V.str) (i:=l8%((ws.map V.str).length:Int)) (z39 _ (by lia)) (z1v _ j2);obtain ⟨z0,l4,rfl⟩:=z44.mp k9;refine ⟨_,zr,_,zr,_,_,_,_,zr,zr,SqL.of h.way,j4,_,zr,_,_,zr,.inl ⟨_,SqL.of h.words,zr⟩,_,_,zr,zr,j2,_,_,_,_,zr,zr,SqL.of h.words,l2,?_⟩;refine ⟨_,zr,dw,kvs,zr,.inl h.dct,λ ds e9=> ?_⟩;have t1:=qf (o:=HO.dK kvs) e9;have g1:=h.same t1
        apply qvj
        · intro key
          refine ⟨_,rfl,_,_,_,_,rfl,rfl,SqL.of g1.way,a9,_,_,rfl,rfl,(by show (0:Int) < 3;decide),rfl,_,rfl,ite2 (λ _=> ?pa) (λ _=> ?pb)⟩
          case pa=>
            obtain ⟨b,hb⟩:=qvn (cs:=cs) (k:=k) l4;obtain ⟨x,hx⟩:∃ x,valV kvs (Sum.inr z0)=some x:=by
              rcases h.wsd.val z0 with ⟨e,_⟩ | ⟨_,v,_,e,_⟩
              · rw [hb] at e
                cases e
              · exact ⟨v,e⟩
            refine ⟨_,zr,ds,zr,.inl ⟨kvs,.inl qb⟩,_,zr,kvs,Sum.inr z0,x,qb,zr,hx,?_⟩;have t2:Same b6 (upd (upd b6 ds (.dK kvs)) ds (.dK (q2m kvs (Sum.inr z0)))):=t1.set e9;have b2:upd (upd b6 ds (.dK kvs)) ds (.dK (q2m kvs (Sum.inr z0))) ds=some (.dK (q2m kvs (Sum.inr z0))):=qb;have sp:Spo K (upd (upd b6 ds (.dK kvs)) ds (.dK (q2m kvs (Sum.inr z0)))) (q2m kvs (Sum.inr z0)) (mf ws cs k ws.length) z0 none:=Spo.of (h.wsd.same t2) h.hW h.good (λ z e=>by rw [q9y,if_neg λ q=>e (Sum.inr.inj q)]) (.inl ⟨rfl,by rw [q9y,if_pos rfl]⟩) (λ kv b7=> .inl (z2w.mp b7).1);have b5:badB k (gS (mf ws cs k ws.length) z0 none) z0=true:=by unfold badB gS;rw [if_pos rfl]
            have fs:∀ a:PyData,(none:Option PyData)=some a ->okF a:=λ a e=>by cases e
            generalize upd (upd b6 ds (.dK kvs)) ds (.dK (q2m kvs (Sum.inr z0)))=G4 at t2 b2 sp ⊢;generalize q2m kvs (Sum.inr z0)=kv2 at b2 sp;generalize (none:Option PyData)=s0 at sp b5 fs;have g4:=h.same t2;have d4:=wf.same t2;clear t2;revert b2 sp b5 fs g4 d4;revert s0;revert kv2;revert G4;exact key
          case pb=>
            have n0:0<=ns.getD (Int.toNat 9) 0%10^30+f6:=Int.add_nonneg (z39 _ (by decide)) j7;refine ⟨_,rfl,_,rfl,a,ns,9,rfl,g1.scr,by decide,_,_,rfl,rfl,⟨by decide,by decide,by decide⟩,_,_,rfl,rfl,(by show (0:Int) < 10^30;decide),_,rfl,_,_,_,_,rfl,rfl,SqL.of g1.way,j5,_,_,rfl,rfl,_,rfl,_,rfl,_,rfl,k,ns.getD (Int.toNat 9) 0%10^30+f6,m,t,wp,ws,rfl,d5,hm,n0,g1.words,by lia,λ w hw=>(tx w hw).1.ok,λ x G3 t3 dx=> ?_⟩;have m1:ws.getD 0 endW∈ws:=by
              rw [z06,z0c (show 0 < ws.length by lia)];exact z2j _
            obtain ⟨f1,g3,f3⟩:=qxx n0 hk (g1.tt m1);generalize noE (ws.getD 0 endW) (ns.getD (Int.toNat 9) 0%10^30+f6) k=nd at*;have e5:G3 ds=some (.dK kvs):=t3 _ _ qb;refine ⟨_,rfl,_,rfl,ds,_,rfl,DPut.k (k:=Sum.inr z0) e5 (q1i (by have:=h.kl;lia)),?_⟩;have t2:Same b6 (upd G3 ds (.dK (putK kvs (Sum.inr z0) x))):=(t1.trans t3).set e9;have b2:upd G3 ds (.dK (putK kvs (Sum.inr z0) x)) ds=some (.dK (putK kvs (Sum.inr z0) x)):=qb;have e4:Dat K (upd G3 ds (.dK (putK kvs (Sum.inr z0) x))) nd x:=qo9 e5 (λ c o hc z=>by rw [qi hc];exact z) _ _ dx;have sp:Spo K (upd G3 ds (.dK (putK kvs (Sum.inr z0) x))) (putK kvs (Sum.inr z0) x) (mf ws cs k ws.length) z0 (some nd):=Spo.of (h.wsd.same t2) h.hW h.good (λ z e=>by rw [q3g,if_neg λ q=>e (Sum.inr.inj q)]) (.inr ⟨nd,x,rfl,by rw [q3g,if_pos rfl],e4⟩) (λ kv b7=>(qlx b7).imp id λ e=>⟨nd,by rw [e];exact e4,f3⟩);have b5:badB k (gS (mf ws cs k ws.length) z0 (some nd)) z0=true:=by
              unfold badB gS;rw [if_pos rfl];show (!fitB k nd)=true;rw [f1];rfl
            have fs:∀ a:PyData,some nd=some a ->okF a:=λ a e=>by cases e;exact g3
            clear e4 dx f1 g3 f3 e5;generalize upd G3 ds (.dK (putK kvs (Sum.inr z0) x))=G4 at t2 b2 sp ⊢;generalize putK kvs (Sum.inr z0) x=kv2 at b2 sp;generalize some nd=s0 at sp b5 fs;have g4:=h.same t2;have d4:=wf.same t2;clear t2;revert b2 sp b5 fs g4 d4;revert s0;revert kv2;revert G4;exact key
        · intro G4 kv2 s0 b2 sp b5 fs g4 d4
          have k4:=b2;obtain ⟨xs,d8,h8,_⟩:=id g4.why;have xl:=Paired.length h8;refine ⟨_,zr,yl,zr,⟨_,SqL.of d8⟩,λ D5 g6=> ?_⟩;refine q1w xs.length (λ i σ' H'=>(∃ v1 v2,σ'=[v1,v2,some (.str z0)])/\Same G4 H'/\H' D5=some (.lst (((Y.take i).map λ p=>decide (z0∈p.1)).map V.bl))) ⟨⟨_,_,zr⟩,qf g6,qb⟩ (λ i σ' H' hi p=> ?_) (λ σ' H' p=>⟨?_,?_⟩) (λ i σ' H' hi p x H2 y=> ?_)
          · obtain ⟨_,O,_⟩:=p
            exact ⟨_,xs[i],SqL.of (O _ _ d8),z0c hi⟩
          · obtain ⟨_,O,_⟩:=p
            exact ⟨_,SqL.of (O _ _ d8),z47 _⟩
          · obtain ⟨_,O,e⟩:=p
            rw [xl,z2s] at e;refine ⟨D5,_,zr,SqL.of e,?_⟩;rw [List.any_map];have g5:=g4.same O;have j1:=d4.same O;have j0:=sp.same O;have e8:=O _ _ k4;generalize H'=G5 at*;clear e O;refine ⟨_,zr,yl,_,zr,.inl (SqL.of g5.why.lst),λ l6 c8=> ?_⟩;have r6:=qf (o:=HO.lst g5.why.xs) c8;have w6:=g5.why.copy c8;refine ⟨_,zr,ds,kv2,zr,.inl (r6 _ _ e8),λ d7 h6=> ?_⟩;have r7:=qf (o:=HO.dK kv2) h6;have c9:=r6.trans r7;have g7:=g5.same c9;have g0:=j1.same c9;have b4:=j0.same c9;have b9:=w6.same r7;have h9:=c9 _ _ e8;have b3:upd (upd G5 l6 (.lst g5.why.xs)) d7 (.dK kv2) d7=some (.dK kv2):=qb;generalize upd (upd G5 l6 (.lst g5.why.xs)) d7 (.dK kv2)=G7 at*;clear c9 r7 r6 w6 e8 j0 j1 g5 h6 c8;by_cases e0:∃ p∈Y,z0∈p.1
            · have ed:Y.any (id∘λ p=>decide (z0∈p.1))=true:=by
                obtain ⟨p,Z,hz⟩:=e0;exact z2o.mpr ⟨p,Z,z3b hz⟩
              rw [ed];have bd:∃ p∈Y,∃ n∈p.1,badB k (gS (mf ws cs k ws.length) z0 s0) n=true:=by
                obtain ⟨p,Z,hz⟩:=e0;exact ⟨p,Z,z0,hz,b5⟩
              refine ⟨_,zr,_,zr,q1k rfl ?_⟩;refine ⟨_,zr,_,zr,_,zr,l6,o,d7,Y,k,_,zr,g7.rkIn2 b9 b3 b4 fs,.inr ⟨bd,λ G8 r8=> ?_⟩⟩;refine ⟨_,zr,qm rfl ?_⟩;have g8:=g7.same r8;refine ⟨_,zr,_,zr,_,zr,l6,o,d7,Y,k,_,zr,g8.rkIn2 (b9.same r8) (r8 _ _ b3) (b4.same r8) fs,.inr ⟨bd,λ G9 r9=> ?_⟩⟩;have J:=r8.trans r9;have g9:=g7.same J;refine ⟨_,zr,zr,_,zr,qm rfl ?_⟩;refine ⟨_,zr,_,zr,_,_,(b9.same J).dat,g9.why.dat,qi5 _,_,zr,?_⟩;rw [PySem.SeqAt.eqv_refl _ (Dat.lay _ _ (g9.why.dat (K:=K)))];refine qm rfl ?_;refine ⟨_,zr,_,zr,d7,ds,kv2,kv2,zr,zr,.inl (J _ _ b3),.inl (J _ _ h9),qii (b4.same J).all,_,zr,iteF ?_⟩;refine ⟨_,zr,_,zr,qm rfl (iteF ?_)⟩;exact hC _ _ ⟨p,wp,D,yl,dw,o,is,cs,ws,Y,k,m,t,kvs,fr,_,_,_,_,_,zr,g9,g0.same J⟩
            · have no:∀ p∈Y,z0∉p.1:=λ p Z hz=>e0 ⟨p,Z,hz⟩
              have ed:Y.any (id∘λ p=>decide (z0∈p.1))=false:=List.any_eq_false.mpr λ p Z=>by
                show ¬ decide (z0∈p.1)=true;rw [decide_eq_true_iff];exact no p Z
              rw [ed];obtain ⟨c1,c2,c3,c4,c5,c6⟩:=g7.still b3 b4 no;refine ⟨_,zr,_,zr,qm rfl (qm rfl ?_)⟩;refine ⟨_,zr,_,zr,_,zr,l6,o,d7,Y,k,_,zr,g7.rkIn2 b9 b3 b4 fs,.inl ⟨c1,_,_,c2,c3,c4,c5,λ G9 J=> ?_⟩⟩;have g9:=g7.same J;refine ⟨_,zr,zr,_,zr,qm rfl ?_⟩;refine ⟨_,zr,_,zr,_,_,(b9.same J).dat,g9.why.dat,qi5 _,_,zr,?_⟩;rw [PySem.SeqAt.eqv_refl _ (Dat.lay _ _ (g9.why.dat (K:=K)))];refine qm rfl ?_;refine ⟨_,zr,_,zr,d7,ds,kv2,kv2,zr,zr,.inl (J _ _ b3),.inl (J _ _ h9),qii (b4.same J).all,_,zr,iteF ?_⟩;refine ⟨_,zr,_,zr,q1k rfl ?_⟩;obtain ⟨c1,c2,c3,c4,c5,c6⟩:=g9.still (J _ _ b3) (b4.same J) no;refine ⟨_,zr,_,zr,_,zr,l6,o,d7,Y,k,_,zr,g9.rkIn2 (b9.same J) (J _ _ b3) (b4.same J) fs,c1,_,_,c2,c3,c4,c5,λ z G10 f7 _ v=> ?_⟩;rw [c6] at v;refine ⟨_,zr,z,fr,_,zr,v.dat h.hW h.rgood,((g0.same J).same f7).dat h.hW h.rgood,qdo _,_,zr,iteF ?_⟩;exact hC _ _ ⟨p,wp,D,yl,dw,o,is,cs,ws,Y,k,m,t,kvs,fr,_,_,_,_,_,zr,g9.same f7,(g0.same J).same f7⟩
          · obtain ⟨⟨v1,v2,rfl⟩,O,e⟩:=p
            obtain ⟨rfl,hx⟩:=y;have l3:=hx _ (SqL.of (O _ _ d8));obtain ⟨kv,b7,l0⟩:=q5d h8 l3;obtain ⟨qa,b,rfl,hq,j9⟩:=l0.keep (Same.keepT O);refine ⟨_,_,zr,SqT.of hq,zr,_,_,zr,_,_,zr,zr,?_⟩;refine ⟨_,zr,_,zr,b,_,zr,.inr (SqT.of j9),zr,qic kv.1,?_⟩;rw [qlp];have iY:i < Y.length:=(z07.mp b7).1;refine ⟨_,e,by rw [z2z,z2z,z2f];exact q1i (by have:=g4.few.1;lia),⟨_,_,rfl⟩,O.set g6,?_⟩;rw [qb,z3g,b7,z35,z35];rfl
    · refine ⟨_,zr,a,ns,0,zr,hS,by decide,_,_,zr,by decide,by decide,λ p is H1 s1 Z il _ ig0=> ?_⟩
      have d9:is.length=12:=il;have ig:∀ i,0<=is.getD i 0:=λ i=>by
        rw [z06];cases e:is[i]? with
        | none=>exact z49 _
        | some z=>exact (ig0 z (z17 e)).1
      have a1:atI (is.map V.int) 1=some (V.int (is.getD 1 0)):=q1l (k:=1) (by lia);have a2:atI (is.map V.int) 2=some (V.int (is.getD 2 0)):=q1l (k:=2) (by lia);have a3:atI (is.map V.int) 3=some (V.int (is.getD 3 0)):=q1l (k:=3) (by lia);have a4:atI (is.map V.int) 4=some (V.int (is.getD 4 0)):=q1l (k:=4) (by lia);generalize is.getD 1 0=i1 at*;generalize is.getD 2 0=i2 at*;generalize is.getD 3 0=i3 at*;generalize is.getD 4 0=i4 at*;refine ⟨_,rfl,_,_,_,_,rfl,rfl,SqL.of Z,a1,_,_,rfl,rfl,(by show (0:Int) < 6;decide),?_⟩;refine ⟨_,rfl,_,_,_,_,rfl,rfl,SqL.of Z,a2,_,_,rfl,rfl,(by show (0:Int) < 9;decide),_,_,rfl,rfl,?_⟩;refine ⟨_,rfl,_,_,_,_,rfl,rfl,SqL.of Z,a3,_,_,rfl,rfl,(by show (0:Int) < 2;decide),rfl,_,rfl,ite2 (λ _=> ?_) (λ _=> ?_)⟩
      · refine ⟨_,rfl,a,ns,1,rfl,s1.seq hS,by decide,_,_,rfl,rfl,⟨by decide,by decide,by decide⟩,by show 2<=sizeLine;decide,λ L hL=> ?_⟩
        have u1:=qf (o:=HO.lst [V.int 10,V.int (10^30)]) hL;obtain ⟨v,j8,hv⟩:=qaq (xs:=[V.int 10,V.int (10^30)]) (i:=i4%2) (z39 _ (by decide)) (z1v _ (by decide));refine ⟨_,rfl,_,_,_,_,rfl,rfl,SqL.of (u1 _ _ Z),a4,_,_,rfl,rfl,(by show (0:Int) < 2;decide),_,_,_,v,rfl,rfl,SqL.of qb,j8,?_⟩;simp only [z3m,z2q,or_false] at hv;have fin:∀ j:Int,0<=j ->u {nx:=λ _ H'=>Q .non H',rt:=Q} [some (.ref a),some (.ref p),some (.int (i1%6)),some (.int (1+i2%9)),some (.int j),none,none,none,none,none,none,none,none,none,none,none] (upd H1 L (.lst [V.int 10,V.int (10^30)])):=λ j h=>hC _ _ ⟨p,is,_,_,_,rfl,s1.trans u1,u1 _ _ Z,d9,ig,⟨by lia,by lia⟩,⟨by lia,by lia⟩,h⟩;rcases hv with rfl | rfl
        · exact ⟨_,_,rfl,rfl,(by show (0:Int) < 10;decide),fin _ (z39 _ (by decide))⟩
        · exact ⟨_,_,rfl,rfl,(by show (0:Int) < 10^30;decide),fin _ (z39 _ (by decide))⟩
      · exact hC _ _ ⟨p,is,i1%6,1+i2%9,100,zr,s1,Z,d9,ig,⟨by lia,by lia⟩,⟨by lia,by lia⟩,by decide⟩
open PySem.W in
def qlz {K:xA} {h:Heap} {mg:xE} (X:K.In h) (G:h.Ns mainGlobals mg) {aZ a0 a1 a2 a3 a4:Tok} {aL aM aH aN a5 aI aO a6:Addr} {a7 a8 a9 aa aP ab ac ad ae af ag aQ ah ai:Value} {aj ak al am an ao:Option Addr} {ap aq ar as:Array (Option Value)}
  (au:nsIn K mainGlobals "ValueError"=some none)
  (av:nsIn K mainGlobals "abs"=some none)
  (aw:nsIn K mainGlobals "all"=some none)
  (ax:nsIn K mainGlobals "any"=some none)
  (ay:nsIn K mainGlobals "bool"=some none)
  (az:nsIn K mainGlobals "dict"=some none)
  (bA:nsIn K mainGlobals "int"=some none)
  (bB:nsIn K mainGlobals "isinstance"=some none)
  (bC:nsIn K mainGlobals "len"=some none)
  (bD:nsIn K mainGlobals "list"=some none)
  (bE:nsIn K mainGlobals "max"=some none)
  (bF:nsIn K mainGlobals "min"=some none)
  (bG:nsIn K mainGlobals "range"=some none)
  (bH:nsIn K mainGlobals "set"=some none)
  (bI:nsIn K mainGlobals "sorted"=some none)
  (bJ:nsIn K mainGlobals "str"=some none)
  (bK:nsIn K mainGlobals "tuple"=some none)
  (bL:nsIn K mainGlobals "SMALL_LETTERS"=some (some (.str "abcdefghijklmnopqrstuvwxyz" aZ)))
  (bM:nsIn K mainGlobals "FURTHER_SIGNS"=some (some (.str "abcdefghijklmnopqrstuvwxyz0123456789" a0)))
  (bN:nsIn K mainGlobals "MOST_SIGNS"=some (some (.int 12 a1)))
  (bO:nsIn K mainGlobals "END"=some (some (.str "" a2)))
  (bP:FiK K "is_whole" q9k)
  (bQ:FiK K "is_text_begun_by" q42)
  (bR:FiK K "is_word" qb0)
  (bS:FiK K "names_of" q9l)
  (bT:FiK K "ask_worths" q7g)
  (bU:FiK K "product_reckoned" q43)
  (bV:FiK K "reckoned" q9m)
  (bW:FiK K "is_tuple_of_words" q3r)
  (bX:FiK K "is_accord" q8i)
  (bY:FiK K "put_into" q9n)
  (bZ:FiK K "kids_within" q6g)
  (b0:FiK K "has_one_within" q4q)
  (b1:FiK K "once_by_size" q5p)
  (b2:FiK K "thinned" qb1)
  (b3:FiK K "agreed" qd6)
  (b4:FiK K "_law_cell_at" q5w)
  (b5:FiK K "_law_stream" q6q)
  (b6:FiK K "_law_word" q8j)
  (b7:FiK K "_law_words" q7q)
  (b8:FiK K "_law_few_why" q5x)
  (b9:FiK K "_law_within" q6r)
  (ba:FiK K "_law_accord" q6s)
  (bb:FiK K "_law_by" qb2)
  (bc:FiK K "_law_number" q6t)
  (bd:FiK K "_law_worth" q7r)
  (be:FiK K "_law_many_worths" q46)
  (bf:FiK K "_law_alike" q7s)
  (bg:FiK K "_law_no_worth" q5c)
  (bh:FiK K "_law_refused" q5y)
  (bi:FiK K "_law_refused_by_any" q37)
  (bj:FiK K "law" qpd)
  (bk:nsIn K mainGlobals "Bests"=some (some (.ref aL)))
  (bl:nsIn K mainGlobals "Trusts"=some (some (.ref aM)))
  (J:CiK K "Reckoning")
  (bm:AiK K "Reckoning" "__init__" (some (some (.builtin "object.__init__"))))
  (bn:AiK K "Reckoning" "either" (some none))
  (bo:AiK K "Reckoning" "nought" (some none))
  (bp:MiK K "Reckoning" "repeated" "Reckoning.repeated" q55)
  (O:CiK K "Counts")
  (bq:AiK K "Counts" "__init__" (some (some (.builtin "object.__init__"))))
  (br:MiK K "Counts" "fits" "Counts.fits" q6h)
  (bs:MiK K "Counts" "nought" "Counts.nought" q56)
  (bt:MiK K "Counts" "unit" "Counts.unit" q6i)
  (bu:MiK K "Counts" "either" "Counts.either" q57)
  (bv:MiK K "Counts" "both" "Counts.both" q6j)
  (bw:MiK K "Counts" "repeated" "Counts.repeated" q4h)
  (Z:CiK K "Costs")
  (bx:AiK K "Costs" "__init__" (some (some (.builtin "object.__init__"))))
  (bz:MiK K "Costs" "fits" "Costs.fits" q7h)
  (cA:MiK K "Costs" "nought" "Costs.nought" q5q)
  (cB:MiK K "Costs" "unit" "Costs.unit" q7i)
  (cC:MiK K "Costs" "either" "Costs.either" q5r)
  (cD:MiK K "Costs" "both" "Costs.both" q7j)
  (cE:MiK K "Costs" "repeated" "Reckoning.repeated" q4r)
  (aD:CiK K "Bests")
  (cF:AiK K "Bests" "most" (some none))
  (cG:findIn K (.ref aL) "__init__"=some (some (.ref aH))) (cH:isFn K (.ref aH)=true)
  (cI:K.lookup aH=some ⟨a7,aj,.func (fnOf "__init__" "Bests.__init__" (q1t q44) (q1d q44) (qd q44) (.ref aN) a8 a9 aa ak aP ab),ap⟩)
  (cJ:codeIn K aP "Bests.__init__"=true)
  (aJ:K.lookup aN=some ⟨ac,al,.seq #[.int 3 a3] a5,aq⟩)
  (cK:MiK K "Bests" "least_ones" "Bests.least_ones" q45)
  (cL:MiK K "Bests" "fits" "Bests.fits" q7k)
  (cM:MiK K "Bests" "nought" "Bests.nought" q5s)
  (cN:MiK K "Bests" "unit" "Bests.unit" q7l)
  (cO:MiK K "Bests" "either" "Bests.either" q5t)
  (cP:MiK K "Bests" "both" "Bests.both" q7m)
  (cQ:MiK K "Bests" "repeated" "Bests.repeated" q4s)
  (aE:CiK K "Trusts")
  (cR:AiK K "Trusts" "top" (some none))
  (cS:findIn K (.ref aM) "__init__"=some (some (.ref aI))) (cT:isFn K (.ref aI)=true)
  (cU:K.lookup aI=some ⟨ad,am,.func (fnOf "__init__" "Trusts.__init__" (q1t q3n) (q1d q3n) (qd q3n) (.ref aO) ae af ag an aQ ah),ar⟩)
  (cV:codeIn K aQ "Trusts.__init__"=true)
  (aK:K.lookup aO=some ⟨ai,ao,.seq #[.int 100 a4] a6,as⟩)
  (cW:MiK K "Trusts" "fits" "Trusts.fits" q6k)
  (cX:MiK K "Trusts" "nought" "Trusts.nought" q58)
  (cY:MiK K "Trusts" "unit" "Trusts.unit" q6l)
  (cZ:MiK K "Trusts" "either" "Trusts.either" q59)
  (c0:MiK K "Trusts" "both" "Trusts.both" q6m)
  (c1:MiK K "Trusts" "repeated" "Reckoning.repeated" q4i)
  (aF:CiK K "Truths")
  (c2:AiK K "Truths" "__init__" (some (some (.builtin "object.__init__"))))
  (c3:MiK K "Truths" "fits" "Truths.fits" q6n)
  (c4:MiK K "Truths" "nought" "Truths.nought" q5a)
  (c5:MiK K "Truths" "unit" "Truths.unit" q6o)
  (c6:MiK K "Truths" "either" "Truths.either" q5b)
  (c7:MiK K "Truths" "both" "Truths.both" q6p)
  (c8:MiK K "Truths" "repeated" "Reckoning.repeated" q4j)
  (aG:CiK K "Hands")
  (c9:AiK K "Hands" "__init__" (some (some (.builtin "object.__init__"))))
  (ca:MiK K "Hands" "fits" "Hands.fits" q7n)
  (cb:MiK K "Hands" "nought" "Hands.nought" q5u)
  (cc:MiK K "Hands" "unit" "Hands.unit" q7o)
  (cd:MiK K "Hands" "either" "Hands.either" q5v)
  (ce:MiK K "Hands" "both" "Hands.both" q7p)
  (cf:MiK K "Hands" "repeated" "Reckoning.repeated" q4t)
  (aR:XiK K "NoFact")
  (aS:XiK K "NoName")
  (aT:XiK K "NoRounds")
  (aU:XiK K "NoRule")
  (aV:XiK K "NoText")
  (aW:XiK K "NoWorth")
  (aX:XiK K "TooMuch")
  (aY:XiK K "WhyError")
  (cg:PiK K "NoWorth" "NoFact" false)
  (ch:PiK K "NoWorth" "NoName" false)
  (ci:PiK K "NoWorth" "NoRounds" false)
  (cj:PiK K "NoWorth" "NoRule" false)
  (ck:PiK K "NoWorth" "NoText" false)
  (cm:PiK K "NoWorth" "NoWorth" true)
  (cn:PiK K "NoWorth" "TooMuch" false)
  (co:PiK K "NoWorth" "WhyError" true):Txt K mg:=
 ⟨z1w X G au,
  z1w X G av,
  z1w X G aw,
  z1w X G ax,
  z1w X G ay,
  z1w X G az,
  z1w X G bA,
  z1w X G bB,
  z1w X G bC,
  z1w X G bD,
  z1w X G bE,
  z1w X G bF,
  z1w X G bG,
  z1w X G bH,
  z1w X G bI,
  z1w X G bJ,
  z1w X G bK,
  ⟨_,z3q X G bL⟩,
  ⟨_,z3q X G bM⟩,
  ⟨_,z3q X G bN⟩,
  ⟨_,z3q X G bO⟩,
  bP.top X G (λ _ _ _ _ _ _=>us1 λ _=>rfl),
  bQ.top X G (λ _ _ _ _ _ _=>us2 λ _ _=>rfl),
  bR.top X G (λ _ _ _ _ _ _=>us1 λ _=>rfl),
  bS.top X G (λ _ _ _ _ _ _=>us1 λ _=>rfl),
  bT.top X G (λ _ _ _ _ _ _=>us3 λ _ _ _=>rfl),
  bU.top X G (λ _ _ _ _ _ _=>us3 λ _ _ _=>rfl),
  bV.top X G (λ _ _ _ _ _ _=>us3 λ _ _ _=>rfl),
  bW.top X G (λ _ _ _ _ _ _=>us1 λ _=>rfl),
  bX.top X G (λ _ _ _ _ _ _=>us1 λ _=>rfl),
  bY.top X G (λ _ _ _ _ _ _=>us2 λ _ _=>rfl),
  bZ.top X G (λ _ _ _ _ _ _=>us2 λ _ _=>rfl),
  b0.top X G (λ _ _ _ _ _ _=>us2 λ _ _=>rfl),
  b1.top X G (λ _ _ _ _ _ _=>us1 λ _=>rfl),
  b2.top X G (λ _ _ _ _ _ _=>us1 λ _=>rfl),
  b3.top X G (λ _ _ _ _ _ _=>us2 λ _ _=>rfl),
  b4.top X G (λ _ _ _ _ _ _=>us2 λ _ _=>rfl),
  b5.top X G (λ _ _ _ _ _ _=>us2 λ _ _=>rfl),
  b6.top X G (λ _ _ _ _ _ _=>us2 λ _ _=>rfl),
  b7.top X G (λ _ _ _ _ _ _=>us2 λ _ _=>rfl),
  b8.top X G (λ _ _ _ _ _ _=>us2 λ _ _=>rfl),
  b9.top X G (λ _ _ _ _ _ _=>us2 λ _ _=>rfl),
  ba.top X G (λ _ _ _ _ _ _=>us3 λ _ _ _=>rfl),
  bb.top X G (λ _ _ _ _ _ _=>us3 λ _ _ _=>rfl),
  bc.top X G (λ _ _ _ _ _ _=>us1 λ _=>rfl),
  bd.top X G (λ _ _ _ _ _ _=>us5 λ _ _ _ _ _=>rfl),
  be.top X G (λ _ _ _ _ _ _=>us5 λ _ _ _ _ _=>rfl),
  bf.top X G (λ _ _ _ _ _ _=>us2 λ _ _=>rfl),
  bg.top X G (λ _ _ _ _ _ _=>us5 λ _ _ _ _ _=>rfl),
  bh.top X G (λ _ _ _ _ _ _=>us3 λ _ _ _=>rfl),
  bi.top X G (λ _ _ _ _ _ _=>us3 λ _ _ _=>rfl),
  bj.top X G (λ _ _ _ _ _ _=>us1 λ _=>rfl),
  J.g X G,
  J.cl X G,
  J.mk' X G,
  J.kp X G,
  bm.at' X G,
  bn.at' X G,
  bo.at' X G,
  bp.top X G (λ _ _ _ _ _ _=>us3 λ _ _ _=>rfl),
  O.g X G,
  O.cl X G,
  O.mk' X G,
  O.kp X G,
  bq.at' X G,
  br.top X G (λ _ _ _ _ _ _=>us2 λ _ _=>rfl),
  bs.top X G (λ _ _ _ _ _ _=>us1 λ _=>rfl),
  bt.top X G (λ _ _ _ _ _ _=>us1 λ _=>rfl),
  bu.top X G (λ _ _ _ _ _ _=>us3 λ _ _ _=>rfl),
  bv.top X G (λ _ _ _ _ _ _=>us3 λ _ _ _=>rfl),
  bw.top X G (λ _ _ _ _ _ _=>us3 λ _ _ _=>rfl),
  Z.g X G,
  Z.cl X G,
  Z.mk' X G,
  Z.kp X G,
  bx.at' X G,
  bz.top X G (λ _ _ _ _ _ _=>us2 λ _ _=>rfl),
  cA.top X G (λ _ _ _ _ _ _=>us1 λ _=>rfl),
  cB.top X G (λ _ _ _ _ _ _=>us1 λ _=>rfl),
  cC.top X G (λ _ _ _ _ _ _=>us3 λ _ _ _=>rfl),
  cD.top X G (λ _ _ _ _ _ _=>us3 λ _ _ _=>rfl),
  cE.top X G (λ _ _ _ _ _ _=>us3 λ _ _ _=>rfl),
  aD.g X G,
  aD.cl X G,
  aD.mk' X G,
  aD.kp X G,
  cF.at' X G,
  (by rw [q4o (z3q X G bk)];exact qnp cG cH cI cJ ⟨_,rfl⟩ (λ s v X=>z3a X rfl aJ rfl rfl rfl) (λ s v z X=>(by first | exact .of_eq rfl | exact z3a X rfl aJ rfl rfl rfl)) (λ s v z X=>(by first | exact .of_eq rfl | exact z3a X rfl aJ rfl rfl rfl))),
  cK.top X G (λ _ _ _ _ _ _=>us2 λ _ _=>rfl),
  cL.top X G (λ _ _ _ _ _ _=>us2 λ _ _=>rfl),
  cM.top X G (λ _ _ _ _ _ _=>us1 λ _=>rfl),
  cN.top X G (λ _ _ _ _ _ _=>us1 λ _=>rfl),
  cO.top X G (λ _ _ _ _ _ _=>us3 λ _ _ _=>rfl),
  cP.top X G (λ _ _ _ _ _ _=>us3 λ _ _ _=>rfl),
  cQ.top X G (λ _ _ _ _ _ _=>us3 λ _ _ _=>rfl),
  aE.g X G,
  aE.cl X G,
  aE.mk' X G,
  aE.kp X G,
  cR.at' X G,
  (by rw [q4o (z3q X G bl)];exact qnp cS cT cU cV ⟨_,rfl⟩ (λ s v X=>z3a X rfl aK rfl rfl rfl) (λ s v z X=>(by first | exact .of_eq rfl | exact z3a X rfl aK rfl rfl rfl)) (λ s v z X=>(by first | exact .of_eq rfl | exact z3a X rfl aK rfl rfl rfl))),
  cW.top X G (λ _ _ _ _ _ _=>us2 λ _ _=>rfl),
  cX.top X G (λ _ _ _ _ _ _=>us1 λ _=>rfl),
  cY.top X G (λ _ _ _ _ _ _=>us1 λ _=>rfl),
  cZ.top X G (λ _ _ _ _ _ _=>us3 λ _ _ _=>rfl),
  c0.top X G (λ _ _ _ _ _ _=>us3 λ _ _ _=>rfl),
  c1.top X G (λ _ _ _ _ _ _=>us3 λ _ _ _=>rfl),
  aF.g X G,
  aF.cl X G,
  aF.mk' X G,
  aF.kp X G,
  c2.at' X G,
  c3.top X G (λ _ _ _ _ _ _=>us2 λ _ _=>rfl),
  c4.top X G (λ _ _ _ _ _ _=>us1 λ _=>rfl),
  c5.top X G (λ _ _ _ _ _ _=>us1 λ _=>rfl),
  c6.top X G (λ _ _ _ _ _ _=>us3 λ _ _ _=>rfl),
  c7.top X G (λ _ _ _ _ _ _=>us3 λ _ _ _=>rfl),
  c8.top X G (λ _ _ _ _ _ _=>us3 λ _ _ _=>rfl),
  aG.g X G,
  aG.cl X G,
  aG.mk' X G,
  aG.kp X G,
  c9.at' X G,
  ca.top X G (λ _ _ _ _ _ _=>us2 λ _ _=>rfl),
  cb.top X G (λ _ _ _ _ _ _=>us1 λ _=>rfl),
  cc.top X G (λ _ _ _ _ _ _=>us1 λ _=>rfl),
  cd.top X G (λ _ _ _ _ _ _=>us3 λ _ _ _=>rfl),
  ce.top X G (λ _ _ _ _ _ _=>us3 λ _ _ _=>rfl),
  cf.top X G (λ _ _ _ _ _ _=>us3 λ _ _ _=>rfl),
  aR.g X G,
  aR.at' X G,
  aS.g X G,
  aS.at' X G,
  aT.g X G,
  aT.at' X G,
  aU.g X G,
  aU.at' X G,
  aV.g X G,
  aV.at' X G,
  aW.g X G,
  aW.at' X G,
  aX.g X G,
  aX.at' X G,
  aY.g X G,
  aY.at' X G,
  cg.at' X G,
  ch.at' X G,
  ci.at' X G,
  cj.at' X G,
  ck.at' X G,
  cm.at' X G,
  cn.at' X G,
  co.at' X G⟩
end Wy
open PySem PySem.W PyProof.Rows
namespace PySem.W.Fast
end PySem.W.Fast
namespace PySem.W.Fast
def tw14417836175155050020:=0
def tw959488901156105257:=0
def tw14872664555449716116:=0
def tw4455556069660686403:=0
def tw14791823012135808097:=0
def tw11204098676424160010:=0
def tw2914577786247412386:=0
def tw10553195866239483149:=0
def tw1891412317887285311:=0
def tw6364594979184899161:=0
def tw9083459331522845311:=0
def tw1068267942787079249:=0
def tw4027168513484968465:=0
def tw14221962439472279764:=0
def tw8608472832435936300:=0
def tw16924694716396917866:=0
def tw15142386374764309175:=0
def tw3597452097853570737:=0
def tw4379336499203291530:=0
def tw13272924918355370622:=0
def tw681770503758184216:=0
def tw10038956958537444127:=0
def tw15829426331043597849:=0
def tw11717943845192643051:=0
def tw7686287781118278526:=0
def tw7078388684837824079:=0
def tw15703478398257644576:=0
def tw17020764007970125464:=0
def tw5779271850566337503:=0
def tw18050676448019576276:=0
def tw12774470729828315332:=0
def tw2700450246201276804:=0
def tw9830397003552979974:=0
def tw7437956011252329495:=0
def tw7857509353731694941:=0
def tw7615674046221242922:=0
def tw3533354858422285962:=0
def tw10575510281976007678:=0
def tw12188875359367166626:=0
def tw5974260098042093941:=0
def tw13293528824730987843:=0
def tw3944569328654713918:=0
def tw16244016289162625829:=0
def tw13579428119403871008:=0
def tw9661182352068521976:=0
def tw13175519532873439138:=0
def tw7643778226552391710:=0
def tw14497592974101995507:=0
def tw10373866708413547785:=0
def tw965787927774624584:=0
def tw1075654074420425291:=0
def tw5791354351270693081:=0
def tw7485448782352233434:=0
def tw8969539699224675938:=0
def tw623363233611191770:=0
def tw18294597274832114500:=0
def tw2079061156517606861:=0
def tw12192657021122297494:=0
def tw9090443730667691896:=0
def tw7493132365940826861:=0
def tw4221027990334244556:=0
def tw467721566361876592:=0
def tw168268265927058061:=0
def tw14506973411990704834:=0
def tw7009311510528736247:=0
def tw5090170952566184876:=0
def tw15575229428450045138:=0
def tw9384834451832987006:=0
def tw11639622119019293554:=0
def tw7372729290902022721:=0
def tw1095500806827001114:=0
def tw14073355256419407942:=0
def tw18284666524472991777:=0
def tw6464711759687196703:=0
def tw5508409650321406648:=0
def tw11255779886881232079:=0
def tw8633559149730436585:=0
def tw10487787448808905699:=0
def tw7145647946940355461:=0
def tw7163554097053741244:=0
def tw13226710107603461665:=0
def tw13032396115427822229:=0
def tw7391730242155824610:=0
def tw11594579229522589252:=0
def tw6457501520618060814:=0
def tw12589547564774492056:=0
def tw3057976734566889434:=0
def tw8645345676642772876:=0
def tw8544016164930002479:=0
def tw9924587279188819911:=0
def tw3475190757019391085:=0
def tw13243869522272029704:=0
def tw15397456844012034483:=0
def tw10342758377688611859:=0
def tw5709780599291051764:=0
def tw16866830757433893508:=0
def tw8847358648457201188:=0
def tw13729081777506434982:=0
def tw9459298912330929597:=0
def tw7257559134506401436:=0
def tw17025582551592069038:=0
def tw2638647758743154387:=0
def tw4724524060699506539:=0
def tw17744129120853682205:=0
def tw13397582152184620739:=0
def tw2718102350780402888:=0
def tw12727195493719725101:=0
def tw6294308530854972504:=0
def tw3484175044800948388:=0
def tw7948992737546760435:=0
def tw12420795378814517411:=0
def tw3952437174750819:=0
def tw3801910823510416685:=0
def tw1847132026140297285:=0
def tw10231226290819202802:=0
def tw17757990610840681081:=0
def tw5675464288828413838:=0
def tw6973929511264311972:=0
def tw1787554430009226826:=0
def tw15915176156582454949:=0
def tw9391477922194916906:=0
def tw5848891945818480839:=0
def tw17384738112504437897:=0
def tw10656735696800266202:=0
def tw8477095428163184605:=0
def tw11856296746176037749:=0
def tw15838092719838723554:=0
def tw4940597096373366557:=0
def tw12198447157276350441:=0
def tw12026835837012285802:=0
def tw224477914588026405:=0
def tw14899813723955649250:=0
def tw18088329723447766074:=0
def tw11024743256207428141:=0
def tw15491084430773201753:=0
def tw2127320803475564132:=0
def tw10187742655764157163:=0
def tw1600959764803867751:=0
def tw9688807963057111715:=0
def tw755932288536545860:=0
def tw9847911846902668988:=0
def tw13324853254296808825:=0
def tw9420676776718306047:=0
def tw14784020455112277516:=0
def tw4322909737576495259:=0
def tw8800484513501785600:=0
def tw358585193803827791:=0
def tw1587381774755230616:=0
def tw8017931914201326765:=0
def tw684579810856749497:=0
def tw9432142469089931525:=0
def tw17649878197076557665:=0
def tw17504960143959615158:=0
def tw16215685541080452136:=0
def tw12664742959597966768:=0
def tw5833398789642964846:=0
def tw2609961193167055639:=0
def tw6234831969132356463:=0
def tw12991451268611420436:=0
def tw15255007226474766371:=0
def tw5674753450211652570:=0
def tw7509102197324182493:=0
def tw6727173792450767300:=0
def tw10614750277745766871:=0
def tw17448093105412883086:=0
def tw4806335956033296225:=0
def tw2045099249373974529:=0
def tw7214063029113811224:=0
def tw1618107744052974687:=0
def tw4146354962142248865:=0
def tw16235534864245406966:=0
def tw18290272170987952573:=0
def tw7747789618802112619:=0
def tw16059746946737373514:=0
def tw13595867309535467945:=0
def tw9285255920273705699:=0
def tw17821796599131201590:=0
def tw1128579496168503789:=0
def tw6767258484687097930:=0
def tw7889502937450223259:=0
def tw8440068470959600078:=0
def tw2941719831242268235:=0
def tw3318534793961019709:=0
def tw4194260272494549027:=0
def tw7331553925721371030:=0
def tw8986608618488799507:=0
def tw15672014665170455974:=0
def tw13657938958543790346:=0
def tw2779807398145485392:=0
def tw2004157637290438397:=0
def tw2042921218326530711:=0
def tw172798890082189588:=0
def tw16281420800093553918:=0
def tw16671790881143839762:=0
def tw3659845807839696390:=0
def tw7638012062372500528:=0
def tw2944006343362575332:=0
def tw16775538820616100795:=0
end PySem.W.Fast
set_option maxRecDepth 100000 in
set_option maxHeartbeats 0 in
theorem PySem.Challenge.cw_whyrows_k33_no_worth_holds : PySem.Challenge.rw_whyrows_k33_no_worth.Holds := by
 w_on;o_law;k_head;(case hw=>w_witness2)
 k_fill
 refine L2.qt7 (l:=PySem.Challenge.rw_whyrows_k33_no_worth) (n:=63) (k:=9) (x:="_law_script") (CX:=L2.CX0) (sp:=Wy.sp_law) rfl (by decide) rfl ⟨zr,by decide,by decide⟩ (λ w h Y=>PySem.W.kIn_of Y) ?F ?S ?C
 case F=>
  intro w mg fa h KX G hmg;have T:Wy.Txt (L2.KOf KX) mg:=by
   dsimp only [L2.KOf]
   refine' Wy.qlz KX G ?_ ?_ ?_ ?_ ?_ ?_ ?_ ?_ ?_ ?_ ?_ ?_ ?_ ?_ ?_ ?_ ?_ ?_ ?_ ?_ ?_ ?_ ?_ ?_ ?_ ?_ ?_ ?_ ?_ ?_ ?_ ?_ ?_ ?_ ?_ ?_ ?_ ?_ ?_ ?_ ?_ ?_ ?_ ?_ ?_ ?_ ?_ ?_ ?_ ?_ ?_ ?_ ?_ ?_ ?_ ?_ ?_ ?_ ?_ ?_ ?_ ?_ ?_ ?_ ?_ ?_ ?_ ?_ ?_ ?_ ?_ ?_ ?_ ?_ ?_ ?_ ?_ ?_ ?_ ?_ ?_ ?_ ?_ ?_ ?_ ?_ ?_ ?_ ?_ ?_ ?_ ?_ ?_ ?_ ?_ ?_ ?_ ?_ ?_ ?_ ?_ ?_ ?_ ?_ ?_ ?_ ?_ ?_ ?_ ?_ ?_ ?_ ?_ ?_ ?_ ?_ ?_ ?_ ?_ ?_ ?_ ?_ ?_ ?_ ?_ ?_ ?_ ?_ ?_ ?_ ?_ ?_ ?_ ?_
   all_goals first | (refine' L2.fiK ?_ ?_ ?_ ?_;all_goals first | k_is | skip) | (refine' L2.miK ?_ ?_ ?_ ?_ ?_ ?_;all_goals first | k_is | skip) | (refine' L2.ciK ?_ ?_ ?_ ?_ ?_ ?_ ?_;all_goals first | k_is | skip) | (refine' L2.aiK ?_ ?_;all_goals first | k_is | skip) | (refine' L2.xiK ?_ ?_ ?_ ?_ ?_ ?_ ?_ ?_ ?_ ?_;all_goals first | k_is | k_exc | skip) | (refine' L2.piK ?_ ?_ ?_;all_goals first | k_is | skip) | k_is | skip
  exact Wy.q104 T hmg
 case S=>exact λ K H a ns hl hO hS=>⟨a,ns,rfl,hS,hl,λ _=>rfl⟩
 case C=>exact λ _ _ _ _ z=>z
