import PyProof.Rows.All
import Wide.All
import OpenK.AllK
import PySem.Challenge.RW_whyrows_k30_reckoned
set_option Elab.async false
set_option linter.all false
set_option maxRecDepth 100000
set_option maxHeartbeats 4000000
set_option genSizeOf false
abbrev xD:=List PySem.Str
abbrev xE:=PySem.Str->Option PySem.Value
abbrev xF:=List (List PySem.Str)
abbrev xG:=List (PySem.Addr×PySem.Obj)
abbrev xH:=List PySem.Value
abbrev xA:=PySem.W.Frag
abbrev xB:=PySem.Value->PySem.Shared->Prop
def zr{α:Sort u}{a:α}:a=a:=rfl
def z00:=@PySem.F.slot_dict_keyiterator_next
def z01:=@PySem.wpAny_typeNameOfWhole_keyiter
def z02:=@Int.mul_le_mul_of_nonneg_left
def z03:=@PyProof.Rows.callWith_type1
def z04:=@Array.perm_iff_toList_perm
def z05:=@List.getElem?_append_right
def z06:=@List.getD_eq_getElem?_getD
def z07:=@List.getElem?_eq_some_iff
def z08:=@List.pairwise_iff_getElem
def z09:=@List.drop_eq_getElem_cons
def z0a:=@List.extract_eq_take_drop
def z0b:=@Array.getElem?_eq_getElem
def z0c:=@List.mem_of_find?_eq_some
def z0d:=@List.getElem?_eq_getElem
def z0e:=@PySem.F.slot_list_extend
def z0f:=@PySem.F.type_list_extend
def z0g:=@PySem.F.slot_list_append
def z0h:=@PySem.F.type_list_append
def z0i:=@List.pairwise_singleton
def z0j:=@PySem.F.plain_list_iadd
def z0k:=@List.length_eq_zero_iff
def z0l:=@PySem.F.plainAttrs_list
def z0m:=@Int.eq_ofNat_of_zero_le
def z0n:=@List.take_of_length_le
def z0o:=@PySem.Heap.get?_push_of_some
def z0p:=@PySem.Heap.get?_update_other
def z0q:=@Option.map_eq_some_iff
def z0r:=@Array.getElem?_eq_none
def z0s:=@List.find?_cons_of_pos
def z0t:=@List.find?_cons_of_neg
def z0u:=@List.perm_append_comm
def z0v:=@List.take_append_drop
def z0w:=@List.mem_append_right
def z0x:=@Array.getElem?_toList
def z0y:=@List.length_singleton
def z0z:=@PySem.Heap.get?_update_self
def z10:=@List.length_filter_le
def z11:=@List.pairwise_append
def z12:=@List.mem_iff_getElem
def z13:=@Array.toList_extract
def z14:=@List.mem_of_mem_drop
def z15:=@List.mem_of_mem_take
def z16:=@List.mem_cons_of_mem
def z17:=@List.mem_append_left
def z18:=@List.mem_of_getElem?
def z19:=@Array.length_toList
def z1a:=@Array.toList_append
def z1b:=@PySem.Heap.SameBut.update
def z1c:=@PySem.Heap.get?_push_size
def z1d:=@PySem.mem_of_lookup
def z1e:=@List.replicate_succ
def z1f:=@List.map_congr_left
def z1g:=@List.toList_toArray
def z1h:=@PySem.wpAny_setEntries_of
def z1i:=@List.getElem_of_mem
def z1j:=@List.flatMap_append
def z1k:=@Bool.false_eq_true
def z1l:=@Bool.false_ne_true
def z1m:=@List.mem_singleton
def z1n:=@Array.size_extract
def z1o:=@List.length_append
def z1p:=@List.mem_cons_self
def z1q:=@List.pairwise_cons
def z1r:=@Nat.lt_of_lt_of_le
def z1s:=@PySem.wpAny_Call_Name_kw
def z1t:=@List.zip_cons_cons
def z1u:=@List.filter_append
def z1v:=@Int.lt_of_le_of_lt
def z1w:=@Int.emod_lt_of_pos
def z1x:=@PySem.W.mg_none_of
def z1y:=@List.append_assoc
def z1z:=@List.getElem_take
def z20:=@Array.toList_push
def z21:=@List.ext_getElem?
def z22:=@List.getElem?_map
def z23:=@List.size_toArray
def z24:=@PySem.wpAny_truthy_bool
def z25:=@PySem.wpAny_pyIter_list
def z26:=@Int.toNat_natCast
def z27:=@List.flatten_cons
def z28:=@PySem.wpAny_newObj_type
def z29:=@List.length_range
def z2a:=@PySem.wpAny_dictEntries
def z2b:=@List.mapM_toArray
def z2c:=@PySem.wpAny_setState_of
def z2d:=@List.nodup_append
def z2e:=@Nat.lt_succ_of_lt
def z2f:=@List.foldl_append
def z2g:=@List.length_take
def z2h:=@List.length_drop
def z2i:=@List.length_cons
def z2j:=@List.filter_cons
def z2k:=@List.getElem_mem
def z2l:=@Nat.lt_succ_self
def z2m:=@Bool.and_eq_true
def z2n:=@List.all_eq_true
def z2o:=@PySem.wpAny_call_entry
def z2p:=@List.any_eq_true
def z2q:=@Nat.succ_le_succ
def z2r:=@List.not_mem_nil
def z2s:=@PySem.wpAny_askSetting
def z2t:=@List.take_length
def z2u:=@List.mem_append
def z2v:=@List.cons.injEq
def z2w:=@decide_eq_false
def z2x:=@List.mem_filter
def z2y:=@PySem.wpAny_passesOwn
def z2z:=@Bool.eq_iff_iff
def z30:=@List.length_map
def z31:=@List.append_nil
def z32:=@List.nodup_cons
def z33:=@List.find?_cons
def z34:=@List.length_nil
def z35:=@List.map_append
def z36:=@PySem.W.kia_one
def z37:=@PySem.wpAny_dictEpoch
def z38:=@PySem.codeAny_builtin
def z39:=@Int.emod_nonneg
def z3a:=@PySem.W.binds_K
def z3b:=@decide_eq_true
def z3c:=@List.mem_range
def z3d:=@Bool.false_and
def z3e:=@PySem.Heap.size_push
def z3f:=@List.nodup_nil
def z3g:=@List.take_succ
def z3h:=@PySem.wpAny_setField
def z3i:=@Nat.mul_le_mul
def z3j:=@Int.mul_nonneg
def z3k:=@List.map_cons
def z3l:=@PySem.wpAny_attempt
def z3m:=@List.mem_cons
def z3n:=@PySem.wpAny_holding
def z3o:=@Nat.lt_irrefl
def z3p:=@List.any_cons
def z3q:=@PySem.W.mg_of
def z3r:=@List.sum_cons
def z3s:=@Bool.true_and
def z3t:=@decide_false
def z3u:=@Int.le_of_lt
def z3v:=@Int.le_trans
def z3w:=@Nat.zero_add
def z3x:=@Nat.le_of_lt
def z3y:=@PySem.Heap.lt_size
def z3z:=@Nat.ne_of_lt
def z40:=@Nat.le_trans
def z41:=@Nat.ne_of_gt
def z42:=@PySem.codeAny_mono
def z43:=@List.map_nil
def z44:=@List.mem_map
def z45:=@List.all_map
def z46:=@List.map_map
def z47:=@Nat.le_refl
def z48:=@decide_true
def z49:=@Int.le_refl
def z4a:=@Nat.zero_le
def z4b:=@List.map_id
def z4c:=@PySem.wpAny_rule
def z4d:=@PySem.wpAny_pure
def z4e:=@PySem.wpAny_bind
def z4f:=@PySem.wpAny_mono
namespace Tim
open PySem PyProof.Rows
def kx(rk:Keyed->Int)(xs:Array Keyed)(i:Nat):Int:=match xs[i]? with
 | some p=>rk p
 | none=>0
def Up(rk:Keyed->Int)(xs:Array Keyed)(lo hi:Nat):Prop:=∀i j,lo<=i->i<=j->j < hi->kx rk xs i<=kx rk xs j
def Dn(rk:Keyed->Int)(xs:Array Keyed)(lo hi:Nat):Prop:=∀i j,lo<=i->i<=j->j < hi->kx rk xs j<=kx rk xs i
def q3m{rk:Keyed->Int}{xs:Array Keyed}{i:Nat}{p:Keyed}(h:xs[i]? =some p):kx rk xs i=rk p:=by unfold kx;rw[h]
def q54{rk:Keyed->Int}{xs ys:Array Keyed}{i j:Nat}(h:xs[i]? =ys[j]?):kx rk xs i=kx rk ys j:=by unfold kx;rw[h]
def LtOk(M:Model)(A:Around)(E:xB)(s:Shared)(kd:SortKind)(S:Keyed->Prop)(rk:Keyed->Int):Prop:=
 ∀(x y:Keyed) (st:SortSt) (Q:Option Bool->SortSt->Prop),S x->S y->kindOf st=kd->Q (some (decide (rk x < rk y))) st->wpS M A E s (lt' x y) Q st
structure Mv (lo hi:Nat) (st st':SortSt):Prop where
 perm:(arrOf st').Perm (arrOf st)
 out:∀k,k < lo\/ hi<=k->(arrOf st')[k]? =(arrOf st)[k]?
 kind:kindOf st'=kindOf st
 pend:pendingOf st'=pendingOf st
 failed:failedOf st'=failedOf st
theorem Mv.refl(lo hi:Nat)(st:SortSt):Mv lo hi st st:=⟨Array.Perm.refl _,λ_ _=>rfl,rfl,rfl,rfl⟩
theorem Mv.trans{lo hi:Nat}{a b c:SortSt}(h:Mv lo hi a b)(k:Mv lo hi b c):Mv lo hi a c:=
 ⟨k.perm.trans h.perm,λi hi=>(k.out i hi).trans (h.out i hi),k.kind.trans h.kind,k.pend.trans h.pend,k.failed.trans h.failed⟩
theorem Mv.size{lo hi:Nat}{a b:SortSt}(h:Mv lo hi a b):(arrOf b).size=(arrOf a).size:=h.perm.size_eq
structure Sane (kd:SortKind) (S:Keyed->Prop) (n:Nat) (st:SortSt):Prop where
 size:(arrOf st).size=n
 all:∀p∈(arrOf st).toList,S p
 kind:kindOf st=kd
 failed:failedOf st=none
def Mv.sane{lo hi:Nat}{a b:SortSt}{kd:SortKind}{S:Keyed->Prop}{n:Nat}(h:Mv lo hi a b)(k:Sane kd S n a):Sane kd S n b:=
 ⟨h.size.trans k.size,λp hp=>k.all p ((z04.mp h.perm).mem_iff.mp hp),h.kind.trans k.kind,h.failed.trans k.failed⟩
def Sane.at{kd:SortKind}{S:Keyed->Prop}{n:Nat}{st:SortSt}(rk:Keyed->Int)(k:Sane kd S n st){i:Nat}(hi:i < n):∃p,(arrOf st)[i]? =some p/\S p/\kx rk (arrOf st) i=rk p:=by
 have D:i < (arrOf st).size:=by rw[k.size];exact hi
 have e:(arrOf st)[i]? =some (arrOf st)[i]:=getElem?_pos _ i D;exact⟨_,e,k.all _ (by simp),q3m e⟩
def Mv.mirrored{lo hi i j:Nat}{st:SortSt}(h1:lo<=i)(h2:j<=hi)(hj:j<=(arrOf st).size):Mv lo hi st (setArr st (mirror (arrOf st) i j ((j - i) / 2))):=
 ⟨mirror_perm _ _ _ _,λk hk=>(getElem?_mirror_all (i:=i) hj k).trans (if_neg (by lia)),rfl,rfl,rfl⟩
def Mv.sunk{lo hi D d:Nat}{st:SortSt}(h1:lo+d<=D)(h2:D < hi)(hs:D < (arrOf st).size):Mv lo hi st (setArr st (bubble (arrOf st) D d)):=
 ⟨bubble_perm _ _ _,λk hk=>(getElem?_bubble hs d (by lia) k).trans (by rw[if_neg (by lia),if_neg (by lia)]),rfl,rfl,rfl⟩
def qar(rk:Keyed->Int){xs:Array Keyed}{i j:Nat}(hj:j<=xs.size)(k:Nat):
  kx rk (mirror xs i j ((j - i) / 2)) k=if i<=k/\k < j then kx rk xs (i+j - 1 - k) else kx rk xs k:=by
 have e:=getElem?_mirror_all (i:=i) hj k;by_cases c:i<=k/\k < j
 ·rw[if_pos c]at e ⊢;exact q54 e
 ·rw[if_neg c]at e ⊢;exact q54 e
def q37(rk:Keyed->Int){xs:Array Keyed}{i j:Nat}(hj:j<=xs.size)(D:∀k,i<=k->k < j->kx rk xs k=kx rk xs (j - 1))(k:Nat):
  kx rk (mirror xs i j ((j - i) / 2)) k=kx rk xs k:=by
 rw[qar rk hj];by_cases c:i<=k/\k < j
 ·rw[if_pos c,D _ (by lia) (by lia),D k c.1 c.2]
 ·rw[if_neg c]
def qhu(rk:Keyed->Int){xs:Array Keyed}{D d:Nat}(hs:D < xs.size)(hd:d<=D)(k:Nat):
  kx rk (bubble xs D d) k=if k=D - d then kx rk xs D else if D - d < k/\k<=D then kx rk xs (k - 1) else kx rk xs k:=by
 have e:=getElem?_bubble hs d hd k;by_cases c:k=D - d
 ·rw[if_pos c]at e ⊢;exact q54 e
 ·rw[if_neg c]at e ⊢;by_cases c2:D - d < k/\k<=D
  ·rw[if_pos c2]at e ⊢;exact q54 e
  ·rw[if_neg c2]at e ⊢;exact q54 e
section
variable{M:Model}{A:Around}{E:xB}{s:Shared}{kd:SortKind}{S:Keyed->Prop}{rk:Keyed->Int}{n:Nat}
def qas(L:LtOk M A E s kd S rk){st:SortSt}(B:Sane kd S n st){i j:Nat}(hi:i < n)(hj:j < n){Q:Option Bool->SortSt->Prop}
  (h:Q (some (decide (kx rk (arrOf st) i < kx rk (arrOf st) j))) st):wpS M A E s (ltAt' i j) Q st:=by
 obtain⟨p,e1,s1,k1⟩:=B.at rk hi;obtain⟨q,e2,s2,k2⟩:=B.at rk hj;rw[k1,k2]at h;rw[ltAt'_eq];refine wpS_bind (wpS_get ?_);show wpS M A E s (elem' (arrOf st) i >>=λx=>elem' (arrOf st) j >>=λy=>lt' x y) Q st;rw[elem'_eq,elem'_eq,e1,e2];exact wpS_bind (wpS_pure (wpS_bind (wpS_pure (L p q st Q s1 s2 B.kind h))))
def q8g{st:SortSt}{i j:Nat}{Q:Unit->SortSt->Prop}(h:Q () (setArr st (mirror (arrOf st) i j ((j - i) / 2)))):wpS M A E s (reverseSlice' i j) Q st:=by
 rw[reverseSlice'_eq];exact wpS_modify h
def qat(lo a nrem:Nat):StateT SortSt Sem AscSt:=
 forIn [a:nrem] ((none,a):AscSt) λ_ c=>do
  let x <- ltAt' (lo+c.snd) (lo+c.snd - 1)
  match x with
  | some b=>if b=true then pure (ForInStep.done (none,c.snd)) else pure (ForInStep.yield (none,c.snd+1))
  | _=>pure (ForInStep.done (some none,c.snd))
def qau(lo m nrem:Nat):StateT SortSt Sem (Option Nat):=do
 reverseSlice' lo (lo+m)
 let c <- qat lo m nrem
 match c.fst with
 | some r=>pure r
 | none=>pure (some c.snd)
def qeh(lo m nrem:Nat):StateT SortSt Sem DescSt:=
 forIn [m:nrem] ((none,m,0):DescSt) λ_ c=>do
  let x <- ltAt' (lo+c.snd.fst) (lo+c.snd.fst - 1)
  match x with
  | some b=>
   if b=true then
    if c.snd.snd > 0 then do
     reverseSlice' (lo+c.snd.fst - (c.snd.snd+1)) (lo+c.snd.fst)
     pure (ForInStep.yield (none,c.snd.fst+1,0))
    else pure (ForInStep.yield (none,c.snd.fst+1,0))
   else do
    let y <- ltAt' (lo+c.snd.fst - 1) (lo+c.snd.fst)
    match y with
    | some g=>if g=true then pure (ForInStep.done (none,c.snd.fst,c.snd.snd)) else pure (ForInStep.yield (none,c.snd.fst+1,c.snd.snd+1))
    | _=>pure (ForInStep.done (some none,c.snd.fst,c.snd.snd))
  | _=>pure (ForInStep.done (some none,c.snd.fst,c.snd.snd))
def qav(lo m nrem:Nat):StateT SortSt Sem (Option Nat):=do
 liftM (rule "list.sort.descending-run")
 let c <- qeh lo (m+1) nrem
 match c.fst with
 | some r=>pure r
 | none=>
  if c.snd.snd > 0 then do
   reverseSlice' (lo+c.snd.fst - (c.snd.snd+1)) (lo+c.snd.fst)
   qau lo c.snd.fst nrem
  else qau lo c.snd.fst nrem
def qn1(lo D:Nat):countRun' lo D=(do
  let c <- qat lo 1 D
  match c.fst with
  | some r=>pure r
  | none=>
   if (c.snd==D)=true then pure (some c.snd)
   else if c.snd > 1 then do
    let x <- ltAt' lo (lo+c.snd - 1)
    match x with
    | some J=>if J=true then pure (some c.snd) else do
      reverseSlice' lo (lo+c.snd)
      qav lo c.snd D
    | _=>pure none
   else qav lo c.snd D):=by
 rw[countRun'_eq]
 dsimp only
 unfold qav qau qeh qat
 congr 1
 funext c
 obtain⟨r,m⟩:=c;cases r with
 | some r=>rfl
 | none=>
  dsimp only
  split
  ·rfl
  ·split
   ·congr 1
    funext x
    cases x with
    | none=>rfl
    | some J=>
     dsimp only
     split
     ·rfl
     ·congr 1
      funext _u
      congr 1
      funext _v
      congr 1
      congr 1
      funext c2
      obtain⟨r2,n2,q2⟩:=c2;cases r2 with
      | some r2=>rfl
      | none=>
       dsimp only
       split
       ·congr 1
        funext _w
        congr 1
        funext _z
        congr 1
        funext c3
        obtain⟨r3,O⟩:=c3;cases r3 <;> rfl
       ·congr 1
        funext _z
        congr 1
        funext c3
        obtain⟨r3,O⟩:=c3;cases r3 <;> rfl
   ·congr 1
    funext _v
    congr 1
    congr 1
    funext c2
    obtain⟨r2,n2,q2⟩:=c2;cases r2 with
    | some r2=>rfl
    | none=>
     dsimp only
     split
     ·congr 1
      funext _w
      congr 1
      funext _z
      congr 1
      funext c3
      obtain⟨r3,O⟩:=c3;cases r3 <;> rfl
     ·congr 1
      funext _z
      congr 1
      funext c3
      obtain⟨r3,O⟩:=c3;cases r3 <;> rfl
def qka(L:LtOk M A E s kd S rk){st:SortSt}{lo a D:Nat}{Q:AscSt->SortSt->Prop}(B:Sane kd S n st)(hn:lo+D<=n)(ha:1<=a)(a0:a<=D)(hs:Up rk (arrOf st) lo (lo+a))
  (h:∀m,a<=m->m<=D->Up rk (arrOf st) lo (lo+m)->(m=D\/ kx rk (arrOf st) (lo+m) < kx rk (arrOf st) (lo+m - 1))->Q (none,m) st):wpS M A E s (qat lo a D) Q st:=by
 unfold qat;refine wpS_forRange (I:=λx c Z=>Z=st/\c=(none,x)/\Up rk (arrOf st) lo (lo+x)) ?turn ?last ⟨zr,zr,hs⟩
 case last=>
  rintro c Z ⟨rfl,rfl,O⟩;have e:max a D=D:=by lia
  rw[e]at O ⊢;exact h D a0 (z47 _) O (.inl rfl)
 case turn=>
  rintro x c Z a1 hxn ⟨rfl,rfl,O⟩
  dsimp only
  refine wpS_bind (qas L B (by lia) (by lia) ?_);by_cases J:kx rk (arrOf Z) (lo+x) < kx rk (arrOf Z) (lo+x - 1)
  ·simp only[J,z48,if_true];exact wpS_pure (h x a1 (by lia) O (.inr J))
  ·simp only[J,z3t,z1k,if_false];refine wpS_pure ⟨zr,zr,λi j h1 h2 h3=>?_⟩;by_cases hj:j < lo+x
   ·exact O i j h1 h2 hj
   ·have a2:j=lo+x:=by lia
    subst a2;by_cases hi:i=lo+x
    ·subst hi
     lia
    ·have:=O i (lo+x - 1) h1 (by lia) (by lia)
     lia
def qkb(L:LtOk M A E s kd S rk){st:SortSt}{lo m D:Nat}{Q:Option Nat->SortSt->Prop}(B:Sane kd S n st)(hn:lo+D<=n)(h1:1<=m)(hm:m<=D)(hs:Dn rk (arrOf st) lo (lo+m))
  (h:∀k J,Mv lo (lo+D) st J->1<=k->k<=D->Up rk (arrOf J) lo (lo+k)->Q (some k) J):wpS M A E s (qau lo m D) Q st:=by
 unfold qau;have hz:lo+m<=(arrOf st).size:=by rw[B.size];lia
 have v:Mv lo (lo+D) st (setArr st (mirror (arrOf st) lo (lo+m) ((lo+m - lo) / 2))):=Mv.mirrored (z47 _) (by lia) hz;refine wpS_bind (q8g (wpS_bind (qka L (v.sane B) hn h1 hm ?_ λk k1 k2 k3 _=>wpS_pure (h k _ v (by lia) k2 k3))));intro i j a b c;show kx rk (mirror (arrOf st) lo (lo+m) ((lo+m - lo) / 2)) i<=kx rk (mirror (arrOf st) lo (lo+m) ((lo+m - lo) / 2)) j;rw[qar rk hz,qar rk hz,if_pos (by lia),if_pos (by lia)];exact hs _ _ (by lia) (by lia) (by lia)
def qtm(L:LtOk M A E s kd S rk){st:SortSt}{lo m J:Nat}{Q:DescSt->SortSt->Prop}(B:Sane kd S n st)(hn:lo+J<=n)(h1:1<=m)(hm:m<=J)(hs:Dn rk (arrOf st) lo (lo+m))
  (h:∀k q D,Mv lo (lo+J) st D->m<=k->k<=J->Dn rk (arrOf D) lo (lo+k)->q+1<=k->(∀i,lo+k - (q+1)<=i->i < lo+k->kx rk (arrOf D) i=kx rk (arrOf D) (lo+k - 1))->Q (none,k,q) D):
  wpS M A E s (qeh lo m J) Q st:=by
 unfold qeh;refine wpS_forRange (I:=λx c D=>∃q,c=(none,x,q)/\Mv lo (lo+J) st D/\Dn rk (arrOf D) lo (lo+x)/\q+1<=x/\
  (∀i,lo+x - (q+1)<=i->i < lo+x->kx rk (arrOf D) i=kx rk (arrOf D) (lo+x - 1))) ?turn ?last ⟨0,rfl,Mv.refl _ _ _,hs,by lia,λi a b=>by rw[show i=lo+m - 1 by lia]⟩
 case last=>
  rintro c D ⟨q,rfl,v,O,hq,he⟩;have e:max m J=J:=by lia
  rw[e]at O hq he ⊢;exact h J q D v hm (z47 _) O hq he
 case turn=>
  rintro x c D a4 hxn ⟨q,rfl,v,O,hq,he⟩
  dsimp only
  have B':=v.sane B;have hz:lo+x<=(arrOf D).size:=by rw[B'.size];lia
  refine wpS_bind (qas L B' (by lia) (by lia) ?_);by_cases Z:kx rk (arrOf D) (lo+x) < kx rk (arrOf D) (lo+x - 1)
  ·simp only[Z,z48,if_true];have more:∀xs:Array Keyed,(∀k,kx rk xs k=kx rk (arrOf D) k)->Dn rk xs lo (lo+(x+1)):=by
    intro xs hk i j a b c;rw[hk,hk];by_cases hj:j < lo+x
    ·exact O i j a b hj
    ·have a1:j=lo+x:=by lia
     subst a1;by_cases hi:i=lo+x
     ·subst hi
      lia
     ·have:=O i (lo+x - 1) a (by lia) (by lia)
      lia
   by_cases a2:q > 0
   ·rw[if_pos a2];exact wpS_bind (q8g (wpS_pure ⟨0,zr,v.trans (Mv.mirrored (by lia) (by lia) hz),more _ (q37 rk hz he),by lia,λi a b=>by rw[show i=lo+(x+1) - 1 by lia]⟩))
   ·rw[if_neg a2];exact wpS_pure ⟨0,zr,v,more _ (λ_=>rfl),by lia,λi a b=>by rw[show i=lo+(x+1) - 1 by lia]⟩
  ·simp only[Z,z3t,z1k,if_false];refine wpS_bind (qas L B' (by lia) (by lia) ?_);by_cases a0:kx rk (arrOf D) (lo+x - 1) < kx rk (arrOf D) (lo+x)
   ·simp only[a0,z48,if_true];exact wpS_pure (h x q D v a4 (by lia) O hq he)
   ·simp only[a0,z3t,z1k,if_false];have ex:kx rk (arrOf D) (lo+x)=kx rk (arrOf D) (lo+x - 1):=by lia
    refine wpS_pure ⟨q+1,zr,v,λi j a b c=>?_,by lia,λi a b=>?_⟩
    ·by_cases hj:j < lo+x
     ·exact O i j a b hj
     ·have a1:j=lo+x:=by lia
      subst a1;by_cases hi:i=lo+x
      ·subst hi
       lia
      ·have:=O i (lo+x - 1) a (by lia) (by lia)
       lia
    ·rw[show lo+(x+1) - 1=lo+x by lia];by_cases hi:i=lo+x
     ·rw[hi]
     ·rw[ex];exact he i (by lia) (by lia)
def qkc(L:LtOk M A E s kd S rk){st:SortSt}{lo m J:Nat}{Q:Option Nat->SortSt->Prop}(B:Sane kd S n st)(hn:lo+J<=n)(hm:m+1<=J)(hs:Dn rk (arrOf st) lo (lo+(m+1)))
  (h:∀k D,Mv lo (lo+J) st D->1<=k->k<=J->Up rk (arrOf D) lo (lo+k)->Q (some k) D):wpS M A E s (qav lo m J) Q st:=by
 unfold qav;refine wpS_bind (wpS_lift (z4c ⟨zr,?_⟩));refine wpS_bind (qtm L B hn (by lia) hm hs λk q D v k1 k2 a0 hq he=>?_)
 dsimp only
 have B':=v.sane B;have hz:lo+k<=(arrOf D).size:=by rw[B'.size];lia
 by_cases Z:q > 0
 ·rw[if_pos Z];have v2:Mv lo (lo+J) D (setArr D (mirror (arrOf D) (lo+k - (q+1)) (lo+k) ((lo+k - (lo+k - (q+1))) / 2))):=Mv.mirrored (by lia) (by lia) hz;refine wpS_bind (q8g (qkb L (v2.sane B') hn (by lia) k2 ?_ λj O v3=>h j O ((v.trans v2).trans v3)));intro i j a b c;show kx rk (mirror (arrOf D) (lo+k - (q+1)) (lo+k) ((lo+k - (lo+k - (q+1))) / 2)) j<=kx rk (mirror (arrOf D) (lo+k - (q+1)) (lo+k) ((lo+k - (lo+k - (q+1))) / 2)) i;rw[q37 rk hz he,q37 rk hz he];exact a0 i j a b c
 ·rw[if_neg Z];exact qkb L B' hn (by lia) k2 a0 λj O v3=>h j O (v.trans v3)
def qoy(L:LtOk M A E s kd S rk){st:SortSt}{lo D:Nat}{Q:Option Nat->SortSt->Prop}(B:Sane kd S n st)(hn:lo+D<=n)(h1:1<=D)
  (h:∀k Z,Mv lo (lo+D) st Z->1<=k->k<=D->Up rk (arrOf Z) lo (lo+k)->Q (some k) Z):wpS M A E s (countRun' lo D) Q st:=by
 rw[qn1];refine wpS_bind (qka L B hn (z47 1) h1 (λi j a b c=>by rw[show i=j by lia];exact z49 _) λm m1 m2 hs a6=>?_)
 dsimp only
 by_cases hm:m=D
 ·rw[if_pos (by simpa using hm)];exact wpS_pure (h m st (Mv.refl _ _ _) m1 m2 hs)
 ·rw[if_neg (by simpa using hm)];have a4:=a6.resolve_left hm;by_cases hg:m > 1
  ·rw[if_pos hg];refine wpS_bind (qas L B (by lia) (by lia) ?_);by_cases J:kx rk (arrOf st) lo < kx rk (arrOf st) (lo+m - 1)
   ·simp only[J,z48,if_true];exact wpS_pure (h m st (Mv.refl _ _ _) m1 m2 hs)
   ·simp only[J,z3t,z1k,if_false];have hz:lo+m<=(arrOf st).size:=by rw[B.size];lia
    have O:∀k,lo<=k->k < lo+m->kx rk (arrOf st) k=kx rk (arrOf st) (lo+m - 1):=by
     intro k a b;have a1:=hs lo k (z47 _) a b;have a2:=hs k (lo+m - 1) a (by lia) (by lia)
     lia
    have v:Mv lo (lo+D) st (setArr st (mirror (arrOf st) lo (lo+m) ((lo+m - lo) / 2))):=Mv.mirrored (z47 _) (by lia) hz;refine wpS_bind (q8g (qkc L (v.sane B) hn (by lia) ?_ λj a7 v3=>h j a7 (v.trans v3)));intro i j a b c;show kx rk (mirror (arrOf st) lo (lo+m) ((lo+m - lo) / 2)) j<=kx rk (mirror (arrOf st) lo (lo+m) ((lo+m - lo) / 2)) i;rw[q37 rk hz O,q37 rk hz O];by_cases hj:j < lo+m
    ·rw[O i a (by lia),O j (by lia) hj];exact z49 _
    ·have a0:j=lo+m:=by lia
     subst a0;by_cases hi:i=lo+m
     ·subst hi
      lia
     ·rw[O i a (by lia)]
      lia
  ·rw[if_neg hg];have a5:m=1:=by lia
   subst a5;refine qkc L B hn (by lia) ?_ h;intro i j a b c;by_cases hi:i=j
   ·rw[hi];exact z49 _
   ·have e1:i=lo:=by lia
    have e2:j=lo+1:=by lia
    subst e1 e2;have:i+1 - 1=i:=by lia
    rw[this]at a4
    lia
def qkd(L:LtOk M A E s kd S rk){st:SortSt}{lo m ok:Nat}{Q:Bool->SortSt->Prop}(B:Sane kd S n st)(hn:lo+m<=n)(hok:ok<=m)(hs:Up rk (arrOf st) lo (lo+ok))
    (h:∀D,Mv lo (lo+m) st D->Up rk (arrOf D) lo (lo+m)->Q true D):wpS M A E s (binarySort' lo m ok) Q st:=by
  rw[binarySort'_eq];refine wpS_bind (wpS_mono (wpS_forRange (I:=λk c D=>c=(none,())/\Mv lo (lo+m) st D/\Up rk (arrOf D) lo (lo+min k m))
    (Q:=λc D=>c=(none,())/\Mv lo (lo+m) st D/\Up rk (arrOf D) lo (lo+m)) ?turn ?last ?first) ?after)
  case after=>
    rintro c D ⟨rfl,v,O⟩;exact wpS_pure (h D v O)
  case first=>
    refine⟨zr,Mv.refl _ _ _,λi j a b c=>?_⟩;by_cases h0:ok=0
    · rw[show i=j by lia]
      exact z49 _
    · exact hs i j a b (by lia)
  case last=>
    rintro c D ⟨hc,v,O⟩;refine⟨hc,v,?_⟩
    rwa [show min (max (max ok 1) m) m=m by lia]at O
  case turn=>
    rintro k c D hak hkm ⟨rfl,v,O⟩;have e0:min k m=k:=by lia
    rw[e0]at O;have B':=v.sane B;refine wpS_bind (wpS_mono (wpS_forRange (I:=λx c J=>J=D/\∃l r,c=(none,l,r)/\l<=r/\r<=k/\r - l<=k - x/\
        (∀i,i < l->kx rk (arrOf D) (lo+i)<=kx rk (arrOf D) (lo+k))/\(∀i,r<=i->i < k->kx rk (arrOf D) (lo+k) < kx rk (arrOf D) (lo+i)))
      (Q:=λc J=>J=D/\∃l r,c=(none,l,r)/\l<=k/\
        (∀i,i < l->kx rk (arrOf D) (lo+i)<=kx rk (arrOf D) (lo+k))/\(∀i,l<=i->i < k->kx rk (arrOf D) (lo+k) < kx rk (arrOf D) (lo+i))) ?iturn ?ilast ?ifirst) ?iafter)
    case ifirst=>exact⟨rfl,0,k,rfl,by lia,by lia,by lia,λi hi=>by lia,λi a b=>by lia⟩
    case ilast=>
      rintro c J ⟨rfl,l,r,rfl,a6,a2,hd,a0,Z⟩;have e:l=r:=by lia
      subst e;exact⟨zr,l,l,zr,a2,a0,Z⟩
    case iturn=>
      rintro x c J _ hxk ⟨rfl,l,r,rfl,a6,a2,hd,a0,Z⟩
      dsimp only
      by_cases a4:l >=r
      · rw[if_pos a4]
        have e:l=r:=by lia
        subst e;exact wpS_pure ⟨zr,l,l,zr,a2,a0,Z⟩
      · rw[if_neg a4]
        refine wpS_bind (qas L B' (by lia) (by lia) ?_);by_cases a1:kx rk (arrOf J) (lo+k) < kx rk (arrOf J) (lo+(l+r) / 2)
        · simp only[a1,z48,if_true]
          refine wpS_pure ⟨zr,l,(l+r) / 2,zr,by lia,by lia,by lia,a0,λi a b=>?_⟩;have:=O (lo+(l+r) / 2) (lo+i) (by lia) (by lia) (by lia)
          lia
        · simp only[a1,z3t,z1k,if_false]
          refine wpS_pure ⟨zr,(l+r) / 2+1,r,zr,by lia,by lia,by lia,λi a=>?_,Z⟩;have:=O (lo+i) (lo+(l+r) / 2) (by lia) (by lia) (by lia)
          lia
    case iafter=>
      rintro c J ⟨rfl,l,r,rfl,hlk,a0,Z⟩;show wpS M A E s (moveDown' (lo+k) (lo+l) >>=λ_=>pure (ForInStep.yield (none,()))) _ J;rw[moveDown'_eq];have hz:lo+k < (arrOf J).size:=by rw[B'.size];lia
      refine wpS_bind (wpS_modify (wpS_pure ⟨zr,v.trans (Mv.sunk (by lia) (by lia) hz),?_⟩));rw[show min (k+1) m=k+1 by lia];intro i j a b c;show kx rk (bubble (arrOf J) (lo+k) (lo+k - (lo+l))) i<=kx rk (bubble (arrOf J) (lo+k) (lo+k - (lo+l))) j;rw[qhu rk hz (by lia),qhu rk hz (by lia),show lo+k - (lo+k - (lo+l))=lo+l by lia];have a7:∀q,lo<=q->q < lo+l->kx rk (arrOf J) q<=kx rk (arrOf J) (lo+k):=λq a b=>by
        have:=a0 (q - lo) (by lia)
        rwa [show lo+(q - lo)=q by lia]at this
      have a5:∀q,lo+l<=q->q < lo+k->kx rk (arrOf J) (lo+k) < kx rk (arrOf J) q:=λq a b=>by
        have:=Z (q - lo) (by lia) (by lia)
        rwa [show lo+(q - lo)=q by lia]at this
      repeat' split
      all_goals first
        | (exfalso;lia)
        | exact z49 _
        | exact a7 _ (by lia) (by lia)
        | exact z3u (a5 _ (by lia) (by lia))
        | exact O _ _ (by lia) (by lia) (by lia)
end
end Tim
namespace Tim
section
variable{α:Type}{rk:α->Int}{as bs out:List α}{ia ib:Nat}
def Asc(rk:α->Int)(l:List α):Prop:=l.Pairwise λp q=>rk p<=rk q
structure Jn (rk:α->Int) (as bs out:List α) (ia ib:Nat):Prop where
 perm:out.Perm (as.take ia++bs.take ib)
 asc:Asc rk out
 la:∀p∈out,∀q∈as.drop ia,rk p<=rk q
 lb:∀p∈out,∀q∈bs.drop ib,rk p<=rk q
def Jn.swap(h:Jn rk as bs out ia ib):Jn rk bs as out ib ia:=⟨h.perm.trans z0u,h.asc,h.lb,h.la⟩
def Jn.start:Jn rk as bs [] 0 0:=⟨by simp,List.Pairwise.nil,(λ_ z=>nomatch z),(λ_ z=>nomatch z)⟩
def qd5(h:Asc rk as)(i:Nat):Asc rk (as.drop i):=List.Pairwise.sublist (List.drop_sublist i as) h
def q77(as:List α)(i k:Nat):as.drop i=(as.drop i).take k++as.drop (i+k):=by
 rw[<- List.drop_drop,z0v]
def Jn.moreA(h:Jn rk as bs out ia ib)(ha:Asc rk as)(k:Nat)(hx:∀p∈(as.drop ia).take k,∀q∈bs.drop ib,rk p<=rk q):Jn rk as bs (out++(as.drop ia).take k) (ia+k) ib:=by
 have hd:=qd5 ha ia;rw[q77 as ia k]at hd;obtain⟨d1,d2,d3⟩:=z11.mp hd;have J:∀q,q∈(as.drop ia).take k->q∈as.drop ia:=λq hq=>(List.take_sublist _ _).mem hq;have O:∀q,q∈as.drop (ia+k)->q∈as.drop ia:=λq hq=>by
  rw[q77 as ia k];exact z0w _ hq
 refine⟨?_,?_,λp D q hq=>?_,λp D q hq=>?_⟩
 ·rw[List.take_add,z1y];refine(h.perm.append_right _).trans ?_;rw[z1y];exact List.Perm.append_left _ z0u
 ·exact z11.mpr ⟨h.asc,d1,λp D q hq=>h.la p D q (J q hq)⟩
 ·rcases z2u.mp D with D | D
  ·exact h.la p D q (O q hq)
  ·exact d3 p D q hq
 ·rcases z2u.mp D with D | D
  ·exact h.lb p D q hq
  ·exact hx p D q hq
def Jn.done(h:Jn rk as bs out ia ib)(ha:Asc rk as)(hb:Asc rk bs)(hx:∀p∈as.drop ia,∀q∈bs.drop ib,rk p<=rk q):
  (out++as.drop ia++bs.drop ib).Perm (as++bs)/\Asc rk (out++as.drop ia++bs.drop ib):=by
 constructor
 ·refine((h.perm.append_right _).append_right _).trans ?_;have e1:as=as.take ia++as.drop ia:=(z0v ..).symm;have e2:bs=bs.take ib++bs.drop ib:=(z0v ..).symm;refine List.Perm.trans ?_ (List.Perm.of_eq (show (as.take ia++as.drop ia)++(bs.take ib++bs.drop ib)=as++bs by rw[<- e1,<- e2]));simp only[z1y];refine List.Perm.append_left _ ?_;rw[<- z1y,<- z1y];exact List.Perm.append_right _ z0u
 ·refine z11.mpr ⟨z11.mpr ⟨h.asc,qd5 ha _,h.la⟩,qd5 hb _,λp D q hq=>?_⟩;rcases z2u.mp D with D | D
  ·exact h.lb p D q hq
  ·exact hx p D q hq
def Jn.done2(h:Jn rk as bs out ia ib)(ha:Asc rk as)(hb:Asc rk bs)(hx:∀p∈bs.drop ib,∀q∈as.drop ia,rk p<=rk q):
  (out++bs.drop ib++as.drop ia).Perm (as++bs)/\Asc rk (out++bs.drop ib++as.drop ia):=
 let ⟨a,b⟩:=h.swap.done hb ha hx
 ⟨a.trans z0u,b⟩
def qg5(h:Asc rk as):Asc (λp=>- rk p) as.reverse:=by
 unfold Asc;rw[List.pairwise_reverse];exact List.Pairwise.imp (λ{p q} (z:rk p<=rk q)=>show - rk q<= - rk p by lia) h
def asc_rev'(h:Asc (λp=>- rk p) as):Asc rk as.reverse:=by
 unfold Asc;rw[List.pairwise_reverse];exact List.Pairwise.imp (λ{p q} (z: - rk p<= - rk q)=>show rk q<=rk p by lia) h
def qke(as:List α)(k:Nat)(h:k<=as.length):as.reverse.drop (as.length - k)=(as.take k).reverse:=by
 rw[List.drop_reverse]
 congr 1
 congr 1
 lia
def qwl(as:List α)(i k:Nat)(hi:i<=k)(h:k<=as.length):(as.reverse.drop (as.length - k)).take (k - i)=((as.drop i).take (k - i)).reverse:=by
 rw[qke as k h,List.take_reverse,z2g,Nat.min_eq_left h]
 congr 1
 rw[List.drop_take]
 congr 1
 ·lia
 ·congr 1
  lia
def qnp(ha:Asc rk as){i:Nat}{x:α}(hx:as[i]? =some x):∀q∈as.drop i,rk x<=rk q:=by
 intro q hq;obtain⟨j,hj,e⟩:=z12.mp hq;rw[List.getElem_drop]at e;obtain⟨hi,ex⟩:=z07.mp hx;subst e ex;rcases Nat.eq_zero_or_pos j with h | h
 ·subst h;exact z49 _
 ·exact z08.mp ha i (i+j) hi (by rw[z2h]at hj;lia) (by lia)
def qnq(ha:Asc rk as){i:Nat}{x:α}(hx:as[i]? =some x):∀q∈as.take (i+1),rk q<=rk x:=by
 intro q hq;obtain⟨j,hj,e⟩:=z12.mp hq;rw[z1z]at e;obtain⟨hi,ex⟩:=z07.mp hx;subst e ex;have hj':j<=i:=by rw[z2g]at hj;lia
 rcases Nat.lt_or_ge j i with h | h
 ·exact z08.mp ha j i (by lia) hi h
 ·have:j=i:=by lia
  subst this;exact z49 _
def qd6{i:Nat}{x:α}(hx:as[i]? =some x):(as.drop i).take 1=[x]:=by
 obtain⟨hi,ex⟩:=z07.mp hx;rw[z09 hi,ex];rfl
end
end Tim
namespace Tim
open PySem PyProof.Rows
def q35:Bool->Keyed->Array Keyed->Nat->Nat->Nat->StateT SortSt Sem (Option Nat):=sortPriv%PySem.Builtin.gallop
def beyd(left:Bool)(key:Keyed)(arr:Array Keyed)(i:Nat):StateT SortSt Sem (Option Bool):=do
 let p <- elem' arr i
 if left then lt' p key else return (<- lt' key p).map (!·)
def qoz(left:Bool)(key:Keyed)(arr:Array Keyed)(base n hint:Nat):q35 left key arr base n hint=(do
 let mut bk:=0
 let mut fw:=1
 let mut lo:=0
 let mut up:=0
 let some rt <- beyd left key arr (base+hint) | return none
 if rt then
  let most:=n - hint
  for _ in [0:n] do
   if fw >=most then break
   let some mr <- beyd left key arr (base+(hint+fw)) | return none
   if !mr then break
   bk:=fw
   fw:=2*fw+1
  lo:=hint+bk+1
  up:=hint+min fw most
 else
  let most:=hint+1
  for _ in [0:n] do
   if fw >=most then break
   let some fd <- beyd left key arr (base+(hint - fw)) | return none
   if fd then break
   bk:=fw
   fw:=2*fw+1
  lo:=hint+1 - min fw most
  up:=hint - bk
 for _ in [0:n] do
  if lo >=up then break
  let D:=lo+(up - lo) / 2
  let some mr <- beyd left key arr (base+D) | return none
  if mr then lo:=D+1 else up:=D
 return some up):=rfl
def ahd(left:Bool)(k v:Int):Bool:=if left then decide (v < k) else decide (v<=k)
def qd7{left:Bool}{k v u:Int}(h:v<=u)(e:ahd left k u=true):ahd left k v=true:=by
 unfold ahd at*;cases left
 ·simp at*
  lia
 ·simp at*
  lia
def gBin(left:Bool)(key:Keyed)(arr:Array Keyed)(base n lo0 up0:Nat):StateT SortSt Sem (Option Nat):=do
 let mut lo:=lo0
 let mut up:=up0
 for _ in [0:n] do
  if lo >=up then break
  let md:=lo+(up - lo) / 2
  let some mr <- beyd left key arr (base+md) | return none
  if mr then lo:=md+1 else up:=md
 return some up
section
variable{M:Model}{A:Around}{E:xB}{s:Shared}{kd:SortKind}{S:Keyed->Prop}{rk:Keyed->Int}
def q2e{st:SortSt}{arr:Array Keyed}{i:Nat}{p:Keyed}{Q:Keyed->SortSt->Prop}(e:arr[i]? =some p)(h:Q p st):wpS M A E s (elem' arr i) Q st:=by
 rw[elem'_eq,e];exact wpS_pure h
def qei(L:LtOk M A E s kd S rk){st:SortSt}{left:Bool}{key:Keyed}{arr:Array Keyed}{i:Nat}{Q:Option Bool->SortSt->Prop}(hk:kindOf st=kd)(D:S key)(hp:∃p,arr[i]? =some p/\S p)
  (h:Q (some (ahd left (rk key) (kx rk arr i))) st):wpS M A E s (beyd left key arr i) Q st:=by
 obtain⟨p,e,sp⟩:=hp;rw[q3m e]at h;unfold beyd;refine wpS_bind (q2e e ?_);cases left with
 | true=>exact L p key st Q sp D hk h
 | false=>
  refine wpS_bind (L key p st _ D sp hk (wpS_pure ?_));have e2:(!decide (rk key < rk p))=ahd false (rk key) (rk p):=by
   unfold ahd;simp
   rw[<- decide_not];simp
  show Q (some (!decide (rk key < rk p))) st;rw[e2];exact h
def qql(L:LtOk M A E s kd S rk){st:SortSt}{left:Bool}{key:Keyed}{arr:Array Keyed}{base n lo up:Nat}{Q:Option Nat->SortSt->Prop}(hk:kindOf st=kd)(hS:S key)
  (hp:∀i,i < n->∃p,arr[base+i]? =some p/\S p) (hu:Up rk arr base (base+n)) (O:lo<=up) (Z:up<=n) (h1:∀i,i < lo->ahd left (rk key) (kx rk arr (base+i))=true)
  (h2:∀i,up<=i->i < n->ahd left (rk key) (kx rk arr (base+i))=false)
  (h:∀k,k<=n->(∀i,i < k->ahd left (rk key) (kx rk arr (base+i))=true)->(∀i,k<=i->i < n->ahd left (rk key) (kx rk arr (base+i))=false)->Q (some k) st):
  wpS M A E s (gBin left key arr base n lo up) Q st:=by
 unfold gBin
 dsimp only
 refine wpS_bind (wpS_mono (wpS_forRange (I:=λx c D=>D=st/\∃lo up,c=(none,lo,up)/\lo<=up/\up<=n/\up - lo<=n - x/\
   (∀i,i < lo->ahd left (rk key) (kx rk arr (base+i))=true)/\(∀i,up<=i->i < n->ahd left (rk key) (kx rk arr (base+i))=false))
  (Q:=λc D=>D=st/\∃lo up,c=(none,lo,up)/\up<=n/\
   (∀i,i < up->ahd left (rk key) (kx rk arr (base+i))=true)/\(∀i,up<=i->i < n->ahd left (rk key) (kx rk arr (base+i))=false)) ?turn ?last ⟨rfl,lo,up,rfl,O,Z,by lia,h1,h2⟩) ?after)
 case after=>
  rintro c D ⟨rfl,lo,up,rfl,a,b,d⟩;exact wpS_pure (h up a b d)
 case last=>
  rintro c D ⟨rfl,lo,up,rfl,a,b,d,e1,e2⟩;have e:lo=up:=by lia
  subst e;exact⟨zr,lo,lo,zr,b,e1,e2⟩
 case turn=>
  rintro x c D _ hx ⟨rfl,lo,up,rfl,a,b,d,e1,e2⟩
  dsimp only
  by_cases J:lo >=up
  ·rw[if_pos J];have e:lo=up:=by lia
   subst e;exact wpS_pure ⟨zr,lo,lo,zr,b,e1,e2⟩
  ·rw[if_neg J];refine wpS_bind (qei L hk hS (hp _ (by lia)) ?_);cases em:ahd left (rk key) (kx rk arr (base+(lo+(up - lo) / 2))) with
   | true=>
    dsimp only
    rw[if_pos rfl];refine wpS_pure ⟨zr,_,_,zr,by lia,b,by lia,λi hi=>?_,e2⟩;exact qd7 (hu _ _ (by lia) (by lia) (by lia)) em
   | false=>
    dsimp only
    rw[if_neg z1l];refine wpS_pure ⟨zr,_,_,zr,by lia,by lia,by lia,e1,λi hi hn=>?_⟩;cases ei:ahd left (rk key) (kx rk arr (base+i)) with
    | false=>rfl
    | true=>
     have:=qd7 (hu (base+(lo+(up - lo) / 2)) (base+i) (by lia) (by lia) (by lia)) ei;rw[em]at this;cases this
def q5t(L:LtOk M A E s kd S rk){st:SortSt}{left:Bool}{key:Keyed}{arr:Array Keyed}{base n hint:Nat}{Q:Option Nat->SortSt->Prop}(hk:kindOf st=kd)(Z:S key)
  (hp:∀i,i < n->∃p,arr[base+i]? =some p/\S p) (hu:Up rk arr base (base+n)) (hh:hint < n)
  (h:∀k,k<=n->(∀i,i < k->ahd left (rk key) (kx rk arr (base+i))=true)->(∀i,k<=i->i < n->ahd left (rk key) (kx rk arr (base+i))=false)->Q (some k) st):
  wpS M A E s (q35 left key arr base n hint) Q st:=by
 have dn:∀i j,i<=j->j < n->ahd left (rk key) (kx rk arr (base+j))=true->ahd left (rk key) (kx rk arr (base+i))=true:=λi j a b e=>qd7 (hu _ _ (by lia) (by lia) (by lia)) e;have nu:∀i j,i<=j->j < n->ahd left (rk key) (kx rk arr (base+i))=false->ahd left (rk key) (kx rk arr (base+j))=false:=λi j a b e=>by
  cases ej:ahd left (rk key) (kx rk arr (base+j)) with
  | false=>rfl
  | true=>
   rw[dn i j a b ej]at e;cases e
 rw[qoz]
 dsimp only
 refine wpS_bind (qei L hk Z (hp hint hh) ?_);cases e0:ahd left (rk key) (kx rk arr (base+hint)) with
 | true=>
  dsimp only
  rw[if_pos rfl];refine wpS_bind (wpS_mono (wpS_forRange (I:=λx c D=>D=st/\∃bk fw,c=(none,bk,fw)/\bk < fw/\x+1<=fw/\hint+bk < n/\ahd left (rk key) (kx rk arr (base+(hint+bk)))=true)
   (Q:=λc D=>D=st/\∃bk fw,c=(none,bk,fw)/\bk < fw/\hint+bk < n/\ahd left (rk key) (kx rk arr (base+(hint+bk)))=true/\(n - hint<=fw\/ hint+fw < n/\ahd left (rk key) (kx rk arr (base+(hint+fw)))=false)) ?turn ?last ⟨rfl,0,1,rfl,by lia,by lia,by lia,e0⟩) ?after)
  case last=>
   rintro c D ⟨rfl,bk,fw,rfl,a,b,d,e⟩;exact⟨zr,bk,fw,zr,a,d,e,.inl (by lia)⟩
  case turn=>
   rintro x c D _ hx ⟨rfl,bk,fw,rfl,a,b,d,e⟩
   dsimp only
   by_cases J:fw >=n - hint
   ·rw[if_pos J];exact wpS_pure ⟨zr,bk,fw,zr,a,d,e,.inl J⟩
   ·rw[if_neg J];refine wpS_bind (qei L hk Z (hp _ (by lia)) ?_);cases O:ahd left (rk key) (kx rk arr (base+(hint+fw))) with
    | true=>
     dsimp only
     rw[if_neg (by simp)];exact wpS_pure ⟨zr,fw,_,zr,by lia,by lia,by lia,O⟩
    | false=>
     dsimp only
     rw[if_pos (by simp)];exact wpS_pure ⟨zr,bk,fw,zr,a,d,e,.inr ⟨by lia,O⟩⟩
  case after=>
   rintro c D ⟨rfl,bk,fw,rfl,a,d,e,f⟩
   dsimp only
   refine qql L hk Z hp hu (lo:=hint+bk+1) (up:=hint+min fw (n - hint)) (by lia) (by lia) (λi hi=>dn i (hint+bk) (by lia) d e) (λi hi hn=>?_) h;rcases f with f | ⟨f1,f2⟩
   ·lia
   ·exact nu (hint+fw) i (by lia) hn f2
 | false=>
  dsimp only
  rw[if_neg z1l];refine wpS_bind (wpS_mono (wpS_forRange (I:=λx c D=>D=st/\∃bk fw,c=(none,bk,fw)/\bk < fw/\x+1<=fw/\bk<=hint/\ahd left (rk key) (kx rk arr (base+(hint - bk)))=false)
   (Q:=λc D=>D=st/\∃bk fw,c=(none,bk,fw)/\bk < fw/\bk<=hint/\ahd left (rk key) (kx rk arr (base+(hint - bk)))=false/\(hint+1<=fw\/ fw<=hint/\ahd left (rk key) (kx rk arr (base+(hint - fw)))=true)) ?turn ?last ⟨rfl,0,1,rfl,by lia,by lia,by lia,e0⟩) ?after)
  case last=>
   rintro c D ⟨rfl,bk,fw,rfl,a,b,d,e⟩;exact⟨zr,bk,fw,zr,a,d,e,.inl (by lia)⟩
  case turn=>
   rintro x c D _ hx ⟨rfl,bk,fw,rfl,a,b,d,e⟩
   dsimp only
   by_cases J:fw >=hint+1
   ·rw[if_pos J];exact wpS_pure ⟨zr,bk,fw,zr,a,d,e,.inl J⟩
   ·rw[if_neg J];refine wpS_bind (qei L hk Z (hp _ (by lia)) ?_);cases O:ahd left (rk key) (kx rk arr (base+(hint - fw))) with
    | true=>
     dsimp only
     rw[if_pos rfl];exact wpS_pure ⟨zr,bk,fw,zr,a,d,e,.inr ⟨by lia,O⟩⟩
    | false=>
     dsimp only
     rw[if_neg z1l];exact wpS_pure ⟨zr,fw,_,zr,by lia,by lia,by lia,O⟩
  case after=>
   rintro c D ⟨rfl,bk,fw,rfl,a,d,e,f⟩
   dsimp only
   refine qql L hk Z hp hu (lo:=hint+1 - min fw (hint+1)) (up:=hint - bk) (by lia) (by lia) (λi hi=>?_) (λi hi hn=>nu (hint - bk) i hi hn e) h;rcases f with f | ⟨f1,f2⟩
   ·lia
   ·exact dn i (hint - fw) (by lia) (by lia) f2
end
def qd8:Array Keyed->Array Keyed->StateT SortSt Sem (Array Keyed):=sortPriv%PySem.Builtin.mergeLo
abbrev q7l(st:SortSt)(g:Nat):SortSt:=SortSt.mk' (kindOf st) (arrOf st) (pendingOf st) g (failedOf st)
def q3n(a b out:Array Keyed)(ia ib:Nat):Array Keyed:=out++a.extract ia a.size++b.extract ib b.size
def q8h(a b out:Array Keyed)(ia ib:Nat):Array Keyed:=out++b.extract ib b.size++a.extract ia a.size
def qn2(a b:Array Keyed):qd8 a b=(do
 rule "list.sort.merge-lo"
 let all:=a.size+b.size
 let mut o:Array Keyed:=#[<- elem' b 0]
 let mut x:=0
 let mut y:=1
 if y==b.size then return q3n a b o x y
 if x+1==a.size then return q8h a b o x y
 let mut g:=gallopOf (<- get)
 for _ in [0:all] do
  let mut ca:=0
  let mut cb:=0
  for _ in [0:all] do
   let some won <- lt' (<- elem' b y) (<- elem' a x) | return q3n a b o x y
   if won then
    o:=o.push (<- elem' b y);y:=y+1;cb:=cb+1;ca:=0
    if y==b.size then return q3n a b o x y
    if cb >=g then break
   else
    o:=o.push (<- elem' a x);x:=x+1;ca:=ca+1;cb:=0
    if x+1==a.size then return q8h a b o x y
    if ca >=g then break
  rule "list.sort.gallop"
  g:=g+1
  for _ in [0:all] do
   if g > 1 then g:=g - 1
   modify λst=>q7l st g
   let some k <- q35 false (<- elem' b y) a x (a.size - x) 0 | return q3n a b o x y
   ca:=k
   if k > 0 then
    o:=o++a.extract x (x+k);x:=x+k
    if x+1==a.size then return q8h a b o x y
    if x==a.size then return q3n a b o x y
   o:=o.push (<- elem' b y);y:=y+1
   if y==b.size then return q3n a b o x y
   let some k <- q35 true (<- elem' a x) b y (b.size - y) 0 | return q3n a b o x y
   cb:=k
   if k > 0 then
    o:=o++b.extract y (y+k);y:=y+k
    if y==b.size then return q3n a b o x y
   o:=o.push (<- elem' a x);x:=x+1
   if x+1==a.size then return q8h a b o x y
   if ca < 7&&cb < 7 then break
  g:=g+1
  modify λst=>q7l st g
 unsupported "internal:list.sort.merge-bound"):=rfl
structure Gl (st st':SortSt):Prop where
 arr:arrOf st'=arrOf st
 kind:kindOf st'=kindOf st
 pend:pendingOf st'=pendingOf st
 failed:failedOf st'=failedOf st
def Gl.refl(st:SortSt):Gl st st:=⟨rfl,rfl,rfl,rfl⟩
def Gl.set{st D:SortSt}(h:Gl st D)(g:Nat):Gl st (q7l D g):=⟨h.arr,h.kind,h.pend,h.failed⟩
section
variable{rk:Keyed->Int}{a b o:Array Keyed}{x y:Nat}
def q36(xs:Array Keyed)(i:Nat){p:Keyed}(h:xs.toList[i]? =some p):kx rk xs i=rk p:=q3m (by rw[<- h,z0x])
def q8x{l:List Keyed}{i k:Nat}{p:Keyed}(h:p∈(l.drop i).take k):∃j,j < k/\l[i+j]? =some p:=by
 obtain⟨j,hj,e⟩:=z12.mp h;rw[z2g]at hj;refine⟨j,by lia,?_⟩;rw[<- e,z1z,List.getElem_drop,z0d]
def qd9{l:List Keyed}{i:Nat}{p:Keyed}(h:p∈l.drop i):∃j,i<=j/\j < l.length/\l[j]? =some p:=by
 obtain⟨j,hj,e⟩:=z12.mp h;rw[z2h]at hj;refine⟨i+j,by lia,by lia,?_⟩;rw[<- e,List.getElem_drop,z0d]
def qej{xs:Array Keyed}(h:Asc rk xs.toList)(lo hi:Nat)(hh:hi<=xs.size):Up rk xs lo hi:=by
 intro i j _ hij hj;have D:i < xs.toList.length:=by rw[z19];lia
 have J:j < xs.toList.length:=by rw[z19];lia
 rw[q36 xs i (z0d D),q36 xs j (z0d J)];rcases Nat.lt_or_ge i j with q | q
 ·exact z08.mp h i j D J q
 ·have:i=j:=by lia
  subst this;exact z49 _
def qtn(xs:Array Keyed)(i k:Nat):(xs.extract i (i+k)).toList=(xs.toList.drop i).take k:=by
 rw[z13,z0a]
 congr 1
 lia
def q9i(xs:Array Keyed)(i:Nat):(xs.extract i xs.size).toList=xs.toList.drop i:=by
 rw[z13,z0a,z0n];rw[z2h,z19]
 lia
def qda{p:Keyed}(h:Jn rk a.toList b.toList o.toList x y)(ha:Asc rk a.toList)(e:a[x]? =some p)(D:∀q∈b.toList.drop y,rk p<=rk q):Jn rk a.toList b.toList (o.push p).toList (x+1) y:=by
 have e':a.toList[x]? =some p:=by rw[z0x];exact e
 have:=h.moreA ha 1 (by rw[qd6 e'];intro z hz;rw[z1m.mp hz];exact D)
 rwa [qd6 e',<- z20]at this
def qdb{p:Keyed}(h:Jn rk a.toList b.toList o.toList x y)(hb:Asc rk b.toList)(e:b[y]? =some p)(D:∀q∈a.toList.drop x,rk p<=rk q):Jn rk a.toList b.toList (o.push p).toList x (y+1):=
 (qda h.swap hb e D).swap
def qnr(h:Jn rk a.toList b.toList o.toList x y)(ha:Asc rk a.toList)(k:Nat)(hx:∀p∈(a.toList.drop x).take k,∀q∈b.toList.drop y,rk p<=rk q):Jn rk a.toList b.toList (o++a.extract x (x+k)).toList (x+k) y:=by
 rw[z1a,qtn];exact h.moreA ha k hx
def qwm(h:Jn rk a.toList b.toList o.toList x y)(hb:Asc rk b.toList)(k:Nat)(hx:∀p∈(b.toList.drop y).take k,∀q∈a.toList.drop x,rk p<=rk q):Jn rk a.toList b.toList (o++b.extract y (y+k)).toList x (y+k):=
 (qnr h.swap hb k hx).swap
def Good(rk:Keyed->Int)(a b r:Array Keyed):Prop:=r.toList.Perm (a.toList++b.toList)/\Asc rk r.toList
def q78(h:Jn rk a.toList b.toList o.toList x y)(ha:Asc rk a.toList)(hb:Asc rk b.toList)(hy:y=b.size):Good rk a b (q3n a b o x y):=by
 have hx:∀p∈a.toList.drop x,∀q∈b.toList.drop y,rk p<=rk q:=λp _ q hq=>by
  rw[List.drop_of_length_le (by rw[z19];lia)]at hq;cases hq
 have:=h.done ha hb hx;unfold Good q3n;rw[z1a,z1a,q9i,q9i];exact this
end
structure Mg (S:Keyed->Prop) (rk:Keyed->Int) (a b:Array Keyed):Prop where
 sa:∀p∈a.toList,S p
 sb:∀p∈b.toList,S p
 aa:Asc rk a.toList
 ab:Asc rk b.toList
 na:0 < a.size
 nb:0 < b.size
 top:∃z,a[a.size - 1]? =some z/\∀p∈b.toList,rk p < rk z
 bot:∃z,b[0]? =some z/\∀p∈a.toList,rk z < rk p
section
variable{S:Keyed->Prop}{rk:Keyed->Int}{a b o:Array Keyed}{x y:Nat}
def Mg.atA(m:Mg S rk a b){i:Nat}(h:i < a.size):∃p,a[i]? =some p/\S p/\p∈a.toList:=
 ⟨a[i],getElem?_pos a i h,m.sa _ (by simp),by simp⟩
def Mg.atB(m:Mg S rk a b){i:Nat}(h:i < b.size):∃p,b[i]? =some p/\S p/\p∈b.toList:=
 ⟨b[i],getElem?_pos b i h,m.sb _ (by simp),by simp⟩
def q79(m:Mg S rk a b)(h:Jn rk a.toList b.toList o.toList x y)(hx:x+1=a.size):Good rk a b (q8h a b o x y):=by
 obtain⟨z,ez,hz⟩:=m.top;have hq:∀p∈b.toList.drop y,∀q∈a.toList.drop x,rk p<=rk q:=λp hp q hq=>by
  obtain⟨j,h1,h2,e⟩:=qd9 hq;rw[z19]at h2;have ej:j=a.size - 1:=by lia
  rw[z0x,ej,ez]at e;cases e
  exact z3u (hz p (z14 hp))
 have:=h.done2 m.aa m.ab hq;unfold Good q8h;rw[z1a,z1a,q9i,q9i];exact this
def qkf(m:Mg S rk a b){i:Nat}{p:Keyed}(e:a[i]? =some p):∀q∈a.toList.drop i,rk p<=rk q:=qnp m.aa (by rw[z0x];exact e)
def qkg(m:Mg S rk a b){i:Nat}{p:Keyed}(e:b[i]? =some p):∀q∈b.toList.drop i,rk p<=rk q:=qnp m.ab (by rw[z0x];exact e)
end
abbrev LoSt:=Option (Array Keyed)×Array Keyed×Nat×Nat×Nat×Nat×Nat
def qek(a b:Array Keyed)(ca cb g:Nat)(o:Array Keyed)(x y:Nat):StateT SortSt Sem (ForInStep LoSt):=do
 let p <- elem' a x
 if (x+1+1==a.size)=true then pure (ForInStep.done (some (q8h a b (o.push p) (x+1) y),o.push p,x+1,y,g,ca,cb))
 else if (decide (ca < 7)&&decide (cb < 7))=true then pure (ForInStep.done (none,o.push p,x+1,y,g,ca,cb))
 else pure (ForInStep.yield (none,o.push p,x+1,y,g,ca,cb))
def qk1(a b:Array Keyed)(ca cb g:Nat)(o:Array Keyed)(x y:Nat):StateT SortSt Sem (ForInStep LoSt):=do
 let p <- elem' b y
 if (y+1==b.size)=true then pure (ForInStep.done (some (q3n a b (o.push p) x (y+1)),o.push p,x,y+1,g,ca,cb))
 else do
  let some k <- q35 true (<- elem' a x) b (y+1) (b.size - (y+1)) 0 | pure (ForInStep.done (some (q3n a b (o.push p) x (y+1)),o.push p,x,y+1,g,ca,cb))
  if k > 0 then
   if (y+1+k==b.size)=true then pure (ForInStep.done (some (q3n a b (o.push p++b.extract (y+1) (y+1+k)) x (y+1+k)),o.push p++b.extract (y+1) (y+1+k),x,y+1+k,g,ca,k))
   else qek a b ca k g (o.push p++b.extract (y+1) (y+1+k)) x (y+1+k)
  else qek a b ca k g (o.push p) x (y+1)
def qp0(a b:Array Keyed)(ca cb g:Nat)(o:Array Keyed)(x y:Nat):StateT SortSt Sem (ForInStep LoSt):=do
 modify λst=>q7l st g
 let some k <- q35 false (<- elem' b y) a x (a.size - x) 0 | pure (ForInStep.done (some (q3n a b o x y),o,x,y,g,ca,cb))
 if k > 0 then
  if (x+k+1==a.size)=true then pure (ForInStep.done (some (q8h a b (o++a.extract x (x+k)) (x+k) y),o++a.extract x (x+k),x+k,y,g,k,cb))
  else if (x+k==a.size)=true then pure (ForInStep.done (some (q3n a b (o++a.extract x (x+k)) (x+k) y),o++a.extract x (x+k),x+k,y,g,k,cb))
  else qk1 a b k cb g (o++a.extract x (x+k)) (x+k) y
 else qk1 a b k cb g o x y
section
variable{M:Model}{A:Around}{E:xB}{s:Shared}{kd:SortKind}{S:Keyed->Prop}{rk:Keyed->Int}{a b:Array Keyed}{st:SortSt}
structure Go (rk:Keyed->Int) (a b o:Array Keyed) (x y:Nat):Prop where
 jn:Jn rk a.toList b.toList o.toList x y
 hx:x+1 < a.size
 hy:y < b.size
def LoQ(rk:Keyed->Int)(a b:Array Keyed)(st:SortSt)(n:Nat)(r:ForInStep LoSt)(st':SortSt):Prop:=Gl st st'/\match r with
 | .done c=>(∃r,c.1=some r/\Good rk a b r)\/ (c.1=none/\Go rk a b c.2.1 c.2.2.1 c.2.2.2.1/\n<=c.2.2.1+c.2.2.2.1)
 | .yield c=>c.1=none/\Go rk a b c.2.1 c.2.2.1 c.2.2.2.1/\n<=c.2.2.1+c.2.2.2.1
def qkh(m:Mg S rk a b){D:SortSt}{n ca cb g x y:Nat}{o:Array Keyed}(hg:Gl st D)(J:Jn rk a.toList b.toList o.toList x y)(hx:x+1 < a.size)(hy:y < b.size)
  (a0:∀p,a[x]? =some p->∀q∈b.toList.drop y,rk p<=rk q) (hn:n<=x+y):wpS M A E s (qek a b ca cb g o x y) (LoQ rk a b st (n+1)) D:=by
 obtain⟨p,e,_,_⟩:=m.atA (i:=x) (by lia);have O:=qda J m.aa e (a0 p e);unfold qek;refine wpS_bind (q2e e ?_);by_cases Z:x+1+1=a.size
 ·rw[if_pos (by simpa using Z)];exact wpS_pure ⟨hg,.inl ⟨_,zr,q79 m O Z⟩⟩
 ·rw[if_neg (by simpa using Z)];by_cases c2:(decide (ca < 7)&&decide (cb < 7))=true
  ·rw[if_pos c2];exact wpS_pure ⟨hg,.inr ⟨rfl,⟨O,by show x+1+1 < a.size;lia,hy⟩,by show n+1<=x+1+y;lia⟩⟩
  ·rw[if_neg c2];exact wpS_pure ⟨hg,rfl,⟨O,by show x+1+1 < a.size;lia,hy⟩,by show n+1<=x+1+y;lia⟩
def qns(L:LtOk M A E s kd S rk)(hk:kindOf st=kd)(m:Mg S rk a b){O:SortSt}{n ca cb g x y:Nat}{o:Array Keyed}(D:Gl st O)(J:Jn rk a.toList b.toList o.toList x y)(hx:x+1 < a.size)(hy:y < b.size)
  (a0:∀p,b[y]? =some p->∀q∈a.toList.drop x,rk p<=rk q) (hn:n<=x+y):wpS M A E s (qk1 a b ca cb g o x y) (LoQ rk a b st (n+1)) O:=by
 obtain⟨p,e,_,_⟩:=m.atB hy;have Z:=qdb J m.ab e (a0 p e);unfold qk1;refine wpS_bind (q2e e ?_);by_cases c1:y+1=b.size
 ·rw[if_pos (by simpa using c1)];exact wpS_pure ⟨D,.inl ⟨_,zr,q78 Z m.aa m.ab c1⟩⟩
 ·rw[if_neg (by simpa using c1)];obtain⟨q,eq,sq,_⟩:=m.atA (i:=x) (by lia);refine wpS_bind (q2e eq ?_);refine wpS_bind (q5t L (D.kind.trans hk) sq (λi hi=>?_) (qej m.ab _ _ (by lia)) (by lia) λk k1 k2 k3=>?_)
  ·obtain⟨p,e,sp,_⟩:=m.atB (i:=y+1+i) (by lia);exact⟨p,e,sp⟩
  dsimp only
  have after:∀p',a[x]? =some p'->∀z∈b.toList.drop (y+1+k),rk p'<=rk z:=λp' ep z hz=>by
   rw[eq]at ep;cases ep
   obtain⟨j,h1,h2,ez⟩:=qd9 hz;rw[z19]at h2;have:=k3 (j - (y+1)) (by lia) (by lia);rw[show y+1+(j - (y+1))=j by lia,q36 b j ez]at this;simp[ahd]at this
   lia
  by_cases c2:k > 0
  ·rw[if_pos c2];have J2:=qwm Z m.ab k λz hz w hw=>by
    obtain⟨j,h1,ez⟩:=q8x hz;have:=k2 j h1;rw[q36 b _ ez]at this;simp[ahd]at this
    have:=qkf m eq w hw
    lia
   by_cases c3:y+1+k=b.size
   ·rw[if_pos (by simpa using c3)];exact wpS_pure ⟨D,.inl ⟨_,zr,q78 J2 m.aa m.ab c3⟩⟩
   ·rw[if_neg (by simpa using c3)];exact qkh m D J2 hx (by lia) after (by lia)
  ·rw[if_neg c2];have k0:k=0:=by lia
   subst k0;exact qkh m D Z hx (by lia) after (by lia)
def qwn(L:LtOk M A E s kd S rk)(hk:kindOf st=kd)(m:Mg S rk a b){Z:SortSt}{n ca cb g x y:Nat}{o:Array Keyed}(hg:Gl st Z)(G:Go rk a b o x y)(hn:n<=x+y):
  wpS M A E s (qp0 a b ca cb g o x y) (LoQ rk a b st (n+1)) Z:=by
 obtain⟨J,hx,hy⟩:=G;unfold qp0;refine wpS_bind (wpS_modify ?_);have D:=hg.set g;obtain⟨q,eq,sq,mq⟩:=m.atB hy;refine wpS_bind (q2e eq ?_);refine wpS_bind (q5t L (D.kind.trans hk) sq (λi hi=>?_) (qej m.aa _ _ (by lia)) (by lia) λk k1 k2 k3=>?_)
 ·obtain⟨p,e,sp,_⟩:=m.atA (i:=x+i) (by lia);exact⟨p,e,sp⟩
 dsimp only
 have after:∀p',b[y]? =some p'->∀z∈a.toList.drop (x+k),rk p'<=rk z:=λp' ep z hz=>by
  rw[eq]at ep;cases ep
  obtain⟨j,h1,h2,O⟩:=qd9 hz;rw[z19]at h2;have:=k3 (j - x) (by lia) (by lia);rw[show x+(j - x)=j by lia,q36 a j O]at this;simp[ahd]at this
  lia
 by_cases c2:k > 0
 ·rw[if_pos c2];have J2:=qnr J m.aa k λz hz w hw=>by
   obtain⟨j,h1,O⟩:=q8x hz;have:=k2 j h1;rw[q36 a _ O]at this;simp[ahd]at this
   have:=qkg m eq w hw
   lia
  by_cases c3:x+k+1=a.size
  ·rw[if_pos (by simpa using c3)];exact wpS_pure ⟨D,.inl ⟨_,zr,q79 m J2 c3⟩⟩
  ·rw[if_neg (by simpa using c3)];have c4:¬ x+k=a.size:=λc4=>by
    obtain⟨z,O,hz⟩:=m.top;have:=k2 (a.size - 1 - x) (by lia);rw[show x+(a.size - 1 - x)=a.size - 1 by lia,q3m O]at this;simp[ahd]at this
    have:=hz q mq
    lia
   rw[if_neg (by simpa using c4)];exact qns L hk m D J2 (by lia) hy after (by lia)
 ·rw[if_neg c2];have k0:k=0:=by lia
  subst k0;exact qns L hk m D J hx hy after hn
def qqm(L:LtOk M A E s kd S rk)(hk:kindOf st=kd)(m:Mg S rk a b){Q:Array Keyed->SortSt->Prop}(h:∀r J,Gl st J->Good rk a b r->Q r J):wpS M A E s (qd8 a b) Q st:=by
 rw[qn2];refine wpS_bind (wpS_lift (z4c ⟨zr,?_⟩));obtain⟨q,eq,sq,mq⟩:=m.atB m.nb;refine wpS_bind (q2e eq ?_);have J1:Jn rk a.toList b.toList (#[q]:Array Keyed).toList 0 1:=by
  obtain⟨z,ez,hz⟩:=m.bot;rw[eq]at ez;cases ez
  exact qdb (o:=#[]) Jn.start m.ab eq λw hw=>z3u (hz w (z14 hw))
 by_cases c1:1=b.size
 ·rw[if_pos (by simpa using c1)];exact wpS_pure (h _ _ (Gl.refl _) (q78 J1 m.aa m.ab c1))
 ·rw[if_neg (by simpa using c1)];by_cases c2:0+1=a.size
  ·rw[if_pos (by simpa using c2)];exact wpS_pure (h _ _ (Gl.refl _) (q79 m J1 c2))
  ·rw[if_neg (by simpa using c2)];refine wpS_bind (wpS_get ?_);have na:=m.na;have nb:=m.nb;have G1:Go rk a b #[q] 0 1:=⟨J1,by lia,by lia⟩;refine wpS_bind (wpS_mono (wpS_forRange (I:=λi c J=>Gl st J/\∃o x y g,c=(none,o,x,y,g)/\Go rk a b o x y/\i+1<=x+y)
    (Q:=λc J=>Gl st J/\∃r o x y g,c=(some r,o,x,y,g)/\Good rk a b r) ?turn ?last ⟨Gl.refl _,#[q],0,1,_,rfl,G1,by lia⟩) ?after)
   case after=>
    rintro c J ⟨hg,r,o,x,y,g,rfl,hr⟩;exact wpS_pure (h r J hg hr)
   case last=>
    rintro c J ⟨hg,o,x,y,g,rfl,G,hi⟩;have:=G.hx;have:=G.hy
    exfalso
    lia
   case turn=>
    rintro i c J _ hi ⟨hg,o,x,y,g,rfl,G,hxy⟩
    dsimp only
    refine wpS_bind (wpS_mono (wpS_forRange (I:=λj c O=>Gl st O/\∃o x y ca cb,c=(none,o,x,y,ca,cb)/\Go rk a b o x y/\i+1+j<=x+y)
     (Q:=λc O=>Gl st O/\∃r o x y ca cb,c=(r,o,x,y,ca,cb)/\match r with
      | some r=>Good rk a b r
      | none=>Go rk a b o x y/\i+2<=x+y) ?iturn ?ilast ⟨hg,o,x,y,0,0,rfl,G,by lia⟩) ?iafter)
    case ilast=>
     rintro c O ⟨D,o,x,y,ca,cb,rfl,G,hj⟩;have:=G.hx;have:=G.hy
     exfalso
     lia
    case iturn=>
     rintro j c O _ hj ⟨D,o,x,y,ca,cb,rfl,G,a5⟩
     dsimp only
     obtain⟨pb,eb,sb,mb⟩:=m.atB G.hy;obtain⟨pa,ea,sa,ma⟩:=m.atA (i:=x) (by have:=G.hx;lia);refine wpS_bind (q2e eb (wpS_bind (q2e ea (wpS_bind (L pb pa O _ sb sa (D.kind.trans hk) ?_)))));by_cases hw:rk pb < rk pa
     ·simp only[hw,z48,if_true];refine wpS_bind (q2e eb ?_);have J2:=qdb G.jn m.ab eb λz hz=>z3v (z3u hw) (qkf m ea z hz);by_cases c3:y+1=b.size
      ·rw[if_pos (by simpa using c3)];exact wpS_pure ⟨D,_,_,_,_,_,_,zr,q78 J2 m.aa m.ab c3⟩
      ·rw[if_neg (by simpa using c3)];have G2:Go rk a b (o.push pb) x (y+1):=⟨J2,G.hx,by have:=G.hy;lia⟩;split
       ·exact wpS_pure ⟨D,_,_,_,_,_,_,zr,G2,by lia⟩
       ·exact wpS_pure ⟨D,_,_,_,_,_,zr,G2,by lia⟩
     ·simp only[hw,z3t,z1k,if_false];refine wpS_bind (q2e ea ?_);have J2:=qda G.jn m.aa ea λz hz=>z3v (by lia) (qkg m eb z hz);by_cases c3:x+1+1=a.size
      ·rw[if_pos (by simpa using c3)];exact wpS_pure ⟨D,_,_,_,_,_,_,zr,q79 m J2 c3⟩
      ·rw[if_neg (by simpa using c3)];have G2:Go rk a b (o.push pa) (x+1) y:=⟨J2,by have:=G.hx;lia,G.hy⟩;split
       ·exact wpS_pure ⟨D,_,_,_,_,_,_,zr,G2,by lia⟩
       ·exact wpS_pure ⟨D,_,_,_,_,_,zr,G2,by lia⟩
    case iafter=>
     rintro c O ⟨D,r,o2,x2,y2,ca,cb,rfl,hr⟩;cases r with
     | some r=>exact wpS_pure ⟨D,r,_,_,_,_,rfl,hr⟩
     | none=>
      obtain⟨G2,a5⟩:=hr
      dsimp only
      refine wpS_bind (wpS_lift (z4c ⟨zr,?_⟩));refine wpS_bind (wpS_mono (wpS_forRange (I:=λj c Z=>Gl st Z/\∃o x y g ca cb,c=(none,o,x,y,g,ca,cb)/\Go rk a b o x y/\i+2+j<=x+y)
       (Q:=λc Z=>Gl st Z/\∃r o x y g ca cb,c=(r,o,x,y,g,ca,cb)/\match r with
        | some r=>Good rk a b r
        | none=>Go rk a b o x y/\i+2<=x+y) ?gturn ?glast ⟨D,o2,x2,y2,_,_,_,rfl,G2,by lia⟩) ?gafter)
      case glast=>
       rintro c Z ⟨a0,o,x,y,g,ca,cb,rfl,G,hj⟩;have:=G.hx;have:=G.hy
       exfalso
       lia
      case gturn=>
       rintro j c Z _ hj ⟨a0,o,x,y,g,ca,cb,rfl,G,a1⟩;have go:∀g',wpS M A E s (qp0 a b ca cb g' o x y) (LoQ rk a b st (i+2+j+1)) Z:=λg'=>qwn L hk m a0 G a1
       dsimp only
       by_cases a4:g > 1
       case' pos=>
        rw[if_pos a4];refine wpS_mono (go (g - 1)) ?_
       case' neg=>
        rw[if_neg a4];refine wpS_mono (go g) ?_
       all_goals
        intro r st4 q;obtain⟨a2,q⟩:=q;cases r with
        | done c'=>
         obtain⟨r,o,x,y,g,ca,cb⟩:=c';rcases q with ⟨r',e,q⟩ | ⟨e,q,q'⟩
         ·simp only at e;subst e;exact⟨a2,_,_,_,_,_,_,_,zr,q⟩
         ·simp only at e q q';subst e;exact⟨a2,_,_,_,_,_,_,_,zr,q,by lia⟩
        | yield c'=>
         obtain⟨r,o,x,y,g,ca,cb⟩:=c';obtain⟨e,q,q'⟩:=q;simp only at e q q';subst e;exact⟨a2,_,_,_,_,_,_,zr,q,by lia⟩
      case gafter=>
       rintro c Z ⟨a0,r,o3,x3,y3,g3,ca3,cb3,rfl,hr⟩;cases r with
       | some r=>exact wpS_pure ⟨a0,r,_,_,_,_,rfl,hr⟩
       | none=>
        obtain⟨G3,a1⟩:=hr
        dsimp only
        exact wpS_bind (wpS_modify (wpS_pure ⟨a0.set _,_,_,_,_,zr,G3,by lia⟩))
end
def qdc:Array Keyed->Array Keyed->StateT SortSt Sem (Array Keyed):=sortPriv%PySem.Builtin.mergeHi
def q3o(a b out:Array Keyed)(na nb:Nat):Array Keyed:=a.extract 0 na++b.extract 0 nb++out.reverse
def q6e(a b out:Array Keyed)(na nb:Nat):Array Keyed:=b.extract 0 nb++a.extract 0 na++out.reverse
def qn3(a b:Array Keyed):qdc a b=(do
 rule "list.sort.merge-hi"
 let all:=a.size+b.size
 let mut x:=a.size - 1
 let mut y:=b.size
 let mut o:Array Keyed:=#[<- elem' a x]
 if x==0 then return q3o a b o x y
 if y==1 then return q6e a b o x y
 let mut g:=gallopOf (<- get)
 for _ in [0:all] do
  let mut ca:=0
  let mut cb:=0
  for _ in [0:all] do
   let some won <- lt' (<- elem' b (y - 1)) (<- elem' a (x - 1)) | return q3o a b o x y
   if won then
    x:=x - 1;o:=o.push (<- elem' a x);ca:=ca+1;cb:=0
    if x==0 then return q3o a b o x y
    if ca >=g then break
   else
    y:=y - 1;o:=o.push (<- elem' b y);cb:=cb+1;ca:=0
    if y==1 then return q6e a b o x y
    if cb >=g then break
  rule "list.sort.gallop"
  g:=g+1
  for _ in [0:all] do
   if g > 1 then g:=g - 1
   modify λst=>q7l st g
   let some j <- q35 false (<- elem' b (y - 1)) a 0 x (x - 1) | return q3o a b o x y
   let k:=x - j
   ca:=k
   if k > 0 then
    o:=o++(a.extract j x).reverse;x:=j
    if x==0 then return q3o a b o x y
   y:=y - 1;o:=o.push (<- elem' b y)
   if y==1 then return q6e a b o x y
   let some j <- q35 true (<- elem' a (x - 1)) b 0 y (y - 1) | return q3o a b o x y
   let k:=y - j
   cb:=k
   if k > 0 then
    o:=o++(b.extract j y).reverse;y:=j
    if y==1 then return q6e a b o x y
    if y==0 then return q3o a b o x y
   x:=x - 1;o:=o.push (<- elem' a x)
   if x==0 then return q3o a b o x y
   if ca < 7&&cb < 7 then break
  g:=g+1
  modify λst=>q7l st g
 unsupported "internal:list.sort.merge-bound"):=rfl
section
variable{rk:Keyed->Int}{a b o:Array Keyed}{x y:Nat}
def JH(rk:Keyed->Int)(a b o:Array Keyed)(x y:Nat):Prop:=Jn (λp=>- rk p) a.toList.reverse b.toList.reverse o.toList (a.size - x) (b.size - y)/\x<=a.size/\y<=b.size
theorem JH.swap(h:JH rk a b o x y):JH rk b a o y x:=⟨h.1.swap,h.2.2,h.2.1⟩
def qel(xs:Array Keyed){k:Nat}(h:k<=xs.size):xs.toList.reverse.drop (xs.size - k)=(xs.toList.take k).reverse:=by
 have:=qke xs.toList k (by rw[z19];exact h)
 rwa [z19]at this
def rcut(xs:Array Keyed){i k:Nat}(hi:i<=k)(h:k<=xs.size):(xs.toList.reverse.drop (xs.size - k)).take (k - i)=((xs.toList.drop i).take (k - i)).reverse:=by
 have:=qwl xs.toList i k hi (by rw[z19];exact h)
 rwa [z19]at this
def qg6(h:JH rk a b o x y)(ha:Asc rk a.toList){j:Nat}(D:j<=x)(hx:∀p∈(a.toList.drop j).take (x - j),∀q∈b.toList.take y,rk q<=rk p):JH rk a b (o++(a.extract j x).reverse) j y:=by
 obtain⟨J,h1,h2⟩:=h;refine⟨?_,by lia,h2⟩;have:=J.moreA (qg5 ha) (x - j) (λp O q hq=>by
  rw[rcut a D h1]at O;rw[qel b h2]at hq;have:=hx p (List.mem_reverse.mp O) q (List.mem_reverse.mp hq);show - rk p<= - rk q
  lia)
 rw[rcut a D h1,show a.size - x+(x - j)=a.size - j by lia]at this;rw[z1a,Array.toList_reverse,z13,z0a];exact this
def q9j{p:Keyed}(h:JH rk a b o x y)(ha:Asc rk a.toList)(h1:1<=x)(e:a[x - 1]? =some p)(D:∀q∈b.toList.take y,rk q<=rk p):JH rk a b (o.push p) (x - 1) y:=by
 have e':a.toList[x - 1]? =some p:=by rw[z0x];exact e
 have t1:(a.toList.drop (x - 1)).take (x - (x - 1))=[p]:=by
  rw[show x - (x - 1)=1 by lia];exact qd6 e'
 have:=qg6 h ha (j:=x - 1) (by lia) (by rw[t1];intro z hz;rw[z1m.mp hz];exact D);have e2:(o++(a.extract (x - 1) x).reverse)=o.push p:=by
  apply Array.toList_inj.mp
  rw[z1a,Array.toList_reverse,z13,z0a,t1,z20];rfl
 rwa [e2]at this
def qwo(h:JH rk a b o x y)(hb:Asc rk b.toList){j:Nat}(hj:j<=y)(hx:∀p∈(b.toList.drop j).take (y - j),∀q∈a.toList.take x,rk q<=rk p):JH rk a b (o++(b.extract j y).reverse) x j:=(qg6 h.swap hb hj hx).swap
def qki{p:Keyed}(h:JH rk a b o x y)(hb:Asc rk b.toList)(h1:1<=y)(e:b[y - 1]? =some p)(D:∀q∈a.toList.take x,rk q<=rk p):JH rk a b (o.push p) x (y - 1):=(q9j h.swap hb h1 e D).swap
def qkj(xs:Array Keyed)(k:Nat):(xs.extract 0 k).toList=xs.toList.take k:=by
 rw[z13,z0a,List.drop_zero,Nat.sub_zero]
def good_headB'(h:JH rk a b o x y)(ha:Asc rk a.toList)(hb:Asc rk b.toList)(hq:∀p∈a.toList.take x,∀q∈b.toList.take y,rk q<=rk p):Good rk a b (q6e a b o x y):=by
 obtain⟨J,h1,h2⟩:=h;have:=J.done (qg5 ha) (qg5 hb) (λp O q D=>by
  rw[qel a h1]at O;rw[qel b h2]at D;have:=hq p (List.mem_reverse.mp O) q (List.mem_reverse.mp D);show - rk p<= - rk q
  lia)
 rw[qel a h1,qel b h2]at this;have e:(q6e a b o x y).toList=(o.toList++(a.toList.take x).reverse++(b.toList.take y).reverse).reverse:=by
  unfold q6e;rw[z1a,z1a,qkj,qkj,Array.toList_reverse];simp
 unfold Good;rw[e];exact⟨(List.reverse_perm _).trans (this.1.trans ((List.reverse_perm _).append (List.reverse_perm _))),asc_rev' this.2⟩
def good_headA'(h:JH rk a b o x y)(ha:Asc rk a.toList)(hb:Asc rk b.toList)(hq:∀p∈b.toList.take y,∀q∈a.toList.take x,rk q<=rk p):Good rk a b (q3o a b o x y):=by
 obtain⟨p,q⟩:=good_headB' h.swap hb ha hq;exact⟨p.trans z0u,q⟩
def q7a(h:JH rk a b o x y)(ha:Asc rk a.toList)(hb:Asc rk b.toList)(hx:x=0):Good rk a b (q3o a b o x y):=by
 refine good_headA' h ha hb λp _ q hq=>?_;rw[hx,List.take_zero]at hq;cases hq
end
section
variable{S:Keyed->Prop}{rk:Keyed->Int}{a b o:Array Keyed}{x y:Nat}
def q7b(m:Mg S rk a b)(h:JH rk a b o x y)(hy:y=1):Good rk a b (q6e a b o x y):=by
 obtain⟨z,ez,hz⟩:=m.bot;refine good_headB' h m.aa m.ab λp hp q hq=>?_;subst hy;obtain⟨j,hj,e⟩:=z12.mp hq;rw[z2g]at hj;have j0:j=0:=by lia
 subst j0;rw[z1z]at e;have:b.toList[0]? =some q:=by rw[<- e,z0d]
 rw[z0x,ez]at this;cases this
 exact z3u (hz p (z15 hp))
def qkk(m:Mg S rk a b){i:Nat}{p:Keyed}(h1:1<=i)(e:a[i - 1]? =some p):∀q∈a.toList.take i,rk q<=rk p:=by
 have:=qnq m.aa (i:=i - 1) (x:=p) (by rw[z0x];exact e)
 rwa [show i - 1+1=i by lia]at this
def qkl(m:Mg S rk a b){i:Nat}{p:Keyed}(h1:1<=i)(e:b[i - 1]? =some p):∀q∈b.toList.take i,rk q<=rk p:=by
 have:=qnq m.ab (i:=i - 1) (x:=p) (by rw[z0x];exact e)
 rwa [show i - 1+1=i by lia]at this
def qkm{l:List Keyed}{k:Nat}{p:Keyed}(h:p∈l.take k):∃j,j < k/\l[j]? =some p:=by
 have:=q8x (l:=l) (i:=0) (k:=k) (p:=p) (by simpa using h);obtain⟨j,a,b⟩:=this;exact⟨j,a,by rwa [z3w]at b⟩
end
abbrev HiSt:=Option (Array Keyed)×Nat×Nat×Array Keyed×Nat×Nat×Nat
def qem(a b:Array Keyed)(ca cb g:Nat)(o:Array Keyed)(x y:Nat):StateT SortSt Sem (ForInStep HiSt):=do
 let p <- elem' a (x - 1)
 if (x - 1==0)=true then pure (ForInStep.done (some (q3o a b (o.push p) (x - 1) y),x - 1,y,o.push p,g,ca,cb))
 else if (decide (ca < 7)&&decide (cb < 7))=true then pure (ForInStep.done (none,x - 1,y,o.push p,g,ca,cb))
 else pure (ForInStep.yield (none,x - 1,y,o.push p,g,ca,cb))
def qk2(a b:Array Keyed)(ca cb g:Nat)(o:Array Keyed)(x y:Nat):StateT SortSt Sem (ForInStep HiSt):=do
 let p <- elem' b (y - 1)
 if (y - 1==1)=true then pure (ForInStep.done (some (q6e a b (o.push p) x (y - 1)),x,y - 1,o.push p,g,ca,cb))
 else do
  let some j <- q35 true (<- elem' a (x - 1)) b 0 (y - 1) (y - 1 - 1) | pure (ForInStep.done (some (q3o a b (o.push p) x (y - 1)),x,y - 1,o.push p,g,ca,cb))
  if y - 1 - j > 0 then
   if (j==1)=true then pure (ForInStep.done (some (q6e a b (o.push p++(b.extract j (y - 1)).reverse) x j),x,j,o.push p++(b.extract j (y - 1)).reverse,g,ca,y - 1 - j))
   else if (j==0)=true then pure (ForInStep.done (some (q3o a b (o.push p++(b.extract j (y - 1)).reverse) x j),x,j,o.push p++(b.extract j (y - 1)).reverse,g,ca,y - 1 - j))
   else qem a b ca (y - 1 - j) g (o.push p++(b.extract j (y - 1)).reverse) x j
  else qem a b ca (y - 1 - j) g (o.push p) x (y - 1)
def qp1(a b:Array Keyed)(ca cb g:Nat)(o:Array Keyed)(x y:Nat):StateT SortSt Sem (ForInStep HiSt):=do
 modify λst=>q7l st g
 let some j <- q35 false (<- elem' b (y - 1)) a 0 x (x - 1) | pure (ForInStep.done (some (q3o a b o x y),x,y,o,g,ca,cb))
 if x - j > 0 then
  if (j==0)=true then pure (ForInStep.done (some (q3o a b (o++(a.extract j x).reverse) j y),j,y,o++(a.extract j x).reverse,g,x - j,cb))
  else qk2 a b (x - j) cb g (o++(a.extract j x).reverse) j y
 else qk2 a b (x - j) cb g o x y
section
variable{M:Model}{A:Around}{E:xB}{s:Shared}{kd:SortKind}{S:Keyed->Prop}{rk:Keyed->Int}{a b:Array Keyed}{st:SortSt}
structure GoH (rk:Keyed->Int) (a b o:Array Keyed) (x y:Nat):Prop where
 jn:JH rk a b o x y
 hx:1<=x
 hy:2<=y
def HiQ(rk:Keyed->Int)(a b:Array Keyed)(st:SortSt)(n:Nat)(r:ForInStep HiSt)(st':SortSt):Prop:=Gl st st'/\match r with
 | .done c=>(∃r,c.1=some r/\Good rk a b r)\/ (c.1=none/\GoH rk a b c.2.2.2.1 c.2.1 c.2.2.1/\c.2.1+c.2.2.1<=n)
 | .yield c=>c.1=none/\GoH rk a b c.2.2.2.1 c.2.1 c.2.2.1/\c.2.1+c.2.2.1<=n
def qkn(m:Mg S rk a b){D:SortSt}{n ca cb g x y:Nat}{o:Array Keyed}(hg:Gl st D)(J:JH rk a b o x y)(hx:1<=x)(hy:2<=y)
  (a0:∀p,a[x - 1]? =some p->∀q∈b.toList.take y,rk q<=rk p) (hn:x+y<=n+1):wpS M A E s (qem a b ca cb g o x y) (HiQ rk a b st n) D:=by
 have hz:=J.2.1;obtain⟨p,e,_,_⟩:=m.atA (i:=x - 1) (by lia);have O:=q9j J m.aa hx e (a0 p e);unfold qem;refine wpS_bind (q2e e ?_);by_cases Z:x - 1=0
 ·rw[if_pos (by simpa using Z)];exact wpS_pure ⟨hg,.inl ⟨_,zr,q7a O m.aa m.ab Z⟩⟩
 ·rw[if_neg (by simpa using Z)];by_cases c2:(decide (ca < 7)&&decide (cb < 7))=true
  ·rw[if_pos c2];exact wpS_pure ⟨hg,.inr ⟨rfl,⟨O,by show 1<=x - 1;lia,hy⟩,by show x - 1+y<=n;lia⟩⟩
  ·rw[if_neg c2];exact wpS_pure ⟨hg,rfl,⟨O,by show 1<=x - 1;lia,hy⟩,by show x - 1+y<=n;lia⟩
def qnt(L:LtOk M A E s kd S rk)(hk:kindOf st=kd)(m:Mg S rk a b){Z:SortSt}{n ca cb g x y:Nat}{o:Array Keyed}(O:Gl st Z)(J:JH rk a b o x y)(hx:1<=x)(hy:2<=y)
  (a0:∀p,b[y - 1]? =some p->∀q∈a.toList.take x,rk q<=rk p) (hn:x+y<=n+1):wpS M A E s (qk2 a b ca cb g o x y) (HiQ rk a b st n) Z:=by
 have hz1:=J.2.1;have hz2:=J.2.2;obtain⟨p,e,_,_⟩:=m.atB (i:=y - 1) (by lia);have J':=qki J m.ab (by lia) e (a0 p e);unfold qk2;refine wpS_bind (q2e e ?_);by_cases c1:y - 1=1
 ·rw[if_pos (by simpa using c1)];exact wpS_pure ⟨O,.inl ⟨_,zr,q7b m J' c1⟩⟩
 ·rw[if_neg (by simpa using c1)];obtain⟨q,eq,sq,mq⟩:=m.atA (i:=x - 1) (by lia);refine wpS_bind (q2e eq ?_);refine wpS_bind (q5t L (O.kind.trans hk) sq (λi hi=>?_) (qej m.ab _ _ (by lia)) (by lia) λj j1 j2 j3=>?_)
  ·obtain⟨p,e,sp,_⟩:=m.atB (i:=0+i) (by lia);exact⟨p,e,sp⟩
  dsimp only
  have after:∀p',a[x - 1]? =some p'->∀z∈b.toList.take j,rk z<=rk p':=λp' ep z hz=>by
   rw[eq]at ep;cases ep
   obtain⟨i,h1,D⟩:=qkm hz;have:=j2 i h1;rw[z3w,q36 b i D]at this;simp[ahd]at this
   lia
  by_cases c2:y - 1 - j > 0
  ·rw[if_pos c2];have J2:=qwo J' m.ab (j:=j) (by lia) λz hz w hw=>by
    obtain⟨i,h1,D⟩:=q8x hz;have:=j3 (j+i) (by lia) (by lia);rw[z3w,q36 b _ D]at this;simp[ahd]at this
    have:=qkk m hx eq w hw
    lia
   by_cases c3:j=1
   ·rw[if_pos (by simpa using c3)];exact wpS_pure ⟨O,.inl ⟨_,zr,q7b m J2 c3⟩⟩
   ·rw[if_neg (by simpa using c3)];have c4:¬ j=0:=λc4=>by
     obtain⟨z,D,hz⟩:=m.bot;have:=j3 0 (by lia) (by lia);rw[z3w,q3m D]at this;simp[ahd]at this
     have:=hz q mq
     lia
    rw[if_neg (by simpa using c4)];exact qkn m O J2 hx (by lia) after (by lia)
  ·rw[if_neg c2];have ej:j=y - 1:=by lia
   subst ej;exact qkn m O J' hx (by lia) after (by lia)
def qwp(L:LtOk M A E s kd S rk)(hk:kindOf st=kd)(m:Mg S rk a b){O:SortSt}{n ca cb g x y:Nat}{o:Array Keyed}(hg:Gl st O)(G:GoH rk a b o x y)(hn:x+y<=n+1):
  wpS M A E s (qp1 a b ca cb g o x y) (HiQ rk a b st n) O:=by
 obtain⟨J,hx,hy⟩:=G;have hz1:=J.2.1;have hz2:=J.2.2;unfold qp1;refine wpS_bind (wpS_modify ?_);have D:=hg.set g;obtain⟨q,eq,sq,mq⟩:=m.atB (i:=y - 1) (by lia);refine wpS_bind (q2e eq ?_);refine wpS_bind (q5t L (D.kind.trans hk) sq (λi hi=>?_) (qej m.aa _ _ (by lia)) (by lia) λj j1 j2 j3=>?_)
 ·obtain⟨p,e,sp,_⟩:=m.atA (i:=0+i) (by lia);exact⟨p,e,sp⟩
 dsimp only
 have after:∀p',b[y - 1]? =some p'->∀z∈a.toList.take j,rk z<=rk p':=λp' ep z hz=>by
  rw[eq]at ep;cases ep
  obtain⟨i,h1,Z⟩:=qkm hz;have:=j2 i h1;rw[z3w,q36 a i Z]at this;simp[ahd]at this
  lia
 by_cases c2:x - j > 0
 ·rw[if_pos c2];have J2:=qg6 J m.aa (j:=j) (by lia) λz hz w hw=>by
   obtain⟨i,h1,Z⟩:=q8x hz;have:=j3 (j+i) (by lia) (by lia);rw[z3w,q36 a _ Z]at this;simp[ahd]at this
   have:=qkl m (by lia) eq w hw
   lia
  by_cases c3:j=0
  ·rw[if_pos (by simpa using c3)];exact wpS_pure ⟨D,.inl ⟨_,zr,q7a J2 m.aa m.ab c3⟩⟩
  ·rw[if_neg (by simpa using c3)];exact qnt L hk m D J2 (by lia) hy after (by lia)
 ·rw[if_neg c2];have ej:j=x:=by lia
  subst ej;exact qnt L hk m D J hx hy after hn
def qqn(L:LtOk M A E s kd S rk)(hk:kindOf st=kd)(m:Mg S rk a b){Q:Array Keyed->SortSt->Prop}(h:∀r J,Gl st J->Good rk a b r->Q r J):wpS M A E s (qdc a b) Q st:=by
 rw[qn3];refine wpS_bind (wpS_lift (z4c ⟨zr,?_⟩));have na:=m.na;have nb:=m.nb;obtain⟨q,eq,sq,mq⟩:=m.atA (i:=a.size - 1) (by lia);refine wpS_bind (q2e eq ?_);have J1:JH rk a b #[q] (a.size - 1) b.size:=by
  obtain⟨z,ez,hz⟩:=m.top;rw[eq]at ez;cases ez
  have J0:JH rk a b #[] a.size b.size:=⟨by rw[Nat.sub_self,Nat.sub_self];exact Jn.start,z47 _,z47 _⟩;exact q9j (o:=#[]) J0 m.aa na eq λw hw=>z3u (hz w (z15 hw))
 by_cases c1:a.size - 1=0
 ·rw[if_pos (by simpa using c1)];exact wpS_pure (h _ _ (Gl.refl _) (q7a J1 m.aa m.ab c1))
 ·rw[if_neg (by simpa using c1)];by_cases c2:b.size=1
  ·rw[if_pos (by simpa using c2)];exact wpS_pure (h _ _ (Gl.refl _) (q7b m J1 c2))
  ·rw[if_neg (by simpa using c2)];refine wpS_bind (wpS_get ?_);have G1:GoH rk a b #[q] (a.size - 1) b.size:=⟨J1,by lia,by lia⟩;refine wpS_bind (wpS_mono (wpS_forRange (I:=λi c J=>Gl st J/\∃x y o g,c=(none,x,y,o,g)/\GoH rk a b o x y/\x+y+i+1<=a.size+b.size)
    (Q:=λc J=>Gl st J/\∃r x y o g,c=(some r,x,y,o,g)/\Good rk a b r) ?turn ?last ⟨Gl.refl _,_,_,#[q],_,rfl,G1,by lia⟩) ?after)
   case after=>
    rintro c J ⟨hg,r,x,y,o,g,rfl,hr⟩;exact wpS_pure (h r J hg hr)
   case last=>
    rintro c J ⟨hg,x,y,o,g,rfl,G,hi⟩;have:=G.hx;have:=G.hy
    exfalso
    lia
   case turn=>
    rintro i c J _ hi ⟨hg,x,y,o,g,rfl,G,hxy⟩
    dsimp only
    refine wpS_bind (wpS_mono (wpS_forRange (I:=λj c O=>Gl st O/\∃x y o ca cb,c=(none,x,y,o,ca,cb)/\GoH rk a b o x y/\x+y+i+1+j<=a.size+b.size)
     (Q:=λc O=>Gl st O/\∃r x y o ca cb,c=(r,x,y,o,ca,cb)/\match r with
      | some r=>Good rk a b r
      | none=>GoH rk a b o x y/\x+y+i+2<=a.size+b.size) ?iturn ?ilast ⟨hg,x,y,o,0,0,rfl,G,by lia⟩) ?iafter)
    case ilast=>
     rintro c O ⟨D,x,y,o,ca,cb,rfl,G,hj⟩;have:=G.hx;have:=G.hy
     exfalso
     lia
    case iturn=>
     rintro j c O _ hj ⟨D,x,y,o,ca,cb,rfl,G,a4⟩
     dsimp only
     have g1:=G.hx;have g2:=G.hy;have z1:=G.jn.2.1;have z2:=G.jn.2.2;obtain⟨pb,eb,sb,mb⟩:=m.atB (i:=y - 1) (by lia);obtain⟨pa,ea,sa,ma⟩:=m.atA (i:=x - 1) (by lia);refine wpS_bind (q2e eb (wpS_bind (q2e ea (wpS_bind (L pb pa O _ sb sa (D.kind.trans hk) ?_)))));by_cases hw:rk pb < rk pa
     ·simp only[hw,z48,if_true];refine wpS_bind (q2e ea ?_);have J2:=q9j G.jn m.aa g1 ea λz hz=>z3v (qkl m (by lia) eb z hz) (z3u hw);by_cases c3:x - 1=0
      ·rw[if_pos (by simpa using c3)];exact wpS_pure ⟨D,_,_,_,_,_,_,zr,q7a J2 m.aa m.ab c3⟩
      ·rw[if_neg (by simpa using c3)];have G2:GoH rk a b (o.push pa) (x - 1) y:=⟨J2,by lia,g2⟩;split
       ·exact wpS_pure ⟨D,_,_,_,_,_,_,zr,G2,by lia⟩
       ·exact wpS_pure ⟨D,_,_,_,_,_,zr,G2,by lia⟩
     ·simp only[hw,z3t,z1k,if_false];refine wpS_bind (q2e eb ?_);have J2:=qki G.jn m.ab (by lia) eb λz hz=>z3v (qkk m g1 ea z hz) (by lia);by_cases c3:y - 1=1
      ·rw[if_pos (by simpa using c3)];exact wpS_pure ⟨D,_,_,_,_,_,_,zr,q7b m J2 c3⟩
      ·rw[if_neg (by simpa using c3)];have G2:GoH rk a b (o.push pb) x (y - 1):=⟨J2,g1,by lia⟩;split
       ·exact wpS_pure ⟨D,_,_,_,_,_,_,zr,G2,by lia⟩
       ·exact wpS_pure ⟨D,_,_,_,_,_,zr,G2,by lia⟩
    case iafter=>
     rintro c O ⟨D,r,x2,y2,o2,ca,cb,rfl,hr⟩;cases r with
     | some r=>exact wpS_pure ⟨D,r,_,_,_,_,rfl,hr⟩
     | none=>
      obtain⟨G2,a4⟩:=hr
      dsimp only
      refine wpS_bind (wpS_lift (z4c ⟨zr,?_⟩));refine wpS_bind (wpS_mono (wpS_forRange (I:=λj c Z=>Gl st Z/\∃x y o g ca cb,c=(none,x,y,o,g,ca,cb)/\GoH rk a b o x y/\x+y+i+2+j<=a.size+b.size)
       (Q:=λc Z=>Gl st Z/\∃r x y o g ca cb,c=(r,x,y,o,g,ca,cb)/\match r with
        | some r=>Good rk a b r
        | none=>GoH rk a b o x y/\x+y+i+2<=a.size+b.size) ?gturn ?glast ⟨D,x2,y2,o2,_,_,_,rfl,G2,by lia⟩) ?gafter)
      case glast=>
       rintro c Z ⟨a0,x,y,o,g,ca,cb,rfl,G,hj⟩;have:=G.hx;have:=G.hy
       exfalso
       lia
      case gturn=>
       rintro j c Z _ hj ⟨a0,x,y,o,g,ca,cb,rfl,G,a5⟩;have go:∀g',wpS M A E s (qp1 a b ca cb g' o x y) (HiQ rk a b st (x+y - 1)) Z:=λg'=>qwp L hk m a0 G (by lia);have g1:=G.hx
       dsimp only
       by_cases a2:g > 1
       case' pos=>
        rw[if_pos a2];refine wpS_mono (go (g - 1)) ?_
       case' neg=>
        rw[if_neg a2];refine wpS_mono (go g) ?_
       all_goals
        intro r st4 q;obtain⟨a1,q⟩:=q;cases r with
        | done c'=>
         obtain⟨r,x',y',o',g',a6,a7⟩:=c';rcases q with ⟨r',e,q⟩ | ⟨e,q,q'⟩
         ·simp only at e;subst e;exact⟨a1,_,_,_,_,_,_,_,zr,q⟩
         ·simp only at e q q';subst e;exact⟨a1,_,_,_,_,_,_,_,zr,q,by lia⟩
        | yield c'=>
         obtain⟨r,x',y',o',g',a6,a7⟩:=c';obtain⟨e,q,q'⟩:=q;simp only at e q q';subst e;exact⟨a1,_,_,_,_,_,_,zr,q,by lia⟩
      case gafter=>
       rintro c Z ⟨a0,r,x3,y3,o3,g3,ca3,cb3,rfl,hr⟩;cases r with
       | some r=>exact wpS_pure ⟨a0,r,_,_,_,_,rfl,hr⟩
       | none=>
        obtain⟨G3,a5⟩:=hr
        dsimp only
        exact wpS_bind (wpS_modify (wpS_pure ⟨a0.set _,_,_,_,_,zr,G3,by lia⟩))
end
def qwq{M:Model}{A:Around}{E:xB}{s:Shared}{σ:Type}{v:σ}{Q:PUnit->σ->Prop}{st:σ}(h:Q ⟨⟩ v):wpS M A E s (set v:StateT σ Sem PUnit) Q st:=by
 unfold wpS;rw[StateT.run_set];exact z4d ⟨zr,h⟩
def wrt(base:Nat)(l:List (Keyed×Nat))(xs:Array Keyed):Array Keyed:=l.foldl (λa q=>a.setIfInBounds (base+q.2) q.1) xs
def qp2(i:Nat):mergeAt' i=(do
 let c <- get
 let (some (sa,na,pw),some (sb,nb,_)):=((pendingOf c)[i]?,(pendingOf c)[i+1]?) | unsupported "internal:list.sort.pending"
 set (setPending c (((pendingOf c).setIfInBounds i (sa,na+nb,pw)).eraseIdxIfInBounds (i+1)))
 let some k <- q35 false (<- elem' (arrOf c) sb) (arrOf c) sa na 0 | return false
 let (sa,na):=(sa+k,na - k)
 if na==0 then return true
 let some nb <- q35 true (<- elem' (arrOf c) (sa+na - 1)) (arrOf c) sb nb (nb - 1) | return false
 if nb==0 then return true
 let x:=(arrOf c).extract sa sb
 let y:=(arrOf c).extract sb (sb+nb)
 let r <- if na<=nb then qd8 x y else qdc x y
 modify λc=>setArr c (wrt sa r.toList.zipIdx (arrOf c))
 return (failedOf (<- get)).isNone):=rfl
theorem qko(base:Nat):∀(l:List Keyed) (k:Nat) (xs:Array Keyed),base+k+l.length<=xs.size->∀j,(wrt base (l.zipIdx k) xs)[j]? =if base+k<=j/\j < base+k+l.length then l[j - (base+k)]? else xs[j]?
 | [],k,xs,_,j=>by
  rw[if_neg (by simp)];rfl
 | p::r,k,xs,h,j=>by
  have h':base+k+(r.length+1)<=xs.size:=h;have ih:=qko base r (k+1) (xs.setIfInBounds (base+k) p) (by rw[Array.size_setIfInBounds];lia) j;rw[List.zipIdx_cons];show (wrt base (r.zipIdx (k+1)) (xs.setIfInBounds (base+k) p))[j]? =_;rw[ih,z2i];by_cases D:base+(k+1)<=j/\j < base+(k+1)+r.length
  ·rw[if_pos D,if_pos (by lia),show j - (base+k)=j - (base+(k+1))+1 by lia,List.getElem?_cons_succ]
  ·rw[if_neg D,Array.getElem?_setIfInBounds];by_cases c2:base+k=j
   ·rw[if_pos c2,if_pos (by lia),if_pos (by lia),show j - (base+k)=0 by lia];rfl
   ·rw[if_neg c2,if_neg (by lia)]
def qto(base:Nat)(l:List Keyed)(xs:Array Keyed)(h:base+l.length<=xs.size):(wrt base l.zipIdx xs).toList=xs.toList.take base++l++xs.toList.drop (base+l.length):=by
 apply z21
 intro j;have:=qko base l 0 xs (by lia) j;rw[z0x];rw[this];have e1:(xs.toList.take base).length=base:=by rw[z2g,z19];lia
 by_cases c1:j < base
 ·rw[if_neg (by lia),z1y,List.getElem?_append_left (by lia),List.getElem?_take_of_lt c1,z0x]
 ·rw[z1y,z05 (by lia),e1];by_cases c2:j < base+l.length
  ·rw[if_pos (by lia),List.getElem?_append_left (by lia)];rfl
  ·rw[if_neg (by lia),z05 (by lia),List.getElem?_drop,<- z0x]
   congr 1
   lia
def Runs(rk:Keyed->Int)(xs:Array Keyed):Nat->List (Nat×Nat×Nat)->Nat->Prop
 | u,[],v=>u=v
 | u,r::l,v=>r.1=u/\1<=r.2.1/\Up rk xs u (u+r.2.1)/\Runs rk xs (u+r.2.1) l v
section
variable{rk:Keyed->Int}{xs ys:Array Keyed}
theorem Runs.split:∀{J D:List (Nat×Nat×Nat)} {u v:Nat},Runs rk xs u (J++D) v↔∃w,Runs rk xs u J w/\Runs rk xs w D v
 | [],D,u,v=>⟨λh=>⟨u,rfl,h⟩,λ⟨w,e,h⟩=>by cases e;exact h⟩
 | r::J,D,u,v=>by
  constructor
  ·rintro ⟨a,b,c,d⟩;obtain⟨w,h1,h2⟩:=Runs.split.mp d;exact⟨w,⟨a,b,c,h1⟩,h2⟩
  ·rintro ⟨w,⟨a,b,c,d⟩,h2⟩;exact⟨a,b,c,Runs.split.mpr ⟨w,d,h2⟩⟩
theorem Runs.le:∀{l:List (Nat×Nat×Nat)} {u v:Nat},Runs rk xs u l v->u+l.length<=v
 | [],u,v,h=>by cases h;simp
 | r::l,u,v,⟨_,b,_,d⟩=>by
  have:=Runs.le d;rw[z2i]
  lia
def Up.same{lo hi:Nat}(h:Up rk xs lo hi)(e:∀k,lo<=k->k < hi->ys[k]? =xs[k]?):Up rk ys lo hi:=λi j a b c=>by
 rw[q54 (e i a (by lia)),q54 (e j (by lia) c)];exact h i j a b c
theorem Runs.same:∀{l:List (Nat×Nat×Nat)} {u v:Nat},Runs rk xs u l v->(∀k,u<=k->k < v->ys[k]? =xs[k]?)->Runs rk ys u l v
 | [],u,v,h,_=>h
 | r::l,u,v,⟨a,b,c,d⟩,e=>by
  have:=Runs.le d;exact⟨a,b,c.same λk h1 h2=>e k h1 (by lia),d.same λk h1 h2=>e k (by lia) h2⟩
theorem Runs.pow:∀{l D:List (Nat×Nat×Nat)} {u v:Nat},Runs rk xs u l v->D.map (λr=>(r.1,r.2.1))=l.map (λr=>(r.1,r.2.1))->Runs rk xs u D v
 | [],D,u,v,h,e=>by
  have:D=[]:=by simpa using e
  subst this;exact h
 | r::l,D,u,v,⟨a,b,c,d⟩,e=>by
  cases D with
  | nil=>simp at e
  | cons r' D=>
   simp only[z3k,z2v,Prod.mk.injEq]at e;obtain⟨⟨e1,e2⟩,e3⟩:=e;exact⟨e1.trans a,by lia,by rw[e2];exact c,by rw[e2];exact d.pow e3⟩
end
section
variable{M:Model}{A:Around}{E:xB}{s:Shared}{kd:SortKind}{S:Keyed->Prop}{rk:Keyed->Int}{n:Nat}
def qnu{xs:Array Keyed}{i j:Nat}(hj:j<=xs.size)(h:Up rk xs i j):Asc rk (xs.extract i j).toList:=by
 unfold Asc;rw[z08];intro p q D hq hpq;have hl:(xs.extract i j).toList.length=j - i:=by rw[z19,z1n];lia
 have e:∀p (D:p < (xs.extract i j).toList.length),rk (xs.extract i j).toList[p]=kx rk xs (i+p):=λp D=>by
  refine(q3m ?_).symm;have h1:(xs.extract i j)[p]? =some (xs.extract i j).toList[p]:=by rw[<- z0x,z0d]
  rw[<- h1,Array.getElem?_extract,if_pos (by lia)]
 rw[e p D,e q hq];exact h _ _ (by lia) (by lia) (by lia)
def q7f{xs:Array Keyed}{i j:Nat}(hj:j<=xs.size){p:Keyed}(h:p∈(xs.extract i j).toList):∃k,i<=k/\k < j/\xs[k]? =some p:=by
 obtain⟨q,hq,e⟩:=z12.mp h;have hl:(xs.extract i j).toList.length=j - i:=by rw[z19,z1n];lia
 refine⟨i+q,by lia,by lia,?_⟩;have h1:(xs.extract i j)[q]? =some p:=by rw[<- z0x,z0d hq,e]
 rw[<- h1,Array.getElem?_extract,if_pos (by lia)]
def qqo{xs:Array Keyed}{i j k:Nat}(h:i+k < j)(hj:j<=xs.size):(xs.extract i j)[k]? =xs[i+k]? :=by
 rw[Array.getElem?_extract,if_pos (by lia)]
def Mv.wrote{st:SortSt}{a m b:Nat}{r:Array Keyed}(h1:a<=m)(h2:m<=b)(hb:b<=(arrOf st).size)(hr:r.toList.Perm (((arrOf st).extract a m).toList++((arrOf st).extract m b).toList)):
  Mv a b st (setArr st (wrt a r.toList.zipIdx (arrOf st)))/\(∀j,a<=j->j < b->∃p,(wrt a r.toList.zipIdx (arrOf st))[j]? =some p/\p∈r.toList/\r.toList[j - a]? =some p):=by
 have hl:r.toList.length=b - a:=by
  rw[hr.length_eq,z1o,z19,z19,z1n,z1n]
  lia
 have hw:=qto a r.toList (arrOf st) (by lia);have D:=qko a r.toList 0 (arrOf st) (by lia);refine⟨⟨?_,λk hk=>?_,zr,zr,zr⟩,λj ha hb'=>?_⟩
 ·rw[z04];show (wrt a r.toList.zipIdx (arrOf st)).toList.Perm (arrOf st).toList;rw[hw,hl,show a+(b - a)=b by lia];have e:(arrOf st).toList=(arrOf st).toList.take a++(((arrOf st).extract a m).toList++((arrOf st).extract m b).toList)++(arrOf st).toList.drop b:=by
   rw[z13,z13,z0a,z0a];have e1:(arrOf st).toList.drop a=((arrOf st).toList.drop a).take (m - a)++(arrOf st).toList.drop m:=by
    have:=q77 (arrOf st).toList a (m - a)
    rwa [show a+(m - a)=m by lia]at this
   have e2:(arrOf st).toList.drop m=((arrOf st).toList.drop m).take (b - m)++(arrOf st).toList.drop b:=by
    have:=q77 (arrOf st).toList m (b - m)
    rwa [show m+(b - m)=b by lia]at this
   rw[z1y,z1y,<- e2,<- e1,z0v]
  refine List.Perm.trans ?_ (List.Perm.of_eq e.symm);exact(hr.append_left _).append_right _
 ·show (wrt a r.toList.zipIdx (arrOf st))[k]? =_;rw[D k,if_neg (by lia)]
 ·have J:j - a < r.toList.length:=by lia
  refine⟨r.toList[j - a],?_,by simp,z0d J⟩;rw[D j,if_pos (by lia),Nat.add_zero,z0d J]
structure Merged (rk:Keyed->Int) (lo hi:Nat) (p:Array (Nat×Nat×Nat)) (st st':SortSt):Prop where
 perm:(arrOf st').Perm (arrOf st)
 out:∀k,k < lo\/ hi<=k->(arrOf st')[k]? =(arrOf st)[k]?
 kind:kindOf st'=kindOf st
 failed:failedOf st'=failedOf st
 pend:pendingOf st'=p
 up:Up rk (arrOf st') lo hi
def qhv(L:LtOk M A E s kd S rk){st:SortSt}(B:Sane kd S n st){i sa na pw nb p2:Nat}(e1:(pendingOf st)[i]? =some (sa,na,pw))(e2:(pendingOf st)[i+1]? =some (sa+na,nb,p2))(ha:1<=na)(hb:1<=nb)(hn:sa+na+nb<=n)
  (u1:Up rk (arrOf st) sa (sa+na)) (u2:Up rk (arrOf st) (sa+na) (sa+na+nb)) {Q:Bool->SortSt->Prop}
  (h:∀D,Merged rk sa (sa+na+nb) (((pendingOf st).setIfInBounds i (sa,na+nb,pw)).eraseIdxIfInBounds (i+1)) st D->Q true D):wpS M A E s (mergeAt' i) Q st:=by
 rw[qp2];refine wpS_bind (wpS_get ?_);rw[e1,e2]
 dsimp only
 refine wpS_bind (qwq ?_);have J:∀j,j < n->∃p,(arrOf st)[j]? =some p/\S p:=λj hj=>by
  obtain⟨p,a,b,_⟩:=B.at rk hj;exact⟨p,a,b⟩
 have hz:=B.size;obtain⟨q,eq,sq⟩:=J (sa+na) (by lia);have kq:kx rk (arrOf st) (sa+na)=rk q:=q3m eq;refine wpS_bind (q2e eq ?_);refine wpS_bind (q5t L B.kind sq (λj hj=>J (sa+j) (by lia)) u1 (by lia) λk k1 k2 k3=>?_)
 dsimp only
 have a6:∀j,sa<=j->j < sa+k->kx rk (arrOf st) j<=kx rk (arrOf st) (sa+na):=λj a b=>by
  have:=k2 (j - sa) (by lia);rw[show sa+(j - sa)=j by lia]at this;simp[ahd]at this
  rw[kq];exact this
 have a1:∀j,sa+k<=j->j < sa+na->kx rk (arrOf st) (sa+na) < kx rk (arrOf st) j:=λj a b=>by
  have:=k3 (j - sa) (by lia) (by lia);rw[show sa+(j - sa)=j by lia]at this;simp[ahd]at this
  rw[kq]
  lia
 have O:kx rk (arrOf st) (sa+na - 1)<=kx rk (arrOf st) (sa+na)->Up rk (arrOf st) sa (sa+na+nb):=λhle i j a b c=>by
  by_cases c1:j < sa+na
  ·exact u1 i j a b c1
  ·by_cases c2:sa+na<=i
   ·exact u2 i j c2 b c
   ·have h1:=u1 i (sa+na - 1) a (by lia) (by lia);have h2:=u2 (sa+na) j (z47 _) (by lia) c
    lia
 by_cases c0:na - k=0
 ·rw[if_pos (by simpa using c0)];exact wpS_pure (h _ ⟨Array.Perm.refl _,λ_ _=>rfl,zr,zr,zr,O (a6 _ (by lia) (by lia))⟩)
 ·rw[if_neg (by simpa using c0)];have el:sa+k+(na - k) - 1=sa+na - 1:=by lia
  rw[el];obtain⟨z,ez,sz⟩:=J (sa+na - 1) (by lia);have kz:kx rk (arrOf st) (sa+na - 1)=rk z:=q3m ez;refine wpS_bind (q2e ez ?_);refine wpS_bind (q5t L B.kind sz (λj hj=>J (sa+na+j) (by lia)) u2 (by lia) λk' k1' b4 b5=>?_)
  dsimp only
  have a2:∀j,sa+na<=j->j < sa+na+k'->kx rk (arrOf st) j < kx rk (arrOf st) (sa+na - 1):=λj a b=>by
   have:=b4 (j - (sa+na)) (by lia);rw[show sa+na+(j - (sa+na))=j by lia]at this;simp[ahd]at this
   rw[kz];exact this
  have a0:∀j,sa+na+k'<=j->j < sa+na+nb->kx rk (arrOf st) (sa+na - 1)<=kx rk (arrOf st) j:=λj a b=>by
   have:=b5 (j - (sa+na)) (by lia) (by lia);rw[show sa+na+(j - (sa+na))=j by lia]at this;simp[ahd]at this
   rw[kz]
   lia
  by_cases c1:k'=0
  ·rw[if_pos (by simpa using c1)];exact wpS_pure (h _ ⟨Array.Perm.refl _,λ_ _=>rfl,zr,zr,zr,O (a0 _ (by lia) (by lia))⟩)
  ·rw[if_neg (by simpa using c1)];have m:Mg S rk ((arrOf st).extract (sa+k) (sa+na)) ((arrOf st).extract (sa+na) (sa+na+k')):=by
    refine⟨λp Z=>?_,λp Z=>?_,qnu (by lia) λi j a b c=>u1 i j (by lia) b c,qnu (by lia) λi j a b c=>u2 i j a b (by lia),by rw[z1n];lia,by rw[z1n];lia,⟨z,?_,λp Z=>?_⟩,⟨q,?_,λp Z=>?_⟩⟩
    ·obtain⟨j,h1,h2,e⟩:=q7f (by lia) Z;obtain⟨p',e',sp⟩:=J j (by lia);rw[e]at e';cases e'
     exact sp
    ·obtain⟨j,h1,h2,e⟩:=q7f (by lia) Z;obtain⟨p',e',sp⟩:=J j (by lia);rw[e]at e';cases e'
     exact sp
    ·rw[z1n,qqo (by lia) (by lia),<- ez]
     congr 1
     lia
    ·obtain⟨j,h1,h2,e⟩:=q7f (by lia) Z;have:=a2 j h1 h2
     rwa [kz,q3m e]at this
    ·rw[qqo (by lia) (by lia),<- eq];rfl
    ·obtain⟨j,h1,h2,e⟩:=q7f (by lia) Z;have:=a1 j h1 h2
     rwa [kq,q3m e]at this
   have fin:∀(r:Array Keyed) (D:SortSt),Gl (setPending st (((pendingOf st).setIfInBounds i (sa,na+nb,pw)).eraseIdxIfInBounds (i+1))) D->Good rk ((arrOf st).extract (sa+k) (sa+na)) ((arrOf st).extract (sa+na) (sa+na+k')) r->
     wpS M A E s ((modify λc=>setArr c (wrt (sa+k) r.toList.zipIdx (arrOf c)):StateT SortSt Sem PUnit) >>=λ_=>get >>=λc=>pure (failedOf c).isNone) Q D:=by
    intro r D hg hr;have b2:arrOf D=arrOf st:=hg.arr;refine wpS_bind (wpS_modify (wpS_bind (wpS_get (wpS_pure ?_))));have hf:failedOf D=none:=hg.failed.trans B.failed;show Q (failedOf D).isNone _;rw[hf];have hw:=Mv.wrote (st:=st) (a:=sa+k) (m:=sa+na) (b:=sa+na+k') (r:=r) (by lia) (by lia) (by lia) hr.1;obtain⟨v,at'⟩:=hw;have a5:=z08.mp hr.2;have a7:∀j,sa+k<=j->j < sa+na+k'->kx rk (arrOf st) (sa+na)<=kx rk (wrt (sa+k) r.toList.zipIdx (arrOf st)) j/\kx rk (wrt (sa+k) r.toList.zipIdx (arrOf st)) j<=kx rk (arrOf st) (sa+na - 1):=λj a b=>by
     obtain⟨p,e,Z,_⟩:=at' j a b;rw[q3m e];rcases z2u.mp (hr.1.mem_iff.mp Z) with Z | Z
     ·obtain⟨j',h1,h2,e'⟩:=q7f (by lia) Z;rw[<- q3m (rk:=rk) e'];exact⟨z3u (a1 j' h1 h2),u1 j' (sa+na - 1) (by lia) (by lia) (by lia)⟩
     ·obtain⟨j',h1,h2,e'⟩:=q7f (by lia) Z;rw[<- q3m (rk:=rk) e'];exact⟨u2 _ j' (z47 _) h1 (by lia),z3u (a2 j' h1 h2)⟩
    have out:∀j,j < sa+k\/ sa+na+k'<=j->kx rk (wrt (sa+k) r.toList.zipIdx (arrOf st)) j=kx rk (arrOf st) j:=λj hj=>q54 (v.out j hj);rw[show (setArr D (wrt (sa+k) r.toList.zipIdx (arrOf D)))=setArr D (wrt (sa+k) r.toList.zipIdx (arrOf st)) by rw[b2]];refine h _ ⟨v.perm,λj hj=>v.out j (by lia),hg.kind,hg.failed,hg.pend,λi j a b c=>?_⟩;show kx rk (wrt (sa+k) r.toList.zipIdx (arrOf st)) i<=kx rk (wrt (sa+k) r.toList.zipIdx (arrOf st)) j;by_cases i1:i < sa+k
    ·rw[out i (.inl i1)];have li:=a6 i a i1;by_cases j1:j < sa+k
     ·rw[out j (.inl j1)];exact u1 i j a b (by lia)
     ·by_cases j2:j < sa+na+k'
      ·have:=(a7 j (by lia) j2).1
       lia
      ·rw[out j (.inr (by lia))];have:=u2 (sa+na) j (z47 _) (by lia) c
       lia
    ·by_cases i2:i < sa+na+k'
     ·by_cases j2:j < sa+na+k'
      ·obtain⟨p,ep,_,gp⟩:=at' i (by lia) i2;obtain⟨p',a9,_,a4⟩:=at' j (by lia) j2;rw[q3m ep,q3m a9];obtain⟨l1,x1⟩:=z07.mp gp;obtain⟨l2,x2⟩:=z07.mp a4;rcases Nat.lt_or_ge i j with b3 | b3
       ·have:=a5 (i - (sa+k)) (j - (sa+k)) l1 l2 (by lia)
        rwa [x1,x2]at this
       ·have a8:i=j:=by lia
        subst a8;rw[gp]at a4;cases a4
        exact z49 _
      ·rw[out j (.inr (by lia))];have h1:=(a7 i (by lia) i2).2;have h2:=a0 j (by lia) c
       lia
     ·rw[out i (.inr (by lia)),out j (.inr (by lia))];exact u2 i j (by lia) b c
   by_cases c2:na - k<=k'
   ·rw[if_pos c2];exact wpS_bind (qqm (st:=setPending st (((pendingOf st).setIfInBounds i (sa,na+nb,pw)).eraseIdxIfInBounds (i+1))) L B.kind m λr D hg hr=>fin r D hg hr)
   ·rw[if_neg c2];exact wpS_bind (qqn (st:=setPending st (((pendingOf st).setIfInBounds i (sa,na+nb,pw)).eraseIdxIfInBounds (i+1))) L B.kind m λr D hg hr=>fin r D hg hr)
end
def qhw{p:Array (Nat×Nat×Nat)}{D J:List (Nat×Nat×Nat)}{r1 r2 r:Nat×Nat×Nat}{i:Nat}(h:p.toList=D++r1::r2::J)(hi:D.length=i):
  ((p.setIfInBounds i r).eraseIdxIfInBounds (i+1)).toList=D++r::J:=by
 have hs:i+1 < (p.setIfInBounds i r).size:=by
  rw[Array.size_setIfInBounds,<- z19,h];simp
  lia
 rw[Array.eraseIdxIfInBounds,dif_pos hs,Array.toList_eraseIdx,Array.toList_setIfInBounds,h,<- hi,List.set_append_right _ _ (z47 _),Nat.sub_self,List.set_cons_zero,
  List.eraseIdx_append_of_length_le (by lia)]
 congr 1
 rw[show D.length+1 - D.length=1 by lia];rfl
def qtp{α:Type}{l:List α}{i:Nat}(h:i+1 < l.length):∃D r1 r2 l2,l=D++r1::r2::l2/\D.length=i:=by
 refine⟨l.take i,l[i],l[i+1],l.drop (i+2),?_,by rw[z2g];lia⟩;rw[<- z09 h,<- z09 (by lia),z0v]
section
variable{M:Model}{A:Around}{E:xB}{s:Shared}{kd:SortKind}{S:Keyed->Prop}{rk:Keyed->Int}{n:Nat}
structure Sr (rk:Keyed->Int) (kd:SortKind) (S:Keyed->Prop) (n:Nat) (st:SortSt) (lo:Nat) (st':SortSt):Prop where
 perm:(arrOf st').Perm (arrOf st)
 sane:Sane kd S n st'
 runs:Runs rk (arrOf st') 0 (pendingOf st').toList lo
def Sr.merge{st D:SortSt}{lo i:Nat}(h:Sr rk kd S n st lo D)(hi:i+1 < (pendingOf D).size):
  ∃sa na pw nb p2,(pendingOf D)[i]? =some (sa,na,pw)/\(pendingOf D)[i+1]? =some (sa+na,nb,p2)/\1<=na/\1<=nb/\sa+na+nb<=lo/\Up rk (arrOf D) sa (sa+na)/\Up rk (arrOf D) (sa+na) (sa+na+nb)/\
   ∀J,Merged rk sa (sa+na+nb) (((pendingOf D).setIfInBounds i (sa,na+nb,pw)).eraseIdxIfInBounds (i+1)) D J->
    Sr rk kd S n st lo J/\(pendingOf J).size+1=(pendingOf D).size/\∀k,lo<=k->(arrOf J)[k]? =(arrOf D)[k]? :=by
 obtain⟨l1,⟨O,Z,q1⟩,⟨a2,n2,q2⟩,l2,e,el⟩:=qtp (l:=(pendingOf D).toList) (i:=i) (by rw[z19];exact hi);have R:=h.runs;rw[e]at R;obtain⟨w,R1,R2⟩:=Runs.split.mp R;obtain⟨x1,x2,x3,x4,x5,x6,x7⟩:=R2;simp only at x1 x2 x3 x4 x5 x6 x7;subst x1 x4;have le:=Runs.le x7;have g1:(pendingOf D)[i]? =some (O,Z,q1):=by
  rw[<- z0x,e,z05 (by lia),<- el,Nat.sub_self];rfl
 have g2:(pendingOf D)[i+1]? =some (O+Z,n2,q2):=by
  rw[<- z0x,e,z05 (by lia),show i+1 - l1.length=1 by lia];rfl
 refine⟨O,Z,q1,n2,q2,g1,g2,x2,x5,by lia,x3,x6,λJ m=>⟨⟨m.perm.trans h.perm,?_,?_⟩,?_,λk hk=>m.out k (by lia)⟩⟩
 ·exact⟨m.perm.size_eq.trans h.sane.size,λp hp=>h.sane.all p ((z04.mp m.perm).mem_iff.mp hp),m.kind.trans h.sane.kind,m.failed.trans h.sane.failed⟩
 ·rw[m.pend,qhw e el];refine Runs.split.mpr ⟨O,R1.same λk _ hk=>m.out k (.inl hk),rfl,by show 1<=Z+n2;lia,?_,?_⟩
  ·show Up rk (arrOf J) O (O+(Z+n2));rw[<- Nat.add_assoc];exact m.up
  ·show Runs rk (arrOf J) (O+(Z+n2)) l2 lo;rw[<- Nat.add_assoc];exact x7.same λk hk _=>m.out k (.inr hk)
 ·rw[m.pend,<- z19,qhw e el,<- z19,e];simp
  lia
def Sr.mv{st D J:SortSt}{lo hi:Nat}(h:Sr rk kd S n st lo D)(v:Mv lo hi D J):Sr rk kd S n st lo J:=
 ⟨v.perm.trans h.perm,v.sane h.sane,by rw[v.pend];exact h.runs.same λk _ hk=>v.out k (.inl hk)⟩
def Sr.setP{st D:SortSt}{lo hi:Nat}{p:Array (Nat×Nat×Nat)}(h:Sr rk kd S n st lo D)(r:Runs rk (arrOf D) 0 p.toList hi):Sr rk kd S n st hi (setPending D p):=
 ⟨h.perm,⟨h.sane.size,h.sane.all,h.sane.kind,h.sane.failed⟩,r⟩
def qtq(p:Array (Nat×Nat×Nat))(pw:Nat):(p.modify (p.size - 1) λ(x:Nat×Nat×Nat)=>(x.1,x.2.1,pw)).toList.map (λr=>(r.1,r.2.1))=p.toList.map (λr=>(r.1,r.2.1)):=by
 apply z21
 intro j;rw[z22,z22,z0x,z0x,Array.getElem?_modify];split
 ·cases p[j]? <;> rfl
 ·rfl
def qp3(L:LtOk M A E s kd S rk){st:SortSt}(B:Sane kd S n st)(h2:2<=n)(hp:pendingOf st=#[]){Q:Unit->SortSt->Prop}
  (h:∀O,(arrOf O).Perm (arrOf st)->failedOf O=none->Up rk (arrOf O) 0 n->Q () O):wpS M A E s sortRuns' Q st:=by
 rw[sortRuns'_eq];refine wpS_bind (wpS_get ?_)
 dsimp only
 simp only[B.size];have start:Sr rk kd S n st 0 st:=⟨Array.Perm.refl _,B,by rw[hp];rfl⟩;refine wpS_bind (wpS_mono (wpS_forRange (I:=λx c O=>∃lo,c=(none,lo)/\Sr rk kd S n st lo O/\lo<=n/\min x n<=lo)
  (Q:=λc O=>c=(none,n)/\Sr rk kd S n st n O) ?turn ?last ⟨0,rfl,start,by lia,by lia⟩) ?after)
 case last=>
  rintro c O ⟨lo,rfl,R,h1,h3⟩;have e:lo=n:=by lia
  subst e;exact⟨zr,R⟩
 case turn=>
  rintro x c O _ hx ⟨lo,rfl,R,hlo,hxl⟩
  dsimp only
  by_cases a8:lo >=n
  ·rw[if_pos a8];have e:lo=n:=by lia
   subst e;exact wpS_pure ⟨zr,R⟩
  rw[if_neg a8];refine wpS_bind (qoy L R.sane (by lia) (by lia) λk a9 v2 k1 k2 u2=>?_);have R2:=R.mv v2
  dsimp only
  by_cases a0:k < minRun' n n 0
  case' pos=>
   rw[if_pos a0];refine wpS_bind (wpS_lift (z4c ⟨zr,?_⟩));refine wpS_bind (qkd L R2.sane (by lia) (by lia) u2 λa7 v3 u3=>?_);have R3:=R2.mv v3;simp only[Bool.not_true,z1k,if_false];have m1:1<=min (n - lo) (minRun' n n 0):=by lia
   have m2:min (n - lo) (minRun' n n 0)<=n - lo:=by lia
   clear a0 v3;generalize min (n - lo) (minRun' n n 0)=m at*
  case' neg=>
   rw[if_neg a0];have R3:=R2;have u3:=u2;have m1:=k1;have m2:=k2;clear a0;generalize a9=a7 at*;generalize k=m at*
  all_goals
   refine wpS_bind (wpS_get ?_);have fin:∀(J:SortSt) (p:Array (Nat×Nat×Nat)),Sr rk kd S n st lo J->Up rk (arrOf J) lo (lo+m)->Runs rk (arrOf J) 0 p.toList lo->
     Sr rk kd S n st (lo+m) (setPending (setPending J p) ((pendingOf (setPending J p)).push (lo,m,0))):=λJ p R5 u5 rp=>by
    refine(R5.setP rp).setP ?_;show Runs rk (arrOf J) 0 (p.push (lo,m,0)).toList (lo+m);rw[z20];exact Runs.split.mpr ⟨lo,rp,zr,m1,u5,zr⟩
   cases hb:(pendingOf a7).back? with
   | none=>
    dsimp only
    exact wpS_bind (wpS_modify (wpS_pure ⟨lo+m,zr,fin a7 (pendingOf a7) R3 u3 R3.runs,by lia,by lia⟩))
   | some q=>
    obtain⟨s1,n1,q1⟩:=q
    dsimp only
    refine wpS_bind (wpS_mono (wpS_forRange (I:=λ_ c D=>c=(none,())/\Sr rk kd S n st lo D/\Up rk (arrOf D) lo (lo+m))
     (Q:=λc D=>c=(none,())/\Sr rk kd S n st lo D/\Up rk (arrOf D) lo (lo+m)) ?mturn (λ_ _ z=>z) ⟨rfl,R3,u3⟩) ?mafter)
    case mturn=>
     rintro j c D _ hj ⟨rfl,Z,u4⟩;refine wpS_bind (wpS_get ?_);by_cases c1:(pendingOf D).size > 1
     ·obtain⟨sa,na,pw,nb,p2,g1,g2,a1,a2,a3,a4,a5,a6⟩:=Z.merge (i:=(pendingOf D).size - 2) (by lia);rw[if_pos c1,g1]
      dsimp only
      split
      ·exact wpS_pure ⟨zr,Z,u4⟩
      ·refine wpS_bind (qhv L Z.sane g1 g2 a1 a2 (by lia) a4 a5 λJ mm=>?_);obtain⟨R5,_,o5⟩:=a6 J mm;simp only[Bool.not_true,z1k,if_false];exact wpS_pure ⟨zr,R5,u4.same λk hk _=>o5 k hk⟩
     ·rw[if_neg c1];exact wpS_pure ⟨zr,Z,u4⟩
    case mafter=>
     rintro c D ⟨rfl,Z,u4⟩
     dsimp only
     refine wpS_bind (wpS_modify (wpS_bind (wpS_modify (wpS_pure ⟨lo+m,zr,?_,by lia,by lia⟩))));exact fin D _ Z u4 (Z.runs.pow (qtq _ _))
 case after=>
  rintro c O ⟨rfl,R⟩
  dsimp only
  refine wpS_bind (wpS_mono (wpS_forRange (I:=λx c D=>c=(none,())/\Sr rk kd S n st n D/\(pendingOf D).size<=max 1 (n - x))
   (Q:=λc D=>c=(none,())/\Sr rk kd S n st n D/\(pendingOf D).size<=1) ?fturn ?flast ⟨rfl,R,?ffirst⟩) ?fafter)
  case ffirst=>
   have:=Runs.le R.runs;rw[z19]at this
   lia
  case flast=>
   rintro c D ⟨hc,Z,h4⟩;exact⟨hc,Z,by lia⟩
  case fturn=>
   rintro j c D _ hj ⟨rfl,Z,h4⟩;refine wpS_bind (wpS_get ?_);by_cases c1:(pendingOf D).size<=1
   ·rw[if_pos c1];exact wpS_pure ⟨zr,Z,c1⟩
   ·rw[if_neg c1];have go:∀i,i+1 < (pendingOf D).size->wpS M A E s (mergeAt' i) (λb J=>b=true/\Sr rk kd S n st n J/\(pendingOf J).size<=max 1 (n - (j+1))) D:=λi hi=>by
     obtain⟨sa,na,pw,nb,p2,g1,g2,a1,a2,a3,a4,a5,a6⟩:=Z.merge hi;refine qhv L Z.sane g1 g2 a1 a2 (by lia) a4 a5 λJ mm=>?_;obtain⟨R5,z5,_⟩:=a6 J mm;exact⟨zr,R5,by lia⟩
    refine wpS_bind (wpS_mono (go _ ?_) ?_)
    ·repeat' split
     all_goals lia
    ·rintro b J ⟨rfl,R5,z5⟩;simp only[Bool.not_true,z1k,if_false];exact wpS_pure ⟨zr,R5,z5⟩
  case fafter=>
   rintro c D ⟨rfl,Z,h4⟩;refine wpS_pure (h D Z.perm Z.sane.failed ?_);have hr:=Z.runs;have hl:(pendingOf D).toList.length<=1:=by rw[z19];exact h4
   cases e:(pendingOf D).toList with
   | nil=>
    rw[e]at hr;have:0=n:=hr
    lia
   | cons r l=>
    rw[e]at hr hl;have:l=[]:=by simpa using hl
    subst this;obtain⟨_,_,u,z⟩:=hr;have z':0+r.2.1=n:=z
    rwa [z']at u
end
def KLt(prog:Program)(w:World)(A:Around)(s:Shared)(kd:SortKind)(x y:Value)(r:Bool):Prop:=
 ∀(E:xB) (Q:Bool->Shared->Prop),Q r s->wpAny (model prog w) A (keyLt' kd x y) Q E s
def qwr{prog:Program}{w:World}{A:Around}{E:xB}{s:Shared}{kd:SortKind}{S:Keyed->Prop}{rk:Keyed->Int}(h:∀x y,S x->S y->KLt prog w A s kd x.1 y.1 (decide (rk x < rk y))):
  LtOk (model prog w) A E s kd S rk:=by
 intro x y st Q sx sy hk q;rw[lt'_eq];refine wpS_bind (wpS_get ?_);rw[hk];refine wpS_bind (wpS_lift (z3l (h x y sx sy _ _ ⟨zr,?_⟩)));exact wpS_pure q
section
variable{α:Type}
theorem qdd{p q:α->Bool}:∀(l:List α),(∀z∈l,p z=true->q z=true)->(l.filter p).length<=(l.filter q).length
 | [],_=>z47 _
 | z::l,h=>by
  have ih:=qdd (p:=p) (q:=q) l λy hy=>h y (z16 _ hy);rw[z2j,z2j];cases e:p z with
  | true=>
   rw[h z (z1p ..) e];simp only[if_true,z2i]
   lia
  | false=>
   cases q z with
   | true=>simp only[z1k,if_false,if_true,z2i];lia
   | false=>simpa using ih
theorem qkp{p q:α->Bool}{y:α}:∀(l:List α),(∀z∈l,p z=true->q z=true)->y∈l->p y=false->q y=true->(l.filter p).length < (l.filter q).length
 | [],_,hy,_,_=>nomatch hy
 | z::l,h,hy,h1,h2=>by
  have hl:∀w∈l,p w=true->q w=true:=λw hw=>h w (z16 _ hw);rw[z2j,z2j];rcases z3m.mp hy with rfl | hy
  ·rw[h1,h2];have:=qdd l hl;simp only[z1k,if_false,if_true,z2i]
   lia
  ·have ih:=qkp l hl hy h1 h2;cases e:p z with
   | true=>
    rw[h z (z1p ..) e];simp only[if_true,z2i]
    lia
   | false=>
    cases q z with
    | true=>simp only[z1k,if_false,if_true,z2i];lia
    | false=>simpa using ih
def rank(lt:α->α->Bool)(l:List α)(x:α):Int:=((l.filter λy=>lt y x).length:Nat)
def qnv{lt:α->α->Bool}{l:List α}(irr:∀x∈l,lt x x=false)(tr:∀x∈l,∀y∈l,∀z∈l,lt x y=true->lt y z=true->lt x z=true)
  (nt:∀x∈l,∀y∈l,∀z∈l,lt x z=true->lt x y=true\/ lt y z=true) {x y:α} (hx:x∈l) (hy:y∈l):lt x y=decide (rank lt l x < rank lt l y):=by
 unfold rank;cases e:lt x y with
 | true=>
  have:=qkp (p:=λz=>lt z x) (q:=λz=>lt z y) l (λz hz h=>tr z hz x hx y hy h e) hx (irr x hx) e;exact(z3b (by lia)).symm
 | false=>
  have:=qdd (p:=λz=>lt z y) (q:=λz=>lt z x) l (λz hz h=>(nt z hz x hx y hy h).resolve_right (by rw[e];exact z1l));exact(z2w (by lia)).symm
end
structure Sorted (rk:Value->Int) (vs out:xH):Prop where
 perm:out.Perm vs
 asc:out.Pairwise λx y=>rk x<=rk y
def qkq{rk:Value->Int}{vs:xH}{xs:Array Keyed}(Z:xs.Perm (pairsOf vs))(hu:Up (λp=>rk p.1) xs 0 vs.length):Sorted rk vs (xs.map (·.2)).toList:=by
 have hl:xs.toList.Perm (vs.zip vs):=by
  rw[<- pairsOf_toList];exact z04.mp Z
 have hsz:xs.size=vs.length:=by
  rw[Z.size_eq,pairsOf_size]
 have same:∀p,p∈xs.toList->p.1=p.2:=λp h=>(mem_zip_self (hl.mem_iff.mp h)).1;refine⟨?_,?_⟩
 ·rw[Array.toList_map];have:=hl.map Prod.snd
  rwa [List.map_snd_zip (z47 _)]at this
 ·rw[Array.toList_map,z08];intro i j hi hj O;rw[List.getElem_map,List.getElem_map];have J:i < xs.toList.length:=by simpa using hi
  have D:j < xs.toList.length:=by simpa using hj
  have:=hu i j (z4a _) (z3x O) (by rw[z19]at D;lia);rw[q36 xs i (z0d J),q36 xs j (z0d D)]at this;rw[<- same _ (z2k J),<- same _ (z2k D)];exact this
section
variable{prog:Program}{w:World}{A:Around}{E:xB}{s:Shared}
def Keys(prog:Program)(w:World)(A:Around)(s:Shared)(a:Addr)(vs:xH)(rk:Value->Int):Prop:=2<=vs.length->∀s':Shared,(∀b o,b≠a->s.heap.get? b=some o->s'.heap.get? b=some o)->
 ∃kd:SortKind,(∀(E:xB) (Q:SortKind->Shared->Prop),Q kd s'->wpAny (model prog w) A (keyKind' vs.toArray) Q E s')/\∀x∈vs,∀y∈vs,KLt prog w A s' kd x y (decide (rk x < rk y))
theorem pw1{α:Type}{R:α->α->Prop}:∀{l:List α},l.length < 2->l.Pairwise R
 | [],_=> .nil
 | [_],_=>List.pairwise_singleton ..
 | _::_::_,h=>absurd h (by simp)
theorem len2{α:Type}:∀{l:List α},l.length=2->∃a b,l=[a,b]
 | [a,b],_=>⟨a,b,rfl⟩
def qaf{a:Addr}{vs:xH}{n:Nat}{rk:Value->Int}{P:PySem.Fin->Shared->Prop}(ho:s.heap.get? a=some (seqObj "list" vs.toArray n))(hz:vs.length<=sizeLine)(hk:Keys prog w A s a vs rk)
  (h:∀out:Array Value,Sorted rk vs out.toList->P (.done (.ret .none)) {s with heap:=sortedHeap s.heap a vs out}):wpAny (model prog w) A (Builtin.«list.sort» ⟨[.ref a],[]⟩) P E s:=by
 rw[list_sort_plain];have ha:a < s.heap.objs.size:=z3y ho;have a4:vs.toArray.size=vs.length:=z23;refine z4e (listItems_at ho rfl (z4e (listUpdate_at ho rfl ?_ (by rw[a4];exact hz) (z4a _))));obtain⟨e1,Z⟩:∃e1,(s.heap.update a (Obj.mapSeq λ_=>#[])).get? a=some (seqObj "list" #[] e1):=⟨_,get?_update_seq ho (λ_=>#[])⟩;refine z4e (seqEpoch_at Z rfl (z4e (wpAny_newTuple (z4e (wpAny_newList (z3n ?_))))));have s1:=z1b s.heap a (Obj.mapSeq λ_=>(#[]:Array Value));have keep:∀b o,(s.heap.update a (Obj.mapSeq λ_=>#[])).get? b=some o->(((s.heap.update a (Obj.mapSeq λ_=>#[])).push (seqObj "tuple" vs.toArray 0)).push (seqObj "list" #[] 0)).get? b=some o:=
  λb o e=>z0o _ (z0o _ e)
 have J:=keep a _ Z;have O:∀b o,b≠a->s.heap.get? b=some o->(((s.heap.update a (Obj.mapSeq λ_=>#[])).push (seqObj "tuple" vs.toArray 0)).push (seqObj "list" #[] 0)).get? b=some o:=
  λb o hb e=>keep b o ((s1.2 b hb).trans e)
 show wpAny (model prog w) A _ P E {s with heap:=((s.heap.update a (Obj.mapSeq λ_=>#[])).push (seqObj "tuple" vs.toArray 0)).push (seqObj "list" #[] 0)}
 dsimp only
 by_cases h2:vs.toArray.size < 2
 ·rw[if_pos h2,if_pos h2];refine z4e (z4d ?_);rw[StateT.run_pure];refine z4e (z4d ?_)
  dsimp only
  have es:((vs.toArray.zip vs.toArray).map (·.2)).toList=vs:=by
   rw[Array.toList_map];show (pairsOf vs).toList.map _=_;rw[pairsOf_toList,List.map_snd_zip (z47 _)]
  refine z4e (seqEpoch_at J rfl (z4e (listUpdate_at J rfl ?_ (z4a _) (by rw[<- z19,es];lia))));simp only[bne_self_eq_false,z1k,if_false];refine z4d (h _ ?_);rw[es];refine⟨List.Perm.refl _,?_⟩;rw[a4]at h2;exact pw1 h2
 ·rw[if_neg h2,if_neg h2];obtain⟨kd,kk,kl⟩:=hk (by lia) {s with heap:=((s.heap.update a (Obj.mapSeq λ_=>#[])).push (seqObj "tuple" vs.toArray 0)).push (seqObj "list" #[] 0)} O;refine z4e (kk _ _ ?_);have hS:∀p∈(vs.toArray.zip vs.toArray).toList,p.1∈vs:=λp hp=>by
   have a0:p∈(pairsOf vs).toList:=hp;rw[pairsOf_toList]at a0;exact(mem_zip_self a0).2
  refine z4e (z4f (qp3 (S:=λp=>p.1∈vs) (rk:=λp=>rk p.1) (n:=vs.length) (st:=SortSt.mk' kd (vs.toArray.zip vs.toArray) #[] 7 none)
   (Q:=λ_ D=>(arrOf D).Perm (pairsOf vs)/\failedOf D=none/\Up (λp=>rk p.1) (arrOf D) 0 vs.length)
   (qwr λx y hx hy=>kl x.1 hx y.1 hy) ⟨pairsOf_size vs,hS,rfl,rfl⟩ (by lia) rfl λD a1 a2 a3=>⟨a1,a2,a3⟩) ?_ λ_ _ e=>e)
  rintro ⟨⟨⟩,D⟩ s' ⟨rfl,hp,hf,hu⟩
  dsimp only
  have so:=qkq hp hu;refine z4e (seqEpoch_at J rfl (z4e (listUpdate_at J rfl ?_ (z4a _) (by rw[<- z19,so.perm.length_eq];lia))));rw[hf];simp only[bne_self_eq_false,z1k,if_false];exact z4d (h _ so)
end
end Tim
namespace Tim
structure STO {α:Type} (lt:α->α->Bool):Prop where
 irr:∀a,lt a a=false
 tr:∀a b c,lt a b=true->lt b c=true->lt a c=true
 tri:∀a b,lt a b=false->lt b a=false->a=b
section
variable{α β:Type}
def STO.asym{lt:α->α->Bool}(h:STO lt){a b:α}(x:lt a b=true):lt b a=false:=by
 cases e:lt b a with
 | false=>rfl
 | true=>
  have:=h.tr a b a x e;rw[h.irr]at this;cases this
def STO.nt{lt:α->α->Bool}(h:STO lt){a c:α}(b:α)(x:lt a c=true):lt a b=true\/ lt b c=true:=by
 cases e:lt a b with
 | true=>exact .inl rfl
 | false=>
  cases f:lt b a with
  | true=>exact .inr (h.tr b a c f x)
  | false=>
   have:=h.tri a b e f;subst this;exact .inr x
def STO.map{lt:α->α->Bool}(h:STO lt)(f:β->α)(inj:∀a b,f a=f b->a=b):STO λa b=>lt (f a) (f b):=
 ⟨λa=>h.irr _,λa b c=>h.tr _ _ _,λa b x y=>inj a b (h.tri _ _ x y)⟩
def lexB[DecidableEq α](lt:α->α->Bool):List α->List α->Bool
 | [],[]=>false
 | [],_::_=>true
 | _::_,[]=>false
 | a::as,b::bs=>if a=b then lexB lt as bs else lt a b
def STO.lex[DecidableEq α]{lt:α->α->Bool}(h:STO lt):STO (lexB lt):=by
 refine⟨λa=>?_,λa=>?_,λa=>?_⟩
 ·induction a with
  | nil=>rfl
  | cons x a O=>rw[lexB,if_pos rfl];exact O
 ·induction a with
  | nil=>
   intro b c h1 h2;cases c with
   | nil=>cases b with
    | nil=>exact h1
    | cons y b=>cases h2
   | cons z c=>rfl
  | cons x a O=>
   intro b c h1 h2;cases b with
   | nil=>cases h1
   | cons y b=>
    cases c with
    | nil=>cases h2
    | cons z c=>
     rw[lexB]at h1 h2 ⊢;by_cases D:x=y
     ·subst D;rw[if_pos rfl]at h1;by_cases Z:x=z
      ·subst Z;rw[if_pos rfl]at h2 ⊢;exact O b c h1 h2
      ·rw[if_neg Z]at h2 ⊢;exact h2
     ·rw[if_neg D]at h1;by_cases yz:y=z
      ·subst yz;rw[if_neg D];exact h1
      ·rw[if_neg yz]at h2;have J:=h.tr x y z h1 h2;have:¬ x=z:=λe=>by
        subst e;rw[h.irr]at J;cases J
       rw[if_neg this];exact J
 ·induction a with
  | nil=>
   intro b h1 h2;cases b with
   | nil=>rfl
   | cons y b=>cases h1
  | cons x a O=>
   intro b h1 h2;cases b with
   | nil=>cases h2
   | cons y b=>
    rw[lexB]at h1 h2;by_cases D:x=y
    ·subst D;rw[if_pos rfl]at h1 h2;rw[O b h1 h2]
    ·rw[if_neg D]at h1;rw[if_neg (Ne.symm D)]at h2;exact absurd (h.tri x y h1 h2) D
def qws:STO (λa b:Nat=>decide (a < b)):=
 ⟨λa=>by simp,λa b c h1 h2=>by simp at*;lia,λa b h1 h2=>by simp at*;lia⟩
def qwt:STO (λa b:Int=>decide (a < b)):=
 ⟨λa=>by simp,λa b c h1 h2=>by simp at*;lia,λa b h1 h2=>by simp at*;lia⟩
theorem qnw:∀(a b:List Nat),decide (a < b)=lexB (λx y:Nat=>decide (x < y)) a b
 | [],[]=>rfl
 | [],_::_=>by simp[lexB]
 | _::_,[]=>by simp[lexB]
 | x::a,y::b=>by
  rw[lexB,<- qnw a b];by_cases e:x=y
  ·subst e;rw[if_pos rfl];simp
  ·rw[if_neg e];have:(x::a < y::b)↔x < y:=by
    rw[List.cons_lt_cons_iff]
    constructor
    ·rintro (h | h)
     ·exact h
     ·exact absurd h.1 e
    ·exact .inl
   simp[this]
theorem STO.uniq{lt:α->α->Bool}(h:STO lt):∀{a b:List α},a.Perm b->a.Pairwise (λx y=>lt y x=false)->b.Pairwise (λx y=>lt y x=false)->a=b
 | [],b,p,_,_=>(List.nil_perm.mp p).symm ▸ rfl
 | x::a,[],p,_,_=>by have:=p.length_eq;simp at this
 | x::a,y::b,p,pa,pb=>by
  obtain⟨D,J⟩:=z1q.mp pa;obtain⟨O,Z⟩:=z1q.mp pb;have e:x=y:=by
   have hx:x∈y::b:=p.mem_iff.mp (z1p ..);have hy:y∈x::a:=p.mem_iff.mpr (z1p ..);rcases z3m.mp hx with e | hx
   ·exact e
   ·rcases z3m.mp hy with e | hy
    ·exact e.symm
    ·exact h.tri x y (O x hx) (D y hy)
  subst e;rw[h.uniq (List.Perm.cons_inv p) J Z]
end
end Tim
namespace L2
open PySem PySem.Spec PyProof.Rows
abbrev Key:=Sum Int Str
def q8i:Key->Value->Bool
 | .inl k,v=>Value.isInt k v
 | .inr x,v=>Value.isStrOf x v
def keyH(w:World):Key->Int
 | .inl k=>hashInt k
 | .inr x=>hashStr w x
def q21:∀{k:Key} {v:Value},q8i k v=true->(∃i t,k=Sum.inl i/\v=Value.int i t)\/ (∃x t,k=Sum.inr x/\v=Value.str x t)
 | .inl i,v,h=>by
  obtain⟨t,e⟩:=Value.isInt_shape (k:=i) (v:=v) h;exact .inl ⟨i,t,zr,e⟩
 | .inr x,v,h=>by
  obtain⟨t,e⟩:=Value.isStrOf_shape (x:=x) (v:=v) h;exact .inr ⟨x,t,zr,e⟩
def qqp(i:Int)(t:Tok):q8i (.inl i) (.int i t)=true:=by simp[q8i,Value.isInt]
def qqq(x:Str)(t:Tok):q8i (.inr x) (.str x t)=true:=by simp[q8i,Value.isStrOf]
def qz0(a b:Int):decide ((Sum.inl a:Key)=Sum.inl b)=(a==b):=by
 by_cases e:a=b
 ·subst e;simp
 ·have h:¬ (Sum.inl a:Key)=Sum.inl b:=λq=>e (Sum.inl.inj q);rw[z2w h];exact(beq_eq_false_iff_ne.mpr e).symm
def qz1(a b:Str):decide ((Sum.inr a:Key)=Sum.inr b)=decide (a=b):=by
 by_cases e:a=b
 ·subst e;simp
 ·have h:¬ (Sum.inr a:Key)=Sum.inr b:=λq=>e (Sum.inr.inj q);rw[z2w h,z2w e]
def qz2(a:Int)(b:Str):decide ((Sum.inl a:Key)=Sum.inr b)=false:=z2w (λq=>nomatch q)
def qz3(a:Str)(b:Int):decide ((Sum.inr a:Key)=Sum.inl b)=false:=z2w (λq=>nomatch q)
def q1c(prog:Program)(w:World):PySem.KeyKind prog w Key where
 is:=q8i
 hash:=keyH w
 inj:=λv a b ha hb=>by
  rcases q21 ha with ⟨i,t,rfl,rfl⟩ | ⟨x,t,rfl,rfl⟩
  ·rcases q21 hb with ⟨j,u,rfl,e⟩ | ⟨y,u,rfl,e⟩
   ·injection e with e1 _;rw[e1]
   ·exact nomatch e
  ·rcases q21 hb with ⟨j,u,rfl,e⟩ | ⟨y,u,rfl,e⟩
   ·exact nomatch e
   ·injection e with e1 _;rw[e1]
 byValue:=λk v h=>by
  rcases q21 h with ⟨i,t,rfl,rfl⟩ | ⟨x,t,rfl,rfl⟩ <;> rfl
 pyHash:=λhv h=>by
  rcases q21 hv with ⟨i,t,rfl,rfl⟩ | ⟨x,t,rfl,rfl⟩
  ·exact wpAny_pyHash_int h
  ·exact wpAny_pyHash_str h
 eqBool:=λhu hv h=>by
  rcases q21 hu with ⟨i,t,rfl,rfl⟩ | ⟨x,t,rfl,rfl⟩
  ·rcases q21 hv with ⟨j,u,rfl,rfl⟩ | ⟨y,u,rfl,rfl⟩
   ·rw[qz0]at h;exact wpAny_eqBool_int h
   ·rw[qz2]at h;exact SeqAt.EqAt.int_str i t y u _ _ _ _ h
  ·rcases q21 hv with ⟨j,u,rfl,rfl⟩ | ⟨y,u,rfl,rfl⟩
   ·rw[qz3]at h;exact SeqAt.EqAt.str_int x t j u _ _ _ _ h
   ·rw[qz1]at h;exact wpAny_eqBool_str h
 «strs»:=λk x t v h=>by
  rcases q21 h with ⟨i,u,rfl,e⟩ | ⟨y,u,rfl,e⟩
  ·exact nomatch e
  ·injection e with e1 _;subst e1;cases v <;> rfl
def qn4(prog:Program)(w:World)(i:Int)(t:Tok):(q1c prog w).is (.inl i) (.int i t)=true:=qqp i t
def qcs(prog:Program)(w:World)(x:Str)(t:Tok):(q1c prog w).is (.inr x) (.str x t)=true:=qqq x t
inductive V where
 | non | bl (b:Bool) | int (i:Int) | str (x:Str) | byt (b:Array UInt8) | flt (b:UInt64) | ref (a:Addr) | ty (n:String)
 deriving DecidableEq
def RelV:V->Value->Prop
 | .non,u=>u=Value.none
 | .bl b,u=>u=Value.bool b
 | .int i,u=>∃t,u=Value.int i t
 | .str x,u=>∃t,u=Value.str x t
 | .byt b,u=>∃t,u=Value.bytes b t
 | .flt b,u=>∃t,u=Value.float b t
 | .ref a,u=>u=Value.ref a
 | .ty n,u=>u=Value.type n
abbrev Vals:List V->List Value->Prop:=Paired RelV
theorem Vals.length{xs:List V}{us:xH}(r:Vals xs us):xs.length=us.length:=Paired.length r
theorem Vals.get:∀{xs:List V} {us:xH} {i:Nat} {x:V},Vals xs us->xs[i]? =some x->∃u,us[i]? =some u/\RelV x u
 | _,_,_,_,.nil,e=>by simp at e
 | _,_,0,_,.cons r _,e=>by simp at e;subst e;exact⟨_,rfl,r⟩
 | _,_,i+1,x,.cons _ t,e=>by
  obtain⟨u,h1,h2⟩:=Vals.get (i:=i) (x:=x) t (by simpa using e);exact⟨u,by simpa using h1,h2⟩
theorem Vals.append:∀{xs ys:List V} {us ws:xH},Vals xs us->Vals ys ws->Vals (xs++ys) (us++ws)
 | _,_,_,_,.nil,s=>s
 | _,_,_,_,.cons r t,s=> .cons r (Vals.append t s)
theorem Vals.take:∀{xs:List V} {us:xH} (n:Nat),Vals xs us->Vals (xs.take n) (us.take n)
 | _,_,0,_=> .nil
 | _,_,_+1,.nil=> .nil
 | _,_,n+1,.cons r t=> .cons r (Vals.take n t)
theorem Vals.drop:∀{xs:List V} {us:xH} (n:Nat),Vals xs us->Vals (xs.drop n) (us.drop n)
 | _,_,0,r=>r
 | _,_,_+1,.nil=> .nil
 | _,_,n+1,.cons _ t=>Vals.drop n t
def RelO:Option V->Option Value->Prop
 | some v,some u=>RelV v u
 | none,none=>True
 | _,_=>False
def KV{κ:Type}:List (κ×V)->List (κ×Value)->Prop:=Paired λ(p:κ×V) (q:κ×Value)=>p.1=q.1/\RelV p.2 q.2
def kV:Key->V
 | .inl i=> .int i
 | .inr x=> .str x
inductive HO where
 | lst (xs:List V)
 | tup (xs:List V)
 | dK (kvs:List (Key×V)) | dT (kvs:List (List Key×V))
 | set (S:Int->Bool) (n:Nat)
 | ins (C dx:Addr) (fs:List (Str×V))
 | own (x:Addr)
 | xd (fs:List (Str×V))
 | met (f x:Addr)
 | rng (lo hi:Int)
 | frz (o:Obj) (u:HO)
 | tbl (ps:Array Value)
 | ext (φ:Heap->Prop)
abbrev Hp:=Addr->Option HO
def upd(H:Hp)(a:Addr)(o:HO):Hp:=λb=>if b=a then some o else H b
def qb{H:Hp}{a:Addr}{o:HO}:upd H a o a=some o:=by unfold upd;rw[if_pos rfl]
def qi{H:Hp}{a b:Addr}{o:HO}(h:b≠a):upd H a o b=H b:=by unfold upd;rw[if_neg h]
def q5u{H:Hp}{a:Addr}{o u:HO}:upd (upd H a o) a u=upd H a u:=by
 funext b;unfold upd;split <;> rfl
def q114{H:Hp}{a b:Addr}{o u:HO}(h:H a=some o)(h':H b=some u)(d:o≠u):a≠b:=by
 intro e;subst e;rw[h]at h';exact d (Option.some.inj h')
def qz{H:Hp}{a b:Addr}{o:HO}(h:H a=some o)(h':H b=none):a≠b:=by
 intro e;subst e;rw[h]at h';cases h'
section
variable(P:Program)(w:World)
def ObjOk(H:Hp)(h:Heap)(a:Addr):HO->Prop
 | .lst xs=>xs.length<=sizeLine/\∃(its:xH) (n:Nat),Vals xs its/\h.get? a=some {cls:= .type "list",data:= .seq its.toArray n}
 | .tup xs=>xs.length<=sizeLine/\∃its:List Value,Vals xs its/\IsTup h a its.toArray
 | .dK kvs=>kvs.length<=sizeLine/\(a==sysModules)=false/\∃vs,KV kvs vs/\h.DictOf (q1c P w) a vs
 | .dT kvs=>kvs.length<=sizeLine/\(a==sysModules)=false/\∃xs:List (List Key×Addr×Value),
   Paired (λ(p:List Key×V) (q:List Key×Addr×Value)=>p.1=q.1/\H q.2.1=some (.tup (p.1.map kV))/\RelV p.2 q.2.2) kvs xs/\
   ∃o es ep,h.get? a=some o/\o.ExactDict/\o.data= .dict es ep/\es.toList=xs.map (entryOfKey (tupleKind (q1c P w)))/\(xs.map (·.1)).Nodup
 | .set S n=>h.SetOf (intKind P w) a S n
 | .ins C dx fs=>H dx=some (.own a)/\fs.length<=1000/\dx≠a/\h.get? a=some (PySem.W.instObj C dx)/\
   ∃mA,h.Ns1 dx mA/\(∀f,RelO (fs.lookup f) (mA f))/\PySem.Within mA (fs.map (·.1))
 | .own _=>∃o,h.get? a=some o
 | .xd fs=>∃mA,h.Ns1 a mA/\∀f,RelO (fs.lookup f) (mA f)
 | .rng lo hi=>∃t u v,h.get? a=some {cls:= .type "range",data:= .fields #[.int lo t,.int hi u,.int 1 v]}
 | .frz o u=>h.get? a=some o/\ObjOk H h a u
 | .tbl ps=>h.get? a=some {cls:= .none,data:= .fields ps}
 | .met f x=>h.get? a=some (PySem.W.methodObj (.ref f) (.ref x))
 | .ext φ=>φ h/\(∃o,h.get? a=some o)/\∀h1 h2:Heap,φ h1->(∀o,h1.get? a=some o->h2.get? a=some o)->φ h2
def HOk(H:Hp)(h:Heap):Prop:=∀a o,H a=some o->ObjOk P w H h a o
end
section
variable{P:Program}{w:World}{H H':Hp}{h h':Heap}{a:Addr}{o:HO}
theorem ObjOk.lt(x:ObjOk P w H h a o):a < h.objs.size:=by
 cases o with
 | lst xs=>obtain⟨_,_,_,_,e⟩:=x;exact z3y e
 | tup xs=>obtain⟨_,_,_,p⟩:=x;exact p.lt
 | dK kvs=>obtain⟨_,_,_,_,o,_,_,e,_⟩:=x;exact z3y e
 | dT kvs=>obtain⟨_,_,_,_,o,_,_,e,_⟩:=x;exact z3y e
 | set S n=>obtain⟨o,_,_,_,e,_⟩:=x;exact z3y e
 | ins C dx fs=>obtain⟨_,_,_,e,_⟩:=x;exact z3y e
 | own y=>obtain⟨_,e⟩:=x;exact z3y e
 | xd fs=>obtain⟨_,⟨_,_,_,e,_⟩,_⟩:=x;exact z3y e
 | rng lo hi=>obtain⟨_,_,_,e⟩:=x;exact z3y e
 | frz ob u=>obtain⟨e,_⟩:=x;exact z3y e
 | tbl ps=>exact z3y (show h.get? a=some _ from x)
 | met f y=>exact z3y (show h.get? a=some _ from x)
 | ext φ=>obtain⟨_,⟨_,e⟩,_⟩:=x;exact z3y e
theorem Paired.mapP{α β:Type}{F G:α->β->Prop}:∀{D:List α} {J:List β},Paired F D J->(∀a b,F a b->G a b)->Paired G D J
 | _,_,.nil,_=> .nil
 | _,_,.cons r t,f=> .cons (f _ _ r) (Paired.mapP t f)
def ObjOk.stay(x:ObjOk P w H h a o)(k:∀b u,(b=a\/ H b=some (.own a))->h.get? b=some u->h'.get? b=some u)
  (ho:∀b,H b=some (.own a)->H' b=some (.own a)) (ht:∀b xs,H b=some (.tup xs)->H' b=some (.tup xs)):ObjOk P w H' h' a o:=by
 induction o with
 | lst xs=>obtain⟨z,its,n,r,e⟩:=x;exact⟨z,its,n,r,k _ _ (.inl rfl) e⟩
 | tup xs=>obtain⟨z,its,r,D,e,c⟩:=x;exact⟨z,its,r,D,k _ _ (.inl rfl) e,c⟩
 | dK kvs=>obtain⟨z,y,vs,r,D,es,ep,e,c⟩:=x;exact⟨z,y,vs,r,D,es,ep,k _ _ (.inl rfl) e,c⟩
 | dT kvs=>
  obtain⟨z,y,xs,r,D,es,ep,e,c⟩:=x;exact⟨z,y,xs,Paired.mapP r λp q z=>⟨z.1,ht _ _ z.2.1,z.2.2⟩,D,es,ep,k _ _ (.inl rfl) e,c⟩
 | set S n=>obtain⟨D,es,ep,t,e,c⟩:=x;exact⟨D,es,ep,t,k _ _ (.inl rfl) e,c⟩
 | ins C dx fs=>
  obtain⟨d,z,ne,e,mA,⟨J,es,ep,e2,c⟩,r⟩:=x;exact⟨ho _ d,z,ne,k _ _ (.inl rfl) e,mA,⟨J,es,ep,k _ _ (.inr d) e2,c⟩,r⟩
 | own y=>obtain⟨D,e⟩:=x;exact⟨D,k _ _ (.inl rfl) e⟩
 | xd fs=>obtain⟨mA,⟨J,es,ep,e,c⟩,r⟩:=x;exact⟨mA,⟨J,es,ep,k _ _ (.inl rfl) e,c⟩,r⟩
 | rng lo hi=>obtain⟨t,u,v,e⟩:=x;exact⟨t,u,v,k _ _ (.inl rfl) e⟩
 | frz D u ih=>obtain⟨e,q⟩:=x;exact⟨k _ _ (.inl rfl) e,ih q⟩
 | tbl ps=>
  have e:h.get? a=some {cls:= .none,data:= .fields ps}:=x;show h'.get? a=some {cls:= .none,data:= .fields ps};exact k a _ (.inl rfl) e
 | met f y=>
  have e:h.get? a=some (PySem.W.methodObj (.ref f) (.ref y)):=x;show h'.get? a=some (PySem.W.methodObj (.ref f) (.ref y));exact k a _ (.inl rfl) e
 | ext φ=>obtain⟨p,⟨o,e⟩,st⟩:=x;exact⟨st _ _ p λo q=>k _ _ (.inl rfl) q,⟨o,k _ _ (.inl rfl) e⟩,st⟩
theorem HOk.lt(x:HOk P w H h)(e:H a=some o):a < h.objs.size:=(x a o e).lt
def HOk.fresh(x:HOk P w H h)(e:h.objs.size<=a):H a=none:=by
 cases q:H a with
 | none=>rfl
 | some u=>exact absurd (z1r (x.lt q) e) (z3o _)
def HOk.kept(x:HOk P w H h)(k:∀b u,h.get? b=some u->h'.get? b=some u):HOk P w H h':=λa o e=>
 (x a o e).stay (λb u _ q=>k b u q) (λ_ q=>q) λ_ _ q=>q
def HOk.laid(x:HOk P w H h)(k:∀b u,h.get? b=some u->h'.get? b=some u)(hp:h.objs.size<=a)(new:ObjOk P w (upd H a o) h' a o):HOk P w (upd H a o) h':=λb u e=>by
 have hn:=x.fresh hp;by_cases D:b=a
 ·subst D;rw[qb]at e;cases e;exact new
 ·rw[qi D]at e;exact(x b u e).stay (λc v _ q=>k c v q) (λc q=>by rw[qi (qz q hn)];exact q) λc xs q=>by rw[qi (qz q hn)];exact q
end
def Rd(H:Hp)(a:Addr)(u:HO):Prop:=H a=some u\/ ∃o,H a=some (.frz o u)
def Rd.ok{P:Program}{w:World}{H:Hp}{h:Heap}{a:Addr}{u:HO}(r:Rd H a u)(x:HOk P w H h):ObjOk P w H h a u:=by
 rcases r with r | ⟨o,r⟩
 ·exact x a u r
 ·obtain⟨_,q⟩:=x a _ r;exact q
def Mut:Option HO->Prop
 | some (.lst _)=>True
 | some (.dK _)=>True
 | some (.dT _)=>True
 | some (.set _ _)=>True
 | some (.ins _ _ _)=>True
 | some (.ext _)=>True
 | _=>False
section
variable{P:Program}{w:World}{H:Hp}{h h':Heap}{x e:Addr}{o':HO}
def HOk.write(ok:HOk P w H h)(mu:Mut (H x))(he:e=x\/ H e=some (.own x))(k:∀b u,b≠e->h.get? b=some u->h'.get? b=some u)(a0:∃u,h'.get? e=some u)
    (new:ObjOk P w (upd H x o') h' x o'):HOk P w (upd H x o') h':=λb u q=>by
  have J:∀c y,H c=some (.own y)->c≠x:=λc y r z=>by subst z;rw[r]at mu;exact mu
  have O:∀c xs,H c=some (.tup xs)->c≠x:=λc xs r z=>by subst z;rw[r]at mu;exact mu
  by_cases Z:b=x
  · subst Z;rw[qb]at q;cases q;exact new
  · rw[qi Z]at q
    by_cases D:b=e
    · have q':H b=some (.own x):=by
        rcases he with z | z
        · exact absurd (D.trans z) Z
        · rw[D];exact z
      rw[q]at q';cases q';obtain⟨v,hv⟩:=a0;exact⟨v,by rw[D];exact hv⟩
    · refine(ok b u q).stay (λc v hc r=>k c v ?_ r) (λc r=>by rw[qi (J c b r)];exact r) λc xs r=>by rw[qi (O c xs r)];exact r
      rcases hc with rfl | hc
      · exact D
      · rintro rfl
        rcases he with z | z
        · exact J c b hc z
        · rw[hc]at z;cases z;exact Z rfl
end
structure Un (fs ex:List Addr) (H H':Hp) (h h':Heap):Prop where
 keep:∀b o,h.get? b=some o->H b=none->b∉fs->b∉ex->h'.get? b=some o
 slot:∀b o,h.get? b=some o->H b=none->b∈fs->b∉ex->∃sl,h'.get? b=some {o with slots:=sl}
 free:∀b o,h.get? b=some o->H b=none->b∉ex->H' b=none
 there:∀b o,h.get? b=some o->b∉ex->∃o',h'.get? b=some o'
 tups:∀b xs,H b=some (.tup xs)->H' b=some (.tup xs)
 frzs:∀b o u,H b=some (.frz o u)->H' b=some (.frz o u)
 tbls:∀b ps,H b=some (.tbl ps)->∃more,H' b=some (.tbl (ps++more))
section
variable{fs fs' ex ex':List Addr}{H H1 H2:Hp}{h h1 h2 h':Heap}{a x e:Addr}{o:HO}
def Un.any(u:Un fs ex H H1 h h1){b:Addr}{D:Obj}(q:h.get? b=some D)(n:H b=none)(hx:b∉ex):∃sl,h1.get? b=some {D with slots:=sl}:=by
 by_cases J:b∈fs
 ·exact u.slot b D q n J hx
 ·exact⟨D.slots,u.keep b D q n J hx⟩
def Un.kept(k:∀b u,h.get? b=some u->h'.get? b=some u):Un fs ex H H h h':=
 ⟨λb D q _ _ _=>k b D q,λb D q _ _ _=>⟨D.slots,k b D q⟩,λ_ _ _ n _=>n,λb D q _=>⟨D,k b D q⟩,λ_ _ q=>q,λ_ _ _ q=>q,λ_ ps q=>⟨#[],by rw[q];simp⟩⟩
def Un.refl:Un fs ex H H h h:=Un.kept λ_ _ q=>q
def Un.laid(k:∀b u,h.get? b=some u->h'.get? b=some u)(hp:h.objs.size<=a)(hn:H a=none):Un fs ex H (upd H a o) h h' where
 keep:=λb u q _ _ _=>k b u q
 slot:=λb u q _ _ _=>⟨u.slots,k b u q⟩
 free:=λb u q n _=>by rw[qi (z3z (z1r (z3y q) hp))];exact n
 there:=λb u q _=>⟨u,k b u q⟩
 tups:=λb xs q=>by rw[qi (qz q hn)];exact q
 frzs:=λb u xs q=>by rw[qi (qz q hn)];exact q
 tbls:=λb ps q=>⟨#[],by rw[qi (qz q hn),q];simp⟩
def Un.write(mu:Mut (H x))(he:e=x\/ H e=some (.own x))(k:∀b u,b≠e->h.get? b=some u->h'.get? b=some u)(J:∃u,h'.get? e=some u):Un fs ex H (upd H x o) h h':=by
 have hx:∀b,H b=none->b≠x:=λb n z=>by subst z;rw[n]at mu;exact mu
 have Z:∀b,H b=none->b≠e:=λb n z=>by
  subst z;rcases he with r | r
  ·exact hx b n r
  ·rw[n]at r;cases r
 have O:∀b u,H b=some u->¬ Mut (some u)->b≠x:=λb u q nm z=>by subst z;rw[q]at mu;exact nm mu
 refine⟨λb u q n _ _=>k b u (Z b n) q,λb u q n _ _=>⟨u.slots,k b u (Z b n) q⟩,λb u q n _=>by rw[qi (hx b n)];exact n,λb u q _=>?_,
  λb xs q=>by rw[qi (O b _ q λz=>z)];exact q,λb u xs q=>by rw[qi (O b _ q λz=>z)];exact q,λb ps q=>⟨#[],by rw[qi (O b _ q λz=>z),q];simp⟩⟩
 by_cases D:b=e
 ·subst D;exact J
 ·exact⟨u,k b u D q⟩
end
def trk(h:Heap)(H:Hp):List Addr:=(List.range h.objs.size).filter λa=>(H a).isSome
def hidT(h:Heap)(H:Hp):Heap:=PySem.W.hideAll h (trk h H)
def qqr(h:Heap)(H:Hp):(hidT h H).objs.size=h.objs.size:=PySem.W.hideAll_size _ _
def qtr{h:Heap}{H:Hp}{b:Addr}{o:Obj}(e:h.get? b=some o)(n:H b=none):(hidT h H).get? b=some o:=
 PySem.W.hideAll_get _ e λhm=>by
  have q:(H b).isSome=true:=(z2x.mp hm).2;rw[n]at q;simp at q
def qwu{h:Heap}{H:Hp}{b:Addr}{o:Obj}(e:(hidT h H).get? b=some o):h.get? b=some o/\H b=none:=by
 have e':h.get? b=some o:=PySem.W.of_hideAll (trk h H) e;refine⟨e',?_⟩;cases q:H b with
 | none=>rfl
 | some x=>
  have hm:b∈trk h H:=z2x.mpr ⟨z3c.mpr (z3y e'),by simp[q]⟩;have z:(hidT h H).get? b=none:=PySem.W.hideAll_none (trk h H) hm;rw[z]at e;cases e
structure Mod (K:xA) (mg:xE) (base:Heap):Prop where
 kin:K.In base
 glob:base.Ns mainGlobals mg
 blt:∃mb,base.Ns builtinsNs mb/\∀x:Str,x≠"__name__" ->mb x=bootBuiltins x
 nolimit:base.NoLimit
structure Cx where
 prog:Program
 w:World
 K:xA
 mg:Str->Option Value
 base:Heap
 A:Around
 N:List Str
 s₀:Shared
 H₀:Hp
 env:Env
 outer:List Env
 stack:List Env
 ex:List Addr
 fn:Str->Bool
 calm:Bool
 pn:List (Addr×Obj)
 xe:xB
def frs(l:List Env):List Addr:=l.filterMap (·.frame)
abbrev Cx.fs(X:Cx):List Addr:=frs X.outer
def Vis(sc:Scope)(x:Str):Prop:=sc.names.lookup x=some .local\/ sc.names.lookup x=some .cell\/ sc.names.lookup x=some .free
def Loc(sc:Scope)(x:Str):Prop:=sc.names.lookup x=some .local\/ sc.names.lookup x=some .cell
def Look(env:Env)(h:Heap)(m:xE)(x:Str)(u:Value):Prop:=
 (env.kindOf x=some .local/\m x=some u)\/ ((env.kindOf x=some .cell\/ env.kindOf x=some .free)/\∃c,env.cells.lookup x=some c/\h.IsCell c (some u))
structure Cx.Ok (X:Cx):Prop where
 mod:Mod X.K X.mg X.base
 kind:X.env.scope.kind= .function
 glob:X.env.globals=mainGlobals
 blt:X.env.builtins=builtinsNs
 above:X.s₀.heap.objs.size<=X.env.locals
 inj:∀x y c,X.env.cells.lookup x=some c->X.env.cells.lookup y=some c->x=y
 has:∀x,(X.env.kindOf x=some .cell\/ X.env.kindOf x=some .free)->∃c,X.env.cells.lookup x=some c
 cab:∀x c,X.fn x=true->X.env.cells.lookup x=some c->X.s₀.heap.objs.size<=c
 hd:X.calm=true->X.A.handled=none
 frames:X.A.frames=some X.stack
 stk:X.stack=X.outer\/ (X.stack=X.env::X.outer/\X.env.frame=some X.env.locals)
 exf:∀b∈X.ex,b≠X.env.locals/\∀x c,X.env.cells.lookup x=some c->c≠b
 bs:∀b o,X.base.get? b=some o->X.s₀.heap.get? b=some o/\X.H₀ b=none
 bsz:X.base.objs.size<=X.s₀.heap.objs.size
 noex:∀b o,X.base.get? b=some o->b∉X.ex
 exfs:∀b∈X.ex,b∉X.fs
 funs:X.s₀.heap.FunFrames X.base X.outer
 frf:∀b∈X.fs,X.H₀ b=none
structure Inv (X:Cx) (xC:xG) (σ:List (Option V)) (H:Hp) (s:Shared):Prop where
 ok:X.Ok
 os:s.os=X.s₀.os
 bare:AllBare s.gens
 base:Un X.fs X.ex X.H₀ H X.s₀.heap s.heap
 loc:∃m,s.heap.Ns X.env.locals m/\∀(i:Nat) (x:Str) (v:V),X.N[i]? =some x->σ[i]? =some (some v)->Vis X.env.scope x->∃u,RelV v u/\Look X.env s.heap m x u
 cell:∀x c,X.env.cells.lookup x=some c->∃v,s.heap.IsCell c v
 free:H X.env.locals=none
 freeC:∀x c,X.env.cells.lookup x=some c->H c=none
 pin:∀p∈X.pn++xC,s.heap.get? p.1=some p.2/\H p.1=none/\p.1≠X.env.locals/\p.1∉X.fs/\∀v,p.2.data≠ .cell v
 hok:HOk X.prog X.w H s.heap
 len:σ.length=X.N.length
section
variable{X:Cx}{xC:xG}{σ:List (Option V)}{H H':Hp}{s:Shared}{h':Heap}
def Cx.Ok.nofr(ok:X.Ok){b:Addr}{o:Obj}(e:X.base.get? b=some o):b∉X.fs:=λhb=>by
 have:=(ok.funs.mem hb).1;rw[e]at this;cases this
theorem Inv.bs(I:Inv X xC σ H s):∀b o,X.base.get? b=some o->s.heap.get? b=some o/\H b=none:=λb o e=>
 ⟨I.base.keep b o (I.ok.bs b o e).1 (I.ok.bs b o e).2 (I.ok.nofr e) (I.ok.noex b o e),I.base.free b o (I.ok.bs b o e).1 (I.ok.bs b o e).2 (I.ok.noex b o e)⟩
def Inv.bk(I:Inv X xC σ H s):∀b o,X.base.get? b=some o->s.heap.get? b=some o:=λb o e=>(I.bs b o e).1
theorem Inv.mod(I:Inv X xC σ H s):Mod X.K X.mg X.base:=I.ok.mod
def Inv.kIn(I:Inv X xC σ H s):X.K.In s.heap:=I.ok.mod.kin.keeps I.bk
theorem Inv.lt(I:Inv X xC σ H s):X.env.locals < s.heap.objs.size:=let ⟨_,hn,_⟩:=I.loc;hn.lt
def Inv.sz(I:Inv X xC σ H s):X.s₀.heap.objs.size<=s.heap.objs.size:=z40 I.ok.above (z3x I.lt)
def Inv.nofs(I:Inv X xC σ H s){a:Addr}(h:s.heap.objs.size<=a):a∉X.fs:=λhb=>by
 obtain⟨_,o,ho,_⟩:=I.ok.funs.mem hb;exact absurd (z1r (z3y ho) (z40 I.sz h)) (z3o _)
def Inv.cne(I:Inv X xC σ H s):∀x c,X.env.cells.lookup x=some c->c≠X.env.locals:=λx c e z=>by
 obtain⟨v,o,ho,hd⟩:=I.cell x c e;obtain⟨m,⟨o',es,ep,J,D,_⟩,_⟩:=I.loc;rw[z,J]at ho;cases ho;rw[D]at hd;cases hd
theorem Inv.funs(I:Inv X xC σ H s):s.heap.FunFrames X.base X.outer:=by
 have all:∀(l:List Env),(∀b∈frs l,b∈X.fs)->X.s₀.heap.FunFrames X.base l->s.heap.FunFrames X.base l:=by
  intro l
  induction l with
  | nil=>intro _ _;trivial
  | cons env r ih=>
   intro O hl;obtain⟨hk,⟨L,o,hf,hn,ho,hd⟩,hr⟩:=hl;have D:L∈X.fs:=O L (by unfold frs;rw[List.filterMap_cons,hf];exact z1p);obtain⟨sl,e⟩:=I.base.slot L o ho (I.ok.frf L D) D λz=>I.ok.exfs L z D;exact⟨hk,⟨L,_,hf,hn,e,hd⟩,ih (λb J=>O b (by unfold frs;rw[List.filterMap_cons,hf];exact z16 _ J)) hr⟩
 exact all X.outer (λ_ J=>J) I.ok.funs
theorem Inv.stack(I:Inv X xC σ H s):s.heap.FunFrames X.base X.stack:=by
 rcases I.ok.stk with e | ⟨e,hf⟩
 ·rw[e];exact I.funs
 ·rw[e];obtain⟨m,hn,_⟩:=I.loc;refine .cons (by rw[I.ok.kind];decide) hf hn ?_ I.funs;exact Heap.get?_none_of_le (z40 I.ok.bsz I.ok.above)
def Inv.stkSub(I:Inv X xC σ H s):∀b∈frs X.stack,b∈X.env.locals::X.fs:=λb D=>by
 rcases I.ok.stk with e | ⟨e,hf⟩
 ·rw[e]at D;exact z16 _ D
 ·rw[e]at D;unfold frs at D;rw[List.filterMap_cons,hf]at D;exact D
def Inv.stkFree(I:Inv X xC σ H s):∀b∈frs X.stack,H b=none:=λb D=>by
 rcases z3m.mp (I.stkSub b D) with e | D
 ·rw[e];exact I.free
 ·obtain⟨_,o,ho,_⟩:=I.ok.funs.mem D;exact I.base.free b o ho (I.ok.frf b D) λz=>I.ok.exfs b z D
def Inv.step{g':Array GenState}{t':Nat}{d':Drawn}{ch:List Addr}(I:Inv X xC σ H s)
  (J:∀b∈ch,(b∈X.ex\/ X.s₀.heap.objs.size<=b)/\b≠X.env.locals/\(∀x c,X.env.cells.lookup x=some c->c≠b)/\∀p∈X.pn++xC,p.1≠b)
  (keep:∀b o,b≠X.env.locals->b∉X.fs->b∉ch->s.heap.get? b=some o->H b=none->h'.get? b=some o)
  (slot:∀b o,b≠X.env.locals->b∈X.fs->b∉ch->s.heap.get? b=some o->H b=none->∃sl,h'.get? b=some {o with slots:=sl}) (free:∀b o,b∉ch->s.heap.get? b=some o->H b=none->H' b=none)
  (there:∀b o,b∉ch->s.heap.get? b=some o->∃o',h'.get? b=some o')
  (tups:∀b xs,H b=some (.tup xs)->H' b=some (.tup xs)) (frzs:∀b o u,H b=some (.frz o u)->H' b=some (.frz o u)) (tbls:∀b ps,H b=some (.tbl ps)->∃more,H' b=some (.tbl (ps++more)))
  (ns:∀m,s.heap.Ns X.env.locals m->h'.Ns X.env.locals m) (hok:HOk X.prog X.w H' h') (hg:AllBare g'):
  Inv X xC σ H' {s with heap:=h',gens:=g',drawn:=d',toks:=t'}:=by
 have a0:∀b o,X.s₀.heap.get? b=some o->b≠X.env.locals:=λb o e=>z3z (z1r (z3y e) I.ok.above);have Z:∀b o,X.s₀.heap.get? b=some o->b∉X.ex->b∉ch:=λb o e hx hb=>by
  rcases (J b hb).1 with z | z
  ·exact hx z
  ·exact absurd (z1r (z3y e) z) (z3o _)
 have D:∀x c,X.env.cells.lookup x=some c->∀v,s.heap.IsCell c v->h'.IsCell c v:=λx c e v ⟨o,ho,hd⟩=>by
  have O:c∉ch:=λz=>(J c z).2.2.1 x c e rfl;by_cases hc:c∈X.fs
  ·obtain⟨sl,q⟩:=slot c o (I.cne x c e) hc O ho (I.freeC x c e);exact⟨_,q,hd⟩
  ·exact⟨o,keep c o (I.cne x c e) hc O ho (I.freeC x c e),hd⟩
 refine⟨I.ok,I.os,hg,⟨λb o e n hb hx=>?_,λb o e n hb hx=>?_,λb o e n hx=>?_,λb o e hx=>?_,λb xs e=>tups b xs (I.base.tups b xs e),λb o xs e=>frzs b o xs (I.base.frzs b o xs e),λb ps e=>?_⟩,?_,λx c e=>?_,?_,λx c e=>?_,λp hp=>?_,hok,I.len⟩
 ·exact keep b o (a0 b o e) hb (Z b o e hx) (I.base.keep b o e n hb hx) (I.base.free b o e n hx)
 ·obtain⟨sl,e1⟩:=I.base.slot b o e n hb hx;obtain⟨a1,e2⟩:=slot b _ (a0 b o e) hb (Z b o e hx) e1 (I.base.free b o e n hx);exact⟨a1,e2⟩
 ·obtain⟨o',e1⟩:=I.base.there b o e hx;exact free b o' (Z b o e hx) e1 (I.base.free b o e n hx)
 ·obtain⟨o',e1⟩:=I.base.there b o e hx;exact there b o' (Z b o e hx) e1
 ·obtain⟨m1,e1⟩:=I.base.tbls b ps e;obtain⟨m2,e2⟩:=tbls b _ e1;exact⟨m1++m2,by rw[e2,Array.append_assoc]⟩
 ·obtain⟨m,hn,hl⟩:=I.loc;refine⟨m,ns m hn,λi x v e1 e2 e3=>?_⟩;obtain⟨u,r,l⟩:=hl i x v e1 e2 e3;refine⟨u,r,?_⟩;rcases l with l | ⟨k,c,e,z⟩
  ·exact .inl l
  ·exact .inr ⟨k,c,e,D x c e _ z⟩
 ·obtain⟨v,z⟩:=I.cell x c e;exact⟨v,D x c e v z⟩
 ·obtain⟨m,⟨o,_,_,ho,_⟩,_⟩:=I.loc;exact free _ o (λz=>(J _ z).2.1 rfl) ho I.free
 ·obtain⟨v,o,ho,hd⟩:=I.cell x c e;exact free c o (λz=>(J c z).2.2.1 x c e rfl) ho (I.freeC x c e)
 ·obtain⟨e,n,ne,nf,d⟩:=I.pin p hp;have O:p.1∉ch:=λz=>(J p.1 z).2.2.2 p hp rfl;exact⟨keep p.1 p.2 ne nf O e n,free p.1 p.2 O e n,ne,nf,d⟩
def Inv.un{t':Nat}(I:Inv X xC σ H s)(u:Un X.fs [] H H' s.heap h')(hok:HOk X.prog X.w H' h'):Inv X xC σ H' {s with heap:=h',toks:=t'}:=by
 obtain⟨m,⟨o,es,ep,ho,r⟩,_⟩:=id I.loc;obtain⟨sl,hL⟩:=u.any ho I.free (by simp);exact I.step (g':=s.gens) (d':=s.drawn) (ch:=[]) (λ_ z=>nomatch z) (λb o _ Z _ e n=>u.keep b o e n Z (by simp)) (λb o _ Z _ e n=>u.slot b o e n Z (by simp)) (λb o _ e n=>u.free b o e n (by simp)) (λb o _ e=>u.there b o e (by simp)) u.tups u.frzs u.tbls (λm' hm=>by
  obtain⟨o',O,J,D,r'⟩:=hm;rw[ho]at D;cases D;exact⟨_,O,J,hL,r'⟩) hok I.bare
def Inv.call{g':Array GenState}{t':Nat}{d':Drawn}{ch:List Addr}(I:Inv X xC σ H s)(u:Un (frs X.stack) ch H H' s.heap h')(hok:HOk X.prog X.w H' h')(hg:AllBare g')
  (J:∀b∈ch,(b∈X.ex\/ X.s₀.heap.objs.size<=b)/\b≠X.env.locals/\(∀x c,X.env.cells.lookup x=some c->c≠b)/\∀p∈X.pn++xC,p.1≠b):
  Inv X xC σ H' {s with heap:=h',gens:=g',drawn:=d',toks:=t'}:=by
 obtain⟨m,⟨o,es,ep,ho,r⟩,_⟩:=id I.loc;obtain⟨sl,hL⟩:=u.any ho I.free λz=>(J _ z).2.1 rfl;exact I.step (ch:=ch) J (λb o hL hb D e n=>u.keep b o e n (λz=>(z3m.mp (I.stkSub b z)).elim hL hb) D) (λb o _ _ D e n=>u.any e n D) (λb o D e n=>u.free b o e n D) (λb o D e=>u.there b o e D) u.tups u.frzs u.tbls (λm' hm=>by
  obtain⟨o',a0,Z,O,r'⟩:=hm;rw[ho]at O;cases O;exact⟨_,a0,Z,hL,r'⟩) hok hg
def Inv.turned{t':Nat}{it:Addr}(I:Inv X xC σ H s)(k:∀b o,b≠it->s.heap.get? b=some o->h'.get? b=some o)(hn:H it=none)(O:it≠X.env.locals)
  (h1:it∈X.ex\/ X.s₀.heap.objs.size<=it) (h2:∀x c,X.env.cells.lookup x=some c->c≠it) (h3:∀p∈X.pn++xC,p.1≠it):Inv X xC σ H {s with heap:=h',toks:=t'}:=by
 have J:∀b u,H b=some u->b≠it:=λb u e z=>by rw[z,hn]at e;cases e
 refine I.step (g':=s.gens) (d':=s.drawn) (ch:=[it]) (λb hb=>?_) (λb o _ _ D e _=>k b o (λz=>D (by simp[z])) e) (λb o _ _ D e _=>⟨o.slots,k b o (λz=>D (by simp[z])) e⟩) (λ_ _ _ _ n=>n)
  (λb o D e=>⟨o,k b o (λz=>D (by simp[z])) e⟩) (λ_ _ e=>e) (λ_ _ _ e=>e) (λb ps e=>⟨#[],by rw[e];simp⟩) (λm hm=>?_) (λb u e=>?_) I.bare
 ·have e:b=it:=by simpa using hb
  subst e;exact⟨h1,O,h2,h3⟩
 ·obtain⟨o,es,ep,ho,r⟩:=hm;exact⟨o,es,ep,k _ o (Ne.symm O) ho,r⟩
 ·refine(I.hok b u e).stay (λc v D q=>k c v ?_ q) (λ_ q=>q) λ_ _ q=>q;rcases D with z | z
  ·rw[z];exact J b u e
  ·exact J c _ z
def Inv.tok(I:Inv X xC σ H s)(t:Nat):Inv X xC σ H {s with toks:=t}:=I.un (h':=s.heap) (t':=t) Un.refl I.hok
theorem Inv.kept{t':Nat}(I:Inv X xC σ H s)(k:∀b u,s.heap.get? b=some u->h'.get? b=some u):Inv X xC σ H {s with heap:=h',toks:=t'}:=I.un (Un.kept k) (I.hok.kept k)
theorem Inv.laid{a:Addr}{o:HO}{t':Nat}(I:Inv X xC σ H s)(k:∀b u,s.heap.get? b=some u->h'.get? b=some u)(D:s.heap.objs.size<=a)(new:ObjOk X.prog X.w (upd H a o) h' a o):
  Inv X xC σ (upd H a o) {s with heap:=h',toks:=t'}:=I.un (Un.laid k D (I.hok.fresh D)) (I.hok.laid k D new)
theorem Inv.write{x e:Addr}{o:HO}{t':Nat}(I:Inv X xC σ H s)(mu:Mut (H x))(J:e=x\/ H e=some (.own x))(k:∀b u,b≠e->s.heap.get? b=some u->h'.get? b=some u)(D:∃u,h'.get? e=some u)
  (new:ObjOk X.prog X.w (upd H x o) h' x o):Inv X xC σ (upd H x o) {s with heap:=h',toks:=t'}:=I.un (Un.write mu J k D) (I.hok.write mu J k D new)
def Inv.qnx{D:xG}(I:Inv X xC σ H s)(h:∀p∈D,s.heap.get? p.1=some p.2/\H p.1=none/\p.1≠X.env.locals/\p.1∉X.fs/\∀v,p.2.data≠ .cell v):Inv X D σ H s:=
 ⟨I.ok,I.os,I.bare,I.base,I.loc,I.cell,I.free,I.freeC,λp hp=>(z2u.mp hp).elim (λz=>I.pin p (z17 _ z)) (h p),I.hok,I.len⟩
def qkr{N:xD}(hN:N.Nodup){i j:Nat}{x:Str}(a:N[i]? =some x)(b:N[j]? =some x):i=j:=by
 obtain⟨h1,e1⟩:=z07.mp a;obtain⟨h2,e2⟩:=z07.mp b;exact(List.getElem_inj hN).mp (e1.trans e2.symm)
def qqs{M:Model}{A:Around}{E:xB}{i:Nat}{x:Str}{v:V}{u:Value}{Q:Unit->Shared->Prop}(I:Inv X xC σ H s)(hN:X.N.Nodup)(hi:X.N[i]? =some x)(hx:Loc X.env.scope x)(r:RelV v u)
    (h:∀s',Inv X xC (σ.set i (some v)) H s'->(∃a,Heap.SameBut a s.heap s'.heap/\(a=X.env.locals\/ X.env.cells.lookup x=some a))->Q () s') (hf:X.fn x=true\/ X.env.scope.names.lookup x=some .local:=by first | exact .inl rfl | exact .inr rfl | assumption):wpAny M A (storeName X.env x u) Q E s:=by
  obtain⟨m,hn,hl⟩:=id I.loc;have a4:(X.env.scope.kind== .class || (X.env.scope.kind== .module&&X.env.locals !=X.env.globals))=false:=by rw[I.ok.kind];rfl
  have a5:i < σ.length:=by rw[I.len];exact(z07.mp hi).1
  have cne:=I.cne;have J:∀{a:Addr} {h':Heap},(∃o,s.heap.get? a=some o/\H a=none)->Heap.SameBut a s.heap h'->HOk X.prog X.w H h':=λ{a h'} ha D b ob e=>by
    obtain⟨_,_,Z⟩:=ha;refine(I.hok b ob e).stay (λc w' O q=>(D.2 c ?_).trans q) (λ_ q=>q) λ_ _ q=>q;rintro rfl;rcases O with rfl | O
    · rw[Z]at e;cases e
    · rw[Z]at O;cases O
  rcases hx with hk | hk
  · refine wpAny_storeName_local hk hn (λh' a8 D=>?_) a4
    obtain⟨oL,_,_,a9,_⟩:=id hn;refine h _ ⟨I.ok,I.os,I.bare,⟨λb o e n hb hx=>?_,λb o e n hb hx=>?_,I.base.free,λb o e hx=>?_,I.base.tups,I.base.frzs,I.base.tbls⟩,⟨_,a8,λj y v' e1 e2 e3=>?_⟩,λy c e=>?_,I.free,I.freeC,λp hp=>?_,J ⟨oL,a9,I.free⟩ D,by simpa using I.len⟩ ⟨_,D,.inl rfl⟩
    · exact(D.2 b (z3z (z1r (z3y e) I.ok.above))).trans (I.base.keep b o e n hb hx)
    · obtain⟨sl,e1⟩:=I.base.slot b o e n hb hx
      exact⟨sl,(D.2 b (z3z (z1r (z3y e) I.ok.above))).trans e1⟩
    · obtain⟨o',e1⟩:=I.base.there b o e hx
      exact⟨o',(D.2 b (z3z (z1r (z3y e) I.ok.above))).trans e1⟩
    · by_cases hj:j=i
      · subst hj
        rw[hi]at e1;cases e1;rw[List.getElem?_set_self a5]at e2;cases e2
        exact⟨u,r,.inl ⟨hk,by simp⟩⟩
      · rw[List.getElem?_set_ne (Ne.symm hj)]at e2
        obtain⟨u',r',q⟩:=hl j y v' e1 e2 e3;refine⟨u',r',?_⟩;rcases q with ⟨k,e⟩ | ⟨k,c,e,z⟩
        · refine .inl ⟨k,?_⟩
          have:y≠x:=λe=>hj (qkr hN e1 (e ▸ hi));simp[this,e]
        · exact .inr ⟨k,c,e,z.sameBut D (cne y c e)⟩
    · obtain⟨w',z⟩:=I.cell y c e
      exact⟨w',z.sameBut D (cne y c e)⟩
    · obtain⟨e,n,ne,nf,d⟩:=I.pin p hp
      exact⟨(D.2 p.1 ne).trans e,n,ne,nf,d⟩
  · have a0:X.fn x=true:=by
      rcases hf with z | z
      · exact z
      · rw[z]at hk;cases hk
    obtain⟨c,O⟩:=I.ok.has x (.inl hk);obtain⟨w',z⟩:=I.cell x c O;refine wpAny_storeName_cell I.ok.kind hk O z (λh' a1 D=>?_);obtain⟨oc,a6,a7⟩:=id z;refine h {s with heap:=h'} ⟨I.ok,I.os,I.bare,⟨λb o e n hb hx=>?_,λb o e n hb hx=>?_,I.base.free,λb o e hx=>?_,I.base.tups,I.base.frzs,I.base.tbls⟩,⟨m,hn.sameBut D (Ne.symm (cne x c O)),λj y v' e1 e2 e3=>?_⟩,λy c' e=>?_,I.free,I.freeC,λp hp=>?_,J ⟨oc,a6,I.freeC x c O⟩ D,by simpa using I.len⟩ ⟨c,D,.inr O⟩
    · exact(D.2 b (z3z (z1r (z3y e) (I.ok.cab x c a0 O)))).trans (I.base.keep b o e n hb hx)
    · obtain⟨sl,e1⟩:=I.base.slot b o e n hb hx
      exact⟨sl,(D.2 b (z3z (z1r (z3y e) (I.ok.cab x c a0 O)))).trans e1⟩
    · obtain⟨o',e1⟩:=I.base.there b o e hx
      exact⟨o',(D.2 b (z3z (z1r (z3y e) (I.ok.cab x c a0 O)))).trans e1⟩
    · by_cases hj:j=i
      · subst hj
        rw[hi]at e1;cases e1;rw[List.getElem?_set_self a5]at e2;cases e2
        exact⟨u,r,.inr ⟨.inl hk,c,O,a1⟩⟩
      · rw[List.getElem?_set_ne (Ne.symm hj)]at e2
        obtain⟨u',r',q⟩:=hl j y v' e1 e2 e3;refine⟨u',r',?_⟩;rcases q with q | ⟨k,c',e,z'⟩
        · exact .inl q
        · refine .inr ⟨k,c',e,z'.sameBut D ?_⟩
          rintro rfl;exact hj (qkr hN e1 (I.ok.inj _ _ _ e O ▸ hi))
    · by_cases a2:c'=c
      · subst a2;exact⟨_,a1⟩
      · obtain⟨w2,z2⟩:=I.cell y c' e
        exact⟨w2,z2.sameBut D a2⟩
    · obtain⟨e,n,ne,nf,d⟩:=I.pin p hp
      refine⟨(D.2 p.1 ?_).trans e,n,ne,nf,d⟩;intro q;rw[q,a6]at e;have q':oc=p.2:=Option.some.inj e;exact d w' (by rw[<- q'];exact a7)
def qde{M:Model}{A:Around}{E:xB}{i:Nat}{x:Str}{v:V}{u:Value}{Q:Unit->Shared->Prop}(I:Inv X xC σ H s)(hN:X.N.Nodup)(hi:X.N[i]? =some x)(hx:Loc X.env.scope x)(r:RelV v u)
  (h:∀s',Inv X xC (σ.set i (some v)) H s'->Q () s') (hf:X.fn x=true\/ X.env.scope.names.lookup x=some .local:=by first | exact .inl rfl | exact .inr rfl | assumption):wpAny M A (storeName X.env x u) Q E s:=
 qqs I hN hi hx r (λs' I' _=>h s' I') hf
def Inv.call'{s':Shared}{ch:List Addr}(I:Inv X xC σ H s)(ho:s'.os=s.os)(u:Un (frs X.stack) ch H H' s.heap s'.heap)(hok:HOk X.prog X.w H' s'.heap)(hg:AllBare s'.gens)
  (D:∀b∈ch,(b∈X.ex\/ X.s₀.heap.objs.size<=b)/\b≠X.env.locals/\(∀x c,X.env.cells.lookup x=some c->c≠b)/\∀p∈X.pn++xC,p.1≠b):Inv X xC σ H' s':=by
 obtain⟨h',g',d',t',o'⟩:=s';have e:o'=s.os:=ho;subst e;exact I.call (g':=g') (t':=t') (d':=d') u hok hg D
end
abbrev XK:=Value->Option Addr->Hp->Prop
abbrev St:=List (Option V)
abbrev VK:=V->Hp->Prop
abbrev TE:=St->Hp->VK->Prop
abbrev TT:=St->Hp->(Bool->Hp->Prop)->Prop
abbrev TA:=St->Hp->(List V->Hp->Prop)->Prop
structure Ends where
 nx:St->Hp->Prop
 rt:VK
 bk:St->Hp->Prop:=λ_ _=>False
 ct:St->Hp->Prop:=λ_ _=>False
abbrev TS:=Ends->St->Hp->Prop
def EP(X:Cx)(xC:xG)(σ:St)(Q:VK)(u:Value)(s':Shared):Prop:=∃v H',Inv X xC σ H' s'/\RelV v u/\Q v H'
def TP(X:Cx)(xC:xG)(σ:St)(Q:Bool->Hp->Prop)(b:Bool)(s':Shared):Prop:=∃H',Inv X xC σ H' s'/\Q b H'
def AP(X:Cx)(xC:xG)(σ:St)(Q:List V->Hp->Prop)(us:xH)(s':Shared):Prop:=∃vs H',Inv X xC σ H' s'/\Vals vs us/\Q vs H'
def SP(X:Cx)(xC:xG)(D:Ends)(f:Flow)(s':Shared):Prop:=
 match f with
 | .next=>∃σ' H',Inv X xC σ' H' s'/\D.nx σ' H'
 | .brk=>∃σ' H',Inv X xC σ' H' s'/\D.bk σ' H'
 | .cont=>∃σ' H',Inv X xC σ' H' s'/\D.ct σ' H'
 | .ret u=>∃v σ' H',Inv X xC σ' H' s'/\RelV v u/\D.rt v H'
def PE(X:Cx)(e:Expr)(t:TE):Prop:=
 ∀(xC:xG) (s:Shared) (σ:St) (H:Hp) (Q:VK),Inv X xC σ H s->t σ H Q->wpAny (model X.prog X.w) X.A (eval e X.env) (EP X xC σ Q) X.xe s
def PT(X:Cx)(e:Expr)(t:TT):Prop:=
 ∀(xC:xG) (s:Shared) (σ:St) (H:Hp) (Q:Bool->Hp->Prop),Inv X xC σ H s->t σ H Q->wpAny (model X.prog X.w) X.A (isTrue e X.env (eval e X.env)) (TP X xC σ Q) X.xe s
def PW(X:Cx)(e:Expr)(t:TT):Prop:=
 ∀(whole:Sem Value) (xC:xG) (s:Shared) (σ:St) (H:Hp) (Q:Bool->Hp->Prop),Inv X xC σ H s->t σ H Q->wpAny (model X.prog X.w) X.A (isTrue e X.env whole) (TP X xC σ Q) X.xe s
def PW.pt{X:Cx}{e:Expr}{t:TT}(h:PW X e t):PT X e t:=h _
def PA(X:Cx)(es:List Expr)(t:TA):Prop:=
 ∀(pos:Pos) (xC:xG) (s:Shared) (σ:St) (H:Hp) (Q:List V->Hp->Prop),Inv X xC σ H s->t σ H Q->wpAny (model X.prog X.w) X.A (spliced (backTo pos (starEach es X.env))) (AP X xC σ Q) X.xe s
def PS(X:Cx)(st:Stmt)(t:TS):Prop:=
 ∀(xC:xG) (s:Shared) (σ:St) (H:Hp) (D:Ends),Inv X xC σ H s->t D σ H->wpAny (model X.prog X.w) X.A (exec st X.env) (SP X xC D) X.xe s
def PSs(X:Cx)(st:List Stmt)(t:TS):Prop:=
 ∀(xC:xG) (s:Shared) (σ:St) (H:Hp) (D:Ends),Inv X xC σ H s->t D σ H->wpAny (model X.prog X.w) X.A (execs st X.env) (SP X xC D) X.xe s
def thn{α:Type}{t:Sem α}{Q D:α->Shared->Prop}{M:Model}{A:Around}{E:xB}{s:Shared}(h:wpAny M A t Q E s)(hQ:∀a s,Q a s->D a s):wpAny M A t D E s:=z4f h hQ λ_ _ x=>x
section
variable{X:Cx}
def tVar(i:Nat):TE:=λσ H Q=>∃v,σ[i]? =some (some v)/\Q v H
def tC(v:V):TE:=λ_ H Q=>Q v H
def qz4{i:Nat}{x:Str}{pos:Pos}(hN:X.N[i]? =some x)(hv:Vis X.env.scope x)(hd:(x==("__debug__":Str))=false:=by decide)(J:(x==("__classdict__":Str))=false:=by decide):PE X (.Name x pos) (tVar i):=by
 intro xC s σ H Q I h;obtain⟨v,e,h⟩:=h;obtain⟨m,hn,hl⟩:=I.loc;obtain⟨u,r,l⟩:=hl i x v hN e hv;have fin:EP X xC σ Q u s:=⟨v,H,I,r,h⟩;rcases l with ⟨hk,hm⟩ | ⟨hk,c,O,D⟩
 ·exact wpAny_Name (wpAny_loadName_local I.ok.kind hk hn hm fin) hd
 ·rcases hk with hk | hk
  ·exact wpAny_Name (wpAny_loadName_cell I.ok.kind hk O D fin) hd
  ·exact wpAny_Name (wpAny_loadName_free I.ok.kind hk O D fin J) hd
def qc{i j pos}:PE X (.Constant (.int i) j pos) (tC (.int i)):=λ_ _ _ H _ I h=>wpAny_Constant_int ⟨.int i,H,I.tok _,⟨_,rfl⟩,h⟩
def q3p{b j pos}:PE X (.Constant (.bool b) j pos) (tC (.bl b)):=λ_ _ _ H _ I h=>Constant_bool ⟨.bl b,H,I,rfl,h⟩
def q38{j pos}:PE X (.Constant .none j pos) (tC .non):=λ_ _ _ H _ I h=>Constant_none ⟨.non,H,I,rfl,h⟩
def qen{x j pos}:PE X (.Constant (.str x) j pos) (tC (.str x)):=λ_ _ _ H _ I h=>Calls.Constant_str ⟨.str x,H,I.tok _,⟨_,rfl⟩,h⟩
def Gl(X:Cx)(x:Str):Prop:=X.env.kindOf x=some .globalImplicit
def q8y{E:xB}{xC:xG}{s:Shared}{σ:St}{H:Hp}{x:Str}{u:Value}{pos:Pos}{Q:xB}(I:Inv X xC σ H s)(hg:Gl X x)(hm:X.mg x=some u)(h:Q u s)
  (hd:(x==("__debug__":Str))=false:=by decide):wpAny (model X.prog X.w) X.A (eval (.Name x pos) X.env) Q E s:=
 Calls.Name_function_global I.ok.kind hg (Calls.loadGlobal_global (by rw[I.ok.glob];exact I.mod.glob.keeps I.bk) hm h) hd
def q8z{E:xB}{xC:xG}{s:Shared}{σ:St}{H:Hp}{x:Str}{u:Value}{pos:Pos}{Q:xB}(I:Inv X xC σ H s)(hg:Gl X x)(hm:X.mg x=none)(hv:bootBuiltins x=some u)(h:Q u s)
  (hn:x≠"__name__":=by decide) (hd:(x==("__debug__":Str))=false:=by decide):wpAny (model X.prog X.w) X.A (eval (.Name x pos) X.env) Q E s:=by
 obtain⟨mb,h1,h2⟩:=I.mod.blt;exact Calls.Name_function_global I.ok.kind hg (Calls.loadGlobal_builtin (by rw[I.ok.glob];exact I.mod.glob.keeps I.bk) hm (by rw[I.ok.blt];exact h1.keeps I.bk) ((h2 x hn).trans hv) h) hd
def qny{x:Str}{v:V}{u:Value}{pos:Pos}(hg:Gl X x)(hm:X.mg x=some u)(r:RelV v u)(hd:(x==("__debug__":Str))=false:=by decide):PE X (.Name x pos) (tC v):=
 λ_ _ _ H _ I h=>q8y I hg hm ⟨v,H,I,r,h⟩ hd
def qwv{x:Str}{v:V}{u:Value}{pos:Pos}(hg:Gl X x)(hm:X.mg x=none)(hv:bootBuiltins x=some u)(r:RelV v u)(hn:x≠"__name__":=by decide)(hd:(x==("__debug__":Str))=false:=by decide):PE X (.Name x pos) (tC v):=
 λ_ _ _ H _ I h=>q8z I hg hm hv ⟨v,H,I,r,h⟩ hn hd
variable{a b:Expr}{ta tb:TE}{pos:Pos}
def PC(X:Cx)(op:CmpOp)(a b:Expr)(t:TE):Prop:=
 ∀(xC:xG) (s:Shared) (σ:St) (H:Hp) (Q:VK),Inv X xC σ H s->t σ H Q->
  wpAny (model X.prog X.w) X.A (eval a X.env) (λv s₁=>wpAny (model X.prog X.w) X.A (eval b X.env) (λu s₂=>wpAny (model X.prog X.w) X.A (compareOp op v u) (EP X xC σ Q) X.xe s₂) X.xe s₁) X.xe s
def tB(t:TE):TT:=λσ H Q=>t σ H λx H1=>∃c,x= .bl c/\Q c H1
def qeo{op:CmpOp}{t:TE}(h:PC X op a b t)(h1:behindInMarks op b=false:=by first | exact nobehind _ (by decide) (by decide) | rfl):PT X (.Compare a [op] [b] pos) (tB t):=by
 intro xC s σ H Q I hw;refine wpAny_isTrue_Compare1 (thn (h xC s σ H _ I hw) λv s1 h1=>thn h1 λu s2 h2=>thn h2 λc s3 D=>?_) h1;obtain⟨x,H1,I1,r1,q1⟩:=D;obtain⟨d,rfl,q⟩:=q1;cases r1
 exact z24 ⟨H1,I1,q⟩
def q3s{e:Expr}{t:TE}(h:PE X e t)(he:∀D,isTrue e X.env D=(do let v <- D;standAt e.pos;holding [v] (truthy v)):=by intro _;rfl):PT X e (tB t):=by
 intro xC s σ H Q I hw;refine isTrue_plain (thn (h xC s σ H _ I hw) λv s1 J=>?_) (he _);obtain⟨x,H1,I1,r1,q1⟩:=J;obtain⟨d,rfl,q⟩:=q1;cases r1
 exact z24 ⟨H1,I1,q⟩
variable{tA tB':TT}{rest:List Expr}
def tAnd(t u:TT):TT:=λσ H Q=>t σ H λc H1=>if c=true then u σ H1 Q else Q false H1
def tOr(t u:TT):TT:=λσ H Q=>t σ H λc H1=>if c=true then Q true H1 else u σ H1 Q
def tNot(t:TT):TT:=λσ H Q=>t σ H λc H1=>Q (!c) H1
def qc1(ha:PT X a tA):PW X (.BoolOp .And [a] pos) tA:=by
 intro wh xC s σ H Q I h;refine isTrue_and (thn (ha xC s σ H Q I h) λc s1 e=>?_);cases c with
 | true=>exact isTrue_and_nil e
 | false=>exact e
def q5a(ha:PT X a tA):PW X (.BoolOp .Or [a] pos) tA:=by
 intro wh xC s σ H Q I h;refine isTrue_or (thn (ha xC s σ H Q I h) λc s1 e=>?_);cases c with
 | false=>exact isTrue_or_nil e
 | true=>exact e
def qep(ha:PT X a tA)(hb:PW X (.BoolOp .And (b::rest) pos) tB'):PW X (.BoolOp .And (a::b::rest) pos) (tAnd tA tB'):=by
 intro wh xC s σ H Q I h;refine isTrue_and (thn (ha xC s σ H _ I h) λc s1 D=>?_);obtain⟨H1,I1,q1⟩:=D;cases c with
 | true=>exact hb wh xC s1 σ H1 Q I1 q1
 | false=>exact⟨H1,I1,q1⟩
def q7c(ha:PT X a tA)(hb:PW X (.BoolOp .Or (b::rest) pos) tB'):PW X (.BoolOp .Or (a::b::rest) pos) (tOr tA tB'):=by
 intro wh xC s σ H Q I h;refine isTrue_or (thn (ha xC s σ H _ I h) λc s1 D=>?_);obtain⟨H1,I1,q1⟩:=D;cases c with
 | true=>exact⟨H1,I1,q1⟩
 | false=>exact hb wh xC s1 σ H1 Q I1 q1
def q3t(ha:PT X a tA):PT X (.UnaryOp .Not a pos) (tNot tA):=by
 intro xC s σ H Q I h;exact isTrue_not (ha xC s σ H (λc H1=>Q (!c) H1) I h)
def q115(ta tb:TE):TE:=λσ H Q=>ta σ H λx H1=>∃c,x= .bl c/\if c=true then tb σ H1 Q else Q (.bl false) H1
def tOrV(ta tb:TE):TE:=λσ H Q=>ta σ H λx H1=>∃c,x= .bl c/\if c=true then Q (.bl true) H1 else tb σ H1 Q
def q116(ta:TE):TE:=λσ H Q=>ta σ H λx H1=>∃c,x= .bl c/\Q (.bl (!c)) H1
def q5b{op}{t:TE}(h:PE X a t):PE X (.BoolOp op [a] pos) t:=λxC s σ H Q I hw=>BoolOp_one (h xC s σ H Q I hw)
def q7m(ha:PE X a ta)(hb:PE X (.BoolOp .And (b::rest) pos) tb):PE X (.BoolOp .And (a::b::rest) pos) (q115 ta tb):=by
 intro xC s σ H Q I h;refine BoolOp_and (thn (ha xC s σ H _ I h) λv s1 D=>?_);obtain⟨x,H1,I1,r1,q1⟩:=D;obtain⟨c,rfl,q1⟩:=q1;cases r1
 refine z24 ?_;cases c with
 | true=>exact hb xC s1 σ H1 Q I1 q1
 | false=>exact⟨.bl false,H1,I1,rfl,q1⟩
def qw1(ha:PE X a ta)(hb:PE X (.BoolOp .Or (b::rest) pos) tb):PE X (.BoolOp .Or (a::b::rest) pos) (tOrV ta tb):=by
 intro xC s σ H Q I h;refine BoolOp_or (thn (ha xC s σ H _ I h) λv s1 D=>?_);obtain⟨x,H1,I1,r1,q1⟩:=D;obtain⟨c,rfl,q1⟩:=q1;cases r1
 refine z24 ?_;cases c with
 | false=>exact hb xC s1 σ H1 Q I1 q1
 | true=>exact⟨.bl true,H1,I1,rfl,q1⟩
def qz5(ha:PE X a ta):PE X (.UnaryOp .Not a pos) (q116 ta):=by
 intro xC s σ H Q I h;refine UnaryOp_ (thn (ha xC s σ H _ I h) λv s1 D=>?_);obtain⟨x,H1,I1,r1,q1⟩:=D;obtain⟨c,rfl,q1⟩:=q1;cases r1
 exact not_of (z24 ⟨.bl (!c),H1,I1,zr,q1⟩)
end
def SqL(K:xA)(H:Hp)(a:Addr)(xs:List V):Prop:=
 Rd H a (.lst xs)\/
  ∃(o:Obj) (its:Array Value) (n:Nat),K.lookup a=some o/\o.cls= .type "list"/\o.dict=none/\o.data= .seq its n/\its.size<=sizeLine/\Vals xs its.toList
def SqT(K:xA)(H:Hp)(a:Addr)(xs:List V):Prop:=
 Rd H a (.tup xs)\/
  ∃(o:Obj) (its:Array Value) (n:Nat),K.lookup a=some o/\o.cls= .type "tuple"/\o.data= .seq its n/\its.size<=sizeLine/\Vals xs its.toList
def absV:Value->Option V
 | .none=>some .non
 | .bool b=>some (.bl b)
 | .int i _=>some (.int i)
 | .str x _=>some (.str x)
 | .bytes b _=>some (.byt b)
 | .float b _=>some (.flt b)
 | .ref a=>some (.ref a)
 | .type n=>some (.ty n)
 | _=>none
def RelV.abs{x:V}{u:Value}(r:RelV x u):absV u=some x:=by
 cases x with
 | non=>cases r;rfl
 | bl _=>cases r;rfl
 | int _=>obtain⟨t,rfl⟩:=r;rfl
 | str _=>obtain⟨t,rfl⟩:=r;rfl
 | byt _=>obtain⟨t,rfl⟩:=r;rfl
 | flt _=>obtain⟨t,rfl⟩:=r;rfl
 | ref _=>cases r;rfl
 | ty _=>cases r;rfl
theorem RelV.inj{x y:V}{u:Value}(r:RelV x u)(q:RelV y u):x=y:=Option.some.inj (r.abs.symm.trans q.abs)
theorem Vals.inj{xs ys:List V}{us:xH}(h:Vals xs us)(g:Vals ys us):xs=ys:=by
 induction h generalizing ys with
 | nil=>cases g;rfl
 | cons r t ih=>
  cases g with
  | cons r' t'=>rw[r.inj r',ih t']
section
variable{X:Cx}{xC:xG}{σ:St}{H:Hp}{s:Shared}{a:Addr}{xs ys:List V}
def SqL.of{K:xA}(h:H a=some (.lst xs)):SqL K H a xs:= .inl (.inl h)
def SqT.of{K:xA}(h:H a=some (.tup xs)):SqT K H a xs:= .inl (.inl h)
def Inv.list(I:Inv X xC σ H s)(h:SqL X.K H a xs):∃its:List Value,Vals xs its/\PlainL s.heap a its.toArray/\xs.length<=sizeLine:=by
 rcases h with h | ⟨o,its,n,hk,hc,hd,hs,hz,r⟩
 ·obtain⟨z,its,n,r,e⟩:=h.ok I.hok;exact⟨its,r,⟨_,n,e,zr,zr,zr⟩,z⟩
 ·refine⟨its.toList,r,⟨o,n,I.kIn a o hk,hc,hd,by simpa using hs⟩,?_⟩;have e:=r.length;simp only[z19]at e
  lia
def Inv.tuple(I:Inv X xC σ H s)(h:SqT X.K H a xs):∃its:List Value,Vals xs its/\IsTup s.heap a its.toArray/\xs.length<=sizeLine:=by
 rcases h with h | ⟨o,its,n,hk,hc,hs,hz,r⟩
 ·obtain⟨z,its,r,p⟩:=h.ok I.hok;exact⟨its,r,p,z⟩
 ·refine⟨its.toList,r,⟨o,I.kIn a o hk,hc,n,by simpa using hs⟩,?_⟩;have e:=r.length;simp only[z19]at e
  lia
def Inv.qts(I:Inv X xC σ H s)(h:SqL X.K H a xs)(h':SqL X.K H a ys):xs=ys:=by
 obtain⟨its,r,⟨o,n,e,_,_,d⟩,_⟩:=I.list h;obtain⟨its',r',⟨o',n',e',_,_,d'⟩,_⟩:=I.list h';rw[e]at e';cases e';rw[d]at d';injection d' with d1 _;have:its=its':=by simpa using congrArg Array.toList d1
 subst this;exact r.inj r'
def Inv.qqt(I:Inv X xC σ H s)(h:SqT X.K H a xs)(h':SqT X.K H a ys):xs=ys:=by
 obtain⟨its,r,⟨o,e,_,n,d⟩,_⟩:=I.tuple h;obtain⟨its',r',⟨o',e',_,n',d'⟩,_⟩:=I.tuple h';rw[e]at e';cases e';rw[d]at d';injection d' with d1 _;have:its=its':=by simpa using congrArg Array.toList d1
 subst this;exact r.inj r'
end
abbrev Cx.wish(X:Cx)(E:xB):Cx:={X with xe:=E}
abbrev Cx.nox(X:Cx):Cx:=X.wish λ_ _=>False
theorem Cx.Ok.wish{X:Cx}(ok:X.Ok)(E:xB):(X.wish E).Ok:=
 ⟨ok.mod,ok.kind,ok.glob,ok.blt,ok.above,ok.inj,ok.has,ok.cab,ok.hd,ok.frames,ok.stk,ok.exf,ok.bs,ok.bsz,ok.noex,ok.exfs,ok.funs,ok.frf⟩
def Cx.Ok.unwish{X:Cx}{E:xB}(ok:(X.wish E).Ok):X.Ok:=
 ⟨ok.mod,ok.kind,ok.glob,ok.blt,ok.above,ok.inj,ok.has,ok.cab,ok.hd,ok.frames,ok.stk,ok.exf,ok.bs,ok.bsz,ok.noex,ok.exfs,ok.funs,ok.frf⟩
section
variable{X:Cx}{xC:xG}{σ:St}{H:Hp}{s:Shared}{E:xB}
theorem Inv.wish(I:Inv X xC σ H s)(E:xB):Inv (X.wish E) xC σ H s:=⟨I.ok.wish E,I.os,I.bare,I.base,I.loc,I.cell,I.free,I.freeC,I.pin,I.hok,I.len⟩
theorem Inv.unwish(I:Inv (X.wish E) xC σ H s):Inv X xC σ H s:=⟨I.ok.unwish,I.os,I.bare,I.base,I.loc,I.cell,I.free,I.freeC,I.pin,I.hok,I.len⟩
theorem SP.unwish{D:Ends}{f:Flow}{s':Shared}(h:SP (X.wish E) xC D f s'):SP X xC D f s':=by
 cases f with
 | next=>obtain⟨σ',H',I,q⟩:=h;exact⟨σ',H',I.unwish,q⟩
 | brk=>obtain⟨σ',H',I,q⟩:=h;exact⟨σ',H',I.unwish,q⟩
 | cont=>obtain⟨σ',H',I,q⟩:=h;exact⟨σ',H',I.unwish,q⟩
 | ret u=>obtain⟨v,σ',H',I,r,q⟩:=h;exact⟨v,σ',H',I.unwish,r,q⟩
theorem PSs.nox{st:List Stmt}{t:TS}(h:PSs X.nox st t):PSs X st t:=λxC s σ H D I hw=>
 z4f (h xC s σ H D (I.wish _) hw) (λ_ _ q=>q.unwish) λ_ _ z=>False.elim z
end
section
variable{X:Cx}{st:Stmt}{rest:List Stmt}{t u:TS}{e:Expr}{te:TE}{pos:Pos}
def q117:TS:=λD σ H=>D.nx σ H
def tSeq(t u:TS):TS:=λD σ H=>t {D with nx:=u D} σ H
def qr:PSs X [] q117:=λ_ _ σ H _ I h=>wpAny_execs_nil ⟨σ,H,I,h⟩
def qt(h1:PS X st t)(h2:PSs X rest u):PSs X (st::rest) (tSeq t u):=by
 intro xC s σ H D I h;refine wpAny_execs_cons (thn (h1 xC s σ H {D with nx:=u D} I h) λf s1 q=>?_);cases f with
 | next=>
  obtain⟨σ',H',I',q⟩:=q;exact h2 xC s1 σ' H' D I' q
 | ret v=>exact q
 | brk=>exact q
 | cont=>exact q
def qg(h1:PS X st t):PSs X [st] t:=by
 intro xC s σ H D I h;refine wpAny_execs_cons (thn (h1 xC s σ H D I h) λf s1 q=>?_);cases f with
 | next=>exact wpAny_execs_nil q
 | ret v=>exact q
 | brk=>exact q
 | cont=>exact q
def Inv.quiet{xC:xG}{σ:St}{H:Hp}{s:Shared}(I:Inv X xC σ H s):interactive X.env=false:=by simp[interactive,I.ok.kind]
def q118(te:TE):TS:=λD σ H=>te σ H λ_ H1=>D.nx σ H1
def q2i(he:PE X e te)(hs:swapsWith e none pos.line X.env=pure false:=by rfl):PS X (.Expr e pos) (q118 te):=by
 intro xC s σ H D I h;exact wpAny_Expr_any (thn (he xC s σ H _ I h) λv s1 ⟨x,H1,I1,r1,q1⟩=>⟨σ,H1,I1,q1⟩) I.quiet hs
def tRet(te:TE):TS:=λD σ H=>te σ H D.rt
def qh(he:PE X e te):PS X (.Return (some e) pos) (tRet te):=by
 intro xC s σ H D I h;exact wpAny_Return_some (thn (he xC s σ H _ I h) λv s1 ⟨x,H1,I1,r1,q1⟩=>⟨x,σ,H1,I1,r1,q1⟩)
def tIfS(c:TT)(t u:TS):TS:=λD σ H=>c σ H λb H1=>if b=true then t D σ H1 else u D σ H1
def q12{c:Expr}{a b:List Stmt}{tc:TT}(hc:PT X c tc)(ha:PSs X a t)(hb:PSs X b u):PS X (.If c a b pos) (tIfS tc t u):=by
 intro xC s σ H D I h;refine wpAny_If (thn (hc xC s σ H _ I h) λd s1 J=>?_);obtain⟨H1,I1,q1⟩:=J;cases d with
 | true=>exact ha xC s1 σ H1 D I1 q1
 | false=>exact hb xC s1 σ H1 D I1 q1
end
abbrev TG:=V->St->Hp->(St->Hp->Prop)->Prop
abbrev TGs:=List V->St->Hp->(St->Hp->Prop)->Prop
def PG(X:Cx)(target:Expr)(t:TG):Prop:=
 ∀(xC:xG) (s:Shared) (σ:St) (H:Hp) (v:V) (u:Value) (Q:St->Hp->Prop),Inv X xC σ H s->RelV v u->t v σ H Q->
  wpAny (model X.prog X.w) X.A (assign target X.env u) (λ_ s'=>∃σ' H',Inv X xC σ' H' s'/\Q σ' H') X.xe s
def PGs(X:Cx)(ts:List Expr)(t:TGs):Prop:=
 ∀(xC:xG) (s:Shared) (σ:St) (H:Hp) (vs:List V) (us:xH) (Q:St->Hp->Prop),Inv X xC σ H s->Vals vs us->t vs σ H Q->
  wpAny (model X.prog X.w) X.A (assignInOrder ((assignEach ts X.env).map (·.2)) us) (λ_ s'=>∃σ' H',Inv X xC σ' H' s'/\Q σ' H') X.xe s
section
variable{X:Cx}{pos:Pos}
def qk3(i:Nat):TG:=λv σ H Q=>Q (σ.set i (some v)) H
def qu{i:Nat}{x:Str}(hN:X.N.Nodup)(hi:X.N[i]? =some x)(hx:Loc X.env.scope x)(hf:X.fn x=true\/ X.env.scope.names.lookup x=some .local:=by first | exact .inl rfl | exact .inr rfl | assumption):PG X (.Name x pos) (qk3 i):=by
 intro xC s σ H v u Q I r h;exact wpAny_assign_Name (qde I hN hi hx r (λs' I'=>⟨_,H,I',h⟩) hf)
def gNil:TGs:=λvs σ H Q=>vs=[]/\Q σ H
def q119(t:TG)(u:TGs):TGs:=λvs σ H Q=>∃v r,vs=v::r/\t v σ H λσ' H'=>u r σ' H' Q
def qg7:PGs X [] gNil:=by
 intro xC s σ H vs us Q I r h;obtain⟨e,h⟩:=h;subst e;cases r
 exact assignInOrder_nil ⟨σ,H,I,h⟩
def q5v{e:Expr}{es:List Expr}{t:TG}{u:TGs}(h1:PG X e t)(h2:PGs X es u)
  (hs:(assignEach (e::es) X.env).map (·.2)=assign e X.env::(assignEach es X.env).map (·.2):=by rfl):PGs X (e::es) (q119 t u):=by
 intro xC s σ H vs us Q I r h;obtain⟨v,vr,e1,h⟩:=h;subst e1;cases r with
 | cons r rr=>
  rw[hs];refine assignInOrder_cons (thn (h1 xC s σ H _ _ _ I r h) λ_ s1 D=>?_);obtain⟨σ1,H1,I1,q1⟩:=D;exact h2 xC s1 σ1 H1 _ _ Q I1 rr q1
def gTup(K:xA)(n:Nat)(t:TGs):TG:=λv σ H Q=>∃a xs,v= .ref a/\SqT K H a xs/\xs.length=n/\t xs σ H Q
def qks{es:List Expr}{k:Nat}{t:TGs}{n:Nat}(hc:X.calm=true)(h:PGs X es t)
  (hn:(assignEach es X.env).length=n:=by rfl) (D:(assignEach es X.env).findIdx? (·.1)=none:=by rfl):PG X (.Tuple es k pos) (gTup X.K n t):=by
 intro xC s σ H v u Q I r hw;obtain⟨a,xs,e1,hq,hl,hw⟩:=hw;subst e1;cases r
 obtain⟨its,rv,ht,hz⟩:=I.tuple hq;refine assign_Tuple_tuple (I.ok.hd hc) ht (by simp[hn,<- hl,rv.length]) D λh' hx=>?_;have I1:Inv X xC σ H {s with heap:=h'}:=I.kept (t':=s.toks) λb o e=>hx b o (z3z (z3y e)) e;exact h xC _ σ H xs _ Q I1 (by simpa using rv) hw
def tAsg(te:TE)(g:TG):TS:=λD σ H=>te σ H λx H1=>g x σ H1 D.nx
def qm{i:Nat}{x:Str}{e:Expr}{te:TE}{pos':Pos}(hN:X.N.Nodup)(hi:X.N[i]? =some x)(hx:Loc X.env.scope x)(he:PE X e te)(hs:swapsWith e (some (.Name x pos')) pos.line X.env=pure false:=by rfl)(hf:X.fn x=true\/ X.env.scope.names.lookup x=some .local:=by first | exact .inl rfl | exact .inr rfl | assumption):
  PS X (.Assign [.Name x pos'] e pos) (tAsg te (qk3 i)):=by
 intro xC s σ H D I h;refine wpAny_Assign_Name (thn (he xC s σ H _ I h) λv s1 J=>?_) hs;obtain⟨y,H1,I1,r1,q1⟩:=J;exact qde I1 hN hi hx r1 (λs2 I2=>⟨_,H1,I2,q1⟩) hf
end
section
variable{X:Cx}{pos:Pos}
def qz6(c:TT)(tb:TS):TS:=λD σ H=>∃W:Nat->St->Hp->Prop,(∃m,W m σ H)/\∀m σ H,W m σ H->
 c σ H λb H1=>if b=true then ∃N:St->Hp->Prop,(∀σ' H',N σ' H'->∃m',m' < m/\W m' σ' H')/\tb {D with nx:=N,ct:=N,bk:=D.nx} σ H1 else D.nx σ H1
def qtt{c:Expr}{body:List Stmt}{tc:TT}{tb:TS}(hp:PassesOwn (model X.prog X.w) X.A X.env X.xe)(hc:PT X c tc)(hb:PSs X body tb):PS X (.While c body [] pos) (qz6 tc tb):=by
 intro xC s σ H D I h;obtain⟨W,⟨m0,w0⟩,turn⟩:=h;refine wpAny_While (codeAny_whileLoop (λn s'=>∃σ' H',Inv X xC σ' H' s'/\W n σ' H') ?_ m0 ⟨σ,H,I,w0⟩);rintro n s1 ⟨σ1,H1,I1,w1⟩;refine z2y hp (thn (hc xC s1 σ1 H1 _ I1 (turn n σ1 H1 w1)) λb s2 a0=>?_);obtain⟨H2,I2,q2⟩:=a0;cases b with
 | true=>
  obtain⟨N,hN,q2⟩:=q2;rw[if_pos rfl];refine z2y hp (thn (hb xC s2 σ1 H2 _ I2 q2) λf s3 q3=>?_);cases f with
  | next=>
   obtain⟨σ3,H3,I3,Z⟩:=q3;obtain⟨O,J,w3⟩:=hN σ3 H3 Z;exact⟨O,J,σ3,H3,I3,w3⟩
  | cont=>
   obtain⟨σ3,H3,I3,Z⟩:=q3;obtain⟨O,J,w3⟩:=hN σ3 H3 Z;exact⟨O,J,σ3,H3,I3,w3⟩
  | brk=>exact q3
  | ret v=>exact q3
 | false=>
  rw[if_neg z1l];exact wpAny_execs_nil ⟨σ1,H2,I2,q2⟩
end
structure It where
 go:Nat->Hp->Prop
 yld:Nat->Hp->V->Hp->Prop
 stop:Nat->Hp->Prop
def FpOk(X:Cx)(xC:xG)(H:Hp)(b:Addr):Prop:=
 H b=none/\b≠X.env.locals/\b∉X.fs/\(b∈X.ex\/ X.s₀.heap.objs.size<=b)/\(∀x c,X.env.cells.lookup x=some c->c≠b)/\∀p∈X.pn++xC,p.1≠b
def Inv.fpOk{X:Cx}{xC:xG}{σ:St}{H H':Hp}{s:Shared}{b:Addr}(I:Inv X xC σ H s)(D:s.heap.objs.size<=b)(hn:H' b=none):FpOk X xC H' b:=by
 refine⟨hn,z41 (z1r I.lt D),I.nofs D,.inr (z40 I.sz D),λx c e z=>?_,λp hp z=>?_⟩
 ·obtain⟨v,q⟩:=I.cell x c e;exact absurd (z1r q.lt (by rw[z];exact D)) (z3o _)
 ·exact absurd (z1r (z3y (I.pin p hp).1) (by rw[z];exact D)) (z3o _)
structure Turn (P:Program) (w:World) (K:xA) (tg:Expr) (J:It) (fp:List Addr) (it:Addr) (tn:Nat->Heap->Prop):Prop where
 mem:it∈fp
 obj:∀i h,tn i h->∀b∈fp,∃o,h.get? b=some o/\∀v,o.data≠ .cell v
 keep:∀i h h',tn i h->(∀b∈fp,∀o,h.get? b=some o->h'.get? b=some o)->tn i h'
 item:∀(X:Cx),X.prog=P->X.w=w->X.K=K->X.calm=true->∀(i:Nat) (xC:xG) (s:Shared) (σ:St) (H:Hp) (E:xB),Inv X xC σ H s->(∀b∈fp,FpOk X xC H b)->tn i s.heap->J.go i H->
  wpAny (model P w) X.A (pyNext (.ref it)) (λr s1=>∃u,r=some u/\
   wpAny (model P w) X.A (letOwnedTupleGo tg (.ref it) u) (λ_ s2=>∃x H',Inv X xC σ H' s2/\RelV x u/\J.yld i H x H'/\tn (i+1) s2.heap/\∀b∈fp,H' b=none) E s1) E s
 done:∀(X:Cx),X.prog=P->X.w=w->X.K=K->X.calm=true->∀(i:Nat) (xC:xG) (s:Shared) (σ:St) (H:Hp) (E:xB),Inv X xC σ H s->(∀b∈fp,FpOk X xC H b)->tn i s.heap->J.stop i H->
  wpAny (model P w) X.A (pyNext (.ref it)) (λr s1=>r=none/\Inv X xC σ H s1) E s
 self:∀(A:Around) (i:Nat) (s:Shared) (Q:xB) (E:xB),tn i s.heap->Q (.ref it) s->wpAny (model P w) A (pyIter (.ref it)) Q E s
abbrev TI:=St->Hp->(It->Hp->Prop)->Prop
def PIE(X:Cx)(xC:xG)(σ:St)(tg:Expr)(R:It->Hp->Prop)(itv:Value)(s2:Shared):Prop:=
 ∃(it:Addr) (fp:List Addr) (tn:Nat->Heap->Prop) (J:It) (H':Hp),itv= .ref it/\Inv X xC σ H' s2/\Turn X.prog X.w X.K tg J fp it tn/\tn 0 s2.heap/\(∀b∈fp,FpOk X xC H' b)/\R J H'
def PI(X:Cx)(tg iter:Expr)(wi:TI):Prop:=
 ∀(xC:xG) (s:Shared) (σ:St) (H:Hp) (R:It->Hp->Prop),Inv X xC σ H s->wi σ H R->
  wpAny (model X.prog X.w) X.A (eval iter X.env) (λv s1=>wpAny (model X.prog X.w) X.A (pyIter v) (PIE X xC σ tg R) X.xe s1) X.xe s
def qeq{M:Model}{A:Around}{E:xB}{s:Shared}{tg:Expr}{it:Addr}{u:Value}{o:Obj}{n:String}{vs:Array Value}{Q:Unit->Shared->Prop}(ho:s.heap.get? it=some o)(hc:o.cls= .type n)(hd:o.data= .fields vs)
    (hn: ["enumerate","zip","dict_itemiterator","dict_reverseitemiterator","odict_iterator","itertools.zip_longest","itertools.pairwise"].contains n=false) (D:Q () s):wpAny M A (letOwnedTupleGo tg (.ref it) u) Q E s:=by
  unfold letOwnedTupleGo;cases tg <;> first
    | exact z4d D
    | (cases u <;> first
        | exact z4d D
        | (refine z4e (wpAny_load ho ?_)
           rw[hc,hd];show wpAny M A (if (["enumerate","zip","dict_itemiterator","dict_reverseitemiterator","odict_iterator","itertools.zip_longest","itertools.pairwise"].contains n&&vs[0]? ==some (rawInt _))=true then _ else _) Q E s;rw[if_neg (by intro h;rw[hn,z3d]at h;cases h)];exact z4d D))
def Itl(K:xA)(a:Addr):It:=
 ⟨λi H=>∃xs x,SqL K H a xs/\xs[i]? =some x,λi H x H'=>H'=H/\∀xs,SqL K H a xs->xs[i]? =some x,λi H=>∃xs,SqL K H a xs/\xs.length<=i⟩
def Itt(K:xA)(a:Addr):It:=
 ⟨λi H=>∃xs x,SqT K H a xs/\xs[i]? =some x,λi H x H'=>H'=H/\∀xs,SqT K H a xs->xs[i]? =some x,λi H=>∃xs,SqT K H a xs/\xs.length<=i⟩
def Itr(lo:Int)(n:Nat):It:=⟨λi _=>i < n,λi H x H'=>H'=H/\x= .int (lo+i),λi _=>n<=i⟩
def qqu{P:Program}{w:World}{K:xA}{tg:Expr}(a it:Addr):Turn P w K tg (Itl K a) [it] it (λi h=>h.IsListIter it a i) where
 mem:=by simp
 obj:=λi h st b D=>by
  have e:b=it:=by simpa using D
  subst e;obtain⟨o,e,c,d⟩:=st;exact⟨o,e,λv z=>by rw[d]at z;cases z⟩
 keep:=λi h h' st k=>st.at λo e=>k it (by simp) o e
 item:=by
  intro X hP hw hK hc i xC s σ H E I hf st hg;subst hP hw hK;obtain⟨xs,x,hq,hx⟩:=hg;obtain⟨its,rv,p,hz⟩:=I.list hq;obtain⟨u,hu,ru⟩:=rv.get hx;obtain⟨O,Z,f2,f3,f4,f5⟩:=hf it (by simp);refine wpAny_pyNext_list_item st p.isList (x:=u) (by simpa using hu) λh' J sb=>?_;have I1:Inv X xC σ H {s with heap:=h'}:=I.turned (t':=s.toks) (λb o D e=>(sb.2 b D).trans e) O Z f3 f4 f5;obtain⟨o,e,c,d⟩:=id J;exact⟨u,rfl,qeq (s:={s with heap:=h'}) e c d (by decide) ⟨x,H,I1,ru,⟨rfl,λys hy=>by rw[I.qts hy hq];exact hx⟩,J,λb D=>(hf b D).1⟩⟩
 done:=by
  intro X hP hw hK hc i xC s σ H E I hf st hg;subst hP hw hK;obtain⟨xs,hq,hx⟩:=hg;obtain⟨its,rv,p,hz⟩:=I.list hq;obtain⟨O,Z,f2,f3,f4,f5⟩:=hf it (by simp);have hl:=rv.length;exact wpAny_pyNext_list_end (I.ok.hd hc) st p.isList (by simp;lia) λh' eb=>⟨rfl,I.turned (t':=s.toks) (λb o D e=>eb b o D e) O Z f3 f4 f5⟩
 self:=λ_ _ _ _ _ st h=>wpAny_pyIter_listiter st h
def qp4{P:Program}{w:World}{K:xA}{tg:Expr}(a it:Addr):Turn P w K tg (Itt K a) [it] it (λi h=>h.IsTupleIter it a i) where
 mem:=by simp
 obj:=λi h st b D=>by
  have e:b=it:=by simpa using D
  subst e;obtain⟨o,e,c,d⟩:=st;exact⟨o,e,λv z=>by rw[d]at z;cases z⟩
 keep:=λi h h' st k=>st.at λo e=>k it (by simp) o e
 item:=by
  intro X hP hw hK hc i xC s σ H E I hf st hg;subst hP hw hK;obtain⟨xs,x,hq,hx⟩:=hg;obtain⟨its,rv,p,hz⟩:=I.tuple hq;obtain⟨u,hu,ru⟩:=rv.get hx;obtain⟨O,Z,f2,f3,f4,f5⟩:=hf it (by simp);refine wpAny_pyNext_tuple_item st (show s.heap.IsTuple a its.toArray from p) (x:=u) (by simpa using hu) λh' J sb=>?_;have I1:Inv X xC σ H {s with heap:=h'}:=I.turned (t':=s.toks) (λb o D e=>(sb.2 b D).trans e) O Z f3 f4 f5;obtain⟨o,e,c,d⟩:=id J;exact⟨u,rfl,qeq (s:={s with heap:=h'}) e c d (by decide) ⟨x,H,I1,ru,⟨rfl,λys hy=>by rw[I.qqt hy hq];exact hx⟩,J,λb D=>(hf b D).1⟩⟩
 done:=by
  intro X hP hw hK hc i xC s σ H E I hf st hg;subst hP hw hK;obtain⟨xs,hq,hx⟩:=hg;obtain⟨its,rv,p,hz⟩:=I.tuple hq;obtain⟨O,Z,f2,f3,f4,f5⟩:=hf it (by simp);have hl:=rv.length;exact wpAny_pyNext_tuple_end (I.ok.hd hc) st (show s.heap.IsTuple a its.toArray from p) (by simp;lia) λh' eb=>⟨rfl,I.turned (t':=s.toks) (λb o D e=>eb b o D e) O Z f3 f4 f5⟩
 self:=λ_ _ _ _ _ st h=>wpAny_pyIter_tupleiter st h
def qp5{P:Program}{w:World}{K:xA}{tg:Expr}(it:Addr)(lo:Int)(n:Nat):Turn P w K tg (Itr lo n) [it] it (λi h=>IsRangeIter h it (lo+(i:Nat)*1) ((n:Int) - (i:Nat)) 1) where
 mem:=by simp
 obj:=λi h st b D=>by
  have e:b=it:=by simpa using D
  subst e;exact⟨_,st,λv z=>by
   have z':Data.fields _=Data.cell v:=z;cases z'⟩
 keep:=λi h h' st k=>k it (by simp) _ st
 item:=by
  intro X hP hw hK hc i xC s σ H E I hf st hg;subst hP hw hK;obtain⟨O,Z,f2,f3,f4,f5⟩:=hf it (by simp);have W:=Walks.range (prog:=X.prog) (w:=X.w) (I.ok.hd hc) it lo 1 n;refine W.item i s _ _ hg st λv h' tk hv J kk=>?_;obtain⟨t,rfl⟩:=hv;have I1:Inv X xC σ H {s with heap:=h',toks:=tk}:=I.turned (λb o D e=>kk b o (by simpa using D) e) O Z f3 f4 f5;refine⟨_,rfl,qeq (s:={s with heap:=h',toks:=tk}) (n:="range_iterator") J rfl rfl (by decide) ⟨.int (lo+i),H,I1,⟨t,?_⟩,⟨rfl,rfl⟩,J,λb D=>(hf b D).1⟩⟩;rw[Int.mul_one]
 done:=by
  intro X hP hw hK hc i xC s σ H E I hf st hg;subst hP hw hK;obtain⟨O,Z,f2,f3,f4,f5⟩:=hf it (by simp);exact wpAny_pyNext_range_end (I.ok.hd hc) st (by have:n<=i:=hg;lia) λh' eb=>⟨rfl,I.turned (t':=s.toks) (λb o D e=>eb b o D e) O Z f3 f4 f5⟩
 self:=λ_ _ _ _ _ st h=>wpAny_pyIter_rangeiter st h
section
variable{X:Cx}{tg:Expr}
def qw3(K:xA)(tl:TE):TI:=λσ H R=>tl σ H λx H1=>∃a,x= .ref a/\(∃xs,SqL K H1 a xs)/\R (Itl K a) H1
def iTup(K:xA)(tl:TE):TI:=λσ H R=>tl σ H λx H1=>∃a,x= .ref a/\(∃xs,SqT K H1 a xs)/\R (Itt K a) H1
def qww{l:Expr}{tl:TE}(hl:PE X l tl):PI X tg l (qw3 X.K tl):=by
 intro xC s σ H R I h;refine thn (hl xC s σ H _ I h) λv s1 D=>?_;obtain⟨x,H1,I1,r1,q1⟩:=D;obtain⟨a,e,⟨xs,hq⟩,q⟩:=q1;subst e;cases r1
 obtain⟨its,rv,p,hz⟩:=I1.list hq;refine z25 p.isList ?_;refine⟨s1.heap.objs.size,[s1.heap.objs.size],_,_,H1,zr,I1.kept (t':=s1.toks) λb o e=>z0o _ e,qqu a _,⟨_,z1c _ rfl,zr,zr⟩,λb hb=>?_,q⟩;have e:b=s1.heap.objs.size:=by simpa using hb
 subst e;exact I1.fpOk (z47 _) (I1.hok.fresh (z47 _))
def qz7{l:Expr}{tl:TE}(hl:PE X l tl):PI X tg l (iTup X.K tl):=by
 intro xC s σ H R I h;refine thn (hl xC s σ H _ I h) λv s1 D=>?_;obtain⟨x,H1,I1,r1,q1⟩:=D;obtain⟨a,e,⟨xs,hq⟩,q⟩:=q1;subst e;cases r1
 obtain⟨its,rv,p,hz⟩:=I1.tuple hq;refine wpAny_pyIter_tuple (show s1.heap.IsTuple a its.toArray from p) ?_;refine⟨s1.heap.objs.size,[s1.heap.objs.size],_,_,H1,zr,I1.kept (t':=s1.toks) λb o e=>z0o _ e,qp4 a _,⟨_,z1c _ rfl,zr,zr⟩,λb hb=>?_,q⟩;have e:b=s1.heap.objs.size:=by simpa using hb
 subst e;exact I1.fpOk (z47 _) (I1.hok.fresh (z47 _))
def qtu{xC:xG}{σ:St}{H:Hp}{s:Shared}{R:It->Hp->Prop}{E:xB}{lo hi:Int}{t u v:Tok}{tk:Nat}(I:Inv X xC σ H s)(h1: -(2^62)<=lo)(h2:lo < 2^62)(h3: -(2^62)<=hi)(h4:hi < 2^62)
  (q:R (Itr lo (hi - lo).toNat) H):wpAny (model X.prog X.w) X.A (pyIter (.ref s.heap.objs.size)) (PIE X xC σ tg R) E {s with heap:=s.heap.push {cls:= .type "range",data:= .fields #[.int lo t,.int hi u,.int 1 v]},toks:=tk}:=by
 refine wpAny_pyIter_range (IsRange.new ..) (small_one h1 h2 h3 h4) ?_;have I1:Inv X xC σ H {s with heap:=s.heap.push {cls:= .type "range",data:= .fields #[.int lo t,.int hi u,.int 1 v]},toks:=tk}:=I.kept λb o e=>z0o _ e;refine⟨(s.heap.push {cls:= .type "range",data:= .fields #[.int lo t,.int hi u,.int 1 v]}).objs.size,[(s.heap.push {cls:= .type "range",data:= .fields #[.int lo t,.int hi u,.int 1 v]}).objs.size],_,_,H,zr,
  I1.kept (t':=tk) λb o e=>z0o _ e,qp5 _ lo (hi - lo).toNat,?_,λb hb=>?_,q⟩
 ·have e1:lo+((0:Nat):Int)*1=lo:=by simp
  have e2:(((hi - lo).toNat:Nat):Int) - ((0:Nat):Int)=Builtin.Range.rangeSize lo hi 1:=by rw[rangeSize_one];split <;> lia
  show IsRangeIter _ _ (lo+((0:Nat):Int)*1) ((((hi - lo).toNat:Nat):Int) - ((0:Nat):Int)) 1;rw[e1,e2];exact z1c _ rfl
 ·have e:b=(s.heap.push {cls:= .type "range",data:= .fields #[.int lo t,.int hi u,.int 1 v]}).objs.size:=by simpa using hb
  subst e;exact I1.fpOk (z47 _) (I1.hok.fresh (z47 _))
def q11a(ta:TA):TI:=λσ H R=>ta σ H λvs H1=>∃j:Int,vs=[.int j]/\ -(2^62)<=j/\j < 2^62/\R (Itr 0 j.toNat) H1
def q55{a:Expr}{ta:TA}{p pos:Pos}(hg:Gl X "range")(hm:X.mg "range"=none)(ha:PA X [a] ta)(hs:starEach [a] X.env=[(false,eval a X.env)]:=by rfl):PI X tg (.Call (.Name "range" p) [a] [] pos) (q11a ta):=by
 intro xC s σ H R I h;refine Call_ (q8z I hg hm boot_range (z03 (thn (ha pos xC s σ H _ I h) λus s1 D=>?_) hs rfl));obtain⟨vs,H1,I1,r1,q1⟩:=D;obtain⟨j,e,q1,q2,q⟩:=q1;subst e;cases r1 with
 | cons r rr=>
  cases rr
  obtain⟨t,rfl⟩:=r;exact call_range_1 (qtu I1 (by lia) (by lia) q1 q2 (by simpa using q))
def tFor(wi:TI)(g:TG)(tb:TS):TS:=λD σ H=>wi σ H λJ H1=>∃W:Nat->Nat->St->Hp->Prop,(∃m,W 0 m σ H1)/\∀i m σ H,W i m σ H->
 (J.stop i H/\D.nx σ H)\/ (J.go i H/\∃N:St->Hp->Prop,(∀σ' H',N σ' H'->∃m',m' < m/\W (i+1) m' σ' H')/\∀x H',J.yld i H x H'->g x σ H' λσ2 H2=>tb {D with nx:=N,ct:=N,bk:=D.nx} σ2 H2)
def qaw(fp:List Addr)(h:Heap):List (Addr×Obj):=fp.filterMap λb=>(h.get? b).map λo=>(b,o)
def q5c{fp:List Addr}{h:Heap}{b:Addr}{o:Obj}(hb:b∈fp)(e:h.get? b=some o):(b,o)∈qaw fp h:=List.mem_filterMap.mpr ⟨b,hb,by rw[e];rfl⟩
def qqv{fp:List Addr}{h:Heap}{p:Addr×Obj}(hp:p∈qaw fp h):p.1∈fp/\h.get? p.1=some p.2:=by
 obtain⟨b,hb,e⟩:=List.mem_filterMap.mp hp;cases q:h.get? b with
 | none=>rw[q]at e;cases e
 | some o=>
  rw[q]at e;have e':(b,o)=p:=Option.some.inj e;subst e';exact⟨hb,q⟩
def Inv.pinned{xC:xG}{σ:St}{H:Hp}{s:Shared}{fp:List Addr}(I:Inv X xC σ H s)(hf:∀b∈fp,FpOk X xC H b)(ho:∀b∈fp,∃o,s.heap.get? b=some o/\∀v,o.data≠ .cell v):Inv X (xC++qaw fp s.heap) σ H s:=
 I.qnx λp hp=>(z2u.mp hp).elim (λz=>I.pin p (z0w _ z)) λz=>by
  obtain⟨D,e⟩:=qqv z;obtain⟨f0,f1,f2,_⟩:=hf p.1 D;obtain⟨o,e',d⟩:=ho p.1 D;rw[e]at e';cases e';exact⟨e,f0,f1,f2,d⟩
def Inv.unpinned{xC pl:xG}{σ:St}{H:Hp}{s:Shared}(I:Inv X (xC++pl) σ H s):Inv X xC σ H s:=I.qnx λp hp=>I.pin p (z0w _ (z17 _ hp))
def q1o{iter:Expr}{body:List Stmt}{wi:TI}{g:TG}{tb:TS}{pos:Pos}(hp:PassesOwn (model X.prog X.w) X.A X.env X.xe)(hc:X.calm=true)(hi:PI X tg iter wi)(hg:PG X tg g)(hb:PSs X body tb)
  (hs:∀x,foldedSetIterable iter X.env x=pure x:=by intro _;rfl):PS X (.For tg iter body [] pos) (tFor wi g tb):=by
 intro xC s σ H D I h;refine wpAny_For (thn (hi xC s σ H _ I h) λv s1 h1=>thn h1 λitv s2 h2=>?_) hs;obtain⟨it,fp,tn,J,H2,e,I2,T,a7,f2,W,⟨m0,w0⟩,turn⟩:=h2;subst e;have a0:∀{H':Hp},(∀b∈fp,H' b=none)->∀b∈fp,FpOk X xC H' b:=λhn b hb=>⟨hn b hb,(f2 b hb).2⟩;refine codeAny_forLoop_any (λn s'=>∃i σ' H',Inv X xC σ' H' s'/\tn i s'.heap/\(∀b∈fp,H' b=none)/\W i n σ' H') ?_ m0 ⟨0,σ,H2,I2,a7,λb hb=>(f2 b hb).1,w0⟩;rintro n s3 ⟨i,σ3,H3,I3,a4,a2,w3⟩;rcases turn i n σ3 H3 w3 with ⟨stop,qn⟩ | ⟨go,N,hN,step⟩
 ·refine z2y hp (thn (T.done X rfl rfl rfl hc i xC s3 σ3 H3 X.xe I3 (a0 a2) a4 stop) λr s4 O=>?_);obtain⟨hr,I4⟩:=O;subst hr;exact wpAny_execs_nil ⟨σ3,H3,I4,qn⟩
 ·refine z2y hp (thn (T.item X rfl rfl rfl hc i xC s3 σ3 H3 X.xe I3 (a0 a2) a4 go) λr s4 O=>?_);obtain⟨u,hr,h4⟩:=O;subst hr;refine z2y hp (thn h4 λ_ s5 O=>?_);obtain⟨x,H5,I5,r5,y5,a1,a6⟩:=O;have a5:=I5.pinned (a0 a6) (T.obj _ _ a1);refine z2y hp (thn (hg _ s5 σ3 H5 x u _ a5 r5 (step x H5 y5)) λ_ s6 O=>?_);obtain⟨σ6,H6,I6,q6⟩:=O;refine z2y hp (thn (hb _ s6 σ6 H6 _ I6 q6) λf s7 q7=>?_);have again:∀{σ7:St} {Z:Hp},Inv X (xC++qaw fp s5.heap) σ7 Z s7->N σ7 Z->∃m,m < n/\∃i σ' H',Inv X xC σ' H' s7/\tn i s7.heap/\(∀b∈fp,H' b=none)/\W i m σ' H':=λ{σ7 Z} I7 n7=>by
   obtain⟨m',hm,w7⟩:=hN σ7 Z n7;refine⟨m',hm,i+1,σ7,Z,I7.unpinned,T.keep _ _ _ a1 λb hb o e=>(I7.pin (b,o) (z0w _ (z0w _ (q5c hb e)))).1,λb hb=>?_,w7⟩;obtain⟨o,e,d⟩:=T.obj _ _ a1 b hb;exact(I7.pin (b,o) (z0w _ (z0w _ (q5c hb e)))).2.1
  cases f with
  | next=>obtain⟨σ7,Z,I7,n7⟩:=q7;exact again I7 n7
  | cont=>obtain⟨σ7,Z,I7,n7⟩:=q7;exact again I7 n7
  | brk=>obtain⟨σ7,Z,I7,q7⟩:=q7;exact⟨σ7,Z,I7.unpinned,q7⟩
  | ret v=>obtain⟨x7,σ7,Z,I7,r7,q7⟩:=q7;exact⟨x7,σ7,Z,I7.unpinned,r7,q7⟩
end
def q20{K:xA}{a:Addr}{xs:List V}{g:TG}{tb:TS}{D:Ends}{σ:St}{H:Hp}(Pv:Nat->St->Hp->Prop)(h0:Pv 0 σ H)(hl:∀i σ H,i<=xs.length->Pv i σ H->SqL K H a xs)
  (hs:∀i x σ H,xs[i]? =some x->Pv i σ H->g x σ H λσ2 H2=>tb {D with nx:=Pv (i+1),ct:=Pv (i+1),bk:=D.nx} σ2 H2) (hd:∀σ H,Pv xs.length σ H->D.nx σ H):
  ∃W:Nat->Nat->St->Hp->Prop,(∃m,W 0 m σ H)/\∀i m σ H,W i m σ H->
   ((Itl K a).stop i H/\D.nx σ H)\/ ((Itl K a).go i H/\∃N:St->Hp->Prop,(∀σ' H',N σ' H'->∃O,O < m/\W (i+1) O σ' H')/\∀x H',(Itl K a).yld i H x H'->g x σ H' λσ2 H2=>tb {D with nx:=N,ct:=N,bk:=D.nx} σ2 H2):=by
 refine⟨λi m σ H=>m=xs.length - i/\i<=xs.length/\Pv i σ H,⟨xs.length,by simp,z4a _,h0⟩,?_⟩;rintro i m σ H ⟨rfl,hi,p⟩;have q:=hl i σ H hi p;by_cases J:i < xs.length
 ·refine .inr ⟨⟨xs,xs[i],q,by simp[J]⟩,Pv (i+1),λσ' H' p'=>⟨xs.length - (i+1),by lia,zr,J,p'⟩,λx H' y=>?_⟩;obtain⟨e,y⟩:=y;subst e;exact hs i x σ _ (y xs q) p
 ·have e:i=xs.length:=by lia
  subst e;exact .inl ⟨⟨xs,q,z47 _⟩,hd σ H p⟩
def q90{K:xA}{a:Addr}{xs:List V}{g:TG}{tb:TS}{D:Ends}{σ:St}{H:Hp}(Pv:Nat->St->Hp->Prop)(h0:Pv 0 σ H)(hl:∀i σ H,i<=xs.length->Pv i σ H->SqT K H a xs)
  (hs:∀i x σ H,xs[i]? =some x->Pv i σ H->g x σ H λσ2 H2=>tb {D with nx:=Pv (i+1),ct:=Pv (i+1),bk:=D.nx} σ2 H2) (hd:∀σ H,Pv xs.length σ H->D.nx σ H):
  ∃W:Nat->Nat->St->Hp->Prop,(∃m,W 0 m σ H)/\∀i m σ H,W i m σ H->
   ((Itt K a).stop i H/\D.nx σ H)\/ ((Itt K a).go i H/\∃N:St->Hp->Prop,(∀σ' H',N σ' H'->∃O,O < m/\W (i+1) O σ' H')/\∀x H',(Itt K a).yld i H x H'->g x σ H' λσ2 H2=>tb {D with nx:=N,ct:=N,bk:=D.nx} σ2 H2):=by
 refine⟨λi m σ H=>m=xs.length - i/\i<=xs.length/\Pv i σ H,⟨xs.length,by simp,z4a _,h0⟩,?_⟩;rintro i m σ H ⟨rfl,hi,p⟩;have q:=hl i σ H hi p;by_cases J:i < xs.length
 ·refine .inr ⟨⟨xs,xs[i],q,by simp[J]⟩,Pv (i+1),λσ' H' p'=>⟨xs.length - (i+1),by lia,zr,J,p'⟩,λx H' y=>?_⟩;obtain⟨e,y⟩:=y;subst e;exact hs i x σ _ (y xs q) p
 ·have e:i=xs.length:=by lia
  subst e;exact .inl ⟨⟨xs,q,z47 _⟩,hd σ H p⟩
def q8j{lo:Int}{n:Nat}{g:TG}{tb:TS}{D:Ends}{σ:St}{H:Hp}(Pv:Nat->St->Hp->Prop)(h0:Pv 0 σ H)
  (hs:∀i σ H,i < n->Pv i σ H->g (.int (lo+i)) σ H λσ2 H2=>tb {D with nx:=Pv (i+1),ct:=Pv (i+1),bk:=D.nx} σ2 H2) (hd:∀σ H,Pv n σ H->D.nx σ H):
  ∃W:Nat->Nat->St->Hp->Prop,(∃m,W 0 m σ H)/\∀i m σ H,W i m σ H->
   ((Itr lo n).stop i H/\D.nx σ H)\/ ((Itr lo n).go i H/\∃N:St->Hp->Prop,(∀σ' H',N σ' H'->∃O,O < m/\W (i+1) O σ' H')/\∀x H',(Itr lo n).yld i H x H'->g x σ H' λσ2 H2=>tb {D with nx:=N,ct:=N,bk:=D.nx} σ2 H2):=by
 refine⟨λi m σ H=>m=n - i/\i<=n/\Pv i σ H,⟨n,by simp,z4a _,h0⟩,?_⟩;rintro i m σ H ⟨rfl,hi,p⟩;by_cases J:i < n
 ·refine .inr ⟨J,Pv (i+1),λσ' H' p'=>⟨n - (i+1),by lia,zr,J,p'⟩,λx H' y=>?_⟩;obtain⟨e,y⟩:=y;subst e y;exact hs i σ _ J p
 ·have e:i=n:=by lia
  subst e;exact .inl ⟨z47 _,hd σ H p⟩
abbrev R2:=V->V->Hp->VK->Prop
def OpR(X:Cx)(f:Value->Value->Sem Value)(r:R2):Prop:=
 ∀(xC:xG) (s:Shared) (σ:St) (H:Hp) (x y:V) (v u:Value) (Q:VK),Inv X xC σ H s->RelV x v->RelV y u->r x y H Q->
  wpAny (model X.prog X.w) X.A (f v u) (EP X xC σ Q) X.xe s
def UnR(X:Cx)(f:Value->Sem Value)(r:V->Hp->VK->Prop):Prop:=
 ∀(xC:xG) (s:Shared) (σ:St) (H:Hp) (x:V) (v:Value) (Q:VK),Inv X xC σ H s->RelV x v->r x H Q->
  wpAny (model X.prog X.w) X.A (f v) (EP X xC σ Q) X.xe s
def q2b(X:Cx)(f:Value)(r:List V->Hp->VK->Prop):Prop:=
 ∀(xC:xG) (s:Shared) (σ:St) (H:Hp) (xs:List V) (us:xH) (Q:VK),Inv X xC σ H s->Vals xs us->r xs H Q->
  wpAny (model X.prog X.w) X.A (call f us) (EP X xC σ Q) X.xe s
def tOp(r:R2)(ta tb:TE):TE:=λσ H Q=>ta σ H λx H1=>tb σ H1 λy H2=>r x y H2 Q
def tUn(r:V->Hp->VK->Prop)(ta:TE):TE:=λσ H Q=>ta σ H λx H1=>r x H1 Q
def rI(C:Int->Int->Prop)(g:Int->Int->V):R2:=λx y H Q=>∃i j,x= .int i/\y= .int j/\C i j/\Q (g i j) H
def rI0(g:Int->Int->V):R2:=λx y H Q=>∃i j,x= .int i/\y= .int j/\Q (g i j) H
def rU(g:Int->V):V->Hp->VK->Prop:=λx H Q=>∃i,x= .int i/\Q (g i) H
section
variable{X:Cx}{a b c:Expr}{ta tb tc:TE}{pos:Pos}
def binT(ha:PE X a ta)(hb:PE X b tb){xC:xG}{s:Shared}{σ:St}{H:Hp}{R:V->V->Hp->Prop}(I:Inv X xC σ H s)
  (h:ta σ H λx H1=>tb σ H1 λy H2=>R x y H2) {Q:xB} {f:Value->Value->Sem Value}
  (hf:∀v u J x y H2,Inv X xC σ H2 J->RelV x v->RelV y u->R x y H2->wpAny (model X.prog X.w) X.A (f v u) Q X.xe J):
  wpAny (model X.prog X.w) X.A (eval a X.env) (λv s₁=>wpAny (model X.prog X.w) X.A (eval b X.env) (λu s₂=>wpAny (model X.prog X.w) X.A (f v u) Q X.xe s₂) X.xe s₁) X.xe s:=by
 refine thn (ha xC s σ H _ I h) λv s1 D=>?_;obtain⟨x,H1,I1,r1,q1⟩:=D;refine thn (hb xC s1 σ H1 _ I1 q1) λu J D=>?_;obtain⟨y,H2,I2,r2,q2⟩:=D;exact hf v u J x y H2 I2 r1 r2 q2
def ql{op:Operator}{r:R2}(ho:OpR X (binaryOp op) r)(ha:PE X a ta)(hb:PE X b tb):PE X (.BinOp a op b pos) (tOp r ta tb):=by
 intro xC s σ H Q I h;exact wpAny_BinOp (binT ha hb I h λv u s2 x y H2 I2 rx ry q=>ho xC s2 σ H2 x y v u Q I2 rx ry q)
def qw4{op:UnaryOp}{r:V->Hp->VK->Prop}(ho:UnR X (unaryOp op) r)(ha:PE X a ta):PE X (.UnaryOp op a pos) (tUn r ta):=by
 intro xC s σ H Q I h;exact UnaryOp_ (thn (ha xC s σ H _ I h) λv s1 ⟨x,H1,I1,r1,q1⟩=>ho xC s1 σ H1 x v Q I1 r1 q1)
def opI{f:Value->Value->Sem Value}{C:Int->Int->Prop}{g:Int->Int->Int}
  (rule:∀(i j:Int) (t u:Tok) (s:Shared) (Q:xB) (E:xB),C i j->Q (.int (g i j) s.toks) {s with toks:=s.toks+1}->wpAny (model X.prog X.w) X.A (f (.int i t) (.int j u)) Q E s):
  OpR X f (rI C λi j=> .int (g i j)):=by
 intro xC s σ H x y v u Q I rx ry h;obtain⟨i,j,rfl,rfl,hc,q⟩:=h;obtain⟨t,rfl⟩:=rx;obtain⟨t',rfl⟩:=ry;exact rule i j t t' s _ _ hc ⟨.int (g i j),H,I.tok _,⟨_,zr⟩,q⟩
def opI0{f:Value->Value->Sem Value}{g:Int->Int->Int}
  (rule:∀(i j:Int) (t u:Tok) (s:Shared) (Q:xB) (E:xB),Q (.int (g i j) s.toks) {s with toks:=s.toks+1}->wpAny (model X.prog X.w) X.A (f (.int i t) (.int j u)) Q E s):
  OpR X f (rI0 λi j=> .int (g i j)):=by
 intro xC s σ H x y v u Q I rx ry h;obtain⟨i,j,rfl,rfl,q⟩:=h;obtain⟨t,rfl⟩:=rx;obtain⟨t',rfl⟩:=ry;exact rule i j t t' s _ _ ⟨.int (g i j),H,I.tok _,⟨_,zr⟩,q⟩
def opB0{f:Value->Value->Sem Value}{g:Int->Int->Bool}
  (rule:∀(i j:Int) (t u:Tok) (s:Shared) (Q:xB) (E:xB),Q (.bool (g i j)) s->wpAny (model X.prog X.w) X.A (f (.int i t) (.int j u)) Q E s):
  OpR X f (rI0 λi j=> .bl (g i j)):=by
 intro xC s σ H x y v u Q I rx ry h;obtain⟨i,j,rfl,rfl,q⟩:=h;obtain⟨t,rfl⟩:=rx;obtain⟨t',rfl⟩:=ry;exact rule i j t t' s _ _ ⟨.bl (g i j),H,I,zr,q⟩
def CDiv(i j:Int):Prop:=0 < j/\j < 1073741824
def CPow(i j:Int):Prop:=0<=j/\j<=1000000/\i.natAbs < 2^64
def CMul(i j:Int):Prop:=(-(2^64) < i/\i < 2^64)\/ (-(2^64) < j/\j < 2^64)
def CMul.ok{i j:Int}(h:CMul i j):IntMulOk i j:=by
 rcases h with ⟨h1,h2⟩ | ⟨h1,h2⟩
 ·exact .of_left (intBits_le_64 h1 h2)
 ·exact .of_right (intBits_le_64 h1 h2)
def q1j:OpR X (binaryOp .Add) (rI0 λi j=> .int (i+j)):=opI0 λ_ _ _ _ _ _ _ q=>add_int q
def qqw:OpR X (binaryOp .Sub) (rI0 λi j=> .int (i - j)):=opI0 λ_ _ _ _ _ _ _ q=>sub_int q
def q5d:OpR X (binaryOp .Mult) (rI CMul λi j=> .int (i*j)):=opI λ_ _ _ _ _ _ _ hc q=>mul_int q hc.ok
def qwx:OpR X (binaryOp .FloorDiv) (rI CDiv λi j=> .int (i / j)):=opI λi j _ _ _ _ _ D q=>by
 have h1:(0:Int) < j:=D.1;have h2:j < 1073741824:=D.2;exact floordiv_int (by lia) (by rw[Int.fdiv_eq_ediv_of_nonneg i (by lia)];exact q) (.inl (PyProof.noPylong_small (by lia)))
def q16:OpR X (binaryOp .Mod) (rI (λ_ j=>0 < j) λi j=> .int (i%j)):=opI λi j _ _ _ _ _ hc q=>by
 have h1:(0:Int) < j:=hc;exact mod_int' (by lia) (by rw[Int.fmod_eq_emod_of_nonneg i (by lia)];exact q)
def qer:OpR X (binaryOp .Pow) (rI CPow λi j=> .int (i^j.toNat)):=opI λ_ _ _ _ _ _ _ D q=>pow_int_small D.1 D.2.1 D.2.2 q
def unI{f:Value->Sem Value}{g:Int->Int}
  (rule:∀(i:Int) (t:Tok) (s:Shared) (Q:xB) (E:xB),Q (.int (g i) s.toks) {s with toks:=s.toks+1}->wpAny (model X.prog X.w) X.A (f (.int i t)) Q E s):
  UnR X f (rU λi=> .int (g i)):=by
 intro xC s σ H x v Q I rx h;obtain⟨i,rfl,q⟩:=h;obtain⟨t,rfl⟩:=rx;exact rule i t s _ _ ⟨.int (g i),H,I.tok _,⟨_,zr⟩,q⟩
def qqx:UnR X (unaryOp .USub) (rU λi=> .int (-i)):=unI λ_ _ _ _ _ q=>neg_int q
end
def scal:V->V->Bool
 | .non,.non=>true | .non,.int _=>true | .int _,.non=>true | .non,.bl _=>true | .bl _,.non=>true | .non,.str _=>true | .str _,.non=>true
 | .int _,.int _=>true | .bl _,.bl _=>true | .str _,.str _=>true | .byt _,.byt _=>true
 | .int _,.str _=>true | .str _,.int _=>true | .bl _,.str _=>true | .str _,.bl _=>true
 | _,_=>false
def rEq:R2:=λx y H Q=>scal x y=true/\Q (.bl (decide (x=y))) H
def rNe:R2:=λx y H Q=>scal x y=true/\Q (.bl (!decide (x=y))) H
def qnz{i j:Int}:decide (V.int i=V.int j)=(i==j):=by
 rw[z2z];simp
def qqy{i j:Bool}:decide (V.bl i=V.bl j)=(i==j):=by
 rw[z2z];simp
def qo0{i j:Str}:decide (V.str i=V.str j)=(i==j):=by
 rw[z2z];simp
def qo1{i j:Array UInt8}:decide (V.byt i=V.byt j)=(i.toList==j.toList):=by
 rw[z2z];cases i
 cases j
 simp
section
variable{X:Cx}{a b c:Expr}{ta tb tc:TE}{pos:Pos}
def q1h{xC:xG}{σ:St}{H:Hp}{s:Shared}{Q:VK}{k k':Bool}(I:Inv X xC σ H s)(q:Q (.bl k) H)(e:k=k'):EP X xC σ Q (.bool k') s:=by
 subst e;exact⟨.bl k,H,I,zr,q⟩
def q1f:OpR X (compareOp .Eq) rEq:=by
 intro xC s σ H x y v u Q I rx ry h;obtain⟨D,q⟩:=h;cases x with
 | non=>
  cases rx
  cases y with
  | non=>cases ry;exact PySem.EqNone.eq_none_none (q1h I q (by simp))
  | bl j=>cases ry;exact PySem.EqNone.eq_none_bool (q1h I q (by simp))
  | int j=>obtain⟨t',rfl⟩:=ry;exact PySem.EqNone.eq_none_int (q1h I q (by simp))
  | str j=>obtain⟨t',rfl⟩:=ry;exact PySem.EqNone.eq_none_str (q1h I q (by simp))
  | _=>exact absurd (show false=true from D) z1l
 | bl i=>
  cases rx
  cases y with
  | non=>cases ry;exact PySem.EqNone.eq_bool_none (q1h I q (by simp))
  | bl j=>cases ry;exact eq_bool (q1h I q qqy)
  | str j=>obtain⟨t',rfl⟩:=ry;exact PySem.EqMixed.eq_bool_str (q1h I q (by simp))
  | _=>exact absurd (show false=true from D) z1l
 | int i=>
  obtain⟨t,rfl⟩:=rx;cases y with
  | non=>cases ry;exact PySem.EqNone.eq_int_none (q1h I q (by simp))
  | int j=>obtain⟨t',rfl⟩:=ry;exact eq_int (q1h I q qnz)
  | str j=>obtain⟨t',rfl⟩:=ry;exact PySem.EqMixed.eq_int_str (q1h I q (by simp))
  | _=>exact absurd (show false=true from D) z1l
 | str i=>
  obtain⟨t,rfl⟩:=rx;cases y with
  | non=>cases ry;exact PySem.EqNone.eq_str_none (q1h I q (by simp))
  | bl j=>cases ry;exact PySem.EqMixed.eq_str_bool (q1h I q (by simp))
  | int j=>obtain⟨t',rfl⟩:=ry;exact PySem.EqMixed.eq_str_int (q1h I q (by simp))
  | str j=>obtain⟨t',rfl⟩:=ry;exact eq_str (q1h I q qo0)
  | _=>exact absurd (show false=true from D) z1l
 | byt i=>
  obtain⟨t,rfl⟩:=rx;cases y with
  | byt j=>obtain⟨t',rfl⟩:=ry;exact PySem.W.eq_bytes (q1h I q qo1)
  | _=>exact absurd (show false=true from D) z1l
 | _=>cases y <;> exact absurd (show false=true from D) z1l
def qw5:OpR X (compareOp .NotEq) rNe:=by
 intro xC s σ H x y v u Q I rx ry h;obtain⟨D,q⟩:=h;cases x with
 | non=>
  cases rx
  cases y with
  | non=>cases ry;exact PySem.EqNone.ne_none_none (q1h I q (by simp))
  | bl j=>cases ry;exact PySem.EqNone.ne_none_bool (q1h I q (by simp))
  | int j=>obtain⟨t',rfl⟩:=ry;exact PySem.EqNone.ne_none_int (q1h I q (by simp))
  | str j=>obtain⟨t',rfl⟩:=ry;exact PySem.EqNone.ne_none_str (q1h I q (by simp))
  | _=>exact absurd (show false=true from D) z1l
 | bl i=>
  cases rx
  cases y with
  | non=>cases ry;exact PySem.EqNone.ne_bool_none (q1h I q (by simp))
  | bl j=>cases ry;exact ne_bool (q1h I q (congrArg not qqy))
  | str j=>obtain⟨t',rfl⟩:=ry;exact PySem.EqMixed.ne_bool_str (q1h I q (by simp))
  | _=>exact absurd (show false=true from D) z1l
 | int i=>
  obtain⟨t,rfl⟩:=rx;cases y with
  | non=>cases ry;exact PySem.EqNone.ne_int_none (q1h I q (by simp))
  | int j=>obtain⟨t',rfl⟩:=ry;exact ne_int (q1h I q (congrArg not qnz))
  | str j=>obtain⟨t',rfl⟩:=ry;exact PySem.EqMixed.ne_int_str (q1h I q (by simp))
  | _=>exact absurd (show false=true from D) z1l
 | str i=>
  obtain⟨t,rfl⟩:=rx;cases y with
  | non=>cases ry;exact PySem.EqNone.ne_str_none (q1h I q (by simp))
  | bl j=>cases ry;exact PySem.EqMixed.ne_str_bool (q1h I q (by simp))
  | int j=>obtain⟨t',rfl⟩:=ry;exact PySem.EqMixed.ne_str_int (q1h I q (by simp))
  | str j=>obtain⟨t',rfl⟩:=ry;exact ne_str (q1h I q (congrArg not qo0))
  | _=>exact absurd (show false=true from D) z1l
 | byt i=>
  obtain⟨t,rfl⟩:=rx;cases y with
  | byt j=>obtain⟨t',rfl⟩:=ry;exact PySem.W.ne_bytes (q1h I q (congrArg not qo1))
  | _=>exact absurd (show false=true from D) z1l
 | _=>cases y <;> exact absurd (show false=true from D) z1l
def qw6:OpR X (compareOp .Lt) (rI0 λi j=> .bl (decide (i < j))):=opB0 λ_ _ _ _ _ _ _ q=>lt_int q
def qk4:OpR X (compareOp .LtE) (rI0 λi j=> .bl (decide (i<=j))):=opB0 λ_ _ _ _ _ _ _ q=>le_int q
def qw7:OpR X (compareOp .Gt) (rI0 λi j=> .bl (decide (j < i))):=opB0 λ_ _ _ _ _ _ _ q=>gt_int q
def q11b:OpR X (compareOp .GtE) (rI0 λi j=> .bl (decide (j<=i))):=opB0 λ_ _ _ _ _ _ _ q=>ge_int q
def qhx:OpR X (compareOp .In) (λx y H Q=>∃i j,x= .str i/\y= .str j/\Q (.bl (!(Builtin.Str.occurrences j i 0 j.length 1).isEmpty)) H):=by
 intro xC s σ H x y v u Q I rx ry h;obtain⟨i,j,rfl,rfl,q⟩:=h;obtain⟨t,rfl⟩:=rx;obtain⟨t',rfl⟩:=ry;exact in_str (q1h I q rfl)
def q7n:OpR X (compareOp .Is) (λx y H Q=>y= .non/\Q (.bl (decide (x= .non))) H):=by
  intro xC s σ H x y v u Q I rx ry h;obtain⟨rfl,q⟩:=h;cases ry
  refine is_none_gen (q1h I q ?_);cases x <;> first
    | (cases rx;rfl)
    | (obtain⟨t,rfl⟩:=rx;rfl)
def qwy:OpR X (compareOp .IsNot) (λx y H Q=>y= .non/\Q (.bl (!decide (x= .non))) H):=by
  intro xC s σ H x y v u Q I rx ry h;obtain⟨rfl,q⟩:=h;cases ry
  refine isnot_none_gen (q1h I q ?_);cases x <;> first
    | (cases rx;rfl)
    | (obtain⟨t,rfl⟩:=rx;rfl)
def qq(b:Expr){op:CmpOp}(h:op≠ .In:=by decide)(h2:op≠ .NotIn:=by decide):behindInMarks op b=false:=by
 have e1:(op==CmpOp.In)=false:=by cases op <;> first | rfl | exact absurd rfl h
 have e2:(op==CmpOp.NotIn)=false:=by cases op <;> first | rfl | exact absurd rfl h2
 cases b <;> simp[behindInMarks,e1,e2]
def q4j{op:CmpOp}{r:R2}(ho:OpR X (compareOp op) r)(ha:PE X a ta)(hb:PE X b tb)(hm:behindInMarks op b=false):PE X (.Compare a [op] [b] pos) (tOp r ta tb):=by
 intro xC s σ H Q I h;exact wpAny_Compare1 (binT ha hb I h λv u s2 x y H2 I2 rx ry q=>ho xC s2 σ H2 x y v u Q I2 rx ry q) hm
def qw8(t:TE):TT:=λσ H Q=>t σ H λx H'=>∃k,x= .bl k/\Q k H'
def qp{op:CmpOp}{r:R2}(ho:OpR X (compareOp op) r)(ha:PE X a ta)(hb:PE X b tb)(hm:behindInMarks op b=false):PT X (.Compare a [op] [b] pos) (qw8 (tOp r ta tb)):=by
 intro xC s σ H Q I h;refine wpAny_isTrue_Compare1 (thn (ha xC s σ H _ I h) λv s1 ⟨x,H1,I1,r1,q1⟩=>thn (hb xC s1 σ H1 _ I1 q1) λu s2 ⟨y,H2,I2,r2,q2⟩=>
  thn (ho xC s2 σ H2 x y v u _ I2 r1 r2 q2) λc s3 ⟨z,H3,I3,r3,k,e,q3⟩=>?_) hm
 subst e;cases r3
 exact z24 ⟨H3,I3,q3⟩
def qqz(r r':R2)(ta tb tc:TE):TE:=λσ H Q=>ta σ H λx H1=>tb σ H1 λy H2=>r x y H2 λz H3=>∃k,z= .bl k/\
 (if k=true then tc σ H3 λw' H4=>r' y w' H4 Q else Q (.bl false) H3)
def qtv{op D:CmpOp}{r O:R2}(ho:OpR X (compareOp op) r)(J:OpR X (compareOp D) O)(ha:PE X a ta)(hb:PE X b tb)(hc:PE X c tc)
  (hm:lastMarks [op,D] [b,c]=false:=by with_unfolding_all rfl):PE X (.Compare a [op,D] [b,c] pos) (qqz r O ta tb tc):=by
 intro xC s σ H Q I h;refine Compare_chain (thn (ha xC s σ H _ I h) λv s1 ⟨x,H1,I1,r1,q1⟩=>chain_link (thn (hb xC s1 σ H1 _ I1 q1) λu s2 ⟨y,H2,I2,r2,q2⟩=>
  thn (ho xC s2 σ H2 x y v u _ I2 r1 r2 q2) λd s3 ⟨z,H3,I3,r3,k,e,q3⟩=>?_)) hm
 subst e;cases r3
 refine z24 ?_;cases k with
 | false=>exact ite_ff ⟨.bl false,H3,I3,rfl,q3⟩
 | true=>exact ite_tt (chain_last (thn (hc xC s3 σ H3 _ I3 q3) λw' s4 ⟨z',H4,I4,r4,q4⟩=>J xC s4 σ H4 y z' u w' Q I4 r2 r4 q4))
def qtw{op D:CmpOp}{r Z:R2}(ho:OpR X (compareOp op) r)(J:OpR X (compareOp D) Z)(ha:PE X a ta)(hb:PE X b tb)(hc:PE X c tc)
  (hm:lastMarks [op,D] [b,c]=false:=by with_unfolding_all rfl):PT X (.Compare a [op,D] [b,c] pos) (qw8 (qqz r Z ta tb tc)):=by
 intro xC s σ H Q I h;refine isTrue_chain (thn (ha xC s σ H _ I h) λv s1 ⟨x,H1,I1,r1,q1⟩=>test_link (thn (hb xC s1 σ H1 _ I1 q1) λu s2 ⟨y,H2,I2,r2,q2⟩=>
  thn (ho xC s2 σ H2 x y v u _ I2 r1 r2 q2) λd s3 ⟨z,H3,I3,r3,k,e,q3⟩=>?_)) hm
 subst e;cases r3
 refine z24 ?_;cases k with
 | false=>
  obtain⟨k',e',q'⟩:=q3;cases e'
  exact ite_ff ⟨H3,I3,q'⟩
 | true=>
  refine ite_tt (test_last (thn (hc xC s3 σ H3 _ I3 q3) λw' s4 ⟨z',H4,I4,r4,q4⟩=>thn (J xC s4 σ H4 y z' u w' _ I4 r2 r4 q4) λd' s5 O=>?_));obtain⟨z2,H5,I5,r5,k2,e2,q5⟩:=O;subst e2;cases r5
  exact z24 ⟨H5,I5,q5⟩
def qkt:(sizeLine:Nat) < 2^63:=by rw[sizeLine_eq];decide
def q7d:OpR X (binaryOp .Add) (λx y H Q=>∃i j,x= .str i/\y= .str j/\i.length+j.length<=sizeLine/\Q (.str (i++j)) H):=by
 intro xC s σ H x y v u Q I rx ry h;obtain⟨i,j,rfl,rfl,hz,q⟩:=h;obtain⟨t,rfl⟩:=rx;obtain⟨t',rfl⟩:=ry;exact add_str (λt' tk=>⟨.str (i++j),H,I.tok _,⟨_,zr⟩,q⟩) hz
def q2k{x:V}{us:xH}(r:Vals [x] us):∃u,us=[u]/\RelV x u:=by
 cases r with
 | cons r1 r2=>cases r2;exact⟨_,rfl,r1⟩
def qp6{x y:V}{us:xH}(r:Vals [x,y] us):∃u D,us=[u,D]/\RelV x u/\RelV y D:=by
 cases r with
 | cons r1 r2=>
  cases r2 with
  | cons r3 r4=>cases r4;exact⟨_,_,rfl,r1,r3⟩
def qku:q2b X (.builtin "abs") (λxs H Q=>∃i,xs=[.int i]/\Q (.int (if i < 0 then -i else i)) H):=by
 intro xC s σ H xs us Q I r h;obtain⟨i,rfl,q⟩:=h;obtain⟨u,rfl,t,rfl⟩:=q2k r;exact call_abs_int λu tk=>⟨.int (if i < 0 then -i else i),H,I.tok _,⟨_,rfl⟩,q⟩
def qr0(hc:X.calm=true):q2b X (.builtin "max") (λxs H Q=>∃i j,xs=[.int i,.int j]/\Q (.int (if j > i then j else i)) H):=by
 intro xC s σ H xs us Q I r h;obtain⟨i,j,rfl,q⟩:=h;obtain⟨u,w',rfl,⟨t,rfl⟩,⟨t',rfl⟩⟩:=qp6 r;refine max_two_ints (I.ok.hd hc) λh' tk k=>⟨_,H,I.kept k,?_,q⟩;by_cases D:j > i
 ·rw[if_pos D,if_pos D];exact⟨_,rfl⟩
 ·rw[if_neg D,if_neg D];exact⟨_,rfl⟩
def q8k(hc:X.calm=true):q2b X (.builtin "min") (λxs H Q=>∃i j,xs=[.int i,.int j]/\Q (.int (if j < i then j else i)) H):=by
 intro xC s σ H xs us Q I r h;obtain⟨i,j,rfl,q⟩:=h;obtain⟨u,w',rfl,⟨t,rfl⟩,⟨t',rfl⟩⟩:=qp6 r;refine min_two_ints (I.ok.hd hc) λh' tk k=>⟨_,H,I.kept k,?_,q⟩;by_cases D:j < i
 ·rw[if_pos D,if_pos D];exact⟨_,rfl⟩
 ·rw[if_neg D,if_neg D];exact⟨_,rfl⟩
def LenV(K:xA)(x:V)(H:Hp)(n:Nat):Prop:=
 match x with
 | .str y=>y.length<=sizeLine/\n=y.length
 | .byt y=>y.size<=sizeLine/\n=y.size
 | .ref p=>(∃xs,SqL K H p xs/\n=xs.length)\/ ∃xs,SqT K H p xs/\n=xs.length
 | _=>False
def qtx:q2b X (.builtin "len") (λxs H Q=>∃x n,xs=[x]/\LenV X.K x H n/\Q (.int n) H):=by
 intro xC s σ H xs us Q I r h;obtain⟨x,n,rfl,e,q⟩:=h;obtain⟨u,rfl,rx⟩:=q2k r;have hl:=qkt;have hs:sizeLine=16777216:=sizeLine_eq;cases x with
 | str y=>
  obtain⟨t,rfl⟩:=rx;obtain⟨hy,e'⟩:y.length<=sizeLine/\n=y.length:=e;subst e';exact len_str (by lia) ⟨.int _,H,I.tok _,⟨_,zr⟩,q⟩
 | byt y=>
  obtain⟨t,rfl⟩:=rx;obtain⟨hy,e'⟩:y.size<=sizeLine/\n=y.size:=e;subst e';exact PySem.W.len_bytes (by lia) ⟨.int _,H,I.tok _,⟨_,zr⟩,q⟩
 | ref p=>
  cases rx
  have e':(∃xs,SqL X.K H p xs/\n=xs.length)\/ ∃xs,SqT X.K H p xs/\n=xs.length:=e;rcases e' with ⟨xs,hx,e'⟩ | ⟨xs,hx,e'⟩
  ·subst e';obtain⟨its,J,pl,hz⟩:=I.list hx;have D:=J.length;exact Calls.call_len_list pl.isList (by simp only[z23];lia) ⟨.int xs.length,H,I.tok _,⟨_,by simp only[z23];rw[D]⟩,q⟩
  ·subst e';obtain⟨its,J,pl,hz⟩:=I.tuple hx;have D:=J.length;exact len_tuple pl (by simp only[z23];lia) ⟨.int xs.length,H,I.tok _,⟨_,by simp only[z23];rw[D]⟩,q⟩
 | _=>exact(show False from e).elim
end
structure ObjM (h:Heap) (x dx C:Addr) (mA:xE):Prop where
 obj:h.get? x=some (PySem.W.instObj C dx)
 ns:h.Ns1 dx mA
 ne:dx≠x
def qr1{h:Heap}{dx:Addr}{mA:xE}(n:h.Ns1 dx mA):∃J,h.get? dx=some J/\∀name,PySem.W.lookIn name J=some (mA name):=by
 obtain⟨o,es,ep,ho,hd,hk,_,hm⟩:=n;refine⟨o,ho,λname=>?_⟩;have e:=hm name;unfold nsFind findBy at e;rw[<- Array.find?_toList]at e;unfold PySem.W.lookIn;rw[hd]
 dsimp only
 split
 ·rename_i y q;rw[q]at e;exact congrArg some e
 ·rename_i q;rw[q]at e;have a:es.toList.any (·.refKey)=false:=by
   rw[List.any_eq_false];intro y hy;obtain⟨z,t,D⟩:=hk y (Array.mem_toList_iff.mp hy);simp[DictEntry.refKey,D]
  have a':¬ es.toList.any (·.refKey)=true:=by rw[a];exact z1l
  rw[if_neg a'];exact congrArg some e
def ObjM.look{h:Heap}{x dx C:Addr}{mA:xE}(I:ObjM h x dx C mA):∃D,PySem.W.InstAt h x (PySem.W.instObj C dx) C (some D)/\∀name,PySem.W.lookIn name D=some (mA name):=
 let ⟨D,ho,hl⟩:=qr1 I.ns
 ⟨D,⟨I.obj,rfl,rfl,ho⟩,hl⟩
section
variable{prog:Program}{w:World}{A:Around}{E:xB}{s:Shared}{K:xA}{x dx C f:Addr}{mA:xE}{name:Str}{v:Value}
def qwz{D:Bool}{Q:xB}(X:K.In s.heap)(I:ObjM s.heap x dx C mA)(hg:PySem.W.plainGet K C name=true)(hh:PySem.W.hasDictIn K C=true)
  (ha:PySem.W.findIn K (.ref C) name=some none) (hv:mA name=some v) (O:PySem.W.handedIn v=true) (h:Q v {s with toks:=s.toks+1}):
  wpAny (model prog w) A (getAttr (.ref x) name D) Q E s:=by
 obtain⟨od,J,hl⟩:=I.look;exact PySem.W.get_value X J (PySem.W.plainGet_of hg).1 (PySem.W.findObj_own hh ha rfl (by rw[hl,hv])) O h
def qty{pl:Sem Bool}{Q:Value×List Value->Shared->Prop}(X:K.In s.heap)(I:ObjM s.heap x dx C mA)(D:PySem.W.plainGet K C name=true)
  (hf:PySem.W.findIn K (.ref C) name=some (some (.ref f))) (ht:PySem.W.isFn K (.ref f)=true) (hv:mA name=none) (h:Q (.ref f,[.ref x]) s):
  wpAny (model prog w) A (getMethod (.ref x) name pl) Q E s:=by
 obtain⟨od,J,hl⟩:=I.look;exact PySem.W.method_fn X J (PySem.W.plainGet_of D).1 (PySem.W.plainGet_of D).2 hf (beq_iff_eq.mp ht) (by show (PySem.W.lookIn name od).map (·.isSome)=some false;rw[hl,hv];rfl) h
def qx0{ns:xD}{Q:Unit->Shared->Prop}(X:K.In s.heap)(I:ObjM s.heap x dx C mA)
  (hs:PySem.W.findIn K (.ref C) "__setattr__"=some (some (.builtin "object.__setattr__"))) (hp:PySem.W.plainOver K C=true) (ht:PySem.W.takerIn K C name=some none) (hh:PySem.W.hasDictIn K C=true)
  (hw:PySem.Within mA ns) (hsz:ns.length<=sizeLine)
  (h:∀h',ObjM h' x dx C (λy=>if y=name then some v else mA y)->Heap.SameBut dx s.heap h'->Q () {s with heap:=h',toks:=s.toks+2}):
  wpAny (model prog w) A (setAttr (.ref x) name v) Q E s:=by
 obtain⟨od,J,hl⟩:=I.look;refine PySem.W.set_plain X J hs (PySem.W.osa_open (s:={s with toks:=s.toks+1}) (r:=none) X J hp ht λb=>?_);obtain⟨cd,hc,a0⟩:=PySem.W.any_some hh;have hx:s.heap.get? x=some ⟨.ref C,some dx,.plain,#[]⟩:=I.obj;refine z4e (z4d (z4e (z4e (wpAny_loadPart hx (z4e (PySem.W.Looks.here (s:={s with toks:=s.toks+1}) (PySem.W.looks_clsIn X hc) ?_))))));rw[a0];refine z4d (a:=some dx) (z4e (z4d (z4e ?_)));refine wpAny_nsSet1 (s:={s with toks:=s.toks+1}) I.ns λh' D O=>?_;obtain⟨oD,esD,epD,a2,a1,Z⟩:=D.count (PySem.Within.cons name v hw);refine z4e (wpAny_lookBehind a2 (by rw[a1];exact pastItsLine_dict (z40 Z (by rw[z2i];lia))) ?_);exact z4d (h _ ⟨(O.2 _ (Ne.symm I.ne)).trans I.obj,D,I.ne⟩ O)
def qtz{R:Result->Shared->Prop}{vs:xH}{D:List (Str×Value)}(X:K.In s.heap)(hm:PySem.W.makesIn K C=true)
  (hi:PySem.W.findIn K (.ref C) "__init__"=some (some (.ref f))) (hf:PySem.W.typeIn K (.ref f)=some (.type "function"))
  (h:codeAny (model prog w) (A.under (.builtin "type.__call__" ⟨.ref C::vs,D⟩)) (.call (.ref f) ⟨.ref (s.heap.objs.size+1)::vs,D⟩) (PySem.W.InitBack (s.heap.objs.size+1) R)
   {s with heap:=(s.heap.push PySem.W.emptyDict).push (PySem.W.instObj C s.heap.objs.size)}):
  codeAny (model prog w) A (.call (.ref C) ⟨vs,D⟩) R s:=by
 obtain⟨hh,g,d,t,os⟩:=s;exact PySem.W.make_core (PySem.W.makes_of X hm) (PySem.W.looks_findIn X hi) (λself=>PySem.W.bind_fn X self hf) (.inl rfl) h
def qr2{R:Result->Shared->Prop}(X:K.In s.heap)(hm:PySem.W.makesIn K C=true)
  (hi:PySem.W.findIn K (.ref C) "__init__"=some (some (.builtin "object.__init__")))
  (hb:∀self,PySem.W.Looks (model prog w) s.heap (bindSpecial (.builtin "object.__init__") self) (.builtin "object.__init__",[self]))
  (h:codeAny (model prog w) (A.under (.builtin "type.__call__" ⟨[.ref C],[]⟩)) (.call (.builtin "object.__init__") ⟨[.ref (s.heap.objs.size+1)],[]⟩) (PySem.W.InitBack (s.heap.objs.size+1) R)
   {s with heap:=(s.heap.push PySem.W.emptyDict).push (PySem.W.instObj C s.heap.objs.size)}):
  codeAny (model prog w) A (.call (.ref C) ⟨[],[]⟩) R s:=by
 obtain⟨hh,g,d,t,os⟩:=s;exact PySem.W.make_core (PySem.W.makes_of X hm) (PySem.W.looks_findIn X hi) hb (.inr ⟨zr,zr⟩) h
end
def putF(f:Str)(v:V):List (Str×V)->List (Str×V)
 | []=>[(f,v)]
 | (g,x)::r=>if g=f then (g,v)::r else (g,x)::putF f v r
theorem qct(f g:Str)(v:V):∀fs:List (Str×V),(putF f v fs).lookup g=if g=f then some v else fs.lookup g
  | []=>by
    show List.lookup g [(f,v)]=_;by_cases h:g=f
    · have D:(g==f)=true:=beq_iff_eq.mpr h
      simp only[List.lookup,D,if_pos h]
    · have D:(g==f)=false:=beq_eq_false_iff_ne.mpr h
      simp only[List.lookup,D,if_neg h]
  | (k,x)::r=>by
    have ih:=qct f g v r;rw[show putF f v ((k,x)::r)=(if k=f then (k,v)::r else (k,x)::putF f v r) from rfl];by_cases hk:k=f
    · rw[if_pos hk]
      by_cases h:g=k
      · have D:(g==k)=true:=beq_iff_eq.mpr h
        simp only[List.lookup,D,if_pos (h.trans hk)]
      · have D:(g==k)=false:=beq_eq_false_iff_ne.mpr h
        simp only[List.lookup,D,if_neg (λe:g=f=>h (e.trans hk.symm))]
    · rw[if_neg hk]
      by_cases h:g=k
      · have D:(g==k)=true:=beq_iff_eq.mpr h
        simp only[List.lookup,D,if_neg (λe:g=f=>hk (h.symm.trans e))]
      · have D:(g==k)=false:=beq_eq_false_iff_ne.mpr h
        simp only[List.lookup,D];exact ih
theorem qax(f:Str)(v:V):∀fs:List (Str×V),f∈(putF f v fs).map (·.1)/\∀g,g∈fs.map (·.1)->g∈(putF f v fs).map (·.1)
  | []=>⟨by simp[putF],λg h=>by simp at h⟩
  | (k,x)::r=>by
    obtain⟨i1,i2⟩:=qax f v r;rw[show putF f v ((k,x)::r)=(if k=f then (k,v)::r else (k,x)::putF f v r) from rfl];by_cases hk:k=f
    · rw[if_pos hk]
      subst hk;exact⟨by simp,λg h=>by simpa using h⟩
    · rw[if_neg hk]
      refine⟨?_,λg h=>?_⟩
      · rw[z3k]
        exact z16 _ i1
      · rw[z3k]at h ⊢
        rcases z3m.mp h with e | e
        · exact z3m.mpr (.inl e)
        · exact z16 _ (i2 g e)
theorem qcu(f:Str)(v:V):∀fs:List (Str×V),(putF f v fs).length<=fs.length+1
  | []=>by simp[putF]
  | (k,x)::r=>by
    have ih:=qcu f v r;rw[show putF f v ((k,x)::r)=(if k=f then (k,v)::r else (k,x)::putF f v r) from rfl];by_cases hk:k=f
    · rw[if_pos hk,z2i,z2i];lia
    · rw[if_neg hk,z2i,z2i];lia
def RelO.qg8{v:V}{o:Option Value}(r:RelO (some v) o):∃u,o=some u/\RelV v u:=by
 cases o with
 | none=>exact(show False from r).elim
 | some u=>exact⟨u,rfl,r⟩
def RelO.qx1{o:Option Value}(r:RelO none o):o=none:=by
 cases o with
 | none=>rfl
 | some u=>exact(show False from r).elim
def qr3{v:V}{u:Value}(r:RelV v u):PySem.W.handedIn u=true:=by
 cases v with
 | non=>cases (show u=Value.none from r);rfl
 | bl b=>cases (show u=Value.bool b from r);rfl
 | int i=>obtain⟨t,e⟩:=(show ∃t,u=Value.int i t from r);cases e;rfl
 | str x=>obtain⟨t,e⟩:=(show ∃t,u=Value.str x t from r);cases e;rfl
 | byt b=>obtain⟨t,e⟩:=(show ∃t,u=Value.bytes b t from r);cases e;rfl
 | flt b=>obtain⟨t,e⟩:=(show ∃t,u=Value.float b t from r);cases e;rfl
 | ref a=>cases (show u=Value.ref a from r);rfl
 | ty n=>cases (show u=Value.type n from r);rfl
section
variable{P:Program}{w:World}{H H':Hp}{h h':Heap}{a C dx:Addr}{fs fs':List (Str×V)}
def qg9(hok:HOk P w H h)(e:H a=some (.ins C dx fs)):∃mA,ObjM h a dx C mA/\(∀f,RelO (fs.lookup f) (mA f))/\PySem.Within mA (fs.map (·.1))/\fs.length<=1000/\H dx=some (.own a):=by
 obtain⟨d,z,ne,ob,mA,n,r,q⟩:=(show ObjOk P w H h a (.ins C dx fs) from hok a _ e);exact⟨mA,⟨ob,n,ne⟩,r,q,z,d⟩
end
structure Cls (K:xA) (C:Addr):Prop where
 pg:PySem.W.plainGet K C Str.empty=true
 hd:PySem.W.hasDictIn K C=true
 po:PySem.W.plainOver K C=true
 sa:PySem.W.findIn K (.ref C) "__setattr__"=some (some (.builtin "object.__setattr__"))
def Cls.get{K:xA}{C:Addr}(c:Cls K C)(f:Str):PySem.W.plainGet K C f=true:=c.pg
def NoAttr(K:xA)(C:Addr)(f:Str):Prop:=PySem.W.findIn K (.ref C) f=some none
def NoAttr.taker{K:xA}{C:Addr}{f:Str}(n:NoAttr K C f):PySem.W.takerIn K C f=some none:=by
 unfold PySem.W.takerIn;rw[show PySem.W.findIn K (.ref C) f=some none from n];rfl
structure Meth (K:xA) (C:Addr) (m:Str) (f:Addr):Prop where
 at_:PySem.W.findIn K (.ref C) m=some (some (.ref f))
 fn:PySem.W.isFn K (.ref f)=true
 kp:PySem.W.keepIn K (.ref f)=true
section
variable{X:Cx}{xC:xG}{σ:St}{H:Hp}{s:Shared}{a C dx:Addr}{fs:List (Str×V)}{f:Str}{v:V}{A:Around}{E:xB}
def qp7{b:Bool}{Q:xB}(I:Inv X xC σ H s)(e:H a=some (.ins C dx fs))(c:Cls X.K C)(n:NoAttr X.K C f)(l:fs.lookup f=some v)
  (h:∀u s',Inv X xC σ H s'->RelV v u->Q u s'):wpAny (model X.prog X.w) A (getAttr (.ref a) f b) Q E s:=by
 obtain⟨mA,O,r,_,_,_⟩:=qg9 I.hok e;obtain⟨u,hu,D⟩:=RelO.qg8 (v:=v) (o:=mA f) (by rw[<- l];exact r f);exact qwz I.kIn O (c.get f) c.hd n hu (qr3 D) (h u _ (I.tok _) D)
def q9k{m:Str}{g:Addr}{pl:Sem Bool}{Q:Value×List Value->Shared->Prop}(I:Inv X xC σ H s)(e:H a=some (.ins C dx fs))(c:Cls X.K C)(k:Meth X.K C m g)(l:fs.lookup m=none)
  (h:Q (.ref g,[.ref a]) s):wpAny (model X.prog X.w) A (getMethod (.ref a) m pl) Q E s:=by
 obtain⟨mA,O,r,_,_,_⟩:=qg9 I.hok e;have hn:mA m=none:=RelO.qx1 (by rw[<- l];exact r m);exact qty I.kIn O (c.get m) k.at_ k.fn hn h
def qp8{y:V}{u:Value}{Q:Unit->Shared->Prop}(I:Inv X xC σ H s)(e:H a=some (.ins C dx fs))(c:Cls X.K C)(n:NoAttr X.K C f)(hl:fs.length < 1000)(ry:RelV y u)
  (h:∀s',Inv X xC σ (upd H a (.ins C dx (putF f y fs))) s'->Q () s'):wpAny (model X.prog X.w) A (setAttr (.ref a) f u) Q E s:=by
 obtain⟨mA,O,r,wi,_,ho⟩:=qg9 I.hok e;have hz:(fs.map (·.1)).length<=sizeLine:=by rw[z30,sizeLine_eq];lia
 refine qx0 I.kIn O c.sa c.po n.taker c.hd wi hz λh' D sb=>h _ ?_;have hd:∃o,h'.get? dx=some o:=let ⟨o,_,_,e',_⟩:=D.ns;⟨o,e'⟩
 refine I.write (x:=a) (e:=dx) (by rw[e];exact True.intro) (.inr ho) (λb q hb z=>(sb.2 b hb).trans z) hd ?_;refine⟨by rw[qi O.ne];exact ho,?_,O.ne,D.obj,_,D.ns,λg=>?_,λg hg=>?_⟩
 ·have:=qcu f y fs;lia
 ·show RelO ((putF f y fs).lookup g) (if g=f then some u else mA g);rw[qct];by_cases q:g=f
  ·rw[if_pos q,if_pos q];exact ry
  ·rw[if_neg q,if_neg q];exact r g
 ·by_cases q:g=f
  ·rw[q];exact(qax f y fs).1
  ·refine(qax f y fs).2 g (wi g λz=>hg ?_);show (if g=f then some u else mA g)=none;rw[if_neg q];exact z
def Inv.made(I:Inv X xC σ H s):Inv X xC σ (upd (upd H s.heap.objs.size (.own (s.heap.objs.size+1))) (s.heap.objs.size+1) (.ins C s.heap.objs.size []))
  {s with heap:=(s.heap.push PySem.W.emptyDict).push (PySem.W.instObj C s.heap.objs.size)}:=by
 have e1:(s.heap.push PySem.W.emptyDict).get? s.heap.objs.size=some PySem.W.emptyDict:=z1c s.heap rfl;have e2:((s.heap.push PySem.W.emptyDict).push (PySem.W.instObj C s.heap.objs.size)).get? (s.heap.objs.size+1)=some (PySem.W.instObj C s.heap.objs.size):=by
  have:=z1c (s.heap.push PySem.W.emptyDict) (o:=PySem.W.instObj C s.heap.objs.size) rfl
  rwa [z3e]at this
 have e3:(s.heap.push PySem.W.emptyDict).Ns s.heap.objs.size (λ_=>none):=⟨PySem.W.emptyDict,#[],_,e1,rfl,(λe he=>absurd he (by simp)),λ_=>rfl⟩;have I1:=I.laid (a:=s.heap.objs.size) (o:= .own (s.heap.objs.size+1)) (h':=s.heap.push PySem.W.emptyDict) (t':=s.toks) (λb u q=>z0o _ q) (z47 _) ⟨_,e1⟩;refine I1.laid (a:=s.heap.objs.size+1) (o:= .ins C s.heap.objs.size []) (t':=s.toks) (λb u q=>z0o _ q) (Nat.le_of_eq (z3e _ _)) ?_;have ne:s.heap.objs.size≠s.heap.objs.size+1:=z3z (z2l _);refine⟨by rw[qi ne,qb],z4a _,ne,e2,λ_=>none,(Heap.Ns1.of_empty e3).at λo q=>z0o _ q,λ_=>True.intro,λy hy=>absurd rfl hy⟩
def qx2{prog:Program}{w:World}{env:Env}{e:Expr}{f:Str}{pos:Pos}{s:Shared}{Q:xB}(hb:attributeBase e f env (eval e env)=eval e env)
  (h:wpAny (model prog w) A (eval e env) (λo s₁=>wpAny (model prog w) A (getAttr o f true) Q E s₁) E s):wpAny (model prog w) A (eval (.Attribute e f pos) env) Q E s:=
 Attribute_any_ h (by rw[arm_eval_Attribute,hb])
end
def tFld(K:xA)(ta:TE)(f:Str):TE:=λσ H Q=>ta σ H λx H1=>∃a C dx fs v,x= .ref a/\H1 a=some (.ins C dx fs)/\Cls K C/\NoAttr K C f/\fs.lookup f=some v/\Q v H1
def sFld(K:xA)(ta tv:TE)(f:Str):TS:=λD σ H=>tv σ H λy H1=>ta σ H1 λx H2=>∃a C dx fs,x= .ref a/\H2 a=some (.ins C dx fs)/\Cls K C/\NoAttr K C f/\fs.length < 1000/\
 D.nx σ (upd H2 a (.ins C dx (putF f y fs)))
section
variable{X:Cx}{o e value:Expr}{f:Str}{pos pos' tpos:Pos}{ta tv:TE}
def qay(he:PE X e ta)(hb:attributeBase e f X.env (eval e X.env)=eval e X.env):PE X (.Attribute e f pos) (tFld X.K ta f):=by
 intro xC s σ H Q I h;refine qx2 hb (thn (he xC s σ H _ I h) λu s1 D=>?_);obtain⟨x,H1,I1,rx,a,C,dx,fs,v,ex,ea,c,n,l,q⟩:=D;subst ex;obtain rfl:u=Value.ref a:=rx;exact qp7 I1 ea c n l λu' s2 I2 ru=>⟨v,H1,I2,ru,q⟩
def qr4(ha:PE X o ta)(hv:PE X value tv)(hs:swapsWith value (some (.Attribute o f pos')) pos.line X.env=pure false):PS X (.Assign [.Attribute o f pos'] value pos) (sFld X.K ta tv f):=by
 intro xC s σ H D I h;refine plainObj_wpAny_Assign_Attribute (thn (hv xC s σ H _ I h) λu s1 ⟨y,H1,I1,ry,q⟩=>thn (ha xC s1 σ H1 _ I1 q) λov s2 J=>?_) hs;obtain⟨x,H2,I2,rx,a,C,dx,fs,ex,ea,c,n,l,q2⟩:=J;subst ex;obtain rfl:ov=Value.ref a:=rx;exact qp8 I2 ea c n l ry λs3 I3=>⟨σ,_,I3,q2⟩
end
section
variable{X:Cx}{xC:xG}{σ:St}{H:Hp}{s:Shared}{A:Around}{E:xB}{Q:xB}{c:Value}{b:Bool}
end
structure Room (k:Nat) (A:Around):Prop where
 hd:A.handled=none
 dp:A.depth+3*k+5 < recursionLimit
 un:A.units+16*k+200 < cLine
def Room.mono{j k:Nat}{A:Around}(r:Room k A)(h:j<=k):Room j A:=⟨r.hd,by have:=r.dp;lia,by have:=r.un;lia⟩
theorem Room.deeper{k:Nat}{A:Around}(r:Room (k+1) A)(env:Env):Room k (A.deeper env):=
 ⟨r.hd,by have:=r.dp;show A.depth+1+3*k+5 < _;lia,by have:=r.un;show A.units+3+16*k+200 < _;lia⟩
def qp9{A:Around}{C:Addr}{us:xH}{kw:List (Str×Value)}:(A.under (.builtin "type.__call__" ⟨.ref C::us,kw⟩)).depth=A.depth+1:=by
 first | rfl | simp[Around.under,Code.weight,Code.isCreation,Code.isGuard,Code.isCaller,Code.frames,Code.isFrame,guardIds]
def qpa{A:Around}{C:Addr}{us:xH}{kw:List (Str×Value)}:(A.under (.builtin "type.__call__" ⟨.ref C::us,kw⟩)).units=A.units+1:=by
 first | rfl | simp[Around.under,Code.cUnits,Code.frames,Code.isFrame]
def Room.make{k:Nat}{A:Around}(r:Room (k+1) A)(C:Addr)(us:xH)(kw:List (Str×Value)):Room k (A.under (.builtin "type.__call__" ⟨.ref C::us,kw⟩)):=
 ⟨r.hd,by have:=r.dp;rw[qp9];lia,by have:=r.un;rw[qpa];lia⟩
theorem Room.depth{k:Nat}{A:Around}(r:Room k A):A.depth < recursionLimit:=by have:=r.dp;lia
theorem Room.units{k:Nat}{A:Around}(r:Room k A):A.units+64 < cLine:=by have:=r.un;lia
def tNil:TA:=λ_ H Q=>Q [] H
def q2p(ta:TE)(tr:TA):TA:=λσ H Q=>ta σ H λx H1=>tr σ H1 λxs H2=>Q (x::xs) H2
section
variable{X:Cx}{e:Expr}{es:List Expr}{te:TE}{t:TA}{pos:Pos}
def q26:PA X [] tNil:=λ_ _ _ _ H Q I h=>Calls.spliced_nil ⟨[],H,I,.nil,h⟩
def qx3(ha:PE X e te)(hr:PA X es t)(hs:starEach (e::es) X.env=(false,eval e X.env)::starEach es X.env:=by rfl):PA X (e::es) (q2p te t):=by
 intro pos xC s σ H Q I h;rw[hs];show wpAny _ _ (spliced ((false,eval e X.env)::backTo pos (starEach es X.env))) _ _ s;refine Calls.spliced_cons (thn (ha xC s σ H _ I h) λu s1 D=>?_);obtain⟨x,H1,I1,r1,q1⟩:=D;exact thn (hr pos xC s1 σ H1 _ I1 q1) λus s2 ⟨xs,H2,I2,r2,q2⟩=>⟨x::xs,H2,I2,.cons r1 r2,q2⟩
def tTup(t:TA):TE:=λσ H Q=>t σ H λxs H1=>xs.length<=sizeLine/\∀p,H1 p=none->Q (.ref p) (upd H1 p (.tup xs))
def tLst(t:TA):TE:=λσ H Q=>t σ H λxs H1=>xs.length<=sizeLine/\∀p,H1 p=none->Q (.ref p) (upd H1 p (.lst xs))
def qkv{x1}(h:PA X es t):PE X (.Tuple es x1 pos) (tTup t):=by
 intro xC s σ H Q I hq;refine wpAny_Tuple_spliced (thn (h pos xC s σ H _ I hq) λus s1 ⟨xs,H1,I1,r,z,q⟩=>⟨by rw[<- r.length];exact z,?_⟩);have hf:H1 s1.heap.objs.size=none:=I1.hok.fresh (z47 _);refine⟨.ref s1.heap.objs.size,upd H1 s1.heap.objs.size (.tup xs),I1.laid (t':=s1.toks) (λb u e=>z0o _ e) (z47 _) ?_,zr,q _ hf⟩;exact⟨z,us,r,⟨_,z1c _ rfl,zr,_,zr⟩⟩
def q1p(h:PA X es t):PE X (.List es pos) (tLst t):=by
 intro xC s σ H Q I hq;refine wpAny_List_spliced (thn (h pos xC s σ H _ I hq) λus s1 ⟨xs,H1,I1,r,z,q⟩=>⟨by rw[<- r.length];exact z,?_⟩);have hf:H1 s1.heap.objs.size=none:=I1.hok.fresh (z47 _);refine⟨.ref s1.heap.objs.size,upd H1 s1.heap.objs.size (.lst xs),I1.laid (t':=s1.toks) (λb u e=>z0o _ e) (z47 _) ?_,zr,q _ hf⟩;exact⟨z,us,0,r,z1c _ rfl⟩
end
abbrev Sp:=List V->Hp->VK->XK->Prop
abbrev CXT:=List Env->Hp->Shared->XK->Value->Shared->Prop
structure Env0 (P:Program) (w:World) (K:xA) (mg:xE) (base:Heap) (A:Around) (outer:List Env) (s:Shared) (H:Hp):Prop where
 frames:A.frames=some outer
 mod:Mod K mg base
 bs:∀b o,base.get? b=some o->s.heap.get? b=some o/\H b=none
 bsz:base.objs.size<=s.heap.objs.size
 funs:s.heap.FunFrames base outer
 frf:∀b∈frs outer,H b=none
 hok:HOk P w H s.heap
 bare:AllBare s.gens
def CE(outer:List Env)(P:Program)(w:World)(H:Hp)(s:Shared)(Q:VK)(u:Value)(s':Shared):Prop:=
 ∃v H',s'.os=s.os/\AllBare s'.gens/\Un (frs outer) [] H H' s.heap s'.heap/\HOk P w H' s'.heap/\RelV v u/\Q v H'
def CR(CX:CXT)(outer:List Env)(P:Program)(w:World)(H:Hp)(s:Shared)(Q:VK)(E:XK)(r:Result)(s':Shared):Prop:=
 match r with
 | .ok (.ret u)=>CE outer P w H s Q u s'
 | .ok _=>False
 | .error e=>CX outer H s E e s'
structure FnOk (P:Program) (w:World) (K:xA) (mg:xE) (base:Heap) (CX:CXT) (k:Nat) (f:Addr) (fd:FuncData) (ps:xD) (sp:Sp):Prop where
 len:∀vs H Q E,sp vs H Q E->vs.length=ps.length
 run:∀(A:Around) (outer:List Env) (s:Shared) (H:Hp) (args:Args) (us:xH) (vs:List V) (Q:VK) (E:XK),Room k A->Env0 P w K mg base A outer s H->BindsTo s fd args (ps.zip us)->Vals vs us->sp vs H Q E->
  codeAny (model P w) A (.call (.ref f) args) (CR CX outer P w H s Q E) s
theorem FnOk.mono{P:Program}{w:World}{K:xA}{mg:xE}{base:Heap}{CX:CXT}{j k:Nat}{f:Addr}{fd:FuncData}{ps:xD}{sp:Sp}(F:FnOk P w K mg base CX j f fd ps sp)(h:j<=k):
  FnOk P w K mg base CX k f fd ps sp:=⟨F.len,λA outer s H args us vs Q E hr=>F.run A outer s H args us vs Q E (hr.mono h)⟩
def FnOk.imp{P:Program}{w:World}{K:xA}{mg:xE}{base:Heap}{CX:CXT}{k:Nat}{f:Addr}{fd:FuncData}{ps:xD}{sp D:Sp}(F:FnOk P w K mg base CX k f fd ps sp)
  (h:∀vs H Q E,D vs H Q E->sp vs H Q E):FnOk P w K mg base CX k f fd ps D:=
 ⟨λvs H Q E q=>F.len vs H Q E (h _ _ _ _ q),λA outer s H args us vs Q E hr he hb hv hs=>F.run A outer s H args us vs Q E hr he hb hv (h _ _ _ _ hs)⟩
def Env0.make{P:Program}{w:World}{K:xA}{mg:xE}{base:Heap}{A:Around}{outer:List Env}{s:Shared}{H:Hp}(e:Env0 P w K mg base A outer s H)(C:Addr)(us:xH)(kw:List (Str×Value)):
  Env0 P w K mg base (A.under (.builtin "type.__call__" ⟨.ref C::us,kw⟩)) outer s H:=⟨by first | exact e.frames | (simpa [Around.under,Code.envs,Code.isFrame,pushEnvs] using e.frames),e.mod,e.bs,e.bsz,e.funs,e.frf,e.hok,e.bare⟩
section
variable{X:Cx}{xC:xG}{σ:St}{H:Hp}{s s':Shared}
def Inv.env0(I:Inv X xC σ H s):Env0 X.prog X.w X.K X.mg X.base X.A X.stack s H:=
 ⟨I.ok.frames,I.ok.mod,I.bs,z40 I.ok.bsz I.sz,I.stack,I.stkFree,I.hok,I.bare⟩
def Inv.after{Q:VK}{u:Value}(I:Inv X xC σ H s)(h:CE X.stack X.prog X.w H s Q u s'):EP X xC σ Q u s':=by
 obtain⟨v,H',os,bare,un,hok,r,q⟩:=h;obtain⟨hh,g,d,t,D⟩:=s';obtain rfl:D=s.os:=os;exact⟨v,H',I.call (h':=hh) (g':=g) (d':=d) (t':=t) (ch:=[]) un hok bare (λb z=>absurd z (by simp)),r,q⟩
end
def qw9(sp:Sp)(dvs:List V)(E:XK)(t:TA):TE:=λσ H Q=>t σ H λvs H1=>sp (vs++dvs) H1 Q E
def qwa(C:Addr)(m:Str)(sp:Sp)(dvs:List V)(E:XK)(ta:TE)(t:TA):TE:=λσ H Q=>ta σ H λx H1=>∃a dx fs,x= .ref a/\H1 a=some (.ins C dx fs)/\fs.lookup m=none/\
 t σ H1 λvs H2=>sp (x::(vs++dvs)) H2 Q E
def qk5(C:Addr)(sp:Sp)(dvs:List V)(E:XK)(t:TA):TE:=λσ H Q=>t σ H λvs H1=>∀x dx,H1 x=none->H1 dx=none->dx≠x->
 sp (.ref x::(vs++dvs)) (upd (upd H1 dx (.own x)) x (.ins C dx [])) (λv H2=>v= .non/\Q (.ref x) H2) E
def Binds(K:xA)(fd:FuncData)(ps:xD)(ds:xH):Prop:=
 ∀(s:Shared) (us:xH),K.In s.heap->(us++ds).length=ps.length->BindsTo s fd ⟨us,[]⟩ (ps.zip (us++ds))
def Binds.all{K:xA}{fd:FuncData}{ps:xD}(h:∀us:List Value,us.length=ps.length->bindArgs fd ⟨us,[]⟩=pure (ps.zip us)):Binds K fd ps []:=λs us _ hl=>by
 rw[z31]at hl ⊢;exact .of_eq (h us hl)
def q7o(CX:CXT)(X:Cx)(E:XK):Prop:=∀(xC:xG) (σ:St) (H:Hp) (s:Shared) (e:Value) (s':Shared),Inv X xC σ H s->CX X.stack H s E e s'->X.xe e s'
section
variable{X:Cx}{CX:CXT}{k:Nat}{f C:Addr}{fd:FuncData}{ps:xD}{sp:Sp}{dvs:List V}{ds:xH}{E:XK}{x m:Str}{p pos apos:Pos}{e o:Expr}{es:List Expr}{ta:TE}{t:TA}
def qes{xC:xG}{σ:St}{H:Hp}{s:Shared}{Q:VK}{us:xH}{vs:List V}(F:FnOk X.prog X.w X.K X.mg X.base CX k f fd ps sp)(hr:Room k X.A)(hb:Binds X.K fd ps ds)(hd:Vals dvs ds)(hx:q7o CX X E)
  (I:Inv X xC σ H s) (r:Vals vs us) (h:sp (vs++dvs) H Q E):wpAny (model X.prog X.w) X.A (call (.ref f) us) (EP X xC σ Q) X.xe s:=by
 have r2:Vals (vs++dvs) (us++ds):=r.append hd;have hl:(us++ds).length=ps.length:=by rw[<- r2.length];exact F.len _ _ _ _ h
 refine wpAny_call (z42 (F.run X.A X.stack s H ⟨us,[]⟩ (us++ds) (vs++dvs) Q E hr I.env0 (hb s us I.kIn hl) r2 h) λr s' hq=>?_);cases r with
 | error e=>exact hx xC σ H s e s' I hq
 | ok fl=>
  cases fl with
  | ret u=>exact I.after hq
  | next=>exact False.elim hq
  | brk=>exact False.elim hq
  | cont=>exact False.elim hq
def qx4(F:FnOk X.prog X.w X.K X.mg X.base CX k f fd ps sp)(hr:Room k X.A)(hg:Gl X x)(hm:X.mg x=some (.ref f))(hk:PySem.W.keepIn X.K (.ref f)=true)(hb:Binds X.K fd ps ds)(hd:Vals dvs ds)(hx:q7o CX X E)
  (ha:PA X (e::es) t) (D:(x==("__debug__":Str))=false:=by decide) (he:starEach (e::es) X.env=(false,eval e X.env)::starEach es X.env:=by rfl) (J:(backTo pos (starEach es X.env)).any (·.1)=false:=by rfl):
  PE X (.Call (.Name x p) (e::es) [] pos) (qw9 sp dvs E t):=by
 intro xC s σ H Q I h;refine z1s (q8y I hg hm ?_ D);refine PySem.W.callWith_K (h₀:=X.base) I.ok.mod.kin hk (thn (ha pos xC s σ H _ I h) λus s1 ⟨vs,H1,I1,r,q⟩=>⟨I1.kIn,?_⟩) he J;exact qes F hr hb hd hx I1 r q
def qx5{pl:Sem Bool}(he:PE X o ta)(c:Cls X.K C)(Z:Meth X.K C m f)(F:FnOk X.prog X.w X.K X.mg X.base CX k f fd ps sp)(hr:Room k X.A)(hb:Binds X.K fd ps ds)(hd:Vals dvs ds)(hx:q7o CX X E)(ha:PA X (e::es) t)
  (J:starEach (e::es) X.env=(false,eval e X.env)::starEach es X.env:=by rfl) (D:(backTo pos (starEach es X.env)).any (·.1)=false:=by rfl)
  (ht:eval (.Call (.Attribute o m apos) (e::es) [] pos) X.env=(do
   let ov <- eval o X.env
   standAt apos.atName
   let (f,first) <- holding [ov] (getMethod ov m pl)
   callWith pos f first (backTo pos (starEach (e::es) X.env)) (backToKw pos (keywordEach [] X.env))):=by rfl):
  PE X (.Call (.Attribute o m apos) (e::es) [] pos) (qwa C m sp dvs E ta t):=by
 intro xC s σ H Q I h;refine PySem.W.methodCall_KW (pl:=pl) (thn (he xC s σ H _ I h) λu s1 O=>?_) ht;obtain⟨x,H1,I1,rx,a,dx,fs,ex,ea,l,q⟩:=O;subst ex;obtain rfl:u=Value.ref a:=rx;refine q9k I1 ea c Z l ?_;refine PySem.W.callWith_K (first:=[.ref a]) (h₀:=X.base) I.ok.mod.kin Z.kp (thn (ha pos xC s1 σ H1 _ I1 q) λus s2 ⟨vs,H2,I2,r,q2⟩=>⟨I2.kIn,?_⟩) J D;exact qes (us:= .ref a::us) (vs:= .ref a::vs) F hr hb hd hx I2 (.cons rfl r) q2
structure Mk (K:xA) (C f:Addr):Prop where
 makes:PySem.W.makesIn K C=true
 init:PySem.W.findIn K (.ref C) "__init__"=some (some (.ref f))
 fn:PySem.W.isFn K (.ref f)=true
 kp:PySem.W.keepIn K (.ref C)=true
def qkw{xC:xG}{σ:St}{H:Hp}{s:Shared}{Q:VK}{us:xH}{vs:List V}(M:Mk X.K C f)(F:FnOk X.prog X.w X.K X.mg X.base CX k f fd ps sp)(hr:Room (k+1) X.A)(hb:Binds X.K fd ps ds)(hd:Vals dvs ds)
  (hx:q7o CX X E) (I:Inv X xC σ H s) (r:Vals vs us)
  (h:∀x dx,H x=none->H dx=none->dx≠x->sp (.ref x::(vs++dvs)) (upd (upd H dx (.own x)) x (.ins C dx [])) (λv H2=>v= .non/\Q (.ref x) H2) E):
  wpAny (model X.prog X.w) X.A (call (.ref C) us) (EP X xC σ Q) X.xe s:=by
 have hq:=h (s.heap.objs.size+1) s.heap.objs.size (I.hok.fresh (Nat.le_succ _)) (I.hok.fresh (z47 _)) (z3z (z2l _));have I2:=Inv.made (C:=C) I;have r2:Vals (V.ref (s.heap.objs.size+1)::(vs++dvs)) (Value.ref (s.heap.objs.size+1)::(us++ds)):= .cons rfl (r.append hd);have hl:(Value.ref (s.heap.objs.size+1)::us++ds).length=ps.length:=by
  have e:=r2.length;rw[F.len _ _ _ _ hq]at e;exact e.symm
 refine wpAny_call (qtz (f:=f) I.kIn M.makes M.init (beq_iff_eq.mp M.fn) (z42 (F.run _ X.stack _ _ ⟨Value.ref (s.heap.objs.size+1)::us,[]⟩ (Value.ref (s.heap.objs.size+1)::(us++ds)) _ _ E (hr.make C us [])
  (I2.env0.make C us []) (hb _ (Value.ref (s.heap.objs.size+1)::us) I2.kIn hl) r2 hq) λr s' D=>?_))
 cases r with
 | error e=>exact hx xC σ _ _ e s' I2 D
 | ok fl=>
  cases fl with
  | ret u=>
   obtain⟨v,H',I3,rv,ev,q3⟩:=I2.after D;subst ev;exact⟨rv,⟨V.ref (s.heap.objs.size+1),H',I3,zr,q3⟩⟩
  | next=>exact False.elim D
  | brk=>exact False.elim D
  | cont=>exact False.elim D
def qx6(M:Mk X.K C f)(F:FnOk X.prog X.w X.K X.mg X.base CX k f fd ps sp)(hr:Room (k+1) X.A)(hg:Gl X x)(hm:X.mg x=some (.ref C))(hb:Binds X.K fd ps ds)(hd:Vals dvs ds)(hx:q7o CX X E)
  (ha:PA X (e::es) t) (D:(x==("__debug__":Str))=false:=by decide) (he:starEach (e::es) X.env=(false,eval e X.env)::starEach es X.env:=by rfl) (J:(backTo pos (starEach es X.env)).any (·.1)=false:=by rfl):
  PE X (.Call (.Name x p) (e::es) [] pos) (qk5 C sp dvs E t):=by
 intro xC s σ H Q I h;refine z1s (q8y I hg hm ?_ D);refine PySem.W.callWith_K (h₀:=X.base) I.ok.mod.kin M.kp (thn (ha pos xC s σ H _ I h) λus s1 ⟨vs,H1,I1,r,q⟩=>⟨I1.kIn,?_⟩) he J;exact qkw M F hr hb hd hx I1 r q
def qu0(M:Mk X.K C f)(F:FnOk X.prog X.w X.K X.mg X.base CX k f fd ps sp)(hr:Room (k+1) X.A)(hg:Gl X x)(hm:X.mg x=some (.ref C))(hb:Binds X.K fd ps ds)(hd:Vals dvs ds)(hx:q7o CX X E)
  (D:(x==("__debug__":Str))=false:=by decide):PE X (.Call (.Name x p) [] [] pos) (qk5 C sp dvs E tNil):=by
 intro xC s σ H Q I h;refine z1s (q8y I hg hm ?_ D);exact PySem.W.callWith_K0 I.kIn M.kp (qkw (us:=[]) M F hr hb hd hx I .nil h)
end
def PK(X:Cx)(kws:List Keyword)(t:TA):Prop:=
 ∀(pos:Pos) (xC:xG) (s:Shared) (σ:St) (H:Hp) (Q:List V->Hp->Prop),Inv X xC σ H s->t σ H Q->wpAny (model X.prog X.w) X.A (evalAll ((backToKw pos (keywordEach kws X.env)).map (·.2))) (AP X xC σ Q) X.xe s
section
variable{X:Cx}{CX:CXT}{k:Nat}{f C:Addr}{fd:FuncData}{ps ks:xD}{sp:Sp}{E:XK}{x m:Str}{p pos apos kpos:Pos}{e o:Expr}{es:List Expr}{kws:List Keyword}{te ta:TE}{t tk:TA}{nm:Option Str}
def qr5:PK X [] tNil:=λ_ _ _ _ H Q I h=>wpAny_evalAll_nil ⟨[],H,I,.nil,h⟩
def qo2(ha:PE X e te)(hr:PK X kws t):PK X (⟨nm,e,kpos⟩::kws) (q2p te t):=by
 intro pos xC s σ H Q I h;show wpAny _ _ (evalAll ((do let v <- eval e X.env;standAt pos;pure v)::(backToKw pos (keywordEach kws X.env)).map (·.2))) _ _ s;refine wpAny_evalAll_cons (z4e (thn (ha xC s σ H _ I h) λu s1 ⟨x,H1,I1,r1,q1⟩=>z4e (wpAny_standAt (z4d ?_))));exact thn (hr pos xC s1 σ H1 _ I1 q1) λus s2 ⟨xs,H2,I2,r2,q2⟩=>⟨x::xs,H2,I2,.cons r1 r2,q2⟩
variable{g:List Value->List Value->List Value}{gV:List V->List V->List V}
end
structure FnScope (N P:xD) (sc:Scope):Prop where
 kind:sc.kind= .function
 co:sc.isCoroutine=false
 gen:sc.isGenerator=false
 nd:N.Nodup
 pre:N.take P.length=P
 par:∀x∈P,sc.names.lookup x=some .local\/ sc.names.lookup x=some .cell
 nofree:∀y∈sc.names,y.2≠ .free
theorem qhy{kindOf:Str->Option NameKind}{x:Str}:∀{D:List (Str×Value)} {m:xE},(∀v,(x,v)∉D)->bindL kindOf D m x=m x
  | [],_,_=>rfl
  | (n,v)::r,m,h=>by
    unfold bindL;rw[qhy λw hw=>h w (z16 _ hw)];split
    · have:x≠n:=by rintro rfl;exact h v z1p
      simp[this]
    · rfl
theorem qhz{kindOf:Str->Option NameKind}{x:Str}:∀{D:List (Str×Value)} {m:xE},(∀v,(x,v)∉D)->bindC kindOf D m x=m x
  | [],_,_=>rfl
  | (n,v)::r,m,h=>by
    unfold bindC;rw[qhz λw hw=>h w (z16 _ hw)];split
    · rfl
    · have:x≠n:=by rintro rfl;exact h v z1p
      simp[this]
theorem qi0{kindOf:Str->Option NameKind}{x:Str}{v:Value}:∀{P:xD} {vs:xH} {i:Nat} {m:xE},P.Nodup->P[i]? =some x->vs[i]? =some v->kindOf x=some .local->
  bindL kindOf (P.zip vs) m x=some v
 | [],_,_,_,_,h,_,_=>by simp at h
 | _::_,[],_,_,_,_,h,_=>by simp at h
 | p::P,w::vs,0,m,nd,h1,h2,hk=>by
  simp at h1 h2;subst h1;subst h2
  show bindL kindOf ((p,w)::P.zip vs) m p=_;unfold bindL;rw[qhy λv hv=>(z32.mp nd).1 (List.of_mem_zip hv).1,if_pos hk];simp
 | p::P,w::vs,i+1,m,nd,h1,h2,hk=>by
  show bindL kindOf ((p,w)::P.zip vs) m x=_;unfold bindL;exact qi0 (i:=i) (z32.mp nd).2 (by simpa using h1) (by simpa using h2) hk
theorem qi1{kindOf:Str->Option NameKind}{x:Str}{v:Value}:∀{P:xD} {vs:xH} {i:Nat} {m:xE},P.Nodup->P[i]? =some x->vs[i]? =some v->kindOf x≠some .local->
  bindC kindOf (P.zip vs) m x=some v
 | [],_,_,_,_,h,_,_=>by simp at h
 | _::_,[],_,_,_,_,h,_=>by simp at h
 | p::P,w::vs,0,m,nd,h1,h2,hk=>by
  simp at h1 h2;subst h1;subst h2
  show bindC kindOf ((p,w)::P.zip vs) m p=_;unfold bindC;rw[qhz λv hv=>(z32.mp nd).1 (List.of_mem_zip hv).1,if_neg hk];simp
 | p::P,w::vs,i+1,m,nd,h1,h2,hk=>by
  show bindC kindOf ((p,w)::P.zip vs) m x=_;unfold bindC;exact qi1 (i:=i) (z32.mp nd).2 (by simpa using h1) (by simpa using h2) hk
def start(N:xD)(vs:List V):St:=vs.map some++List.replicate (N.length - vs.length) none
def cxOf(CX:CXT)(P:Program)(w:World)(K:xA)(mg:xE)(base:Heap)(N:xD)(qual:Str)(scope:Scope)(f:Addr)(cd:Value)(A:Around)(outer:List Env)(s:Shared)(H:Hp)(E:XK):Cx where
 prog:=P
 w:=w
 K:=K
 mg:=mg
 base:=base
 A:=A.deeper (envOfC qual scope s.heap.objs.size f cd)
 N:=N
 s₀:=s
 H₀:=H
 env:=envOfC qual scope s.heap.objs.size f cd
 outer:=outer
 stack:=envOfC qual scope s.heap.objs.size f cd::outer
 ex:=[]
 calm:=true
 fn:=λ_=>true
 pn:=[]
 xe:=λe s'=>wpAny (model P w) (A.deeper (envOfC qual scope s.heap.objs.size f cd)) (leaving (envOfC qual scope s.heap.objs.size f cd) e) (λ_ s''=>CX outer H s E e s'') (λe' s''=>CX outer H s E e' s'') s'
def qkx{D:Scope}{n:Nat}{x:Str}(h:D.names.lookup x=some .cell):∃c,(cellsFrom n D.names []).lookup x=some c:=by
 have q:=PySem.W.cellsFrom_some D.names n [] (.inl h);exact Option.isSome_iff_exists.mp q
def qr6{CX:CXT}{P:Program}{w:World}{K:xA}{mg:xE}{base:Heap}{N ps:xD}{qual:Str}{scope:Scope}{f:Addr}{cd:Value}{A:Around}{outer:List Env}{s s1:Shared}{H:Hp}{E:XK}{us:xH}{vs:List V}
    (S:FnScope N ps scope) (hd:A.handled=none) (D:Env0 P w K mg base A outer s H) (hl:vs.length=ps.length) (r:Vals vs us)
    (x:InCallC s s.heap.objs.size (bindL (envOfC qual scope s.heap.objs.size f cd).kindOf (ps.zip us) λ_=>none) (cellsFrom (s.heap.objs.size+1) scope.names []) (bindC (envOfC qual scope s.heap.objs.size f cd).kindOf (ps.zip us) λ_=>none) s1):
    Inv (cxOf CX P w K mg base N qual scope f cd A outer s H E) [] (start N vs) H s1:=by
  have hpl:ps.length<=N.length:=by have:=congrArg List.length S.pre;rw[z2g]at this;lia
  obtain⟨h1,tk,rfl,hk⟩:=x.done;have J:∀b:Addr,b∉(cxOf CX P w K mg base N qual scope f cd A outer s H E).ex:=λb z=>absurd (show b∈([]:List Addr) from z) (by simp);refine⟨⟨D.mod,S.kind,zr,zr,z47 _,λy z c h1 h2=>?_,λy hy=>?_,λy c _ h=>?_,λ_=>hd,Around.frames_deeper D.frames,.inr ⟨zr,zr⟩,λb z=>absurd z (J b),D.bs,D.bsz,λb _ _=>J b,λb z=>absurd z (J b),D.funs,D.frf⟩,
    rfl,D.bare,Un.kept hk,⟨_,x.toInCall.ns,λi y v h1 h2 h3=>?_⟩,λy c h=>⟨_,x.cell y c h⟩,D.hok.fresh (z47 _),λy c h=>?_,λp O=>absurd (show p∈([]:xG) from O) (by simp),D.hok.kept hk,?_⟩
  · exact name_of_addr x.apart (z1d h1) (z1d h2)
  · have hy:scope.names.lookup y=some .cell\/ scope.names.lookup y=some .free:=hy
    rcases hy with hy | hy
    · exact qkx hy
    · exact absurd rfl (S.nofree _ (z1d hy))
  · exact z3x (x.above y c (z1d h))
  · have hi:i < vs.length:=by
      unfold start at h2;by_cases hi:i < vs.length
      · exact hi
      · rw[z05 (by simpa using hi)]at h2
        rw[List.getElem?_replicate]at h2;split at h2 <;> cases h2
    have ha:vs[i]? =some v:=by
      unfold start at h2;rw[List.getElem?_append_left (by simpa using hi),z22]at h2;cases e:vs[i]? with
      | none=>rw[e]at h2;cases h2
      | some a=>rw[e]at h2;cases h2;rfl
    obtain⟨u,hu,rv⟩:=r.get ha;have O:ps[i]? =some y:=by
      rw[<- S.pre,List.getElem?_take_of_lt (by lia)];exact h1
    have Z:ps.Nodup:=by rw[<- S.pre];exact S.nd.sublist (List.take_sublist _ _)
    refine⟨u,rv,?_⟩;rcases S.par y (z18 O) with k | k
    · exact .inl ⟨k,qi0 Z O hu k⟩
    · obtain⟨c,e⟩:=qkx (n:=s.heap.objs.size+1) k
      refine .inr ⟨.inl k,c,e,?_⟩;have q:=x.cell y c e;rw[qi1 Z O hu (by show scope.names.lookup y≠_;rw[k];decide)]at q;exact q
  · exact D.hok.fresh (z3x (x.above y c (z1d h)))
  · unfold start
    show _=N.length;rw[z1o,z30,List.length_replicate]
    lia
def qwb{CX:CXT}{P:Program}{w:World}{K:xA}{mg:xE}{base:Heap}{k:Nat}{f:Addr}{name qual:Str}{params:Arguments}{body:List Stmt}{scope:Scope}{dV kV a0 pm cdv ct oc:Value}{an od:Option Addr}
  {a5:Array (Option Value)} {N ps:xD} {sp:Sp} (lk:K.lookup f=some ⟨oc,od,.func (PySem.W.fnOf name qual params body scope dV kV a0 pm an cdv ct),a5⟩) (a2:PySem.W.codeIn K cdv qual=true) (S:FnScope N ps scope)
  (len:∀vs H Q E,sp vs H Q E->vs.length=ps.length)
  (D:∀(A:Around) (outer:List Env) (s:Shared) (H:Hp) (vs:List V) (Q:VK) (E:XK),Room k (A.deeper (envOfC qual scope s.heap.objs.size f cdv))->sp vs H Q E->
   ∃t,PSs (cxOf CX P w K mg base N qual scope f cdv A outer s H E) body t/\t {nx:=λ_ H'=>Q .non H',rt:=Q} (start N vs) H):
  FnOk P w K mg base CX (k+1) f (PySem.W.fnOf name qual params body scope dV kV a0 pm an cdv ct) ps sp:=by
 refine⟨len,λA outer s H args us vs Q E hr e0 hb r a1=>?_⟩;have hl:=len _ _ _ _ a1;have KX:K.In s.heap:=e0.mod.kin.keeps λb o e=>(e0.bs b o e).1;have a4:s.heap.NoLimit:=e0.mod.nolimit.keeps λb o e=>(e0.bs b o e).1;have O:∀y∈ps.zip us,scope.names.lookup y.1=some .local\/ (scope.names.lookup y.1=some .cell/\((cellsFrom (s.heap.objs.size+1) scope.names []).lookup y.1).isSome=true):=λ⟨n,v⟩ hy=>by
  rcases S.par n (List.of_mem_zip hy).1 with q | q
  ·exact .inl q
  ·exact .inr ⟨q,PySem.W.cellsFrom_some _ _ _ (.inl q)⟩
 refine codeAny_call_function hr.depth (KX _ _ lk) rfl S.co S.gen rfl (PySem.W.codeRec_of KX a2) (hb _ _ _ _ ?_);refine wpAny_newFunctionEnv_cells S.kind O λenv he s1 x=>?_;subst he;refine⟨a4.keeps x.toInCall.keep,codeAny_func ?_⟩;obtain⟨t,ht,hq⟩:=D A outer s H vs Q E (hr.deeper _) a1;have I:Inv (cxOf CX P w K mg base N qual scope f cdv A outer s H E) [] (start N vs) H s1:=qr6 S hr.hd e0 hl r x;refine z4f (ht [] s1 (start N vs) H _ I hq) (λfl s' Z=>?_) λe s' Z=>Z;have fin:∀{σ':St} {H':Hp} {v:V} {u:Value},Inv (cxOf CX P w K mg base N qual scope f cdv A outer s H E) [] σ' H' s'->RelV v u->Q v H'->CE outer P w H s Q u s':=
  λ{σ' H' v u} J rv q=>⟨v,H',J.os,J.bare,J.base,J.hok,rv,q⟩
 cases fl with
 | ret u=>
  obtain⟨v,σ',H',J,rv,q⟩:=Z;exact fin J rv q
 | next=>
  obtain⟨σ',H',J,q⟩:=Z;exact fin (v:=V.non) (u:=Value.none) J rfl q
 | brk=>
  obtain⟨_,_,_,q⟩:=Z;exact False.elim q
 | cont=>
  obtain⟨_,_,_,q⟩:=Z;exact False.elim q
section
variable{X:Cx}{x:Str}{p pos:Pos}{e:Expr}{es:List Expr}{t:TA}{id T:String}{r:List V->Hp->VK->Prop}
def tCB(r:List V->Hp->VK->Prop)(t:TA):TE:=λσ H Q=>t σ H λvs H1=>r vs H1 Q
def qo(hc:q2b X (.builtin id) r)(hg:Gl X x)(hm:X.mg x=none)(hv:bootBuiltins x=some (.builtin id))(ha:PA X (e::es) t)(hn:x≠"__name__":=by decide)(D:(x==("__debug__":Str))=false:=by decide)
  (he:starEach (e::es) X.env=(false,eval e X.env)::starEach es X.env:=by rfl) (J:(backTo pos (starEach es X.env)).any (·.1)=false:=by rfl):PE X (.Call (.Name x p) (e::es) [] pos) (tCB r t):=by
 intro xC s σ H Q I h;refine z1s (q8z I hg hm hv ?_ hn D);exact PyProof.Rows.callWith_builtin1 (thn (ha pos xC s σ H _ I h) λus s1 ⟨vs,H1,I1,r1,q1⟩=>hc xC s1 σ H1 vs us Q I1 r1 q1) he J
def q2v(hc:q2b X (.type T) r)(hg:Gl X x)(hm:X.mg x=none)(hv:bootBuiltins x=some (.type T))(ha:PA X (e::es) t)(hn:x≠"__name__":=by decide)(D:(x==("__debug__":Str))=false:=by decide)
  (he:starEach (e::es) X.env=(false,eval e X.env)::starEach es X.env:=by rfl) (J:(backTo pos (starEach es X.env)).any (·.1)=false:=by rfl):PE X (.Call (.Name x p) (e::es) [] pos) (tCB r t):=by
 intro xC s σ H Q I h;refine z1s (q8z I hg hm hv ?_ hn D);exact z03 (thn (ha pos xC s σ H _ I h) λus s1 ⟨vs,H1,I1,r1,q1⟩=>hc xC s1 σ H1 vs us Q I1 r1 q1) he J
end
end L2
namespace HT
open PySem PyProof.Rows
section
open PySem.SeqAt
open PySem.AutoSeq1 (wpAny_loadPart')
open PySem.MeetsSeq PySem.MeetsSeq2 PySem.MeetsSeq3
end
section
variable{prog:Program}{w:World}{A:Around}{E:xB}{s:Shared}
def cat_tup{t b:Addr}{vs ws:xH}{Q:xB}(ht:IsTup s.heap t vs.toArray)(hb:IsTup s.heap b ws.toArray)(hv:vs≠ [])
  (h1:ws=[]->Q (.ref t) s) (h2:ws≠ []->Q (.ref s.heap.objs.size) {s with heap:=s.heap.push {cls:= .type "tuple",data:= .seq (vs++ws).toArray}})
  (hsz:vs.length+ws.length<=sizeLine):wpAny (model prog w) A (binaryOp .Add (.ref t) (.ref b)) Q E s:=by
 obtain⟨⟨cls,dd,data,sl⟩,ho,hc,n,hd⟩:=id ht;obtain⟨⟨a2,J,a1,a0⟩,D,O,n2,Z⟩:=id hb;simp only at hc hd O Z;subst hc hd O Z;have e:vs.toArray++ws.toArray=(vs++ws).toArray:=by simp
 by_cases hw:ws=[]
 ·exact concat_meets ⟨_,ho,zr⟩ ⟨_,D,zr⟩ noFill_tuple_add seq_tuple_add PySem.F.slot_tuple_add PySem.F.entry_tuple_add (PySem.F.args_tuple_add_2 _ _)
   (tuple_addW1 t b vs.toArray ws.toArray n n2 dd J sl a0 (by simpa using hv) (by simp[hw])) ⟨ho,D,h1 hw⟩
 ·refine concat_meets ⟨_,ho,zr⟩ ⟨_,D,zr⟩ noFill_tuple_add seq_tuple_add PySem.F.slot_tuple_add PySem.F.entry_tuple_add (PySem.F.args_tuple_add_2 _ _)
   (tuple_addW2 t b vs.toArray ws.toArray n n2 dd J sl a0 (by simpa using hv) (by simpa using hw) (by rw[z23,z23];exact hsz)) ⟨ho,D,?_⟩
  rw[e];exact h2 hw
def sIx(n d:Nat):Option Int->Nat
 | none=>d
 | some v=>if v < 0 then (v+(n:Int)).toNat else min v.toNat n
def sIx_none(n d:Nat):sIx n d none=d:=rfl
def sIx_nat(n d k:Nat):sIx n d (some (k:Int))=min k n:=by
 show (if (k:Int) < 0 then ((k:Int)+(n:Int)).toNat else min (k:Int).toNat n)=min k n;rw[if_neg (by lia),z26]
def sIx_le(n d:Nat)(hd:d<=n)(o:Option Int):sIx n d o<=n:=by
 cases o with
 | none=>exact hd
 | some v=>
  show (if v < 0 then (v+(n:Int)).toNat else min v.toNat n)<=n;by_cases D:v < 0
  ·rw[if_pos D];lia
  ·rw[if_neg D];exact Nat.min_le_right _ _
def clip_eq(v:Int)(n d:Nat):(if v < 0 then max (v+(n:Int)) 0 else min v (n:Int))=((sIx n d (some v):Nat):Int):=by
 show (if v < 0 then max (v+(n:Int)) 0 else min v (n:Int))=(((if v < 0 then (v+(n:Int)).toNat else min v.toNat n):Nat):Int);by_cases D:v < 0
 ·simp only[if_pos D];lia
 ·simp only[if_neg D];lia
end
end HT
namespace L2
open PySem PySem.Spec PyProof.Rows
abbrev TO:=St->Hp->(Option Int->Hp->Prop)->Prop
def PO(X:Cx)(e:Option Expr)(t:TO):Prop:=
 ∀(xC:xG) (s:Shared) (σ:St) (H:Hp) (Q:Option Int->Hp->Prop),Inv X xC σ H s->t σ H Q->
  wpAny (model X.prog X.w) X.A (evalPart e X.env) (λu s'=>∃o H',Inv X xC σ H' s'/\IsPart u o/\Q o H') X.xe s
def qx7:TO:=λ_ H Q=>Q none H
def q11c(t:TE):TO:=λσ H Q=>t σ H λx H1=>∃i,x= .int i/\Q (some i) H1
section
variable{X:Cx}{e:Expr}{te:TE}{lo hi:Option Expr}{tl th:TO}{pos p2:Pos}
def q3w:PO X none qx7:=by
 intro xC s σ H Q I h;rw[evalPart_none];exact z4d ⟨none,H,I,.none,h⟩
def q1q(h:PE X e te):PO X (some e) (q11c te):=by
 intro xC s σ H Q I hw;rw[evalPart_some];refine thn (h xC s σ H _ I hw) λu s1 D=>?_;obtain⟨x,H1,I1,r1,q1⟩:=D;obtain⟨i,rfl,q⟩:=q1;obtain⟨t,rfl⟩:=r1;exact⟨some i,H1,I1,.int i t,q⟩
def SlR(X:Cx)(r:V->Option Int->Option Int->Hp->VK->Prop):Prop:=
 ∀(xC:xG) (s:Shared) (σ:St) (H:Hp) (x:V) (v vl vu:Value) (lo hi:Option Int) (sl:Addr) (Q:VK),Inv X xC σ H s->RelV x v->s.heap.IsSliceOf sl vl vu .none->IsPart vl lo->IsPart vu hi->r x lo hi H Q->
  ∃T id,typeLookup (.type T) "__getitem__"=pure (some (.builtin id))/\s.TypeIs v T/\wpAny (model X.prog X.w) X.A (getItem v (.ref sl)) (EP X xC σ Q) X.xe s
def tSl(r:V->Option Int->Option Int->Hp->VK->Prop)(te:TE)(tl th:TO):TE:=λσ H Q=>te σ H λx H1=>tl σ H1 λl H2=>th σ H2 λu H3=>r x l u H3 Q
def q27{r:V->Option Int->Option Int->Hp->VK->Prop}(hr:SlR X r)(he:PE X e te)(hl:PO X lo tl)(hu:PO X hi th):PE X (.Subscript e (.Slice lo hi none p2) pos) (tSl r te tl th):=by
 intro xC s σ H Q I h;refine Subscript_ (thn (he xC s σ H _ I h) λv s1 D=>?_);obtain⟨x,H1,I1,r1,q1⟩:=D;refine wpAny_Slice (thn (hl xC s1 σ H1 _ I1 q1) λJ s2 ⟨l,H2,I2,pl,q2⟩=>thn (hu xC s2 σ H2 _ I2 q2) λO s3 D=>?_);obtain⟨u,H3,I3,pu,q3⟩:=D;rw[evalPart_none];refine z4d ?_;have I4:Inv X xC σ H3 {s3 with heap:=s3.heap.push {cls:= .type "slice",data:= .fields #[J,O,.none]}}:=I3.kept (t':=s3.toks) λb ob q=>z0o _ q;obtain⟨T,id,hT,ht,hg⟩:=hr xC {s3 with heap:=s3.heap.push {cls:= .type "slice",data:= .fields #[J,O,.none]}} σ H3 x v J O l u s3.heap.objs.size Q I4 r1 (Heap.IsSliceOf.new ..) pl pu q3;show wpAny (model X.prog X.w) X.A (subscriptTail e (.Slice lo hi none p2) v (.ref s3.heap.objs.size)) (EP X xC σ Q) X.xe {s3 with heap:=s3.heap.push {cls:= .type "slice",data:= .fields #[J,O,.none]}};exact tail_any (ops:=[.ref s3.heap.objs.size,v]) ht hT hg (by with_unfolding_all rfl)
def cutV(xs:List V)(lo hi:Option Int):List V:=(xs.drop (HT.sIx xs.length 0 lo)).take (HT.sIx xs.length xs.length hi - HT.sIx xs.length 0 lo)
def qn5(xs:List V)(lo hi:Option Int):(cutV xs lo hi).length<=xs.length:=by
 unfold cutV;rw[z2g,z2h]
 lia
def q11d(K:xA):R2:=λx y H Q=>∃a b xs ys,x= .ref a/\y= .ref b/\SqT K H a xs/\SqT K H b ys/\xs≠ []/\xs.length+ys.length<=sizeLine/\
 (ys=[]->Q (.ref a) H)/\(ys≠ []->∀p,H p=none->Q (.ref p) (upd H p (.tup (xs++ys))))
def Vals.qc2{xs:List V}{us:xH}(r:Vals xs us):us=[]↔xs=[]:=by
 cases r with
 | nil=>simp
 | cons _ _=>simp
def qx8:OpR X (binaryOp .Add) (q11d X.K):=by
 intro xC s σ H x y v u Q I rx ry h;obtain⟨a,b,xs,ys,rfl,rfl,ha,hb,hx,hz,q1,q2⟩:=h;cases rx
 cases ry
 obtain⟨its,r1,p1,_⟩:=I.tuple ha;obtain⟨D,r2,p2,_⟩:=I.tuple hb;refine HT.cat_tup p1 p2 (λz=>hx (r1.qc2.mp z)) (λz=>⟨.ref a,H,I,rfl,q1 (r2.qc2.mp z)⟩) (λz=>?_) (by rw[<- r1.length,<- r2.length];exact hz);refine⟨.ref s.heap.objs.size,_,I.laid (t':=s.toks) (o:= .tup (xs++ys)) (λb ob q=>z0o _ q) (z47 _) ?_,zr,q2 (λw=>z (r2.qc2.mpr w)) _ (I.hok.fresh (z47 _))⟩;exact⟨by rw[z1o];exact hz,_,r1.append r2,IsTup.new _ _⟩
end
def ixN(n:Nat)(i:Int):Option Nat:=if 0<=i then (if i < n then some i.toNat else none) else if -(n:Int)<=i then some (i+n).toNat else none
def atI{α:Type}(xs:List α)(i:Int):Option α:=(ixN xs.length i).bind λj=>xs[j]?
def qx9{n:Nat}{i:Int}{j:Nat}(h:ixN n i=some j):seqIndex? i n=some j/\j < n/\ -(n:Int)<=i/\i < n:=by
 unfold ixN at h;by_cases h0:0<=i
 ·rw[if_pos h0]at h;by_cases h1:i < n
  ·rw[if_pos h1]at h;have e:i.toNat=j:=Option.some.inj h;exact⟨by rw[seqIndex_of h0 h1,e],by lia,by lia,h1⟩
  ·rw[if_neg h1]at h;cases h
 ·rw[if_neg h0]at h;by_cases h1: -(n:Int)<=i
  ·rw[if_pos h1]at h;have e:(i+n).toNat=j:=Option.some.inj h;exact⟨by rw[seqIndex_neg (by lia) h1,e],by lia,h1,by lia⟩
  ·rw[if_neg h1]at h;cases h
def qo3{α:Type}{xs:List α}{i:Int}{v:α}(h:atI xs i=some v):∃j,seqIndex? i xs.length=some j/\xs[j]? =some v/\j < xs.length/\ -(xs.length:Int)<=i/\i < xs.length:=by
 unfold atI at h;cases e:ixN xs.length i with
 | none=>rw[e]at h;cases h
 | some j=>
  rw[e]at h;obtain⟨h1,h2,h3,h4⟩:=qx9 e;exact⟨j,h1,h,h2,h3,h4⟩
def q91{α:Type}{xs:List α}{j:Nat}{v:α}(h:xs[j]? =some v):atI xs (j:Int)=some v:=by
 have hj:j < xs.length:=(z07.mp h).1;have e:ixN xs.length (j:Int)=some j:=by
  unfold ixN;rw[if_pos (by lia),if_pos (by lia)];simp
 unfold atI;rw[e];exact h
def qxa(b:Expr):Prop:=∀o i,subscripted b false o i=operate [o,i] (getItem o i)
def IxR(X:Cx)(r:R2):Prop:=
 ∀(value slice:Expr) (xC:xG) (s:Shared) (σ:St) (H:Hp) (x y:V) (v u:Value) (Q:VK),Inv X xC σ H s->RelV x v->RelV y u->r x y H Q->
  subscripted slice false v u=operate [v,u] (getItem v u)->wpAny (model X.prog X.w) X.A (subscriptTail value slice v u) (EP X xC σ Q) X.xe s
def MtR(X:Cx)(id:String)(r:V->List V->Hp->VK->Prop):Prop:=
 ∀(xC:xG) (s:Shared) (σ:St) (H:Hp) (x:V) (xs:List V) (v:Value) (us:xH) (Q:VK),Inv X xC σ H s->RelV x v->Vals xs us->r x xs H Q->
  wpAny (model X.prog X.w) X.A (call (.builtin id) (v::us)) (EP X xC σ Q) X.xe s
section
variable{X:Cx}{a b:Expr}{ta tb:TE}{pos:Pos}
def q1a{r:R2}(hr:IxR X r)(ha:PE X a ta)(hb:PE X b tb)(hs:qxa b):PE X (.Subscript a b pos) (tOp r ta tb):=by
 intro xC s σ H Q I h;exact Subscript_ (binT ha hb I h λv u s2 x y H2 I2 rx ry q=>hr a b xC s2 σ H2 x y v u Q I2 rx ry q (hs _ _))
def rIxL(K:xA):R2:=λx y H Q=>∃p xs i v,x= .ref p/\y= .int i/\SqL K H p xs/\atI xs i=some v/\Q v H
def rIxS:R2:=λx y H Q=>∃z i c,x= .str z/\y= .int i/\z.length<=sizeLine/\atI z.cps.toList i=some c/\Q (.str ⟨#[c]⟩) H
def qxb:IxR X (rIxL X.K):=by
  intro value O xC s σ H x y v u Q I rx ry h hs;obtain⟨p,xs,i,z,rfl,rfl,hq,he,q⟩:=h;cases rx
  obtain⟨t,rfl⟩:=ry;obtain⟨its,r,pl,hz⟩:=I.list hq;obtain⟨j,h1,h2,h3,h4,h5⟩:=qo3 he;obtain⟨w,Z,J⟩:=r.get h2;have hl:=r.length;have hn:=qkt;have fin:EP X xC σ Q w s:=⟨z,H,I,J,q⟩;by_cases h0:0<=i
  · have D:i.toNat=j:=by
      rw[seqIndex_of h0 h5]at h1;exact Option.some.inj h1
    exact item_listR pl.isList h0 (by lia) (by rw[D];simpa using Z) fin hs
  · have D:(i+(its.toArray.size:Int)).toNat=j:=by
      rw[seqIndex_neg (by lia) h4]at h1;rw[z23,<- hl];exact Option.some.inj h1
    exact subscriptTail_builtinR (x:=w) pl.isList.typeIs slot_list_getitem.lookup
      (wpAny_getItem_list_neg (Q:=λr s'=>r=w/\EP X xC σ Q r s') pl.isList (by lia) (by rw[z23] <;> lia) (by lia) (by rw[D];simpa using Z) ⟨rfl,fin⟩) hs
def q92:IxR X rIxS:=by
 intro value D xC s σ H x y v u Q I rx ry h hs;obtain⟨z,i,c,rfl,rfl,hz,he,q⟩:=h;obtain⟨t,rfl⟩:=rx;obtain⟨t',rfl⟩:=ry;obtain⟨j,h1,h2,h3,h4,h5⟩:=qo3 he;have hl:z.cps.toList.length=z.length:=by simp[Str.length]
 rw[hl]at h1 h4 h5;have hn:=qkt;exact tail_any (typeIs_str s z t) slot_str_getitem.lookup (getItem_str (c:=c) (by
  have e1:decide (i < -(2^63:Int))=false:=z2w (by lia);have e2:decide (i >=2^63)=false:=z2w (by lia);rw[e1,e2,Bool.or_false]) (by rw[h1];simpa using h2) ⟨.str ⟨#[c]⟩,H,I.tok _,⟨_,rfl⟩,q⟩) hs
def qky(lo hi:Option Int)(n:Nat):(sliceBounds lo hi none n).1=((HT.sIx n 0 lo:Nat):Int)/\(sliceBounds lo hi none n).2.1=((HT.sIx n n hi:Nat):Int)/\(sliceBounds lo hi none n).2.2=1:=by
 refine⟨?_,?_,zr⟩
 ·cases lo with
  | none=>simp[sliceBounds,HT.sIx]
  | some i=>
   simp only[sliceBounds,HT.sIx,Option.getD_none,show (1:Int) > 0 by decide,if_true];by_cases h:i < 0
   ·simp only[h,if_true] <;> lia
   ·simp only[h,if_false] <;> lia
 ·cases hi with
  | none=>simp[sliceBounds,HT.sIx]
  | some i=>
   simp only[sliceBounds,HT.sIx,Option.getD_none,show (1:Int) > 0 by decide,if_true];by_cases h:i < 0
   ·simp only[h,if_true] <;> lia
   ·simp only[h,if_false] <;> lia
def qiu(its:xH)(lo hi:Option Int):slicePick its.toArray lo hi none=((its.drop (HT.sIx its.length 0 lo)).take (HT.sIx its.length its.length hi - HT.sIx its.length 0 lo)).toArray:=by
 obtain⟨h1,h2,h3⟩:=qky lo hi its.toArray.size;unfold slicePick;rw[h1,h2,h3];simp only[sliceRange_one,pick_run,z23] <;> rfl
def rSlL(K:xA):V->Option Int->Option Int->Hp->VK->Prop:=λx lo hi H Q=>∃a xs,x= .ref a/\SqL K H a xs/\∀p,H p=none->Q (.ref p) (upd H p (.lst (cutV xs lo hi)))
def qxc:SlR X (rSlL X.K):=by
 intro xC s σ H x v vl vu lo hi sl Q I rx hs pl pu h;obtain⟨a,xs,rfl,hx,q⟩:=h;cases rx
 obtain⟨its,r,J,hz⟩:=I.list hx;have D:=r.length;refine⟨"list",_,slot_list_getitem.lookup,J.isList.typeIs,?_⟩;refine wpAny_getItem_list_slice J.isList hs pl pu .none (by simp) ?_ (by rw[z23] <;> lia);rw[qiu,<- D];refine⟨.ref s.heap.objs.size,_,I.laid (t':=s.toks) (o:= .lst (cutV xs lo hi)) (λb ob q=>z0o _ q) (z47 _) ?_,zr,q _ (I.hok.fresh (z47 _))⟩;exact⟨z40 (qn5 xs lo hi) hz,_,0,(r.drop (HT.sIx xs.length 0 lo)).take (HT.sIx xs.length xs.length hi - HT.sIx xs.length 0 lo),z1c _ rfl⟩
def q7e:V->Bool
 | .non=>true
 | .bl _=>true
 | .int _=>true
 | .str _=>true
 | _=>false
def eqV:V->V->Bool
 | .non,.non=>true
 | .bl a,.bl b=>a==b
 | .bl a,.int b=>(if a then 1 else 0)==b
 | .int a,.bl b=>a==(if b then 1 else 0)
 | .int a,.int b=>a==b
 | .str a,.str b=>a==b
 | _,_=>false
def qz8{A:Around}{s:Shared}{y x:V}{u v:Value}(ry:RelV y u)(rx:RelV x v)(fy:q7e y=true)(D:q7e x=true):SeqAt.EqAt A s u v (eqV y x):=by
 cases y with
 | non=>
  cases ry
  cases x with
  | non=>cases rx;exact SeqAt.EqAt.same _
  | bl b=>cases rx;exact SeqAt.EqAt.none_bool b
  | int b=>obtain⟨t,rfl⟩:=rx;exact SeqAt.EqAt.none_int b t
  | str b=>obtain⟨t,rfl⟩:=rx;exact SeqAt.EqAt.none_str b t
  | _=>exact absurd (show false=true from D) z1l
 | bl a=>
  cases ry
  cases x with
  | non=>cases rx;exact SeqAt.EqAt.bool_none a
  | bl b=>cases rx;exact SeqAt.EqAt.bool_bool a b
  | int b=>obtain⟨t,rfl⟩:=rx;exact SeqAt.EqAt.bool_int a b t
  | str b=>obtain⟨t,rfl⟩:=rx;exact SeqAt.EqAt.bool_str a b t
  | _=>exact absurd (show false=true from D) z1l
 | int a=>
  obtain⟨t',rfl⟩:=ry;cases x with
  | non=>cases rx;exact SeqAt.EqAt.int_none a t'
  | bl b=>cases rx;exact SeqAt.EqAt.int_bool a t' b
  | int b=>obtain⟨t,rfl⟩:=rx;exact SeqAt.EqAt.int_int a t' b t
  | str b=>obtain⟨t,rfl⟩:=rx;exact SeqAt.EqAt.int_str a t' b t
  | _=>exact absurd (show false=true from D) z1l
 | str a=>
  obtain⟨t',rfl⟩:=ry;cases x with
  | non=>cases rx;exact SeqAt.EqAt.str_none a t'
  | bl b=>cases rx;exact SeqAt.EqAt.str_bool a t' b
  | int b=>obtain⟨t,rfl⟩:=rx;exact SeqAt.EqAt.str_int a t' b t
  | str b=>obtain⟨t,rfl⟩:=rx;exact SeqAt.EqAt.str_str a t' b t
  | _=>exact absurd (show false=true from D) z1l
 | _=>exact absurd (show false=true from fy) z1l
def eqU(x:V)(u:Value):Bool:=match u with
 | .none=>eqV .non x
 | .bool b=>eqV (.bl b) x
 | .int i _=>eqV (.int i) x
 | .str z _=>eqV (.str z) x
 | _=>false
def qr7{x y:V}{u:Value}(r:RelV y u)(f:q7e y=true):eqU x u=eqV y x:=by
 cases y with
 | non=>cases r;rfl
 | bl b=>cases r;rfl
 | int i=>obtain⟨t,rfl⟩:=r;rfl
 | str z=>obtain⟨t,rfl⟩:=r;rfl
 | _=>exact absurd (show false=true from f) z1l
theorem qga{x:V}:∀{xs:List V} {us:xH},Vals xs us->xs.all q7e=true->us.any (eqU x)=xs.any λy=>eqV y x
 | _,_,.nil,_=>rfl
 | y::xs,u::us,.cons r t,f=>by
  rw[List.all_cons,z2m]at f;rw[z3p,z3p,qr7 r f.1,qga t f.2]
theorem qdf{A:Around}{s:Shared}{x:V}{v:Value}(rx:RelV x v)(J:q7e x=true):∀{xs:List V} {us:xH},Vals xs us->xs.all q7e=true->∀u∈us,SeqAt.EqAt A s u v (eqU x u)
 | _,_,.nil,_=>λu D=>by cases D
 | y::xs,u::us,.cons r t,f=>λu' D=>by
  rw[List.all_cons,z2m]at f;rcases z3m.mp D with rfl | D
  ·rw[qr7 r f.1];exact qz8 r rx f.1 J
  ·exact qdf rx J t f.2 u' D
def inV(x:V)(xs:List V):Bool:=xs.any λy=>eqV y x
def rIn(K:xA)(neg:Bool):R2:=λx y H Q=>∃p xs,y= .ref p/\(SqL K H p xs\/ SqT K H p xs)/\q7e x=true/\xs.all q7e=true/\Q (.bl (if neg then !inV x xs else inV x xs)) H
def qkz:OpR X (compareOp .NotIn) (rIn X.K true):=by
 intro xC s σ H x y v u Q I rx ry h;obtain⟨p,xs,rfl,hq,D,fs,q⟩:=h;cases ry
 rcases hq with hq | hq
 ·obtain⟨its,r,pl,hz⟩:=I.list hq;refine SeqAt.notIn_listAt (eqU x) pl.isList (λw hw=>qdf rx D r fs w (by simpa using hw)) ⟨.bl _,H,I,zr,?_⟩;rw[show its.toArray.any (eqU x)=its.any (eqU x) by simp,qga r fs];exact q
 ·obtain⟨its,r,pl,hz⟩:=I.tuple hq;refine SeqAt.notIn_tupleAt (eqU x) pl (λw hw=>qdf rx D r fs w (by simpa using hw)) ⟨.bl _,H,I,zr,?_⟩;rw[show its.toArray.any (eqU x)=its.any (eqU x) by simp,qga r fs];exact q
def ql0:q2b X (.type "list") (λxs H Q=>∃p ys,xs=[.ref p]/\(SqL X.K H p ys\/ SqT X.K H p ys)/\∀l,H l=none->Q (.ref l) (upd H l (.lst ys))):=by
 intro xC s σ H xs us Q I r h;obtain⟨p,ys,rfl,hq,q⟩:=h;obtain⟨u,rfl,rx⟩:=q2k r;cases rx
 have fin:∀(its:xH),Vals ys its->ys.length<=sizeLine->∀(h':Heap) (D:Nat),(∀b o',s.heap.get? b=some o'->h'.get? b=some o')->
   h'.get? s.heap.objs.size=some {cls:= .type "list",dict:=none,data:= .seq its.toArray D,slots:=#[]}->EP X xC σ Q (.ref s.heap.objs.size) {s with heap:=h'}:=λits J hz h' D kp e=>
  ⟨.ref s.heap.objs.size,_,I.laid (t':=s.toks) kp (z47 _) (show ObjOk X.prog X.w _ h' _ (.lst ys) from⟨hz,its,D,J,e⟩),rfl,q _ (I.hok.fresh (z47 _))⟩
 rcases hq with hq | hq
 ·obtain⟨its,J,pl,hz⟩:=I.list hq;have O:=J.length;obtain⟨o,ho,Z,n,hd⟩:=pl.isList;exact call_list_seq p (.inl rfl) ho Z hd (λh' D kp e=>fin its J hz h' D kp e) (by simp only[z23] <;> lia)
 ·obtain⟨its,J,pl,hz⟩:=I.tuple hq;have O:=J.length;obtain⟨o,ho,Z,n,hd⟩:=pl;exact call_list_seq p (.inr rfl) ho Z hd (λh' D kp e=>fin its J hz h' D kp e) (by simp only[z23] <;> lia)
def qiv:q2b X (.type "tuple") (λxs H Q=>∃p ys,xs=[.ref p]/\((SqL X.K H p ys/\∀l,H l=none->Q (.ref l) (upd H l (.tup ys)))\/ (SqT X.K H p ys/\Q (.ref p) H))):=by
 intro xC s σ H xs us Q I r h;obtain⟨p,ys,rfl,h⟩:=h;obtain⟨u,rfl,rx⟩:=q2k r;cases rx
 rcases h with ⟨hq,q⟩ | ⟨hq,q⟩
 ·obtain⟨its,D,pl,hz⟩:=I.list hq;have J:=D.length;refine call_tuple_list pl.isList (λh' kp=>?_) (by simp only[z23] <;> lia);have I1:Inv X xC σ H {s with heap:=h'}:=I.kept (t':=s.toks) kp;have I2:Inv X xC σ (upd H h'.objs.size (.tup ys)) {s with heap:=h'.push {cls:= .type "tuple",data:= .seq its.toArray}}:=
   I1.laid (t':=s.toks) (λb o e=>z0o _ e) (z47 _) (show ObjOk X.prog X.w _ _ _ (.tup ys) from⟨hz,its,D,IsTup.new _ _⟩)
  exact⟨.ref h'.objs.size,_,I2,zr,q _ (I1.hok.fresh (z47 _))⟩
 ·obtain⟨its,D,pl,hz⟩:=I.tuple hq;exact call_tuple_same pl ⟨.ref p,H,I,zr,q⟩
def tyV(K:xA)(T:String)(x:V)(H:Hp):Prop:=match x with
 | .str _=>T="str"
 | .int _=>T="int"
 | .ref p=>(T="list"/\∃xs,SqL K H p xs)\/ (T="tuple"/\∃o,K.lookup p=some o/\o.cls= .type "tuple"/\o.dict=none)\/
   (T="dict"/\((∃kvs,H p=some (.dK kvs))\/ ∃kvs,H p=some (.dT kvs)))\/ (T="set"/\∃S n,H p=some (.set S n))
 | _=>False
def qr8{xC:xG}{σ:St}{H:Hp}{s:Shared}{T:String}{x:V}{v:Value}(I:Inv X xC σ H s)(r:RelV x v)(ty:tyV X.K T x H):
    s.TypeIs v T/\∀a,v= .ref a->∃D,s.heap.get? a=some D/\D.dict=none:=by
  cases x with
  | str z=>
    obtain⟨t,rfl⟩:=r;cases (show T="str" from ty)
    exact⟨typeIs_str s z t,λ_ e=>nomatch e⟩
  | int i=>
    obtain⟨t,rfl⟩:=r;cases (show T="int" from ty)
    exact⟨typeIs_int s i t,λ_ e=>nomatch e⟩
  | ref p=>
    cases r
    rcases ty with ⟨rfl,xs,hq⟩ | ⟨rfl,o,hk,hc,hd⟩ | ⟨rfl,hk⟩ | ⟨rfl,S,n,hk⟩
    · obtain⟨its,_,pl,_⟩:=I.list hq
      refine⟨pl.isList.typeIs,λa e=>?_⟩;cases e
      obtain⟨o,n,e,c,hd,_⟩:=pl;exact⟨o,e,hd⟩
    · refine⟨⟨o,I.kIn p o hk,hc⟩,λa e=>?_⟩
      cases e
      exact⟨o,I.kIn _ o hk,hd⟩
    · have z:∃o,s.heap.get? p=some o/\o.ExactDict:=by
        rcases hk with ⟨kvs,hk⟩ | ⟨kvs,hk⟩
        · obtain⟨_,_,_,_,o,_,_,e,ex,_⟩:=I.hok p _ hk
          exact⟨o,e,ex⟩
        · obtain⟨_,_,_,_,o,_,_,e,ex,_⟩:=I.hok p _ hk
          exact⟨o,e,ex⟩
      obtain⟨o,e,ex⟩:=z;refine⟨⟨o,e,ex.1⟩,λa e2=>?_⟩;cases e2
      exact⟨o,e,ex.2.1⟩
    · obtain⟨o,_,_,_,e,ex,_⟩:=I.hok p _ hk
      refine⟨⟨o,e,ex.1⟩,λa e2=>?_⟩;cases e2
      exact⟨o,e,ex.2.1⟩
  | _=>exact False.elim ty
def tBM0(K:xA)(T:String)(r:V->List V->Hp->VK->Prop)(to:TE):TE:=λσ H Q=>to σ H λx H1=>tyV K T x H1/\r x [] H1 Q
def tBM(K:xA)(T:String)(r:V->List V->Hp->VK->Prop)(to:TE)(t:TA):TE:=λσ H Q=>to σ H λx H1=>tyV K T x H1/\t σ H1 λxs H2=>r x xs H2 Q
variable{o e:Expr}{es:List Expr}{to:TE}{t:TA}{name:Str}{apos cpos:Pos}{T id:String}{r:V->List V->Hp->VK->Prop}
def qz9(pa:PlainAttrs T)(slot:Slot T name id)(O:typeOf (.builtin id)=pure (.type "method_descriptor"))(hm:MtR X id r)(ho:PE X o to)
  (D:attributeBase o name X.env (eval o X.env)=eval o X.env:=by rfl) (J:(apos.endLine==cpos.line)=true:=by rfl):PE X (.Call (.Attribute o name apos) [] [] cpos) (tBM0 X.K T r to):=by
 intro xC s σ H Q I h;refine wpAny_Call_method0_late D J (thn (ho xC s σ H _ I h) λv s1 Z=>?_);obtain⟨x,H1,I1,r1,ty,q1⟩:=Z;obtain⟨h1,h2⟩:=qr8 I1 r1 ty;exact⟨T,id,pa,slot,O,h1,h2,Calls.callWith_builtin rfl (PySem.evalArgs_none (hm xC s1 σ H1 x [] v [] Q I1 r1 .nil q1))⟩
def q43(pa:PlainAttrs T)(slot:Slot T name id)(a0:typeOf (.builtin id)=pure (.type "method_descriptor"))(hm:MtR X id r)(ho:PE X o to)(ha:PA X (e::es) t)
  (J:attributeBase o name X.env (eval o X.env)=eval o X.env:=by rfl)
  (Z:((backTo cpos (starEach (e::es) X.env)).all (λx=> !x.1)&&(backToKw cpos (keywordEach [] X.env)).all (λx=>x.1.isSome)
   &&decide ((e::es).length+([]:List Keyword).length+(if ([]:List Keyword).isEmpty then 0 else 1) < 30))=true:=by rfl)
  (O:(apos.endLine==cpos.line)=true:=by rfl) (hs:starEach (e::es) X.env=(false,eval e X.env)::starEach es X.env:=by rfl) (D:(backTo cpos (starEach es X.env)).any (·.1)=false:=by rfl):
  PE X (.Call (.Attribute o name apos) (e::es) [] cpos) (tBM X.K T r to t):=by
 intro xC s σ H Q I h;refine wpAny_Call_method_late J Z O rfl (thn (ho xC s σ H _ I h) λv s1 a1=>?_);obtain⟨x,H1,I1,r1,ty,q1⟩:=a1;obtain⟨h1,h2⟩:=qr8 I1 r1 ty;refine⟨T,id,pa,slot,a0,h1,h2,?_⟩;have hA:=ha cpos xC s1 σ H1 _ I1 q1;rw[hs]at hA ⊢;refine Calls.callWith_builtin (by show (false || (backTo cpos (starEach es X.env)).any (·.1))=false;rw[D] <;> rfl) (Calls.evalArgs_plain ?_);exact thn hA λus s2 ⟨vs,H2,I2,r2,q2⟩=>hm xC s2 σ H2 x vs v us Q I2 r1 r2 q2
end
def MtM(X:Cx)(id:String)(r:V->List V->Hp->VK->Prop):Prop:=
 ∀(xC:xG) (s:Shared) (σ:St) (H:Hp) (x:V) (xs:List V) (v:Value) (us:xH) (Q:VK),Inv X xC σ H s->RelV x v->Vals xs us->r x xs H Q->
  wpAny (model X.prog X.w) X.A (call (.builtin id) (v::us)) (EP X xC σ Q) X.xe s
def Vals.one{x:V}{us:xH}(h:Vals [x] us):∃u,us=[u]/\RelV x u:=by
 cases h with
 | cons r t=>cases t;exact⟨_,rfl,r⟩
def Vals.zero:∀{us:xH},Vals [] us->us=[]
 | _,.nil=>rfl
theorem Vals.dropLast{xs:List V}{us:xH}(h:Vals xs us):Vals xs.dropLast us.dropLast:=by
 induction h with
 | nil=>exact .nil
 | cons r t ih=>
  cases t with
  | nil=>exact .nil
  | cons q t'=>exact .cons r ih
theorem Vals.rep{xs:List V}{us:xH}(h:Vals xs us):∀k:Nat,Vals (List.replicate k xs).flatten (List.replicate k us).flatten
 | 0=> .nil
 | k+1=>by
  rw[z1e,z1e,z27,z27];exact Vals.append h (Vals.rep h k)
def qpb{α:Type}(l:List α):l.eraseIdx (l.length - 1)=l.dropLast:=by
 induction l with
 | nil=>rfl
 | cons a r ih=>
  cases r with
  | nil=>rfl
  | cons b r=>
   have e:(a::b::r).length - 1=((b::r).length - 1)+1:=by
    have h1:(a::b::r).length=r.length+2:=rfl;have h2:(b::r).length=r.length+1:=rfl
    lia
   rw[e,List.eraseIdx_cons_succ,ih]
   all_goals rfl
theorem qi2(its:xH):∀(k:Nat) (acc:xH),
  List.foldl (λx1 x2=>x1++x2) acc.toArray (List.replicate k its.toArray)=(acc++(List.replicate k its).flatten).toArray
 | 0,acc=>by simp
 | k+1,acc=>by
  have e:acc.toArray++its.toArray=(acc++its).toArray:=by simp
  have e2:(acc++its)++(List.replicate k its).flatten=acc++(List.replicate (k+1) its).flatten:=by
   rw[z1e,z27,z1y]
  rw[<- e2,<- qi2 its k (acc++its),<- e,z1e,List.foldl_cons]
section
variable{X:Cx}{xC:xG}{σ:St}{H:Hp}{s:Shared}{l b:Addr}{xs ys zs:List V}
def Inv.lset{its its':xH}{n:Nat}{f:Array Value->Array Value}{t':Nat}(I:Inv X xC σ H s)(hH:H l=some (.lst xs))
  (e:s.heap.get? l=some {cls:= .type "list",data:= .seq its.toArray n}) (hf:f its.toArray=its'.toArray) (hv:Vals ys its') (hz:ys.length<=sizeLine):
  Inv X xC σ (upd H l (.lst ys)) {s with heap:=s.heap.update l (Obj.mapSeq f),toks:=t'}:=by
 have q:=PySem.IsL.update e f;rw[hf]at q;refine I.write (x:=l) (e:=l) (by rw[hH];exact trivial) (.inl rfl) (λb' u hb hu=>(z0p s.heap (Obj.mapSeq f) (Ne.symm hb)).trans hu) ⟨_,q⟩ ?_;exact⟨hz,its',_,hv,q⟩
def Inv.lnew{its:xH}{t':Nat}(I:Inv X xC σ H s)(hv:Vals ys its)(hz:ys.length<=sizeLine):
  Inv X xC σ (upd H s.heap.objs.size (.lst ys)) {s with heap:=s.heap.push {cls:= .type "list",data:= .seq its.toArray},toks:=t'}:=
 I.laid (λ_ _ q=>z0o _ q) (z47 _) ⟨hz,its,0,hv,z1c _ rfl⟩
theorem Inv.fresh(I:Inv X xC σ H s):H s.heap.objs.size=none:=I.hok.fresh (z47 _)
def Inv.lstM(I:Inv X xC σ H s)(hH:H l=some (.lst xs)):xs.length<=sizeLine/\∃(its:xH) (n:Nat),Vals xs its/\xs.length=its.length/\s.heap.get? l=some {cls:= .type "list",data:= .seq its.toArray n}:=by
 obtain⟨z,its,n,r,e⟩:=I.hok l _ hH;exact⟨z,its,n,r,r.length,e⟩
def ql1{n:Nat}(h:n<=sizeLine):Builtin.List.listTooLong n=false:=by
 unfold Builtin.List.listTooLong;exact z2w (by lia)
end
section
variable{X:Cx}
def qxd:V->List V->Hp->VK->Prop:=λx vs H Q=>∃l xs y,x= .ref l/\vs=[y]/\H l=some (.lst xs)/\xs.length < sizeLine/\Q .non (upd H l (.lst (xs++ [y])))
def q2w:MtM X "list.append" qxd:=by
 intro xC s σ H x vs v us Q I rx rv h;obtain⟨l,xs,y,rfl,rfl,D,hz,q⟩:=h;cases rx
 obtain⟨u,rfl,ru⟩:=rv.one;obtain⟨z,its,n,r,hl,e⟩:=I.lstM D;refine call_meets F.slot_list_append ⟨_,e,rfl⟩ F.entry_list_append (F.args_list_append_2 _ _) (PySem.list_append l its.toArray n u (by rw[z23];lia)) ⟨e,?_⟩;refine⟨.non,_,I.lset (its':=its++ [u]) D e (by simp) (r.append (.cons ru .nil)) ?_,zr,q⟩;rw[z1o,z0y]
 lia
def qxe:V->List V->Hp->VK->Prop:=λx vs H Q=>∃l b xs zs,x= .ref l/\vs=[.ref b]/\H l=some (.lst xs)/\H b=some (.lst zs)/\xs.length+zs.length<=sizeLine/\Q .non (upd H l (.lst (xs++zs)))
def q6j:MtM X "list.extend" qxe:=by
 intro xC s σ H x vs v us Q I rx rv h;obtain⟨l,b,xs,zs,rfl,rfl,O,hB,hz,q⟩:=h;cases rx
 obtain⟨u,rfl,ru⟩:=rv.one;cases ru
 obtain⟨z,its,n,r,hl,e⟩:=I.lstM O;obtain⟨z2,D,n2,r2,hl2,e2⟩:=I.lstM hB;have hsz:its.toArray.size+D.toArray.size<=sizeLine:=by rw[z23,z23];lia
 have J:¬ (!its.toArray.isEmpty&&Builtin.List.listTooLong (its.toArray.size+D.toArray.size))=true:=by
  rw[ql1 hsz,Bool.and_false];exact z1l
 refine call_meets F.slot_list_extend ⟨_,e,zr⟩ F.entry_list_extend (F.args_list_extend_2 _ _)
  (AutoSeq1.list_extend_list_list_0 l its.toArray n b D.toArray n2 J (by rw[z23];lia) (by lia)) ⟨e,e2,?_⟩
 refine⟨.non,_,I.lset (its':=its++D) O e (by simp) (r.append r2) ?_,zr,q⟩;rw[z1o]
 lia
def rPop:V->List V->Hp->VK->Prop:=λx vs H Q=>∃l xs y,x= .ref l/\vs=[]/\H l=some (.lst xs)/\xs[xs.length - 1]? =some y/\Q y (upd H l (.lst xs.dropLast))
def qza:MtM X "list.pop" rPop:=by
 intro xC s σ H x vs v us Q I rx rv h;obtain⟨l,xs,y,rfl,rfl,O,hy,q⟩:=h;cases rx
 have D:=rv.zero;subst D;obtain⟨z,its,n,r,hl,e⟩:=I.lstM O;obtain⟨u,hu,ru⟩:=r.get hy;have J:its.toArray[its.toArray.size - 1]? =some u:=by
  show its.toArray[its.length - 1]? =some u;rw[<- z0x,<- hl];exact hu
 refine call_meets F.slot_list_pop ⟨_,e,rfl⟩ F.entry_list_pop (F.args_list_pop_1 _) (MeetsSeq.list_pop_last l its.toArray n u J (by rw[z23];lia)) ⟨e,?_⟩;refine⟨y,_,I.lset (its':=its.dropLast) O e ?_ r.dropLast ?_,ru,q⟩
 ·show its.toArray.eraseIdxIfInBounds (its.toArray.size - 1)=its.dropLast.toArray;rw[z23,List.eraseIdxIfInBounds_toArray,qpb]
 ·rw[List.length_dropLast]
  lia
def rCat:R2:=λx y H Q=>∃l b xs zs,x= .ref l/\y= .ref b/\H l=some (.lst xs)/\H b=some (.lst zs)/\xs.length+zs.length<=sizeLine/\∀p,H p=none->Q (.ref p) (upd H p (.lst (xs++zs)))
def q5e:OpR X (binaryOp .Add) rCat:=by
 intro xC s σ H x y v u Q I rx ry h;obtain⟨l,b,xs,zs,rfl,rfl,hH,hB,hz,q⟩:=h;cases rx
 cases ry
 obtain⟨z,its,n,r,hl,e⟩:=I.lstM hH;obtain⟨z2,D,n2,r2,hl2,e2⟩:=I.lstM hB;refine PySem.P.add_list e e2 ?_ (by rw[z23,z23];lia);have ea:its.toArray++D.toArray=(its++D).toArray:=by simp
 rw[ea];exact⟨.ref _,_,I.lnew (t':=s.toks) (r.append r2) (by rw[z1o];lia),rfl,q _ I.fresh⟩
def rRep:R2:=λx y H Q=>∃l k xs,x= .ref l/\y= .int k/\H l=some (.lst xs)/\ -(2^63)<=k/\k < 2^63/\xs.length*k.toNat<=sizeLine/\
 ∀p,H p=none->Q (.ref p) (upd H p (.lst (List.replicate k.toNat xs).flatten))
def qxf{α:Type}(xs:List α)(k:Nat):(List.replicate k xs).flatten.length=k*xs.length:=by
 induction k with
 | zero=>simp
 | succ k ih=>rw[z1e,z27,z1o,ih,Nat.succ_mul,Nat.add_comm]
def qzb:OpR X (binaryOp .Mult) rRep:=by
 intro xC s σ H x y v u Q I rx ry h;obtain⟨l,k,xs,rfl,rfl,hH,h1,h2,hz,q⟩:=h;cases rx
 obtain⟨t,rfl⟩:=ry;obtain⟨z,its,n,r,hl,e⟩:=I.lstM hH;have Z:its.toArray.size*k.toNat<=sizeLine:=by rw[z23,<- hl];exact hz
 have J:¬ its.toArray.size*k.toNat > (2^63 - 1) / 8:=by
  have:(sizeLine:Nat)<=(2^63 - 1) / 8:=by decide
  lia
 have O:¬ (!Builtin.List.listFitsIndex k)=true:=by
  rw[fitsIndex_both h1 h2];exact z1l
 have D:¬ Builtin.List.listTooLong (its.toArray.size*k.toNat)=true:=by
  rw[ql1 Z];exact z1l
 have a0:List.foldl (λx1 x2=>x1++x2) #[] (List.replicate (if its.toArray.isEmpty=true then 0 else k.toNat) its.toArray)=(List.replicate k.toNat its).flatten.toArray:=by
  have f0:∀m:Nat,List.foldl (λx1 x2=>x1++x2) #[] (List.replicate m its.toArray)=(List.replicate m its).flatten.toArray:=λm=>by
   have:=qi2 its m [];rw[List.nil_append]at this;exact this
  rw[f0];cases its with
  | nil=>simp
  | cons a r'=>rw[if_neg (by simp)]
 refine wpAny_binaryOp_repeat_ref (T:="list") (U:="int") (by decide) ⟨_,e,zr⟩ (λs'=>typeIs_int s' k t) noFill_list_mul F.fills_int_mul F.slot_int_rmul repeat_list F.slot_int_index.lookup
  (call_meets F.slot_int_rmul (typeIs_int s k t) F.entry_int_rmul (F.args_int_rmul_2 _ _) (int___rmul___int_list k t l its.toArray n)
   ⟨e,rfl,⟨_,e,rfl⟩,call_meets F.slot_list_mul ⟨_,e,rfl⟩ F.entry_list_mul (F.args_list_mul_2 _ _) (AutoListH.list___mul___list_int_3 l its.toArray n k t O J D) ⟨e,?_⟩⟩)
 rw[a0];exact⟨.ref _,_,I.lnew (t':=s.toks) (r.rep k.toNat) (by rw[qxf,Nat.mul_comm];exact hz),rfl,q _ I.fresh⟩
end
section
variable{prog:Program}{w:World}{A:Around}{E:xB}{s:Shared}
end
section
variable{X:Cx}
end
section
variable{κ:Type}[DecidableEq κ]
def valV(kvs:List (κ×V))(k:κ):Option V:=(kvs.find? λkv=>decide (kv.1=k)).map (·.2)
def putK(kvs:List (κ×V))(k:κ)(v:V):List (κ×V):=
 if (kvs.any λkv=>decide (kv.1=k))=true then kvs.map (λkv=>if kv.1=k then (kv.1,v) else kv) else kvs++ [(k,v)]
def q2z{p:κ×V}{r:List (κ×V)}{k:κ}(e:p.1=k):valV (p::r) k=some p.2:=by simp[valV,z33,e]
def q30{p:κ×V}{r:List (κ×V)}{k:κ}(e:¬ p.1=k):valV (p::r) k=valV r k:=by simp[valV,z33,e]
theorem q7p(k:κ):∀kvs:List (κ×V),(kvs.any λkv=>decide (kv.1=k))=(valV kvs k).isSome
 | []=>rfl
 | p::r=>by
  rw[z3p];by_cases e:p.1=k
  ·simp only[q2z e,z3b e,Bool.true_or,Option.isSome_some]
  ·rw[q30 e,z2w e,Bool.false_or];exact q7p k r
theorem ql2(k j:κ)(y:V):∀kvs:List (κ×V),valV (kvs.map λD=>if D.1=k then (D.1,y) else D) j=(valV kvs j).map λx=>if j=k then y else x
 | []=>rfl
 | p::r=>by
  have J:=ql2 k j y r;rw[z3k];by_cases h:p.1=k
  ·rw[if_pos h];by_cases e:p.1=j
   ·rw[q2z (p:=(p.1,y)) e,q2z e,Option.map_some,if_pos (e.symm.trans h)]
   ·rw[q30 (p:=(p.1,y)) e,q30 e,J]
  ·rw[if_neg h];by_cases e:p.1=j
   ·rw[q2z (p:=p) e,q2z e,Option.map_some,if_neg (λz=>h (e.trans z))]
   ·rw[q30 (p:=p) e,q30 e,J]
theorem qi3(k j:κ)(y:V):∀kvs:List (κ×V),valV kvs k=none->valV (kvs++ [(k,y)]) j=if j=k then some y else valV kvs j
 | [],_=>by
  by_cases e:k=j
  ·rw[if_pos e.symm];exact q2z (p:=(k,y)) e
  ·rw[if_neg (λz=>e z.symm)];exact q30 (p:=(k,y)) e
 | p::r,hn=>by
  rw[List.cons_append];have hk:¬ p.1=k:=λz=>by rw[q2z z]at hn;cases hn
  rw[q30 hk]at hn;have ih:=qi3 k j y r hn;by_cases e:p.1=j
  ·rw[q2z e,q2z e,if_neg (λz=>hk (e.trans z))]
  ·rw[q30 e,q30 e,ih]
def q4x(kvs:List (κ×V))(k j:κ)(y:V):valV (putK kvs k y) j=if j=k then some y else valV kvs j:=by
 unfold putK;by_cases a:(kvs.any λkv=>decide (kv.1=k))=true
 ·rw[if_pos a,ql2];rw[q7p]at a;by_cases e:j=k
  ·obtain⟨x,hx⟩:=Option.isSome_iff_exists.mp a;rw[if_pos e,e,hx,Option.map_some,if_pos rfl]
  ·rw[if_neg e];cases valV kvs j with
   | none=>rfl
   | some x=>rw[Option.map_some,if_neg e]
 ·rw[if_neg a];refine qi3 k j y kvs ?_;rw[q7p]at a;cases q:valV kvs k with
  | none=>rfl
  | some x=>rw[q]at a;exact(a rfl).elim
def q3x(kvs:List (κ×V))(k:κ)(v:V):(putK kvs k v).length<=kvs.length+1:=by
 unfold putK;split
 ·rw[z30];lia
 ·rw[z1o,z2i,z34];lia
def qu1{kvs:List (κ×V)}{k:κ}(v:V)(h:valV kvs k=none):putK kvs k v=kvs++ [(k,v)]:=by
 unfold putK;rw[q7p,h];exact if_neg (by decide)
def RelO.q6k{o:Option V}{u:Option Value}(r:RelO o u):o.isSome=u.isSome:=by
 cases o with
 | none=>cases u with
  | none=>rfl
  | some _=>exact(show False from r).elim
 | some _=>cases u with
  | none=>exact(show False from r).elim
  | some _=>rfl
theorem RelO.getD{o:Option V}{u:Option Value}{d:V}{d':Value}(r:RelO o u)(rd:RelV d d'):RelV (o.getD d) (u.getD d'):=by
 cases o with
 | none=>cases u with
  | none=>exact rd
  | some _=>exact(show False from r).elim
 | some _=>cases u with
  | none=>exact(show False from r).elim
  | some _=>exact r
def KV.val{kvs:List (κ×V)}{vs:List (κ×Value)}(r:KV kvs vs)(k:κ):RelO (valV kvs k) (valueAt vs k):=by
 unfold KV at r
 induction r with
 | nil=>exact True.intro
 | @cons p q ps D h t ih=>
  obtain⟨h1,h2⟩:=h;by_cases e:p.1=k
  ·have e':q.1=k:=h1.symm.trans e;have b:valueAt (q::D) k=some q.2:=by simp[valueAt,z33,e']
   rw[q2z e,b];exact h2
  ·have e':¬ q.1=k:=λz=>e (h1.trans z);have b:valueAt (q::D) k=valueAt D k:=by simp[valueAt,z33,e']
   rw[q30 e,b];exact ih
theorem KV.any{kvs:List (κ×V)}{vs:List (κ×Value)}(r:KV kvs vs)(k:κ):(kvs.any λD=>decide (D.1=k))=vs.any λD=>decide (D.1=k):=by
 unfold KV at r
 induction r with
 | nil=>rfl
 | cons h t ih=>rw[z3p,z3p,ih,h.1]
def KV.repl{kvs:List (κ×V)}{vs:List (κ×Value)}(r:KV kvs vs)(k:κ){y:V}{u:Value}(ry:RelV y u):
  KV (kvs.map λD=>if D.1=k then (D.1,y) else D) (vs.map λD=>if D.1=k then (D.1,u) else D):=by
 unfold KV at r ⊢
 induction r with
 | nil=>exact .nil
 | @cons p q ps qs h t ih=>
  rw[z3k,z3k];refine .cons ?_ ih;obtain⟨h1,h2⟩:=h;by_cases e:p.1=k
  ·rw[if_pos e,if_pos (h1.symm.trans e)];exact⟨h1,ry⟩
  ·rw[if_neg e,if_neg (λz=>e (h1.trans z))];exact⟨h1,h2⟩
def KV.put{kvs:List (κ×V)}{vs:List (κ×Value)}(r:KV kvs vs)(k:κ){y:V}{u:Value}(ry:RelV y u):KV (putK kvs k y) (stored vs k u):=by
 unfold putK stored;rw[r.any k];by_cases e:(vs.any λkv=>decide (kv.1=k))=true
 ·rw[if_pos e,if_pos e];exact r.repl k ry
 ·rw[if_neg e,if_neg e];exact Paired.snoc r ⟨rfl,ry⟩
theorem KV.length{kvs:List (κ×V)}{vs:List (κ×Value)}(r:KV kvs vs):kvs.length=vs.length:=Paired.length r
end
def q9l{P:Program}{w:World}{k:Key}{u:Value}(r:RelV (kV k) u):(q1c P w).is k u=true:=by
 cases k with
 | inl i=>obtain⟨t,e⟩:=(show ∃t,u=Value.int i t from r);subst e;exact qn4 P w i t
 | inr x=>obtain⟨t,e⟩:=(show ∃t,u=Value.str x t from r);subst e;exact qcs P w x t
theorem qi4{P:Program}{w:World}:∀{ks:List Key} {us:xH},Vals (ks.map kV) us->ItemsAre (q1c P w) ks us
 | [],_,r=>by rw[z43]at r;cases r;exact .nil
 | k::ks,_,r=>by
  rw[z3k]at r;cases r with
  | cons h t=>exact .cons (q9l h) (qi4 t)
abbrev KT(H:Hp):List (List Key×V)->List (List Key×Addr×Value)->Prop:=Paired λp q=>p.1=q.1/\H q.2.1=some (.tup (p.1.map kV))/\RelV p.2 q.2.2
def KT.val{H:Hp}{kvs:List (List Key×V)}{xs:List (List Key×Addr×Value)}(r:KT H kvs xs)(k:List Key):RelO (valV kvs k) ((atKey xs k).map (·.2)):=by
 induction r with
 | nil=>exact True.intro
 | @cons p q ps D h t ih=>
  obtain⟨h1,_,h2⟩:=h;by_cases e:p.1=k
  ·have e':q.1=k:=h1.symm.trans e;have b:atKey (q::D) k=some q.2:=by simp[atKey,z33,e']
   rw[q2z e,b];exact h2
  ·have e':¬ q.1=k:=λz=>e (h1.trans z);have b:atKey (q::D) k=atKey D k:=by simp[atKey,z33,e']
   rw[q30 e,b];exact ih
def KT.repl{H:Hp}{kvs:List (List Key×V)}{xs:List (List Key×Addr×Value)}(r:KT H kvs xs)(k:List Key){y:V}{u:Value}(ry:RelV y u):
  KT H (kvs.map λD=>if D.1=k then (D.1,y) else D) (xs.map (putAt k u)):=by
 induction r with
 | nil=>exact .nil
 | @cons p q ps qs h t ih=>
  rw[z3k,z3k];refine .cons ?_ ih;obtain⟨h1,h2,h3⟩:=h;unfold putAt;by_cases e:p.1=k
  ·rw[if_pos e,if_pos (h1.symm.trans e)];exact⟨h1,h2,ry⟩
  ·rw[if_neg e,if_neg (λz=>e (h1.trans z))];exact⟨h1,h2,h3⟩
def KT.put{H:Hp}{kvs:List (List Key×V)}{xs:List (List Key×Addr×Value)}(r:KT H kvs xs)(k:List Key){b:Addr}{y:V}{u:Value}(hb:H b=some (.tup (k.map kV)))(ry:RelV y u):
  KT H (putK kvs k y) (storedH xs k b u):=by
 have e:(kvs.any λkv=>decide (kv.1=k))=(atKey xs k).isSome:=by
  rw[q7p,(r.val k).q6k,Option.isSome_map]
 unfold putK storedH;rw[e];by_cases q:(atKey xs k).isSome=true
 ·rw[if_pos q,if_pos q];exact r.repl k ry
 ·rw[if_neg q,if_neg q];exact Paired.snoc r ⟨rfl,hb,ry⟩
def KT.keeps{H H':Hp}{kvs:List (List Key×V)}{xs:List (List Key×Addr×Value)}(r:KT H kvs xs)(ht:∀b ys,H b=some (.tup ys)->H' b=some (.tup ys)):KT H' kvs xs:=
 Paired.mapP r λ_ _ z=>⟨z.1,ht _ _ z.2.1,z.2.2⟩
section
variable{P:Program}{w:World}{H:Hp}{h:Heap}{a:Addr}
def qwc{u:HO}(ok:HOk P w H h)(e:Rd H a u):ObjOk P w H h a u:=e.ok ok
def q8l{kvs:List (Key×V)}(ok:HOk P w H h)(e:Rd H a (.dK kvs)):kvs.length<=sizeLine/\(a==sysModules)=false/\∃vs,KV kvs vs/\h.DictOf (q1c P w) a vs:=
 show ObjOk P w H h a (.dK kvs) from qwc ok e
def qwd{kvs:List (Key×V)}(ok:HOk P w H h)(e:H a=some (.dK kvs)):kvs.length<=sizeLine/\(a==sysModules)=false/\∃vs,KV kvs vs/\h.DictOf (q1c P w) a vs:=q8l ok (.inl e)
def q93{ks:List Key}(ok:HOk P w H h)(e:H a=some (.tup (ks.map kV))):(tupleKind (q1c P w)).is h ks a:=by
 obtain⟨_,its,r,o,h1,h2,n,h3⟩:=(show ObjOk P w H h a (.tup (ks.map kV)) from ok a _ e);exact⟨o,its.toArray,n,h1,h2,h3,by simpa using qi4 r⟩
def q9m{kvs:List (List Key×V)}(ok:HOk P w H h)(e:Rd H a (.dT kvs)):kvs.length<=sizeLine/\(a==sysModules)=false/\
  ∃xs,KT H kvs xs/\h.DictOfH (tupleKind (q1c P w)) a xs:=by
 obtain⟨z,y,xs,r,o,es,ep,h1,h2,h3,h4,h5⟩:=(show ObjOk P w H h a (.dT kvs) from qwc ok e);refine⟨z,y,xs,r,o,es,ep,h1,h2,h3,h4,λx hx=>?_,h5⟩;have all:∀{l:List (List Key×V)} {m:List (List Key×Addr×Value)},KT H l m->∀x∈m,(tupleKind (q1c P w)).is h x.1 x.2.1:=by
  intro l m q
  induction q with
  | nil=>intro x hx;exact nomatch hx
  | @cons p q ps qs hq t ih=>
   intro x hx;rcases z3m.mp hx with e | hx
   ·subst e;exact q93 ok (by rw[<- hq.1];exact hq.2.1)
   ·exact ih x hx
 exact all r x hx
def q11e{kvs:List (List Key×V)}(ok:HOk P w H h)(e:H a=some (.dT kvs)):kvs.length<=sizeLine/\(a==sysModules)=false/\
  ∃xs,KT H kvs xs/\h.DictOfH (tupleKind (q1c P w)) a xs:=q9m ok (.inl e)
end
def DGet(H:Hp)(a:Addr)(y:V)(r:Option V):Prop:=
 (∃kvs k,Rd H a (.dK kvs)/\y=kV k/\r=valV kvs k)\/ ∃kvs k b,Rd H a (.dT kvs)/\y= .ref b/\H b=some (.tup (k.map kV))/\r=valV kvs k
def DPut(H:Hp)(a:Addr)(y v:V)(H':Hp):Prop:=
 (∃kvs k,H a=some (.dK kvs)/\y=kV k/\kvs.length < sizeLine/\H'=upd H a (.dK (putK kvs k v)))\/
 ∃kvs k b,H a=some (.dT kvs)/\y= .ref b/\H b=some (.tup (k.map kV))/\kvs.length < sizeLine/\H'=upd H a (.dT (putK kvs k v))
theorem DGet.k{H:Hp}{a:Addr}{kvs:List (Key×V)}{k:Key}(e:H a=some (.dK kvs)):DGet H a (kV k) (valV kvs k):= .inl ⟨kvs,k,.inl e,rfl,rfl⟩
def DGet.t{H:Hp}{a b:Addr}{kvs:List (List Key×V)}{k:List Key}(e:H a=some (.dT kvs))(eb:H b=some (.tup (k.map kV))):DGet H a (.ref b) (valV kvs k):= .inr ⟨kvs,k,b,.inl e,rfl,eb,rfl⟩
theorem DPut.k{H:Hp}{a:Addr}{kvs:List (Key×V)}{k:Key}{v:V}(e:H a=some (.dK kvs))(hl:kvs.length < sizeLine):DPut H a (kV k) v (upd H a (.dK (putK kvs k v))):= .inl ⟨kvs,k,e,rfl,hl,rfl⟩
def DPut.t{H:Hp}{a b:Addr}{kvs:List (List Key×V)}{k:List Key}{v:V}(e:H a=some (.dT kvs))(eb:H b=some (.tup (k.map kV)))(hl:kvs.length < sizeLine):
  DPut H a (.ref b) v (upd H a (.dT (putK kvs k v))):= .inr ⟨kvs,k,b,e,rfl,eb,hl,rfl⟩
section
variable{X:Cx}{xC:xG}{σ:St}{H:Hp}{s:Shared}{a:Addr}{y v:V}{u r:Value}{o:Option V}{A:Around}{E:xB}
def Inv.big(I:Inv X xC σ H s):sysModules < s.heap.objs.size:=by
 have h:mainGlobals < s.heap.objs.size:=(I.mod.glob.keeps I.bk).lt;exact Nat.lt_trans (by decide) h
def qr9{Q:xB}(hu:A.units+1 < cLine)(I:Inv X xC σ H s)(g:DGet H a y (some v))(ry:RelV y u)(h:∀O s',Inv X xC σ H s'->RelV v O->Q O s'):
  wpAny (model X.prog X.w) A (getItem (.ref a) u) Q E s:=by
 rcases g with ⟨kvs,k,e,ey,l⟩ | ⟨kvs,k,b,e,ey,eb,l⟩
 ·subst ey;obtain⟨z,hd,vs,D,Z⟩:=q8l I.hok e;obtain⟨O,hw,J⟩:=RelO.qg8 (v:=v) (o:=valueAt vs k) (by rw[l];exact D.val k);exact wpAny_getItem_of (q9l ry) Z.mapOf hw (h O _ (I.tok _) J)
 ·subst ey;cases (show u=Value.ref b from ry)
  obtain⟨z,hd,xs,D,Z⟩:=q9m I.hok e;obtain⟨O,hw,J⟩:=RelO.qg8 (v:=v) (o:=(atKey xs k).map (·.2)) (by rw[l];exact D.val k);obtain⟨p,hp,a0⟩:=z0q.mp hw;refine wpAny_getItem_heap (tupleKind_room_in1 hu) (q93 I.hok eb) Z hp ?_;rw[a0];exact h O _ (I.tok _) J
def d_in{Q:xB}(hu:A.units+1 < cLine)(I:Inv X xC σ H s)(g:DGet H a y o)(ry:RelV y u)(h:∀s',Inv X xC σ H s'->Q (.bool o.isSome) s'):
  wpAny (model X.prog X.w) A (compareOp .In u (.ref a)) Q E s:=by
 rcases g with ⟨kvs,k,e,ey,l⟩ | ⟨kvs,k,b,e,ey,eb,l⟩
 ·subst ey;obtain⟨z,hd,vs,D,J⟩:=q8l I.hok e;refine wpAny_in_of (q9l ry) hd J.mapOf ?_;rw[<- (D.val k).q6k,<- l];exact h _ (I.tok _)
 ·subst ey;cases (show u=Value.ref b from ry)
  obtain⟨z,hd,xs,D,J⟩:=q9m I.hok e;refine wpAny_in_heap (tupleKind_room_in1 hu) (q93 I.hok eb) hd J ?_;have q:=(D.val k).q6k;rw[Option.isSome_map]at q;rw[<- q,<- l];exact h _ (I.tok _)
def qxg{Q:xB}(hu:A.units+1 < cLine)(I:Inv X xC σ H s)(g:DGet H a y o)(ry:RelV y u)(h:∀s',Inv X xC σ H s'->Q (.bool (!o.isSome)) s'):
  wpAny (model X.prog X.w) A (compareOp .NotIn u (.ref a)) Q E s:=by
 rcases g with ⟨kvs,k,e,ey,l⟩ | ⟨kvs,k,b,e,ey,eb,l⟩
 ·subst ey;obtain⟨z,hd,vs,D,J⟩:=q8l I.hok e;refine wpAny_notIn_of (q9l ry) hd J.mapOf ?_;rw[<- (D.val k).q6k,<- l];exact h _ (I.tok _)
 ·subst ey;cases (show u=Value.ref b from ry)
  obtain⟨z,hd,xs,D,J⟩:=q9m I.hok e;refine wpAny_notIn_heap (tupleKind_room_in1 hu) (q93 I.hok eb) hd J ?_;have q:=(D.val k).q6k;rw[Option.isSome_map]at q;rw[<- q,<- l];exact h _ (I.tok _)
def qgb{h':Heap}{t':Nat}{D:HO}(I:Inv X xC σ H s)(mu:Mut (H a))(hs:Heap.SameBut a s.heap h')(he:∃q,h'.get? a=some q)(new:ObjOk X.prog X.w (upd H a D) h' a D):
  Inv X xC σ (upd H a D) {s with heap:=h',toks:=t'}:=
 I.write (x:=a) (e:=a) mu (.inl rfl) (λb q hb z=>(hs.2 b hb).trans z) he new
def qra{P:Program}{w:World}{H':Hp}{h':Heap}{kvs:List (Key×V)}{vs:List (Key×Value)}(z:kvs.length<=sizeLine)(hd:(a==sysModules)=false)(D:KV kvs vs)(dd:h'.DictOf (q1c P w) a vs):
  ObjOk P w H' h' a (.dK kvs):=⟨z,hd,vs,D,dd⟩
def qrb{H':Hp}{Q:Unit->Shared->Prop}(hu:A.units+1 < cLine)(I:Inv X xC σ H s)(g:DPut H a y v H')(ry:RelV y u)(rv:RelV v r)(h:∀s',Inv X xC σ H' s'->Q () s'):
  wpAny (model X.prog X.w) A (setItem (.ref a) u r) Q E s:=by
 rcases g with ⟨kvs,k,e,ey,l,eH⟩ | ⟨kvs,k,b,e,ey,eb,l,eH⟩
 ·subst ey eH;obtain⟨z,hd,vs,D,O⟩:=qwd I.hok e;have hz:vs.length<=sizeLine:=by rw[<- D.length];exact z
  have hl:(putK kvs k v).length<=sizeLine:=by have:=q3x kvs k v;lia
  refine wpAny_setItem_pairs (hsz:=hz) (q9l ry) O λh' J Z=>h _ ?_;have he:∃q,h'.get? a=some q:=let ⟨q,_,_,hq,_⟩:=J;⟨q,hq⟩
  exact qgb I (by rw[e];exact True.intro) Z he (qra hl hd (D.put k rv) J)
 ·subst ey eH;cases (show u=Value.ref b from ry)
  obtain⟨z,hd,xs,D,O⟩:=q11e I.hok e;have hz:xs.length<=sizeLine:=by rw[<- Paired.length D];exact z
  have hl:(putK kvs k v).length<=sizeLine:=by have:=q3x kvs k v;lia
  refine wpAny_setItem_heap (hsz:=hz) (tupleKind_room_in1 hu) (q93 I.hok eb) O λh' J Z=>h _ ?_;obtain⟨q,es,ep,hq,h2,h3,h4,_,h5⟩:=J;refine qgb I (by rw[e];exact True.intro) Z ⟨q,hq⟩ ⟨hl,hd,_,(D.put k eb rv).keeps λc ys ec=>?_,q,es,ep,hq,h2,h3,h4,h5⟩;rw[qi (q114 ec e (λz=>nomatch z))];exact ec
end
section
variable{X:Cx}{xC:xG}{σ:St}{H:Hp}{s:Shared}{a:Addr}{kvs:List (Key×V)}{k:Key}{u:Value}{A:Around}{E:xB}
def q11f{Q:xB}(I:Inv X xC σ H s)(e:Rd H a (.dK kvs))(h:∀t s',Inv X xC σ H s'->Q (.int kvs.length t) s'):wpAny (model X.prog X.w) A (call (.builtin "len") [.ref a]) Q E s:=by
 obtain⟨z,hd,vs,D,dd⟩:=q8l I.hok e;refine call_len_dict hd dd (by rw[<- D.length];rw[sizeLine_eq]at z;lia) ?_;rw[<- D.length];exact h _ _ (I.tok _)
end
def NoSl(i:Expr):Prop:=∀ov iv,subscripted i false ov iv=operate [ov,iv] (getItem ov iv)
def qxh{prog:Program}{w:World}{A:Around}{E:xB}{s:Shared}{env:Env}{value D:Expr}{pos:Pos}{T id:String}{Q:xB}
    (hl:typeLookup (.type T) "__getitem__"=pure (some (.builtin id))) (hs:NoSl D)
    (h:wpAny (model prog w) A (eval value env) (λo s₁=>wpAny (model prog w) A (eval D env) (λi J=>J.TypeIs o T/\wpAny (model prog w) A (getItem o i) Q E J) E s₁) E s):
    wpAny (model prog w) A (eval (.Subscript value D pos) env) Q E s:=by
  refine Subscript_ (z4f h (λo s₁ h₁=>z4f h₁ (λi J O=>?_) λ_ _ x=>x) λ_ _ x=>x);obtain⟨Z,O⟩:=O;unfold subscriptTail;refine z4e ?_;rw[getitemInPython_of_ne Z.not_modules];refine z4e (wpAny_specialOf Z hl ?_);have fin:wpAny (model prog w) A (subscripted D false o i) (λr s₃=>wpAny (model prog w) A (letTemporaryGo value o r >>=λ_=>pure r) Q E s₃) E J:=by
    rw[hs o i];exact wpAny_operating (z4f O (λr s₃ h₃=>z4e (wpAny_letTemporaryGo (z4d h₃))) λ_ _ x=>x)
  first
    | exact z4d (z4e fin)
    | exact z4e (z4d (z4e fin))
    | exact z4e fin
def qn6{X:Cx}{xC:xG}{σ:St}{H:Hp}{s:Shared}{a:Addr}{y:V}{o:Option V}(I:Inv X xC σ H s)(g:DGet H a y o):s.TypeIs (.ref a) "dict":=by
 rcases g with ⟨kvs,k,e,_,_⟩ | ⟨kvs,k,b,e,_,_,_⟩
 ·obtain⟨_,_,vs,_,D⟩:=q8l I.hok e;exact D.typeIs
 ·obtain⟨_,_,xs,_,D⟩:=q9m I.hok e;exact D.typeIs
def q11g(td ty:TE):TE:=λσ H Q=>td σ H λx H1=>ty σ H1 λy H2=>∃a v,x= .ref a/\DGet H2 a y (some v)/\Q v H2
def tDIn(ty td:TE):TE:=λσ H Q=>ty σ H λy H1=>td σ H1 λx H2=>∃a o,x= .ref a/\DGet H2 a y o/\Q (.bl o.isSome) H2
def qxi(ty td:TE):TE:=λσ H Q=>ty σ H λy H1=>td σ H1 λx H2=>∃a o,x= .ref a/\DGet H2 a y o/\Q (.bl (!o.isSome)) H2
def q11h(td ty tv:TE):TS:=λD σ H=>tv σ H λv H1=>td σ H1 λx H2=>ty σ H2 λy H3=>∃a H4,x= .ref a/\DPut H3 a y v H4/\D.nx σ H4
section
variable{X:Cx}{o i e value:Expr}{pos pos' tpos:Pos}{td ty tv:TE}
def q56(hu:X.A.units+1 < cLine)(ho:PE X o td)(hi:PE X i ty)(hs:NoSl i):PE X (.Subscript o i pos) (q11g td ty):=by
 intro xC s σ H Q I h;refine qxh PySem.F.slot_dict_getitem.lookup hs (thn (ho xC s σ H _ I h) λu s1 ⟨x,H1,I1,rx,q1⟩=>thn (hi xC s1 σ H1 _ I1 q1) λiv s2 J=>?_);obtain⟨y,H2,I2,ry,a,v,ex,g,q2⟩:=J;subst ex;obtain rfl:u=Value.ref a:=rx;exact⟨qn6 I2 g,qr9 hu I2 g ry λw' s3 I3 D=>⟨v,H2,I3,D,q2⟩⟩
def ql3(hu:X.A.units+1 < cLine)(hi:PE X i ty)(ho:PE X o td):PC X .In i o (tDIn ty td):=by
 intro xC s σ H Q I h;refine thn (hi xC s σ H _ I h) λiv s1 ⟨y,H1,I1,ry,q1⟩=>thn (ho xC s1 σ H1 _ I1 q1) λu s2 D=>?_;obtain⟨x,H2,I2,rx,a,ov,ex,g,q2⟩:=D;subst ex;obtain rfl:u=Value.ref a:=rx;exact d_in hu I2 g ry λs3 I3=>⟨.bl ov.isSome,H2,I3,zr,q2⟩
def qrc(hu:X.A.units+1 < cLine)(hi:PE X i ty)(ho:PE X o td):PC X .NotIn i o (qxi ty td):=by
 intro xC s σ H Q I h;refine thn (hi xC s σ H _ I h) λiv s1 ⟨y,H1,I1,ry,q1⟩=>thn (ho xC s1 σ H1 _ I1 q1) λu s2 D=>?_;obtain⟨x,H2,I2,rx,a,ov,ex,g,q2⟩:=D;subst ex;obtain rfl:u=Value.ref a:=rx;exact qxg hu I2 g ry λs3 I3=>⟨.bl (!ov.isSome),H2,I3,zr,q2⟩
def q94(hu:X.A.units+1 < cLine)(ho:PE X o td)(hi:PE X i ty)(hv:PE X value tv)(hs:swapsWith value (some (.Subscript o i pos')) pos.line X.env=pure false):
  PS X (.Assign [.Subscript o i pos'] value pos) (q11h td ty tv):=by
 intro xC s σ H D I h;refine wpAny_Assign_Subscript (thn (hv xC s σ H _ I h) λr s1 ⟨v,H1,I1,rv,q1⟩=>thn (ho xC s1 σ H1 _ I1 q1) λu s2 ⟨x,H2,I2,rx,q2⟩=>thn (hi xC s2 σ H2 _ I2 q2) λiv s3 J=>?_) hs;obtain⟨y,H3,I3,ry,a,H4,ex,g,q3⟩:=J;subst ex;obtain rfl:u=Value.ref a:=rx;exact qrb hu I3 g ry rv λs4 I4=>⟨σ,H4,I4,q3⟩
end
def qu2{P:Program}{w:World}{H:Hp}(h:Heap)(hb:sysModules < h.objs.size):ObjOk P w H (h.push {cls:= .type "dict",data:= .dict #[]}) h.objs.size (.dK []):=
 ⟨z4a _,beq_eq_false_iff_ne.mpr (Ne.symm (z3z hb)),[],.nil,Heap.DictOf.new h⟩
def qu3{P:Program}{w:World}{H:Hp}(h:Heap)(hb:sysModules < h.objs.size):ObjOk P w H (h.push {cls:= .type "dict",data:= .dict #[]}) h.objs.size (.dT []):=
 ⟨z4a _,beq_eq_false_iff_ne.mpr (Ne.symm (z3z hb)),[],.nil,_,#[],0,z1c _ rfl,⟨rfl,rfl,rfl⟩,rfl,rfl,z3f⟩
def qzc:TE:=λ_ H Q=>∀p,H p=none->Q (.ref p) (upd H p (.dK []))
def qzd:TE:=λ_ H Q=>∀p,H p=none->Q (.ref p) (upd H p (.dT []))
section
variable{X:Cx}{pos:Pos}
def q5w:PE X (.Dict [] [] pos) qzc:=λxC s σ H Q I h=>
 wpAny_Dict_empty ⟨.ref s.heap.objs.size,_,I.laid (a:=s.heap.objs.size) (o:= .dK []) (t':=s.toks) (λ_ _ q=>z0o _ q) (z47 _) (qu2 s.heap I.big),rfl,h _ (I.hok.fresh (z47 _))⟩
def ql4:PE X (.Dict [] [] pos) qzd:=λxC s σ H Q I h=>
 wpAny_Dict_empty ⟨.ref s.heap.objs.size,_,I.laid (a:=s.heap.objs.size) (o:= .dT []) (t':=s.toks) (λ_ _ q=>z0o _ q) (z47 _) (qu3 s.heap I.big),rfl,h _ (I.hok.fresh (z47 _))⟩
end
structure M2 (X:Cx) (o:Expr) (m:Str) (apos:Pos) (e f:Expr) (cpos:Pos):Prop where
 base:attributeBase o m X.env (eval o X.env)=eval o X.env
 few:((backTo cpos (starEach [e,f] X.env)).all (λx=> !x.1)&&(backToKw cpos (keywordEach [] X.env)).all (λx=>x.1.isSome)
  &&decide (([e,f]:List Expr).length+([]:List Keyword).length+(if ([]:List Keyword).isEmpty then 0 else 1) < 30))=true
 line:(apos.endLine==cpos.line)=true
 trees:backTo cpos (starEach [e,f] X.env)=[(false,eval e X.env),(false,eval f X.env)]
def IsD(H:Hp)(a:Addr):Prop:=(∃kvs,Rd H a (.dK kvs))\/ ∃kvs,Rd H a (.dT kvs)
def qrd{X:Cx}{xC:xG}{σ:St}{H:Hp}{s:Shared}{a:Addr}(I:Inv X xC σ H s)(d:IsD H a):
  s.TypeIs (.ref a) "dict"/\(∀b,Value.ref a= .ref b->∃D,s.heap.get? b=some D/\D.dict=none)/\(a==sysModules)=false:=by
 rcases d with ⟨kvs,e⟩ | ⟨kvs,e⟩
 ·obtain⟨_,hd,vs,_,J⟩:=q8l I.hok e;refine⟨J.typeIs,λb q=>?_,hd⟩;cases q
  obtain⟨D,_,_,h1,h2,_⟩:=J;exact⟨D,h1,h2.2.1⟩
 ·obtain⟨_,hd,xs,_,J⟩:=q9m I.hok e;refine⟨J.typeIs,λb q=>?_,hd⟩;cases q
  obtain⟨D,_,_,h1,h2,_⟩:=J;exact⟨D,h1,h2.2.1⟩
section
variable{X:Cx}{xC:xG}{σ:St}{H:Hp}{s:Shared}{a:Addr}{y d:V}{u r:Value}{o:Option V}{A:Around}{E:xB}
def qze{Q:xB}(hu:A.units+1 < cLine)(I:Inv X xC σ H s)(g:DGet H a y o)(ry:RelV y u)(O:RelV d r)(h:∀Z s',Inv X xC σ H s'->RelV (o.getD d) Z->Q Z s'):
  wpAny (model X.prog X.w) A (call (.builtin "dict.get") [.ref a,u,r]) Q E s:=by
 rcases g with ⟨kvs,k,e,ey,l⟩ | ⟨kvs,k,b,e,ey,eb,l⟩
 ·subst ey;obtain⟨z,hd,vs,D,J⟩:=q8l I.hok e;refine call_meetsIn PySem.F.slot_dict_get J.typeIs PySem.F.entry_dict_get (PySem.F.args_dict_get_3 _ _ _) (meets_dict_get_default (q1c X.prog X.w) a (q9l ry) hd r) ⟨_,J.mapOf,h _ _ (I.tok _) ?_⟩;rw[l];exact(D.val k).getD O
 ·subst ey;cases (show u=Value.ref b from ry)
  obtain⟨z,hd,xs,D,J⟩:=q9m I.hok e;refine call_meetsIn PySem.F.slot_dict_get J.typeIs PySem.F.entry_dict_get (PySem.F.args_dict_get_3 _ _ _) (meetsH_dict_get_default (tupleKind (q1c X.prog X.w)) a b hd r) ⟨tupleKind_room_in1 hu,k,xs,q93 I.hok eb,J,h _ _ (I.tok _) ?_⟩;rw[l];exact(D.val k).getD O
end
def qzf(td ty tx:TE):TE:=λσ H Q=>td σ H λx H1=>∃a,x= .ref a/\IsD H1 a/\ty σ H1 λy H2=>tx σ H2 λz H3=>∃o,DGet H3 a y o/\Q (o.getD z) H3
section
variable{X:Cx}{o e f:Expr}{apos cpos:Pos}{td ty tx:TE}
def qu4(hu:X.A.units+1 < cLine)(ho:PE X o td)(he:PE X e ty)(hf:PE X f tx)(m:M2 X o "get" apos e f cpos):PE X (.Call (.Attribute o "get" apos) [e,f] [] cpos) (qzf td ty tx):=by
 intro xC s σ H Q I h;refine wpAny_Call_method m.base m.few m.line PySem.F.plainAttrs_dict PySem.F.slot_dict_get PySem.F.type_dict_get (thn (ho xC s σ H _ I h) λu s1 J=>?_);obtain⟨x,H1,I1,rx,a,ex,d,q1⟩:=J;subst ex;obtain rfl:u=Value.ref a:=rx;obtain⟨t1,t2,_⟩:=qrd I1 d;refine⟨t1,t2,?_⟩;rw[m.trees];refine Calls.callWith_builtin rfl (Calls.evalArgs_plain (Calls.spliced_cons (thn (he xC s1 σ H1 _ I1 q1) λiv s2 ⟨y,H2,I2,ry,q2⟩=>
  Calls.spliced_cons (thn (hf xC s2 σ H2 _ I2 q2) λfv s3 ⟨z,H3,I3,rz,ov,g,q3⟩=>Calls.spliced_nil ?_))))
 exact qze hu I3 g ry rz λw' s4 I4 D=>⟨_,H3,I4,D,q3⟩
end
section
variable{X:Cx}{xC:xG}{σ:St}{H:Hp}{s:Shared}{a:Addr}{kvs:List (Key×V)}{A:Around}{E:xB}
end
section
variable{X:Cx}{xC:xG}{σ:St}{H:Hp}{s:Shared}{a:Addr}{y:V}{u:Value}{A:Around}{E:xB}
end
end L2
namespace Att
open PySem PySem.W PySem.Calls PyProof.Rows
def qet{P:Params}{h:Heap}:∀(ns:List Int) (vs:xH),WellAll P h vs (ns.map WData.int)->IntsAre vs ns:=by
 intro ns
 induction ns with
 | nil=>
  intro vs w;rw[z43]at w;cases w
  exact .nil
 | cons n ns ih=>
  intro vs w;rw[z3k]at w;cases w with
  | cons a b=>
   cases a
   exact .cons _ _ (ih _ b)
def qre{l:OpenLaw}{n:Nat}(hn:l.most=some n){P:Params}{h:Heap}{args:List WData}{J:xH}
    (D:l.row.toRowW.claim.pre args=true) (a1:WellAll P h J args):
    ∃a vs ns,J=[Value.ref a]/\args=[WData.list (ns.map WData.int)]/\h.get? a=some {cls:= .type "list",data:= .seq vs.toArray}/\IntsAre vs ns/\ns.length<=n:=by
  have a0:WShape.hasAll [] args [.list .int]=true:=(pre_splitW D).1;have hc:l.pre.holds [] {args:=args}=true:=(pre_splitW D).2;obtain⟨d,r,rfl,h1,h2⟩:=hasAllW_cons a0;obtain rfl:=hasAllW_nil h2;obtain⟨xs,rfl,h3⟩:=hasW_list h1;obtain⟨ns,rfl⟩:=items_int h3;have Z:ns.length<=n:=by
    unfold OpenLaw.pre at hc;have h4:(WTm.not (.lt (.lit (.int (n:Int))) (.len (.arg 0)))).holds [] {args:=[.list (ns.map .int)]}=true:=by
      have h4:=(holds_andW hc).1;rw[hn]at h4;exact h4
    have h5:=condW_of h4 (w_not (w_lt w_lit (w_len_list (w_arg rfl))));rw[z30]at h5;refine Nat.le_of_not_lt λq=>?_;have q':(n:Int) < ((ns.length:Nat):Int):=by lia
    first
      | (rw[z3b q']at h5;exact absurd h5 (by decide))
      | (simp at h5;lia)
  cases a1 with
  | cons w1 w2=>
    cases w2
    cases w1 with
    | list ho O=>exact⟨_,_,ns,rfl,rfl,ho,qet ns _ O,Z⟩
def qrf(l:OpenLaw)(args:List WData):l.row.toRowW.claim.post args (.bool true) args=true:=
 postW_of (r:=l.row.toRowW) (X:=(true==true))
  (show WShape.has [] (.bool true) .bool=true by first | rfl | decide | simp[WShape.has,WShape.arms,WShape.armsAll])
  (show (WTm.eq .res (.lit (.bool true))).value [] {args:=args,res:=some (.bool true),after:=args}=some (.bool (true==true)) from w_eq_bool (w_res rfl) w_lit) rfl
def qn7{l:OpenLaw}{n:Nat}{q:Program}{D:xD}{XP:(Str->Option Value)->Heap->Prop}{YP:World->Heap->Prop}{d:DefRec}
  (hn:l.most=some n) (a5:d.params.defaults=[])
  (call:∀(w:World) (s₀ J:Shared) (mg mb:xE) (fa:Addr) (o:Obj) (pm cd O:Value) (a:Addr) (vs:xH) (ns:List Int),
   Ground q D [] XP w s₀ mg mb J.heap->YP w J.heap->
   J.heap.get? fa=some o->o.data= .func (docDef d.name d.params d.body d.scope pm cd O)->J.heap.CodeRec cd d.name->mg d.name=some (.ref fa)->
   J.heap.get? a=some {cls:= .type "list",data:= .seq vs.toArray}->IntsAre vs ns->ns.length<=n->J.gens=#[]->
   codeAny (model l.prog w) callerA (.call (.ref fa) ⟨[.ref a],[]⟩) (λr s'=>r= .ok (.ret (.bool true))/\OldK J.heap s'.heap/\s'.os=J.os/\AllBare s'.gens) J):
  WalkO q D XP YP l.row.toRowW d [] (λf vs=>PySem.call f vs):=by
 intro w s₀ J mg mb G Y fa o pm cd O dV kV ho hd a4 hD a6 hg args a9 as a2 a8 hrd a7 hlo;obtain rfl:dV= .none:=Dflts.none hD a5;obtain rfl:kV= .none:=Dflts.noKw hD;obtain⟨a,vs,ns,rfl,rfl,a1,Z,a0⟩:=qre hn a2 a7;refine enter_call (z42 (call w s₀ J mg mb fa o pm cd O a vs ns G Y ho (fd_plain hd) a4 a6 a1 Z a0 hg) λr s' hq=>?_);obtain⟨rfl,h2,h3,h4⟩:=hq;exact⟨.inl ⟨.bool true,.bool true,[],rfl,λ_=>rfl,.bool true,qrf l _,λ_=>⟨List.Pairwise.nil,λ_ hm=>(nomatch hm)⟩⟩,h2,h3,h4⟩
section
variable{prog:Program}{w:World}{A:Around}{E:xB}{s:Shared}{K:Frag}
end
end Att
namespace L2
open PySem PySem.Spec PyProof.Rows
theorem qi5:∀{vs:xH} {ns:List Int},IntsAre vs ns->Vals (ns.map V.int) vs
 | _,_,.nil=> .nil
 | _,_,.cons n t h=> .cons ⟨t,rfl⟩ (qi5 h)
def Only(H:Hp):Prop:=∀b,H b=none\/ ∃o xs,H b=some (.frz o (.lst xs))
def qu5{P:Program}{w:World}{K:xA}{mg mb:xE}{CX:CXT}{k:Nat}{fa a:Addr}{fd:FuncData}{x:Str}{sp:Sp}{D:Shared}{vs:xH}{ns:List Int}
  (KX:K.In D.heap) (a5:D.heap.Ns mainGlobals mg) (O:D.heap.Ns builtinsNs mb) (a9:∀x:Str,x≠"__name__" ->mb x=bootBuiltins x) (a4:D.heap.NoLimit) (hg:D.gens=#[])
  (ha:D.heap.get? a=some {cls:= .type "list",data:= .seq vs.toArray}) (hi:IntsAre vs ns) (hl:ns.length<=sizeLine) (hr:Room k callerA)
  (F:∀base:Heap,K.In base->base.Ns mainGlobals mg->FnOk P w K mg base CX k fa fd [x] sp) (a1:∀(s:Shared) (u:Value),BindsTo s fd ⟨[u],[]⟩ [(x,u)])
  (b2:∀H:Hp,Only H->SqL K H a (ns.map V.int)->sp [.ref a] H (λv _=>v= .bl true) λ_ _ _=>False)
  (a8:∀H e s',CX [] H D (λ_ _ _=>False) e s'->False):
  codeAny (model P w) callerA (.call (.ref fa) ⟨[.ref a],[]⟩) (λr s'=>r= .ok (.ret (.bool true))/\OldK D.heap s'.heap/\s'.os=D.os/\AllBare s'.gens) D:=by
 have rv:=qi5 hi;have a7:=hi.length;have a0:∀H:Hp,Only H->SqL K H a (ns.map V.int)->HOk P w H D.heap->(∀b,H b≠none->b=a)->(H a≠none->K.lookup a=none)->
   codeAny (model P w) callerA (.call (.ref fa) ⟨[.ref a],[]⟩) (λr s'=>r= .ok (.ret (.bool true))/\OldK D.heap s'.heap/\s'.os=D.os/\AllBare s'.gens) D:=by
  intro H hO hS hok hA hK;have J:∀{b:Addr} {o:Obj},D.heap.get? b=some o->H b=none->(hidT D.heap H).get? b=some o:=λe n=>qtr e n;have b3:∀{b:Addr} {o:Obj} {es:Array DictEntry} {ep:Nat},D.heap.get? b=some o->o.data= .dict es ep->H b=none:=λ{b o es ep} e d=>by
   cases q:H b with
   | none=>rfl
   | some u=>
    have e':b=a:=hA b (by rw[q];simp);subst e';rw[ha]at e;cases e;have d':Data.seq vs.toArray _=Data.dict es ep:=d;cases d'
  have Z:∀{b:Addr} {m:xE},D.heap.Ns b m->(hidT D.heap H).Ns b m:=λ{b m} ⟨o,es,ep,e,d,r⟩=>⟨o,es,ep,J e (b3 e d),d,r⟩;have a2:K.In (hidT D.heap H):=λb o e=>J (KX b o e) (by
   cases q:H b with
   | none=>rfl
   | some u=>
    have e':b=a:=hA b (by rw[q];simp);subst e';rw[hK (by rw[q];simp)]at e;cases e)
  have hM:Mod K mg (hidT D.heap H):=⟨a2,Z a5,⟨mb,Z O,a9⟩,let ⟨mc,h1,h2⟩:=a4;⟨mc,Z h1,h2⟩⟩;have e0:Env0 P w K mg (hidT D.heap H) callerA [] D H:=⟨rfl,hM,λb o e=>qwu e,Nat.le_of_eq (qqr _ _),trivial,λb O=>absurd (show b∈([]:List Addr) from O) (by simp),hok,.of_eq hg⟩;refine z42 ((F _ a2 (Z a5)).run callerA [] D H ⟨[.ref a],[]⟩ [.ref a] [.ref a] _ _ hr e0 (a1 D (.ref a)) (.cons rfl .nil) (b2 H hO hS)) λr s' h=>?_;cases r with
  | error e=>exact(a8 H e s' h).elim
  | ok fl=>
   cases fl with
   | next=>exact False.elim h
   | brk=>exact False.elim h
   | cont=>exact False.elim h
   | ret u=>
    obtain⟨v,H',os,bare,un,a6,r',q⟩:=h;have q':v= .bl true:=q;subst q';obtain rfl:u=Value.bool true:=r';refine⟨zr,OldK.of_keep λb o e=>?_,os,bare⟩;cases q:H b with
    | none=>exact un.keep b o e q (by intro z;exact absurd (show b∈([]:List Addr) from z) (by simp)) (by simp)
    | some u=>
     rcases hO b with z | ⟨ob,xs,z⟩
     ·rw[q]at z;cases z
     ·have z2:=un.frzs b ob _ z;obtain⟨e1,_⟩:=hok b _ z;obtain⟨e2,_⟩:=a6 b _ z2;rw[e]at e1;cases e1;exact e2
 cases hk:K.lookup a with
 | some o=>
  have e:=KX a o hk;rw[ha]at e;cases e
  refine a0 (λ_=>none) (λ_=> .inl rfl) (.inr ⟨_,vs.toArray,_,hk,rfl,rfl,rfl,by rw[z23,a7];exact hl,by simpa using rv⟩) (λb u z=>by have z':(none:Option HO)=some u:=z;cases z') (λb z=>absurd rfl z) λz=>absurd rfl z
 | none=>
  refine a0 (λb=>if b=a then some (.frz {cls:= .type "list",data:= .seq vs.toArray} (.lst (ns.map V.int))) else none) (λb=>?_) (.inl (.inr ⟨{cls:= .type "list",data:= .seq vs.toArray},if_pos rfl⟩)) (λb u z=>?_) (λb z=>?_) λ_=>hk
  ·by_cases O:b=a
   ·exact .inr ⟨_,_,if_pos O⟩
   ·exact .inl (if_neg O)
  ·by_cases O:b=a
   ·have z':=(if_pos O).symm.trans z;cases z'
    subst O;exact⟨ha,by rw[z30];exact hl,vs,_,rv,ha⟩
   ·have z':=(if_neg O).symm.trans z;cases z'
  ·by_cases O:b=a
   ·exact O
   ·exact absurd (if_neg O) z
abbrev KOf{K:xA}{h:Heap}(_:K.In h):xA:=K
def qo4{l:PySem.W.OpenLaw}{n k:Nat}{q:Program}{O:xD}{XP:(Str->Option Value)->Heap->Prop}{YP:World->Heap->Prop}{d:DefRec}{K:Params->xA}{CX:World->CXT}{sp:World->Sp}{x:Str}
  (hn:l.most=some n) (a4:n<=sizeLine) (a1:d.params.defaults=[]) (hr:Room k callerA)
  (hY:∀(w:World) (h:Heap),YP w h->(K w.params).In h)
  (F:∀(w:World) (mg:xE) (fa:Addr) (h:Heap),(K w.params).In h->h.Ns mainGlobals mg->mg d.name=some (.ref fa)->
   ∃fd:FuncData,(∀(s:Shared) (u:Value),BindsTo s fd ⟨[u],[]⟩ [(x,u)])/\
    ∀base:Heap,(K w.params).In base->base.Ns mainGlobals mg->FnOk l.prog w (K w.params) mg base (CX w) k fa fd [x] (sp w))
  (a5:∀(w:World) (H:Hp) (a:Addr) (ns:List Int),ns.length<=n->Only H->SqL (K w.params) H a (ns.map V.int)->sp w [.ref a] H (λv _=>v= .bl true) λ_ _ _=>False)
  (a0:∀(w:World) (H:Hp) (s:Shared) (e:Value) (s':Shared),CX w [] H s (λ_ _ _=>False) e s'->False):
  PySem.W.WalkO q O XP YP l.row.toRowW d [] (λf vs=>PySem.call f vs):=by
 refine Att.qn7 hn a1 λw s₀ s₁ mg mb fa o pm cd doc a vs ns G Y ho hd hcd a2 Z J D hg=>?_;have KX:=hY w _ Y;obtain⟨fd,hb,hF⟩:=F w mg fa _ KX G.T.g a2;exact qu5 KX G.T.g G.T.b G.T.builtins G.T.nolimit hg Z J (z40 D a4) hr hF hb (λH hO hS=>a5 w H a ns D hO hS) λH e s'=>a0 w H s₁ e s'
def qu6{l:PySem.W.OpenLaw}{n k:Nat}{q:Program}{D:xD}{XP:(Str->Option Value)->Heap->Prop}{YP:World->Heap->Prop}{d:DefRec}{K:Params->xA}{CX:CXT}{sp:xA->Sp}{x:Str}
  (hn:l.most=some n) (Z:n<=sizeLine) (O:d.params.defaults=[]) (hr:Room k callerA)
  (hY:∀(w:World) (h:Heap),YP w h->(K w.params).In h)
  (F:∀(w:World) (mg:xE) (fa:Addr) (h:Heap),(K w.params).In h->h.Ns mainGlobals mg->mg d.name=some (.ref fa)->
   ∃fd:FuncData,(∀(s:Shared) (u:Value),BindsTo s fd ⟨[u],[]⟩ [(x,u)])/\
    ∀base:Heap,(K w.params).In base->base.Ns mainGlobals mg->FnOk l.prog w (K w.params) mg base CX k fa fd [x] (sp (K w.params)))
  (a0:∀(K:xA) (H:Hp) (a:Addr) (ns:List Int),ns.length<=n->Only H->SqL K H a (ns.map V.int)->sp K [.ref a] H (λv _=>v= .bl true) λ_ _ _=>False)
  (J:∀(H:Hp) (s:Shared) (e:Value) (s':Shared),CX [] H s (λ_ _ _=>False) e s'->False):
  PySem.W.WalkO q D XP YP l.row.toRowW d [] (λf vs=>PySem.call f vs):=
 qo4 (K:=K) (CX:=λ_=>CX) (sp:=λw=>sp (K w.params)) hn Z O hr hY F (λw H a ns h1 h2 h3=>a0 (K w.params) H a ns h1 h2 h3) λ_ H s e s'=>J H s e s'
end L2
namespace L2
open PySem PySem.Spec PyProof.Rows
def q15(s:Stmt)(j:Nat):Stmt:=match s with
 | .ClassDef _ _ _ body _ _ _ _ _ _ _=>body.getD j (.Pass ⟨0,0,0,0⟩)
 | _=> .Pass ⟨0,0,0,0⟩
def q1z(s:Stmt):Arguments:=match s with
 | .FunctionDef _ a _ _ _ _ _ _ _ _=>a
 | _=>{posonlyargs:=[],args:=[],vararg:=none,kwonlyargs:=[],kw_defaults:=[],kwarg:=none,defaults:=[]}
def q1k(s:Stmt):List Stmt:=match s with
 | .FunctionDef _ _ b _ _ _ _ _ _ _=>b
 | _=>[]
def qd(s:Stmt):Scope:=match s with
 | .FunctionDef _ _ _ _ _ _ sc _ _ _=>sc
 | _=>{kind:= .function,names:=[],isGenerator:=false,isCoroutine:=false}
abbrev CX0:CXT:=λ_ _ _ _ _ _=>False
abbrev E0:XK:=λ_ _ _=>False
def qc3{X:Cx}:q7o CX0 X E0:=λ_ _ _ _ _ _ _ h=>h.elim
structure Fun (K:xA) (x qual:Str) (st:Stmt) (f:Addr) (fd:FuncData):Prop where
 ex:∃(oc:Value) (od:Option Addr) (kV doc pm:Value) (an:Option Addr) (cdv ct:Value) (osl:Array (Option Value)),
  fd=PySem.W.fnOf x qual (q1z st) (q1k st) (qd st) .none kV doc pm an cdv ct/\K.lookup f=some ⟨oc,od,.func fd,osl⟩/\PySem.W.codeIn K cdv qual=true
 kp:PySem.W.keepIn K (.ref f)=true
section
variable{P:Program}{w:World}{K:xA}{mg:xE}{base:Heap}
def Fun.ok{x qual:Str}{st:Stmt}{f:Addr}{fd:FuncData}{N ps:xD}{k:Nat}{sp:Sp}(F:Fun K x qual st f fd)(S:FnScope N ps (qd st))(len:∀vs H Q E,sp vs H Q E->vs.length=ps.length)
  (D:∀(cdv:Value) (A:Around) (outer:List Env) (s:Shared) (H:Hp) (vs:List V) (Q:VK) (E:XK),Room k (A.deeper (envOfC qual (qd st) s.heap.objs.size f cdv))->sp vs H Q E->
   ∃t,PSs (cxOf CX0 P w K mg base N qual (qd st) f cdv A outer s H E).nox (q1k st) t/\t {nx:=λ_ H'=>Q .non H',rt:=Q} (start N vs) H):FnOk P w K mg base CX0 (k+1) f fd ps sp:=by
 obtain⟨oc,od,kV,doc,pm,an,cdv,ct,osl,rfl,lk,J⟩:=F.ex;refine qwb lk J S len λA outer s H vs Q E hr O=>?_;obtain⟨t,h,q⟩:=D cdv A outer s H vs Q E hr O;exact⟨t,h.nox,q⟩
def qrg{x qual:Str}{st:Stmt}{f:Addr}{oc:Value}{od O:Option Addr}{J:Array (Option Value)}{kV D Z cdv ct:Value}(l:K.lookup f=some ⟨oc,od,.func (PySem.W.fnOf x qual (q1z st) (q1k st) (qd st) .none kV D Z O cdv ct),J⟩)
  (c:PySem.W.codeIn K cdv qual=true) (k:PySem.W.keepIn K (.ref f)=true):Fun K x qual st f (PySem.W.fnOf x qual (q1z st) (q1k st) (qd st) .none kV D Z O cdv ct):=⟨⟨oc,od,kV,D,Z,O,cdv,ct,J,rfl,l,c⟩,k⟩
end
def q33{A:Around}{k:Nat}(hr:Room k A):A.units+1 < cLine:=Nat.lt_of_le_of_lt (Nat.add_le_add_left (by decide:1<=64) _) hr.units
def q1l{n:Nat}(h:n<=1000):n < sizeLine:=Nat.lt_of_le_of_lt h (by decide)
section
variable{X:Cx}
def pv(i:Nat){x:Str}{pos:Pos}(hN:X.N[i]? =some x:=by rfl)(hv:Vis X.env.scope x:=by first | exact Or.inl rfl | exact Or.inr (Or.inl rfl) | exact Or.inr (Or.inr rfl))(hd:(x==("__debug__":Str))=false:=by decide)
  (D:(x==("__classdict__":Str))=false:=by decide):PE X (.Name x pos) (tVar i):=qz4 hN hv hd D
end
def iteF{A B:Prop}(h:B):if false=true then A else B:=by
 rw[if_neg z1l];exact h
def iteT{A B:Prop}(h:A):if true=true then A else B:=by
 rw[if_pos rfl];exact h
def ite2{c A B:Prop}[Decidable c](h1:c->A)(h2:¬ c->B):if c then A else B:=by
 by_cases h:c
 ·rw[if_pos h];exact h1 h
 ·rw[if_neg h];exact h2 h
def Same(H H':Hp):Prop:=∀b o,H b=some o->H' b=some o
def Same.refl(H:Hp):Same H H:=λ_ _ h=>h
def Same.trans{H H1 H2:Hp}(a:Same H H1)(b:Same H1 H2):Same H H2:=λc o h=>b c o (a c o h)
def Same.free{H H':Hp}(e:Same H H'){l:Addr}(h:H' l=Option.none):H l=Option.none:=by
 cases q:H l with
 | none=>rfl
 | some o=>
  rw[e l o q]at h;cases h
def Same.seq{K:xA}{H H':Hp}{a:Addr}{xs:List V}(e:Same H H')(h:SqL K H a xs):SqL K H' a xs:=by
 rcases h with (h | ⟨o,h⟩) | h
 ·exact .inl (.inl (e _ _ h))
 ·exact .inl (.inr ⟨o,e _ _ h⟩)
 ·exact .inr h
section
variable{X:Cx}
def qi6:q2b X (.builtin "len") (λxs H Q=>∃a kvs,xs=[V.ref a]/\H a=some (.dK kvs)/\Q (.int kvs.length) H):=by
 intro xC s σ H xs us Q I r h;obtain⟨a,kvs,rfl,ha,q⟩:=h;obtain⟨u,rfl,ru⟩:=q2k r;cases ru
 exact q11f I (.inl ha) λt s' I'=>⟨.int kvs.length,H,I',⟨t,zr⟩,q⟩
end
section
variable{κ:Type}[DecidableEq κ]
theorem qgc:∀{l:List κ} {k:κ},l.Nodup->¬ k∈l->(l++ [k]).Nodup
 | [],k,_,_=>by simp
 | a::r,k,h,hk=>by
  obtain⟨h1,h2⟩:=z32.mp h;show (a::(r++ [k])).Nodup;refine z32.mpr ⟨λm=>?_,qgc h2 λm=>hk (z3m.mpr (Or.inr m))⟩;rcases z2u.mp m with q | q
  ·exact h1 q
  ·exact hk (z3m.mpr (Or.inl (z1m.mp q).symm))
end
def qgd{β:Type}{x n:Str}{b c:β}{l:List (Str×β)}(h:((n,b)::l).lookup x=some c):(x=n/\b=c)\/ l.lookup x=some c:=by
 rw[List.lookup_cons]at h;cases e:x==n with
 | true=>
  rw[e]at h;exact .inl ⟨eq_of_beq e,Option.some.inj h⟩
 | false=>
  rw[e]at h;exact .inr h
def qdg{β:Type}{x n:Str}{b:β}{l:List (Str×β)}(h:x=n\/ ∃c,l.lookup x=some c):∃c,((n,b)::l).lookup x=some c:=by
 rw[List.lookup_cons];cases e:x==n with
 | true=>exact⟨b,rfl⟩
 | false=>
  rcases h with h | h
  ·subst h;simp at e
  ·exact h
theorem q9n{env:Env}:∀(names:List (Str×NameKind)) (acc:List (Str×Addr)),(∀y∈names,y.2= .free->∃c,env.cells.lookup y.1=some c)->
    (∀x c,acc.lookup x=some c->env.cells.lookup x=some c)->
    ∃cl,(forIn names acc (λx r=>if (x.2==NameKind.free)=true then (cellOf env x.1 >>=λc=>pure (ForInStep.yield ((x.1,c)::r))) else pure (ForInStep.yield r)):Sem (List (Str×Addr)))=pure cl/\
      (∀x c,cl.lookup x=some c->env.cells.lookup x=some c)/\(∀y∈names,y.2= .free->∃c,cl.lookup y.1=some c)/\(∀x c,acc.lookup x=some c->∃D,cl.lookup x=some D)
  | [],acc,_,h=>⟨acc,rfl,h,(λ_ z=>nomatch z),λx c e=>⟨c,e⟩⟩
  | (n,k)::r,acc,hn,h=>by
    rw[List.forIn_cons];by_cases hk:k= .free
    · subst hk
      obtain⟨c,Z⟩:=hn (n,.free) z1p rfl;have e1:(cellOf env n:Sem Addr)=pure c:=by
        have O:env.cells.lookup n=some c:=Z;unfold cellOf;rw[O]
      obtain⟨cl,e,h1,h2,J⟩:=q9n r ((n,c)::acc) (λy hy=>hn y (z16 _ hy)) (λx D e=>by
        rcases qgd e with ⟨e1,e2⟩ | e
        · subst e1;subst e2;exact Z
        · exact h x D e)
      refine⟨cl,?_,h1,?_,λx D e=>?_⟩
      · show ((if ((n,NameKind.free).2==NameKind.free)=true then (cellOf env n >>=λc=>pure (ForInStep.yield ((n,c)::acc))) else pure (ForInStep.yield acc)) >>=_)=_
        rw[if_pos (show ((n,NameKind.free).2==NameKind.free)=true from rfl),e1];exact e
      · intro y hy hf
        rcases z3m.mp hy with rfl | hy
        · exact J n c (by simp)
        · exact h2 y hy hf
      · obtain⟨c2,e2⟩:=qdg (n:=n) (b:=c) (.inr ⟨D,e⟩)
        exact J x c2 e2
    · obtain⟨cl,e,h1,h2,J⟩:=q9n r acc (λy hy=>hn y (z16 _ hy)) h
      refine⟨cl,?_,h1,?_,J⟩
      · show ((if ((n,k).2==NameKind.free)=true then (cellOf env n >>=λc=>pure (ForInStep.yield ((n,c)::acc))) else pure (ForInStep.yield acc)) >>=_)=_
        rw[if_neg (by simpa using hk)];exact e
      · intro y hy hf
        rcases z3m.mp hy with rfl | hy
        · exact absurd hf hk
        · exact h2 y hy hf
def qo5{scope:Scope}{env:Env}(h:∀y∈scope.names,y.2= .free->∃c,env.cells.lookup y.1=some c):
  ∃cl,closureFor scope env=pure cl/\(∀x c,cl.lookup x=some c->env.cells.lookup x=some c)/\(∀y∈scope.names,y.2= .free->∃c,cl.lookup y.1=some c):=by
 obtain⟨cl,e,h1,h2,_⟩:=q9n scope.names [] h (λx c e=>by simp at e);refine⟨cl,?_,h1,h2⟩;unfold closureFor;show ((forIn scope.names [] (λx r=>if (x.2==NameKind.free)=true then (cellOf env x.1 >>=λc=>pure (ForInStep.yield ((x.1,c)::r))) else pure (ForInStep.yield r)):Sem (List (Str×Addr))) >>=λr=>pure r)=_;rw[e];rfl
def relK(env:Env)(x:Str)(k:NameKind):NameKind:=if (k== .free&&env.scope.kind== .function&&env.kindOf x==some .cell)=true then .cell else k
theorem q95{env:Env}{x:Str}:∀(names:List (Str×NameKind)),
    (names.map λ(n,k)=>if (k==NameKind.free&&env.scope.kind== .function&&env.kindOf n==some .cell)=true then (n,NameKind.cell) else (n,k)).lookup x=(names.lookup x).map (relK env x)
  | []=>rfl
  | (n,k)::r=>by
    have ih:=q95 (env:=env) (x:=x) r;have e:(if (k==NameKind.free&&env.scope.kind== .function&&env.kindOf n==some .cell)=true then (n,NameKind.cell) else (n,k))=(n,relK env n k):=by
      unfold relK;split <;> rfl
    show List.lookup x ((if (k==NameKind.free&&env.scope.kind== .function&&env.kindOf n==some .cell)=true then (n,NameKind.cell) else (n,k))::_)=_;rw[e,List.lookup_cons,List.lookup_cons];cases hx:x==n with
    | true=>
      have:=eq_of_beq hx;subst this;rfl
    | false=>exact ih
def qcv{scope:Scope}{cl:List (Str×Addr)}{C:Addr}{env:Env}{x:Str}:(compEnvC scope cl C env).kindOf x=(scope.names.lookup x).map (relK env x):=q95 (env:=env) (x:=x) scope.names
def qrh{env:Env}{x:Str}:relK env x .free= .cell\/ relK env x .free= .free:=by
 unfold relK;split
 ·exact .inl rfl
 ·exact .inr rfl
def qxj{env:Env}{x:Str}{k:NameKind}(h:relK env x k= .cell\/ relK env x k= .free):k= .cell\/ k= .free:=by
 unfold relK at h;split at h
 ·rename_i z;simp only[z2m,beq_iff_eq]at z;exact .inr z.1.1
 ·exact h
def capt(caps:List (Option Nat))(σ:St):St:=caps.map λo=>match o with
 | none=>none
 | some j=>(σ[j]?).join
def qeu(oN:xD)(osc:Scope)(N:xD)(caps:List (Option Nat))(sc:Scope):Bool:=
 (sc.kind== .function)&&decide N.Nodup&&(N.length==caps.length)&&sc.names.all (λy=> !(y.2== .cell))&&
 sc.names.all (λy=> !(y.2== .local) || sc.names.lookup y.1==some .local)&&
 sc.names.all (λy=> !(y.2== .free) || (osc.names.lookup y.1==some .cell || osc.names.lookup y.1==some .free))&&
 (N.zip caps).all (λp=>match p.2 with
  | none=>true
  | some j=>oN[j]? ==some p.1&&sc.names.lookup p.1==some .free)
structure CompOk (oN:xD) (osc:Scope) (N:xD) (caps:List (Option Nat)) (sc:Scope):Prop where
 kind:sc.kind= .function
 nd:N.Nodup
 len:N.length=caps.length
 nocell:∀y∈sc.names,y.2≠ .cell
 loc:∀y∈sc.names,y.2= .local->sc.names.lookup y.1=some .local
 fr:∀y∈sc.names,y.2= .free->osc.names.lookup y.1=some .cell\/ osc.names.lookup y.1=some .free
 cap:∀(i j:Nat) (x:Str),N[i]? =some x->caps[i]? =some (some j)->oN[j]? =some x/\sc.names.lookup x=some .free
def qi7{J:xD}{D:Scope}{N:xD}{caps:List (Option Nat)}{O:Scope}(h:qeu J D N caps O=true):CompOk J D N caps O:=by
  unfold qeu at h;simp only[z2m,z2n,decide_eq_true_eq,beq_iff_eq,Bool.or_eq_true,Bool.not_eq_true',beq_eq_false_iff_ne,ne_eq]at h;obtain⟨⟨⟨⟨⟨⟨h1,h2⟩,h3⟩,h4⟩,h5⟩,h6⟩,h7⟩:=h;refine⟨h1,h2,h3,h4,λy hy e=>?_,λy hy e=>?_,λi j x hi hj=>?_⟩
  · rcases h5 y hy with z | z
    · exact absurd e z
    · exact z
  · rcases h6 y hy with z | z
    · exact absurd e z
    · exact z
  · have hm:(x,some j)∈N.zip caps:=by
      refine z18 (i:=i) ?_;rw[List.getElem?_zip_eq_some];exact⟨hi,hj⟩
    have:=h7 _ hm
    simpa using this
def q3u(X:Cx)(N:xD)(scope:Scope)(cl:List (Str×Addr))(C:Addr)(fp:List Addr)(s:Shared)(H:Hp):Cx:=
 {X with N:=N,s₀:=s,H₀:=H,env:=compEnvC scope cl C X.env,outer:=X.stack,ex:=fp,fn:=λ_=>false,pn:=[],xe:=λ_ _=>False}
section
variable{X:Cx}{xC:xG}{σ:St}{H:Hp}{s:Shared}{N:xD}{caps:List (Option Nat)}{scope:Scope}{cl:List (Str×Addr)}{fp:List Addr}
def qu7(I:Inv X xC σ H s)(hf:∀b∈fp,FpOk X xC H b)(ho:∀b∈fp,∃o,s.heap.get? b=some o)(S:CompOk X.N X.env.scope N caps scope)
    (c1:∀x c,cl.lookup x=some c->X.env.cells.lookup x=some c) (c2:∀y∈scope.names,y.2= .free->∃c,cl.lookup y.1=some c)
    {h':Heap} {m:xE} {tk:Nat} (hn:h'.Ns s.heap.objs.size m) (hk:∀b u,s.heap.get? b=some u->h'.get? b=some u):
    Inv (q3u X N scope cl s.heap.objs.size fp s H) [] (capt caps σ) H {s with heap:=h',toks:=tk}:=by
  have a2:∀b∈fp,b∉frs X.stack:=λb hb z=>by
    obtain⟨_,f1,f2,_⟩:=hf b hb;rcases z3m.mp (I.stkSub b z) with e | e
    · exact f1 e
    · exact f2 e
  have O:∀x,scope.names.lookup x=some .free->∃c,cl.lookup x=some c:=λx e=>c2 (x,.free) (z1d e) rfl;refine⟨⟨I.ok.mod,S.kind,I.ok.glob,I.ok.blt,z47 _,λx y c e1 e2=>I.ok.inj x y c (c1 x c e1) (c1 y c e2),λx hx=>?_,λx c z _=>absurd (show false=true from z) (by decide),I.ok.hd,I.ok.frames,.inl rfl,
    λb hb=>⟨?_,λx c e=>(hf b hb).2.2.2.2.1 x c (c1 x c e)⟩,I.bs,z40 I.ok.bsz I.sz,λb o e hb=>?_,a2,I.stack,I.stkFree⟩,
    rfl,I.bare,Un.kept hk,⟨m,hn,λi x v e1 e2 e3=>?_⟩,λx c e=>?_,I.hok.fresh (z47 _),λx c e=>I.freeC x c (c1 x c e),λp hp=>absurd (show p∈([]:xG) from hp) (by simp),I.hok.kept hk,?_⟩
  · have D:(scope.names.lookup x).map (relK X.env x)=some .cell\/ (scope.names.lookup x).map (relK X.env x)=some .free:=by
      rw[<- qcv (cl:=cl) (C:=s.heap.objs.size)];exact hx
    cases e:scope.names.lookup x with
    | none=>
      rw[e]at D;rcases D with z | z <;> cases z
    | some k=>
      rw[e]at D;have z:relK X.env x k= .cell\/ relK X.env x k= .free:=by
        rcases D with z | z
        · exact .inl (Option.some.inj z)
        · exact .inr (Option.some.inj z)
      rcases qxj z with z | z
      · subst z
        exact absurd rfl (S.nocell _ (z1d e))
      · subst z
        exact O x e
  · obtain⟨o,e⟩:=ho b hb
    exact z3z (z3y e)
  · obtain⟨_,_,_,f3,_⟩:=hf b hb
    rcases f3 with z | z
    · exact I.ok.noex b o e z
    · exact absurd (z1r (z3y e) (z40 I.ok.bsz z)) (z3o _)
  · have hi:i < caps.length:=by
      unfold capt at e2;obtain⟨h1,_⟩:=z07.mp e2
      simpa using h1
    have J:(capt caps σ)[i]? =(caps[i]?).map λo=>match o with
        | none=>none
        | some j=>(σ[j]?).join:=by
      unfold capt;rw[z22]
    rw[e2]at J;cases q:caps[i]? with
    | none=>
      rw[q]at J;cases J
    | some o=>
      rw[q]at J;cases o with
      | none=>
        cases (Option.some.inj J)
      | some j=>
        have ej:σ[j]? =some (some v):=by
          have z:some v=(σ[j]?).join:=Option.some.inj J;cases q2:σ[j]? with
          | none=>rw[q2]at z;cases z
          | some w=>rw[q2]at z;exact congrArg some z.symm
        obtain⟨n1,n2⟩:=S.cap i j x e1 q;have a1:X.env.kindOf x=some .cell\/ X.env.kindOf x=some .free:=S.fr (x,.free) (z1d n2) rfl;obtain⟨m0,_,hl⟩:=I.loc;obtain⟨u,r,l⟩:=hl j x v n1 ej (.inr a1);refine⟨u,r,?_⟩;rcases l with ⟨k,_⟩ | ⟨_,c,J,z⟩
        · rw[k]at a1
          rcases a1 with z | z <;> cases z
        · obtain⟨c',e'⟩:=O x n2
          have:c'=c:=Option.some.inj ((c1 x c' e').symm.trans J);subst this;refine .inr ⟨?_,c',e',?_⟩
          · have kk:(compEnvC scope cl s.heap.objs.size X.env).kindOf x=some (relK X.env x .free):=by rw[qcv,n2];rfl
            rcases qrh (env:=X.env) (x:=x) with z | z
            · rw[z]at kk;exact .inl kk
            · rw[z]at kk;exact .inr kk
          · obtain⟨o,Z,a0⟩:=z
            exact⟨o,hk _ _ Z,a0⟩
  · obtain⟨v,o,Z,a0⟩:=I.cell x c (c1 x c e)
    exact⟨v,o,hk _ _ Z,a0⟩
  · show (capt caps σ).length=N.length
    unfold capt;rw[z30];exact S.len.symm
end
def PF(X:Cx)(ifs:List Expr)(t:TT):Prop:=
 ∀(xC:xG) (s:Shared) (σ:St) (H:Hp) (Q:Bool->Hp->Prop),Inv X xC σ H s->t σ H Q->
  wpAny (model X.prog X.w) X.A (forIn ifs true λc r=>if r=true then do let ok <- isTrue c X.env (eval c X.env);pure (ForInStep.yield ok) else pure (ForInStep.yield r)) (TP X xC σ Q) X.xe s
def tYes:TT:=λ_ H Q=>Q true H
section
variable{X:Cx}
def q2u:PF X [] tYes:=λ_ _ _ H _ I h=>z4d ⟨H,I,h⟩
def qaz{c:Expr}{t:TT}(hc:PT X c t):PF X [c] t:=by
 intro xC s σ H Q I h;rw[List.forIn_cons];refine z4e ?_;rw[if_pos rfl];refine z4e (thn (hc xC s σ H Q I h) λok s1 q=>z4d ?_);exact z4d q
end
def ql5{prog:Program}{w:World}{A:Around}{R:Result->Shared->Prop}{s:Shared}{elt D iter:Expr}{ifs:List Expr}{scope:Scope}{pos:Pos}{it acc:Value}{env:Env}(I:Nat->Shared->Prop)
  (turn:∀n s,I n s->wpAny (model prog w) A (pyNext it) (λr Z=>match r with
   | none=>R (.ok .next) Z
   | some v=>wpAny (model prog w) A (letOwnedTupleGo D it v) (λ_ J=>wpAny (model prog w) A (assign D env v) (λ_ s₂=>
     wpAny (model prog w) A (forIn ifs true λc r=>if r=true then do let ok <- isTrue c env (eval c env);pure (ForInStep.yield ok) else pure (ForInStep.yield r)) (λok s₃=>
      if ok=true then wpAny (model prog w) A (eval elt env) (λx s₄=>
       wpAny (model prog w) A (call (.builtin "list.append") [acc,x]) (λ_ s₅=>∃m,m < n/\I m s₅) (λ_ _=>False) s₄) (λ_ _=>False) s₃
      else ∃m,m < n/\I m s₃) (λ_ _=>False) s₂) (λ_ _=>False) J) (λ_ _=>False) Z) (λ_ _=>False) s)
  (n:Nat) (h:I n s):
  codeAny (model prog w) A (.compLoop (.ListComp elt [⟨D,iter,ifs,0⟩] scope pos) 0 it acc env) R s:=by
 refine codeAny_loop rfl I (λn s hI=>?_) n h;show wpAny _ A ((compTurn (.ListComp elt [⟨D,iter,ifs,0⟩] scope pos) 0 it acc env).onRaise (λx=>do noteFrame x env;theTreesLotGoes x)) _ _ s;refine wpAny_noted ?_;rw[compTurn_list];refine z4e (wpAny_standAt (z4e (z4f (turn n s hI) (λr Z h₁=>?_) λ_ _ z=>False.elim z)));cases r with
 | none=>exact z4d h₁
 | some v=>
  refine z4e (z4f h₁ (λ_ J O=>?_) λ_ _ z=>False.elim z);refine z4e (z4f O (λ_ s₂ h₂=>z4e (z4f h₂ (λok s₃ h₃=>?_) λ_ _ z=>False.elim z)) λ_ _ z=>False.elim z);cases ok with
  | false=>exact z4d ⟨rfl,h₃⟩
  | true=>
   exact z4e (z4e (z4f h₃ (λx s₄ h₄=>z4e (z4f h₄ (λ_ s₅ h₅=>z4d (z4d ⟨zr,h₅⟩)) λ_ _ z=>False.elim z)) λ_ _ z=>False.elim z))
def qwe(J:It)(g:TG)(tf:TT)(te:TE)(D:Addr)(QE:Hp->Prop)(W:Nat->Nat->St->Hp->Prop):Prop:=∀i m σ H,W i m σ H->
 (J.stop i H/\QE H)\/ (J.go i H/\∃N:St->Hp->Prop,(∀σ' H',N σ' H'->∃m',m' < m/\W (i+1) m' σ' H')/\∀x H',J.yld i H x H'->g x σ H' λσ2 H2=>tf σ2 H2 λb H3=>
  if b=true then te σ2 H3 λv H4=>∃xs,H4 D=some (.lst xs)/\xs.length < sizeLine/\N σ2 (upd H4 D (.lst (xs++ [v]))) else N σ2 H3)
def qpc(caps:List (Option Nat))(wi:TI)(g:TG)(tf:TT)(te:TE):TE:=λσ H Q=>wi σ H λJ H1=>∀D,H1 D=none->
 ∃W:Nat->Nat->St->Hp->Prop,(∃m,W 0 m (capt caps σ) (upd H1 D (.lst [])))/\qwe J g tf te D (λH'=>Q (.ref D) H') W
section
variable{X:Cx}{xC:xG}{σ:St}{H:Hp}{s:Shared}{N:xD}{caps:List (Option Nat)}{scope:Scope}{elt tg iter:Expr}{ifs:List Expr}{wi:TI}{g:TG}{tf:TT}{te:TE}{pos:Pos}
def qi8{RR:Value->Addr->Result->Shared->Prop}{cl:List (Str×Addr)}{Q:VK}(hc:X.calm=true)(S:CompOk X.N X.env.scope N caps scope)(hi:PI X tg iter wi)
  (hg:∀cl C fp s H,PG (q3u X N scope cl C fp s H) tg g) (hf:∀cl C fp s H,PF (q3u X N scope cl C fp s H) ifs tf) (he:∀cl C fp s H,PE (q3u X N scope cl C fp s H) elt te)
  (c1:∀x c,cl.lookup x=some c->X.env.cells.lookup x=some c) (c2:∀y∈scope.names,y.2= .free->∃c,cl.lookup y.1=some c)
  (I:Inv X xC σ H s) (h:qpc caps wi g tf te σ H Q)
  (fin:∀(D C:Addr) (m:xE) (H5:Hp) (s5:Shared),Inv X xC σ H5 s5->s5.heap.Ns C m->FpOk X xC H5 C->Q (.ref D) H5->RR (.ref D) C (.ok .next) s5):
  wpAny (model X.prog X.w) X.A (eval iter X.env) (λx s₁=>wpAny (model X.prog X.w) X.A (pyIter x) (λit s₂=>wpAny (model X.prog X.w) X.A (newList []) (λacc s₃=>
   wpAny (model X.prog X.w) X.A (newFunctionEnv scope X.env.globals cl [] X.env.qual none .none (some X.env)) (λa2 s₄=>
    codeAny (model X.prog X.w) X.A (.compStart (.ListComp elt [⟨tg,iter,ifs,0⟩] scope pos) 0 it acc {a2 with scope:=relabel scope X.env}) (RR acc a2.locals) s₄) X.xe s₃) X.xe s₂) X.xe s₁) X.xe s:=by
 refine thn (hi xC s σ H _ I h) λv s1 h1=>thn h1 λitv s2 h2=>?_;obtain⟨it,fp,tn,J,H2,e,I2,T,b2,f2,q⟩:=h2;subst e;have nD:H2 s2.heap.objs.size=none:=I2.hok.fresh (z47 _);obtain⟨W,⟨m0,w0⟩,turn⟩:=q s2.heap.objs.size nD;refine z28 ?_;have I3:Inv X xC σ (upd H2 s2.heap.objs.size (.lst [])) {s2 with heap:=s2.heap.push {cls:= .type "list",data:= .seq ([]:xH).toArray}}:=
  I2.laid (t':=s2.toks) (o:= .lst []) (λb ob e=>z0o _ e) (z47 _) ⟨z4a _,[],0,.nil,z1c _ rfl⟩
 have a9:∀b∈fp,∃o,s2.heap.get? b=some o:=λb Z=>let ⟨o,e,_⟩:=T.obj 0 s2.heap b2 b Z;⟨o,e⟩
 have c0:∀b∈fp,b≠s2.heap.objs.size:=λb Z=>let ⟨o,e⟩:=a9 b Z;z3z (z3y e)
 generalize b9:({s2 with heap:=s2.heap.push {cls:= .type "list",data:= .seq ([]:xH).toArray}}:Shared)=s3 at I3;have eh:s3.heap=s2.heap.push {cls:= .type "list",data:= .seq ([]:xH).toArray}:=by rw[<- b9]
 generalize hD:s2.heap.objs.size=D at*;generalize b7:upd H2 D (.lst [])=H3 at I3 w0;have f3:∀b∈fp,FpOk X xC H3 b:=λb Z=>⟨by rw[<- b7,qi (c0 b Z)];exact(f2 b Z).1,(f2 b Z).2⟩;have c4:∀b∈fp,∃o,s3.heap.get? b=some o:=λb Z=>let ⟨o,e⟩:=a9 b Z;⟨o,by rw[eh];exact z0o _ e⟩
 have c5:tn 0 s3.heap:=T.keep 0 _ _ b2 λb Z o e=>by rw[eh];exact z0o _ e
 show wpAny (model X.prog X.w) X.A (newFunctionEnv scope X.env.globals cl [] X.env.qual none .none (some X.env)) _ X.xe s3;refine wpAny_newFunctionEnv S.nocell (by intro y hy;simp at hy) (λh₁ a7 a8=>?_) S.kind;have k1:∀b u,s3.heap.get? b=some u->h₁.get? b=some u:=λb u e=>a8.extBut b u (z3z (z3y e)) (z0o _ e);have J0:=qu7 (tk:=s3.toks+([]:List (Str×Value)).length) I3 f3 c4 S c1 c2 a7 k1;generalize hC:s3.heap.objs.size=C at*;generalize O:q3u X N scope cl C fp s3 H3=X' at J0;have a0:tn 0 h₁:=T.keep 0 _ _ c5 λb Z o e=>k1 b o e;have a1:∀{H':Hp},(∀b∈fp,H' b=none)->∀b∈fp,FpOk X' [] H' b:=λ{H'} hn b Z=>by
  subst O;exact⟨hn b Z,(J0.ok.exf b Z).1,J0.ok.exfs b Z,.inl Z,(J0.ok.exf b Z).2,λp hp=>absurd (show p∈([]:xG) from hp) (by simp)⟩
 have loop:∀s4:Shared,s4={s3 with heap:=h₁,toks:=s3.toks+([]:List (Str×Value)).length}->
   codeAny (model X.prog X.w) X.A (.compLoop (.ListComp elt [⟨tg,iter,ifs,0⟩] scope pos) 0 (.ref it) (.ref D) (compEnvC scope cl C X.env)) (RR (.ref D) C) s4:=by
  rintro s4 rfl;refine ql5 (λn s'=>∃i σ' H',Inv X' [] σ' H' s'/\tn i s'.heap/\(∀b∈fp,H' b=none)/\W i n σ' H') ?_ m0 ⟨0,_,H3,J0,a0,λb Z=>(f3 b Z).1,w0⟩;rintro n s4 ⟨i,σ4,H4,J4,a0,a6,w4⟩;rcases turn i n σ4 H4 w4 with ⟨stop,qn⟩ | ⟨go,Nn,b8,step⟩
  ·have d:=T.done X' (by subst O;rfl) (by subst O;rfl) (by subst O;rfl) (by subst O;exact hc) i [] s4 σ4 H4 (λ_ _=>False) J4 (a1 a6) a0 stop;have eA:X'.A=X.A:=by subst O;rfl
   rw[eA]at d;refine z4f d (λr s5 hr=>?_) λ_ _ z=>z;obtain⟨hr,J5⟩:=hr;subst hr;have I5:Inv X xC σ H4 s5:=by
    subst O;exact I3.call' J5.os J5.base J5.hok J5.bare λb Z=>⟨(f3 b Z).2.2.2.1,(f3 b Z).2.1,(f3 b Z).2.2.2.2.1,(f3 b Z).2.2.2.2.2⟩
   obtain⟨m,hn,_⟩:=J5.loc;have fr:=J5.free;subst O;exact fin D C m H4 s5 I5 hn (I3.fpOk (b:=C) (Nat.le_of_eq hC) fr) qn
  ·have d:=T.item X' (by subst O;rfl) (by subst O;rfl) (by subst O;rfl) (by subst O;exact hc) i [] s4 σ4 H4 (λ_ _=>False) J4 (a1 a6) a0 go;have eA:X'.A=X.A:=by subst O;rfl
   rw[eA]at d;refine z4f d (λr s5 hr=>?_) λ_ _ z=>z;obtain⟨u,hr,h5⟩:=hr;subst hr;refine z4f h5 (λ_ s6 q6=>?_) λ_ _ z=>z;obtain⟨x,H6,J6,r6,y6,a5,b5⟩:=q6;have b4:=J6.pinned (a1 b5) (T.obj _ _ a5);have again:∀{H9:Hp} {s9:Shared} {σ9:St},Inv X' ([]++qaw fp s6.heap) σ9 H9 s9->Nn σ9 H9->∃m,m < n/\∃i σ' H',Inv X' [] σ' H' s9/\tn i s9.heap/\(∀b∈fp,H' b=none)/\W i m σ' H':=λ{H9 s9 σ9} J9 q9=>by
    obtain⟨m',hm,w9⟩:=b8 σ9 H9 q9;refine⟨m',hm,i+1,σ9,H9,J9.unpinned,T.keep _ _ _ a5 λb Z o e=>(J9.pin (b,o) (z0w _ (z0w _ (q5c Z e)))).1,λb Z=>?_,w9⟩;obtain⟨o,e,d⟩:=T.obj _ _ a5 b Z;exact(J9.pin (b,o) (z0w _ (z0w _ (q5c Z e)))).2.1
   subst O;refine z4f (hg cl C fp s3 H3 _ s6 σ4 H6 x u _ b4 r6 (step x H6 y6)) (λ_ s7 q7=>?_) λ_ _ z=>z;obtain⟨σ7,H7,J7,q7⟩:=q7;refine z4f (hf cl C fp s3 H3 _ s7 σ7 H7 _ J7 q7) (λok s8 q8=>?_) λ_ _ z=>z;obtain⟨H8,J8,q8⟩:=q8;cases ok with
   | false=>
    rw[if_neg (by decide)]at q8;rw[if_neg (by decide)];exact again J8 q8
   | true=>
    rw[if_pos rfl]at q8;rw[if_pos rfl];refine z4f (he cl C fp s3 H3 _ s8 σ7 H8 _ J8 q8) (λv9 s9 q9=>?_) λ_ _ z=>z;obtain⟨y,H9,J9,r9,xs,b6,hz,q9⟩:=q9;refine z4f (q2w (X:=q3u X N scope cl C fp s3 H3) _ s9 σ7 H9 (.ref D) [y] (.ref D) [v9] (λ_ H'=>Nn σ7 H') J9 rfl (.cons r9 .nil) ⟨D,xs,y,zr,zr,b6,hz,q9⟩) (λ_ s10 a4=>?_) λ_ _ z=>z;obtain⟨_,H10,b3,_,a4⟩:=a4;exact again b3 a4
 exact codeAny_compStart_list (loop _ rfl) (T.self _ 0 _ _ _ a0 (loop _ rfl))
def q2d(hc:X.calm=true)(ho:qeu X.N X.env.scope N caps scope=true)(hi:PI X tg iter wi)
  (hg:∀cl C fp s H,PG (q3u X N scope cl C fp s H) tg g) (hf:∀cl C fp s H,PF (q3u X N scope cl C fp s H) ifs tf) (he:∀cl C fp s H,PE (q3u X N scope cl C fp s H) elt te)
  (hs:∀x,foldedSetIterable iter X.env x=pure x:=by intro _;rfl):PE X (.ListComp elt [⟨tg,iter,ifs,0⟩] scope pos) (qpc caps wi g tf te):=by
 intro xC s σ H Q I h;have S:=qi7 ho;obtain⟨cl,O,c1,c2⟩:=qo5 (scope:=scope) (env:=X.env) (λy hy e=>I.ok.has y.1 (S.fr y hy e));rw[eval_ListComp];refine wpAny_comprehension_free (use:=none) rfl hs O S.kind S.loc (qi8 (RR:=λacc C=>compPost (model X.prog X.w) X.A X.xe none (EP X xC σ Q) acc C) hc S hi hg hf he c1 c2 I h ?_);intro D C m H5 s5 I5 hn J q;exact⟨m,hn,λh' sb=>⟨.ref D,H5,I5.turned (t':=s5.toks) (λb o hb e=>(sb.2 b hb).trans e) J.1 J.2.1 J.2.2.2.1 J.2.2.2.2.1 J.2.2.2.2.2,zr,q⟩⟩
def q9o{i:Nat}{x:Str}{px J:Pos}(hN:X.N.Nodup)(a4:X.N[i]? =some x)(hx:X.env.scope.names.lookup x=some .local)(hc:X.calm=true)(ho:qeu X.N X.env.scope N caps scope=true)(hi:PI X tg iter wi)
  (hg:∀cl C fp s H,PG (q3u X N scope cl C fp s H) tg g) (hf:∀cl C fp s H,PF (q3u X N scope cl C fp s H) ifs tf) (he:∀cl C fp s H,PE (q3u X N scope cl C fp s H) elt te)
  (a5:swapsWith (.ListComp elt [⟨tg,iter,ifs,0⟩] scope pos) (some (.Name x px)) J.line X.env=pure true:=by rfl)
  (hs:∀x,foldedSetIterable iter X.env x=pure x:=by intro _;rfl):PS X (.Assign [.Name x px] (.ListComp elt [⟨tg,iter,ifs,0⟩] scope pos) J) (tAsg (qpc caps wi g tf te) (qk3 i)):=by
 intro xC s σ H D I h;have S:=qi7 ho;obtain⟨cl,a2,c1,c2⟩:=qo5 (scope:=scope) (env:=X.env) (λy hy e=>I.ok.has y.1 (S.fr y hy e));rw[exec_Assign_Name_used _ _ _ _ a5];refine z4e (wpAny_standAt (z4e ?_));show wpAny _ X.A (do let _ <- comprehension (.ListComp elt [⟨tg,iter,ifs,0⟩] scope pos) scope X.env _ (newList []) false (eval iter X.env) (some (assign (.Name x px) X.env))) _ _ s;refine z4e (z4f (wpAny_comprehension_free (use:=some (assign (.Name x px) X.env)) (Q:=λ_ s'=>SP X xC D .next s') rfl hs a2 S.kind S.loc
  (qi8 (RR:=λacc C=>compPost (model X.prog X.w) X.A X.xe (some (assign (.Name x px) X.env)) (λ_ s'=>SP X xC D .next s') acc C) hc S hi hg hf he c1 c2 I h ?_)) (λ_ s' hq=>z4d (z4d hq)) λ_ _ e=>e)
 intro Da C m H5 s5 I5 hn Z q;obtain⟨oC,es,ep,a0,hd,O⟩:=id hn;have a1:=I5.pinned (fp:=[C]) (λb hb=>by
  have e:b=C:=by simpa using hb
  subst e;exact Z) (λb hb=>by
  have e:b=C:=by simpa using hb
  subst e;exact⟨oC,a0,λv z=>by rw[hd]at z;cases z⟩)
 show wpAny _ X.A (assign (.Name x px) X.env (.ref Da)) _ _ _;refine wpAny_assign_Name (qde a1 hN a4 (.inl hx) (v:= .ref Da) rfl (λs6 I6=>?_) (.inr hx));have pC:=I6.pin (C,oC) (z0w _ (z0w _ (q5c (by simp) a0)));refine⟨m,⟨oC,es,ep,pC.1,hd,O⟩,λh' sb=>?_⟩;exact⟨_,H5,I6.unpinned.turned (t':=s6.toks) (λb o hb e=>(sb.2 b hb).trans e) Z.1 Z.2.1 Z.2.2.2.1 Z.2.2.2.2.1 Z.2.2.2.2.2,q⟩
end
def q1u{J:It}{g:TG}{tf:TT}{te:TE}{D:Addr}{QE:Hp->Prop}{σ:St}{H:Hp}(n:Nat)(Pv:Nat->St->Hp->Prop)(h0:Pv 0 σ H)(Z:∀i σ H,i < n->Pv i σ H->J.go i H)(a0:∀σ H,Pv n σ H->J.stop n H/\QE H)
  (hs:∀i σ H,i < n->Pv i σ H->∀x H',J.yld i H x H'->g x σ H' λσ2 H2=>tf σ2 H2 λb H3=>if b=true then te σ2 H3 λv H4=>∃xs,H4 D=some (.lst xs)/\xs.length < sizeLine/\Pv (i+1) σ2 (upd H4 D (.lst (xs++ [v]))) else Pv (i+1) σ2 H3):
  ∃W:Nat->Nat->St->Hp->Prop,(∃m,W 0 m σ H)/\qwe J g tf te D QE W:=by
 refine⟨λi m σ H=>m=n - i/\i<=n/\Pv i σ H,⟨n,by simp,z4a _,h0⟩,?_⟩;rintro i m σ H ⟨rfl,hi,p⟩;by_cases O:i < n
 ·exact .inr ⟨Z i σ H O p,Pv (i+1),λσ' H' p'=>⟨n - (i+1),by lia,zr,O,p'⟩,hs i σ H O p⟩
 ·have e:i=n:=by lia
  subst e;exact .inl (a0 σ H p)
def qzg{J:It}{g:TG}{tb:TS}{D:Ends}{σ:St}{H:Hp}(n:Nat)(Pv:Nat->St->Hp->Prop)(h0:Pv 0 σ H)(Z:∀i σ H,i < n->Pv i σ H->J.go i H)(a0:∀σ H,Pv n σ H->J.stop n H/\D.nx σ H)
  (hs:∀i σ H,i < n->Pv i σ H->∀x H',J.yld i H x H'->g x σ H' λσ2 H2=>tb {D with nx:=Pv (i+1),ct:=Pv (i+1),bk:=D.nx} σ2 H2):
  ∃W:Nat->Nat->St->Hp->Prop,(∃m,W 0 m σ H)/\∀i m σ H,W i m σ H->
   (J.stop i H/\D.nx σ H)\/ (J.go i H/\∃N:St->Hp->Prop,(∀σ' H',N σ' H'->∃m',m' < m/\W (i+1) m' σ' H')/\∀x H',J.yld i H x H'->g x σ H' λσ2 H2=>tb {D with nx:=N,ct:=N,bk:=D.nx} σ2 H2):=by
 refine⟨λi m σ H=>m=n - i/\i<=n/\Pv i σ H,⟨n,by simp,z4a _,h0⟩,?_⟩;rintro i m σ H ⟨rfl,hi,p⟩;by_cases O:i < n
 ·exact .inr ⟨Z i σ H O p,Pv (i+1),λσ' H' p'=>⟨n - (i+1),by lia,zr,O,p'⟩,hs i σ H O p⟩
 ·have e:i=n:=by lia
  subst e;exact .inl (a0 σ H p)
def Its(z:Str):It:=⟨λi _=>i < z.cps.size,λi H x H'=>H'=H/\∃c,z.cps[i]? =some c/\x= .str ⟨#[c]⟩,λi _=>i=z.cps.size⟩
def qzh{M:Model}{A:Around}{E:xB}{s:Shared}{tg:Expr}{it:Addr}{x:Str}{t:Tok}{Q:Unit->Shared->Prop}(hQ:Q () s):wpAny M A (letOwnedTupleGo tg (.ref it) (.str x t)) Q E s:=by
 unfold letOwnedTupleGo;cases tg <;> exact z4d hQ
def qu8{P:Program}{w:World}{K:xA}{tg:Expr}(it:Addr)(z:Str)(t:Tok)(ty:String)(J:ty="str_ascii_iterator"\/ ty="str_iterator"):
  Turn P w K tg (Its z) [it] it (λi h=>h.IsStrIter it ty z t i) where
 mem:=by simp
 obj:=λi h st b D=>by
  have e:b=it:=by simpa using D
  subst e;obtain⟨o,e,c,d⟩:=st;exact⟨o,e,λv z=>by rw[d]at z;cases z⟩
 keep:=λi h h' st k=>let ⟨o,ho,r⟩:=st;⟨o,k it (by simp) o ho,r⟩
 item:=by
  intro X hP hw hK O i xC s σ H E I hf st hg;subst hP hw hK;obtain⟨Z,f1,f2,f3,f4,f5⟩:=hf it (by simp);have W:Walks X.prog X.w X.A it [it] [it] z.cps.size (SignAt z) (λi h=>h.IsStrIter it ty z t i):=by
   rcases J with rfl | rfl
   ·exact Walks.strAscii (I.ok.hd O) it z t
   ·exact Walks.strWide (I.ok.hd O) it z t
  refine W.item i s _ _ hg st λv h' tk hv a0 kk=>?_;obtain⟨c,u,hx,rfl⟩:=hv;have I1:Inv X xC σ H {s with heap:=h',toks:=tk}:=I.turned (λb o D e=>kk b o (by simpa using D) e) Z f1 f3 f4 f5;exact⟨_,zr,qzh ⟨.str ⟨#[c]⟩,H,I1,⟨u,zr⟩,⟨zr,c,hx,zr⟩,a0,λb D=>(hf b D).1⟩⟩
 done:=by
  intro X hP hw hK O i xC s σ H E I hf st hg;subst hP hw hK;obtain⟨Z,f1,f2,f3,f4,f5⟩:=hf it (by simp);have W:Walks X.prog X.w X.A it [it] [it] z.cps.size (SignAt z) (λi h=>h.IsStrIter it ty z t i):=by
   rcases J with rfl | rfl
   ·exact Walks.strAscii (I.ok.hd O) it z t
   ·exact Walks.strWide (I.ok.hd O) it z t
  have e:i=z.cps.size:=hg;subst e;exact W.done s _ _ st λh' tk kk=>⟨zr,I.turned (λb o D e=>kk b o (by simpa using D) e) Z f1 f3 f4 f5⟩
 self:=λ_ _ _ _ _ st h=>by
  rcases J with rfl | rfl
  ·exact wpAny_pyIter_striter_ascii st h
  ·exact wpAny_pyIter_striter_wide st h
section
variable{X:Cx}{tg:Expr}
def iStr(tl:TE):TI:=λσ H R=>tl σ H λx H1=>∃z,x= .str z/\R (Its z) H1
def qzi{l:Expr}{tl:TE}(hl:PE X l tl):PI X tg l (iStr tl):=by
 intro xC s σ H R I h;refine thn (hl xC s σ H _ I h) λv s1 J=>?_;obtain⟨x,H1,I1,r1,q1⟩:=J;obtain⟨z,e,q⟩:=q1;subst e;obtain⟨t,rfl⟩:=r1;have fin:∀ty,(ty="str_ascii_iterator"\/ ty="str_iterator")->PIE X xC σ tg R (.ref s1.heap.objs.size) {s1 with heap:=s1.heap.push {cls:= .type ty,data:= .fields #[.str z t,.int 0 0]}}:=λty D=>by
  refine⟨s1.heap.objs.size,[s1.heap.objs.size],_,_,H1,zr,I1.kept (t':=s1.toks) λb o e=>z0o _ e,qu8 _ z t ty D,⟨_,z1c _ rfl,zr,zr⟩,λb hb=>?_,q⟩;have e:b=s1.heap.objs.size:=by simpa using hb
  subst e;exact I1.fpOk (z47 _) (I1.hok.fresh (z47 _))
 cases O:z.cps.all (· < 128)
 ·exact wpAny_pyIter_wide O (fin _ (.inr rfl))
 ·exact wpAny_pyIter_ascii O (fin _ (.inl rfl))
end
def cutS(z:Str)(lo hi:Option Int):Str:=⟨((z.cps.toList.drop (HT.sIx z.length 0 lo)).take (HT.sIx z.length z.length hi - HT.sIx z.length 0 lo)).toArray⟩
def qiw(lo hi:Option Int)(n:Nat):Builtin.Str.strSliceIndices lo hi 1 n=(List.range (HT.sIx n n hi - HT.sIx n 0 lo)).map (HT.sIx n 0 lo+ ·):=by
 have h:Builtin.Str.strSliceIndices lo hi 1 n=sliceRange ((HT.sIx n 0 lo:Nat):Int) ((HT.sIx n n hi:Nat):Int) 1:=by
  unfold Builtin.Str.strSliceIndices;simp only[show (1:Int) > 0 by decide,if_true]
  congr 1
  ·cases lo with
   | none=>rfl
   | some i=>
    rw[<- HT.clip_eq i n 0];show max 0 (min (if i < 0 then i+(n:Int) else i) (n:Int))=_;split <;> lia
  ·cases hi with
   | none=>rfl
   | some i=>
    rw[<- HT.clip_eq i n n];show max 0 (min (if i < 0 then i+(n:Int) else i) (n:Int))=_;split <;> lia
 rw[h];unfold sliceRange;simp only[show (1:Int) > 0 by decide,if_true];have e2:(if ((HT.sIx n 0 lo:Nat):Int) < ((HT.sIx n n hi:Nat):Int) then (((HT.sIx n n hi:Nat):Int) - ((HT.sIx n 0 lo:Nat):Int)+1 - 1) / 1 else 0).toNat=HT.sIx n n hi - HT.sIx n 0 lo:=by
  split
  ·rw[Int.ediv_one];lia
  ·lia
 rw[e2]
 apply z1f
 intro k _
 lia
def qpd(xs:Array Nat)(i k:Nat):(((List.range k).map (i+ ·)).filterMap (xs[·]?))=(xs.toList.drop i).take k:=by
 induction k with
 | zero=>simp
 | succ k ih=>
  rw[List.range_succ,z35,List.filterMap_append,ih,z3g]
  congr 1
  simp only[z3k,z43,List.getElem?_drop,z0x];cases h:xs[i+k]? <;> simp[h]
def qcw(z:Str)(lo hi:Option Int):(cutS z lo hi).length<=z.length:=by
 show ((z.cps.toList.drop _).take _).toArray.size<=z.length;rw[z23,z2g,z2h];have:z.cps.toList.length=z.length:=by simp[Str.length]
 lia
section
variable{X:Cx}
def rSlS:V->Option Int->Option Int->Hp->VK->Prop:=λx lo hi H Q=>∃z,x= .str z/\z.length<=sizeLine/\Q (.str (cutS z lo hi)) H
def qb0:SlR X rSlS:=by
  intro xC s σ H x v vl vu lo hi sl Q I rx hs pl pu h;obtain⟨z,rfl,O,q⟩:=h;obtain⟨t,rfl⟩:=rx;refine⟨"str",_,F.slot_str_getitem.lookup,typeIs_str s z t,?_⟩;obtain⟨l,rfl,el⟩:∃l:Option (Int×Tok),vl=partValue l/\l.map (·.1)=lo:=by
    cases pl with
    | none=>exact⟨none,rfl,rfl⟩
    | int i t=>exact⟨some (i,t),rfl,rfl⟩
  obtain⟨u,rfl,eu⟩:∃u:Option (Int×Tok),vu=partValue u/\u.map (·.1)=hi:=by
    cases pu with
    | none=>exact⟨none,rfl,rfl⟩
    | int i t=>exact⟨some (i,t),rfl,rfl⟩
  refine wpAny_getItem_str_slice (l:=l) (u:=u) (st:=none) hs rfl ?_;have ep:slicePicked z l u none=(List.range (HT.sIx z.length z.length hi - HT.sIx z.length 0 lo)).map (HT.sIx z.length 0 lo+ ·):=by
    unfold slicePicked;rw[el,eu];exact qiw lo hi z.length
  have ec:(slicePicked z l u none).filterMap (z.cps[·]?)=(z.cps.toList.drop (HT.sIx z.length 0 lo)).take (HT.sIx z.length z.length hi - HT.sIx z.length 0 lo):=by
    rw[ep,qpd]
  unfold sliceMade;split
  · rename_i hw
    have D:(slicePicked z l u none).length=z.length:=by simpa using hw
    have e:cutS z lo hi=z:=by
      have hl:z.cps.toList.length=z.length:=by simp[Str.length]
      rw[ep,z30,z29]at D;have h1:=HT.sIx_le z.length z.length (z47 _) hi;have J:HT.sIx z.length 0 lo=0\/ z.length=0:=by lia
      unfold cutS;rcases J with J | J
      · rw[D,J,List.drop_zero,z0n (by lia)]
      · have Z:z.cps.toList=[]:=List.eq_nil_of_length_eq_zero (by lia)
        rw[Z,List.drop_nil,List.take_nil];cases z with
        | mk cps=>
          congr 1
          exact(Array.toList_inj.mp Z).symm
    rw[e]at q;exact⟨.str z,H,I,⟨t,zr⟩,q⟩
  · have e:(⟨((slicePicked z l u none).filterMap (z.cps[·]?)).toArray⟩:Str)=cutS z lo hi:=by
      unfold cutS;rw[ec]
    rw[e];exact⟨z40 (qcw z lo hi) O,.str (cutS z lo hi),H,I.tok _,⟨_,zr⟩,q⟩
end
def qri(bs:List Bool):(List.range bs.length).all (λi=>(bs[i]?).getD true)=bs.all id:=by
 rw[z2z,z2n,z2n]
 constructor
 ·intro h b hb;obtain⟨i,hi,e⟩:=z12.mp hb;have:=h i (z3c.mpr hi);rw[z0d hi,e]at this;exact this
 ·intro h i hi;have D:=z3c.mp hi;rw[z0d D];exact h _ (z2k D)
def qo6{bs:List Bool}{us:xH}(r:Vals (bs.map V.bl) us){i:Nat}{v:Value}(h:us[i]? =some v):∃b,bs[i]? =some b/\v= .bool b:=by
 have hl:=r.length;obtain⟨hi,_⟩:=z07.mp h;rw[<- hl,z30]at hi;have e:(bs.map V.bl)[i]? =some (V.bl bs[i]):=by rw[z22,z0d hi];rfl
 obtain⟨u,D,ru⟩:=r.get e;rw[h]at D;cases D
 exact⟨bs[i],z0d hi,ru⟩
section
variable{X:Cx}
def q6l(hc:X.calm=true)(K:xA)(hK:X.K=K:=by rfl):q2b X (.builtin "all") (λxs H Q=>∃(p:Addr) (bs:List Bool),xs=[.ref p]/\SqL K H p (bs.map V.bl)/\Q (.bl (bs.all id)) H):=by
 subst hK;intro xC s σ H xs us Q I r h;obtain⟨p,bs,rfl,hp,q⟩:=h;obtain⟨u,rfl,ru⟩:=q2k r;cases ru
 obtain⟨its,rv,pl,hz⟩:=I.list hp;have hl:its.toArray.size=bs.length:=by
  have:=rv.length;rw[z30]at this;rw[z23];exact this.symm
 have hh:X.A.in1.handled=none:=I.ok.hd hc;have J:p≠s.heap.objs.size:=λe=>by
  obtain⟨o,n,e1,_⟩:=pl;exact absurd (z3y e1) (by rw[e];exact z3o _)
 refine call_all_walk (z25 pl.isList ?_);refine⟨s.heap.objs.size,_,_,_,_,_,λi=>(bs[i]?).getD true,zr,Walks.list hh _ p J its.toArray,⟨⟨_,z1c _ rfl,zr,zr⟩,pl.isList.at λo e=>z0o _ e⟩,?_,λh' tk kk=>?_⟩
 ·intro i v s' Q' E' hv hq;have O:its[i]? =some v:=by simpa using hv
  obtain⟨b,e,rfl⟩:=qo6 rv O;have D:Q' ((bs[i]?).getD true) s':=hq;rw[e]at D;exact z24 D
 ·rw[hl,qri];exact⟨.bl _,H,I.kept λb o e=>kk b o (by simp;exact z3z (z3y e)) (z0o _ e),rfl,q⟩
def tyTs:List String:=["NoneType","bool","int","str","list","tuple","dict"]
def tyNs:List String:=["bool","int","str","list","tuple","dict"]
def tyIs(T n:String):Bool:=T==n || (T=="bool"&&n=="int")
def qxk:∀T∈tyTs,∀n∈tyNs,PySem.W.kitMeta n=true/\(PySem.fastBuiltinMro T).map (·.contains (Value.type n))=some (tyIs T n):=by decide+kernel
def qxl{K:xA}{T n:String}(hT:T∈tyTs)(hn:n∈tyNs):PySem.W.kitOne K (.type T) (.type n)=some (tyIs T n):=by
 obtain⟨h1,h2⟩:=qxk T hT n hn;unfold PySem.W.kitOne;split
 ·rename_i e;have e':=eq_of_beq e;injection e' with D;subst D;simp[tyIs]
 ·unfold PySem.W.kitCls;show (if PySem.W.kitMeta n=true then PySem.W.subIn K (.type T) (.type n) else none)=_;rw[if_pos h1];exact h2
def q11i{x:Str}{i:Int}{pos:Pos}(hg:Gl X x)(hm:∃t,X.mg x=some (.int i t))(hd:(x==("__debug__":Str))=false:=by decide):PE X (.Name x pos) (tC (.int i)):=by
 obtain⟨t,e⟩:=hm;exact qny hg e ⟨t,zr⟩ hd
def qk6{x z:Str}{pos:Pos}(hg:Gl X x)(hm:∃t,X.mg x=some (.str z t))(hd:(x==("__debug__":Str))=false:=by decide):PE X (.Name x pos) (tC (.str z)):=by
 obtain⟨t,e⟩:=hm;exact qny hg e ⟨t,zr⟩ hd
def q4u{x:Str}{n:String}{pos:Pos}(hg:Gl X x)(hm:X.mg x=none)(hv:bootBuiltins x=some (.type n))(hn:x≠"__name__":=by decide)(hd:(x==("__debug__":Str))=false:=by decide):PE X (.Name x pos) (tC (.ty n)):=
 qwv hg hm hv rfl hn hd
end
structure Top (K:xA) (mg:xE) (x:Str) (st:Stmt) (ps:xD):Prop where
 ex:∃f fd,Fun K x x st f fd/\mg x=some (.ref f)/\∀us:List Value,us.length=ps.length->bindArgs fd ⟨us,[]⟩=pure (ps.zip us)
def qzj{K:xA}{h:Heap}{mg:xE}{x:Str}{st:Stmt}{ps:xD}{f:Addr}{oc:Value}{od J:Option Addr}{Z:Array (Option Value)}{kV D O cdv ct:Value}(X:K.In h)(G:h.Ns mainGlobals mg)
  (b:∀(kV D O:Value) (J:Option Addr) (cdv ct:Value) (us:xH),us.length=ps.length->bindArgs (PySem.W.fnOf x x (q1z st) (q1k st) (qd st) .none kV D O J cdv ct) ⟨us,[]⟩=pure (ps.zip us))
  (a:PySem.W.nsIn K mainGlobals x=some (some (.ref f)))
  (l:K.lookup f=some ⟨oc,od,.func (PySem.W.fnOf x x (q1z st) (q1k st) (qd st) .none kV D O J cdv ct),Z⟩) (c:PySem.W.codeIn K cdv x=true) (k:PySem.W.keepIn K (.ref f)=true):Top K mg x st ps:=by
 have F:=qrg (st:=st) l c k;exact⟨f,_,F,z3q X G a,b kV D O J cdv ct⟩
structure Def (P:Program) (w:World) (K:xA) (mg:xE) (base:Heap) (k:Nat) (x:Str) (ps:xD) (sp:Sp):Prop where
 ex:∃f fd,FnOk P w K mg base CX0 k f fd ps sp/\mg x=some (.ref f)/\PySem.W.keepIn K (.ref f)=true/\Binds K fd ps []
theorem Top.ok{P:Program}{w:World}{K:xA}{mg:xE}{base:Heap}{x:Str}{st:Stmt}{N ps:xD}{k:Nat}{sp:Sp}(T:Top K mg x st ps)(S:FnScope N ps (qd st))(len:∀vs H Q E,sp vs H Q E->vs.length=ps.length)
  (D:∀(f:Addr) (cdv:Value) (A:Around) (outer:List Env) (s:Shared) (H:Hp) (vs:List V) (Q:VK) (E:XK),Room k (A.deeper (envOfC x (qd st) s.heap.objs.size f cdv))->sp vs H Q E->
   ∃t,PSs (cxOf CX0 P w K mg base N x (qd st) f cdv A outer s H E).nox (q1k st) t/\t {nx:=λ_ H'=>Q .non H',rt:=Q} (start N vs) H):Def P w K mg base (k+1) x ps sp:=by
 obtain⟨f,fd,F,hm,hb⟩:=T.ex;exact⟨f,fd,F.ok S len (D f),hm,F.kp,Binds.all hb⟩
def Top.fin{l:PySem.W.OpenLaw}{w:World}{K:xA}{mg:xE}{J:Addr}{x:Str}{st:Stmt}{N:xD}{k:Nat}{sp:Sp}(T:Top K mg "law" st [x])(O:mg "law"=some (.ref J))(S:FnScope N [x] (qd st))
  (len:∀vs H Q E,sp vs H Q E->vs.length=[x].length)
  (D:∀(base:Heap) (f:Addr) (cdv:Value) (A:Around) (outer:List Env) (s:Shared) (H:Hp) (vs:List V) (Q:VK) (E:XK),Room k (A.deeper (envOfC "law" (qd st) s.heap.objs.size f cdv))->sp vs H Q E->
   ∃t,PSs (cxOf CX0 l.prog w K mg base N "law" (qd st) f cdv A outer s H E).nox (q1k st) t/\t {nx:=λ_ H'=>Q .non H',rt:=Q} (start N vs) H):
  ∃fd:FuncData,(∀(s:Shared) (v:Value),BindsTo s fd ⟨[v],[]⟩ [(x,v)])/\∀base:Heap,K.In base->base.Ns mainGlobals mg->FnOk l.prog w K mg base CX0 (k+1) J fd [x] sp:=by
 obtain⟨f,fd,F,hm,hb⟩:=T.ex;have e:=O.symm.trans hm;injection e with e;injection e with e;subst e;exact⟨fd,λs v=> .of_eq (hb [v] rfl),λbase _ _=>F.ok S len (D base J)⟩
section
variable{X:Cx}{k k':Nat}{x:Str}{ps:xD}{sp:Sp}{p pos:Pos}{e:Expr}{es:List Expr}{t:TA}
def q11(D:Def X.prog X.w X.K X.mg X.base k x ps sp)(hr:Room k' X.A)(hg:Gl X x)(ha:PA X (e::es) t)(O:k<=k':=by decide)
  (J:(x==("__debug__":Str))=false:=by decide) (he:starEach (e::es) X.env=(false,eval e X.env)::starEach es X.env:=by rfl) (Z:(backTo pos (starEach es X.env)).any (·.1)=false:=by rfl):
  PE X (.Call (.Name x p) (e::es) [] pos) (qw9 sp [] E0 t):=by
 obtain⟨f,fd,F,hm,hk,hb⟩:=D.ex;exact qx4 F (hr.mono O) hg hm hk hb .nil qc3 ha J he Z
end
section
variable{X:Cx}{tg:Expr}
def q3l(K:xA)(hK:X.K=K:=by rfl):q2b X (.builtin "len") (λxs H Q=>∃x n,xs=[x]/\LenV K x H n/\Q (.int n) H):=by subst hK;exact qtx
def qy(K:xA)(hK:X.K=K:=by rfl):IxR X (rIxL K):=by subst hK;exact qxb
def q31(K:xA)(hK:X.K=K:=by rfl):SlR X (rSlL K):=by subst hK;exact qxc
def q18(K:xA){l:Expr}{tl:TE}(hl:PE X l tl)(hK:X.K=K:=by rfl):PI X tg l (qw3 K tl):=by subst hK;exact qww hl
def q5x(K:xA){l:Expr}{tl:TE}(hl:PE X l tl)(hK:X.K=K:=by rfl):PI X tg l (iTup K tl):=by subst hK;exact qz7 hl
def qrj(K:xA)(hK:X.K=K:=by rfl):OpR X (compareOp .NotIn) (rIn K true):=by subst hK;exact qkz
def qev(K:xA)(hK:X.K=K:=by rfl):q2b X (.type "list") (λxs H Q=>∃p ys,xs=[.ref p]/\(SqL K H p ys\/ SqT K H p ys)/\∀l,H l=none->Q (.ref l) (upd H l (.lst ys))):=by subst hK;exact ql0
def q6f(K:xA)(hK:X.K=K:=by rfl):q2b X (.type "tuple") (λxs H Q=>∃p ys,xs=[.ref p]/\((SqL K H p ys/\∀l,H l=none->Q (.ref l) (upd H l (.tup ys)))\/ (SqT K H p ys/\Q (.ref p) H))):=by subst hK;exact qiv
end
def ql6{α:Type}{xs:List α}{i:Int}(h0:0<=i)(h1:i < xs.length):∃v,atI xs i=some v/\v∈xs:=by
 have D:i.toNat < xs.length:=by lia
 refine⟨xs[i.toNat],?_,z2k D⟩;unfold atI ixN;rw[if_pos h0,if_pos h1];show xs[i.toNat]? =_;exact z0d D
def qzk{α:Type}{xs:List α}{i:Int}(h0:0<=i)(h1:i < xs.length):atI xs i=xs[i.toNat]? :=by
 unfold atI ixN;rw[if_pos h0,if_pos h1];rfl
def qf{H:Hp}{a:Addr}{o:HO}(h:H a=none):Same H (upd H a o):=λb u e=>by
 rw[qi (qz e h)];exact e
def Same.set{H H':Hp}{a:Addr}{o:HO}(h:Same H H')(n:H a=none):Same H (upd H' a o):=λb u e=>by
 rw[qi (qz e n)];exact h b u e
def Same.seqT{K:xA}{H H':Hp}{a:Addr}{xs:List V}(e:Same H H')(h:SqT K H a xs):SqT K H' a xs:=by
 rcases h with (h | ⟨o,h⟩) | h
 ·exact .inl (.inl (e _ _ h))
 ·exact .inl (.inr ⟨o,e _ _ h⟩)
 ·exact .inr h
def q22:Expr->Bool
 | .Starred _ _=>false
 | _=>true
def qix{e:Expr}{es:List Expr}{env:Env}(h:q22 e=true):starEach (e::es) env=(false,eval e env)::starEach es env:=by
 cases e <;> first
  | rfl
  | cases h
def q2m{X:Cx}{e:Expr}{es:List Expr}{te:TE}{t:TA}(ha:PE X e te)(hr:PA X es t)(hs:q22 e=true:=by rfl):PA X (e::es) (q2p te t):=qx3 ha hr (qix hs)
def q4r:bootBuiltins "len"=some (.builtin "len"):=by decide+kernel
def q1n:bootBuiltins "isinstance"=some (.builtin "isinstance"):=by decide+kernel
def qb1:bootBuiltins "all"=some (.builtin "all"):=by decide+kernel
def ql7:bootBuiltins "any"=some (.builtin "any"):=by decide+kernel
def q2c:bootBuiltins "sorted"=some (.builtin "sorted"):=by decide+kernel
def qrk:bootBuiltins "sum"=some (.builtin "sum"):=by decide+kernel
def q96:bootBuiltins "min"=some (.builtin "min"):=by decide+kernel
def qrl:bootBuiltins "max"=some (.builtin "max"):=by decide+kernel
def qzl:bootBuiltins "str"=some (.type "str"):=by decide+kernel
def qzm:bootBuiltins "int"=some (.type "int"):=by decide+kernel
def qc4:bootBuiltins "bool"=some (.type "bool"):=by decide+kernel
def q5y:bootBuiltins "list"=some (.type "list"):=by decide+kernel
def q7q:bootBuiltins "tuple"=some (.type "tuple"):=by decide+kernel
def qxm:bootBuiltins "dict"=some (.type "dict"):=by decide+kernel
def q7g{α:Type}{l:List α}{i:Nat}{d:α}(h:i < l.length):l.getD i d=l[i]:=by
 rw[z06,z0d h];rfl
def qxn{α:Type}{l:List α}{i:Nat}{d:α}(h:l.length<=i):l.getD i d=d:=by
 rw[z06,List.getElem?_eq_none_iff.mpr h];rfl
def pa_1{X:Cx}{D:Expr}{O:TE}(h0:PE X D O)(J:q22 D=true:=by rfl):PA X [D] (q2p O tNil):=(q2m h0 q26 J)
def pa_2{X:Cx}{D e1:Expr}{Z t1:TE}(h0:PE X D Z)(h1:PE X e1 t1)(J:q22 D=true:=by rfl)(O:q22 e1=true:=by rfl):PA X [D,e1] (q2p Z (q2p t1 tNil)):=(q2m h0 (q2m h1 q26 O) J)
def pa_3{X:Cx}{D e1 e2:Expr}{t0 t1 t2:TE}(h0:PE X D t0)(h1:PE X e1 t1)(h2:PE X e2 t2)(J:q22 D=true:=by rfl)(O:q22 e1=true:=by rfl)(Z:q22 e2=true:=by rfl):PA X [D,e1,e2] (q2p t0 (q2p t1 (q2p t2 tNil))):=(q2m h0 (q2m h1 (q2m h2 q26 Z) O) J)
def pa_5{X:Cx}{D e1 e2 e3 J:Expr}{t0 t1 t2 t3 t4:TE}(h0:PE X D t0)(h1:PE X e1 t1)(h2:PE X e2 t2)(h3:PE X e3 t3)(h4:PE X J t4)(O:q22 D=true:=by rfl)(Z:q22 e1=true:=by rfl)(a0:q22 e2=true:=by rfl)(a1:q22 e3=true:=by rfl)(a2:q22 J=true:=by rfl):PA X [D,e1,e2,e3,J] (q2p t0 (q2p t1 (q2p t2 (q2p t3 (q2p t4 tNil))))):=(q2m h0 (q2m h1 (q2m h2 (q2m h3 (q2m h4 q26 a2) a1) a0) Z) O)
def pa_6{X:Cx}{D e1 e2 e3 J O:Expr}{t0 t1 t2 t3 t4 t5:TE}(h0:PE X D t0)(h1:PE X e1 t1)(h2:PE X e2 t2)(h3:PE X e3 t3)(h4:PE X J t4)(h5:PE X O t5)(Z:q22 D=true:=by rfl)(a0:q22 e1=true:=by rfl)(a1:q22 e2=true:=by rfl)(a2:q22 e3=true:=by rfl)(a4:q22 J=true:=by rfl)(a5:q22 O=true:=by rfl):PA X [D,e1,e2,e3,J,O] (q2p t0 (q2p t1 (q2p t2 (q2p t3 (q2p t4 (q2p t5 tNil)))))):=(q2m h0 (q2m h1 (q2m h2 (q2m h3 (q2m h4 (q2m h5 q26 a5) a4) a2) a1) a0) Z)
def q39{X:Cx}{D s1:Stmt}{J t1:TS}(h0:PS X D J)(h1:PS X s1 t1):PSs X [D,s1] (tSeq J t1):=(qt h0 (qg h1))
def q3f{X:Cx}{D s1 J:Stmt}{O t1 t2:TS}(h0:PS X D O)(h1:PS X s1 t1)(h2:PS X J t2):PSs X [D,s1,J] (tSeq O (tSeq t1 t2)):=(qt h0 (qt h1 (qg h2)))
def qc5{X:Cx}{D s1 J s3:Stmt}{O t1 t2 t3:TS}(h0:PS X D O)(h1:PS X s1 t1)(h2:PS X J t2)(h3:PS X s3 t3):PSs X [D,s1,J,s3] (tSeq O (tSeq t1 (tSeq t2 t3))):=(qt h0 (qt h1 (qt h2 (qg h3))))
def qk7{X:Cx}{D s1 J s3 O:Stmt}{Z t1 t2 t3 t4:TS}(h0:PS X D Z)(h1:PS X s1 t1)(h2:PS X J t2)(h3:PS X s3 t3)(h4:PS X O t4):PSs X [D,s1,J,s3,O] (tSeq Z (tSeq t1 (tSeq t2 (tSeq t3 t4)))):=(qt h0 (qt h1 (qt h2 (qt h3 (qg h4)))))
def q11j{X:Cx}{D s1 J s3 O Z:Stmt}{t0 t1 t2 t3 t4 t5:TS}(h0:PS X D t0)(h1:PS X s1 t1)(h2:PS X J t2)(h3:PS X s3 t3)(h4:PS X O t4)(h5:PS X Z t5):PSs X [D,s1,J,s3,O,Z] (tSeq t0 (tSeq t1 (tSeq t2 (tSeq t3 (tSeq t4 t5))))):=(qt h0 (qt h1 (qt h2 (qt h3 (qt h4 (qg h5))))))
def qk8{X:Cx}{D s1 J s3 O Z s6 s7:Stmt}{t0 t1 t2 t3 t4 t5 t6 t7:TS}(h0:PS X D t0)(h1:PS X s1 t1)(h2:PS X J t2)(h3:PS X s3 t3)(h4:PS X O t4)(h5:PS X Z t5)(h6:PS X s6 t6)(h7:PS X s7 t7):PSs X [D,s1,J,s3,O,Z,s6,s7] (tSeq t0 (tSeq t1 (tSeq t2 (tSeq t3 (tSeq t4 (tSeq t5 (tSeq t6 t7))))))):=(qt h0 (qt h1 (qt h2 (qt h3 (qt h4 (qt h5 (qt h6 (qg h7))))))))
def q11k{X:Cx}{D s1 J s3 O Z s6 s7 s8:Stmt}{t0 t1 t2 t3 t4 t5 t6 t7 t8:TS}(h0:PS X D t0)(h1:PS X s1 t1)(h2:PS X J t2)(h3:PS X s3 t3)(h4:PS X O t4)(h5:PS X Z t5)(h6:PS X s6 t6)(h7:PS X s7 t7)(h8:PS X s8 t8):PSs X [D,s1,J,s3,O,Z,s6,s7,s8] (tSeq t0 (tSeq t1 (tSeq t2 (tSeq t3 (tSeq t4 (tSeq t5 (tSeq t6 (tSeq t7 t8)))))))):=(qt h0 (qt h1 (qt h2 (qt h3 (qt h4 (qt h5 (qt h6 (qt h7 (qg h8)))))))))
def q11l{X:Cx}{D s1 J s3 O:Stmt}{Z:List Stmt}{t0 t1 t2 t3 t4 u:TS}(h0:PS X D t0)(h1:PS X s1 t1)(h2:PS X J t2)(h3:PS X s3 t3)(h4:PS X O t4)(hu:PSs X Z u):PSs X (D::s1::J::s3::O::Z) (tSeq t0 (tSeq t1 (tSeq t2 (tSeq t3 (tSeq t4 u))))):=(qt h0 (qt h1 (qt h2 (qt h3 (qt h4 hu)))))
def qzn{X:Cx}{Z s1 s2 s3 s4 s5 s6 s7 s8 s9 D:Stmt}{ss:List Stmt}{t0 t1 t2 t3 t4 t5 t6 t7 t8 t9 J u:TS}(h0:PS X Z t0)(h1:PS X s1 t1)(h2:PS X s2 t2)(h3:PS X s3 t3)(h4:PS X s4 t4)(h5:PS X s5 t5)(h6:PS X s6 t6)(h7:PS X s7 t7)(h8:PS X s8 t8)(h9:PS X s9 t9)(O:PS X D J)(hu:PSs X ss u):PSs X (Z::s1::s2::s3::s4::s5::s6::s7::s8::s9::D::ss) (tSeq t0 (tSeq t1 (tSeq t2 (tSeq t3 (tSeq t4 (tSeq t5 (tSeq t6 (tSeq t7 (tSeq t8 (tSeq t9 (tSeq J u))))))))))):=(qt h0 (qt h1 (qt h2 (qt h3 (qt h4 (qt h5 (qt h6 (qt h7 (qt h8 (qt h9 (qt O hu)))))))))))
def qxo{X:Cx}{body:List Stmt}{D:Ends}{σ:St}{H:Hp}(n:Nat)(C:St->Hp->Prop)(rest:∃u,PSs X (body.drop n) u/\∀σ H,C σ H->u D σ H)
  (first:∀u,PSs X (body.drop n) u->(∀σ H,C σ H->u D σ H)->∃t,PSs X body t/\t D σ H):∃t,PSs X body t/\t D σ H:=
 let ⟨u,h1,h2⟩:=rest
 first u h1 h2
def qrm{X:Cx}{body:List Stmt}{D:Ends}{J:St->Hp->Prop}(n:Nat)(C:St->Hp->Prop)(rest:∃u,PSs X (body.drop n) u/\∀σ H,C σ H->u D σ H)
  (first:∀u,PSs X (body.drop n) u->(∀σ H,C σ H->u D σ H)->∃t,PSs X body t/\∀σ H,J σ H->t D σ H):∃t,PSs X body t/\∀σ H,J σ H->t D σ H:=
 let ⟨u,h1,h2⟩:=rest
 first u h1 h2
mutual
inductive Dat (K:xA) (H:Hp):PyData->V->Prop
 | non:Dat K H .none .non
 | bl (b:Bool):Dat K H (.bool b) (.bl b)
 | int (i:Int):Dat K H (.int i) (.int i)
 | str (x:Str) (h:PyData.strOk x=true):Dat K H (.str x) (.str x)
 | lst {a:Addr} {xs:List V} {ds:List PyData}:SqL K H a xs->Dats K H ds xs->Dat K H (.list ds) (.ref a)
 | tup {a:Addr} {xs:List V} {ds:List PyData}:SqT K H a xs->Dats K H ds xs->Dat K H (.tuple ds) (.ref a)
inductive Dats (K:xA) (H:Hp):List PyData->List V->Prop
 | nil:Dats K H [] []
 | cons {d:PyData} {x:V} {ds:List PyData} {xs:List V}:Dat K H d x->Dats K H ds xs->Dats K H (d::ds) (x::xs)
end
section
variable{K:xA}{H H':Hp}
mutual
theorem Dat.same(s:Same H H'):∀(d:PyData) (x:V),Dat K H d x->Dat K H' d x
 | _,_,.non=> .non
 | _,_,.bl b=> .bl b
 | _,_,.int i=> .int i
 | _,_,.str x h=> .str x h
 | _,_,.lst h r=> .lst (s.seq h) (Dats.same s _ _ r)
 | _,_,.tup h r=> .tup (s.seqT h) (Dats.same s _ _ r)
theorem Dats.same(s:Same H H'):∀(ds:List PyData) (xs:List V),Dats K H ds xs->Dats K H' ds xs
 | _,_,.nil=> .nil
 | _,_,.cons a b=> .cons (Dat.same s _ _ a) (Dats.same s _ _ b)
end
mutual
theorem Dat.lay:∀(d:PyData) (x:V),Dat K H d x->d.canLay0=true
 | _,_,.non=>rfl
 | _,_,.bl _=>rfl
 | _,_,.int _=>rfl
 | _,_,.str _ h=>h
 | _,_,.lst _ r=>Dats.lay _ _ r
 | _,_,.tup _ r=>Dats.lay _ _ r
theorem Dats.lay:∀(ds:List PyData) (xs:List V),Dats K H ds xs->PyData.canLayAll0 ds=true
 | _,_,.nil=>rfl
 | _,_,.cons a b=>by rw[PyData.canLayAll0,Dat.lay _ _ a,Dats.lay _ _ b];rfl
end
end
section
variable{X:Cx}{xC:xG}{σ:St}{H:Hp}{s:Shared}
mutual
theorem Dat.reads(I:Inv X xC σ H s):∀(d:PyData) (x:V) (u:Value),Dat X.K H d x->RelV x u->∃as,Reads s.heap u d as
 | _,_,_,.non,r=>by cases r;exact⟨_,.none⟩
 | _,_,_,.bl b,r=>by cases r;exact⟨_,.bool b⟩
 | _,_,_,.int i,r=>by obtain⟨t,rfl⟩:=r;exact⟨_,.int i t⟩
 | _,_,_,.str x _,r=>by obtain⟨t,rfl⟩:=r;exact⟨_,.str x t⟩
 | _,_,_,.lst h q,r=>by
  cases r
  obtain⟨its,rv,⟨o,n,e,c,_,d⟩,_⟩:=I.list h;obtain⟨as,D⟩:=Dats.reads I _ _ _ q rv;exact⟨_,.list e c d (by simpa using D)⟩
 | _,_,_,.tup h q,r=>by
  cases r
  obtain⟨its,rv,⟨o,e,c,n,d⟩,_⟩:=I.tuple h;obtain⟨as,D⟩:=Dats.reads I _ _ _ q rv;exact⟨_,.tuple e c d (by simpa using D)⟩
theorem Dats.reads(I:Inv X xC σ H s):∀(ds:List PyData) (xs:List V) (us:xH),Dats X.K H ds xs->Vals xs us->∃as,ReadsAll s.heap us ds as
 | _,_,_,.nil,r=>by cases r;exact⟨_,.nil⟩
 | _,_,_,.cons a b,r=>by
  cases r with
  | cons r1 r2=>
   obtain⟨as,h1⟩:=Dat.reads I _ _ _ a r1;obtain⟨bs,h2⟩:=Dats.reads I _ _ _ b r2;exact⟨_,.cons h1 h2⟩
end
end
section
variable{X:Cx}
def ql8{u d e:Nat}(hu:u+64 < cLine)(hd:d<=60):u+min d e < cLine:=by
 have:min d e<=d:=Nat.min_le_left _ _
 lia
def rEqD(K:xA):R2:=λx y H Q=>∃d e,Dat K H d x/\Dat K H e y/\d.depth<=60/\Q (.bl (PyData.eqv d e)) H
def ql9(hu:X.A.units+64 < cLine)(K:xA)(hK:X.K=K:=by rfl):OpR X (compareOp .Eq) (rEqD K):=by
 subst hK;intro xC s σ H x y v u Q I rx ry h;obtain⟨d,e,hd,D,hz,q⟩:=h;obtain⟨as,ra⟩:=Dat.reads I _ _ _ hd rx;obtain⟨bs,rb⟩:=Dat.reads I _ _ _ D ry;exact SeqAt.rcAt_reads ra rb (Dat.lay _ _ hd) (Dat.lay _ _ D) (ql8 hu hz) X.prog X.w X.xe _ (q1h I q rfl)
end
def LtAt(A:Around)(s:Shared)(u v:Value)(r:Bool):Prop:=
 ∀(prog:Program) (w:World) (E:xB) (Q:xB),Q (.bool r) s->wpAny (model prog w) A (richCompare .Lt u v) Q E s
inductive LexAt (A:Around) (s:Shared):List Value->List Value->Bool->Prop
 | nn:LexAt A s [] [] false
 | nc {v:Value} {vs:xH}:LexAt A s [] (v::vs) true
 | cn {u:Value} {us:xH}:LexAt A s (u::us) [] false
 | eq {u v:Value} {us vs:xH} {r:Bool}:SeqAt.EqAt A s u v true->LexAt A s us vs r->LexAt A s (u::us) (v::vs) r
 | lt {u v:Value} {us vs:xH} {r:Bool}:SeqAt.EqAt A s u v false->LtAt A s u v r->LexAt A s (u::us) (v::vs) r
section
open PySem.SeqAt
open PySem.AutoSeq1 (wpAny_loadPart')
open PySem.MeetsSeq PySem.MeetsSeq2 PySem.MeetsSeq3
def qb2(l b:Addr)(J D:Array Value)(n n2:Nat)(dd a4:Option Addr)(sl a6:Array (Option Value))(r:Bool):
  Meets (Builtin.«tuple.__lt__» ⟨[.ref l,.ref b],[]⟩)
   (λA R s=>s.heap.get? l=some {cls:= .type "tuple",dict:=dd,data:= .seq J n,slots:=sl}/\s.heap.get? b=some {cls:= .type "tuple",dict:=a4,data:= .seq D n2,slots:=a6}/\
    LexAt A.in1 s J.toList D.toList r/\R (.ok (.ret (.bool r))) s):=
 .of_wp λprog w A R s h=>by
  obtain⟨hp,g,d,tk,os⟩:=s;obtain⟨hl,hb,hx,h⟩:=h;have f2:=AutoSeq1.sub_tuple_tuple
  wp_walk using wpAny_loadPart' hl,wpAny_loadPart' hb,wpAny_forIn_list _ (λrest b s'=>b.1=none/\s'=⟨hp,g,d,tk,os⟩/\∃(vs ws:xH),rest=vs.zip ws/\
   LexAt A.in1 ⟨hp,g,d,tk,os⟩ vs ws r/\vs.length+D.size=ws.length+J.size) _
  case turn=>
   rintro ⟨y,x⟩ rest b s' ⟨a0,rfl,vs,ws,hz,a1,O⟩;cases a1 with
   | nn=>rw[List.zip_nil_left]at hz;cases hz
   | nc=>rw[List.zip_nil_left]at hz;cases hz
   | cn=>rw[List.zip_nil_right]at hz;cases hz
   | eq he hr=>
    rw[z1t]at hz;injection hz with a2 Z;injection a2 with hy hx;subst hy hx;simp only[z2i]at O;refine z4e (he prog w _ _ ?_)
    wp_walk
    exact⟨zr,zr,_,_,Z,hr,by lia⟩
   | lt he hr=>
    rw[z1t]at hz;injection hz with a2 Z;injection a2 with hy hx;subst hy hx;refine z4e (he prog w _ _ ?_);have a5:=hr prog w
    wp_walk using a5
    exact⟨_,zr,by simpa using h⟩
  case fin=>
   rintro ⟨b1,b2⟩ s' ⟨a0,rfl,vs,ws,hz,a1,O⟩;simp only at a0;subst a0;have hv:r=decide (J.size < D.size):=by
    cases a1 with
    | nn=>
     simp only[z34]at O;exact(z2w (by lia)).symm
    | nc=>
     simp only[z34,z2i]at O;exact(z3b (by lia)).symm
    | cn=>
     simp only[z34,z2i]at O;exact(z2w (by lia)).symm
    | eq _ _=>rw[z1t]at hz;cases hz
    | lt _ _=>rw[z1t]at hz;cases hz
   rw[hv]at h
   wp_walk
   exact⟨_,zr,by simpa [Builtin.Tuple.tupleCompareSizes] using h⟩
  case h=>
   exact⟨rfl,rfl,J.toList,D.toList,rfl,hx,by simp;lia⟩
end
def qu9{A:Around}{s:Shared}{l b:Addr}{J D:Array Value}{r:Bool}(hl:IsTup s.heap l J)(hb:IsTup s.heap b D)(hx:LexAt A.in1 s J.toList D.toList r)(hu:A.units < cLine):LtAt A s (.ref l) (.ref b) r:=by
 intro prog w E Q h;obtain⟨⟨cls,dd,data,sl⟩,ho,hc,n,hd⟩:=id hl;obtain⟨⟨a5,a2,a1,a4⟩,a0,O,n2,Z⟩:=id hb;simp only at hc hd O Z;subst hc hd O Z;exact richCompare_meets_room (op:= .Lt) ⟨_,ho,zr⟩ ⟨_,a0,zr⟩ PySem.F.slot_tuple_lt PySem.F.entry_tuple_lt (PySem.F.args_tuple_lt_2 _ _) (qb2 l b J D n n2 dd a2 sl a4 r)
  ⟨ho,a0,hx,show Value.bool r≠Value.notImplemented/\Q (.bool r) s from⟨(λx=>nomatch x),h⟩⟩ hu
section
variable{X:Cx}
end
def tyD:PyData->String
 | .none=>"NoneType"
 | .bool _=>"bool"
 | .int _=>"int"
 | .str _=>"str"
 | .list _=>"list"
 | .tuple _=>"tuple"
 | .dict _=>"dict"
def qzo(d:PyData):tyD d∈tyTs:=by
 cases d <;> simp[tyD,tyTs]
section
variable{X:Cx}
def q2j(K:xA)(hK:X.K=K:=by rfl):q2b X (.builtin "isinstance") (λxs H Q=>∃x n d,xs=[x,.ty n]/\Dat K H d x/\n∈tyNs/\Q (.bl (tyIs (tyD d) n)) H):=by
 subst hK;intro xC s σ H xs us Q I r h;obtain⟨x,n,d,rfl,hd,hn,q⟩:=h;obtain⟨u,c,rfl,D,rc⟩:=qp6 r;cases rc
 have e:=qxl (K:=X.K) (qzo d) hn;have fin:∀tk,EP X xC σ Q (.bool (tyIs (tyD d) n)) {s with toks:=tk}:=λtk=>⟨.bl _,H,I.tok tk,rfl,q⟩;cases hd with
 | non=>cases D;exact z36 PySem.W.kitx_none I.kIn True.intro e (λz=>nomatch z) fin
 | bl b=>cases D;exact z36 PySem.W.kitx_bool I.kIn True.intro e (λz=>nomatch z) fin
 | int i=>obtain⟨t,rfl⟩:=D;exact z36 PySem.W.kitx_int I.kIn True.intro e (λz=>nomatch z) fin
 | str z h=>obtain⟨t,rfl⟩:=D;exact z36 PySem.W.kitx_str I.kIn True.intro e (λz=>nomatch z) fin
 | lst hq _=>
  cases D
  obtain⟨its,_,⟨o,m,e1,c,_,_⟩,_⟩:=I.list hq;exact z36 PySem.W.kitx_list I.kIn ⟨o,e1,c⟩ e (λz=>nomatch z) fin
 | tup hq _=>
  cases D
  obtain⟨its,_,⟨o,e1,c,_⟩,_⟩:=I.tuple hq;exact z36 PySem.W.kitx_tuple I.kIn ⟨o,e1,c⟩ e (λz=>nomatch z) fin
def rNeD(K:xA):R2:=λx y H Q=>∃d e,Dat K H d x/\Dat K H e y/\d.depth<=60/\Q (.bl (!PyData.eqv d e)) H
def qzp(hu:X.A.units+64 < cLine)(K:xA)(hK:X.K=K:=by rfl):OpR X (compareOp .NotEq) (rNeD K):=by
 subst hK;intro xC s σ H x y v u Q I rx ry h;obtain⟨d,e,hd,D,hz,q⟩:=h;obtain⟨as,ra⟩:=Dat.reads I _ _ _ hd rx;obtain⟨bs,rb⟩:=Dat.reads I _ _ _ D ry;exact SeqAt.compareNe_reads ra rb (Dat.lay _ _ hd) (Dat.lay _ _ D) (ql8 hu hz) (q1h I q rfl)
end
end L2
namespace L2
open PySem PySem.Spec PyProof.Rows PySem.W
def RawD(h:Heap)(d:Addr)(es:Array DictEntry)(ep:Nat):Prop:=∃o,h.get? d=some o/\o.ExactDict/\o.data= .dict es ep
def RawD.lt{h:Heap}{d:Addr}{es:Array DictEntry}{ep:Nat}(x:RawD h d es ep):d < h.objs.size:=let ⟨_,e,_⟩:=x;z3y e
def RawD.ty{s:Shared}{d:Addr}{es:Array DictEntry}{ep:Nat}(x:RawD s.heap d es ep):s.TypeIs (.ref d) "dict":=let ⟨o,e,c,_⟩:=x;⟨o,e,c.1⟩
def RawD.at{h h':Heap}{d:Addr}{es:Array DictEntry}{ep:Nat}(x:RawD h d es ep)(k:∀o,h.get? d=some o->h'.get? d=some o):RawD h' d es ep:=let ⟨o,e,r⟩:=x;⟨o,k o e,r⟩
section
variable{prog:Program}{w:World}{A:Around}{E:xB}{s:Shared}{d it:Addr}{es:Array DictEntry}{ep i:Nat}
def qdh{Q:xB}(hd:(d==sysModules)=false)(x:RawD s.heap d es ep)
  (q:Q (.ref s.heap.objs.size) {s with heap:=s.heap.push {cls:= .type "dict_keyiterator",data:= .fields #[.ref d,.int 0 0,.int es.size 0,.int ep 0]}}):wpAny (model prog w) A (pyIter (.ref d)) Q E s:=by
 obtain⟨o,ho,hc,D⟩:=id x;refine wpAny_pyIter_slot x.ty PySem.F.slot_dict_iter (z2o PySem.F.slot_dict_iter x.ty PySem.F.entry_dict_iter ?_ (PySem.F.args_dict_iter_1 _));unfold Builtin.«dict.__iter__» Builtin.Dict.dictSlotNone;refine z4e (z4e (wpAny_notOrdered_dict x.ty ?_));show wpAny _ _ (pure (Value.ref d)) _ _ s;refine z4d ?_;show wpAny _ _ (Builtin.Dict.showsAll d >>=_) _ _ s;unfold Builtin.Dict.showsAll;rw[if_neg (by rw[hd];exact z1l)];refine z4e (z4d (z4e (z2a ho D (z4e (z37 ho D ?_)))));refine z4e (z28 (z4d ⟨_,zr,"dict_keyiterator",_,⟨_,z1c _ rfl,zr⟩,z00.lookup,?_⟩))
 simpa [rawInt] using q
def qdi{e:DictEntry}{Q:Option Value->Shared->Prop}(D:s.heap.IsKeyIter it d i es.size ep)(x:RawD s.heap d es ep)(hx:es[i]? =some e)
  (q:∀h',h'.IsKeyIter it d (i+1) es.size ep->Heap.SameBut it s.heap h'->Q (some e.key) {s with heap:=h'}):wpAny (model prog w) A (pyNext (.ref it)) Q E s:=by
 obtain⟨o,ho,hc,hd⟩:=id D;obtain⟨od,Z,hcd,O⟩:=id x;unfold pyNext;refine z4e (z3l (wpAny_callSpecial?_slot (name:=Str.ofString "__next__") D.typeIs z00
  (z2o z00 D.typeIs PySem.F.entry_dict_keyiterator_next ?_ (PySem.F.args_dict_keyiterator_next_1 _))))
 refine z4e (z4d (z4e (z4e ?_)));refine z4e (z01 D.typeIs (z4d ?_));refine z4e (wpAny_fieldsOf ho hd ?_);simp only[show Builtin.Dict_items.ownsTuple "dict_keyiterator"=false by decide,z1k,if_false];show wpAny _ _ (if (Value.ref d==Value.none)=true then _ else _) _ _ s;rw[if_neg (show ¬ ((Value.ref d==Value.none)=true) from z1l)];refine z4e (z4d (z4e (z2a Z O ?_)));rw[if_neg (by simp)];refine z4e (z4d (z4e (z37 Z O ?_)));rw[if_neg (by simp)];refine z4d ?_;simp only[show ¬ ((i:Int) < 0) from by lia,if_false,z26,hx];refine z4e ?_;refine z4e (z01 D.typeIs (z4d ?_));refine z4e (wpAny_isOneOf_keyiter D.typeIs ?_);show wpAny _ _ (setField (.ref it) 1 (rawInt ((i:Int)+1)) >>=_) _ _ s;refine z4e (z3h ho hd (by simp) ?_);have J:(s.heap.update it (Obj.mapFields (·.setIfInBounds 1 (rawInt ((i:Int)+1))))).IsKeyIter it d (i+1) es.size ep:=
  ⟨_,z0z _ ho (Obj.isFreed_of_fields (Obj.data_mapFields hd _)),(Obj.cls_mapFields ..).trans hc,by rw[Obj.data_mapFields hd];simp[rawInt]⟩
 refine z4e (z3n ?_);refine z4e (wpAny_isOneOf_keyiter (s:={s with heap:=s.heap.update it (Obj.mapFields (·.setIfInBounds 1 (rawInt ((i:Int)+1))))}) J.typeIs ?_);show wpAny _ _ (pure e.key) _ _ _;exact z4d (z4d ⟨_,zr,z4d (q _ J (z1b ..))⟩)
def qge{Q:Option Value->Shared->Prop}(hh:A.handled=none)(D:s.heap.IsKeyIter it d i es.size ep)(x:RawD s.heap d es ep)(hx:es.size<=i)
  (q:∀h',Heap.ExtBut it s.heap h'->Q none {s with heap:=h'}):wpAny (model prog w) A (pyNext (.ref it)) Q E s:=by
 obtain⟨o,ho,hc,hd⟩:=id D;obtain⟨od,O,hcd,J⟩:=id x;unfold pyNext;refine z4e (z3l (wpAny_callSpecial?_slot (name:=Str.ofString "__next__") D.typeIs z00
  (z2o z00 D.typeIs PySem.F.entry_dict_keyiterator_next ?_ (PySem.F.args_dict_keyiterator_next_1 _))))
 refine z4e (z4d (z4e (z4e ?_)));refine z4e (z01 D.typeIs (z4d ?_));refine z4e (wpAny_fieldsOf ho hd ?_);simp only[show Builtin.Dict_items.ownsTuple "dict_keyiterator"=false by decide,z1k,if_false];show wpAny _ _ (if (Value.ref d==Value.none)=true then _ else _) _ _ s;rw[if_neg (show ¬ ((Value.ref d==Value.none)=true) from z1l)];refine z4e (z4d (z4e (z2a O J ?_)));rw[if_neg (by simp)];refine z4e (z4d (z4e (z37 O J ?_)));rw[if_neg (by simp)];refine z4d ?_;simp only[show ¬ ((i:Int) < 0) from by lia,if_false,z26,z0r hx];refine z4e ?_;refine z4e (z01 D.typeIs (z4d ?_));show wpAny _ _ (setField (.ref it) 0 .none >>=_) _ _ s;refine z4e (z3h ho hd (by simp) ?_);show wpAny _ _ (newExc (.type "StopIteration") [] >>=_) _ _ _;refine z4e ?_;simp only[newExc,newTuple];refine z4e (z28 ?_ (by size_fits));refine z4e (m:=firstArgMember _ _) (wpAny_of_eq (a:=Value.none) (by first | rfl | (simp only[firstArgMember];rfl)) ?_);refine z28 ?_ (by size_fits);simp only[raiseNew];refine z4e (wpAny_handled ?_);rw[show A.in1.handled=none from hh];refine z4e (z4d (wpAny_throw ?_));refine z4e (wpAny_isInstance (T:="StopIteration") (b:=true) ⟨_,z1c _ rfl,zr⟩ isSubtype_stop ?_);exact z4d (q _ (((z1b ..).extBut.push _).push _))
def qrn(hh:A.handled=none)(I d:Addr)(a1:d≠I)(es:Array DictEntry)(ep:Nat):
  Walks prog w A I [I,d] [I] es.size (λi v=>∃e,es[i]? =some e/\v=e.key) (λi h=>h.IsKeyIter I d i es.size ep/\RawD h d es ep) where
 sub:=λb D=>by simp at D;simp[D]
 frame:=λ_ _ _ st hk=>⟨st.1.at λo e=>hk I (by simp) o e,st.2.at λo e=>hk d (by simp) o e⟩
 item:=λi s Q E hi st J=>by
  have hx:es[i]? =some es[i]:=z0b hi;refine qdi st.1 st.2 hx λh' O Z=>?_;exact J es[i].key h' s.toks ⟨es[i],hx,zr⟩ ⟨O,st.2.at λo e=>Z.extBut d o a1 e⟩ λb o D e=>Z.extBut b o (λh=>D (by simp[h])) e
 done:=λs Q E st J=>qge hh st.1 st.2 (z47 _) λh' a0=>J h' s.toks λb o D e=>a0 b o (λh=>D (by simp[h])) e
 self:=λ_ _ _ _ st J=>wpAny_pyIter_keyiter st.1 J
def qxp(lo:(d==sysModules)=false):KdlSrc prog w "dict" d d es.size (λi v=>∃e,es[i]? =some e/\v=e.key) (λh=>RawD h d es ep) where
 type:=λ_ D=>D.ty
 there:=λ_ D=>⟨D.lt,D.lt⟩
 keep:=λ_ _ D hk=>D.at λo e=>hk d (.inl rfl) o e
 notList:=by decide
 notTuple:=by decide
 hint:=λ_ _ _ _ D hq=>kdl_hint_dict D.ty hq
 iter:=λ_ _ hh D=>⟨_,_,(λ_ _ hq=>qdh lo D hq),qrn hh _ d (z3z D.lt) es ep,⟨⟨_,z1c _ rfl,rfl,rfl⟩,D.at λo e=>z0o _ e⟩⟩
def q8t{R:List Value->Shared->Prop}(hh:A.handled=none)(lo:(d==sysModules)=false)(x:RawD s.heap d es ep)(hn:es.size<=sizeLine)
  (h:∀(h':Heap) (tk:Nat),(∀b o,s.heap.get? b=some o->h'.get? b=some o)->s.heap.objs.size<=h'.objs.size->R (es.toList.map (·.key)) {s with heap:=h',toks:=tk}):wpAny (model prog w) A (collect (.ref d)) R E s:=by
 have fin:∀(acc:Array Value),ItemsOf (λi v=>∃e,es[i]? =some e/\v=e.key) acc es.size->acc.toList=es.toList.map (·.key):=λacc O=>by
  apply z21
  intro j;rw[z22,z0x,z0x];cases e:acc[j]? with
  | some v=>
   obtain⟨e',he,rfl⟩:=O.2 j v e;rw[he];rfl
  | none=>
   have:acc.size<=j:=by simpa using e
   rw[O.1]at this;rw[z0r this];rfl
 unfold collect;refine z4e (wpAny_runValue (z38 entry_proto_collect' ?_));rw[Around.under_plainId PySem.F.plain_proto_collect _];show wpAny _ A.in1 (newList [] >>=λl=>again (.builtin "list.__iadd__" ⟨[l,.ref d],[]⟩)) _ _ s;refine z4e (z28 ?_);refine z4d ⟨plainId_quiet z0j _,z38 entry_list_iadd' ?_⟩;rw[Around.under_plainId z0j _];have hS:(s.heap.push {cls:= .type "list",data:= .seq ([]:xH).toArray}).get? s.heap.objs.size=some {cls:= .type "list",data:= .seq #[]}:=z1c _ rfl;show wpAny _ A.in1 (Builtin.List.listExtendWith (.ref s.heap.objs.size) (.ref d) (.ref s.heap.objs.size)) _ _ _;have key:=kdl_extend (A:=A) (s:={s with heap:=s.heap.push {cls:= .type "list",data:= .seq ([]:xH).toArray}}) (qxp (prog:=prog) (w:=w) (es:=es) (ep:=ep) lo) hh (x.at λo e=>z0o _ e) s.heap.objs.size
  (z41 x.lt) (z41 x.lt) (.ref s.heap.objs.size) 0 hS
  (R:=λ(q:Result) (s':Shared)=>∃(h':Heap) (tk:Nat) (D:Array Value) (Z:Nat),q= .ok (.ret (.ref s.heap.objs.size))/\s'={s with heap:=h',toks:=tk}/\(∀b o,s.heap.get? b=some o->h'.get? b=some o)/\
   h'.get? s.heap.objs.size=some {cls:= .type "list",dict:=none,data:= .seq D Z,slots:=#[]}/\D.toList=es.toList.map (·.key))
  (λh' tk D Z hk J a0=>⟨h',tk,D,Z,rfl,rfl,λb o e=>hk b o (z3z (z3y e)) (z0o _ e),J,fin D a0⟩) hn
 refine z4f key (λf s' y=>?_) λe s' y=>?_
 ·cases f with
  | done f=>
   obtain⟨h',tk,D,Z,e,rfl,hk,J,O⟩:=y;cases e
   show wpAny _ A (load s.heap.objs.size >>=_) _ _ _;refine z4e (wpAny_load J (z4d ?_));show R D.toList _;rw[O];exact h h' tk hk (z3x (z3y J))
  | again c=>
   refine⟨y.1,z42 y.2 λq s2 z=>?_⟩;obtain⟨h',tk,D,Z,rfl,rfl,hk,J,O⟩:=z;show wpAny _ A (load s.heap.objs.size >>=_) _ _ _;refine z4e (wpAny_load J (z4d ?_));show R D.toList _;rw[O];exact h h' tk hk (z3x (z3y J))
 ·obtain⟨_,_,_,_,e',_⟩:=y;cases e'
def q9p{T:String}{o:Obj}{D:Array Value}{n:Nat}{l:Addr}{R:List Value->Shared->Prop}(hT:T="list"\/ T="tuple")(ho:s.heap.get? l=some o)(hc:o.cls= .type T)(hd:o.data= .seq D n)(hz:D.size<=sizeLine)
  (h:∀(h':Heap) (tk:Nat),(∀b o,s.heap.get? b=some o->h'.get? b=some o)->s.heap.objs.size<=h'.objs.size->R D.toList {s with heap:=h',toks:=tk}):wpAny (model prog w) A (collect (.ref l)) R E s:=by
 unfold collect;refine z4e (wpAny_runValue (z38 entry_proto_collect' ?_));show wpAny _ _ (do again (.builtin "list.__iadd__" ⟨[<- newList [],.ref l],[]⟩)) _ _ s;refine z4e (wpAny_newList (z4d ⟨Code.quiet_builtin _ (by decide+kernel),z38 entry_list_iadd' ?_⟩));show wpAny _ _ (Builtin.List.listExtendWith (.ref s.heap.objs.size) (.ref l) (.ref s.heap.objs.size)) _ _ {s with heap:=s.heap.push (seqObj "list" #[] 0)};unfold Builtin.List.listExtendWith;have J:(s.heap.push (seqObj "list" #[] 0)).get? l=some o:=z0o _ ho;refine z4e (wpAny_typeOf (T:=T) ⟨o,J,hc⟩ ?_);have ht:((Value.type T==Value.type "list") || (Value.type T==Value.type "tuple"))=true:=by rcases hT with rfl | rfl <;> rfl
 rw[if_pos (by rw[Bool.or_assoc,ht];simp)];refine z4e (listItems_at J hd ?_);refine z4e (listItems_at (xs:=#[]) (n:=0) (z1c _ rfl) rfl ?_);rw[if_neg (by simp)];refine z4e (listUpdate_at (xs:=#[]) (n:=0) (z1c _ rfl) rfl ?_ (z4a _) (by rw[Array.size_append];simp;lia));refine z4d ?_;show wpAny (model prog w) A (load s.heap.objs.size >>=λo=>match o.data with
   | .seq xs _=>pure xs.toList
   | _=>unsupported "internal:collect") R E {s with heap:=(s.heap.push (seqObj "list" #[] 0)).update s.heap.objs.size (Obj.mapSeq (· ++D))}
 refine z4e (wpAny_load (get?_update_seq (z1c _ rfl) _) ?_);show wpAny _ _ (pure ((#[]:Array Value)++D).toList) R E _;rw[show ((#[]:Array Value)++D).toList=D.toList by simp];refine z4d (h _ s.toks (λb o e=>?_) (by rw[Heap.size_update,size_push'];lia));exact(z0p _ _ (z41 (z3y e))).trans (z0o _ e)
def q4k{x:Value}{vs:xH}{rk:Value->Int}{Q:xB}(hz:vs.length<=sizeLine)
  (hc:∀(O:Around) (E':xB) (R:List Value->Shared->Prop),O.handled=A.handled->(∀h' tk,(∀b o,s.heap.get? b=some o->h'.get? b=some o)->s.heap.objs.size<=h'.objs.size->R vs {s with heap:=h',toks:=tk})->wpAny (model prog w) O (collect x) R E' s)
  (hk:∀(O:Around) (s':Shared) (a:Addr),O.units<=A.units+4->s.heap.objs.size<=a->(∀b o,s.heap.get? b=some o->s'.heap.get? b=some o)->Tim.Keys prog w O s' a vs rk)
  (h:∀(out:Array Value) (l:Addr) (n:Nat) (h':Heap) (tk:Nat),Tim.Sorted rk vs out.toList->(∀b o,s.heap.get? b=some o->h'.get? b=some o)->s.heap.objs.size<=l->h'.get? l=some (seqObj "list" out n)->Q (.ref l) {s with heap:=h',toks:=tk}):
  wpAny (model prog w) A (call (.builtin "sorted") [x]) Q E s:=by
 refine Calls.call_function_entry kind_sorted plain_sorted entry_sorted (args_sorted1 _) ?_;unfold Builtin.«sorted»;refine z4e (m:=checkCount "sorted" 1 1 _) (z4d ?_);refine z4e (hc _ _ _ rfl λh1 tk keep hsz=>?_);refine z4e (wpAny_newList ?_ hz);have J:(h1.push (seqObj "list" vs.toArray 0)).get? h1.objs.size=some (seqObj "list" vs.toArray 0):=z1c _ rfl;show wpAny _ _ _ _ _ {s with heap:=h1.push (seqObj "list" vs.toArray 0),toks:=tk};have D:∀b o,s.heap.get? b=some o->(h1.push (seqObj "list" vs.toArray 0)).get? b=some o:=λb o e=>z0o _ (keep b o e);refine z4e (z3n (z2o slot_list_sort ⟨_,J,zr⟩ entry_list_sort (Tim.qaf J hz (hk _ _ _ ?_ hsz D) λout so=>⟨_,zr,?_⟩) (args_list_sort _)))
 ·show A.units+2<=A.units+4
  lia
 ·have Z:∀b o,s.heap.get? b=some o->b≠h1.objs.size:=λb o e=>z3z (z1r (z3y e) hsz);have u1:=z1b (h1.push (seqObj "list" vs.toArray 0)) h1.objs.size (Obj.mapSeq λ_=>(#[]:Array Value));obtain⟨e1,g1⟩:∃e1,((h1.push (seqObj "list" vs.toArray 0)).update h1.objs.size (Obj.mapSeq λ_=>(#[]:Array Value))).get? h1.objs.size=some (seqObj "list" #[] e1):=⟨_,get?_update_seq J λ_=>#[]⟩;have g2:=z0o (seqObj "list" #[] 0) (z0o (seqObj "tuple" vs.toArray 0) g1);have g3:=get?_update_seq g2 λ_=>out;have u4:=z1b (((((h1.push (seqObj "list" vs.toArray 0)).update h1.objs.size (Obj.mapSeq λ_=>(#[]:Array Value))).push (seqObj "tuple" vs.toArray 0)).push (seqObj "list" #[] 0))) h1.objs.size (Obj.mapSeq λ_=>out);refine z4d ⟨_,zr,h out h1.objs.size _ _ tk so (λb o e=>?_) hsz g3⟩;refine(u4.2 b (Z b o e)).trans (z0o _ (z0o _ ((u1.2 b (Z b o e)).trans (D b o e))))
end
end L2
namespace Tim
section
variable{α:Type}
def srt(lt:α->α->Bool)(l:List α):List α:=l.mergeSort λa b=> !lt b a
def q13(lt:α->α->Bool)(l:List α):(srt lt l).Perm l:=List.mergeSort_perm _ _
def q23{lt:α->α->Bool}(h:STO lt)(l:List α):(srt lt l).Pairwise λa b=>lt b a=false:=by
 have:=List.pairwise_mergeSort (le:=λa b=> !lt b a) (λa b c h1 h2=>by
  cases e:lt c a with
  | false=>rfl
  | true=>
   rcases h.nt b e with q | q
   ·rw[q]at h2;cases h2
   ·rw[q]at h1;cases h1) (λa b=>by
  cases e:lt b a with
  | false=>rfl
  | true=>
   rw[h.asym e];rfl) l
 exact List.Pairwise.imp (λ{a b} (z:(!lt b a)=true)=>by simpa using z) this
def q97{lt:α->α->Bool}(h:STO lt){l k:List α}(p:k.Perm l)(a:k.Pairwise λa b=>lt b a=false):k=srt lt l:=h.uniq (p.trans (q13 lt l).symm) a (q23 h l)
end
section
open PySem
def q3d{α:Type}{lt:α->α->Bool}(h:STO lt)(D:Value->α){vs out:xH}(J:Sorted (λv=>rank lt (vs.map D) (D v)) vs out):out.map D=srt lt (vs.map D):=by
 refine q97 h (J.perm.map D) ?_;rw[List.pairwise_map];refine List.Pairwise.imp_of_mem (λ{x y} hx hy hr=>?_) J.asc;have mx:D x∈vs.map D:=z44.mpr ⟨x,J.perm.mem_iff.mp hx,rfl⟩;have my:D y∈vs.map D:=z44.mpr ⟨y,J.perm.mem_iff.mp hy,rfl⟩;rw[qnv (λa _=>h.irr a) (λa _ b _ c _=>h.tr a b c) (λa _ b _ c _ z=>h.nt b z) my mx];exact z2w (by lia)
def qdj{α:Type}{lt:α->α->Bool}(h:STO lt)(D:Value->α){vs:xH}{x y:Value}(hx:x∈vs)(hy:y∈vs):lt (D x) (D y)=decide (rank lt (vs.map D) (D x) < rank lt (vs.map D) (D y)):=
 qnv (λa _=>h.irr a) (λa _ b _ c _=>h.tr a b c) (λa _ b _ c _ z=>h.nt b z) (z44.mpr ⟨x,hx,rfl⟩) (z44.mpr ⟨y,hy,rfl⟩)
end
end Tim
namespace L2
open PySem PySem.Spec PyProof.Rows PySem.W
def q19(x y:Str):Bool:=decide (x.cps.toList < y.cps.toList)
def q24:Tim.STO q19:=by
 have h:=(Tim.qws.lex).map (λz:Str=>z.cps.toList) (λa b e=>by
  cases a
  cases b
  congr
  exact Array.toList_inj.mp e)
 have e:q19=λa b:Str=>Tim.lexB (λx y:Nat=>decide (x < y)) a.cps.toList b.cps.toList:=by
  funext a b
  exact Tim.qnw _ _
 rw[e];exact h
def q17(a b:xD):Bool:=Tim.lexB q19 a b
def q28:Tim.STO q17:=q24.lex
def sOf:Value->Str
 | .str x _=>x
 | _=>""
def q5z{ws:xD}:∀{us:xH},Vals (ws.map V.str) us->us.map sOf=ws/\(∀u∈us,∃x t,u= .str x t)/\StrsAre us ws:=by
 induction ws with
 | nil=>
  intro us r;cases r
  exact⟨rfl,(λ_ z=>nomatch z),.nil⟩
 | cons x ws ih=>
  intro us r;cases r with
  | cons r1 rr=>
   obtain⟨t,rfl⟩:=r1;obtain⟨a,b,c⟩:=ih rr;refine⟨by rw[z3k,a];rfl,λu D=>?_,.cons x t c⟩;rcases z3m.mp D with rfl | D
   ·exact⟨x,t,zr⟩
   ·exact b u D
theorem q45:∀{us:xH},(∀u∈us,∃x t,u= .str x t)->Vals ((us.map sOf).map V.str) us
 | [],_=> .nil
 | u::us,h=>by
  obtain⟨x,t,rfl⟩:=h u (z1p ..);exact .cons ⟨t,zr⟩ (q45 λv hv=>h v (z16 _ hv))
section
variable{prog:Program}{w:World}{A:Around}{s:Shared}{a:Addr}
def qb3{ws:xD}{vs:xH}(r:Vals (ws.map V.str) vs):Tim.Keys prog w A s a vs (λv=>Tim.rank q19 (vs.map sOf) (sOf v)):=by
 intro h2 s' _;obtain⟨e1,e2,e3⟩:=q5z r;refine⟨oneType',λE Q q=>?_,λx hx y hy E Q q=>?_⟩
 ·match vs,h2,e3 with
  | v1::v2::vr,_,e3=>
   rw[keyKind_strs e3];exact z4d q
 ·rw[<- Tim.qdj q24 sOf hx hy]at q;obtain⟨x',t,rfl⟩:=e2 x hx;obtain⟨y',u,rfl⟩:=e2 y hy;rw[keyLt'_oneType];exact oneLt_str q
end
section
variable{X:Cx}
def Inv.q3e{xC:xG}{σ:St}{H:Hp}{s:Shared}{xs:List V}{out:Array Value}{l:Addr}{n tk:Nat}{h':Heap}{Q:VK}(I:Inv X xC σ H s)(rv:Vals xs out.toList)(hz:xs.length<=sizeLine)
  (keep:∀b o,s.heap.get? b=some o->h'.get? b=some o) (hl:s.heap.objs.size<=l) (hg:h'.get? l=some (seqObj "list" out n)) (q:Q (.ref l) (upd H l (.lst xs))):EP X xC σ Q (.ref l) {s with heap:=h',toks:=tk}:=by
 refine⟨.ref l,_,I.laid (a:=l) (o:= .lst xs) (t':=tk) keep hl ⟨hz,out.toList,n,rv,?_⟩,zr,q⟩;rw[Array.toArray_toList];exact hg
def qla(K:xA)(hK:X.K=K:=by rfl):q2b X (.builtin "sorted") (λxs H Q=>∃p ws,xs=[.ref p]/\(SqL K H p (ws.map V.str)\/ SqT K H p (ws.map V.str))/\∀l,H l=none->Q (.ref l) (upd H l (.lst ((Tim.srt q19 ws).map V.str)))):=by
 subst hK;intro xC s σ H xs us Q I r h;obtain⟨p,ws,rfl,J,q⟩:=h;obtain⟨u,rfl,ru⟩:=q2k r;cases ru
 obtain⟨T,o,its,n,hT,ho,hc,hd,rv,hz⟩:∃(T:String) (o:Obj) (its:xH) (n:Nat),(T="list"\/ T="tuple")/\s.heap.get? p=some o/\o.cls= .type T/\o.data= .seq its.toArray n/\Vals (ws.map V.str) its/\(ws.map V.str).length<=sizeLine:=by
  rcases J with J | J
  ·obtain⟨its,rv,⟨o,n,e,c,_,d⟩,z⟩:=I.list J;exact⟨"list",o,its,n,.inl rfl,e,c,d,rv,z⟩
  ·obtain⟨its,rv,⟨o,e,c,n,d⟩,z⟩:=I.tuple J;exact⟨"tuple",o,its,n,.inr rfl,e,c,d,rv,z⟩
 have hl:its.length<=sizeLine:=by rw[<- rv.length];exact hz
 obtain⟨e1,e2,_⟩:=q5z rv;refine q4k (vs:=its) (rk:=λv=>Tim.rank q19 (its.map sOf) (sOf v)) hl (λA' E' R _ k=>q9p hT ho hc hd (by rw[z23];exact hl) (by rw[z1g];exact k)) (λA' s' a _ _ _=>qb3 rv) λout l n h' tk so keep D hg=>?_;have Z:∀u∈out.toList,∃x t,u= .str x t:=λu hu=>e2 u (so.perm.mem_iff.mp hu);have ed:=Tim.q3d q24 sOf so;rw[e1]at ed;have O:=q45 Z;rw[ed]at O;exact I.q3e O (by rw[z30,(Tim.q13 q19 ws).length_eq];rw[z30]at hz;exact hz) keep D hg (q l (I.hok.fresh D))
end
def TupAt(h:Heap)(v:Value)(p:xD):Prop:=∃(b:Addr) (o:Obj) (its:Array Value) (n:Nat),v= .ref b/\h.get? b=some o/\o.cls= .type "tuple"/\o.data= .seq its n/\Vals (p.map V.str) its.toList
section
variable{prog:Program}{w:World}{A:Around}{E:xB}{s:Shared}{a:Addr}
def qlb(x y:Str)(t u:Tok):SeqAt.EqAt A s (.str x t) (.str y u) (decide (x=y)):=λprog w E Q h=>wpAny_eqBool_str h
def qcx(x y:Str)(p q:xD):q17 (x::p) (y::q)=if x=y then q17 p q else q19 x y:=rfl
theorem q9q:∀(p q:xD) (us vs:xH),Vals (p.map V.str) us->Vals (q.map V.str) vs->LexAt A s us vs (q17 p q)
 | [],[],_,_,r1,r2=>by cases r1;cases r2;exact .nn
 | [],_::_,_,_,r1,r2=>by cases r1;cases r2;exact .nc
 | _::_,[],_,_,r1,r2=>by cases r1;cases r2;exact .cn
 | x::p,y::q,_,_,r1,r2=>by
  cases r1 with
  | cons a1 r1=>
   cases r2 with
   | cons a2 r2=>
    obtain⟨t,rfl⟩:=a1;obtain⟨u,rfl⟩:=a2;have D:=qlb (A:=A) (s:=s) x y t u;rw[qcx];by_cases h:x=y
    ·rw[if_pos h];rw[z3b h]at D;exact .eq D (q9q p q _ _ r1 r2)
    ·rw[if_neg h];rw[z2w h]at D;exact .lt D λprog w E Q k=>(lt_str k:wpAny (model prog w) A (compareOp .Lt _ _) Q E s)
def qpe(c:Bool)(x y:Str)(t u:Tok){Q:Bool->Shared->Prop}(h:Q (q19 x y) s):wpAny (model prog w) A (oneLt' c (.str x t) (.str y u)) Q E s:=by
 cases c with
 | true=>exact oneLt_str h
 | false=>exact kat_one _ _ (lt_str h)
theorem qcy{c fin:Bool}{Q:Bool->Shared->Prop}:∀(p q:xD) (us vs:xH) (i:Nat),Vals (p.map V.str) us->Vals (q.map V.str) vs->fin=decide (us.length < vs.length)->Q (q17 p q) s->KatLex prog w A c fin Q (us.zip vs) i s
 | [],[],_,_,i,r1,r2,hf,h=>by
  cases r1
  cases r2
  rw[List.zip_nil_left,hf];exact h
 | [],_::_,_,_,i,r1,r2,hf,h=>by
  cases r1
  cases r2
  rw[List.zip_nil_left,hf];refine kat_nil ?_;rw[z3b (by simp)];exact h
 | _::_,[],_,_,i,r1,r2,hf,h=>by
  cases r1
  cases r2
  rw[List.zip_nil_right,hf];refine kat_nil ?_;rw[z2w (by simp)];exact h
 | x::p,y::q,_,_,i,r1,r2,hf,h=>by
  cases r1 with
  | cons a1 r1=>
   cases r2 with
   | cons a2 r2=>
    obtain⟨t,rfl⟩:=a1;obtain⟨u,rfl⟩:=a2;rw[z1t];rw[qcx]at h;refine kat_cons (qlb x y t u prog w _ _ ?_);by_cases e:x=y
    ·rw[if_pos e]at h;rw[z3b e];exact kat_yes (qcy p q _ _ (i+1) r1 r2 (by rw[hf];simp) h)
    ·rw[if_neg e]at h;rw[z2w e];exact kat_no (qpe _ x y t u h)
def qpf{x y:Value}{p q:xD}(hx:TupAt s.heap x p)(hy:TupAt s.heap y q)(c:Bool):Tim.KLt prog w A s (tuples' c) x y (q17 p q):=by
 obtain⟨b,o,its,n,rfl,e1,_,d1,r1⟩:=hx;obtain⟨b',o',its',n',rfl,e2,_,d2,r2⟩:=hy;intro E Q k;exact kat_lt e1 d1 e2 d2 (qcy p q _ _ 0 r1 r2 (by rw[z19,z19]) k)
def qxq{x y:Value}{p q:xD}(hx:TupAt s.heap x p)(hy:TupAt s.heap y q)(hu:A.units < cLine):LtAt A s x y (q17 p q):=by
 obtain⟨b,o,its,n,rfl,e1,c1,d1,r1⟩:=hx;obtain⟨b',o',its',n',rfl,e2,c2,d2,r2⟩:=hy;exact qu9 ⟨o,e1,c1,n,d1⟩ ⟨o',e2,c2,n',d2⟩ (q9q p q _ _ r1 r2) hu
def qn8{x y:Value}{p q:xD}(hx:TupAt s.heap x p)(hy:TupAt s.heap y q)(hu:A.units < cLine):Tim.KLt prog w A s general' x y (q17 p q):=by
 intro E Q k;exact kat_one x y (qxq hx hy hu prog w E _ k)
def qxr{x y:Value}{p q:xD}(hx:TupAt s.heap x p)(hy:TupAt s.heap y q)(hu:A.units < cLine):Tim.KLt prog w A s oneType' x y (q17 p q):=by
 obtain⟨b,⟨cls,dd,data,sl⟩,its,n,rfl,e1,Z,d1,r1⟩:=hx;obtain⟨b',⟨a0,J,D,O⟩,its',n',rfl,e2,c2,d2,r2⟩:=hy;simp only at Z d1 c2 d2;subst Z d1 c2 d2;intro E Q k;rw[keyLt'_oneType,oneLt'_eq];simp only[if_true];refine z4e (wpAny_cRoomFor hu ?_);refine z4e (wpAny_callSpecialIfBound?_slot ⟨_,e1,zr⟩ PySem.F.slot_tuple_lt (call_meets PySem.F.slot_tuple_lt ⟨_,e1,zr⟩ PySem.F.entry_tuple_lt (PySem.F.args_tuple_lt_2 _ _) (qb2 b b' its its' n n' dd J sl O (q17 p q)) ⟨e1,e2,q9q p q _ _ r1 r2,?_⟩));exact z24 k
def TupAt.keep{h h':Heap}{v:Value}{p:xD}(x:TupAt h v p)(k:∀b o,v= .ref b->h.get? b=some o->h'.get? b=some o):TupAt h' v p:=
 let ⟨b,o,its,n,e,g,r⟩:=x
 ⟨b,o,its,n,e,k b o e g,r⟩
theorem qcz:∀(vs:xH) (ps:xF),Paired (TupAt s.heap) vs ps->∃fs:List (Option Value),(∀(M:Model) (A:Around) (E:xB) (Q:List (Option Value)->Shared->Prop),Q fs s->wpAny M A (vs.mapM firstOfTuple') Q E s)/\fs.length=vs.length/\
  ∀f∈fs,∀v,f=some v->∃x t,v= .str x t
 | [],[],_=>⟨[],λM A E Q q=>by rw[List.mapM_nil];exact z4d q,rfl,λ_ z=>nomatch z⟩
 | v::vs,p::ps,.cons h hr=>by
  obtain⟨fs,g1,g2,g3⟩:=qcz vs ps hr;obtain⟨b,o,its,n,rfl,ho,hc,hd,r⟩:=h;refine⟨its[0]? ::fs,λM A E Q q=>?_,by rw[z2i,g2,z2i],λf hf v e=>?_⟩
  ·rw[List.mapM_cons];refine z4e ?_;rw[kas_first_eq];refine z4e (Looks.here (show Looks M s.heap (typeOf (.ref b)) o.cls from(Looks.ld ho).andThen .now) ?_);rw[hc,if_neg (by decide)];refine z4e (listItems_at ho hd (z4d ?_));exact z4e (g1 M A E (λbs s'=>wpAny M A (pure (its[0]? ::bs)) Q E s') (z4d q))
  ·rcases z3m.mp hf with rfl | hf
   ·obtain⟨_,h2,_⟩:=q5z r;exact h2 v (by rw[<- z0x]at e;exact z18 e)
   ·exact g3 f hf v e
theorem qd0:∀(vs:xH),(∀v∈vs,∃x t,v= .str x t)->vs.mapM typeOf=pure (vs.map λ_=>Value.type "str")
 | [],_=>by simp
 | v::vs,h=>by
  obtain⟨x,t,rfl⟩:=h v (z1p ..);rw[List.mapM_cons,qd0 vs λu hu=>h u (z16 _ hu)];show (pure (Value.type "str") >>=λb=>pure _ >>=λbs=>pure (b::bs))=_;simp
def qro{vs:xH}{ps:xF}(h:Paired (TupAt s.heap) vs ps)(h2:2<=vs.length):∃kd:SortKind,(kd=tuples' true\/ kd=general'\/ kd=oneType')/\∀(M:Model) (A:Around) (E:xB) (Q:SortKind->Shared->Prop),Q kd s->wpAny M A (keyKind' vs.toArray) Q E s:=by
 obtain⟨fs,g1,g2,g3⟩:=qcz vs ps h;by_cases D:(fs.toArray.all λx=>x.isSome)=true
 ·refine⟨tuples' true,.inl rfl,λM A E Q q=>?_⟩;rw[kat_kind_eq,z2b,map_eq_pure_bind];refine z4e (z4e (g1 M A E _ (z4d ?_)));rw[if_pos D];refine z4e (z4c ?_);obtain⟨Z,fr,e⟩:∃Z fr,fs=Z::fr:=by
   cases e:fs with
   | nil=>rw[e]at g2;simp at g2;lia
   | cons Z fr=>exact⟨Z,fr,rfl⟩
  have hs:∀v∈fs.filterMap id,∃x t,v= .str x t:=λv O=>by
   obtain⟨f,hf,e⟩:=List.mem_filterMap.mp O;exact g3 f hf v e
  have a0:fs.toArray.filterMap id=(fs.filterMap id).toArray:=by simp
  rw[a0,oneTypeOnly'_eq,z2b,qd0 _ hs];simp only[map_pure,pure_bind];have h0:∃v J,fs.filterMap id=v::J:=by
   rw[e]at D ⊢;cases Z with
   | none=>simp at D
   | some v=>exact⟨v,fr.filterMap id,rfl⟩
  obtain⟨v,J,ev⟩:=h0;rw[ev];have ha:((List.map (λ_=>Value.type "str") (v::J)).toArray.all λx=>x==Value.type "str")=true:=by
   simp only[List.all_toArray,z45,z2n];intro _ _;rfl
  have hz:(List.map (λ_=>Value.type "str") (v::J)).toArray[0]? =some (Value.type "str"):=by simp
  rw[hz];simp only[ha,if_true,pure_bind];exact z4d q
 ·by_cases hf:(fs.toArray[0]?.bind id).isSome=true
  ·refine⟨general',.inr (.inl rfl),λM A E Q q=>?_⟩;rw[kat_kind_eq,z2b,map_eq_pure_bind];refine z4e (z4e (g1 M A E _ (z4d ?_)));rw[if_neg D,if_pos hf];exact z4d q
  ·refine⟨oneType',.inr (.inr rfl),λM A E Q q=>?_⟩;rw[kat_kind_eq,z2b,map_eq_pure_bind];refine z4e (z4e (g1 M A E _ (z4d ?_)));rw[if_neg D,if_neg hf,oneTypeOnly'_eq,z2b,map_eq_pure_bind];have a1:∀v∈vs,Looks M s.heap (typeOf v) (.type "tuple"):=λv O=>by
    obtain⟨p,b,o,its,n,rfl,ho,hc,_⟩:∃p,TupAt s.heap v p:=by
     clear g1 g2 g3 D hf h2 q
     induction h with
     | nil=>cases O
     | cons a r ih=>
      rcases z3m.mp O with e | O
      ·rw[e];exact⟨_,a⟩
      ·exact ih O
    rw[<- hc];exact(Looks.ld ho).andThen .now
   refine z4e (z4e (z4e (kas_mapM (r:=Value.type "tuple") _ (λv O Q' hq=>(a1 v O).here hq) (z4d ?_))));obtain⟨v,J,ev⟩:∃v J,vs=v::J:=by
    cases e:vs with
    | nil=>rw[e]at h2;simp at h2
    | cons v J=>exact⟨v,J,rfl⟩
   rw[ev];have ha:((List.map (λ_=>Value.type "tuple") (v::J)).toArray.all λx=>x==Value.type "tuple")=true:=by
    simp only[List.all_toArray,z45,z2n];intro _ _;rfl
   have hz:(List.map (λ_=>Value.type "tuple") (v::J)).toArray[0]? =some (Value.type "tuple"):=by simp
   rw[hz];simp only[ha,if_true];exact z4d (z4d q)
theorem q4l{α β:Type}{F:α->β->Prop}{f:α->β}:∀{l:List α} {k:List β},Paired F l k->(∀x y,F x y->f x=y)->l.map f=k/\∀x∈l,F x (f x)
 | _,_,.nil,_=>⟨rfl,λ_ z=>nomatch z⟩
 | _,_,.cons a r,h=>by
  obtain⟨e,m⟩:=q4l r h;have e1:=h _ _ a;refine⟨by rw[z3k,e,e1],λx hx=>?_⟩;rcases z3m.mp hx with rfl | hx
  ·rw[e1];exact a
  ·exact m x hx
def qi9{vs:xH}{ps:xF}(D:Value->List Str)(h:Paired (λv p=>TupAt s.heap v p/\D v=p) vs ps)(ha:s.heap.objs.size<=a){s1:Shared}(hk:∀b o,s.heap.get? b=some o->s1.heap.get? b=some o)(hu:A.units < cLine):
  Tim.Keys prog w A s1 a vs (λv=>Tim.rank q17 (vs.map D) (D v)):=by
 intro h2 s' keep;have up:∀v p,TupAt s.heap v p->TupAt s'.heap v p:=λv p x=>x.keep λb o _ e=>keep b o (z3z (z1r (z3y e) ha)) (hk b o e);obtain⟨_,Z⟩:=q4l h λ_ _ z=>z.2;obtain⟨kd,O,J⟩:=qro (s:=s') (Paired.mapP h λv p z=>up v p z.1) h2;refine⟨kd,λE Q q=>J _ A E Q q,λx hx y hy=>?_⟩;rw[<- Tim.qdj q28 D hx hy];have tx:=up x _ (Z x hx).1;have ty:=up y _ (Z y hy).1;rcases O with rfl | rfl | rfl
 ·exact qpf tx ty true
 ·exact qn8 tx ty hu
 ·exact qxr tx ty hu
end
def q98(p:xD):(p.map (Sum.inr:Str->Key)).map kV=p.map V.str:=by
 rw[z46];rfl
def decT(H:Hp):Value->List Str
 | .ref a=>match H a with
  | some (.tup xs)=>xs.map λx=>match x with | .str z=>z | _=>""
  | _=>[]
 | _=>[]
def qc6{H:Hp}{a:Addr}{p:xD}(h:H a=some (.tup (p.map V.str))):decT H (.ref a)=p:=by
 simp only[decT,h];rw[z46];exact(z1f λ_ _=>rfl).trans (z4b p)
section
variable{X:Cx}
def qk9(H:Hp)(vs:xH)(ps:xF):Prop:=Paired (λv p=>∃b,v=Value.ref b/\H b=some (.tup (p.map V.str))) vs ps
def qlc(hu:X.A.units+64 < cLine)(hc:X.calm=true)(K:xA)(hK:X.K=K:=by rfl):q2b X (.builtin "sorted") (λxs H Q=>∃(d:Addr) (kvs:List (List Str×V)),xs=[.ref d]/\H d=some (.dT (kvs.map λkv=>(kv.1.map Sum.inr,kv.2)))/\
  ∀l zs,H l=none->Paired (λx p=>∃b,x=V.ref b/\H b=some (.tup (p.map V.str))) zs (Tim.srt q17 (kvs.map (·.1)))->Q (.ref l) (upd H l (.lst zs))):=by
 subst hK;intro xC s σ H xs us Q I r h;obtain⟨d,kvs,rfl,hd,q⟩:=h;obtain⟨u,rfl,ru⟩:=q2k r;cases ru
 obtain⟨hz,a6,es0,J,o,es,ep,ho,hx,Z,a1,hnd⟩:=I.hok d _ hd;have a0:es.size=kvs.length:=by
  rw[<- z19,a1,z30,<- J.length,z30]
 have D:qk9 H (es.toList.map (·.key)) (kvs.map (·.1)):=by
  rw[a1,z46];clear hz a1 Z a0 ho q hd hnd;unfold qk9;revert J;generalize hk:(kvs.map λkv=>(kv.1.map (Sum.inr:Str->Key),kv.2))=ks;intro J
  induction J generalizing kvs with
  | nil=>
   have:kvs=[]:=by simpa using hk
   subst this;exact .nil
  | cons a rr ih=>
   cases kvs with
   | nil=>simp at hk
   | cons kv kvs=>
    rw[z3k,z2v]at hk;obtain⟨rfl,hk⟩:=hk;refine .cons ⟨_,zr,?_⟩ (ih kvs hk);obtain⟨_,a2,_⟩:=a;rw[q98]at a2;exact a2
 have a4:∀v p,(∃b,v=Value.ref b/\H b=some (.tup (p.map V.str)))->TupAt s.heap v p:=λv p ⟨b,e,hb⟩=>by
  obtain⟨_,its,rv,o,e1,c,n,dd⟩:=I.hok b _ hb;exact⟨b,o,its.toArray,n,e,e1,c,dd,by rw[z1g];exact rv⟩
 have O:Paired (λv p=>TupAt s.heap v p/\decT H v=p) (es.toList.map (·.key)) (kvs.map (·.1)):=Paired.mapP D λv p z=>⟨a4 v p z,by
  obtain⟨b,rfl,hb⟩:=z;exact qc6 hb⟩
 have ev:(es.toList.map (·.key)).map (decT H)=kvs.map (·.1):=(q4l O λ_ _ z=>z.2).1;have mem:∀v∈es.toList.map (·.key),∃b,v=Value.ref b/\H b=some (.tup ((decT H v).map V.str)):=(q4l (f:=decT H) D λv p ⟨b,e,hb⟩=>by
  rw[e];exact qc6 hb).2
 have hl:(es.toList.map (·.key)).length<=sizeLine:=by
  rw[z30,z19,a0];rw[z30]at hz;exact hz
 refine q4k (vs:=es.toList.map (·.key)) (rk:=λv=>Tim.rank q17 ((es.toList.map (·.key)).map (decT H)) (decT H v)) hl
  (λA' E' R hh k=>q8t (hh.trans (I.ok.hd hc)) a6 ⟨o,ho,hx,Z⟩ (by rw[z30,z19]at hl;exact hl) k)
  (λA' s' a hu' ha keep=>qi9 (s:=s) (decT H) O ha keep (by lia)) λout l n h' tk so keep a5 hg=>?_
 have ed:=Tim.q3d q28 (decT H) so;rw[ev]at ed;have mo:∀v∈out.toList,∃b,v=Value.ref b/\H b=some (.tup ((decT H v).map V.str)):=λv hv=>mem v (so.perm.mem_iff.mp hv);obtain⟨zs,rv,hp⟩:∃zs:List V,Vals zs out.toList/\Paired (λx p=>∃b,x=V.ref b/\H b=some (.tup (p.map V.str))) zs (out.toList.map (decT H)):=by
  revert mo;generalize out.toList=os;intro mo
  induction os with
  | nil=>exact⟨[],.nil,.nil⟩
  | cons v os ih=>
   obtain⟨zs,r1,r2⟩:=ih λu hu=>mo u (z16 _ hu);obtain⟨b,e,hb⟩:=mo v (z1p ..);exact⟨.ref b::zs,.cons e r1,.cons ⟨b,zr,hb⟩ r2⟩
 rw[ed]at hp;refine I.q3e rv ?_ keep a5 hg (q l zs (I.hok.fresh a5) hp);rw[rv.length,so.perm.length_eq];exact hl
end
end L2
namespace L2
open PySem PySem.Spec PyProof.Rows
theorem qd1(ns:List Int):∀n:Nat,preSum (λi=>ns.getD i 0) n=(ns.take n).sum
 | 0=>rfl
 | n+1=>by
  rw[preSum,qd1 ns n,z3g,List.sum_append]
  congr 1
  show ns.getD n 0=_;rw[z06];cases h:ns[n]? <;> simp
section
variable{X:Cx}
def qia(hc:X.calm=true)(K:xA)(hK:X.K=K:=by rfl):q2b X (.builtin "sum") (λxs H Q=>∃(p:Addr) (ns:List Int),xs=[.ref p]/\SqL K H p (ns.map V.int)/\Q (.int ns.sum) H):=by
 subst hK;intro xC s σ H xs us Q I r h;obtain⟨p,ns,rfl,hp,q⟩:=h;obtain⟨u,rfl,O⟩:=q2k r;cases O
 obtain⟨its,rv,pl,hz⟩:=I.list hp;have hl:its.toArray.size=ns.length:=by
  have:=rv.length;rw[z30]at this;rw[z23];exact this.symm
 have hh:X.A.in1.handled=none:=I.ok.hd hc;have D:p < s.heap.objs.size:=by
  obtain⟨o,n,e1,_⟩:=pl;exact z3y e1
 refine call_sum_walkG (z25 pl.isList ?_);refine⟨s.heap.objs.size,_,_,_,_,_,λi=>ns.getD i 0,zr,Walks.list hh _ p (z3z D) its.toArray,⟨⟨_,z1c _ rfl,zr,zr⟩,pl.isList.at λo e=>z0o _ e⟩,?_,?_,λh' tk t' kk=>?_⟩
 ·intro b Z;have hs:∀o:Obj,(s.heap.push o).objs.size=s.heap.objs.size+1:=λo=>Array.size_push _;simp only[z3m,z2r,or_false]at Z;show b < (s.heap.push _).objs.size;rw[hs];rcases Z with rfl | rfl
  ·exact z2l _
  ·exact z2e D
 ·intro i v hv;have J:its[i]? =some v:=by simpa using hv
  have hi:i < ns.length:=by
   rw[<- hl,z23];exact(z07.mp J).1
  have e:(ns.map V.int)[i]? =some (V.int ns[i]):=by rw[z22,z0d hi];rfl
  obtain⟨u,hu,O⟩:=rv.get e;rw[J]at hu;cases hu
  obtain⟨t,rfl⟩:=O;exact⟨t,by show _=Value.int (ns.getD i 0) t;rw[q7g hi]⟩
 ·rw[hl,qd1,z2t];exact⟨.int _,H,I.kept λb o e=>kk b o (by simp;exact z3z (z3y e)) (z0o _ e),⟨_,rfl⟩,q⟩
end
section
variable{X:Cx}{e:Expr}{lo hi:Option Expr}{se:Expr}{te:TE}{tl th ts:TO}{p2 pos:Pos}
end
def qo7{k:Int}{n:Nat}(h1:0<=k)(h2:k < 2^n):Builtin.Int.intBits k<=n+1:=by
  unfold Builtin.Int.intBits;split
  · exact z4a _
  · have hn:k.natAbs < 2^n:=by
      have:((k.natAbs:Nat):Int) < ((2^n:Nat):Int):=by
        rw[Int.natAbs_of_nonneg h1]
        push_cast
        exact h2
      exact Int.ofNat_lt.mp this
    have:k.natAbs.log2<=n:=by
      rcases Nat.eq_zero_or_pos k.natAbs with h0 | hp
      · rw[h0]
        show 0<=n;exact z4a _
      · exact z3x ((Nat.log2_lt (z41 hp)).mpr hn)
    lia
def qwf(i j:Int):Prop:=(0<=i/\i < 2^600)/\(0<=j/\j < 2^600)
section
variable{X:Cx}
def qc7:OpR X (binaryOp .Mult) (rI qwf λi j=> .int (i*j)):=opI λ_ _ _ _ _ _ _ D q=>mul_int q (IntMulOk.of_bits (z40 (qo7 D.1.1 D.1.2) (by decide)) (z40 (qo7 D.2.1 D.2.2) (by decide)))
def q11m(K:xA):R2:=λx y H Q=>∃a b xs ys,x= .ref a/\y= .ref b/\SqT K H a xs/\SqT K H b ys/\xs.length+ys.length<=sizeLine/\∀p H',Same H H'->SqT K H' p (xs++ys)->Q (.ref p) H'
def qxs(K:xA)(hK:X.K=K:=by rfl):OpR X (binaryOp .Add) (q11m K):=by
 subst hK;intro xC s σ H x y v u Q I rx ry h;obtain⟨a,b,xs,ys,rfl,rfl,ha,hb,hz,q⟩:=h;by_cases hx:xs=[]
 ·subst hx;cases rx
  cases ry
  obtain⟨its,r1,p1,_⟩:=I.tuple ha;obtain⟨Z,r2,p2,_⟩:=I.tuple hb;have e0:its=[]:=r1.qc2.mpr rfl;subst e0;obtain⟨⟨cls,dd,data,sl⟩,ho,hc,n,hd⟩:=id p1;obtain⟨⟨a4,a1,a0,a2⟩,O,D,n2,J⟩:=id p2;simp only at hc hd D J;subst hc hd D J;exact concat_meets ⟨_,ho,zr⟩ ⟨_,O,zr⟩ noFill_tuple_add seq_tuple_add PySem.F.slot_tuple_add PySem.F.entry_tuple_add (PySem.F.args_tuple_add_2 _ _)
   (tuple_addW0 a b #[] Z.toArray n n2 dd a1 sl a2 rfl) ⟨ho,O,⟨.ref b,H,I,rfl,q b H (Same.refl _) hb⟩⟩
 ·refine qx8 xC s σ H _ _ v u Q I rx ry ⟨a,b,xs,ys,zr,zr,ha,hb,hx,hz,λe=>?_,λ_ p hp=>q p _ (qf hp) (SqT.of qb)⟩;subst e;exact q a H (Same.refl _) (by rw[z31];exact ha)
end
def qrp(bs:List Bool):(List.range bs.length).any (λi=>(bs[i]?).getD true)=bs.any id:=by
 rw[z2z,z2p,z2p]
 constructor
 ·rintro ⟨i,hi,h⟩;have D:=z3c.mp hi;rw[z0d D]at h;exact⟨_,z2k D,h⟩
 ·rintro ⟨b,hb,h⟩;obtain⟨i,hi,e⟩:=z12.mp hb;refine⟨i,z3c.mpr hi,?_⟩;rw[z0d hi,e];exact h
section
variable{X:Cx}
def qb4(hc:X.calm=true)(K:xA)(hK:X.K=K:=by rfl):q2b X (.builtin "any") (λxs H Q=>∃(p:Addr) (bs:List Bool),xs=[.ref p]/\SqL K H p (bs.map V.bl)/\Q (.bl (bs.any id)) H):=by
 subst hK;intro xC s σ H xs us Q I r h;obtain⟨p,bs,rfl,hp,q⟩:=h;obtain⟨u,rfl,ru⟩:=q2k r;cases ru
 obtain⟨its,rv,pl,hz⟩:=I.list hp;have hl:its.toArray.size=bs.length:=by
  have:=rv.length;rw[z30]at this;rw[z23];exact this.symm
 have hh:X.A.in1.handled=none:=I.ok.hd hc;have J:p≠s.heap.objs.size:=λe=>by
  obtain⟨o,n,e1,_⟩:=pl;exact absurd (z3y e1) (by rw[e];exact z3o _)
 refine call_any_walk (z25 pl.isList ?_);refine⟨s.heap.objs.size,_,_,_,_,_,λi=>(bs[i]?).getD true,zr,Walks.list hh _ p J its.toArray,⟨⟨_,z1c _ rfl,zr,zr⟩,pl.isList.at λo e=>z0o _ e⟩,?_,λh' tk kk=>?_⟩
 ·intro i v s' Q' E' hv hq;have O:its[i]? =some v:=by simpa using hv
  obtain⟨b,e,rfl⟩:=qo6 rv O;have D:Q' ((bs[i]?).getD true) s':=hq;rw[e]at D;exact z24 D
 ·rw[hl,qrp];exact⟨.bl _,H,I.kept λb o e=>kk b o (by simp;exact z3z (z3y e)) (z0o _ e),rfl,q⟩
def qpg{P:Program}{w:World}{es:List DictEntry}{vs:List (Key×Value)}(p:Pairs (q1c P w) es vs):∀{kvs:List (Key×V)} {ws:xD},KV kvs vs->kvs.map (·.1)=ws.map Sum.inr->Vals (ws.map V.str) (es.map (·.key)):=by
 induction p with
 | nil=>
  intro kvs ws r h;cases r
  have:ws=[]:=by simpa using h.symm
  subst this;exact .nil
 | cons a b c ih=>
  intro kvs ws r h;cases r with
  | cons d f=>
   cases ws with
   | nil=>simp at h
   | cons x ws=>
    rw[z3k,z3k,z2v]at h;rw[<- d.1,h.1]at a;refine .cons ?_ (ih f h.2);rcases q21 (show q8i (Sum.inr x) _=true from a) with ⟨i,t,e1,_⟩ | ⟨x',t,e1,e2⟩
    ·cases e1
    ·cases e1
     exact⟨t,e2⟩
def qiy(hc:X.calm=true)(K:xA)(hK:X.K=K:=by rfl):q2b X (.builtin "sorted") (λxs H Q=>∃(d:Addr) (kvs:List (Key×V)) (ws:xD),xs=[.ref d]/\H d=some (.dK kvs)/\kvs.map (·.1)=ws.map Sum.inr/\
  ∀l,H l=none->Q (.ref l) (upd H l (.lst ((Tim.srt q19 ws).map V.str)))):=by
 subst hK;intro xC s σ H xs us Q I r h;obtain⟨d,kvs,ws,rfl,hd,hk,q⟩:=h;obtain⟨u,rfl,ru⟩:=q2k r;cases ru
 obtain⟨hz,a0,vs,a2,o,es,ep,ho,hx,D,_,Z,hnd⟩:=I.hok d _ hd;have rv:Vals (ws.map V.str) (es.toList.map (·.key)):=qpg Z a2 hk;have wl:ws.length=kvs.length:=by
  have:=congrArg List.length hk;rw[z30,z30]at this;exact this.symm
 have hl:(es.toList.map (·.key)).length<=sizeLine:=by
  rw[<- rv.length,z30,wl];exact hz
 obtain⟨e1,e2,_⟩:=q5z rv;refine q4k (vs:=es.toList.map (·.key)) (rk:=λv=>Tim.rank q19 ((es.toList.map (·.key)).map sOf) (sOf v)) hl (λA' E' R hh k=>q8t (hh.trans (I.ok.hd hc)) a0 ⟨o,ho,hx,D⟩ (by rw[z30,z19]at hl;exact hl) k)
  (λA' s' a _ _ _=>qb3 rv) λout l n h' tk so keep J hg=>?_
 have a1:∀u∈out.toList,∃x t,u= .str x t:=λu hu=>e2 u (so.perm.mem_iff.mp hu);have ed:=Tim.q3d q24 sOf so;rw[e1]at ed;have O:=q45 a1;rw[ed]at O;exact I.q3e O (by rw[z30,(Tim.q13 q19 ws).length_eq,wl];exact hz) keep J hg (q l (I.hok.fresh J))
end
def q2q(v:Nat->Int):Nat->Option Int
 | 0=>none
 | n+1=>match q2q v n with
  | none=>some (v n)
  | some m=>some (if v n > m then v n else m)
def qew:(toString "max"++toString ".loop":String)="max.loop":=by decide
def qgf(a v:Value):argsOk "max" ⟨[a],[(Str.ofString "default",v)]⟩:=by unfold argsOk;kernel_rfl
section
variable{prog:Program}{w:World}{A:Around}{R:Result->Shared->Prop}{I:Addr}{fp wr:List Addr}{n:Nat}{P:Nat->Value->Prop}{St:Nat->Heap->Prop}
def Best(v:Nat->Int)(j:Nat)(xs:Array Value):Prop:=(q2q v j=none/\xs=#[])\/ ∃m t,q2q v j=some m/\xs=#[.int m t,.int m t]
theorem q8m(W:Walks prog w A.in1 I fp wr n P St)(v:Nat->Int)(hv:∀i x,P i x->∃t,x= .int (v i) t)(S:Addr)(a0:S∉fp)(d:Int)(td:Tok):∀(k j:Nat) (s:Shared) (xs:Array Value) (c:Nat),j+k=n->St j s.heap->Best v j xs->
  s.heap.get? S=some {cls:= .type "list",data:= .seq xs c}->
  (∀t h' tk,(∀b o,b∉wr->b≠S->s.heap.get? b=some o->h'.get? b=some o)->R (.ok (.ret (.int ((q2q v n).getD d) t))) {s with heap:=h',toks:=tk})->
  codeAny (model prog w) A (.builtin "max.loop" ⟨[.ref I,.none,.ref S],[(Str.ofString "default",.int d td)]⟩) R s
 | 0,j,s,xs,c,hk,a6,hb,hS,hR=>by
  have a5:S∉wr:=λh=>a0 (W.sub _ h);have hj:j=n:=by lia
  subst hj;refine z38 PySem.F.entry_max_loop ?_;rw[Around.under_plainId PySem.F.plain_max_loop _];refine z4e (m:=seqItems? (.ref S)) (wpAny_seqItems hS rfl ?_);refine z4e (m:=tryCatch (pyNext (.ref I)) _) (wpAny_tryCatch (W.done s _ _ a6 λh' tk O=>?_));have Z:=O S _ a5 hS;rcases hb with ⟨e,rfl⟩ | ⟨m,t,e,rfl⟩
  ·have:=hR td h' tk λb o D _ eb=>O b o D eb;rw[e]at this;exact z4e (z4c (z4d this))
  ·refine z4e (m:=updateSeq S λ_=>#[]) ?_;refine wpAny_updateSeq Z rfl (z4e (wpAny_letGo (z4d ?_)));have em:(q2q v j).getD d=m:=by rw[e];rfl
   rw[em]at hR;exact hR t _ tk λb o D J eb=>(z0p _ _ (Ne.symm J)).trans (O b o D eb)
 | k+1,j,s,xs,c,hk,a6,hb,hS,hR=>by
  have a5:S∉wr:=λh=>a0 (W.sub _ h);have a8:j < n:=by lia
  refine z38 PySem.F.entry_max_loop ?_;rw[Around.under_plainId PySem.F.plain_max_loop _];refine z4e (m:=seqItems? (.ref S)) (wpAny_seqItems hS rfl ?_);refine z4e (m:=tryCatch (pyNext (.ref I)) _) (wpAny_tryCatch (W.item j s _ _ a8 a6 λx h' tk hP a4 O=>?_));have Z:=O S _ a5 hS;obtain⟨tx,rfl⟩:=hv j x hP;have stay:∀(f:Obj->Obj),St (j+1) (h'.update S f):=λf=>W.frame _ _ _ a4 λb a7 o e=>(z0p _ _ (λh:S=b=>a0 (by rw[h];exact a7))).trans e;rcases hb with ⟨e,rfl⟩ | ⟨m,t,e,rfl⟩
  ·refine z4e (m:=updateSeq S λ_=>#[.int (v j) tx,.int (v j) tx]) ?_;refine wpAny_updateSeq Z rfl ?_;rw[qew];refine z4d ⟨plainId_quiet PySem.F.plain_max_loop _,q8m W v hv S a0 d td k (j+1) _ _ _ (by lia) (stay _) (.inr ⟨v j,tx,?_,zr⟩) (z0z _ Z rfl) λt' h2 a2 a1=>?_⟩
   ·rw[q2q,e]
   ·exact hR t' h2 a2 λb o D J eb=>a1 b o D J ((z0p _ _ (Ne.symm J)).trans (O b o D eb))
  ·refine z4e (m:=tryCatch (holding [.int (v j) tx,.int (v j) tx] (richCompare .Gt (.int (v j) tx) (.int m t) >>=_)) _) (wpAny_tryCatch (z3n (z4e (richCompare_gives (op:= .Gt) (typeIs_int _ _ tx) (typeIs_int _ _ t) PySem.F.slot_int_gt PySem.F.entry_int_gt (PySem.F.args_int_gt_2 _ _) (gives_int_gt _ _ tx t) (λx=>nomatch x) ?_))));refine z4e (z3n (z24 ?_));refine z4e (wpAny_letGo (z4d ?_));by_cases hb:v j > m
   ·rw[z3b hb,if_pos rfl];refine z4e ?_;refine wpAny_updateSeq Z rfl (z4e (wpAny_letGo ?_));rw[qew];refine z4d ⟨plainId_quiet PySem.F.plain_max_loop _,q8m W v hv S a0 d td k (j+1) _ _ _ (by lia) (stay _) (.inr ⟨v j,tx,?_,zr⟩) (z0z _ Z rfl) λt' h2 a2 a1=>?_⟩
    ·rw[q2q,e];show some (if v j > m then v j else m)=_;rw[if_pos hb]
    ·exact hR t' h2 a2 λb o D J eb=>a1 b o D J ((z0p _ _ (Ne.symm J)).trans (O b o D eb))
   ·rw[z2w hb,if_neg (by decide)];refine z4e (wpAny_letGo ?_);rw[qew];refine z4d ⟨plainId_quiet PySem.F.plain_max_loop _,q8m W v hv S a0 d td k (j+1) _ _ _ (by lia) a4 (.inr ⟨m,t,?_,zr⟩) Z λt' h2 a2 a1=>?_⟩
    ·rw[q2q,e];show some (if v j > m then v j else m)=_;rw[if_neg hb]
    ·exact hR t' h2 a2 λb o D J eb=>a1 b o D J (O b o D eb)
end
section
variable{X:Cx}{e d:Expr}{t tk:TA}{p pos kpos:Pos}
def qxt(K:xA)(hc:X.calm=true)(hg:Gl X "max")(hm:X.mg "max"=none)(hv:bootBuiltins "max"=some (.builtin "max"))(ha:PA X [e] t)(a0:PK X [⟨some "default",d,kpos⟩] tk)(hK:X.K=K:=by rfl)
  (a1:(backTo pos (starEach [e] X.env)).any (·.1)=false:=by rfl) (he:backTo pos (starEach [e] X.env)=(false,eval e X.env)::backTo pos (starEach [] X.env):=by rfl):
  PE X (.Call (.Name "max" p) [e] [⟨some "default",d,kpos⟩] pos) (λσ H Q=>t σ H λvs H1=>tk σ H1 λws H2=>∃(l:Addr) (ns:List Int) (n:Int),vs=[.ref l]/\ws=[.int n]/\SqL K H2 l (ns.map V.int)/\Q (.int ((q2q (λi=>ns.getD i 0) ns.length).getD n)) H2):=by
 subst hK;intro xC s σ H Q I h;refine z1s (q8z I hg hm hv ?_);refine callWith_kw (thn (ha pos xC s σ H _ I h) λus s1 ⟨vs,H1,I1,r1,q1⟩=>thn (a0 pos xC s1 σ H1 _ I1 q1) λws D a2=>?_) he a1;obtain⟨zs,H2,I2,rz,q2⟩:=a2;obtain⟨l,ns,n,rfl,rfl,hl,q⟩:=q2;obtain⟨u,rfl,ru⟩:=q2k r1;cases ru
 obtain⟨u,rfl,⟨tn,rfl⟩⟩:=q2k rz;obtain⟨its,rv,pl,hz⟩:=I2.list hl;have hsz:its.toArray.size=ns.length:=by
  have:=rv.length;rw[z30]at this;rw[z23];exact this.symm
 have hh:X.A.in1.handled=none:=I2.ok.hd hc;have J:l < D.heap.objs.size:=by
  obtain⟨o,k,e1,_⟩:=pl;exact z3y e1
 show wpAny _ _ (call (.builtin "max") [.ref l] [(Str.ofString "default",.int n tn)]) _ _ D;refine kmk_tree PySem.F.kind_max PySem.F.plain_max PySem.F.entry_max (qgf _ _) ?_;refine z4e (m:=Builtin.Builtins.bindParams "max" ["key","default"] 0 ⟨[],[(Str.ofString "default",.int n tn)]⟩) (wpAny_of_eq (show _=pure [none,some (Value.int n tn)] from rfl) ?_);refine z4e (z4d ?_);refine z4e (z25 pl.isList ?_);refine z4e (wpAny_newList ?_ (z4a _));rw[qew];have keep:∀b o,D.heap.get? b=some o->((D.heap.push {cls:= .type "list_iterator",data:= .fields #[.ref l,.int 0 0]}).push {cls:= .type "list",data:= .seq #[]}).get? b=some o:=λb o e=>z0o _ (z0o _ e);have O:(D.heap.push {cls:= .type "list_iterator",data:= .fields #[.ref l,.int 0 0]}).objs.size=D.heap.objs.size+1:=Array.size_push _;refine z4d ⟨plainId_quiet PySem.F.plain_max_loop _,q8m (n:=ns.length) (A:=X.A) (hsz ▸ Walks.list hh D.heap.objs.size l (z3z J) its.toArray) (λi=>ns.getD i 0) ?_ (D.heap.push {cls:= .type "list_iterator",data:= .fields #[.ref l,.int 0 0]}).objs.size ?_ n tn ns.length 0 _ #[] 0 (z3w _) ⟨⟨_,z0o _ (z1c _ rfl),zr,zr⟩,pl.isList.at (keep l)⟩ (.inl ⟨zr,zr⟩) (z1c _ rfl) λt' h' tk' hk=>?_⟩
 ·intro i v hv;have Z:its[i]? =some v:=by simpa using hv
  have hi:i < ns.length:=by
   rw[<- hsz,z23];exact(z07.mp Z).1
  have e:(ns.map V.int)[i]? =some (V.int ns[i]):=by rw[z22,z0d hi];rfl
  obtain⟨u,hu,ru⟩:=rv.get e;rw[Z]at hu;cases hu
  obtain⟨t,rfl⟩:=ru;exact⟨t,by show _=Value.int (ns.getD i 0) t;rw[q7g hi]⟩
 ·rw[O];intro hb;simp only[z3m,z2r,or_false]at hb;rcases hb with h | h
  ·exact absurd h (Nat.succ_ne_self _)
  ·exact absurd J (by rw[<- h];exact Nat.not_lt_of_le (Nat.le_succ _))
 ·refine⟨.int _,H2,I2.kept λb o e=>hk b o ?_ ?_ (keep b o e),⟨_,zr⟩,q⟩
  ·simp
   exact z3z (z3y e)
  ·rw[O];exact z3z (z2e (z3y e))
end
def qib:entryFor table "dict.update.loop"=some Builtin.«dict.update.loop»:=entryFor_of_tree (by kernel_rfl)
def q8n:plainId "dict.update.loop"=true:=by decide+kernel
def qgg:typeLookup (.type "list") "keys"=pure none:=by rw[typeLookup_type,builtinLookup_eq_fast];kernel_rfl
section
variable{prog:Program}{w:World}{A:Around}{E:xB}{s:Shared}
def qxu{a:Addr}{o:Obj}{xs:Array Value}{k:Nat}{Q:Option Value->Shared->Prop}(hx:s.heap.get? a=some o)(hc:o.cls= .type "list")(D:o.data= .seq xs k)(hd:o.dict=none)(hA:A.handled=none)
  (h:∀h' tk,(∀b o,s.heap.get? b=some o->h'.get? b=some o)->Q none {s with heap:=h',toks:=tk}):wpAny (model prog w) A (getAttr? (.ref a) "keys") Q E s:=by
 obtain⟨c,dct,dat,sl⟩:=o;simp only at hc D hd;subst hc D hd;obtain⟨hp,g,d,tk,os⟩:=s;have Z:∀J,(⟨hp,g,d,J,os⟩:Shared).TypeIs (.ref a) "list":=λ_=>⟨_,hx,rfl⟩;have f1:=sub_AttributeError;have f3:=PySem.F.slot_list_getattribute.lookup;have f4:=PySem.F.slot_list_getattribute.bind (.ref a);have f5:=am_list_getattr_none;unfold getAttr? getAttrBy? getAttrBy
 repeat (any_goals (first | assumption | exact Z _ | ((with_reducible show wpAny _ _ (call (Value.builtin "list.__getattribute__") _ _) _ _ _);refine call_meets PySem.F.slot_list_getattribute (Z _) am_entry_list_getattribute (PySem.F.args_list_getattribute_2 _ _) (meets_getattribute_miss_list a xs k sl "keys" _ qgg (by decide+kernel) (by show 4+100<=sizeLine;decide)) ⟨hx,hA,λh' J e O=>?_⟩) | wp_step))
 obtain⟨t',u',he⟩:=O.there;show wpAny _ _ (getattributeRaised _ _ _ _ _ _ _) _ _ _;unfold getattributeRaised
 repeat (any_goals (first | assumption | wp_step))
 exact h h' J O.of.keeps
end
def qex(f:Nat->Str×Value):Nat->Nat->List (Key×Value)->List (Key×Value)
 | 0,_,kvs=>kvs
 | k+1,i,kvs=>qex f k (i+1) (stored kvs (Sum.inr (f i).1) (f i).2)
def qph{kvs:List (Key×Value)}{k:Key}{v:Value}:(stored kvs k v).length<=kvs.length+1:=by
 unfold stored;split
 ·rw[z30]
  lia
 ·rw[z1o];exact z47 _
section
variable{prog:Program}{w:World}{A:Around}{R:Result->Shared->Prop}{I:Addr}{fp wr:List Addr}{n:Nat}{P:Nat->Value->Prop}{St:Nat->Heap->Prop}
theorem qld{h0:Heap}(W:Walks prog w A.in1 I fp wr n P St)(d:Addr)(J:d∉fp)(a1:h0.get? d=none)(a0:∀b∈wr,h0.get? b=none)(hn:n<=sizeLine)(f:Nat->Str×Value)(hf:∀i v,P i v->∃q t,v= .ref q/\IsTup h0 q #[.str (f i).1 t,(f i).2]):
  ∀(k i:Nat) (s:Shared) (kvs:List (Key×Value)) (j:Int) (ti:Tok),i+k=n->St i s.heap->s.heap.DictOf (q1c prog w) d kvs->kvs.length<=i->(∀b o,h0.get? b=some o->s.heap.get? b=some o)->
  (∀h' tk,h'.DictOf (q1c prog w) d (qex f k i kvs)->(∀b o,h0.get? b=some o->h'.get? b=some o)->R (.ok (.ret .none)) {s with heap:=h',toks:=tk})->
  codeAny (model prog w) A (.builtin "dict.update.loop" ⟨[.ref d,.ref I,.int j ti,.none],[]⟩) R s
 | 0,i,s,kvs,j,ti,hk,Z,hm,hl,kp,hR=>by
  have hi:i=n:=by lia
  subst hi;have O:d∉wr:=λh=>J (W.sub _ h);refine z38 qib ?_;rw[Around.under_plainId q8n _];refine z4e (m:=pyNext (.ref I)) (W.done s _ _ Z λh' tk D=>?_);show wpAny _ _ (Builtin.Dict.addKeywords d [] >>=λ_=>ret .none) _ _ _;obtain⟨o,es,ep,ho,r⟩:=hm;exact z4e (z4d (z4d (hR h' tk ⟨o,es,ep,D d o O ho,r⟩ λb o e=>D b o (λhb=>by rw[a0 b hb]at e;cases e) (kp b o e))))
 | k+1,i,s,kvs,j,ti,hk,Z,hm,hl,kp,hR=>by
  have a8:i < n:=by lia
  have O:d∉wr:=λh=>J (W.sub _ h);refine z38 qib ?_;rw[Around.under_plainId q8n _];refine z4e (m:=pyNext (.ref I)) (W.item i s _ _ a8 Z λv h' tk hP a5 D=>?_);obtain⟨q,t,rfl,oq,hq,hc,nq,a7⟩:=hf i v hP;have a6:∀b o,h0.get? b=some o->h'.get? b=some o:=λb o e=>D b o (λhb=>by rw[a0 b hb]at e;cases e) (kp b o e);have a9:h'.DictOf (q1c prog w) d kvs:=by
   obtain⟨o,es,ep,ho,r⟩:=hm;exact⟨o,es,ep,D d o O ho,r⟩
  have a2:=a6 q _ hq;refine z4e (z3n (z4e (wpAny_tryCatch ?_)));unfold Builtin.Dict.pairItems;refine z4e (wpAny_typeOf (T:="tuple") ⟨oq,a2,hc⟩ ?_);rw[if_pos (by decide)];refine z4e (wpAny_seqItems a2 a7 (z4d ?_));show wpAny _ _ (holding [.str (f i).1 t,(f i).2] (dictSet d (.str (f i).1 t) (f i).2)) _ _ _;refine z3n (wpAny_dictSet_pairs (knd:=q1c prog w) (k:=Sum.inr (f i).1) (qcs _ _ _ _) a9 (λh2 b2 a4=>?_) (by lia));have b4:∀b o,h0.get? b=some o->h2.get? b=some o:=λb o e=>(a4.2 b (λz=>by rw[z,a1]at e;cases e)).trans (a6 b o e);refine z4d ⟨plainId_quiet q8n _,qld W d J a1 a0 hn f hf k (i+1) _ _ (j+1) _ (by lia) (W.frame _ _ _ a5 λb hb o e=>(a4.2 b (λz=>J (z ▸ hb))).trans e) b2 (z40 qph (z2q hl)) b4 λh3 b6 b3 b5=>?_⟩;exact hR h3 b6 b3 b5
end
def q44(ps:List (Str×V))(m:List (Key×V)):List (Key×V):=ps.foldl (λm kv=>putK m (Sum.inr kv.1) kv.2) m
theorem qb5:∀(ps:List (Str×V)) (m:List (Key×V)),(q44 ps m).length<=m.length+ps.length
 | [],m=>z47 _
 | p::ps,m=>by
  have h:(putK m (Sum.inr p.1) p.2).length<=m.length+1:=by
   unfold putK;split
   ·rw[z30]
    lia
   ·rw[z1o];exact z47 _
  have:=qb5 ps (putK m (Sum.inr p.1) p.2);show (q44 ps (putK m (Sum.inr p.1) p.2)).length<=m.length+(ps.length+1)
  lia
def PRel(p:Str×V)(q:Str×Value):Prop:=p.1=q.1/\RelV p.2 q.2
theorem qo8:∀{ps:List (Str×V)} {us:List (Str×Value)} (_:Paired PRel ps us) (i:Nat) (hi:i < ps.length),PRel ps[i] (us.getD i ("",.none))
 | _,_,.nil,i,hi=>absurd hi (Nat.not_lt_zero _)
 | _,_,.cons a b,0,hi=>a
 | _,_,.cons a b,i+1,hi=>qo8 b i (Nat.lt_of_succ_lt_succ hi)
theorem qey{ps:List (Str×V)}{us:List (Str×Value)}(r:Paired PRel ps us):∀(k i:Nat) (m:List (Key×V)) (vs:List (Key×Value)),i+k=us.length->KV m vs->KV (q44 (ps.drop i) m) (qex (λi=>us.getD i ("",.none)) k i vs)
 | 0,i,m,vs,h,D=>by
  have hl:=Paired.length r;rw[List.drop_eq_nil_of_le (by lia)];exact D
 | k+1,i,m,vs,h,D=>by
  have hl:=Paired.length r;have hi:i < ps.length:=by lia
  rw[z09 hi];show KV (q44 (ps.drop (i+1)) (putK m (Sum.inr ps[i].1) ps[i].2)) (qex _ k (i+1) (stored vs (Sum.inr (us.getD i ("",.none)).1) (us.getD i ("",.none)).2));have J:=qo8 r i hi;rw[<- J.1];exact qey r k (i+1) _ _ (by lia) (D.put _ J.2)
section
variable{X:Cx}
def qpi(K:xA)(H:Hp)(y:V)(kv:Str×V):Prop:=∃q,y=V.ref q/\SqT K H q [.str kv.1,kv.2]
def qrq{xC:xG}{σ:St}{H:Hp}{s:Shared}(I:Inv X xC σ H s){ys:List V}{ps:List (Str×V)}(h:Paired (qpi X.K H) ys ps):∀{its:xH},Vals ys its->∃us:List (Str×Value),Paired PRel ps us/\∀i v,its[i]? =some v->∃q t,v= .ref q/\IsTup s.heap q #[.str (us.getD i ("",.none)).1 t,(us.getD i ("",.none)).2]:=by
 induction h with
 | nil=>
  intro its r;cases r
  exact⟨[],.nil,λi v e=>by simp at e⟩
 | cons a b ih=>
  intro its r;cases r with
  | cons r1 rr=>
   obtain⟨us,h1,h2⟩:=ih rr;obtain⟨q,rfl,hq⟩:=a;cases r1
   obtain⟨it2,rv,tp,_⟩:=I.tuple hq;cases rv with
   | cons c1 c2=>
    cases c2 with
    | cons c3 c4=>
     cases c4
     obtain⟨t,rfl⟩:=c1;refine⟨(_,_)::us,.cons ⟨zr,c3⟩ h1,λi v e=>?_⟩;cases i with
     | zero=>
      have:v=Value.ref q:=by simpa using e.symm
      subst this;exact⟨q,t,zr,tp⟩
     | succ i=>exact h2 i v (by simpa using e)
def qpj(hc:X.calm=true)(K:xA)(hK:X.K=K:=by rfl):q2b X (.type "dict") (λxs H Q=>∃(p:Addr) (ys:List V) (ps:List (Str×V)),xs=[.ref p]/\SqL K H p ys/\Paired (qpi K H) ys ps/\∀d,H d=none->Q (.ref d) (upd H d (.dK (q44 ps [])))):=by
 subst hK;intro xC s σ H xs vs Q I r h;obtain⟨p,ys,ps,rfl,hp,hy,q⟩:=h;obtain⟨u,rfl,ru⟩:=q2k r;cases ru
 obtain⟨its,rv,⟨ol,nl,a5,O,a2,J⟩,hz⟩:=I.list hp;obtain⟨us,a6,b5⟩:=qrq I hy rv;have a7:us.length=its.length:=by rw[<- Paired.length a6,<- Paired.length hy,rv.length]
 have a4:p < s.heap.objs.size:=z3y a5;have hh:X.A.in1.in1.handled=none:=I.ok.hd hc;refine callType_codes (Q₁:=λob s1=>ob= .ref s.heap.objs.size/\s1={s with heap:=s.heap.push {cls:= .type "dict",data:= .dict #[]}}) PySem.F.kt_called_dict (PySem.F.kt_typeCall_dict_1 _) PySem.F.entry_dict_init (kt_code_dict_new _ ⟨rfl,rfl⟩) ?_;rintro ob s1 ⟨rfl,rfl⟩;have d0:(s.heap.push {cls:= .type "dict",data:= .dict #[]}).DictOf (q1c X.prog X.w) s.heap.objs.size []:=Heap.DictOf.new s.heap;have l0:(s.heap.push {cls:= .type "dict",data:= .dict #[]}).get? p=some ol:=z0o _ a5;refine⟨d0.typeIs,PySem.F.args_dict_init_2 _ _,?_⟩;unfold Builtin.«dict.__init__»;refine z4e ?_;unfold Builtin.Dict.selfAndRest;refine z4e (wpAny_notOrdered_dict d0.typeIs (z4d ?_));show wpAny _ _ (Builtin.Dict.updateFrom "dict.__init__" s.heap.objs.size (.ref p) [] .none) _ _ _;unfold Builtin.Dict.updateFrom;refine z4e (wpAny_typeOf (T:="list") ⟨ol,l0,O⟩ ?_);rw[if_pos (by decide)];refine z4e (qxu l0 O J a2 hh λh1 tk1 Z=>?_);rw[if_pos (by rfl)];refine z4e (z4c ?_);have a8:PlainL h1 p its.toArray:=⟨ol,nl,Z _ _ l0,O,a2,J⟩;obtain⟨od,b2,b3,b4,rd⟩:=d0;have a1:=Z _ _ b4;have a0:s.heap.objs.size < h1.objs.size:=z3y a1;refine z4e (z25 a8.isList ?_);have D:∀b,s.heap.objs.size<=b->s.heap.get? b=none:=λb hb=>by
  cases e:s.heap.get? b with
  | none=>rfl
  | some o=>exact absurd (z3y e) (Nat.not_lt_of_le hb)
 have hsz:us.length=its.toArray.size:=by rw[z23];exact a7
 have W0:Walks X.prog X.w X.A.in1.in1 h1.objs.size [h1.objs.size,p] [h1.objs.size] us.length (λi v=>its.toArray[i]? =some v) (λi h=>h.IsListIter h1.objs.size p i/\h.IsList p its.toArray):=by
  rw[hsz];exact Walks.list hh h1.objs.size p (z3z (Nat.lt_trans a4 a0)) its.toArray
 refine z4d ⟨plainId_quiet q8n _,qld (h0:=s.heap) (n:=us.length) (A:=X.A.in1) W0 s.heap.objs.size ?_ (D _ (z47 _)) ?_ (by rw[a7,<- rv.length];exact hz) (λi=>us.getD i ("",.none)) ?_ us.length 0 _ [] 0 _ (z3w _) ⟨⟨_,z1c _ rfl,rfl,rfl⟩,a8.isList.at λo e=>z0o _ e⟩ ⟨od,b2,b3,z0o _ a1,rd⟩ (z47 _) (λb o e=>z0o _ (Z _ _ (z0o _ e))) λh' tk hm keep=>?_⟩
 ·intro hb;simp only[z3m,z2r,or_false]at hb;rcases hb with e | e
  ·exact absurd e (z3z a0)
  ·exact absurd e.symm (z3z a4)
 ·intro b hb;rw[z1m.mp hb];exact D _ (z3x a0)
 ·intro i v hv;exact b5 i v (by simpa using hv)
 ·have a9:=qey a6 us.length 0 [] [] (z3w _) .nil;rw[List.drop_zero]at a9;refine⟨zr,.ref s.heap.objs.size,_,I.laid (a:=s.heap.objs.size) (o:= .dK (q44 ps [])) (t':=tk) keep (z47 _) ⟨?_,beq_eq_false_iff_ne.mpr (Ne.symm (z3z I.big)),_,a9,hm⟩,zr,q _ (I.hok.fresh (z47 _))⟩;have h1:=qb5 ps [];rw[z34,z3w]at h1;rw[<- Paired.length hy]at h1;exact z40 h1 hz
end
def Itd(a:Addr)(o:Obj)(kvs:List (Key×V)):It:=
 ⟨λi H=>H a=some (.frz o (.dK kvs))/\i < kvs.length,λi H x H'=>H'=H/\∃kv,kvs[i]? =some kv/\x=kV kv.1,λi H=>H a=some (.frz o (.dK kvs))/\kvs.length<=i⟩
def qua{P:Program}{w:World}{es:List DictEntry}{vs:List (Key×Value)}(p:Pairs (q1c P w) es vs):∀{kvs:List (Key×V)} {i:Nat} {D:Key×V},KV kvs vs->kvs[i]? =some D->∃e,es[i]? =some e/\RelV (kV D.1) e.key:=by
 induction p with
 | nil=>
  intro kvs i D r h;cases r
  simp at h
 | cons a b c ih=>
  intro kvs i D r h;cases r with
  | cons d f=>
   cases i with
   | zero=>
    simp at h
    subst h;refine⟨_,zr,?_⟩;rw[<- d.1]at a;rcases q21 a with ⟨i,t,e1,e2⟩ | ⟨x',t,e1,e2⟩
    ·rw[e1];exact⟨t,e2⟩
    ·rw[e1];exact⟨t,e2⟩
   | succ i=>simpa using ih f (by simpa using h)
section
variable{X:Cx}{tg:Expr}
def Inv.freeze{xC:xG}{σ:St}{H:Hp}{s:Shared}{a:Addr}{o:Obj}{kvs:List (Key×V)}(I:Inv X xC σ H s)(e:H a=some (.dK kvs))(ho:s.heap.get? a=some o):Inv X xC σ (upd H a (.frz o (.dK kvs))) s:=by
 have u:Un X.fs [] H (upd H a (.frz o (.dK kvs))) s.heap s.heap:=by
  refine⟨λb o q _ _ _=>q,λb o q _ _ _=>⟨o.slots,q⟩,λb D q n _=>?_,λb D q _=>⟨D,q⟩,λb xs q=>?_,λb D u q=>?_,λb ps q=>⟨#[],?_⟩⟩
  ·rw[qi (λz=>by rw[z,e]at n;cases n)];exact n
  ·rw[qi (λz=>by rw[z,e]at q;cases q)];exact q
  ·rw[qi (λz=>by rw[z,e]at q;cases q)];exact q
  ·rw[qi (λz=>by rw[z,e]at q;cases q),q];simp
 have hok:HOk X.prog X.w (upd H a (.frz o (.dK kvs))) s.heap:=λb D q=>by
  by_cases z:b=a
  ·subst z;rw[qb]at q;cases q
   have:=I.hok b _ e;exact⟨ho,this⟩
  ·rw[qi z]at q;have hb:=I.hok b D q;exact hb.stay (λc u _ g=>g) (λc g=>by rw[qi (λz=>by rw[z,e]at g;cases g)];exact g) λc xs g=>by rw[qi (λz=>by rw[z,e]at g;cases g)];exact g
 have:=I.un (t':=s.toks) u hok;exact this
def qrr{P:Program}{w:World}{K:xA}(a it:Addr)(o:Obj)(es:Array DictEntry)(ep:Nat)(kvs:List (Key×V))(ho:o.ExactDict)(D:o.data= .dict es ep):Turn P w K tg (Itd a o kvs) [it] it (λi h=>h.IsKeyIter it a i es.size ep) where
 mem:=by simp
 obj:=λi h st b hb=>by
  have e:b=it:=by simpa using hb
  subst e;obtain⟨o,e,c,d⟩:=st;exact⟨o,e,λv z=>by rw[d]at z;cases z⟩
 keep:=λi h h' st k=>by
  obtain⟨o,e,r⟩:=st;exact⟨o,k it (by simp) o e,r⟩
 item:=by
  intro X hP hw hK hc i xC s σ H E I hf st hg;subst hP hw hK;obtain⟨ha,hi⟩:=hg;obtain⟨Z,hz,a6,vs,a1,o2,a5,a4,O,a7,J,_,a0,hnd⟩:=I.hok a _ ha;rw[Z]at O;cases O
  rw[D]at J;cases J
  obtain⟨e,he,ru⟩:=qua a0 a1 (z0d hi);obtain⟨f0,f1,f2,f3,f4,f5⟩:=hf it (by simp);refine qdi st ⟨o,Z,ho,D⟩ (e:=e) (by simpa using he) λh' a2 sb=>?_;have I1:Inv X xC σ H {s with heap:=h'}:=I.turned (t':=s.toks) (λb o hb e=>(sb.2 b hb).trans e) f0 f1 f3 f4 f5;obtain⟨oi,ei,ci,di⟩:=id a2;exact⟨_,rfl,qeq (s:={s with heap:=h'}) ei ci di (by decide) ⟨kV kvs[i].1,H,I1,ru,⟨rfl,_,z0d hi,rfl⟩,a2,λb hb=>(hf b hb).1⟩⟩
 done:=by
  intro X hP hw hK hc i xC s σ H E I hf st hg;subst hP hw hK;obtain⟨ha,hi⟩:=hg;obtain⟨Z,hz,a6,vs,a1,o2,a5,a4,O,a7,J,_,a0,hnd⟩:=I.hok a _ ha;rw[Z]at O;cases O
  rw[D]at J;cases J
  have hl:es.size=kvs.length:=by
   have h1:=a0.length;have h2:kvs.length=vs.length:=Paired.length a1;rw[z19]at h1
   lia
  obtain⟨f0,f1,f2,f3,f4,f5⟩:=hf it (by simp);exact qge (I.ok.hd hc) st ⟨o,Z,ho,D⟩ (by lia) λh' eb=>⟨zr,I.turned (t':=s.toks) (λb o hb e=>eb b o hb e) f0 f1 f3 f4 f5⟩
 self:=by
  intro A i s Q E st h;exact wpAny_pyIter_keyiter st h
def iDct(tl:TE):TI:=λσ H R=>tl σ H λx H1=>∃a kvs,x= .ref a/\((H1 a=some (.dK kvs)/\∀o,R (Itd a o kvs) (upd H1 a (.frz o (.dK kvs))))\/ ∃o,H1 a=some (.frz o (.dK kvs))/\R (Itd a o kvs) H1)
def qle{l:Expr}{tl:TE}(hl:PE X l tl):PI X tg l (iDct tl):=by
 intro xC s σ H R I h;refine thn (hl xC s σ H _ I h) λv s1 a2=>?_;obtain⟨x,H1,I1,r1,q1⟩:=a2;obtain⟨a,kvs,e,q⟩:=q1;subst e;cases r1
 obtain⟨H2,o,I2,ha,q2⟩:∃H2 o,Inv X xC σ H2 s1/\H2 a=some (.frz o (.dK kvs))/\R (Itd a o kvs) H2:=by
  rcases q with ⟨e,q⟩ | ⟨o,e,q⟩
  ·obtain⟨hz,J,vs,a1,o,es,ep,ho,r⟩:=I1.hok a _ e;exact⟨_,o,I1.freeze e ho,qb,q o⟩
  ·exact⟨H1,o,I1,e,q⟩
 obtain⟨Z,hz,J,vs,a1,o2,es,ep,O,a0,D,_,hp2,hnd⟩:=I2.hok a _ ha;rw[Z]at O;cases O
 refine qdh J ⟨o,Z,a0,D⟩ ?_;refine⟨s1.heap.objs.size,[s1.heap.objs.size],_,_,H2,zr,I2.kept (t':=s1.toks) λb o e=>z0o _ e,qrr a _ o es ep kvs a0 D,⟨_,z1c _ rfl,zr,zr⟩,λb hb=>?_,q2⟩;have e:b=s1.heap.objs.size:=by simpa using hb
 subst e;exact I2.fpOk (z47 _) (I2.hok.fresh (z47 _))
end
section
variable{X:Cx}{e:Expr}{lo hi:Option Expr}{se:Expr}{te:TE}{tl th ts:TO}{p2 pos:Pos}
end
section
variable{prog:Program}{w:World}{A:Around}{E:xB}{s:Shared}
def qxv{nm:String}{a b:Addr}{oa ob:Obj}{D eb:Array DictEntry}{pa pb:Nat}{Q:Bool->Shared->Prop}(na:(a==sysModules)=false)(nb:(b==sysModules)=false)(O:s.heap.get? a=some oa)(J:oa.data= .dict D pa)
  (a0:s.heap.get? b=some ob) (Z:ob.data= .dict eb pb) (a4:KeysOf (q1c prog w) eb) (hsz:D.size=eb.size)
  (a2:∀(i:Nat) (e:DictEntry),D[i]? =some e->∃k j f,(q1c prog w).is k e.key=true/\e.hash=(q1c prog w).hash k/\(eb.findIdx? λg=>(q1c prog w).is k g.key)=some j/\eb[j]? =some f/\SeqAt.EqAt A s e.val f.val true)
  (q:Q true s):wpAny (model prog w) A (Builtin.Dict.samePairs nm a b) Q E s:=by
 unfold Builtin.Dict.samePairs Builtin.Dict.showsAll;rw[if_neg (by rw[na];exact z1l),if_neg (by rw[nb];exact z1l)];refine z4e (z4d ?_);refine z4e (z4d ?_);refine z4e (z2a O J ?_);refine z4e (z2a a0 Z ?_);rw[if_neg (by simp[hsz])];refine z4e (z37 O J ?_);refine z4e ?_;rw[Std.Legacy.Range.forIn_eq_forIn_range'];simp only[Std.Legacy.Range.size,Nat.sub_zero,Nat.add_sub_cancel,Nat.div_one];refine wpAny_forIn_list _ (λrest x s'=>s'=s/\x=(none,())/\∃i,i<=D.size/\rest=List.range' i (D.size - i)) _ ?_ ?_ _ _ ⟨rfl,rfl,0,z4a _,by simp⟩
 ·rintro x rest st s' ⟨rfl,rfl,i,hi,hr⟩;have lt:i < D.size:=by
   rcases Nat.lt_or_ge i D.size with h | h
   ·exact h
   ·rw[Nat.sub_eq_zero_of_le h]at hr;cases hr
  have e2:D.size - i=(D.size - (i+1))+1:=by lia
  rw[e2,List.range'_succ,z2v]at hr;obtain⟨rfl,hr⟩:=hr;refine z4e (z2a O J ?_);have ge:=z0b lt;obtain⟨k,j,f,h1,h2,h3,h4,h5⟩:=a2 x _ ge;rw[ge];have a1:wpAny (model prog w) A (holding [D[x].key,D[x].val] (do
     let __x <- dictFind b D[x].key D[x].hash
     match __x with
      | some j=>do
       let __do_lift <- dictEntries b
       match __do_lift[j]? with
        | some f=>holding [f.val] (eqBool D[x].val f.val)
        | x=>unsupported "internal:dict-equal"
      | x=>pure false)) (λv s2=>v=true/\s2=s') E s':=by
   refine z3n (z4e ?_);rw[h2];refine wpAny_dictFind_of h1 a0 Z a4 ?_;rw[h3];refine z4e (z2a a0 Z ?_);rw[h4];exact z3n (h5 prog w _ _ ⟨zr,zr⟩)
  refine z4e (z4f a1 (λv s2 hv=>?_) λ_ _ z=>z);obtain⟨rfl,rfl⟩:=hv;rw[if_neg (by decide)];refine z4e (z37 O J ?_);rw[if_neg (by simp)];exact z4d ⟨zr,zr,x+1,lt,hr⟩
 ·rintro st s' ⟨rfl,rfl,i,hi,hr⟩;exact z4d q
end
def qb6{P:Program}{w:World}{es:List DictEntry}{vs:List (Key×Value)}(p:Pairs (q1c P w) es vs):∀{i:Nat} {e:DictEntry},es[i]? =some e->∃D,vs[i]? =some D/\(q1c P w).is D.1 e.key=true/\e.val=D.2:=by
 induction p with
 | nil=>
  intro i e h;simp at h
 | cons a b c ih=>
  intro i e h;cases i with
  | zero=>
   simp at h
   subst h;exact⟨_,zr,a,b⟩
  | succ i=>simpa using ih (by simpa using h)
def qrs{P:Program}{w:World}{es:List DictEntry}{vs:List (Key×Value)}(p:Pairs (q1c P w) es vs){i:Nat}{kv:Key×Value}(h:vs[i]? =some kv):∃e,es[i]? =some e:=by
 have hl:=p.length;have hi:=(z07.mp h).1;exact⟨_,z0d (by lia)⟩
def qrt{kvs:List (Key×V)}{vs:List (Key×Value)}(r:KV kvs vs):∀{i:Nat} {q:Key×Value},vs[i]? =some q->∃p,kvs[i]? =some p/\p.1=q.1/\RelV p.2 q.2:=by
 induction r with
 | nil=>
  intro i q h;simp at h
 | cons a b ih=>
  intro i q h;cases i with
  | zero=>
   simp at h
   subst h;exact⟨_,zr,a⟩
  | succ i=>simpa using ih (by simpa using h)
def qzq{kvs:List (Key×V)}{vs:List (Key×Value)}(r:KV kvs vs){i:Nat}{p:Key×V}(h:kvs[i]? =some p):∃q,vs[i]? =some q/\p.1=q.1/\RelV p.2 q.2:=by
 have hl:kvs.length=vs.length:=Paired.length r;have hi:=(z07.mp h).1;obtain⟨p',h',e⟩:=qrt r (z0d (show i < vs.length by lia));rw[h]at h';cases h'
 exact⟨_,z0d (show i < vs.length by lia),e⟩
def qxw{F:(Key×V)->(Key×V)->Prop}{D J:List (Key×V)}(h:Paired F D J):∀{i:Nat} {p:Key×V},D[i]? =some p->∃q,J[i]? =some q/\F p q:=by
 induction h with
 | nil=>
  intro i p h;simp at h
 | cons a b ih=>
  intro i p h;cases i with
  | zero=>
   simp at h
   subst h;exact⟨_,zr,a⟩
  | succ i=>simpa using ih (by simpa using h)
section
variable{X:Cx}
def DatP(K:xA)(H:Hp)(p q:Key×V):Prop:=p.1=q.1/\∃d,Dat K H d p.2/\Dat K H d q.2/\d.depth<=60
def qzr(K:xA):R2:=λx y H Q=>∃a b k1 k2,x= .ref a/\y= .ref b/\Rd H a (.dK k1)/\Rd H b (.dK k2)/\Paired (DatP K H) k1 k2/\Q (.bl false) H
def qub(hu:X.A.units+64 < cLine)(K:xA)(hK:X.K=K:=by rfl):OpR X (compareOp .NotEq) (qzr K):=by
  subst hK;intro xC s σ H x y v u Q I rx ry h;obtain⟨a,b,k1,k2,rfl,rfl,ra,rb,hp,q⟩:=h;cases rx
  cases ry
  obtain⟨hz1,c7,v1,b3,o1,e1,p1,J,a4,b5,c4,a8,d2⟩:=ra.ok I.hok;obtain⟨hz2,c8,v2,kv2,o2,e2,p2,a1,a9,b6,c5,O,a7⟩:=rb.ok I.hok;have l0:k1.length=k2.length:=Paired.length hp;have l1:k1.length=v1.length:=Paired.length b3;have l2:k2.length=v2.length:=Paired.length kv2;have l3:=a8.length;have l4:=O.length;rw[z19]at l3 l4;show wpAny _ _ (richCompare .NotEq (.ref a) (.ref b)) _ _ s;refine wpAny_richCompare_same_room (T:="dict") ⟨o1,J,a4.1⟩ ⟨o2,a1,a9.1⟩ PySem.F.slot_dict_ne (z2o PySem.F.slot_dict_ne ⟨o1,J,a4.1⟩ PySem.F.entry_dict_ne ?_ (PySem.F.args_dict_ne_2 _ _)) (by lia);unfold Builtin.«dict.__ne__»;have T1:s.TypeIs (.ref a) "dict":=⟨o1,J,a4.1⟩;have T2:s.TypeIs (.ref b) "dict":=⟨o2,a1,a9.1⟩;have same:∀nm (Q2:Bool->Shared->Prop) (E2:xB),Q2 true s->wpAny (model X.prog X.w) X.A.in1 (Builtin.Dict.samePairs nm a b) Q2 E2 s:=λnm Q2 E2 q2=>by
    refine qxv c7 c8 J b5 a1 b6 c5 (by lia) (λi e he=>?_) q2;have b7:e1.toList[i]? =some e:=by simpa using he
    obtain⟨kv,c6,i1,i2⟩:=qb6 a8 b7;obtain⟨pv,c9,pe,pr⟩:=qrt b3 c6;obtain⟨qv,d1,qe,d,a0,a5,dz⟩:=qxw hp c9;obtain⟨qw,a2,we,wr⟩:=qzq kv2 d1;obtain⟨f,hf⟩:=qrs O a2;obtain⟨qw2,Z,j1,j2⟩:=qb6 O hf;rw[a2]at Z;cases Z
    have ek:kv.1=qw.1:=by rw[<- pe,qe,we]
    obtain⟨k',c0,b8⟩:=c4 e (Array.mem_of_getElem? he);have b4:k'=kv.1:=(q1c X.prog X.w).inj _ _ _ c0 i1;have D:e2[i]? =some f:=by simpa using hf
    have a6:i < e2.size:=(Array.getElem?_eq_some_iff.mp D).1;refine⟨kv.1,i,f,i1,by rw[b8,b4],?_,D,?_⟩
    · rw[Array.findIdx?_eq_some_iff_getElem]
      refine⟨a6,?_,λj hj=>?_⟩
      · have:e2[i]=f:=by
          have:=z0b a6;rw[this]at D;exact Option.some.inj D
        rw[this,ek];exact j1
      · intro z
        have b9:j < e2.size:=by lia
        obtain⟨qj,d0,z1,_⟩:=qb6 O (i:=j) (e:=e2[j]) (by simp[b9]);have ej:kv.1=qj.1:=(q1c X.prog X.w).inj _ _ _ z z1;have m1:(v2.map (·.1))[j]? =some qw.1:=by rw[z22,d0];show some qj.1=_;rw[<- ej,ek]
        have m2:(v2.map (·.1))[i]? =some qw.1:=by rw[z22,a2];rfl
        obtain⟨b1,c1⟩:=z07.mp m1;obtain⟨b2,c2⟩:=z07.mp m2;have:=(z08.mp a7) j i b1 b2 hj;exact this (c1.trans c2.symm)
    · rw[i2,j2]
      obtain⟨as,r1⟩:=Dat.reads I _ _ _ a0 pr;obtain⟨bs,r2⟩:=Dat.reads I _ _ _ a5 wr;have hq:=SeqAt.eqAt_reads d d X.A.in1 s _ _ as bs r1 r2 (Dat.lay _ _ a0) (Dat.lay _ _ a5) (by
        have:X.A.in1.units=X.A.units+1:=rfl;rw[this];have:min d.depth d.depth<=d.depth:=Nat.min_le_left _ _
        lia)
      rw[SeqAt.eqv_refl _ (Dat.lay _ _ a0)]at hq;exact hq
  refine z4e (m:=Builtin.Dict.dictSlotArgs "__ne__" ⟨[.ref a,.ref b],[]⟩) ?_;unfold Builtin.Dict.dictSlotArgs;refine z4e (wpAny_notOrdered_dict T1 ?_);refine z4d ?_;refine z4e (wpAny_isInstance T2 isSubtype_dict_dict ?_);rw[if_neg (by decide)];refine z4e (m:=Builtin.Dict.addrOf (Value.ref a)) (z4d ?_);refine z4e (m:=Builtin.Dict.addrOf (Value.ref b)) (z4d ?_);refine z4e (same _ _ _ ?_);exact z4d ⟨_,rfl,(λz=>nomatch z),q1h I q rfl⟩
end
def qru:bootBuiltins "abs"=some (.builtin "abs"):=by decide+kernel
def cA(mg:xE)(x:Str):Addr:=match mg x with
 | some (.ref a)=>a
 | _=>0
def q8o{mg:xE}{x:Str}{C:Addr}(h:mg x=some (.ref C)):cA mg x=C:=by
 unfold cA;rw[h]
structure MTop (K:xA) (C:Addr) (m qual:Str) (st:Stmt) (ps:xD):Prop where
 ex:∃f fd,Fun K m qual st f fd/\Meth K C m f/\∀us:List Value,us.length=ps.length->bindArgs fd ⟨us,[]⟩=pure (ps.zip us)
def qxx{K:xA}{C:Addr}{m qual:Str}{st:Stmt}{ps:xD}{f:Addr}{oc:Value}{od J:Option Addr}{Z:Array (Option Value)}{kV D O cdv ct:Value}
  (b:∀(kV D O:Value) (J:Option Addr) (cdv ct:Value) (us:xH),us.length=ps.length->bindArgs (PySem.W.fnOf m qual (q1z st) (q1k st) (qd st) .none kV D O J cdv ct) ⟨us,[]⟩=pure (ps.zip us))
  (a:PySem.W.findIn K (.ref C) m=some (some (.ref f))) (i:PySem.W.isFn K (.ref f)=true)
  (l:K.lookup f=some ⟨oc,od,.func (PySem.W.fnOf m qual (q1z st) (q1k st) (qd st) .none kV D O J cdv ct),Z⟩) (c:PySem.W.codeIn K cdv qual=true) (k:PySem.W.keepIn K (.ref f)=true):MTop K C m qual st ps:=
 ⟨f,_,qrg (st:=st) l c k,⟨a,i,k⟩,b kV D O J cdv ct⟩
structure MDef (P:Program) (w:World) (K:xA) (mg:xE) (base:Heap) (k:Nat) (C:Addr) (m:Str) (ps:xD) (sp:Sp):Prop where
 ex:∃f fd,FnOk P w K mg base CX0 k f fd ps sp/\Meth K C m f/\Binds K fd ps []
theorem MTop.ok{P:Program}{w:World}{K:xA}{mg:xE}{base:Heap}{C:Addr}{m qual:Str}{st:Stmt}{N ps:xD}{k:Nat}{sp:Sp}(T:MTop K C m qual st ps)(S:FnScope N ps (qd st))(len:∀vs H Q E,sp vs H Q E->vs.length=ps.length)
  (D:∀(f:Addr) (cdv:Value) (A:Around) (outer:List Env) (s:Shared) (H:Hp) (vs:List V) (Q:VK) (E:XK),Room k (A.deeper (envOfC qual (qd st) s.heap.objs.size f cdv))->sp vs H Q E->
   ∃t,PSs (cxOf CX0 P w K mg base N qual (qd st) f cdv A outer s H E).nox (q1k st) t/\t {nx:=λ_ H'=>Q .non H',rt:=Q} (start N vs) H):MDef P w K mg base (k+1) C m ps sp:=by
 obtain⟨f,fd,F,hm,hb⟩:=T.ex;exact⟨f,fd,F.ok S len (D f),hm,Binds.all hb⟩
section
variable{X:Cx}{k k':Nat}{C:Addr}{ps ks:xD}{sp:Sp}{x m:Str}{p pos apos:Pos}{e o:Expr}{es:List Expr}{ta:TE}{t tk:TA}{kws:List Keyword}
def qgh{pl:Sem Bool}(D:MDef X.prog X.w X.K X.mg X.base k C m ps sp)(c:Cls X.K C)(hr:Room k' X.A)(he:PE X o ta)(ha:PA X (e::es) t)(J:k<=k':=by decide)
  (Z:starEach (e::es) X.env=(false,eval e X.env)::starEach es X.env:=by rfl) (O:(backTo pos (starEach es X.env)).any (·.1)=false:=by rfl)
  (ht:eval (.Call (.Attribute o m apos) (e::es) [] pos) X.env=(do
   let ov <- eval o X.env
   standAt apos.atName
   let (f,first) <- holding [ov] (getMethod ov m pl)
   callWith pos f first (backTo pos (starEach (e::es) X.env)) (backToKw pos (keywordEach [] X.env))):=by rfl):
  PE X (.Call (.Attribute o m apos) (e::es) [] pos) (qwa C m sp [] E0 ta t):=by
 obtain⟨f,fd,F,hm,hb⟩:=D.ex;exact qx5 he c hm F (hr.mono J) hb .nil qc3 ha Z O ht
def qzs(C:Addr):TE:=λ_ H Q=>∀x dx,H x=none->H dx=none->dx≠x->Q (.ref x) (upd (upd H dx (.own x)) x (.ins C dx []))
def qrv{xC:xG}{σ:St}{H:Hp}{s:Shared}{Q:VK}(D:PySem.W.makesIn X.K C=true)(hi:PySem.W.findIn X.K (.ref C) "__init__"=some (some (.builtin "object.__init__")))(I:Inv X xC σ H s)
  (h:∀x dx,H x=none->H dx=none->dx≠x->Q (.ref x) (upd (upd H dx (.own x)) x (.ins C dx []))):wpAny (model X.prog X.w) X.A (call (.ref C) []) (EP X xC σ Q) X.xe s:=by
 have hq:=h (s.heap.objs.size+1) s.heap.objs.size (I.hok.fresh (Nat.le_succ _)) (I.hok.fresh (z47 _)) (z3z (z2l _));have I2:=Inv.made (C:=C) I;have Y:=PySem.W.makes_of (M:=model X.prog X.w) I.kIn D;refine wpAny_call (qr2 I.kIn D hi (λself=>PySem.W.Looks.of_pure (PySem.W.oi_bind self)) ?_);have g2:((s.heap.push PySem.W.emptyDict).push (PySem.W.instObj C s.heap.objs.size)).get? (s.heap.objs.size+1)=some (PySem.W.instObj C s.heap.objs.size):=by
  have:=z1c (s.heap.push PySem.W.emptyDict) (o:=PySem.W.instObj C s.heap.objs.size) rfl
  rwa [z3e]at this
 have t1:PySem.W.Looks (model X.prog X.w) ((s.heap.push PySem.W.emptyDict).push (PySem.W.instObj C s.heap.objs.size)) (typeOf (.ref (s.heap.objs.size+1))) (.ref C):=(PySem.W.Looks.ld g2).andThen .now;have t2:PySem.W.Looks (model X.prog X.w) ((s.heap.push PySem.W.emptyDict).push (PySem.W.instObj C s.heap.objs.size)) (isInstance (.ref (s.heap.objs.size+1)) (.type "object")) true:=t1.andThen (Y.top.keeps λb o e=>z0o _ (z0o _ e));refine codeAny_call_builtin PySem.W.oi_plain PySem.W.entry_oi (@PySem.W.check_slot (model X.prog X.w) _ _ _ "object.__init__" "object" "__init__" (.ref (s.heap.objs.size+1)) [] [] _ PySem.W.oi_kind PySem.W.oi_split t2 (PySem.W.oi_args _) ?_);rw[PySem.W.oi_run];exact z4d ⟨zr,V.ref (s.heap.objs.size+1),_,I2,zr,hq⟩
def q9r(hk:PySem.W.makesIn X.K C=true)(hi:PySem.W.findIn X.K (.ref C) "__init__"=some (some (.builtin "object.__init__")))(kp:PySem.W.keepIn X.K (.ref C)=true)(hg:Gl X x)(hm:X.mg x=some (.ref C))
  (D:(x==("__debug__":Str))=false:=by decide):PE X (.Call (.Name x p) [] [] pos) (qzs C):=by
 intro xC s σ H Q I h;refine z1s (q8y I hg hm ?_ D);exact PySem.W.callWith_K0 I.kIn kp (qrv hk hi I h)
structure FunD (K:xA) (x qual:Str) (st:Stmt) (f:Addr) (fd:FuncData):Prop where
 ex:∃(oc:Value) (od:Option Addr) (dV kV doc pm:Value) (an:Option Addr) (cdv ct:Value) (osl:Array (Option Value)),
  fd=PySem.W.fnOf x qual (q1z st) (q1k st) (qd st) dV kV doc pm an cdv ct/\K.lookup f=some ⟨oc,od,.func fd,osl⟩/\PySem.W.codeIn K cdv qual=true
def FunD.ok{P:Program}{w:World}{K:xA}{mg:xE}{base:Heap}{x qual:Str}{st:Stmt}{f:Addr}{fd:FuncData}{N ps:xD}{k:Nat}{sp:Sp}(F:FunD K x qual st f fd)(S:FnScope N ps (qd st))(len:∀vs H Q E,sp vs H Q E->vs.length=ps.length)
  (D:∀(cdv:Value) (A:Around) (outer:List Env) (s:Shared) (H:Hp) (vs:List V) (Q:VK) (E:XK),Room k (A.deeper (envOfC qual (qd st) s.heap.objs.size f cdv))->sp vs H Q E->
   ∃t,PSs (cxOf CX0 P w K mg base N qual (qd st) f cdv A outer s H E).nox (q1k st) t/\t {nx:=λ_ H'=>Q .non H',rt:=Q} (start N vs) H):FnOk P w K mg base CX0 (k+1) f fd ps sp:=by
 obtain⟨oc,od,dV,kV,doc,pm,an,cdv,ct,osl,rfl,lk,J⟩:=F.ex;refine qwb lk J S len λA outer s H vs Q E hr O=>?_;obtain⟨t,h,q⟩:=D cdv A outer s H vs Q E hr O;exact⟨t,h.nox,q⟩
structure InitB (K:xA) (fd:FuncData) (y:Str) (dv:V):Prop where
 b0:∃u,RelV dv u/\Binds K fd ["self",y] [u]
 b1:Binds K fd ["self",y] []
 bk:∀(s:Shared) (v z:Value),K.In s.heap->BindsTo s fd ⟨[v],[(y,z)]⟩ [("self",v),(y,z)]
structure ITop (K:xA) (C:Addr) (qual y:Str) (st:Stmt) (dv:V):Prop where
 ex:∃f fd,FunD K "__init__" qual st f fd/\PySem.W.findIn K (.ref C) "__init__"=some (some (.ref f))/\PySem.W.isFn K (.ref f)=true/\InitB K fd y dv
def qo9{K:xA}{C:Addr}{qual y:Str}{st:Stmt}{dv:V}{u:Value}{f:Addr}{oc:Value}{od O:Option Addr}{a0:Array (Option Value)}{Z kV D pm cdv ct:Value}
    (a:PySem.W.findIn K (.ref C) "__init__"=some (some (.ref f))) (i:PySem.W.isFn K (.ref f)=true)
    (l:K.lookup f=some ⟨oc,od,.func (PySem.W.fnOf "__init__" qual (q1z st) (q1k st) (qd st) Z kV D pm O cdv ct),a0⟩) (c:PySem.W.codeIn K cdv qual=true) (ru:RelV dv u)
    (h0:∀(s:Shared) (v:Value),K.In s.heap->BindsTo s (PySem.W.fnOf "__init__" qual (q1z st) (q1k st) (qd st) Z kV D pm O cdv ct) ⟨[v],[]⟩ [("self",v),(y,u)])
    (h1:∀(s:Shared) (v z:Value),K.In s.heap->BindsTo s (PySem.W.fnOf "__init__" qual (q1z st) (q1k st) (qd st) Z kV D pm O cdv ct) ⟨[v,z],[]⟩ [("self",v),(y,z)])
    (hk:∀(s:Shared) (v z:Value),K.In s.heap->BindsTo s (PySem.W.fnOf "__init__" qual (q1z st) (q1k st) (qd st) Z kV D pm O cdv ct) ⟨[v],[(y,z)]⟩ [("self",v),(y,z)]):ITop K C qual y st dv:=by
  refine⟨f,_,⟨oc,od,Z,kV,D,pm,O,cdv,ct,a0,zr,l,c⟩,a,i,⟨u,ru,λs us X hl=>?_⟩,λs us X hl=>?_,hk⟩
  · have J:us.length=1:=by
      rw[z1o]at hl;exact Nat.succ.inj hl
    obtain⟨v,rfl⟩:=List.length_eq_one_iff.mp J
    exact h0 s v X
  · have J:us.length=2:=by
      rw[z31]at hl;exact hl
    obtain⟨v,z,rfl⟩:=Tim.len2 J
    exact h1 s v z X
structure IDef (P:Program) (w:World) (K:xA) (mg:xE) (base:Heap) (k:Nat) (C:Addr) (y:Str) (dv:V) (sp:Sp):Prop where
 ex:∃f fd,FnOk P w K mg base CX0 k f fd ["self",y] sp/\PySem.W.findIn K (.ref C) "__init__"=some (some (.ref f))/\PySem.W.isFn K (.ref f)=true/\InitB K fd y dv
theorem ITop.ok{P:Program}{w:World}{K:xA}{mg:xE}{base:Heap}{C:Addr}{qual y:Str}{st:Stmt}{dv:V}{N:xD}{k:Nat}{sp:Sp}(T:ITop K C qual y st dv)(S:FnScope N ["self",y] (qd st))(len:∀vs H Q E,sp vs H Q E->vs.length=(["self",y]:xD).length)
  (D:∀(f:Addr) (cdv:Value) (A:Around) (outer:List Env) (s:Shared) (H:Hp) (vs:List V) (Q:VK) (E:XK),Room k (A.deeper (envOfC qual (qd st) s.heap.objs.size f cdv))->sp vs H Q E->
   ∃t,PSs (cxOf CX0 P w K mg base N qual (qd st) f cdv A outer s H E).nox (q1k st) t/\t {nx:=λ_ H'=>Q .non H',rt:=Q} (start N vs) H):IDef P w K mg base (k+1) C y dv sp:=by
 obtain⟨f,fd,F,h1,h2,h3⟩:=T.ex;exact⟨f,fd,F.ok S len (D f),h1,h2,h3⟩
variable{y:Str}{dv:V}
def qrw(D:IDef X.prog X.w X.K X.mg X.base k C y dv sp)(hk:PySem.W.makesIn X.K C=true)(kp:PySem.W.keepIn X.K (.ref C)=true)(hr:Room k' X.A)(hg:Gl X x)(hm:X.mg x=some (.ref C))(O:k+1<=k':=by decide)
  (J:(x==("__debug__":Str))=false:=by decide):PE X (.Call (.Name x p) [] [] pos) (qk5 C sp [dv] E0 tNil):=by
 obtain⟨f,fd,F,h1,h2,h3⟩:=D.ex;obtain⟨u,ru,hb⟩:=h3.b0;exact qu0 ⟨hk,h1,h2,kp⟩ F (hr.mono O) hg hm hb (.cons ru .nil) qc3 J
def qrx(D:IDef X.prog X.w X.K X.mg X.base k C y dv sp)(hk:PySem.W.makesIn X.K C=true)(kp:PySem.W.keepIn X.K (.ref C)=true)(hr:Room k' X.A)(hg:Gl X x)(hm:X.mg x=some (.ref C))(ha:PA X (e::es) t)(O:k+1<=k':=by decide)
  (J:(x==("__debug__":Str))=false:=by decide) (he:starEach (e::es) X.env=(false,eval e X.env)::starEach es X.env:=by rfl) (Z:(backTo pos (starEach es X.env)).any (·.1)=false:=by rfl):PE X (.Call (.Name x p) (e::es) [] pos) (qk5 C sp [] E0 t):=by
 obtain⟨f,fd,F,h1,h2,h3⟩:=D.ex;exact qx6 ⟨hk,h1,h2,kp⟩ F (hr.mono O) hg hm h3.b1 .nil qc3 ha J he Z
end
end L2
namespace L2
open PySem PySem.Spec PyProof.Rows PySem.W
def q1g(x y:Int):Bool:=decide (x < y)
def q29:Tim.STO q1g:=Tim.qwt
def iOf:Value->Int
 | .int x _=>x
 | _=>0
def qdk{ws:List Int}:∀{us:xH},Vals (ws.map V.int) us->us.map iOf=ws/\(∀u∈us,∃x t,u= .int x t)/\IntsAre us ws:=by
 induction ws with
 | nil=>
  intro us r;cases r
  exact⟨rfl,(λ_ z=>nomatch z),.nil⟩
 | cons x ws ih=>
  intro us r;cases r with
  | cons r1 rr=>
   obtain⟨t,rfl⟩:=r1;obtain⟨a,b,c⟩:=ih rr;refine⟨by rw[z3k,a];rfl,λu D=>?_,.cons x t c⟩;rcases z3m.mp D with rfl | D
   ·exact⟨x,t,zr⟩
   ·exact b u D
theorem q6p:∀{us:xH},(∀u∈us,∃x t,u= .int x t)->Vals ((us.map iOf).map V.int) us
 | [],_=> .nil
 | u::us,h=>by
  obtain⟨x,t,rfl⟩:=h u (z1p ..);exact .cons ⟨t,zr⟩ (q6p λv hv=>h v (z16 _ hv))
section
variable{prog:Program}{w:World}{A:Around}{s:Shared}{a:Addr}
def qic{ws:List Int}{vs:xH}(r:Vals (ws.map V.int) vs):Tim.Keys prog w A s a vs (λv=>Tim.rank q1g (vs.map iOf) (iOf v)):=by
 intro h2 s' _;obtain⟨e1,e2,e3⟩:=qdk r;refine⟨oneType',λE Q q=>?_,λx hx y hy E Q q=>?_⟩
 ·match vs,h2,e3 with
  | v1::v2::vr,_,e3=>
   rw[keyKind_ints e3];exact z4d q
 ·rw[<- Tim.qdj q29 iOf hx hy]at q;obtain⟨x',t,rfl⟩:=e2 x hx;obtain⟨y',u,rfl⟩:=e2 y hy;rw[keyLt'_oneType];exact oneLt_int q
end
section
variable{X:Cx}
def q5f(K:xA)(hK:X.K=K:=by rfl):q2b X (.builtin "sorted") (λxs H Q=>∃p ws,xs=[.ref p]/\(SqL K H p (ws.map V.int)\/ SqT K H p (ws.map V.int))/\∀l,H l=none->Q (.ref l) (upd H l (.lst ((Tim.srt q1g ws).map V.int)))):=by
 subst hK;intro xC s σ H xs us Q I r h;obtain⟨p,ws,rfl,J,q⟩:=h;obtain⟨u,rfl,ru⟩:=q2k r;cases ru
 obtain⟨T,o,its,n,hT,ho,hc,hd,rv,hz⟩:∃(T:String) (o:Obj) (its:xH) (n:Nat),(T="list"\/ T="tuple")/\s.heap.get? p=some o/\o.cls= .type T/\o.data= .seq its.toArray n/\Vals (ws.map V.int) its/\(ws.map V.int).length<=sizeLine:=by
  rcases J with J | J
  ·obtain⟨its,rv,⟨o,n,e,c,_,d⟩,z⟩:=I.list J;exact⟨"list",o,its,n,.inl rfl,e,c,d,rv,z⟩
  ·obtain⟨its,rv,⟨o,e,c,n,d⟩,z⟩:=I.tuple J;exact⟨"tuple",o,its,n,.inr rfl,e,c,d,rv,z⟩
 have hl:its.length<=sizeLine:=by rw[<- rv.length];exact hz
 obtain⟨e1,e2,_⟩:=qdk rv;refine q4k (vs:=its) (rk:=λv=>Tim.rank q1g (its.map iOf) (iOf v)) hl (λA' E' R _ k=>q9p hT ho hc hd (by rw[z23];exact hl) (by rw[z1g];exact k)) (λA' s' a _ _ _=>qic rv) λout l n h' tk so keep D hg=>?_;have Z:∀u∈out.toList,∃x t,u= .int x t:=λu hu=>e2 u (so.perm.mem_iff.mp hu);have ed:=Tim.q3d q29 iOf so;rw[e1]at ed;have O:=q6p Z;rw[ed]at O;exact I.q3e O (by rw[z30,(Tim.q13 q1g ws).length_eq];rw[z30]at hz;exact hz) keep D hg (q l (I.hok.fresh D))
end
end L2
namespace L2
open PySem PySem.Spec PyProof.Rows
section
variable{X:Cx}{xC:xG}{σ:St}{H:Hp}{s:Shared}{a:Addr}{kvs:List (Key×V)}{k:Key}{z:V}{u r:Value}{A:Around}{E:xB}
def qzt{Q:xB}(I:Inv X xC σ H s)(e:H a=some (.dK kvs))(hl:kvs.length < sizeLine)(ry:RelV (kV k) u)(rz:RelV z r)
  (h1:∀v Z s',valV kvs k=some v->Inv X xC σ H s'->RelV v Z->Q Z s') (h2:valV kvs k=none->∀s',Inv X xC σ (upd H a (.dK (putK kvs k z))) s'->Q r s'):
  wpAny (model X.prog X.w) A (call (.builtin "dict.setdefault") [.ref a,u,r]) Q E s:=by
 obtain⟨zl,hd,vs,D,dd⟩:=qwd I.hok e;have rv:=D.val k;refine call_meetsIn PySem.F.slot_dict_setdefault dd.typeIs PySem.F.entry_dict_setdefault (PySem.F.args_dict_setdefault_3 _ _ _) (kt_meets_setdefault (q1c X.prog X.w) a (q9l ry) hd r) ⟨vs,dd,by rw[<- D.length];exact zl,λZ hw=>?_,λhn h' J hs=>?_⟩
 ·cases O:valV kvs k with
  | none=>
   rw[O,hw]at rv;exact rv.elim
  | some v=>
   rw[O,hw]at rv;exact h1 v Z _ O (I.tok _) rv
 ·have hp:(putK kvs k z).length<=sizeLine:=by have:=q3x kvs k z;lia
  have he:∃q,h'.get? a=some q:=let ⟨q,_,_,hq,_⟩:=J;⟨q,hq⟩
  refine h2 ?_ _ (qgb I (by rw[e];exact True.intro) hs he (qra hp hd (D.put k rz) J));cases O:valV kvs k with
  | none=>rfl
  | some v=>
   rw[O,hn]at rv;exact rv.elim
end
def qzu(td ty tx:TE):TE:=λσ H Q=>td σ H λx H1=>∃a,x= .ref a/\IsD H1 a/\ty σ H1 λy H2=>tx σ H2 λz H3=>∃kvs k,H3 a=some (.dK kvs)/\y=kV k/\kvs.length < sizeLine/\
 (∀v,valV kvs k=some v->Q v H3)/\(valV kvs k=none->Q z (upd H3 a (.dK (putK kvs k z))))
section
variable{X:Cx}{o e f:Expr}{apos cpos:Pos}{td ty tx:TE}
def qlf(ho:PE X o td)(he:PE X e ty)(hf:PE X f tx)(m:M2 X o "setdefault" apos e f cpos):PE X (.Call (.Attribute o "setdefault" apos) [e,f] [] cpos) (qzu td ty tx):=by
 intro xC s σ H Q I h;refine wpAny_Call_method m.base m.few m.line PySem.F.plainAttrs_dict PySem.F.slot_dict_setdefault PySem.F.type_dict_setdefault (thn (ho xC s σ H _ I h) λu s1 J=>?_);obtain⟨x,H1,I1,rx,a,ex,d,q1⟩:=J;subst ex;obtain rfl:u=Value.ref a:=rx;obtain⟨t1,t2,_⟩:=qrd I1 d;refine⟨t1,t2,?_⟩;rw[m.trees];refine Calls.callWith_builtin rfl (Calls.evalArgs_plain (Calls.spliced_cons (thn (he xC s1 σ H1 _ I1 q1) λiv s2 ⟨y,H2,I2,ry,q2⟩=>
  Calls.spliced_cons (thn (hf xC s2 σ H2 _ I2 q2) λfv s3 J=>Calls.spliced_nil ?_))))
 obtain⟨z,H3,I3,rz,kvs,k,eH,ey,hl,q3,q4⟩:=J;subst ey;exact qzt I3 eH hl ry rz (λv w' s4 ev I4 D=>⟨_,H3,I4,D,q3 v ev⟩) λen s4 I4=>⟨z,_,I4,rz,q4 en⟩
end
end L2
namespace L2
open PySem PySem.Spec PyProof.Rows PySem.W
def q1r(w:World):Bool:=w.params.followText "set-order"
def TxS(P:Program)(w:World)(h:Heap)(a:Addr)(xs:xD):Prop:=
 ∃o es ep t,h.get? a=some o/\o.ExactSet/\o.data= .set es ep t/\ElemsOf (strKind P w) es.toList/\es.toList.map (λe=>sOf e.2)=xs/\xs.Nodup/\es.size < scanBound/\t.fits es.size=true/\t.led= !q1r w/\(0 < es.size->t.plain=false)
def qxy(t:SetTable)(j:Nat):(t.put j).1.led=t.led/\(t.put j).1.plain=t.plain:=⟨rfl,rfl⟩
def qn9(t:SetTable)(n:Nat):(t.orStandIn n).led=t.led:=by
 unfold SetTable.orStandIn SetTable.standIn;split <;> rfl
def qpk(t:SetTable)(es:Array (Int×Value))(h:Int)(x:Value):(layNew t es h x).2.1.led=t.led:=by
 unfold layNew;split
 ·dsimp only
  rw[qn9];exact(qxy _ _).1
 ·rfl
def qna(t:SetTable)(es:Array (Int×Value))(n:Nat):(relayAll t es n).2.1.led=t.led/\(t.plain=false->(relayAll t es n).2.1.plain=false):=by
 unfold relayAll;split
 ·rename_i t' order e;have e2:t'.led=t.led/\t'.plain=t.plain:=by
   unfold SetTable.relaid SetTable.laid at e;cases q:SetTable.layClean (SetTable.sizeAbove n - 1) (es.map (·.1)) with
   | none=>
    rw[q]at e;cases e
   | some ow=>
    rw[q]at e;cases e
    exact⟨zr,zr⟩
  dsimp only
  split
  ·exact⟨e2.1,λz=>e2.2.trans z⟩
  ·exact⟨zr,λ_=>rfl⟩
 ·exact⟨zr,λ_=>rfl⟩
section
variable{P:Program}{w:World}{A:Around}{E:xB}{s:Shared}{a:Addr}{xs:xD}
def qb7{x:Str}{v:Value}(h:(strKind P w).is x v=true):sOf v=x/\∃t,v= .str x t:=by
 obtain⟨t,rfl⟩:=Value.isStrOf_shape (x:=x) (v:=v) h;exact⟨zr,t,zr⟩
def qlg{es:List (Int×Value)}(h:ElemsOf (strKind P w) es)(x:Str):x∈es.map (λe=>sOf e.2)↔∃e∈es,(strKind P w).is x e.2=true:=by
 constructor
 ·intro hx;obtain⟨e,D,rfl⟩:=z44.mp hx;obtain⟨⟨k,hk,_⟩,_⟩:=h e D;exact⟨e,D,by rw[(qb7 hk).1];exact hk⟩
 ·rintro ⟨e,D,hk⟩;exact z44.mpr ⟨e,D,(qb7 hk).1⟩
def qid{h:Heap}{o:Obj}{es:Array (Int×Value)}{ep:Nat}{t:SetTable}(ho:h.get? a=some o)(O:o.ExactSet)(hd:o.data= .set es ep t)
  {D:Array (Int×Value)} {t':SetTable} (J:ElemsOf (strKind P w) D.toList) (hnd:(D.toList.map λe=>sOf e.2).Nodup) (hb:D.size < scanBound) (hf:t'.fits D.size=true) (hl:t'.led= !q1r w) (hp:t'.plain=false):
  (h.update a (Obj.putSet D t')).get? a=some {o with data:= .set D (ep+1) t'}/\TxS P w (h.update a (Obj.putSet D t')) a (D.toList.map λe=>sOf e.2):=by
 have Z:(h.update a (Obj.putSet D t')).get? a=some {o with data:= .set D (ep+1) t'}:=by
  have:=z0z (Obj.putSet D t') ho (by rw[putSet_of D t' hd];rfl);rw[putSet_of D t' hd]at this;exact this
 exact⟨Z,_,D,ep+1,t',Z,O,zr,J,zr,hnd,hb,hf,hl,λ_=>hp⟩
def quc{x:Str}{t0:Tok}{Q:Bool->Shared->Prop}(hS:TxS P w s.heap a xs)(b7:xs.length+1 < scanBound)
  (h:∀b h' ys,Heap.SameBut a s.heap h'->TxS P w h' a ys->(if x∈xs then ys=xs else ys.Perm (xs++ [x]))->Q b {s with heap:=h'}):
  wpAny (model P w) A (setAddHashed a (.str x t0) ((strKind P w).hash x)) Q E s:=by
 obtain⟨o,es,ep,t,ho,c1,hd,a1,a4,hnd,hb,hf,a9,hpl⟩:=id hS;have a8:(strKind P w).is x (.str x t0)=true:=strKind_is P w x t0;have b8:(Value.str x t0).scannable=true:=rfl;have hn:es.size=xs.length:=by rw[<- a4,z30,z19]
 have d2:es.size+1 < scanBound:=by rw[hn];exact b7
 unfold setAddHashed setAddHashedIn;refine z3n (z4e (z2c ho hd hf ?_))
 dsimp only
 rw[byScan_of b8 hb a1];simp only[↓reduceIte];unfold setAddByScan;refine z4e ?_;refine z4e (z4c ?_);refine z4e (wpAny_setScan_of a8 ho hd hf a1 ?_);cases hr:List.findIdx? (λe=>(strKind P w).is x e.2) es.toList with
 | some j=>
  dsimp only
  obtain⟨hj,d4,_⟩:=List.findIdx?_eq_some_iff_getElem.mp hr;have hm:x∈xs:=by rw[<- a4];exact(qlg a1 x).mpr ⟨_,z2k hj,d4⟩
  refine z4d (z4d ?_);have e:s={s with heap:=s.heap}:=by cases s;rfl
  have:=h false s.heap xs (Heap.SameBut.refl a s.heap) hS (by rw[if_pos hm]);rw[e];exact this
 | none=>
  dsimp only
  have hm:¬ x∈xs:=λhx=>by
   rw[<- a4]at hx;obtain⟨e,he,hp⟩:=(qlg a1 x).mp hx;have:=List.findIdx?_eq_none_iff.mp hr e he;rw[hp]at this;cases this
  have c5:∀(b:Bool) {s₁:Shared} {Q':Unit->Shared->Prop},Q' () s₁->wpAny (model P w) A (match b with | true=>rule "set.scan.the-table-gave-way" | false=>pure ()) Q' E s₁:=
   λb s₁ Q' hq=>by cases b <;> first | exact z4d hq | exact z4c hq
  have J:=layNew_perm t es ((strKind P w).hash x) (.str x t0);have O:=layNew_fits t es ((strKind P w).hash x) (.str x t0);have a6:=qpk t es ((strKind P w).hash x) (.str x t0);generalize hL:layNew t es ((strKind P w).hash x) (.str x t0)=L at J O a6 ⊢;obtain⟨D,t1,Z,d5⟩:=L
  dsimp only at J O a6 ⊢
  rw[z20]at J;have a7:ElemsOf (strKind P w) D.toList:=(a1.push a8 b8).perm J;have b6:(D.toList.map λe=>sOf e.2).Perm (xs++ [x]):=by
   have:=J.map λe:Int×Value=>sOf e.2;rw[z35,a4]at this;exact this
  have b2:(xs++ [x]).Nodup:=z2d.mpr ⟨hnd,by simp,λu hu v hv e=>hm (by rw[z1m.mp hv]at e;exact e ▸ hu)⟩;have a0:D.size < scanBound:=by rw[<- z19,J.length_eq,z1o,z19];simpa using d2
  refine z4e (c5 _ ?_);have tail:∀t2:SetTable,t2.fits D.size=true->t2.led=t1.led->t2.plain=false->wpAny (model P w) A (do
    storeSet a D t2
    if (!Z&&t2.tooFull)=true then do
      (match (relayAll t2 D (SetTable.grown D.size)).2.2 with | true=>rule "set.scan.the-table-gave-way" | false=>pure ())
      storeSet a (relayAll t2 D (SetTable.grown D.size)).1 (relayAll t2 D (SetTable.grown D.size)).2.1
      pure (some true)
     else pure (some true)) (λr s'=>∃h' ys,r=some true/\s'={s with heap:=h'}/\Heap.SameBut a s.heap h'/\TxS P w h' a ys/\ys.Perm (xs++ [x])) E s:=λt2 d3 c6 c7=>by
   refine z4e (wpAny_storeSet_of ho hd ?_ (fits_of_scanBound a0));obtain⟨c4,d0⟩:=qid (P:=P) (w:=w) ho c1 hd a7 (b6.nodup_iff.mpr b2) a0 d3 (by rw[c6,a6,a9]) c7;have b4:=z1b s.heap a (Obj.putSet D t2);split
   ·have hp:=relayAll_perm t2 D (SetTable.grown D.size);have b5:=relayAll_fits t2 D (SetTable.grown D.size);have a5:=qna t2 D (SetTable.grown D.size);generalize hRl:relayAll t2 D (SetTable.grown D.size)=Rl at hp b5 a5 ⊢;obtain⟨a2,t3,c9⟩:=Rl
    dsimp only at hp b5 a5 ⊢
    have c0:ElemsOf (strKind P w) a2.toList:=a7.perm hp;have hsz:a2.size=D.size:=by rw[<- z19,hp.length_eq,z19]
    have b9:a2.size < scanBound:=by rw[hsz];exact a0
    have c8:(a2.toList.map λe=>sOf e.2).Perm (xs++ [x]):=(hp.map _).trans b6;refine z4e (c5 _ ?_);refine z4e (wpAny_storeSet_of c4 rfl ?_ (fits_of_scanBound b9));obtain⟨_,d1⟩:=qid (P:=P) (w:=w) c4 c1 rfl c0 (c8.nodup_iff.mpr b2) b9 b5 (by rw[a5.1,c6,a6,a9]) (a5.2 c7);exact z4d ⟨_,_,zr,zr,b4.trans (z1b _ a _),d1,c8⟩
   ·exact z4d ⟨_,_,zr,zr,b4,d0,b6⟩
  split
  ·rename_i b3;refine z4e ?_;rw[hashByValue_scannable 8 b8];refine z4d ?_;refine z4f (tail _ (SetTable.fits_plain_off O) rfl rfl) (λr s' z=>?_) λe s' z=>z;obtain⟨h',ys,rfl,rfl,h1,h2,h3⟩:=z;exact z4d (h true h' ys h1 h2 (by rw[if_neg hm];exact h3))
  ·rename_i b3;refine z4e (z4d ?_);simp only[↓reduceIte];refine z4f (tail t1 O rfl (by simpa using b3)) (λr s' z=>?_) λe s' z=>z;obtain⟨h',ys,rfl,rfl,h1,h2,h3⟩:=z;exact z4d (h true h' ys h1 h2 (by rw[if_neg hm];exact h3))
end
def TxS.keep{P:Program}{w:World}{h h':Heap}{a:Addr}{xs:xD}(x:TxS P w h a xs)(k:∀o,h.get? a=some o->h'.get? a=some o):TxS P w h' a xs:=by
 obtain⟨o,es,ep,t,ho,r⟩:=x;exact⟨o,es,ep,t,k o ho,r⟩
section
variable{prog:Program}{w:World}{A:Around}{R:Result->Shared->Prop}{I:Addr}{fp wr:List Addr}{G:Array GenState->Array GenState->Prop}{n:Nat}{P:Nat->Value->Prop}{St:Nat->Shared->Prop}
def InS(val:Nat->Str)(i:Nat)(ys:xD):Prop:=(∀x,x∈ys↔∃j,j < i/\val j=x)/\ys.length<=i
def InS.next{val:Nat->Str}{i:Nat}{ys zs:xD}(h:InS val i ys)(e:if val i∈ys then zs=ys else zs.Perm (ys++ [val i])):InS val (i+1) zs:=by
 have step:∀x,(∃j,j < i+1/\val j=x)↔(∃j,j < i/\val j=x)\/ x=val i:=λx=>by
  constructor
  ·rintro ⟨j,hj,rfl⟩;rcases Nat.lt_or_ge j i with h1 | h1
   ·exact .inl ⟨j,h1,zr⟩
   ·exact .inr (by rw[show j=i by lia])
  ·rintro (⟨j,hj,rfl⟩ | rfl)
   ·exact⟨j,by lia,zr⟩
   ·exact⟨i,z2l _,zr⟩
 by_cases c:val i∈ys
 ·rw[if_pos c]at e;subst e;refine⟨λx=>?_,Nat.le_succ_of_le h.2⟩;rw[step,<- h.1 x];exact⟨.inl,λz=>z.elim id λq=>q ▸ c⟩
 ·rw[if_neg c]at e;refine⟨λx=>?_,?_⟩
  ·rw[step,e.mem_iff,z2u,z1m,h.1 x]
  ·rw[e.length_eq,z1o];exact z2q h.2
def qlh(W:WalksS prog w A.in1 I fp wr G n P St)(S:Addr)(a1:S∉fp)(val:Nat->Str)(a8:∀i v,P i v->∃t,v= .str (val i) t)(Z:n+1 < scanBound):
  ∀(k i:Nat) (s:Shared) (ys:xD),n - i=k->i<=n->St i s->TxS prog w s.heap S ys->InS val i ys->
   (∀s' zs,Moved (S::wr) G s s'->TxS prog w s'.heap S zs->InS val n zs->R (.ok (.ret .none)) s')->
   codeAny (model prog w) A (.builtin "set.update.loop" ⟨[.ref S,.ref I],[]⟩) R s:=by
 have a2:S∉wr:=λh=>a1 (W.sub _ h);have J:∀b∈wr,b∈S::wr:=λb Z=>z16 _ Z;intro k
 induction k with
 | zero=>
  intro i s ys hk hi O hS D hR;have e:i=n:=by lia
  subst e;refine z38 F.entry_set_update_loop ?_;rw[Around.under_plainId F.plain_set_update_loop _];show wpAny _ A.in1 (pyNext (.ref I) >>=_) _ _ s;refine z4e (W.done s _ _ O λs' hm=>?_);show wpAny _ A.in1 (ret Value.none) _ _ s';exact z4d (hR s' ys (hm.mono J) (hS.keep λo e=>hm.heap S o a2 e) D)
 | succ k ih=>
  intro i s ys hk hi O hS D hR;have a4:i < n:=by lia
  refine z38 F.entry_set_update_loop ?_;rw[Around.under_plainId F.plain_set_update_loop _];show wpAny _ A.in1 (pyNext (.ref I) >>=_) _ _ s;refine z4e (W.item i s _ _ a4 O λv s' hP a7 hm=>?_);obtain⟨t,rfl⟩:=a8 i v hP;have a9:TxS prog w s'.heap S ys:=hS.keep λo e=>hm.heap S o a2 e;show wpAny _ A.in1 (holding [Value.str (val i) t] (setAdd S (.str (val i) t)) >>=_) _ _ s';refine z4e (z3n ?_);unfold setAdd;refine z3n ?_;refine z4e ((strKind prog w).pyHash (k:=val i) (strKind_is _ _ _ _) ?_);refine quc (s:={s' with toks:=s'.toks+1}) a9 (by have:=D.2;lia) λb h' zs a6 b2 hz=>?_;refine z4d ⟨plainId_quiet F.plain_set_update_loop _,ih (i+1) _ zs (by lia) a4 (W.frame _ s' _ _ a7 (Nat.le_succ _) λb Z o e=>?_) b2 (D.next hz) λb3 us a5 a0 hu=>?_⟩
  ·rw[a6.2 b (λh:b=S=>a1 (by rw[<- h];exact Z))];exact e
  ·refine hR b3 us (Moved.trans W.gtrans ((hm.mono J).then_heap (Nat.le_succ _) λb o Z e=>?_) a5) a0 hu;rw[a6.2 b (λh:b=S=>Z (by rw[h];exact z1p))];exact e
end
def qag{prog:Program}{w:World}{A:Around}{E:xB}{s:Shared}(a:Value){Q₁:xB}
  (h:Q₁ (.ref s.heap.objs.size) {s with heap:=s.heap.push {cls:= .type "set",dict:=none,data:= .set #[] 0 (.fresh 0 0 (!q1r w))}}):
  codeAny (model prog w) A (.call (.builtin "set.__new__") ⟨[.type "set",a],[]⟩) (wants Q₁ E) s:=by
 refine codeAny_of_tree ?_;show wpAny _ A.in1 (do checkBuiltinCall "set.__new__" ⟨[.type "set",a],[]⟩;again (.builtin "set.__new__" ⟨[.type "set",a],[]⟩)) _ _ s;refine z4e (wpAny_of_eq (PySem.F.newCall_set_1 a) (z4d ⟨plainId_quiet F.plain_set_new _,z38 F.entry_set_new ?_⟩));rw[Around.under_plainId F.plain_set_new _];unfold Builtin.«set.__new__» Builtin.Frozenset.newClass;have D:=sub_set_self;obtain⟨hp,g,d,tk,os⟩:=s
 dsimp only
 wp_walk
 refine z2s (z4d ?_)
 dsimp only
 simp only[newObj];refine z4e (wpAny_alloc (z4d ?_));exact z4d h
def qie{P:Program}{w:World}{h:Heap}{a:Addr}(e:h.get? a=some {cls:= .type "set",dict:=none,data:= .set #[] 0 (.fresh 0 0 (!q1r w))}):TxS P w h a []:=
 ⟨_,#[],0,_,e,⟨rfl,rfl,rfl⟩,rfl,λe he=>by simp at he,rfl,z3f,by decide,by rfl,rfl,λz=>absurd z (by decide)⟩
def qry{vs:xH}{ws:xD}(h:StrsAre vs ws)(i:Nat)(v:Value)(e:vs[i]? =some v):∃t,v= .str (ws.getD i "") t:=by
 induction h generalizing i with
 | nil=>simp at e
 | cons x t hr ih=>
  cases i with
  | zero=>
   simp at e
   exact⟨t,e.symm⟩
  | succ i=>exact ih i (by simpa using e)
def sub_list_set':isSubtype (.type "list") (.type "set")=pure false:=by rw[isSubtype_type];kernel_rfl
def sub_list_frozenset':isSubtype (.type "list") (.type "frozenset")=pure false:=by rw[isSubtype_type];kernel_rfl
section
variable{prog:Program}{w:World}{A:Around}{E:xB}{s:Shared}
set_option maxHeartbeats 3200000 in
def qrz{l:Addr}{D:Array Value}{ws:xD}{Q:xB}(hh:A.handled=none)(hl:s.heap.IsList l D)(hi:StrsAre D.toList ws)(hb:D.size+1 < scanBound)
  (h:∀(h':Heap) (tk:Nat) (ys:xD),TxS prog w h' s.heap.objs.size ys->InS (λi=>ws.getD i "") D.size ys->(∀b o,b < s.heap.objs.size->s.heap.get? b=some o->h'.get? b=some o)->Q (.ref s.heap.objs.size) {s with heap:=h',toks:=tk}):
  wpAny (model prog w) A (call (.type "set") [.ref l]) Q E s:=by
 obtain⟨c,tl,c5⟩:=PySem.F.called_set.mro;have b9:=PySem.F.called_set.made;have c8:=PySem.F.called_set.sub;refine wpAny_call (codeAny_of_tree ?_);show wpAny _ _ (callAny (.type "set") _) _ _ _;refine z4d ⟨Code.quiet_builtin _ (by decide+kernel),z38 PySem.F.entry_type_call ?_⟩;rw[Around.under_plain (weight_type_call_type "set" [.ref l] []) rfl];have h1:=PySem.F.called_set.notType;have h2:=PySem.F.called_set.canCreate;have hct:=PySem.F.typeCall_set_1 (.ref l)
 repeat (any_goals (first | assumption | wp_step))
 refine z42 (qag (.ref l) (E:=E) (Q₁:=λobj s₁=>obj= .ref s.heap.objs.size/\s₁={s with heap:=s.heap.push {cls:= .type "set",dict:=none,data:= .set #[] 0 (.fresh 0 0 (!q1r w))}}) ⟨rfl,rfl⟩) λr s₁ hr=>?_;cases r with
 | error e=>exact hr
 | ok fl=>
  cases fl with
  | ret obj=>
   obtain⟨rfl,rfl⟩:=hr;have hS:(s.heap.push {cls:= .type "set",dict:=none,data:= .set #[] 0 (.fresh 0 0 (!q1r w))}).get? s.heap.objs.size=some {cls:= .type "set",dict:=none,data:= .set #[] 0 (.fresh 0 0 (!q1r w))}:=z1c _ rfl;have hT:Shared.TypeIs {s with heap:=s.heap.push {cls:= .type "set",dict:=none,data:= .set #[] 0 (.fresh 0 0 (!q1r w))}} (.ref s.heap.objs.size) "set":=⟨_,hS,rfl⟩;have hli:=PySem.F.called_set.init.lookup;have hbi:=PySem.F.called_set.init.bind (.ref s.heap.objs.size)
   repeat (any_goals (first | assumption | wp_step))
   refine z42 (codeAny_call_builtin (R:=wants (λr s₂=>r= .none/\∃h' tk ys,s₂={s with heap:=h',toks:=tk}/\TxS prog w h' s.heap.objs.size ys/\InS (λi=>ws.getD i "") D.size ys/\
     (∀b o,b < s.heap.objs.size->s.heap.get? b=some o->h'.get? b=some o)) E) PySem.F.called_set.init.plain PySem.F.entry_set_init (check_set_init_1 hT ?_)) λr₂ s₂ Z=>?_
   ·obtain⟨ol,a7,a1,nl,a2⟩:=hl;obtain⟨c9,a0,c0,J⟩:=ol;simp only at a1 a2;subst a1;subst a2;have a8:(s.heap.push {cls:= .type "set",dict:=none,data:= .set #[] 0 (.fresh 0 0 (!q1r w))}).get? l=some {cls:= .type "list",dict:=a0,data:= .seq D nl,slots:=J}:=z0o _ a7;have c7:=sub_list_set';have c6:=sub_list_frozenset';have hne:(Value.type "list"==Value.type "dict")=false:=by decide
    have a4:(s.heap.push {cls:= .type "set",dict:=none,data:= .set #[] 0 (.fresh 0 0 (!q1r w))}).IsList l D:=⟨_,a8,rfl,nl,rfl⟩;unfold Builtin.«set.__init__» noKeywords Builtin.Frozenset.updateFrom;generalize b3:pyIter=PI
    wp_walk
    subst b3;refine z25 a4 ?_;refine z4e (wpAny_runValue ?_);have a5:l < s.heap.objs.size:=z3y a7;have b7:A.in1.in1.in1.handled=none:=by simp[hh]
    have a6:l≠(s.heap.push {cls:= .type "set",dict:=none,data:= .set #[] 0 (.fresh 0 0 (!q1r w))}).objs.size:=by
     rw[z3e];exact z3z (z2e a5)
    have b4:s.heap.objs.size∉ [(s.heap.push {cls:= .type "set",dict:=none,data:= .set #[] 0 (.fresh 0 0 (!q1r w))}).objs.size,l]:=by
     rw[z3e];simp only[z3m,z1m,z2r,or_false,not_or];exact⟨z3z (z2l _),z41 a5⟩
    have a9:∀(i:Nat) (v:Value),D[i]? =some v->∃t,v= .str ((λi=>ws.getD i "") i) t:=λi v hv=>qry hi i v (by rw[z0x];exact hv);refine qlh ((Walks.list b7 _ l a6 D).toS) s.heap.objs.size b4 (λi=>ws.getD i "") a9 hb (D.size - 0) 0 _ [] (by lia) (z4a _)
     ⟨⟨_,z1c _ rfl,rfl,rfl⟩,(a4.push _)⟩ (qie (z0o _ hS)) ⟨λx=>⟨(λz=>nomatch z),λ⟨j,z,_⟩=>absurd z (Nat.not_lt_zero _)⟩,z47 _⟩ ?hR
    case hR=>
     intro s' zs hm O hz;obtain⟨h',g',d',c4,c1⟩:=s';have eg:g'=s.gens:=hm.gens;have ed:d'=s.drawn:=hm.drawn;have eo:c1=s.os:=hm.os;subst eg;subst ed;subst eo;show wpAny _ _ _ _ _ _;refine z4d ?_;show wpAny _ _ (ret Value.none) _ _ _;refine z4d ⟨zr,h',c4,zs,zr,O,hz,λb o hb e=>?_⟩;have b5:b≠s.heap.objs.size:=z3z hb;have b6:b≠(s.heap.push {cls:= .type "set",dict:=none,data:= .set #[] 0 (.fresh 0 0 (!q1r w))}).objs.size:=by
      rw[z3e];exact z3z (z2e hb)
     exact hm.heap b o (by simp only[z3m,z1m,z2r,or_false,not_or];exact⟨b5,b6⟩) (z0o _ (z0o _ e))
   ·cases r₂ with
    | error e=>exact Z
    | ok b2=>
     cases b2 with
     | ret r=>
      obtain⟨rfl,h',tk,ys,rfl,O,hz,b8⟩:=Z
      repeat (any_goals (first | assumption | wp_step))
      exact h _ _ _ O hz b8
     | _=>exact Z.elim
  | _=>exact hr.elim
end
def sub_tuple_set':isSubtype (.type "tuple") (.type "set")=pure false:=by rw[isSubtype_type];kernel_rfl
def sub_tuple_frozenset':isSubtype (.type "tuple") (.type "frozenset")=pure false:=by rw[isSubtype_type];kernel_rfl
section
variable{prog:Program}{w:World}{A:Around}{E:xB}{s:Shared}
set_option maxHeartbeats 3200000 in
def qpl{l:Addr}{D:Array Value}{ws:xD}{Q:xB}(hh:A.handled=none)(hl:s.heap.IsTuple l D)(hi:StrsAre D.toList ws)(hb:D.size+1 < scanBound)
  (h:∀(h':Heap) (tk:Nat) (ys:xD),TxS prog w h' s.heap.objs.size ys->InS (λi=>ws.getD i "") D.size ys->(∀b o,b < s.heap.objs.size->s.heap.get? b=some o->h'.get? b=some o)->Q (.ref s.heap.objs.size) {s with heap:=h',toks:=tk}):
  wpAny (model prog w) A (call (.type "set") [.ref l]) Q E s:=by
 obtain⟨c,tl,c5⟩:=PySem.F.called_set.mro;have b9:=PySem.F.called_set.made;have c8:=PySem.F.called_set.sub;refine wpAny_call (codeAny_of_tree ?_);show wpAny _ _ (callAny (.type "set") _) _ _ _;refine z4d ⟨Code.quiet_builtin _ (by decide+kernel),z38 PySem.F.entry_type_call ?_⟩;rw[Around.under_plain (weight_type_call_type "set" [.ref l] []) rfl];have h1:=PySem.F.called_set.notType;have h2:=PySem.F.called_set.canCreate;have hct:=PySem.F.typeCall_set_1 (.ref l)
 repeat (any_goals (first | assumption | wp_step))
 refine z42 (qag (.ref l) (E:=E) (Q₁:=λobj s₁=>obj= .ref s.heap.objs.size/\s₁={s with heap:=s.heap.push {cls:= .type "set",dict:=none,data:= .set #[] 0 (.fresh 0 0 (!q1r w))}}) ⟨rfl,rfl⟩) λr s₁ hr=>?_;cases r with
 | error e=>exact hr
 | ok fl=>
  cases fl with
  | ret obj=>
   obtain⟨rfl,rfl⟩:=hr;have hS:(s.heap.push {cls:= .type "set",dict:=none,data:= .set #[] 0 (.fresh 0 0 (!q1r w))}).get? s.heap.objs.size=some {cls:= .type "set",dict:=none,data:= .set #[] 0 (.fresh 0 0 (!q1r w))}:=z1c _ rfl;have hT:Shared.TypeIs {s with heap:=s.heap.push {cls:= .type "set",dict:=none,data:= .set #[] 0 (.fresh 0 0 (!q1r w))}} (.ref s.heap.objs.size) "set":=⟨_,hS,rfl⟩;have hli:=PySem.F.called_set.init.lookup;have hbi:=PySem.F.called_set.init.bind (.ref s.heap.objs.size)
   repeat (any_goals (first | assumption | wp_step))
   refine z42 (codeAny_call_builtin (R:=wants (λr s₂=>r= .none/\∃h' tk ys,s₂={s with heap:=h',toks:=tk}/\TxS prog w h' s.heap.objs.size ys/\InS (λi=>ws.getD i "") D.size ys/\
     (∀b o,b < s.heap.objs.size->s.heap.get? b=some o->h'.get? b=some o)) E) PySem.F.called_set.init.plain PySem.F.entry_set_init (check_set_init_1 hT ?_)) λr₂ s₂ Z=>?_
   ·obtain⟨ol,a7,a1,nl,a2⟩:=hl;obtain⟨c9,a0,c0,J⟩:=ol;simp only at a1 a2;subst a1;subst a2;have a8:(s.heap.push {cls:= .type "set",dict:=none,data:= .set #[] 0 (.fresh 0 0 (!q1r w))}).get? l=some {cls:= .type "tuple",dict:=a0,data:= .seq D nl,slots:=J}:=z0o _ a7;have c7:=sub_tuple_set';have c6:=sub_tuple_frozenset';have hne:(Value.type "tuple"==Value.type "dict")=false:=by decide
    have a4:(s.heap.push {cls:= .type "set",dict:=none,data:= .set #[] 0 (.fresh 0 0 (!q1r w))}).IsTuple l D:=⟨_,a8,rfl,nl,rfl⟩;unfold Builtin.«set.__init__» noKeywords Builtin.Frozenset.updateFrom;generalize b3:pyIter=PI
    wp_walk
    subst b3;refine wpAny_pyIter_tuple a4 ?_;refine z4e (wpAny_runValue ?_);have a5:l < s.heap.objs.size:=z3y a7;have b7:A.in1.in1.in1.handled=none:=by simp[hh]
    have a6:l≠(s.heap.push {cls:= .type "set",dict:=none,data:= .set #[] 0 (.fresh 0 0 (!q1r w))}).objs.size:=by
     rw[z3e];exact z3z (z2e a5)
    have b4:s.heap.objs.size∉ [(s.heap.push {cls:= .type "set",dict:=none,data:= .set #[] 0 (.fresh 0 0 (!q1r w))}).objs.size,l]:=by
     rw[z3e];simp only[z3m,z1m,z2r,or_false,not_or];exact⟨z3z (z2l _),z41 a5⟩
    have a9:∀(i:Nat) (v:Value),D[i]? =some v->∃t,v= .str ((λi=>ws.getD i "") i) t:=λi v hv=>qry hi i v (by rw[z0x];exact hv);refine qlh ((Walks.tuple b7 _ l a6 D).toS) s.heap.objs.size b4 (λi=>ws.getD i "") a9 hb (D.size - 0) 0 _ [] (by lia) (z4a _)
     ⟨⟨_,z1c _ rfl,rfl,rfl⟩,(a4.push _)⟩ (qie (z0o _ hS)) ⟨λx=>⟨(λz=>nomatch z),λ⟨j,z,_⟩=>absurd z (Nat.not_lt_zero _)⟩,z47 _⟩ ?hR
    case hR=>
     intro s' zs hm O hz;obtain⟨h',g',d',c4,c1⟩:=s';have eg:g'=s.gens:=hm.gens;have ed:d'=s.drawn:=hm.drawn;have eo:c1=s.os:=hm.os;subst eg;subst ed;subst eo;show wpAny _ _ _ _ _ _;refine z4d ?_;show wpAny _ _ (ret Value.none) _ _ _;refine z4d ⟨zr,h',c4,zs,zr,O,hz,λb o hb e=>?_⟩;have b5:b≠s.heap.objs.size:=z3z hb;have b6:b≠(s.heap.push {cls:= .type "set",dict:=none,data:= .set #[] 0 (.fresh 0 0 (!q1r w))}).objs.size:=by
      rw[z3e];exact z3z (z2e hb)
     exact hm.heap b o (by simp only[z3m,z1m,z2r,or_false,not_or];exact⟨b5,b6⟩) (z0o _ (z0o _ e))
   ·cases r₂ with
    | error e=>exact Z
    | ok b2=>
     cases b2 with
     | ret r=>
      obtain⟨rfl,h',tk,ys,rfl,O,hz,b8⟩:=Z
      repeat (any_goals (first | assumption | wp_step))
      exact h _ _ _ O hz b8
     | _=>exact Z.elim
  | _=>exact hr.elim
end
theorem q9s{α:Type}:∀(l:List α) (i:Nat) (h:i < l.length),(l[i]::l.eraseIdx i).Perm l
 | x::r,0,_=> .refl _
 | x::r,i+1,h=>(List.Perm.swap x _ _).trans (List.Perm.cons x (q9s r i (Nat.lt_of_succ_lt_succ h)))
section
variable{M:Model}{A:Around}{E:xB}
def qpm{s:Shared}{D:Source}{n:Nat}{Q:Nat->Shared->Prop}(hn:n≠0)(h:∀i d,i < n->Q i {s with drawn:=d}):wpAny M A (choose D n) Q E s:=
 λ_ _ _=>⟨hn,h _ _ (Nat.mod_lt _ (Nat.pos_of_ne_zero hn))⟩
theorem qli{α:Type}:∀(n:Nat) (xs:List α) (s:Shared) (Q:List α->Shared->Prop),n=xs.length->(∀ys d,ys.Perm xs->Q ys {s with drawn:=d})->wpAny M A (drawOrder n xs) Q E s
 | 0,xs,s,Q,e,h=>by
  have:xs=[]:=z0k.mp e.symm;subst this;exact z4d (h [] s.drawn (.refl _))
 | n+1,[],s,Q,e,h=>by cases e
 | n+1,x::r,s,Q,e,h=>by
  unfold drawOrder;refine z4e (qpm (by simp) λi d hi=>?_);have hx:(x::r)[i]? =some (x::r)[i]:=z0d hi;rw[hx]
  dsimp only
  refine z4e (qli n _ _ _ (by rw[List.length_eraseIdx,if_pos hi];exact(Nat.succ.inj e)) λys d2 hp=>z4d ?_);exact h _ d2 ((List.Perm.cons _ hp).trans (q9s _ _ hi))
end
theorem qoa{α:Type}(next:Nat->Nat):∀(n k:Nat) (left:List α) (out:Array α),n=left.length->(pickOrder.go next n k left out).toList.Perm (out.toList++left)
 | 0,k,left,out,e=>by
  have:left=[]:=z0k.mp e.symm;subst this;unfold pickOrder.go;rw[z31]
 | n+1,k,left,out,e=>by
  unfold pickOrder.go;have hi:next k%left.length < left.length:=Nat.mod_lt _ (by lia);rw[z0d hi]
  dsimp only
  refine(qoa next n (k+1) _ _ (by rw[List.length_eraseIdx,if_pos hi];lia)).trans ?_;rw[z20,z1y];exact List.Perm.append_left _ (q9s _ _ hi)
def q8p{α:Type}(next:Nat->Nat)(xs:Array α):(pickOrder next xs).toList.Perm xs.toList:=by
 unfold pickOrder;have:=qoa next xs.size 0 xs.toList #[] (by simp)
 simpa using this
section
variable{prog:Program}{w:World}{A:Around}{E:xB}{s:Shared}{a:Addr}
def qnb{o:Obj}{es:Array (Int×Value)}{ep:Nat}{t:SetTable}{Q:Bool->Shared->Prop}(ho:s.heap.get? a=some o)(hd:o.data= .set es ep t)(hf:t.fits es.size=true)(h:Q (!q1r w&&(!t.plain&&decide (es.size > 1))) s):
  wpAny (model prog w) A (setDrawn a) Q E s:=by
 unfold setDrawn setsByText;refine z4e (z2c ho hd hf ?_);exact z4e (z4e (z2s (z4d (z4d h))))
end
def q2n:Slot "set_iterator" "__next__" "set_iterator.__next__":=
 .of (owner:="set_iterator") (n:="__next__") (by rw[typeLookup_type,builtinLookup_eq_fast];kernel_rfl) (by decide+kernel) (by decide+kernel) (by decide+kernel)
  (by first | exact .inl (by decide+kernel) | exact .inr (by decide+kernel)) (by rw[isSubtype_type];kernel_rfl)
def q6q:entryFor table "set_iterator.__next__"=some Builtin.«set_iterator.__next__»:=entryFor_of_tree (by kernel_rfl)
def qlj:Manifest.owners.lookup (String.ofList ['r','o','t','a','r','e','t','i','_','t','e','s'].reverse)=some Manifest.sig_set_iterator:=by kernel_rfl
def q7r(a:Value):argsOk "set_iterator.__next__" ⟨[a],[]⟩:=by
 unfold argsOk;rw[signature?_of (id:="set_iterator.__next__") (n:=['_','_','t','x','e','n','_','_']) (o:=['r','o','t','a','r','e','t','i','_','t','e','s']) (by kernel_rfl) qlj]
 kernel_rfl
def qgi:entryFor table "set.__iter__"=some Builtin.«frozenset.__iter__»:=entryFor_alias (id':="frozenset.__iter__") (by kernel_rfl) rfl (by decide+kernel) (by kernel_rfl)
section
variable{prog:Program}{w:World}{A:Around}{E:xB}{s:Shared}{a I:Addr}{es:Array (Int×Value)}{ep:Nat}{t:SetTable}
def q2r(first:Value)(i:Nat)(a:Addr)(n ep:Nat):Obj:={cls:= .type "set_iterator",data:= .fields #[first,.int i 0,.ref a,.int n 0,.int ep 0]}
def q6g(ps:List Nat):Obj:={cls:= .type "tuple",data:= .seq (ps.map λ(i:Nat)=>rawInt i).toArray}
def qud{o:Obj}{Q:xB}(ho:s.heap.get? a=some o)(J:o.ExactSet)(hd:o.data= .set es ep t)(hf:t.fits es.size=true)(hsz:es.size<=sizeLine)
  (h1:(!q1r w&&(!t.plain&&decide (es.size > 1)))=true->∀(ps:List Nat) (d:Drawn),ps.Perm (List.range es.size)->Q (.ref (s.heap.objs.size+1)) {s with heap:=(s.heap.push (q6g ps)).push (q2r (.ref s.heap.objs.size) 0 a es.size ep),drawn:=d})
  (h0:(!q1r w&&(!t.plain&&decide (es.size > 1)))=false->Q (.ref s.heap.objs.size) {s with heap:=s.heap.push (q2r (.int 0 0) 0 a es.size ep)}):wpAny (model prog w) A (pyIter (.ref a)) Q E s:=by
 have ty:s.TypeIs (.ref a) "set":=⟨o,ho,J.1⟩;refine wpAny_pyIter_slot ty PySem.F.slot_set_iter (z2o PySem.F.slot_set_iter ty qgi ?_ (PySem.F.args_set_iter_1 _));unfold Builtin.«frozenset.__iter__» Builtin.Frozenset.slot0 Builtin.Frozenset.sizeOf;refine z4e (z4e ?_);show wpAny _ _ (pure (Value.ref a,([]:xH))) _ _ s;refine z4d ?_;refine z4d ?_;refine z4e (z4e (z1h ho hd hf (z4d ?_)));refine z4e (qnb ho hd hf ?_);have fin:∀(first:Value) (D:Shared),(∀O,s.heap.get? a=some O->D.heap.get? a=some O)->Q (.ref D.heap.objs.size) {D with heap:=D.heap.push (q2r first 0 a es.size ep)}->
   wpAny (model prog w) A.in1 (do ret (<- newFields "set_iterator" [first,rawInt 0,.ref a,rawInt es.size,rawInt (<- setEpoch a)])) (λfin s'=>∃v,fin=Fin.done (Flow.ret v)/\∃Z r,s'.TypeIs v Z/\typeLookup (.type Z) "__next__"=pure (some r)/\Q v s') E D:=λfirst D hk hq=>by
  refine z4e (wpAny_setEpoch_of (hk _ ho) hd hf ?_);refine z4e (z28 (z4d ⟨_,zr,"set_iterator",_,⟨_,z1c _ rfl,zr⟩,q2n.lookup,?_⟩))
  simpa [rawInt,q2r] using hq
 cases hc:(!q1r w&&(!t.plain&&decide (es.size > 1))) with
 | true=>
  simp only[if_true];refine z4e (qli es.size _ _ _ (by simp) λps d hp=>?_);simp only[newTuple];refine z4e (z28 ?_ ?_)
  ·refine fin _ _ (λO e=>z0o _ e) ?_;have:=h1 hc ps d hp;show Q (.ref (s.heap.push (q6g ps)).objs.size) {s with heap:=(s.heap.push (q6g ps)).push (q2r (.ref s.heap.objs.size) 0 a es.size ep),drawn:=d};rw[z3e];exact this
  ·show (List.map (λ(i:Nat)=>rawInt i) ps).toArray.size<=sizeLine;rw[z23,z30,hp.length_eq,z29];exact hsz
 | false=>
  simp only[z1k,if_false];refine z4e (z4d ?_);exact fin _ s (λ_ e=>e) (h0 hc)
end
section
variable{prog:Program}{w:World}{A:Around}{E:xB}{s:Shared}{a I T:Addr}{es:Array (Int×Value)}{ep i:Nat}{t:SetTable}{o:Obj}
def qiz{ps:List Nat}{p:Nat}{h:Int}{x:Value}{Q:Option Value->Shared->Prop}(D:s.heap.get? I=some (q2r (.ref T) i a es.size ep))(hT:s.heap.get? T=some (q6g ps))(ho:s.heap.get? a=some o)(hd:o.data= .set es ep t)(hf:t.fits es.size=true)
  (hp:ps[i]? =some p) (hx:es[p]? =some (h,x))
  (q:∀h',h'.get? I=some (q2r (.ref T) (i+1) a es.size ep)->Heap.SameBut I s.heap h'->Q (some x) {s with heap:=h'}):wpAny (model prog w) A (pyNext (.ref I)) Q E s:=by
 have ty:s.TypeIs (.ref I) "set_iterator":=⟨_,D,rfl⟩;unfold pyNext;refine z4e (z3l (wpAny_callSpecial?_slot (name:=Str.ofString "__next__") ty q2n (z2o q2n ty q6q ?_ (q7r _))));unfold Builtin.«set_iterator.__next__»;refine z4e (z4d ?_);refine z4e (wpAny_fieldsOf D rfl ?_)
 dsimp only[z1g]
 refine z4e (z1h ho hd hf ?_);rw[if_neg (by simp)];have J:((ps.map λ(i:Nat)=>rawInt i).toArray)[i]? =some (rawInt p):=by
  rw[List.getElem?_toArray,z22,hp];rfl
 refine z4e (wpAny_seqItems hT rfl ?_)
 dsimp only
 rw[z26,J];show wpAny _ _ (setNextDrawn a ((p:Int)).toNat ((ep:Int)).toNat >>=_) _ _ s;rw[z26,z26];unfold setNextDrawn;refine z4e (z4e (z2c ho hd hf ?_))
 dsimp only
 rw[if_neg (by simp),hx];refine z4d ?_;refine z4e (z3h D rfl (by simp) ?_);refine z4d ⟨_,zr,z4d (q _ ?_ (z1b ..))⟩;have:=z0z (Obj.mapFields (·.setIfInBounds 1 (rawInt ((i:Int)+1)))) D rfl;exact this
def qez{Q:Option Value->Shared->Prop}(hh:A.handled=none)(q:∀h',(∀b o,s.heap.get? b=some o->h'.get? b=some o)->Q none {s with heap:=h'}):
  wpAny (model prog w) A.in1 (newExc (.type "StopIteration") [] >>=raiseNew (α:=Fin)) (λfin s'=>∃v,fin=Fin.done (Flow.ret v)/\wpAny (model prog w) A (pure (some v)) Q E s')
   (λe s'=>wpAny (model prog w) A (do let d <- isInstance e (.type "StopIteration");if d=true then pure none else throw e) Q E s') s:=by
 refine z4e ?_;simp only[newExc,newTuple];refine z4e (z28 ?_ (by size_fits));refine z4e (m:=firstArgMember _ _) (wpAny_of_eq (a:=Value.none) (by first | rfl | (simp only[firstArgMember];rfl)) ?_);refine z28 ?_ (by size_fits);simp only[raiseNew];refine z4e (wpAny_handled ?_);rw[show A.in1.handled=none from hh];refine z4e (z4d (wpAny_throw ?_));refine z4e (wpAny_isInstance (T:="StopIteration") (b:=true) ⟨_,z1c _ rfl,zr⟩ isSubtype_stop ?_);exact z4d (q _ λb o e=>z0o _ (z0o _ e))
def qlk{ps:List Nat}{Q:Option Value->Shared->Prop}(hh:A.handled=none)(D:s.heap.get? I=some (q2r (.ref T) i a es.size ep))(hT:s.heap.get? T=some (q6g ps))(ho:s.heap.get? a=some o)(hd:o.data= .set es ep t)(hf:t.fits es.size=true)
  (hp:ps[i]? =none) (q:∀h',(∀b o,b≠I->s.heap.get? b=some o->h'.get? b=some o)->Q none {s with heap:=h'}):wpAny (model prog w) A (pyNext (.ref I)) Q E s:=by
 have ty:s.TypeIs (.ref I) "set_iterator":=⟨_,D,rfl⟩;unfold pyNext;refine z4e (z3l (wpAny_callSpecial?_slot (name:=Str.ofString "__next__") ty q2n (z2o q2n ty q6q ?_ (q7r _))));unfold Builtin.«set_iterator.__next__»;refine z4e (z4d ?_);refine z4e (wpAny_fieldsOf D rfl ?_)
 dsimp only[z1g]
 refine z4e (z1h ho hd hf ?_);rw[if_neg (by simp)];have J:((ps.map λ(i:Nat)=>rawInt i).toArray)[i]? =none:=by
  rw[List.getElem?_toArray,z22,hp];rfl
 refine z4e (wpAny_seqItems hT rfl ?_)
 dsimp only
 rw[z26,J]
 dsimp only
 have g1:=z0z (Obj.mapFields (·.setIfInBounds 0 (rawInt 0))) D rfl;refine z4e (z3h D rfl (by simp) ?_);refine z4e (z3h g1 rfl (by simp) ?_);refine qez hh λh' k=>q h' λb o hb e=>k b o ?_;exact(((z1b ..).trans (z1b ..)).2 b hb).trans e
def qzv(w:World)(a:Addr)(es:Array (Int×Value))(ep:Nat)(t:SetTable)(k i:Nat)(nx:Option (Value×Nat)):Prop:=
 (q1r w=true/\nx=((pickOrder (w.params.setOrder a ep) es)[i]?).map λe=>(e.2,k))\/
 (q1r w=false/\(!t.plain&&decide (es.size > 1))=false/\(!t.led&& !es.isEmpty)=false/\nx=match es[SetTable.below t.place k]?,t.place[SetTable.below t.place k]? with
  | some (_,x),some j=>some (x,j+1)
  | _,_=>none)
def q9t{k:Nat}{nx:Option (Value×Nat)}{Q:Option Value->Shared->Prop}(hh:A.handled=none)(hI:s.heap.get? I=some (q2r (.int k 0) i a es.size ep))(ho:s.heap.get? a=some o)(hd:o.data= .set es ep t)(hf:t.fits es.size=true)(hn:qzv w a es ep t k i nx)
  (q1:∀x j h',nx=some (x,j)->h'.get? I=some (q2r (.int j 0) (i+1) a es.size ep)->Heap.SameBut I s.heap h'->Q (some x) {s with heap:=h'})
  (q0:nx=none->∀h',(∀b o,b≠I->s.heap.get? b=some o->h'.get? b=some o)->Q none {s with heap:=h'}):wpAny (model prog w) A (pyNext (.ref I)) Q E s:=by
 have ty:s.TypeIs (.ref I) "set_iterator":=⟨_,hI,rfl⟩;unfold pyNext;refine z4e (z3l (wpAny_callSpecial?_slot (name:=Str.ofString "__next__") ty q2n (z2o q2n ty q6q ?_ (q7r _))));unfold Builtin.«set_iterator.__next__»;refine z4e (z4d ?_);refine z4e (wpAny_fieldsOf hI rfl ?_)
 dsimp only[z1g]
 refine z4e (z1h ho hd hf ?_);rw[if_neg (by simp)];refine z4e ?_;have O:∀x (j:Nat),nx=some (x,j)->wpAny (model prog w) A.in1 (do
     setField (Value.ref I) 0 (rawInt j)
     setField (Value.ref I) 1 (rawInt ((i:Int)+1))
     ret x) (λfin s'=>∃v,fin=Fin.done (Flow.ret v)/\wpAny (model prog w) A (pure (some v)) Q E s')
    (λe s'=>wpAny (model prog w) A (do let d <- isInstance e (.type "StopIteration");if d=true then pure none else throw e) Q E s') s:=λx j en=>by
  have g1:=z0z (Obj.mapFields (·.setIfInBounds 0 (rawInt j))) hI rfl;have g2:=z0z (Obj.mapFields (·.setIfInBounds 1 (rawInt ((i:Int)+1)))) g1 rfl;refine z4e (z3h hI rfl (by simp) ?_);refine z4e (z3h g1 rfl (by simp) ?_);exact z4d ⟨_,zr,z4d (q1 x j _ en g2 ((z1b ..).trans (z1b ..)))⟩
 have J:nx=none->wpAny (model prog w) A.in1 (do
     setField (Value.ref I) 2 Value.none
     let d <- newExc (Value.type "StopIteration") []
     raiseNew d) (λfin s'=>∃v,fin=Fin.done (Flow.ret v)/\wpAny (model prog w) A (pure (some v)) Q E s')
    (λe s'=>wpAny (model prog w) A (do let d <- isInstance e (.type "StopIteration");if d=true then pure none else throw e) Q E s') s:=λen=>by
  refine z4e (z3h hI rfl (by simp) ?_);refine qez hh λh' k=>q0 en h' λb o Z e=>k b o ?_;exact((z1b ..).2 b Z).trans e
 unfold setNext;refine z4e (z2c ho hd hf ?_);unfold setsByText;refine z4e (z4e (z2s (z4d ?_)));rcases hn with ⟨Z,D⟩ | ⟨Z,h1,h2,D⟩
 ·rw[if_pos (show ({program:=(model prog w).prog,params:=(model prog w).w.params}:Setting).params.followText "set-order"=true from Z)]
  dsimp only
  rw[if_neg (by simp)];unfold setWalk;refine z4e (z4e (z2c ho hd hf ?_));unfold setsByText;refine z4e (z4e (z2s (z4d ?_)));rw[if_pos (show ({program:=(model prog w).prog,params:=(model prog w).w.params}:Setting).params.followText "set-order"=true from Z)];refine z4e (z2s (z4d (z4d ?_)))
  dsimp only
  have e':(pickOrder ((model prog w).w.params.setOrder a ep) es)[(i:Int).toNat]? =(pickOrder (w.params.setOrder a ep) es)[i]? :=by
   rw[z26];rfl
  rw[e'];cases e:(pickOrder (w.params.setOrder a ep) es)[i]? with
  | none=>
   rw[e]at D;exact J D
  | some y=>
   rw[e]at D;exact O y.2 _ D
 ·rw[if_neg (show ¬ ({program:=(model prog w).prog,params:=(model prog w).w.params}:Setting).params.followText "set-order"=true from by rw[show ({program:=(model prog w).prog,params:=(model prog w).w.params}:Setting).params.followText "set-order"=false from Z];exact z1l)]
  dsimp only
  show wpAny _ _ (if (!t.plain&&decide (es.size > 1))=true then _ else _) _ _ s;rw[if_neg (by rw[h1];exact z1l)];show wpAny _ _ ((if (!t.led&& !es.isEmpty)=true then unsupported _ else pure ()) >>=_) _ _ s;rw[if_neg (by rw[h2];exact z1l)];refine z4e (z4d (z4d ?_));rw[z26];cases e1:es[SetTable.below t.place k]? with
  | none=>
   rw[e1]at D;exact J D
  | some y=>
   cases e2:t.place[SetTable.below t.place k]? with
   | none=>
    rw[e1,e2]at D;exact J D
   | some j=>
    rw[e1,e2]at D;exact O y.2 _ D
end
def qb8:Slot "set_iterator" "__iter__" "set_iterator.__iter__":=
 .of (owner:="set_iterator") (n:="__iter__") (by rw[typeLookup_type,builtinLookup_eq_fast];kernel_rfl) (by decide+kernel) (by decide+kernel) (by decide+kernel)
  (by first | exact .inl (by decide+kernel) | exact .inr (by decide+kernel)) (by rw[isSubtype_type];kernel_rfl)
def qj0:entryFor table "set_iterator.__iter__"=some Builtin.«dict_keyiterator.__iter__»:=entryFor_alias (id':="dict_keyiterator.__iter__") (by kernel_rfl) rfl (by decide+kernel) (by kernel_rfl)
def qll(a:Value):argsOk "set_iterator.__iter__" ⟨[a],[]⟩:=by
 unfold argsOk;rw[signature?_of (id:="set_iterator.__iter__") (n:=['_','_','r','e','t','i','_','_']) (o:=['r','o','t','a','r','e','t','i','_','t','e','s']) (by kernel_rfl) qlj]
 kernel_rfl
section
variable{prog:Program}{w:World}{A:Around}{E:xB}{s:Shared}{a I T:Addr}{es:Array (Int×Value)}{ep:Nat}{t:SetTable}{o:Obj}
def qgj{first:Value}{i n:Nat}{Q:xB}(hI:s.heap.get? I=some (q2r first i a n ep))(h:Q (.ref I) s):wpAny (model prog w) A (pyIter (.ref I)) Q E s:=by
 have ty:s.TypeIs (.ref I) "set_iterator":=⟨_,hI,rfl⟩;refine wpAny_pyIter_slot ty qb8 (z2o qb8 ty qj0 ?_ (qll _));show wpAny _ _ (ret (.ref I)) _ _ s;exact z4d ⟨_,zr,"set_iterator",_,ty,q2n.lookup,h⟩
def qnc{ps:List Nat}(hh:A.handled=none)(hT:T≠I)(ha:a≠I)(hd:o.data= .set es ep t)(hf:t.fits es.size=true)(O:ps.Perm (List.range es.size)):
  Walks prog w A I [I,T,a] [I] es.size (λi v=>∃p h,ps[i]? =some p/\es[p]? =some (h,v)) (λi h=>h.get? I=some (q2r (.ref T) i a es.size ep)/\h.get? T=some (q6g ps)/\h.get? a=some o) where
 sub:=λb D=>by simp at D;simp[D]
 frame:=λ_ _ _ st hk=>⟨hk I (by simp) _ st.1,hk T (by simp) _ st.2.1,hk a (by simp) _ st.2.2⟩
 item:=λi s Q E hi st J=>by
  have pl:ps.length=es.size:=by rw[O.length_eq,z29]
  have h1:ps[i]? =some (ps[i]'(by lia)):=z0d (by lia);have hm:ps[i]'(by lia) < es.size:=z3c.mp (O.mem_iff.mp (z2k (by lia)));generalize ps[i]'(by lia)=p at h1 hm;have h2:es[p]? =some es[p]:=z0b hm;refine qiz (h:=es[p].1) (x:=es[p].2) st.1 st.2.1 st.2.2 hd hf h1 h2 λh' g Z=>?_;exact J _ h' s.toks ⟨p,es[p].1,h1,h2⟩ ⟨g,(Z.2 T hT).trans st.2.1,(Z.2 a ha).trans st.2.2⟩ λb o D e=>(Z.2 b (λz=>D (by simp[z]))).trans e
 done:=λs Q E st J=>by
  have pl:ps.length=es.size:=by rw[O.length_eq,z29]
  exact qlk hh st.1 st.2.1 st.2.2 hd hf (List.getElem?_eq_none (by lia)) λh' k=>J h' s.toks λb o D e=>k b o (λz=>D (by simp[z])) e
 self:=λ_ _ _ _ st J=>qgj st.1 J
def qpn(hh:A.handled=none)(ha:a≠I)(hd:o.data= .set es ep t)(hf:t.fits es.size=true)(J:q1r w=true):
  Walks prog w A I [I,a] [I] es.size (λi v=>∃e,(pickOrder (w.params.setOrder a ep) es)[i]? =some e/\v=e.2) (λi h=>h.get? I=some (q2r (.int 0 0) i a es.size ep)/\h.get? a=some o) where
 sub:=λb J=>by simp at J;simp[J]
 frame:=λ_ _ _ st hk=>⟨hk I (by simp) _ st.1,hk a (by simp) _ st.2⟩
 item:=λi s Q E hi st O=>by
  have pl:(pickOrder (w.params.setOrder a ep) es).size=es.size:=by rw[<- z19,(q8p _ _).length_eq,z19]
  have h1:(pickOrder (w.params.setOrder a ep) es)[i]? =some ((pickOrder (w.params.setOrder a ep) es)[i]'(by lia)):=z0b (by lia);refine q9t (k:=0) hh st.1 st.2 hd hf (.inl ⟨J,zr⟩) (λx j h' D g Z=>?_) λD=>?_
  ·rw[h1]at D;cases D
   exact O _ h' s.toks ⟨_,h1,zr⟩ ⟨g,(Z.2 a ha).trans st.2⟩ λb o J e=>(Z.2 b (λz=>J (by simp[z]))).trans e
  ·rw[h1]at D;cases D
 done:=λs Q E st O=>by
  have pl:(pickOrder (w.params.setOrder a ep) es).size=es.size:=by rw[<- z19,(q8p _ _).length_eq,z19]
  have h1:(pickOrder (w.params.setOrder a ep) es)[es.size]? =none:=z0r (by lia);refine q9t (k:=0) hh st.1 st.2 hd hf (.inl ⟨J,zr⟩) (λx j h' D g Z=>?_) λD h' k=>O h' s.toks λb o J e=>k b o (λz=>J (by simp[z])) e;rw[h1]at D;cases D
 self:=λ_ _ _ _ st O=>qgj st.1 O
def qs0(hh:A.handled=none)(ha:a≠I)(hd:o.data= .set es ep t)(hf:t.fits es.size=true)(J:q1r w=false)(hl:t.led=true)(h1:es.size<=1):
  Walks prog w A I [I,a] [I] es.size (λi v=>∃e,es[i]? =some e/\v=e.2) (λi h=>h.get? I=some (q2r (.int (((if i=0 then 0 else t.place.getD 0 0+1):Nat):Int) 0) i a es.size ep)/\h.get? a=some o) where
 sub:=λb J=>by simp at J;simp[J]
 frame:=λ_ _ _ st hk=>⟨hk I (by simp) _ st.1,hk a (by simp) _ st.2⟩
 item:=λi s Q E hi st O=>by
  have i0:i=0:=by lia
  subst i0;have ps:t.place.size=es.size:=by
   unfold SetTable.fits at hf;simp at hf
   exact hf.1
  have e1:es[0]? =some (es[0]'(by lia)):=z0b (by lia);have e2:t.place[0]? =some (t.place.getD 0 0):=by
   rw[z0b (by lia)];simp[Array.getD,show 0 < t.place.size by lia]
  have eb:SetTable.below t.place 0=0:=by
   unfold SetTable.below;rw[show t.place.size=1 by lia];simp[SetTable.below.go]
  refine q9t (k:=0) hh st.1 st.2 hd hf (.inr ⟨J,by simp;lia,by rw[hl];rfl,rfl⟩) (λx j h' D g Z=>?_) λD=>?_
  ·rw[eb,e1,e2]at D;cases D
   exact O _ h' s.toks ⟨_,e1,zr⟩ ⟨g,(Z.2 a ha).trans st.2⟩ λb o J e=>(Z.2 b (λz=>J (by simp[z]))).trans e
  ·rw[eb,e1,e2]at D;cases D
 done:=λs Q E st O=>by
  have ps:t.place.size=es.size:=by
   unfold SetTable.fits at hf;simp at hf
   exact hf.1
  refine q9t hh st.1 st.2 hd hf (.inr ⟨J,by simp;lia,by rw[hl];rfl,rfl⟩) (λx j h' D g Z=>?_) λD h' k=>O h' s.toks λb o J e=>k b o (λz=>J (by simp[z])) e;have e0:es[SetTable.below t.place (if es.size=0 then 0 else t.place.getD 0 0+1)]? =none:=by
   by_cases z:es.size=0
   ·exact z0r (by lia)
   ·rw[if_neg z];have:SetTable.below t.place (t.place.getD 0 0+1)=1:=by
     unfold SetTable.below;rw[show t.place.size=1 by lia];simp[SetTable.below.go,Array.getD,show 0 < t.place.size by lia]
    rw[this];exact z0r (by lia)
  rw[e0]at D;cases D
 self:=λ_ _ _ _ st O=>qgj st.1 O
end
section
variable{prog:Program}{w:World}{A:Around}{E:xB}{s:Shared}{a:Addr}{xs:xD}
def que{Q:Bool->Shared->Prop}(O:s.TypeIs (.ref a) "set")(h:Q false s):wpAny (model prog w) A (Builtin.List.listLengthHint (.ref a)) Q E s:=by
 unfold Builtin.List.listLengthHint;refine z4e (wpAny_specialOf O PySem.F.slot_set_len.lookup ?_);generalize J:("set.__len__":String)=Z
 wp_delta
 rw[show splitId Z=some ("set","__len__") from by subst J;decide+kernel];subst J;refine z4e (wpAny_isInstance (T:="set") (b:=true) O (by rw[isSubtype_type];kernel_rfl) ?_);refine wpAny_ite_split (λD=>absurd D (by decide)) (λ_=>?_);refine wpAny_ite_split (λ_=>?_) (λD=>absurd (by decide+kernel) D);refine z4e (wpAny_typeOf O ?_);exact z4d h
def qb9{α:Type}{L:List α}{f:α->Value}{P:Nat->Value->Prop}{acc:Array Value}{n:Nat}(hn:n=L.length)(hP:∀i v,P i v->∃e,L[i]? =some e/\v=f e)(D:ItemsOf P acc n):acc.toList=L.map f:=by
 apply z21
 intro j;rw[z22,z0x];cases e:acc[j]? with
 | some v=>
  obtain⟨e',he,rfl⟩:=hP j v (D.2 j v e);rw[he];rfl
 | none=>
  have:acc.size<=j:=by simpa using e
  rw[D.1]at this;rw[List.getElem?_eq_none (by lia)];rfl
def qx(prog:Program)(w:World)(A:Around)(s:Shared)(S:Addr)(xs:xD)(it:Value)(s1:Shared):Prop:=
 ∃(J:Addr) (fp:List Addr) (n:Nat) (P:Nat->Value->Prop) (St:Nat->Heap->Prop) (h1:Heap) (d:Drawn),it= .ref J/\s1={s with heap:=h1,drawn:=d}/\(∀b o,s.heap.get? b=some o->h1.get? b=some o)/\
  Walks prog w A J fp [J] n P St/\St 0 h1/\S∉fp/\s.heap.objs.size<=J/\n<=sizeLine/\∀acc,ItemsOf P acc n->(acc.toList.map sOf).Perm xs/\∀v∈acc.toList,∃x t,v= .str x t
def quf(hh:A.handled=none)(x:TxS prog w s.heap a xs){S:Addr}(hS:S < s.heap.objs.size)(a0:S≠a):wpAny (model prog w) A (pyIter (.ref a)) (qx prog w A s S xs) E s:=by
 obtain⟨o,es,ep,t,ho,a5,hd,a4,a2,hnd,hb,hf,a1,a6⟩:=x;have al:a < s.heap.objs.size:=z3y ho;have hsz:es.size<=sizeLine:=fits_of_scanBound hb;have O:∀v∈es.toList.map (λe=>e.2),∃x t,v=Value.str x t:=λv hv=>by
  obtain⟨e,he,rfl⟩:=z44.mp hv;obtain⟨⟨k,hk,_⟩,_⟩:=a4 e he;obtain⟨_,t,ht⟩:=qb7 hk;exact⟨k,t,ht⟩
 have good:∀l:List Value,l.Perm (es.toList.map λe=>e.2)->(l.map sOf).Perm xs/\∀v∈l,∃x t,v=Value.str x t:=λl Z=>by
  refine⟨?_,λv hv=>O v (Z.mem_iff.mp hv)⟩;have:=Z.map sOf;rw[z46]at this;rw[<- a2];exact this
 refine qud ho a5 hd hf hsz (λhdr ps d Z=>?_) (λD=>?_)
 ·have hT:((s.heap.push (q6g ps)).push (q2r (.ref s.heap.objs.size) 0 a es.size ep)).get? s.heap.objs.size=some (q6g ps):=z0o _ (z1c _ rfl);have hI:((s.heap.push (q6g ps)).push (q2r (.ref s.heap.objs.size) 0 a es.size ep)).get? (s.heap.objs.size+1)=some (q2r (.ref s.heap.objs.size) 0 a es.size ep):=by
   have:=z1c (s.heap.push (q6g ps)) (o:=q2r (.ref s.heap.objs.size) 0 a es.size ep) rfl
   rwa [z3e]at this
  refine⟨_,_,_,_,_,_,d,zr,zr,λb o e=>z0o _ (z0o _ e),qnc hh (z3z (z2l _)) (z3z (z2e al)) hd hf Z,⟨hI,hT,z0o _ (z0o _ ho)⟩,?_,Nat.le_succ _,hsz,λacc ha=>?_⟩
  ·simp only[z3m,z2r,or_false,not_or];exact⟨z3z (z2e hS),z3z hS,a0⟩
  ·have e:=qb9 (L:=ps) (f:=λp=>((es[p]?).map (·.2)).getD .none) (by rw[Z.length_eq,z29]) (λi v ⟨p,h,h1,h2⟩=>⟨p,h1,by rw[h2];rfl⟩) ha;refine good _ ?_;rw[e];refine(Z.map _).trans ?_;refine List.Perm.of_eq ?_
   apply z21
   intro j;have e2:es.toList[j]? =es[j]? :=z0x;rw[z22,z22,e2];by_cases hj:j < es.size
   ·rw[List.getElem?_range hj,z0b hj];simp[hj]
   ·rw[List.getElem?_eq_none (l:=List.range es.size) (by rw[z29];lia),z0r (by lia)];rfl
 ·have hI:(s.heap.push (q2r (.int 0 0) 0 a es.size ep)).get? s.heap.objs.size=some (q2r (.int 0 0) 0 a es.size ep):=z1c _ rfl;have sf:S∉ [s.heap.objs.size,a]:=by
   simp only[z3m,z2r,or_false,not_or];exact⟨z3z hS,a0⟩
  cases J:q1r w with
  | true=>
   refine⟨_,_,_,_,_,_,s.drawn,zr,zr,λb o e=>z0o _ e,qpn hh (z3z al) hd hf J,⟨hI,z0o _ ho⟩,sf,z47 _,hsz,λacc ha=>?_⟩;have e:=qb9 (L:=(pickOrder (w.params.setOrder a ep) es).toList) (f:=λe=>e.2) (by rw[(q8p _ _).length_eq,z19]) (λi v ⟨e,h1,h2⟩=>⟨e,by rw[z0x];exact h1,h2⟩) ha;refine good _ ?_;rw[e];exact(q8p _ _).map _
  | false=>
   have h1:es.size<=1:=by
    rw[J]at D;by_cases z:es.size<=1
    ·exact z
    ·have:=a6 (by lia);rw[this]at D;simp at D
     lia
   refine⟨_,_,_,_,_,_,s.drawn,rfl,rfl,λb o e=>z0o _ e,qs0 hh (z3z al) hd hf J (by rw[a1,J];rfl) h1,⟨hI,z0o _ ho⟩,sf,z47 _,hsz,λacc ha=>?_⟩;have e:=qb9 (L:=es.toList) (f:=λe=>e.2) (by rw[z19]) (λi v ⟨e,h1,h2⟩=>⟨e,by rw[z0x];exact h1,h2⟩) ha;refine good _ ?_;rw[e]
end
section
variable{prog:Program}{w:World}{A:Around}{E:xB}{s:Shared}{a:Addr}{xs:xD}
def qf0(xs:xD)(vs:xH):Prop:=(vs.map sOf).Perm xs/\∀v∈vs,∃x t,v= .str x t
def qpo{R:Result->Shared->Prop}(hh:A.handled=none)(x:TxS prog w s.heap a xs)(S:Addr)(a0:S≠a)(res:Value)(c₀:Nat)(hS:s.heap.get? S=some {cls:= .type "list",data:= .seq #[] c₀})
  (hR:∀h' tk d D c',(∀b o,b≠S->s.heap.get? b=some o->h'.get? b=some o)->h'.get? S=some {cls:= .type "list",dict:=none,data:= .seq D c',slots:=#[]}->qf0 xs D.toList->R (.ok (.ret res)) {s with heap:=h',toks:=tk,drawn:=d}):
  wpAny (model prog w) A.in1 (Builtin.List.listExtendWith (.ref S) (.ref a) res)
   (λfin s'=>match fin with | .done f=>R (.ok f) s' | .again c'=>c'.quiet=true/\codeAny (model prog w) A c' R s') (λe s'=>R (.error e) s') s:=by
 obtain⟨o,es,ep,t,ho,a6,rest⟩:=id x;have ty:s.TypeIs (.ref a) "set":=⟨o,ho,a6.1⟩;unfold Builtin.List.listExtendWith;refine z4e (wpAny_typeOf (T:="set") ty ?_);have h1:Builtin.List.listSameRef (.ref S) (.ref a)=false:=by simp[Builtin.List.listSameRef,a0]
 simp only[h1,show (Value.type "set"==Value.type "list")=false by decide,show (Value.type "set"==Value.type "tuple")=false by decide,Bool.or_false,z1k,if_false];refine z4e (z4f (quf (A:=A.in1) (E:=λe s'=>R (.error e) s') hh x (z3y hS) a0) (λit s1 good=>?_) λe s' z=>z);obtain⟨J,fp,n,P,St,h2,d,rfl,rfl,keep,W,st,a1,hJ,hn,a4⟩:=good;have O:=keep _ _ hS;have hSJ:S≠J:=z3z (z1r (z3y hS) hJ);have key:∀(h:Heap) (c₁ tk:Nat),St 0 h->(∀b o,b≠S->h2.get? b=some o->h.get? b=some o)->
   h.get? S=some {cls:= .type "list",data:= .seq #[] c₁}->codeAny (model prog w) A (.builtin "list.extend.loop" ⟨[.ref S,.ref J,res],[]⟩) R {s with heap:=h,toks:=tk,drawn:=d}:=by
  intro h c₁ tk a9 hk O;refine codeAny_extend_loopS W.toS hn S a1 res n 0 _ #[] c₁ rfl (z4a _) a9 O (ItemsOf.nil _) λs' D c' hm a7 ha=>?_;rw[Moved.eq_with hm];refine hR s'.heap s'.toks d D c' (λb o hb e=>hm.heap b o (λZ=>?_) (hk b o hb (keep b o e))) a7 (a4 D ha);rcases z3m.mp Z with e' | Z
  ·exact hb e'
  ·have z:=z1m.mp Z;exact absurd (z3y e) (by rw[z];exact Nat.not_lt.mpr hJ)
 refine z4e (z3n (que ⟨o,keep _ _ ho,a6.1⟩ ?_));refine wpAny_ite_split (λ_=>?_) (λ_=>z4d ⟨plainId_quiet PySem.F.plain_extend_loop _,key _ c₀ _ st (λb o _ e=>e) O⟩);refine z4e (z4c ?_);refine z4e ?_;show wpAny _ _ (updateSeq S (·.push .none) >>=λ_=>updateSeq S (·.pop)) _ _ _;refine z4e (wpAny_updateSeq O rfl ?_);have a2:=z0z (Obj.mapSeq (·.push Value.none)) O rfl;refine wpAny_updateSeq (hz:=by seq_fits) a2 rfl ?_;have a8:=z0z (Obj.mapSeq (·.pop)) a2 rfl;refine z4d ⟨plainId_quiet PySem.F.plain_extend_loop _,key _ _ _ ?_ (λb o hb e=>?_) a8⟩
 ·refine W.frame 0 _ _ st λb hb o e=>?_;have a5:b≠S:=λh=>a1 (h ▸ hb);exact(z0p _ _ (Ne.symm a5)).trans ((z0p _ _ (Ne.symm a5)).trans e)
 ·exact(z0p _ _ (Ne.symm hb)).trans ((z0p _ _ (Ne.symm hb)).trans e)
def qnd{R:List Value->Shared->Prop}(hh:A.handled=none)(x:TxS prog w s.heap a xs)
  (h:∀(vs:xH) (h':Heap) (tk:Nat) (d:Drawn),qf0 xs vs->(∀b o,s.heap.get? b=some o->h'.get? b=some o)->s.heap.objs.size<=h'.objs.size->R vs {s with heap:=h',toks:=tk,drawn:=d}):wpAny (model prog w) A (collect (.ref a)) R E s:=by
 have al:a < s.heap.objs.size:=by
  obtain⟨_,_,_,_,e,_⟩:=x;exact z3y e
 unfold collect;refine z4e (wpAny_runValue (z38 entry_proto_collect' ?_));rw[Around.under_plainId PySem.F.plain_proto_collect _];show wpAny _ A.in1 (newList [] >>=λl=>again (.builtin "list.__iadd__" ⟨[l,.ref a],[]⟩)) _ _ s;refine z4e (z28 ?_);refine z4d ⟨plainId_quiet z0j _,z38 entry_list_iadd' ?_⟩;rw[Around.under_plainId z0j _];have hS:(s.heap.push {cls:= .type "list",data:= .seq ([]:xH).toArray}).get? s.heap.objs.size=some {cls:= .type "list",data:= .seq #[]}:=z1c _ rfl;show wpAny _ A.in1 (Builtin.List.listExtendWith (.ref s.heap.objs.size) (.ref a) (.ref s.heap.objs.size)) _ _ _;have key:=qpo (A:=A) (prog:=prog) (w:=w) (xs:=xs) (a:=a) (s:={s with heap:=s.heap.push {cls:= .type "list",data:= .seq ([]:xH).toArray}}) hh (x.keep λo e=>z0o _ e) s.heap.objs.size
  (z41 al) (.ref s.heap.objs.size) 0 hS
  (R:=λ(q:Result) (s':Shared)=>∃(h':Heap) (tk:Nat) (d:Drawn) (D:Array Value) (O:Nat),q= .ok (.ret (.ref s.heap.objs.size))/\s'={s with heap:=h',toks:=tk,drawn:=d}/\(∀b o,s.heap.get? b=some o->h'.get? b=some o)/\
   h'.get? s.heap.objs.size=some {cls:= .type "list",dict:=none,data:= .seq D O,slots:=#[]}/\qf0 xs D.toList)
  (λh' tk d D O hk J Z=>⟨h',tk,d,D,O,rfl,rfl,λb o e=>hk b o (z3z (z3y e)) (z0o _ e),J,Z⟩)
 refine z4f key (λf s' y=>?_) λe s' y=>?_
 ·cases f with
  | done f=>
   obtain⟨h',tk,d,D,O,e,rfl,hk,J,ha⟩:=y;cases e
   show wpAny _ A (load s.heap.objs.size >>=_) _ _ _;refine z4e (wpAny_load J (z4d ?_));exact h D.toList h' tk d ha hk (z3x (z3y J))
  | again c=>
   refine⟨y.1,z42 y.2 λq s2 z=>?_⟩;obtain⟨h',tk,d,D,O,rfl,rfl,hk,J,ha⟩:=z;show wpAny _ A (load s.heap.objs.size >>=_) _ _ _;refine z4e (wpAny_load J (z4d ?_));exact h D.toList h' tk d ha hk (z3x (z3y J))
 ·obtain⟨_,_,_,_,_,e',_⟩:=y;cases e'
def qne{x:Value}{Pv:List Value->Prop}{rk:List Value->Value->Int}{Q:xB}(hz:∀vs,Pv vs->vs.length<=sizeLine)
  (hc:∀(O:Around) (E':xB) (R:List Value->Shared->Prop),O.handled=A.handled->(∀vs h' tk d,Pv vs->(∀b o,s.heap.get? b=some o->h'.get? b=some o)->s.heap.objs.size<=h'.objs.size->R vs {s with heap:=h',toks:=tk,drawn:=d})->wpAny (model prog w) O (collect x) R E' s)
  (hk:∀(vs:xH) (O:Around) (s':Shared) (a:Addr),Pv vs->O.units<=A.units+4->s.heap.objs.size<=a->(∀b o,s.heap.get? b=some o->s'.heap.get? b=some o)->Tim.Keys prog w O s' a vs (rk vs))
  (h:∀(vs:xH) (out:Array Value) (l:Addr) (n:Nat) (h':Heap) (tk:Nat) (d:Drawn),Pv vs->Tim.Sorted (rk vs) vs out.toList->(∀b o,s.heap.get? b=some o->h'.get? b=some o)->s.heap.objs.size<=l->h'.get? l=some (seqObj "list" out n)->Q (.ref l) {s with heap:=h',toks:=tk,drawn:=d}):
  wpAny (model prog w) A (call (.builtin "sorted") [x]) Q E s:=by
 refine Calls.call_function_entry kind_sorted plain_sorted entry_sorted (args_sorted1 _) ?_;unfold Builtin.«sorted»;refine z4e (m:=checkCount "sorted" 1 1 _) (z4d ?_);refine z4e (hc _ _ _ rfl λvs h1 tk d pv keep hsz=>?_);have hz:=hz vs pv;refine z4e (wpAny_newList ?_ hz);have J:(h1.push (seqObj "list" vs.toArray 0)).get? h1.objs.size=some (seqObj "list" vs.toArray 0):=z1c _ rfl;show wpAny _ _ _ _ _ {s with heap:=h1.push (seqObj "list" vs.toArray 0),toks:=tk,drawn:=d};have D:∀b o,s.heap.get? b=some o->(h1.push (seqObj "list" vs.toArray 0)).get? b=some o:=λb o e=>z0o _ (keep b o e);refine z4e (z3n (z2o slot_list_sort ⟨_,J,zr⟩ entry_list_sort (Tim.qaf J hz (hk vs _ _ _ pv ?_ hsz D) λout so=>⟨_,zr,?_⟩) (args_list_sort _)))
 ·show A.units+2<=A.units+4
  lia
 ·have Z:∀b o,s.heap.get? b=some o->b≠h1.objs.size:=λb o e=>z3z (z1r (z3y e) hsz);have u1:=z1b (h1.push (seqObj "list" vs.toArray 0)) h1.objs.size (Obj.mapSeq λ_=>(#[]:Array Value));obtain⟨e1,g1⟩:∃e1,((h1.push (seqObj "list" vs.toArray 0)).update h1.objs.size (Obj.mapSeq λ_=>(#[]:Array Value))).get? h1.objs.size=some (seqObj "list" #[] e1):=⟨_,get?_update_seq J λ_=>#[]⟩;have g2:=z0o (seqObj "list" #[] 0) (z0o (seqObj "tuple" vs.toArray 0) g1);have g3:=get?_update_seq g2 λ_=>out;have u4:=z1b (((((h1.push (seqObj "list" vs.toArray 0)).update h1.objs.size (Obj.mapSeq λ_=>(#[]:Array Value))).push (seqObj "tuple" vs.toArray 0)).push (seqObj "list" #[] 0))) h1.objs.size (Obj.mapSeq λ_=>out);refine z4d ⟨_,zr,h vs out h1.objs.size _ _ tk d pv so (λb o e=>?_) hsz g3⟩;refine(u4.2 b (Z b o e)).trans (z0o _ (z0o _ ((u1.2 b (Z b o e)).trans (D b o e))))
end
def SetH(P:Program)(w:World)(a:Addr)(ys:xD):HO:= .ext λh=>TxS P w h a ys
def uniq(ws:xD):List Str:=Tim.srt q19 ws.eraseDups
def q2t(ws:xD)(x:Str):x∈uniq ws↔x∈ws:=by
 unfold uniq;rw[(Tim.q13 q19 _).mem_iff];exact List.mem_eraseDups
section
variable{X:Cx}{xC:xG}{σ:St}{H:Hp}{s:Shared}
def Inv.drew{d:Drawn}(I:Inv X xC σ H s):Inv X xC σ H {s with drawn:=d}:=
 I.step (h':=s.heap) (g':=s.gens) (d':=d) (t':=s.toks) (ch:=[]) (λ_ z=>nomatch z) (λ_ _ _ _ _ e _=>e) (λb o _ _ _ e _=>⟨o.slots,e⟩) (λ_ _ _ _ n=>n) (λb o _ e=>⟨o,e⟩) (λ_ _ e=>e) (λ_ _ _ e=>e) (λb ps e=>⟨#[],by rw[e];simp⟩) (λ_ e=>e) I.hok I.bare
def qba(hc:X.calm=true)(P:Program)(w:World)(K:xA)(hK:X.K=K:=by rfl)(hP:X.prog=P:=by rfl)(hw:X.w=w:=by rfl):q2b X (.type "set") (λxs H Q=>∃(p:Addr) (ws:xD),xs=[.ref p]/\(SqL K H p (ws.map V.str)\/ SqT K H p (ws.map V.str))/\ws.length<=4000/\
  ∀(l:Addr) (ys:xD),H l=none->ys.Nodup->(∀x,x∈ys↔x∈ws)->Q (.ref l) (upd H l (SetH P w l ys))):=by
 subst hK hP hw;intro xC s σ H xs us Q I r h;obtain⟨p,ws,rfl,Z,hl,q⟩:=h;obtain⟨u,rfl,ru⟩:=q2k r;cases ru
 have fin:∀(its:xH),its.length=ws.length->∀(h':Heap) (tk:Nat) (ys:xD),TxS X.prog X.w h' s.heap.objs.size ys->InS (λi=>ws.getD i "") its.toArray.size ys->(∀b o,b < s.heap.objs.size->s.heap.get? b=some o->h'.get? b=some o)->EP X xC σ Q (.ref s.heap.objs.size) {s with heap:=h',toks:=tk}:=λits D h' tk ys hS a1 keep=>by
  have J:∀b o,s.heap.get? b=some o->h'.get? b=some o:=λb o e=>keep b o (z3y e) e;have hnd:ys.Nodup:=by
   obtain⟨_,_,_,_,_,_,_,_,_,hnd,_⟩:=hS;exact hnd
  have a0:∃o,h'.get? s.heap.objs.size=some o:=by
   obtain⟨o,_,_,_,e,_⟩:=hS;exact⟨o,e⟩
  refine⟨.ref _,_,I.laid (a:=s.heap.objs.size) (o:=SetH X.prog X.w s.heap.objs.size ys) (t':=tk) J (z47 _) ⟨hS,a0,λh1 h2 z k=>z.keep k⟩,zr,q _ ys I.fresh hnd λx=>?_⟩;rw[a1.1 x,z23,D]
  constructor
  ·rintro ⟨j,O,rfl⟩;show ws.getD j ""∈ws;rw[z06,z0d O];exact z2k O
  ·intro hx;obtain⟨j,O,e⟩:=z1i hx;refine⟨j,O,?_⟩;show ws.getD j ""=x;rw[z06,z0d O];exact e
 have hh:=I.ok.hd hc;rcases Z with Z | Z
 ·obtain⟨its,rv,⟨o,n,e,c,_,d⟩,z⟩:=I.list Z;have D:its.length=ws.length:=by rw[<- rv.length,z30]
  obtain⟨_,_,e3⟩:=q5z rv;exact qrz hh ⟨o,e,c,n,d⟩ (by rw[z1g];exact e3) (by rw[z23,D];unfold scanBound;lia) (fin its D)
 ·obtain⟨its,rv,⟨o,e,c,n,d⟩,z⟩:=I.tuple Z;have D:its.length=ws.length:=by rw[<- rv.length,z30]
  obtain⟨_,_,e3⟩:=q5z rv;exact qpl hh ⟨o,e,c,n,d⟩ (by rw[z1g];exact e3) (by rw[z23,D];unfold scanBound;lia) (fin its D)
theorem q9u:∀(n:Nat) (l:xD),l.length<=n->l.eraseDups.Nodup
 | 0,l,h=>by
  have:l=[]:=z0k.mp (by lia);subst this;exact z3f
 | n+1,[],_=>z3f
 | n+1,x::l,h=>by
  rw[List.eraseDups_cons];refine z32.mpr ⟨λhx=>?_,q9u n _ (z40 (z10 _ _) (Nat.le_of_succ_le_succ h))⟩;have:=z2x.mp (List.mem_eraseDups.mp hx);simp at this
def qdl{ws ys:xD}(hn:ys.Nodup)(hm:∀x,x∈ys↔x∈ws):Tim.srt q19 ys=uniq ws:=by
 unfold uniq;refine Tim.q97 q24 ((Tim.q13 q19 ys).trans ?_) (Tim.q23 q24 ys);refine(List.perm_ext_iff_of_nodup hn (q9u _ _ (z47 _))).mpr λx=>?_;rw[hm x,List.mem_eraseDups]
def q7s(hc:X.calm=true)(P:Program)(w:World)(hP:X.prog=P:=by rfl)(hw:X.w=w:=by rfl):q2b X (.builtin "sorted") (λxs H Q=>∃(p:Addr) (ys:xD),xs=[.ref p]/\H p=some (SetH P w p ys)/\∀l,H l=none->Q (.ref l) (upd H l (.lst ((Tim.srt q19 ys).map V.str)))):=by
 subst hP hw;intro xC s σ H xs us Q I r h;obtain⟨p,ys,rfl,hp,q⟩:=h;obtain⟨u,rfl,ru⟩:=q2k r;cases ru
 obtain⟨Z,_,_⟩:ObjOk X.prog X.w H s.heap p (SetH X.prog X.w p ys):=I.hok p _ hp;have yl:ys.length<=sizeLine:=by
  obtain⟨_,es,_,_,_,_,_,_,e,_,hb,_⟩:=id Z;rw[<- e,z30,z19];exact fits_of_scanBound hb
 have hh:=I.ok.hd hc;have O:∀vs,qf0 ys vs->Vals ((vs.map sOf).map V.str) vs:=λvs z=>q45 z.2;refine qne (Pv:=qf0 ys) (rk:=λvs v=>Tim.rank q19 (vs.map sOf) (sOf v)) (λvs z=>by rw[show vs.length=ys.length by rw[<- z.1.length_eq,z30]];exact yl)
  (λA' E' R e k=>qnd (by rw[e];exact hh) Z λvs h' tk d z=>k vs h' tk d z) (λvs A' s' a z _ _ _=>qb3 (O vs z)) λvs out l n h' tk d z so keep hl hg=>?_
 have ed:=Tim.q3d q24 sOf so;have J:∀u∈out.toList,∃x t,u= .str x t:=λu hu=>z.2 u (so.perm.mem_iff.mp hu);have D:=q45 J;have es:Tim.srt q19 (vs.map sOf)=Tim.srt q19 ys:=Tim.q97 q24 ((Tim.q13 q19 _).trans z.1) (Tim.q23 q24 _);rw[ed,es]at D;exact Inv.q3e (s:={s with drawn:=d}) I.drew D (by rw[z30,(Tim.q13 q19 ys).length_eq];exact yl) keep hl hg (q l (I.hok.fresh hl))
end
section
variable{X:Cx}
def Inv.thaw{xC:xG}{σ:St}{H:Hp}{s:Shared}{a:Addr}{o:Obj}{kvs:List (Key×V)}(I:Inv X xC σ H s)(e:H a=some (.frz o (.dK kvs)))(h0:∀o u,X.H₀ a≠some (.frz o u)):Inv X xC σ (upd H a (.dK kvs)) s where
 ok:=I.ok
 os:=I.os
 bare:=I.bare
 base:=by
  refine⟨I.base.keep,I.base.slot,λb D q n hx=>?_,I.base.there,λb xs q=>?_,λb D u q=>?_,λb ps q=>?_⟩
  ·have:=I.base.free b D q n hx;rw[qi (λz=>by rw[z,e]at this;cases this)];exact this
  ·have:=I.base.tups b xs q;rw[qi (λz=>by rw[z,e]at this;cases this)];exact this
  ·rw[qi (show b≠a from λz=>h0 D u (by rw[<- z];exact q))];exact I.base.frzs b D u q
  ·obtain⟨more,this⟩:=I.base.tbls b ps q;exact⟨more,by rw[qi (λz=>by rw[z,e]at this;cases this)];exact this⟩
 loc:=I.loc
 cell:=I.cell
 free:=by rw[qi (qz e I.free).symm];exact I.free
 freeC:=λx c h=>by rw[qi (qz e (I.freeC x c h)).symm];exact I.freeC x c h
 pin:=λp hp=>by
  obtain⟨h1,h2,h3⟩:=I.pin p hp;exact⟨h1,by rw[qi (qz e h2).symm];exact h2,h3⟩
 len:=I.len
 hok:=λb D q=>by
  by_cases z:b=a
  ·subst z;rw[qb]at q;cases q
   obtain⟨_,this⟩:=I.hok b _ e;exact this.stay (λc u _ g=>g) (λc g=>by rw[qi (λz=>by rw[z,e]at g;cases g)];exact g) λc xs g=>by rw[qi (λz=>by rw[z,e]at g;cases g)];exact g
  ·rw[qi z]at q;have hb:=I.hok b D q;exact hb.stay (λc u _ g=>g) (λc g=>by rw[qi (λz=>by rw[z,e]at g;cases g)];exact g) λc xs g=>by rw[qi (λz=>by rw[z,e]at g;cases g)];exact g
def q11n(H0:Hp)(te:TE):TE:=λσ H Q=>te σ H λv H1=>Q v H1\/ ∃a o kvs,H1 a=some (.frz o (.dK kvs))/\(∀o u,H0 a≠some (.frz o u))/\Q v (upd H1 a (.dK kvs))
def qob{e:Expr}{te:TE}(he:PE X e te):PE X e (q11n X.H₀ te):=by
 intro xC s σ H Q I h;refine thn (he xC s σ H _ I h) λv s1 D=>?_;obtain⟨x,H1,I1,r1,q1⟩:=D;rcases q1 with q | ⟨a,o,kvs,e1,h0,q⟩
 ·exact⟨x,H1,I1,r1,q⟩
 ·exact⟨x,_,I1.thaw e1 h0,r1,q⟩
end
def q1b(H:Hp)(zs:List V)(ps:xF):Prop:=Paired (λx p=>∃b,x=V.ref b/\H b=some (.tup (p.map V.str))) zs ps
theorem qs1{H:Hp}:∀{zs:List V} {ps:xF} {its:xH},q1b H zs ps->Vals zs its->qk9 H its ps
 | _,_,_,.nil,.nil=> .nil
 | _,_,_,.cons ⟨b,e,hb⟩ r,.cons rv rr=>by
  subst e;exact .cons ⟨b,rv,hb⟩ (qs1 r rr)
section
variable{X:Cx}
def q6r(hu:X.A.units+64 < cLine)(K:xA)(hK:X.K=K:=by rfl):q2b X (.builtin "sorted") (λxs H Q=>∃(p:Addr) (zs:List V) (ps:xF),xs=[.ref p]/\SqL K H p zs/\q1b H zs ps/\
  ∀(l:Addr) (us:List V),H l=none->q1b H us (Tim.srt q17 ps)->Q (.ref l) (upd H l (.lst us))):=by
 subst hK;intro xC s σ H xs us Q I r h;obtain⟨p,zs0,ps,rfl,hp,ht,q⟩:=h;obtain⟨u,rfl,ru⟩:=q2k r;cases ru
 obtain⟨its,a1,⟨o,n,e,c,_,d⟩,z⟩:=I.list hp;have D:qk9 H its ps:=qs1 ht a1;have Z:∀v p,(∃b,v=Value.ref b/\H b=some (.tup (p.map V.str)))->TupAt s.heap v p:=λv p ⟨b,e,O⟩=>by
  obtain⟨_,its,rv,o,e1,c,n,dd⟩:=I.hok b _ O;exact⟨b,o,its.toArray,n,e,e1,c,dd,by rw[z1g];exact rv⟩
 have J:Paired (λv p=>TupAt s.heap v p/\decT H v=p) its ps:=Paired.mapP D λv p z=>⟨Z v p z,by
  obtain⟨b,rfl,O⟩:=z;exact qc6 O⟩
 have ev:its.map (decT H)=ps:=(q4l J λ_ _ z=>z.2).1;have mem:∀v∈its,∃b,v=Value.ref b/\H b=some (.tup ((decT H v).map V.str)):=(q4l (f:=decT H) D λv p ⟨b,e,O⟩=>by
  rw[e];exact qc6 O).2
 have hl:its.length<=sizeLine:=by
  rw[<- a1.length];exact z
 refine q4k (vs:=its) (rk:=λv=>Tim.rank q17 (its.map (decT H)) (decT H v)) hl
  (λA' E' R _ k=>q9p (.inl rfl) e c d (by rw[z23];exact hl) (by rw[z1g];exact k))
  (λA' s' a hu' ha keep=>qi9 (s:=s) (decT H) J ha keep (by lia)) λout l n h' tk so keep a0 hg=>?_
 have ed:=Tim.q3d q28 (decT H) so;rw[ev]at ed;have mo:∀v∈out.toList,∃b,v=Value.ref b/\H b=some (.tup ((decT H v).map V.str)):=λv hv=>mem v (so.perm.mem_iff.mp hv);obtain⟨zs,rv,hp⟩:∃zs:List V,Vals zs out.toList/\q1b H zs (out.toList.map (decT H)):=by
  revert mo;generalize out.toList=os;intro mo
  induction os with
  | nil=>exact⟨[],.nil,.nil⟩
  | cons v os ih=>
   obtain⟨zs,r1,r2⟩:=ih λu hu=>mo u (z16 _ hu);obtain⟨b,e,O⟩:=mo v (z1p ..);exact⟨.ref b::zs,.cons e r1,.cons ⟨b,zr,O⟩ r2⟩
 rw[ed]at hp;refine I.q3e rv ?_ keep a0 hg (q l zs (I.hok.fresh a0) hp);rw[rv.length,so.perm.length_eq];exact hl
end
def qpp{P:Program}{w:World}{es:List DictEntry}{vs:List (Key×Value)}(p:Pairs (q1c P w) es vs):∀{kvs:List (Key×V)} {ws:List Int},KV kvs vs->kvs.map (·.1)=ws.map Sum.inl->Vals (ws.map V.int) (es.map (·.key)):=by
 induction p with
 | nil=>
  intro kvs ws r h;cases r
  have:ws=[]:=by simpa using h.symm
  subst this;exact .nil
 | cons a b c ih=>
  intro kvs ws r h;cases r with
  | cons d f=>
   cases ws with
   | nil=>simp at h
   | cons x ws=>
    rw[z3k,z3k,z2v]at h;rw[<- d.1,h.1]at a;refine .cons ?_ (ih f h.2);rcases q21 (show q8i (Sum.inl x) _=true from a) with ⟨i,t,e1,e2⟩ | ⟨x',t,e1,_⟩
    ·cases e1
     exact⟨t,e2⟩
    ·cases e1
section
variable{X:Cx}
def qj1(hc:X.calm=true)(K:xA)(hK:X.K=K:=by rfl):q2b X (.builtin "sorted") (λxs H Q=>∃(d:Addr) (kvs:List (Key×V)) (ws:List Int),xs=[.ref d]/\H d=some (.dK kvs)/\kvs.map (·.1)=ws.map Sum.inl/\
  ∀l,H l=none->Q (.ref l) (upd H l (.lst ((Tim.srt q1g ws).map V.int)))):=by
 subst hK;intro xC s σ H xs us Q I r h;obtain⟨d,kvs,ws,rfl,hd,hk,q⟩:=h;obtain⟨u,rfl,ru⟩:=q2k r;cases ru
 obtain⟨hz,a0,vs,a2,o,es,ep,ho,hx,D,_,Z,hnd⟩:=I.hok d _ hd;have rv:Vals (ws.map V.int) (es.toList.map (·.key)):=qpp Z a2 hk;have wl:ws.length=kvs.length:=by
  have:=congrArg List.length hk;rw[z30,z30]at this;exact this.symm
 have hl:(es.toList.map (·.key)).length<=sizeLine:=by
  rw[<- rv.length,z30,wl];exact hz
 obtain⟨e1,e2,_⟩:=qdk rv;refine q4k (vs:=es.toList.map (·.key)) (rk:=λv=>Tim.rank q1g ((es.toList.map (·.key)).map iOf) (iOf v)) hl (λA' E' R hh k=>q8t (hh.trans (I.ok.hd hc)) a0 ⟨o,ho,hx,D⟩ (by rw[z30,z19]at hl;exact hl) k)
  (λA' s' a _ _ _=>qic rv) λout l n h' tk so keep J hg=>?_
 have a1:∀u∈out.toList,∃x t,u= .int x t:=λu hu=>e2 u (so.perm.mem_iff.mp hu);have ed:=Tim.q3d q29 iOf so;rw[e1]at ed;have O:=q6p a1;rw[ed]at O;exact I.q3e O (by rw[z30,(Tim.q13 q1g ws).length_eq,wl];exact hz) keep J hg (q l (I.hok.fresh J))
end
def ItdT(a:Addr)(o:Obj)(kvs:List (List Key×V)):It:=
 ⟨λi H=>H a=some (.frz o (.dT kvs))/\i < kvs.length,λi H x H'=>H'=H/\∃kv b,kvs[i]? =some kv/\x= .ref b/\H b=some (.tup (kv.1.map kV)),λi H=>H a=some (.frz o (.dT kvs))/\kvs.length<=i⟩
section
variable{X:Cx}{tg:Expr}
def Inv.freezeT{xC:xG}{σ:St}{H:Hp}{s:Shared}{a:Addr}{o:Obj}{kvs:List (List Key×V)}(I:Inv X xC σ H s)(e:H a=some (.dT kvs))(ho:s.heap.get? a=some o):Inv X xC σ (upd H a (.frz o (.dT kvs))) s:=by
 have u:Un X.fs [] H (upd H a (.frz o (.dT kvs))) s.heap s.heap:=by
  refine⟨λb o q _ _ _=>q,λb o q _ _ _=>⟨o.slots,q⟩,λb D q n _=>?_,λb D q _=>⟨D,q⟩,λb xs q=>?_,λb D u q=>?_,λb ps q=>⟨#[],?_⟩⟩
  ·rw[qi (λz=>by rw[z,e]at n;cases n)];exact n
  ·rw[qi (λz=>by rw[z,e]at q;cases q)];exact q
  ·rw[qi (λz=>by rw[z,e]at q;cases q)];exact q
  ·rw[qi (λz=>by rw[z,e]at q;cases q),q];simp
 have st:∀b D,ObjOk X.prog X.w H s.heap b D->ObjOk X.prog X.w (upd H a (.frz o (.dT kvs))) s.heap b D:=λb D hb=>hb.stay (λc u _ g=>g) (λc g=>by rw[qi (λz=>by rw[z,e]at g;cases g)];exact g) λc xs g=>by rw[qi (λz=>by rw[z,e]at g;cases g)];exact g
 have hok:HOk X.prog X.w (upd H a (.frz o (.dT kvs))) s.heap:=λb D q=>by
  by_cases z:b=a
  ·subst z;rw[qb]at q;cases q
   exact⟨ho,st b _ (I.hok b _ e)⟩
  ·rw[qi z]at q;exact st b D (I.hok b D q)
 have:=I.un (t':=s.toks) u hok;exact this
theorem qlm{P:Program}{w:World}{H:Hp}:∀{kvs:List (List Key×V)} {xs:List (List Key×Addr×Value)} {i:Nat} {D:List Key×V},Paired (λ(p:List Key×V) (q:List Key×Addr×Value)=>p.1=q.1/\H q.2.1=some (.tup (p.1.map kV))/\RelV p.2 q.2.2) kvs xs->kvs[i]? =some D->
  ∃b e,(xs.map (entryOfKey (tupleKind (q1c P w))))[i]? =some e/\e.key= .ref b/\H b=some (.tup (D.1.map kV))
 | _,_,i,D,.nil,h=>by simp at h
 | _,_,0,D,.cons a r,h=>by
  simp at h
  subst h;exact⟨_,_,zr,zr,a.2.1⟩
 | _,_,i+1,D,.cons a r,h=>by
  obtain⟨b,e,h1,h2⟩:=qlm (P:=P) (w:=w) (i:=i) r (by simpa using h);exact⟨b,e,by simpa using h1,h2⟩
def qpq{P:Program}{w:World}{K:xA}(a it:Addr)(o:Obj)(es:Array DictEntry)(ep:Nat)(kvs:List (List Key×V))(ho:o.ExactDict)(D:o.data= .dict es ep):Turn P w K tg (ItdT a o kvs) [it] it (λi h=>h.IsKeyIter it a i es.size ep) where
 mem:=by simp
 obj:=λi h st b hb=>by
  have e:b=it:=by simpa using hb
  subst e;obtain⟨o,e,c,d⟩:=st;exact⟨o,e,λv z=>by rw[d]at z;cases z⟩
 keep:=λi h h' st k=>by
  obtain⟨o,e,r⟩:=st;exact⟨o,k it (by simp) o e,r⟩
 item:=by
  intro X hP hw hK hc i xC s σ H E I hf st hg;subst hP hw hK;obtain⟨ha,hi⟩:=hg;obtain⟨Z,hz,a6,xs,a1,o2,a5,a4,O,a7,J,a0,hnd⟩:=I.hok a _ ha;rw[Z]at O;cases O
  rw[D]at J;cases J
  obtain⟨b,e,he,ek,hb⟩:=qlm (P:=X.prog) (w:=X.w) a1 (z0d hi);rw[<- a0]at he;obtain⟨f0,f1,f2,f3,f4,f5⟩:=hf it (by simp);refine qdi st ⟨o,Z,ho,D⟩ (e:=e) (by simpa using he) λh' a2 sb=>?_;have I1:Inv X xC σ H {s with heap:=h'}:=I.turned (t':=s.toks) (λb o hb e=>(sb.2 b hb).trans e) f0 f1 f3 f4 f5;obtain⟨oi,ei,ci,di⟩:=id a2;rw[ek];exact⟨_,rfl,qeq (s:={s with heap:=h'}) ei ci di (by decide) ⟨.ref b,H,I1,rfl,⟨rfl,_,b,z0d hi,rfl,hb⟩,a2,λb hb=>(hf b hb).1⟩⟩
 done:=by
  intro X hP hw hK hc i xC s σ H E I hf st hg;subst hP hw hK;obtain⟨ha,hi⟩:=hg;obtain⟨Z,hz,a6,xs,a1,o2,a5,a4,O,a7,J,a0,hnd⟩:=I.hok a _ ha;rw[Z]at O;cases O
  rw[D]at J;cases J
  have hl:es.size=kvs.length:=by
   rw[<- z19,a0,z30];exact(Paired.length a1).symm
  obtain⟨f0,f1,f2,f3,f4,f5⟩:=hf it (by simp);exact qge (I.ok.hd hc) st ⟨o,Z,ho,D⟩ (by lia) λh' eb=>⟨zr,I.turned (t':=s.toks) (λb o hb e=>eb b o hb e) f0 f1 f3 f4 f5⟩
 self:=by
  intro A i s Q E st h;exact wpAny_pyIter_keyiter st h
def q11o(tl:TE):TI:=λσ H R=>tl σ H λx H1=>∃a kvs,x= .ref a/\((H1 a=some (.dT kvs)/\∀o,R (ItdT a o kvs) (upd H1 a (.frz o (.dT kvs))))\/ ∃o,H1 a=some (.frz o (.dT kvs))/\R (ItdT a o kvs) H1)
def qug{l:Expr}{tl:TE}(hl:PE X l tl):PI X tg l (q11o tl):=by
 intro xC s σ H R I h;refine thn (hl xC s σ H _ I h) λv s1 a2=>?_;obtain⟨x,H1,I1,r1,q1⟩:=a2;obtain⟨a,kvs,e,q⟩:=q1;subst e;cases r1
 obtain⟨H2,o,I2,ha,q2⟩:∃H2 o,Inv X xC σ H2 s1/\H2 a=some (.frz o (.dT kvs))/\R (ItdT a o kvs) H2:=by
  rcases q with ⟨e,q⟩ | ⟨o,e,q⟩
  ·obtain⟨hz,J,xs,a1,o,es,ep,ho,r⟩:=I1.hok a _ e;exact⟨_,o,I1.freezeT e ho,qb,q o⟩
  ·exact⟨H1,o,I1,e,q⟩
 obtain⟨Z,hz,J,xs,a1,o2,es,ep,O,a0,D,hes,hnd⟩:=I2.hok a _ ha;rw[Z]at O;cases O
 refine qdh J ⟨o,Z,a0,D⟩ ?_;refine⟨s1.heap.objs.size,[s1.heap.objs.size],_,_,H2,zr,I2.kept (t':=s1.toks) λb o e=>z0o _ e,qpq a _ o es ep kvs a0 D,⟨_,z1c _ rfl,zr,zr⟩,λb hb=>?_,q2⟩;have e:b=s1.heap.objs.size:=by simpa using hb
 subst e;exact I2.fpOk (z47 _) (I2.hok.fresh (z47 _))
end
def qs2{a:Addr}{o:Obj}{kvs:List (List Key×V)}{g:TG}{tb:TS}{D:Ends}{σ:St}{H:Hp}(Pv:Nat->St->Hp->Prop)(h0:Pv 0 σ H)(hl:∀i σ H,i<=kvs.length->Pv i σ H->H a=some (.frz o (.dT kvs)))
  (hs:∀i J b σ H,kvs[i]? =some J->H b=some (.tup (J.1.map kV))->Pv i σ H->g (.ref b) σ H λσ2 H2=>tb {D with nx:=Pv (i+1),ct:=Pv (i+1),bk:=D.nx} σ2 H2) (he:∀σ H,Pv kvs.length σ H->D.nx σ H):
  ∃W:Nat->Nat->St->Hp->Prop,(∃m,W 0 m σ H)/\∀i m σ H,W i m σ H->((ItdT a o kvs).stop i H/\D.nx σ H)\/ ((ItdT a o kvs).go i H/\∃N:St->Hp->Prop,(∀σ' H',N σ' H'->∃O,O < m/\W (i+1) O σ' H')/\∀x H',(ItdT a o kvs).yld i H x H'->g x σ H' λσ2 H2=>tb {D with nx:=N,ct:=N,bk:=D.nx} σ2 H2):=by
 refine qzg kvs.length Pv h0 (λi σ H hi p=>⟨hl i σ H (z3x hi) p,hi⟩) (λσ H p=>⟨⟨hl _ σ H (z47 _) p,z47 _⟩,he σ H p⟩) λi σ H hi p x H' y=>?_;obtain⟨rfl,J,b,hk,rfl,hb⟩:=y;exact hs i J b σ H' hk hb p
end L2
namespace L2
open PySem PySem.Spec PyProof.Rows
section
variable{X:Cx}
end
section
variable{prog:Program}{w:World}{A:Around}{E:xB}{s:Shared}
end
section
variable{X:Cx}
end
section
variable{X:Cx}
end
section
variable{prog:Program}{w:World}{A:Around}{E:xB}{s:Shared}
end
section
variable{X:Cx}{xC:xG}{σ:St}{H:Hp}{s:Shared}{h':Heap}
end
section
variable{prog:Program}{w:World}{A:Around}{E:xB}{s:Shared}
end
section
variable{X:Cx}{elts:List Expr}{pt:Pos}
end
section
variable{X:Cx}
end
theorem MDef.imp{P:Program}{w:World}{K:xA}{mg:xE}{base:Heap}{k:Nat}{C:Addr}{m:Str}{ps:xD}{sp J:Sp}(D:MDef P w K mg base k C m ps sp)(h:∀vs H Q E,J vs H Q E->sp vs H Q E):MDef P w K mg base k C m ps J:=by
 obtain⟨f,fd,F,hm,hb⟩:=D.ex;exact⟨f,fd,F.imp h,hm,hb⟩
theorem MDef.mono{P:Program}{w:World}{K:xA}{mg:xE}{base:Heap}{j k:Nat}{C:Addr}{m:Str}{ps:xD}{sp:Sp}(D:MDef P w K mg base j C m ps sp)(h:j<=k):MDef P w K mg base k C m ps sp:=by
 obtain⟨f,fd,F,hm,hb⟩:=D.ex;exact⟨f,fd,F.mono h,hm,hb⟩
def qs3{ι:Type}(cls:ι->Addr)(m:Str)(sp:ι->Sp)(ta:TE)(t:TA):TE:=λσ H Q=>ta σ H λx H1=>∃i a dx fs,x= .ref a/\H1 a=some (.ins (cls i) dx fs)/\fs.lookup m=none/\
 t σ H1 λvs H2=>sp i (x::vs) H2 Q E0
section
variable{X:Cx}{k k':Nat}{ι:Type}{cls:ι->Addr}{ps:xD}{sp:ι->Sp}{x m:Str}{p pos apos:Pos}{e o:Expr}{es:List Expr}{ta:TE}{t:TA}
def q46{pl:Sem Bool}(D:∀i,MDef X.prog X.w X.K X.mg X.base k (cls i) m ps (sp i))(c:∀i,Cls X.K (cls i))(hr:Room k' X.A)(he:PE X o ta)(ha:PA X (e::es) t)(J:k<=k':=by decide)
  (Z:starEach (e::es) X.env=(false,eval e X.env)::starEach es X.env:=by rfl) (O:(backTo pos (starEach es X.env)).any (·.1)=false:=by rfl)
  (ht:eval (.Call (.Attribute o m apos) (e::es) [] pos) X.env=(do
   let ov <- eval o X.env
   standAt apos.atName
   let (f,first) <- holding [ov] (getMethod ov m pl)
   callWith pos f first (backTo pos (starEach (e::es) X.env)) (backToKw pos (keywordEach [] X.env))):=by rfl):
  PE X (.Call (.Attribute o m apos) (e::es) [] pos) (qs3 cls m sp ta t):=by
 intro xC s σ H Q I h;refine PySem.W.methodCall_KW (pl:=pl) (thn (he xC s σ H _ I h) λu s1 a0=>?_) ht;obtain⟨x,H1,I1,rx,i,a,dx,fs,ex,ea,l,q⟩:=a0;obtain⟨f,fd,F,hm,hb⟩:=(D i).ex;subst ex;obtain rfl:u=Value.ref a:=rx;refine q9k I1 ea (c i) hm l ?_;refine PySem.W.callWith_K (first:=[.ref a]) (h₀:=X.base) I.ok.mod.kin hm.kp (thn (ha pos xC s1 σ H1 _ I1 q) λus s2 ⟨vs,H2,I2,r,q2⟩=>⟨I2.kIn,?_⟩) Z O;exact qes (us:= .ref a::us) (vs:= .ref a::vs) F (hr.mono J) hb .nil qc3 I2 (.cons rfl r) (by rw[z31];exact q2)
def q57{pl:Sem Bool}(D:∀i,MDef X.prog X.w X.K X.mg X.base k (cls i) m ps (sp i))(c:∀i,Cls X.K (cls i))(hr:Room k' X.A)(he:PE X o ta)(J:k<=k':=by decide)
  (ht:eval (.Call (.Attribute o m apos) [] [] pos) X.env=(do
   let ov <- eval o X.env
   standAt apos.atName
   let (f,first) <- holding [ov] (getMethod ov m pl)
   callWith pos f first (backTo pos (starEach [] X.env)) (backToKw pos (keywordEach [] X.env))):=by rfl):
  PE X (.Call (.Attribute o m apos) [] [] pos) (qs3 cls m sp ta tNil):=by
 intro xC s σ H Q I h;refine PySem.W.methodCall_KW (pl:=pl) (thn (he xC s σ H _ I h) λu s1 O=>?_) ht;obtain⟨x,H1,I1,rx,i,a,dx,fs,ex,ea,l,q⟩:=O;obtain⟨f,fd,F,Z,hb⟩:=(D i).ex;subst ex;obtain rfl:u=Value.ref a:=rx;refine q9k I1 ea (c i) Z l ?_;exact PySem.W.callWith_K0 (first:=[.ref a]) I1.kIn Z.kp (qes (us:=[.ref a]) (vs:=[.ref a]) F (hr.mono J) hb .nil qc3 I1 (.cons rfl .nil) q)
end
section
open PySem.AutoSeq1
end
section
variable{X:Cx}
end
section
variable{prog:Program}{w:World}{A:Around}{E:xB}{s:Shared}
end
section
variable{X:Cx}{elts:List Expr}{pt:Pos}
end
section
variable{X:Cx}
end
end L2
namespace L2
open PySem PySem.Spec PyProof.Rows PySem.W
section
variable{prog:Program}{w:World}{A:Around}{E:xB}{s:Shared}
end
section
variable{X:Cx}
section
variable{xC:xG}{σ:St}{H:Hp}{s:Shared}{a kS:Addr}{vs ks:xH}{rk:Value->Int}{e e1:Nat}{P:PySem.Fin->Shared->Prop}{E:xB}{A:Around}
end
end
section
variable{X:Cx}{k k':Nat}{x p1:Str}{sp:Sp}{e:Expr}{t:TA}{p pos kpos xp:Pos}
end
end L2
namespace L2
open PySem PySem.Spec PyProof.Rows
section
variable{X:Cx}
def q11p(K:xA):R2:=λx y H Q=>∃d ds,Dat K H d x/\Dat K H (.list ds) y/\PyData.depthAll ds<=60/\Q (.bl (ds.any λy=>PyData.eqv y d)) H
def qxz(hu:X.A.units+64 < cLine)(K:xA)(hK:X.K=K:=by rfl):OpR X (compareOp .In) (q11p K):=by
 subst hK;intro xC s σ H x y v u Q I rx ry h;obtain⟨d,ds,hd,D,hz,q⟩:=h;obtain⟨as,ra⟩:=Dat.reads I _ _ _ hd rx;obtain⟨bs,rb⟩:=Dat.reads I _ _ _ D ry;exact SeqAt.in_list_reads rb ra (Dat.lay _ _ D) (Dat.lay _ _ hd) (by have:min (PyData.depthAll ds) d.depth<=PyData.depthAll ds:=Nat.min_le_left _ _;lia) (q1h I q rfl)
end
section
variable{prog:Program}{w:World}{A:Around}{E:xB}{s:Shared}
end
section
variable{X:Cx}{elts:List Expr}{pt:Pos}
end
section
variable{prog:Program}{w:World}{A:Around}{E:xB}{s:Shared}
end
section
variable{X:Cx}{elts:List Expr}{pt:Pos}
end
section
variable{X:Cx}{k k':Nat}{C:Addr}{ps:xD}{sp:Sp}{x:Str}{p pos:Pos}{e:Expr}{es:List Expr}{t:TA}
end
end L2
namespace PySem
section
variable{prog:Program}{w:World}{K:Type}[DecidableEq K]{knd:HeapKind prog w K}{A:Around}{E:xB}{s:Shared}{d a:Addr}{k:K}{xs:List (K×Addr×Value)}
end
end PySem
namespace L2
open PySem PySem.Spec PyProof.Rows
section
variable{X:Cx}{xC:xG}{σ:St}{H:Hp}{s:Shared}{a b:Addr}{kvs:List (List Key×V)}{k:List Key}{z:V}{r:Value}{A:Around}{E:xB}
end
section
variable{X:Cx}{o e f:Expr}{apos cpos:Pos}{td ty tx:TE}
end
end L2
namespace L2
open PySem PySem.Spec PyProof.Rows PySem.W
section
variable{X:Cx}{tg:Expr}
def q11q{st:Stmt}:PS X st (λ_ _ _=>False):=λ_ _ _ _ _ _ h=>h.elim
end
end L2
open PySem PySem.W PyProof.Rows
namespace L2
def us0{p:List Value->Prop}(h:p []):∀us:List Value,us.length=0->p us:=λ_ e=>(z0k.mp e).symm ▸ h
def us1{p:List Value->Prop}(h:∀a:Value,p [a]):∀us:List Value,us.length=1->p us
 | [],e=>absurd e (by decide)
 | a::t,e=>us0 (p:=λus=>p (a::us)) (h a) t (Nat.succ.inj e)
def us2{p:List Value->Prop}(h:∀a b:Value,p [a,b]):∀us:List Value,us.length=2->p us
 | [],e=>absurd e (by decide)
 | a::t,e=>us1 (p:=λus=>p (a::us)) (h a) t (Nat.succ.inj e)
def us3{p:List Value->Prop}(h:∀a b c:Value,p [a,b,c]):∀us:List Value,us.length=3->p us
 | [],e=>absurd e (by decide)
 | a::t,e=>us2 (p:=λus=>p (a::us)) (h a) t (Nat.succ.inj e)
def us4{p:List Value->Prop}(h:∀a b c d:Value,p [a,b,c,d]):∀us:List Value,us.length=4->p us
 | [],e=>absurd e (by decide)
 | a::t,e=>us3 (p:=λus=>p (a::us)) (h a) t (Nat.succ.inj e)
def us5{p:List Value->Prop}(h:∀a b c d e:Value,p [a,b,c,d,e]):∀us:List Value,us.length=5->p us
 | [],e=>absurd e (by decide)
 | a::t,e=>us4 (p:=λus=>p (a::us)) (h a) t (Nat.succ.inj e)
structure FiK (K:xA) (x:Str) (st:Stmt):Prop where
 ex:∃(f:Addr) (oc:Value) (od an:Option Addr) (osl:Array (Option Value)) (kV doc pm cdv ct:Value),PySem.W.nsIn K mainGlobals x=some (some (.ref f))/\
  K.lookup f=some ⟨oc,od,.func (PySem.W.fnOf x x (q1z st) (q1k st) (qd st) .none kV doc pm an cdv ct),osl⟩/\PySem.W.codeIn K cdv x=true/\PySem.W.keepIn K (.ref f)=true
def fiK{K:xA}{x:Str}{st:Stmt}{f:Addr}{Z:Value}{od O:Option Addr}{J:Array (Option Value)}{kV D pm cdv ct:Value}(a:PySem.W.nsIn K mainGlobals x=some (some (.ref f)))
  (l:K.lookup f=some ⟨Z,od,.func (PySem.W.fnOf x x (q1z st) (q1k st) (qd st) .none kV D pm O cdv ct),J⟩) (c:PySem.W.codeIn K cdv x=true) (k:PySem.W.keepIn K (.ref f)=true):FiK K x st:=
 ⟨f,Z,od,O,J,kV,D,pm,cdv,ct,a,l,c,k⟩
def FiK.top{K:xA}{h:Heap}{mg:xE}{x:Str}{st:Stmt}{ps:xD}(F:FiK K x st)(X:K.In h)(G:h.Ns mainGlobals mg)
  (b:∀(kV D O:Value) (J:Option Addr) (cdv ct:Value) (us:xH),us.length=ps.length->bindArgs (PySem.W.fnOf x x (q1z st) (q1k st) (qd st) .none kV D O J cdv ct) ⟨us,[]⟩=pure (ps.zip us)):Top K mg x st ps:=by
 obtain⟨f,oc,od,J,osl,kV,D,O,cdv,ct,a,l,c,k⟩:=F.ex;exact qzj X G b a l c k
structure MiK (K:xA) (x m qual:Str) (st:Stmt):Prop where
 ex:∃(C f:Addr) (oc:Value) (od an:Option Addr) (osl:Array (Option Value)) (kV doc pm cdv ct:Value),PySem.W.nsIn K mainGlobals x=some (some (.ref C))/\PySem.W.findIn K (.ref C) m=some (some (.ref f))/\PySem.W.isFn K (.ref f)=true/\
  K.lookup f=some ⟨oc,od,.func (PySem.W.fnOf m qual (q1z st) (q1k st) (qd st) .none kV doc pm an cdv ct),osl⟩/\PySem.W.codeIn K cdv qual=true/\PySem.W.keepIn K (.ref f)=true
def miK{K:xA}{x m qual:Str}{st:Stmt}{C f:Addr}{Z:Value}{od O:Option Addr}{J:Array (Option Value)}{kV D pm cdv ct:Value}(n:PySem.W.nsIn K mainGlobals x=some (some (.ref C)))
  (a:PySem.W.findIn K (.ref C) m=some (some (.ref f))) (i:PySem.W.isFn K (.ref f)=true)
  (l:K.lookup f=some ⟨Z,od,.func (PySem.W.fnOf m qual (q1z st) (q1k st) (qd st) .none kV D pm O cdv ct),J⟩) (c:PySem.W.codeIn K cdv qual=true) (k:PySem.W.keepIn K (.ref f)=true):MiK K x m qual st:=
 ⟨C,f,Z,od,O,J,kV,D,pm,cdv,ct,n,a,i,l,c,k⟩
def MiK.top{K:xA}{h:Heap}{mg:xE}{x m qual:Str}{st:Stmt}{ps:xD}(F:MiK K x m qual st)(X:K.In h)(G:h.Ns mainGlobals mg)
  (b:∀(kV D O:Value) (J:Option Addr) (cdv ct:Value) (us:xH),us.length=ps.length->bindArgs (PySem.W.fnOf m qual (q1z st) (q1k st) (qd st) .none kV D O J cdv ct) ⟨us,[]⟩=pure (ps.zip us)):MTop K (cA mg x) m qual st ps:=by
 obtain⟨C,f,oc,od,J,osl,kV,D,O,cdv,ct,n,a,i,l,c,k⟩:=F.ex;rw[q8o (z3q X G n)];exact qxx b a i l c k
structure CiK (K:xA) (x:Str):Prop where
 ex:∃C:Addr,PySem.W.nsIn K mainGlobals x=some (some (.ref C))/\PySem.W.plainGet K C Str.empty=true/\PySem.W.hasDictIn K C=true/\PySem.W.plainOver K C=true/\
  PySem.W.findIn K (.ref C) "__setattr__"=some (some (.builtin "object.__setattr__"))/\PySem.W.makesIn K C=true/\PySem.W.keepIn K (.ref C)=true
def ciK{K:xA}{x:Str}{C:Addr}(n:PySem.W.nsIn K mainGlobals x=some (some (.ref C)))(pg:PySem.W.plainGet K C Str.empty=true)(hd:PySem.W.hasDictIn K C=true)(po:PySem.W.plainOver K C=true)
  (sa:PySem.W.findIn K (.ref C) "__setattr__"=some (some (.builtin "object.__setattr__"))) (mk:PySem.W.makesIn K C=true) (kc:PySem.W.keepIn K (.ref C)=true):CiK K x:=⟨C,n,pg,hd,po,sa,mk,kc⟩
section
variable{K:xA}{h:Heap}{mg:xE}{x a:Str}{v:Option (Option Value)}
def CiK.g(F:CiK K x)(X:K.In h)(G:h.Ns mainGlobals mg):mg x=some (.ref (cA mg x)):=by
 obtain⟨C,n,_⟩:=F.ex;rw[q8o (z3q X G n)];exact z3q X G n
def CiK.cl(F:CiK K x)(X:K.In h)(G:h.Ns mainGlobals mg):Cls K (cA mg x):=by
 obtain⟨C,n,pg,hd,po,sa,_⟩:=F.ex;rw[q8o (z3q X G n)];exact⟨pg,hd,po,sa⟩
def CiK.mk'(F:CiK K x)(X:K.In h)(G:h.Ns mainGlobals mg):PySem.W.makesIn K (cA mg x)=true:=by
 obtain⟨C,n,_,_,_,_,mk,_⟩:=F.ex;rw[q8o (z3q X G n)];exact mk
def CiK.kp(F:CiK K x)(X:K.In h)(G:h.Ns mainGlobals mg):PySem.W.keepIn K (.ref (cA mg x))=true:=by
 obtain⟨C,n,_,_,_,_,_,kc⟩:=F.ex;rw[q8o (z3q X G n)];exact kc
structure AiK (K:xA) (x a:Str) (v:Option (Option Value)):Prop where
 ex:∃C:Addr,PySem.W.nsIn K mainGlobals x=some (some (.ref C))/\PySem.W.findIn K (.ref C) a=v
def aiK{C:Addr}(n:PySem.W.nsIn K mainGlobals x=some (some (.ref C)))(f:PySem.W.findIn K (.ref C) a=v):AiK K x a v:=⟨C,n,f⟩
def AiK.at'(F:AiK K x a v)(X:K.In h)(G:h.Ns mainGlobals mg):PySem.W.findIn K (.ref (cA mg x)) a=v:=by
 obtain⟨C,n,f⟩:=F.ex;rw[q8o (z3q X G n)];exact f
end
end L2
namespace L2
open PySem PySem.Spec PyProof.Rows PySem.Builtin.Str
section
variable{X:Cx}
variable{v1 v2 v3 e:Expr}{t1 t2 t3 te:TE}{pos:Pos}
end
end L2
namespace L2
open PySem PySem.Spec PyProof.Rows PySem.Builtin.Str PySem.StrLaws PySem.NumText
end L2
namespace L2
open PySem PySem.Spec PyProof.Rows PySem.W Builtin
section
variable{X:Cx}
end
section
variable{prog:Program}{w:World}{A:Around}{E:xB}
end
section
variable{X:Cx}
end
end L2
namespace L2
open PySem PySem.Spec PyProof.Rows
def q2l(v:Nat->Int):Nat->Option Int
 | 0=>none
 | n+1=>match q2l v n with
  | none=>some (v n)
  | some m=>some (if v n < m then v n else m)
def optV:Option Int->V
 | none=> .non
 | some m=> .int m
def qf1:(toString "min"++toString ".loop":String)="min.loop":=by decide
def qgk(a v:Value):argsOk "min" ⟨[a],[(Str.ofString "default",v)]⟩:=by unfold argsOk;kernel_rfl
section
variable{prog:Program}{w:World}{A:Around}{R:Result->Shared->Prop}{I:Addr}{fp wr:List Addr}{n:Nat}{P:Nat->Value->Prop}{St:Nat->Heap->Prop}
def q11r(v:Nat->Int)(j:Nat)(xs:Array Value):Prop:=(q2l v j=none/\xs=#[])\/ ∃m t,q2l v j=some m/\xs=#[.int m t,.int m t]
theorem q8q(W:Walks prog w A.in1 I fp wr n P St)(v:Nat->Int)(hv:∀i x,P i x->∃t,x= .int (v i) t)(S:Addr)(a0:S∉fp)(dv:Value):∀(k j:Nat) (s:Shared) (xs:Array Value) (c:Nat),j+k=n->St j s.heap->q11r v j xs->
  s.heap.get? S=some {cls:= .type "list",data:= .seq xs c}->
  (∀t h' tk,(∀b o,b∉wr->b≠S->s.heap.get? b=some o->h'.get? b=some o)->R (.ok (.ret (match q2l v n with | none=>dv | some m=> .int m t))) {s with heap:=h',toks:=tk})->
  codeAny (model prog w) A (.builtin "min.loop" ⟨[.ref I,.none,.ref S],[(Str.ofString "default",dv)]⟩) R s
 | 0,j,s,xs,c,hk,a6,hb,hS,hR=>by
  have a5:S∉wr:=λh=>a0 (W.sub _ h);have hj:j=n:=by lia
  subst hj;refine z38 PySem.F.entry_min_loop ?_;rw[Around.under_plainId PySem.F.plain_min_loop _];refine z4e (m:=seqItems? (.ref S)) (wpAny_seqItems hS rfl ?_);refine z4e (m:=tryCatch (pyNext (.ref I)) _) (wpAny_tryCatch (W.done s _ _ a6 λh' tk O=>?_));have Z:=O S _ a5 hS;rcases hb with ⟨e,rfl⟩ | ⟨m,t,e,rfl⟩
  ·have:=hR 0 h' tk λb o D _ eb=>O b o D eb;rw[e]at this;exact z4e (z4c (z4d this))
  ·refine z4e (m:=updateSeq S λ_=>#[]) ?_;refine wpAny_updateSeq Z rfl (z4e (wpAny_letGo (z4d ?_)));rw[e]at hR;exact hR t _ tk λb o D J eb=>(z0p _ _ (Ne.symm J)).trans (O b o D eb)
 | k+1,j,s,xs,c,hk,a6,hb,hS,hR=>by
  have a5:S∉wr:=λh=>a0 (W.sub _ h);have a8:j < n:=by lia
  refine z38 PySem.F.entry_min_loop ?_;rw[Around.under_plainId PySem.F.plain_min_loop _];refine z4e (m:=seqItems? (.ref S)) (wpAny_seqItems hS rfl ?_);refine z4e (m:=tryCatch (pyNext (.ref I)) _) (wpAny_tryCatch (W.item j s _ _ a8 a6 λx h' tk hP a4 O=>?_));have Z:=O S _ a5 hS;obtain⟨tx,rfl⟩:=hv j x hP;have stay:∀(f:Obj->Obj),St (j+1) (h'.update S f):=λf=>W.frame _ _ _ a4 λb a7 o e=>(z0p _ _ (λh:S=b=>a0 (by rw[h];exact a7))).trans e;rcases hb with ⟨e,rfl⟩ | ⟨m,t,e,rfl⟩
  ·refine z4e (m:=updateSeq S λ_=>#[.int (v j) tx,.int (v j) tx]) ?_;refine wpAny_updateSeq Z rfl ?_;rw[qf1];refine z4d ⟨plainId_quiet PySem.F.plain_min_loop _,q8q W v hv S a0 dv k (j+1) _ _ _ (by lia) (stay _) (.inr ⟨v j,tx,?_,zr⟩) (z0z _ Z rfl) λt' h2 a2 a1=>?_⟩
   ·rw[q2l,e]
   ·exact hR t' h2 a2 λb o D J eb=>a1 b o D J ((z0p _ _ (Ne.symm J)).trans (O b o D eb))
  ·refine z4e (m:=tryCatch (holding [.int (v j) tx,.int (v j) tx] (richCompare .Lt (.int (v j) tx) (.int m t) >>=_)) _) (wpAny_tryCatch (z3n (z4e (richCompare_gives (op:= .Lt) (typeIs_int _ _ tx) (typeIs_int _ _ t) PySem.F.slot_int_lt PySem.F.entry_int_lt (PySem.F.args_int_lt_2 _ _) (gives_int_lt _ _ tx t) (λx=>nomatch x) ?_))));refine z4e (z3n (z24 ?_));refine z4e (wpAny_letGo (z4d ?_));by_cases hb:v j < m
   ·rw[z3b hb,if_pos rfl];refine z4e ?_;refine wpAny_updateSeq Z rfl (z4e (wpAny_letGo ?_));rw[qf1];refine z4d ⟨plainId_quiet PySem.F.plain_min_loop _,q8q W v hv S a0 dv k (j+1) _ _ _ (by lia) (stay _) (.inr ⟨v j,tx,?_,zr⟩) (z0z _ Z rfl) λt' h2 a2 a1=>?_⟩
    ·rw[q2l,e];show some (if v j < m then v j else m)=_;rw[if_pos hb]
    ·exact hR t' h2 a2 λb o D J eb=>a1 b o D J ((z0p _ _ (Ne.symm J)).trans (O b o D eb))
   ·rw[z2w hb,if_neg (by decide)];refine z4e (wpAny_letGo ?_);rw[qf1];refine z4d ⟨plainId_quiet PySem.F.plain_min_loop _,q8q W v hv S a0 dv k (j+1) _ _ _ (by lia) a4 (.inr ⟨m,t,?_,zr⟩) Z λt' h2 a2 a1=>?_⟩
    ·rw[q2l,e];show some (if v j < m then v j else m)=_;rw[if_neg hb]
    ·exact hR t' h2 a2 λb o D J eb=>a1 b o D J (O b o D eb)
end
section
variable{X:Cx}{e d:Expr}{t tk:TA}{p pos kpos:Pos}
def qy0(K:xA)(hc:X.calm=true)(hg:Gl X "min")(hm:X.mg "min"=none)(hv:bootBuiltins "min"=some (.builtin "min"))(ha:PA X [e] t)(a0:PK X [⟨some "default",d,kpos⟩] tk)(hK:X.K=K:=by rfl)
  (a1:(backTo pos (starEach [e] X.env)).any (·.1)=false:=by rfl) (he:backTo pos (starEach [e] X.env)=(false,eval e X.env)::backTo pos (starEach [] X.env):=by rfl):
  PE X (.Call (.Name "min" p) [e] [⟨some "default",d,kpos⟩] pos) (λσ H Q=>t σ H λvs H1=>tk σ H1 λws H2=>∃(l:Addr) (ns:List Int),vs=[.ref l]/\ws=[.non]/\SqL K H2 l (ns.map V.int)/\Q (optV (q2l (λi=>ns.getD i 0) ns.length)) H2):=by
 subst hK;intro xC s σ H Q I h;refine z1s (q8z I hg hm hv ?_);refine callWith_kw (thn (ha pos xC s σ H _ I h) λus s1 ⟨vs,H1,I1,r1,q1⟩=>thn (a0 pos xC s1 σ H1 _ I1 q1) λws D a2=>?_) he a1;obtain⟨zs,H2,I2,rz,q2⟩:=a2;obtain⟨l,ns,rfl,rfl,hl,q⟩:=q2;obtain⟨u,rfl,ru⟩:=q2k r1;cases ru
 obtain⟨u,rfl,ru⟩:=q2k rz;cases ru
 obtain⟨its,rv,pl,hz⟩:=I2.list hl;have hsz:its.toArray.size=ns.length:=by
  have:=rv.length;rw[z30]at this;rw[z23];exact this.symm
 have hh:X.A.in1.handled=none:=I2.ok.hd hc;have J:l < D.heap.objs.size:=by
  obtain⟨o,k,e1,_⟩:=pl;exact z3y e1
 show wpAny _ _ (call (.builtin "min") [.ref l] [(Str.ofString "default",.none)]) _ _ D;refine kmk_tree PySem.F.kind_min PySem.F.plain_min PySem.F.entry_min (qgk _ _) ?_;refine z4e (m:=Builtin.Builtins.bindParams "min" ["key","default"] 0 ⟨[],[(Str.ofString "default",.none)]⟩) (wpAny_of_eq (show _=pure [none,some Value.none] from rfl) ?_);refine z4e (z4d ?_);refine z4e (z25 pl.isList ?_);refine z4e (wpAny_newList ?_ (z4a _));rw[qf1];have keep:∀b o,D.heap.get? b=some o->((D.heap.push {cls:= .type "list_iterator",data:= .fields #[.ref l,.int 0 0]}).push {cls:= .type "list",data:= .seq #[]}).get? b=some o:=λb o e=>z0o _ (z0o _ e);have O:(D.heap.push {cls:= .type "list_iterator",data:= .fields #[.ref l,.int 0 0]}).objs.size=D.heap.objs.size+1:=Array.size_push _;refine z4d ⟨plainId_quiet PySem.F.plain_min_loop _,q8q (n:=ns.length) (A:=X.A) (hsz ▸ Walks.list hh D.heap.objs.size l (z3z J) its.toArray) (λi=>ns.getD i 0) ?_ (D.heap.push {cls:= .type "list_iterator",data:= .fields #[.ref l,.int 0 0]}).objs.size ?_ .none ns.length 0 _ #[] 0 (z3w _) ⟨⟨_,z0o _ (z1c _ rfl),zr,zr⟩,pl.isList.at (keep l)⟩ (.inl ⟨zr,zr⟩) (z1c _ rfl) λt' h' tk' hk=>?_⟩
 ·intro i v hv;have Z:its[i]? =some v:=by simpa using hv
  have hi:i < ns.length:=by
   rw[<- hsz,z23];exact(z07.mp Z).1
  have e:(ns.map V.int)[i]? =some (V.int ns[i]):=by rw[z22,z0d hi];rfl
  obtain⟨u,hu,ru⟩:=rv.get e;rw[Z]at hu;cases hu
  obtain⟨t,rfl⟩:=ru;exact⟨t,by show _=Value.int (ns.getD i 0) t;rw[q7g hi]⟩
 ·rw[O];intro hb;simp only[z3m,z2r,or_false]at hb;rcases hb with h | h
  ·exact absurd h (Nat.succ_ne_self _)
  ·exact absurd J (by rw[<- h];exact Nat.not_lt_of_le (Nat.le_succ _))
 ·refine⟨optV (q2l (λi=>ns.getD i 0) ns.length),H2,I2.kept λb o e=>hk b o ?_ ?_ (keep b o e),?_,q⟩
  ·simp
   exact z3z (z3y e)
  ·rw[O];exact z3z (z2e (z3y e))
  ·cases q2l (λi=>ns.getD i 0) ns.length with
   | none=>rfl
   | some m=>exact⟨_,rfl⟩
end
theorem qln(v:Nat->Int):∀n:Nat,q2l v (n+1)=some (v (argBest (λi j=>decide (v i < v j)) n))
 | 0=>rfl
 | n+1=>by
  rw[q2l,qln v n];show some (if v (n+1) < _ then _ else _)=some (v (if decide (v (n+1) < v (argBest _ n))=true then _ else _));by_cases h:v (n+1) < v (argBest (λi j=>decide (v i < v j)) n)
  ·rw[if_pos h,if_pos (z3b h)]
  ·rw[if_neg h,if_neg (by simpa using h)]
section
variable{X:Cx}
def qs4(hc:X.calm=true)(K:xA)(hK:X.K=K:=by rfl):q2b X (.builtin "min") (λxs H Q=>∃(l:Addr) (ns:List Int) (m:Int),xs=[.ref l]/\SqL K H l (ns.map V.int)/\q2l (λi=>ns.getD i 0) ns.length=some m/\Q (.int m) H):=by
 subst hK;intro xC s σ H xs us Q I r h;obtain⟨l,ns,m,rfl,hl,Z,q⟩:=h;obtain⟨u,rfl,ru⟩:=q2k r;cases ru
 obtain⟨its,rv,pl,hz⟩:=I.list hl;have hsz:its.toArray.size=ns.length:=by
  have:=rv.length;rw[z30]at this;rw[z23];exact this.symm
 have hh:X.A.in1.handled=none:=I.ok.hd hc;have J:l < s.heap.objs.size:=by
  obtain⟨o,k,e1,_⟩:=pl;exact z3y e1
 have hn:0 < ns.length:=Nat.pos_of_ne_zero λz=>by rw[z]at Z;cases Z
 have D:∀(i:Nat) (v:Value),its.toArray[i]? =some v->∃t,v= .int (ns.getD i 0) t:=λi v hv=>by
  have O:its[i]? =some v:=by simpa using hv
  have hi:i < ns.length:=by
   rw[<- hsz,z23];exact(z07.mp O).1
  have e:(ns.map V.int)[i]? =some (V.int ns[i]):=by rw[z22,z0d hi];rfl
  obtain⟨u,hu,ru⟩:=rv.get e;rw[O]at hu;cases hu
  obtain⟨t,rfl⟩:=ru;exact⟨t,by rw[q7g hi]⟩
 refine call_min_walk (z25 pl.isList ?_);refine⟨s.heap.objs.size,_,_,ns.length,_,_,λi j=>decide (ns.getD i 0 < ns.getD j 0),rfl,hsz ▸ Walks.list hh s.heap.objs.size l (z3z J) its.toArray,⟨⟨_,z1c _ rfl,rfl,rfl⟩,pl.isList.at λo e=>z0o _ e⟩,?_,hn,λi j vi vj s' Q' E' hi hj hQ=>?_,λv h' tk hP hk=>?_⟩
 ·intro b hb;rw[show (s.heap.push {cls:= .type "list_iterator",data:= .fields #[.ref l,.int 0 0]}).objs.size=s.heap.objs.size+1 from Array.size_push _];simp only[z3m,z2r,or_false]at hb;rcases hb with rfl | rfl
  ·exact z2l _
  ·exact z2e J
 ·obtain⟨ti,rfl⟩:=D i vi hi;obtain⟨tj,rfl⟩:=D j vj hj;exact richCompare_gives (op:= .Lt) (typeIs_int _ _ ti) (typeIs_int _ _ tj) PySem.F.slot_int_lt PySem.F.entry_int_lt (PySem.F.args_int_lt_2 _ _) (gives_int_lt _ _ _ _) (λx=>nomatch x) hQ
 ·obtain⟨t,rfl⟩:=D _ v hP;obtain⟨n,en⟩:∃n,ns.length=n+1:=⟨ns.length - 1,by lia⟩;rw[en,qln]at Z;rw[en];cases Z
  refine⟨.int _,H,I.kept λb o e=>hk b o ?_ (z0o _ e),⟨_,zr⟩,q⟩;simp
  exact z3z (z3y e)
end
end L2
namespace L2
open PySem PySem.Spec PyProof.Rows PySem.W
namespace Tab
end Tab
end L2
namespace L2
open PySem PySem.Spec PyProof.Rows PySem.W
namespace Tab
end Tab
end L2
namespace L2
open PySem PySem.Spec PyProof.Rows PySem.W
section
variable{P:Program}{w:World}{A:Around}{E:xB}{s:Shared}
end
section
variable{prog:Program}{w:World}{A:Around}{R:Result->Shared->Prop}{I:Addr}{fp wr:List Addr}{G:Array GenState->Array GenState->Prop}{n:Nat}{P:Nat->Value->Prop}{St:Nat->Shared->Prop}
end
section
variable{prog:Program}{w:World}{A:Around}{E:xB}{s:Shared}
end
section
variable{prog:Program}{w:World}{A:Around}{E:xB}{s:Shared}{a:Addr}{xs:List (Addr×List Str)}
end
section
variable{X:Cx}{xC:xG}{σ:St}{H:Hp}{s:Shared}
end
section
variable{X:Cx}{xC:xG}{σ:St}{H:Hp}{s:Shared}
end
end L2
namespace L2
open PySem PySem.Spec PyProof.Rows PySem.Builtin.Str PySem.StrLaws PySem.NumText
def qwg{S G:Prop}(main:S->G)(pf:S):G:=main pf
end L2
namespace Tim
open PySem PyProof.Rows
section
variable{M:Model}{A:Around}{E:xB}{s:Shared}{kd:SortKind}{S:Keyed->Prop}{rk:Keyed->Int}{n:Nat}
end
section
variable{prog:Program}{w:World}{A:Around}{E:xB}{s:Shared}
end
end Tim
namespace L2
open PySem PySem.Spec PyProof.Rows PySem.W
section
variable{prog:Program}{w:World}{A:Around}{E:xB}{s:Shared}{a:Addr}
end
section
variable{X:Cx}{xC:xG}{σ:St}{H:Hp}{s:Shared}
end
section
variable{prog:Program}{w:World}{A:Around}{E:xB}{s:Shared}{I:Addr}{fp:List Addr}{n:Nat}{P:Nat->Value->Prop}{St:Nat->Heap->Prop}{T:String}
end
section
variable{X:Cx}{e:Expr}{te:TE}{p1 p2 q1 q2:Pos}
end
section
variable{prog:Program}{w:World}{A:Around}{E:xB}{s:Shared}
end
section
variable{prog:Program}{w:World}{A:Around}{E:xB}{s:Shared}{I:Addr}{fp:List Addr}{n:Nat}{P:Nat->Value->Prop}{St:Nat->Heap->Prop}{T:String}
end
section
variable{X:Cx}{e:Expr}{te:TE}{p1 p2 q1 q2:Pos}
end
end L2
namespace L2
open PySem PySem.Spec PyProof.Rows
section
variable{X:Cx}{xC:xG}{σ:St}{H:Hp}{s:Shared}{a b:Addr}{kvs more:List (Key×V)}{A:Around}{E:xB}
end
section
variable{X:Cx}{o e:Expr}{apos cpos:Pos}{td ty:TE}
end
section
variable{X:Cx}
end
section
variable{P:Program}{w:World}
end
section
variable{P:Program}{w:World}{H:Hp}{h:Heap}{a:Addr}
end
section
variable{X:Cx}{xC:xG}{σ:St}{H:Hp}{s:Shared}{a b:Addr}{v d:V}{r:Value}{A:Around}{E:xB}{kvs:List (NK×V)}{k:NK}
end
section
variable{X:Cx}{P:Program}{w:World}{o i e f value:Expr}{pos pos' tpos apos cpos:Pos}{td ty tv tx:TE}
end
end L2
namespace L2
open PySem PySem.Spec PyProof.Rows PySem.W
section
variable{prog:Program}{w:World}{A:Around}{E:xB}{s:Shared}
end
section
variable{X:Cx}{P:Program}{w:World}{k k':Nat}{x p1:Str}{sp:Sp}{e:Expr}{t:TA}{p pos kpos xp:Pos}
end
end L2
namespace L2
open PySem PySem.Spec PyProof.Rows
section
variable{X:Cx}
end
section
variable{X:Cx}
end
section
variable{X:Cx}
end
section
variable{X:Cx}
end
end L2
set_option maxHeartbeats 4000000
namespace Wy
open PySem L2
def top(i:Nat):Stmt:=PySem.Challenge.pw_whyrows_k30_reckoned.main.body.getD i (.Pass ⟨0,0,0,0⟩)
abbrev q9v:Stmt:=top 7
abbrev q47:Stmt:=top 8
abbrev qbb:Stmt:=top 9
abbrev q9w:Stmt:=top 11
abbrev q7t:Stmt:=top 13
abbrev q48:Stmt:=top 14
abbrev q9x:Stmt:=top 15
abbrev q40:Stmt:=top 18
abbrev q8u:Stmt:=top 19
abbrev q9y:Stmt:=top 20
abbrev q6s:Stmt:=top 21
abbrev q4y:Stmt:=top 22
abbrev q60:Stmt:=top 23
abbrev qbc:Stmt:=top 24
abbrev qdm:Stmt:=top 25
abbrev q5g:Stmt:=q15 (top 27) 0
abbrev q6t:Stmt:=q15 (top 28) 0
abbrev q5h:Stmt:=q15 (top 28) 1
abbrev q6u:Stmt:=q15 (top 28) 2
abbrev q5i:Stmt:=q15 (top 28) 3
abbrev q6v:Stmt:=q15 (top 28) 4
abbrev q4o:Stmt:=q15 (top 28) 5
abbrev q7u:Stmt:=q15 (top 29) 0
abbrev q61:Stmt:=q15 (top 29) 1
abbrev q7v:Stmt:=q15 (top 29) 2
abbrev q62:Stmt:=q15 (top 29) 3
abbrev q7w:Stmt:=q15 (top 29) 4
abbrev q4z:Stmt:=q15 (top 27) 0
abbrev q49:Stmt:=q15 (top 30) 0
abbrev q4a:Stmt:=q15 (top 30) 1
abbrev q7x:Stmt:=q15 (top 30) 2
abbrev q63:Stmt:=q15 (top 30) 3
abbrev q7y:Stmt:=q15 (top 30) 4
abbrev q64:Stmt:=q15 (top 30) 5
abbrev q7z:Stmt:=q15 (top 30) 6
abbrev q50:Stmt:=q15 (top 30) 7
abbrev q3v:Stmt:=q15 (top 31) 0
abbrev q6w:Stmt:=q15 (top 31) 1
abbrev q5j:Stmt:=q15 (top 31) 2
abbrev q6x:Stmt:=q15 (top 31) 3
abbrev q5k:Stmt:=q15 (top 31) 4
abbrev q6y:Stmt:=q15 (top 31) 5
abbrev q4p:Stmt:=q15 (top 27) 0
abbrev q6z:Stmt:=q15 (top 32) 0
abbrev q5l:Stmt:=q15 (top 32) 1
abbrev q70:Stmt:=q15 (top 32) 2
abbrev q5m:Stmt:=q15 (top 32) 3
abbrev q71:Stmt:=q15 (top 32) 4
abbrev q4q:Stmt:=q15 (top 27) 0
abbrev q80:Stmt:=q15 (top 33) 0
abbrev q65:Stmt:=q15 (top 33) 1
abbrev q81:Stmt:=q15 (top 33) 2
abbrev q66:Stmt:=q15 (top 33) 3
abbrev q82:Stmt:=q15 (top 33) 4
abbrev q51:Stmt:=q15 (top 27) 0
abbrev q67:Stmt:=top 35
abbrev q72:Stmt:=top 36
abbrev q8v:Stmt:=top 37
abbrev q83:Stmt:=top 38
abbrev q9z:Stmt:=top 39
abbrev q73:Stmt:=top 40
abbrev q74:Stmt:=top 41
abbrev qbd:Stmt:=top 42
abbrev q75:Stmt:=top 43
abbrev q84:Stmt:=top 44
abbrev q4b:Stmt:=top 45
abbrev q85:Stmt:=top 46
abbrev q68:Stmt:=top 47
abbrev q8w:Stmt:=top 48
abbrev q52:Stmt:=top 49
abbrev qa0:Stmt:=top 50
abbrev qpr:Stmt:=top 51
local macro_rules | `(tactic| k_updF)=>`(tactic| exact⟨rfl,rfl,rfl,by decide+kernel,rfl,by decide+kernel,by decide+kernel⟩)
def qnf:FnScope ["thing"] ["thing"] (qd q9v):=by k_updF
def qam:FnScope ["thing","first_signs"] ["thing","first_signs"] (qd q47):=by k_updF
def qps:FnScope ["thing"] ["thing"] (qd qbb):=by k_updF
def q4s:FnScope ["why","found","product","ways","name"] ["why"] (qd q9w):=by k_updF
def qah:FnScope ["names","by","worths","name"] ["names","by","worths"] (qd q7t):=by k_updF
def q34:FnScope ["product","by","worths","worth","name"] ["product","by","worths"] (qd q48):=by k_updF
def q4t:FnScope ["why","by","worths","worth","product","ways"] ["why","by","worths"] (qd q9x):=by k_updF
def qa1:FnScope ["thing"] ["thing"] (qd q40):=by k_updF
def qlo:FnScope ["thing"] ["thing"] (qd q8u):=by k_updF
def q6h:FnScope ["tree","words","node","word"] ["tree","words"] (qd q9y):=by k_updF
def qgl:FnScope ["node","members"] ["node","members"] (qd q6s):=by k_updF
def q3g:FnScope ["tree","words","members","nodes","node"] ["tree","words"] (qd q4y):=by k_updF
def q3a:FnScope ["sets","once","words","by_size"] ["sets"] (qd q60):=by k_updF
def q3q:FnScope ["sets","by_size","smaller","kept","size","least_here","words"] ["sets"] (qd qbc):=by k_updF
def qbe:FnScope ["one","other","together","words"] ["one","other"] (qd qdm):=by k_updF
def qgm:FnScope ["self","thing"] ["self","thing"] (qd q6t):=by k_updF
def qdn:FnScope ["self"] ["self"] (qd q5h):=by k_updF
def qgn:FnScope ["self"] ["self"] (qd q6u):=by k_updF
def qdo:FnScope ["self","one","other"] ["self","one","other"] (qd q5i):=by k_updF
def qgo:FnScope ["self","one","other"] ["self","one","other"] (qd q6v):=by k_updF
def qbf:FnScope ["self","worth","many"] ["self","worth","many"] (qd q4o):=by k_updF
def qj2:FnScope ["self","thing"] ["self","thing"] (qd q7u):=by k_updF
def qf2:FnScope ["self"] ["self"] (qd q61):=by k_updF
def qj3:FnScope ["self"] ["self"] (qd q7v):=by k_updF
def qf3:FnScope ["self","one","other"] ["self","one","other"] (qd q62):=by k_updF
def qj4:FnScope ["self","one","other"] ["self","one","other"] (qd q7w):=by k_updF
def qch:FnScope ["self","worth","many"] ["self","worth","many"] (qd q4z):=by k_updF
def qj5:FnScope ["self","many"] ["self","many"] (qd q49):=by k_updF
def qan:FnScope ["self","numbers"] ["self","numbers"] (qd q4a):=by k_updF
def qj6:FnScope ["self","thing"] ["self","thing"] (qd q7x):=by k_updF
def qf4:FnScope ["self"] ["self"] (qd q63):=by k_updF
def qj7:FnScope ["self"] ["self"] (qd q7y):=by k_updF
def qf5:FnScope ["self","one","other"] ["self","one","other"] (qd q64):=by k_updF
def q76:FnScope ["self","one","other","sums","number"] ["self","one","other"] (qd q7z):=by k_updF
def qci:FnScope ["self","worth","many"] ["self","worth","many"] (qd q50):=by k_updF
def qgp:FnScope ["self","top"] ["self","top"] (qd q3v):=by k_updF
def qgq:FnScope ["self","thing"] ["self","thing"] (qd q6w):=by k_updF
def qdp:FnScope ["self"] ["self"] (qd q5j):=by k_updF
def qgr:FnScope ["self"] ["self"] (qd q6x):=by k_updF
def qdq:FnScope ["self","one","other"] ["self","one","other"] (qd q5k):=by k_updF
def qgs:FnScope ["self","one","other"] ["self","one","other"] (qd q6y):=by k_updF
def qbg:FnScope ["self","worth","many"] ["self","worth","many"] (qd q4p):=by k_updF
def qgt:FnScope ["self","thing"] ["self","thing"] (qd q6z):=by k_updF
def qdr:FnScope ["self"] ["self"] (qd q5l):=by k_updF
def qgu:FnScope ["self"] ["self"] (qd q70):=by k_updF
def qds:FnScope ["self","one","other"] ["self","one","other"] (qd q5m):=by k_updF
def qgv:FnScope ["self","one","other"] ["self","one","other"] (qd q71):=by k_updF
def qbh:FnScope ["self","worth","many"] ["self","worth","many"] (qd q4q):=by k_updF
def qj8:FnScope ["self","thing"] ["self","thing"] (qd q80):=by k_updF
def qf6:FnScope ["self"] ["self"] (qd q65):=by k_updF
def qj9:FnScope ["self"] ["self"] (qd q81):=by k_updF
def qf7:FnScope ["self","one","other"] ["self","one","other"] (qd q66):=by k_updF
def qja:FnScope ["self","one","other"] ["self","one","other"] (qd q82):=by k_updF
def qcj:FnScope ["self","worth","many"] ["self","worth","many"] (qd q51):=by k_updF
def qf8:FnScope ["_law_script","_law_k"] ["_law_script","_law_k"] (qd q67):=by k_updF
def q1v:FnScope ["_law_cell","_law_many","_law_number_here","_law_found","_law_k"] ["_law_cell","_law_many"] (qd q72):=by k_updF
def q3h:FnScope ["_law_cell","_law_size","_law_signs","_law_found","_law_number_here"] ["_law_cell","_law_size"] (qd q8v):=by k_updF
def q1s:FnScope ["_law_cell","_law_many","_law_signs","_law_way","_law_base","_law_size","_law_at","_law_found","_law_k","_law_word_here","_law_sign"] ["_law_cell","_law_many"] (qd q83):=by k_updF
def q2x:FnScope ["_law_cells","_law_words_here","_law_most","_law_ways","_law_cell","_law_row","_law_size","_law_product","_law_many"] ["_law_cells","_law_words_here","_law_most"] (qd q9z):=by k_updF
def q99:FnScope ["_law_one","_law_other","_law_word_here"] ["_law_one","_law_other"] (qd q73):=by k_updF
def q2f:FnScope ["_law_cells","_law_words_here","_law_most","_law_kept","_law_cell","_law_row","_law_some","_law_one"] ["_law_cells","_law_words_here","_law_most"] (qd q74):=by k_updF
def qpt:FnScope ["_law_kind","_law_many","_law_top"] ["_law_kind","_law_many","_law_top"] (qd qbd):=by k_updF
def q9a:FnScope ["_law_cell","_law_way"] ["_law_cell"] (qd q75):=by k_updF
def q4v:FnScope ["_law_kind","_law_cell","_law_words_here","_law_many","_law_top","_law_way","_law_number_here","_law_great"] ["_law_kind","_law_cell","_law_words_here","_law_many","_law_top"] (qd q84):=by k_updF
def q41:FnScope ["_law_kind","_law_cells","_law_words_here","_law_many","_law_top","_law_found","_law_k"] ["_law_kind","_law_cells","_law_words_here","_law_many","_law_top"] (qd q4b):=by k_updF
def qjb:FnScope ["_law_found","_law_due_here"] ["_law_found","_law_due_here"] (qd q85):=by k_updF
def q1y:FnScope ["_law_kind","_law_product","_law_worths","_law_rows","_law_name","_law_some","_law_longer","_law_row"] ["_law_kind","_law_product","_law_worths"] (qd q68):=by k_updF
def q5n:FnScope ["_law_sets","_law_kept","_law_one"] ["_law_sets"] (qd q8w):=by k_updF
def q2a:FnScope ["_law_kind","_law_row","_law_top","_law_found","_law_number_here","_law_together","_law_some"] ["_law_kind","_law_row","_law_top"] (qd q52):=by k_updF
def q3y:FnScope ["_law_kind","_law_why_here","_law_worths","_law_many","_law_top","_law_found","_law_product","_law_ways","_law_row","_law_one"] ["_law_kind","_law_why_here","_law_worths","_law_many","_law_top"] (qd qa0):=by k_updF
def q32:FnScope ["_law_script","_law_way","_law_kind","_law_many","_law_top","_law_words_here","_law_cells","_law_why_here","_law_worths","_law_kept","_law_handed","_law_by_here","_law_due_here","_law_found"] ["_law_script"] (qd qpr):=by k_updF
structure Txt (K:xA) (mg:xE):Prop where
 b_abs:mg "abs"=none
 b_all:mg "all"=none
 b_any:mg "any"=none
 qfy:mg "bool"=none
 q112:mg "dict"=none
 b_int:mg "int"=none
 q1t:mg "isinstance"=none
 b_len:mg "len"=none
 q8e:mg "list"=none
 b_max:mg "max"=none
 b_min:mg "min"=none
 q7k:mg "range"=none
 b_set:mg "set"=none
 q2h:mg "sorted"=none
 b_str:mg "str"=none
 b_sum:mg "sum"=none
 q9h:mg "tuple"=none
 qg2:∃t,mg "SMALL_LETTERS"=some (.str "abcdefghijklmnopqrstuvwxyz" t)
 qg0:∃t,mg "FURTHER_SIGNS"=some (.str "abcdefghijklmnopqrstuvwxyz0123456789" t)
 qmp:∃t,mg "MOST_SIGNS"=some (.int 12 t)
 c_END:∃t,mg "END"=some (.str "" t)
 qqh:Top K mg "is_whole" q9v ["thing"]
 qbx:Top K mg "is_text_begun_by" q47 ["thing","first_signs"]
 qtf:Top K mg "is_word" qbb ["thing"]
 qqj:Top K mg "names_of" q9w ["why"]
 qml:Top K mg "ask_worths" q7t ["names","by","worths"]
 qby:Top K mg "product_reckoned" q48 ["product","by","worths"]
 qqi:Top K mg "reckoned" q9x ["why","by","worths"]
 qaq:Top K mg "is_tuple_of_words" q40 ["thing"]
 qnm:Top K mg "is_accord" q8u ["thing"]
 qqg:Top K mg "put_into" q9y ["tree","words"]
 qjw:Top K mg "kids_within" q6s ["node","members"]
 qec:Top K mg "has_one_within" q4y ["tree","words"]
 qhn:Top K mg "once_by_size" q60 ["sets"]
 qtj:Top K mg "thinned" qbc ["sets"]
 qw0:Top K mg "agreed" qdm ["one","other"]
 qhm:Top K mg "_law_cell_at" q67 ["_law_script","_law_k"]
 qal:Top K mg "_law_stream" q72 ["_law_cell","_law_many"]
 qno:Top K mg "_law_word" q8v ["_law_cell","_law_size"]
 qmn:Top K mg "_law_words" q83 ["_law_cell","_law_many"]
 qqf:Top K mg "_law_why" q9z ["_law_cells","_law_words_here","_law_most"]
 qjn:Top K mg "_law_within" q73 ["_law_one","_law_other"]
 qjt:Top K mg "_law_accord" q74 ["_law_cells","_law_words_here","_law_most"]
 qtd:Top K mg "_law_by" qbd ["_law_kind","_law_many","_law_top"]
 qjz:Top K mg "_law_number" q75 ["_law_cell"]
 qmu:Top K mg "_law_worth" q84 ["_law_kind","_law_cell","_law_words_here","_law_many","_law_top"]
 qc0:Top K mg "_law_many_worths" q4b ["_law_kind","_law_cells","_law_words_here","_law_many","_law_top"]
 qmr:Top K mg "_law_alike" q85 ["_law_found","_law_due_here"]
 qhr:Top K mg "_law_choices" q68 ["_law_kind","_law_product","_law_worths"]
 qnn:Top K mg "_law_thin" q8w ["_law_sets"]
 qef:Top K mg "_law_one_worth" q52 ["_law_kind","_law_row","_law_top"]
 qqe:Top K mg "_law_due" qa0 ["_law_kind","_law_why_here","_law_worths","_law_many","_law_top"]
 t_law:Top K mg "law" qpr ["_law_script"]
 q113:mg "Reckoning"=some (.ref (cA mg "Reckoning"))
 q111:Cls K (cA mg "Reckoning")
 q10y:PySem.W.makesIn K (cA mg "Reckoning")=true
 q110:PySem.W.keepIn K (.ref (cA mg "Reckoning"))=true
 q10z:PySem.W.findIn K (.ref (cA mg "Reckoning")) "__init__"=some (some (.builtin "object.__init__"))
 qth:NoAttr K (cA mg "Reckoning") "either"
 qtk:NoAttr K (cA mg "Reckoning") "nought"
 qqk:MTop K (cA mg "Reckoning") "repeated" "Reckoning.repeated" q5g ["self","worth","many"]
 qvv:mg "Counts"=some (.ref (cA mg "Counts"))
 qtc:Cls K (cA mg "Counts")
 qte:PySem.W.makesIn K (cA mg "Counts")=true
 qtb:PySem.W.keepIn K (.ref (cA mg "Counts"))=true
 qtg:PySem.W.findIn K (.ref (cA mg "Counts")) "__init__"=some (some (.builtin "object.__init__"))
 qjv:MTop K (cA mg "Counts") "fits" "Counts.fits" q6t ["self","thing"]
 qfw:MTop K (cA mg "Counts") "nought" "Counts.nought" q5h ["self"]
 qk0:MTop K (cA mg "Counts") "unit" "Counts.unit" q6u ["self"]
 qg4:MTop K (cA mg "Counts") "either" "Counts.either" q5i ["self","one","other"]
 qjr:MTop K (cA mg "Counts") "both" "Counts.both" q6v ["self","one","other"]
 qcr:MTop K (cA mg "Counts") "repeated" "Counts.repeated" q4o ["self","worth","many"]
 qyz:mg "Costs"=some (.ref (cA mg "Costs"))
 qvw:Cls K (cA mg "Costs")
 qvs:PySem.W.makesIn K (cA mg "Costs")=true
 qvy:PySem.W.keepIn K (.ref (cA mg "Costs"))=true
 qvz:PySem.W.findIn K (.ref (cA mg "Costs")) "__init__"=some (some (.builtin "object.__init__"))
 qmz:MTop K (cA mg "Costs") "fits" "Costs.fits" q7u ["self","thing"]
 qhq:MTop K (cA mg "Costs") "nought" "Costs.nought" q61 ["self"]
 qmq:MTop K (cA mg "Costs") "unit" "Costs.unit" q7v ["self"]
 qhs:MTop K (cA mg "Costs") "either" "Costs.either" q62 ["self","one","other"]
 qmt:MTop K (cA mg "Costs") "both" "Costs.both" q7w ["self","one","other"]
 qed:MTop K (cA mg "Costs") "repeated" "Reckoning.repeated" q4z ["self","worth","many"]
 qox:mg "Bests"=some (.ref (cA mg "Bests"))
 q4i:Cls K (cA mg "Bests")
 qmv:PySem.W.makesIn K (cA mg "Bests")=true
 qmw:PySem.W.keepIn K (.ref (cA mg "Bests"))=true
 q5r:NoAttr K (cA mg "Bests") "most"
 qn0:ITop K (cA mg "Bests") "Bests.__init__" "many" q49 (.int 3)
 qbz:MTop K (cA mg "Bests") "least_ones" "Bests.least_ones" q4a ["self","numbers"]
 qmk:MTop K (cA mg "Bests") "fits" "Bests.fits" q7x ["self","thing"]
 qho:MTop K (cA mg "Bests") "nought" "Bests.nought" q63 ["self"]
 qmy:MTop K (cA mg "Bests") "unit" "Bests.unit" q7y ["self"]
 qhl:MTop K (cA mg "Bests") "either" "Bests.either" q64 ["self","one","other"]
 qmm:MTop K (cA mg "Bests") "both" "Bests.both" q7z ["self","one","other"]
 qeg:MTop K (cA mg "Bests") "repeated" "Bests.repeated" q50 ["self","worth","many"]
 qms:mg "Trusts"=some (.ref (cA mg "Trusts"))
 q8s:Cls K (cA mg "Trusts")
 qit:PySem.W.makesIn K (cA mg "Trusts")=true
 qis:PySem.W.keepIn K (.ref (cA mg "Trusts"))=true
 q8f:NoAttr K (cA mg "Trusts") "top"
 qjy:ITop K (cA mg "Trusts") "Trusts.__init__" "top" q3v (.int 100)
 qju:MTop K (cA mg "Trusts") "fits" "Trusts.fits" q6w ["self","thing"]
 qfz:MTop K (cA mg "Trusts") "nought" "Trusts.nought" q5j ["self"]
 qjx:MTop K (cA mg "Trusts") "unit" "Trusts.unit" q6x ["self"]
 qg3:MTop K (cA mg "Trusts") "either" "Trusts.either" q5k ["self","one","other"]
 qjs:MTop K (cA mg "Trusts") "both" "Trusts.both" q6y ["self","one","other"]
 qcq:MTop K (cA mg "Trusts") "repeated" "Reckoning.repeated" q4p ["self","worth","many"]
 qvu:mg "Truths"=some (.ref (cA mg "Truths"))
 qta:Cls K (cA mg "Truths")
 qtl:PySem.W.makesIn K (cA mg "Truths")=true
 qti:PySem.W.keepIn K (.ref (cA mg "Truths"))=true
 qt9:PySem.W.findIn K (.ref (cA mg "Truths")) "__init__"=some (some (.builtin "object.__init__"))
 qjq:MTop K (cA mg "Truths") "fits" "Truths.fits" q6z ["self","thing"]
 qg1:MTop K (cA mg "Truths") "nought" "Truths.nought" q5l ["self"]
 qjp:MTop K (cA mg "Truths") "unit" "Truths.unit" q70 ["self"]
 qfx:MTop K (cA mg "Truths") "either" "Truths.either" q5m ["self","one","other"]
 qjo:MTop K (cA mg "Truths") "both" "Truths.both" q71 ["self","one","other"]
 qcp:MTop K (cA mg "Truths") "repeated" "Reckoning.repeated" q4q ["self","worth","many"]
 qyy:mg "Hands"=some (.ref (cA mg "Hands"))
 qvr:Cls K (cA mg "Hands")
 qvx:PySem.W.makesIn K (cA mg "Hands")=true
 qvq:PySem.W.keepIn K (.ref (cA mg "Hands"))=true
 qvt:PySem.W.findIn K (.ref (cA mg "Hands")) "__init__"=some (some (.builtin "object.__init__"))
 qmx:MTop K (cA mg "Hands") "fits" "Hands.fits" q80 ["self","thing"]
 qhp:MTop K (cA mg "Hands") "nought" "Hands.nought" q65 ["self"]
 qmj:MTop K (cA mg "Hands") "unit" "Hands.unit" q81 ["self"]
 qht:MTop K (cA mg "Hands") "either" "Hands.either" q66 ["self","one","other"]
 qmo:MTop K (cA mg "Hands") "both" "Hands.both" q82 ["self","one","other"]
 qee:MTop K (cA mg "Hands") "repeated" "Reckoning.repeated" q51 ["self","worth","many"]
def qk{b:Bool}{A B:Prop}(e:b=false)(h:B):if b=true then A else B:=by
 subst e;exact iteF h
def q1d{b:Bool}{A B:Prop}(e:b=true)(h:A):if b=true then A else B:=by
 subst e;exact iteT h
def q3r(z:Str):z.cps.toList.length=z.length:=by simp[Str.length]
def qdt(a b:Str):(a++b).cps.toList=a.cps.toList++b.cps.toList:=by
 show (a.cps++b.cps).toList=_;rw[z1a]
def q3z(a b:Str):(a++b).length=a.length+b.length:=by
 show (a.cps++b.cps).size=a.cps.size+b.cps.size;exact Array.size_append
def quh{z:Str}(h:∀c∈z.cps.toList,c < 0x110000):PyData.strOk z=true:=by
 unfold PyData.strOk;rw[<- Array.all_toList,z2n];exact λc hc=>z3b (h c hc)
def qy1{z:Str}{lo hi:Option Int}{c:Nat}(h:c∈(cutS z lo hi).cps.toList):c∈z.cps.toList:=by
 unfold cutS at h;rw[z1g]at h;exact z14 (z15 h)
theorem qa2{K:xA}{H:Hp}:∀{ds:List PyData} {xs:List V} {i:Nat} {x:V},Dats K H ds xs->xs[i]? =some x->∃d,ds[i]? =some d/\Dat K H d x
 | _,_,i,x,.nil,h=>by simp at h
 | _,_,0,x,.cons a b,h=>by
  simp at h
  subst h;exact⟨_,zr,a⟩
 | _,_,i+1,x,.cons a b,h=>by
  obtain⟨d,e,r⟩:=qa2 (i:=i) (x:=x) b (by simpa using h);exact⟨d,by simpa using e,r⟩
theorem qa3{K:xA}{H:Hp}:∀{ds:List PyData} {xs:List V},Dats K H ds xs->ds.length=xs.length
 | _,_,.nil=>rfl
 | _,_,.cons a b=>by rw[z2i,z2i,qa3 b]
def KeepT(H H':Hp):Prop:=∀b ys,H b=some (.tup ys)->H' b=some (.tup ys)
def Same.keepT{H H':Hp}(s:Same H H'):KeepT H H':=λb ys e=>s b _ e
def KeepT.trans{H H1 H2:Hp}(a:KeepT H H1)(b:KeepT H1 H2):KeepT H H2:=λc ys e=>b c ys (a c ys e)
theorem KeepT.upd{H H':Hp}{d:Addr}{xs ys:List V}(k:KeepT H H')(e:H' d=some (.lst xs)):KeepT H (upd H' d (.lst ys)):=λb zs D=>by
 rw[qi (λz=>by rw[z]at D;have:=k _ _ D;rw[e]at this;cases this)];exact k b zs D
abbrev Tab:=List (List Str×Int)
def encI(W:Tab):List (List Str×V):=W.map λkv=>(kv.1,V.int kv.2)
def encD(W:Tab):HO:= .dT ((encI W).map λkv=>(kv.1.map Sum.inr,kv.2))
def getA(W:Tab)(k:xD):Option Int:=(W.find? λkv=>decide (kv.1=k)).map (·.2)
def putA(W:Tab)(k:xD)(v:Int):Tab:=if (W.any λkv=>decide (kv.1=k))=true then W.map (λkv=>if kv.1=k then (kv.1,v) else kv) else W++ [(k,v)]
def addA(W:Tab)(k:xD)(v:Int):Tab:=putA W k ((getA W k).getD 0+v)
def qc8{a b:xD}:a.map (Sum.inr:Str->Key)=b.map Sum.inr↔a=b:=by
 constructor
 ·intro h;exact List.map_inj_right (λx y e=>Sum.inr.inj e) |>.mp h
 ·intro h;rw[h]
def qy2(a b:xD):decide (a.map (Sum.inr:Str->Key)=b.map Sum.inr)=decide (a=b):=decide_eq_decide.mpr qc8
def qlp(W:Tab)(k:xD):valV ((encI W).map λD=>(D.1.map (Sum.inr:Str->Key),D.2)) (k.map Sum.inr)=(getA W k).map V.int:=by
 unfold valV getA encI
 induction W with
 | nil=>rfl
 | cons p W ih=>
  rw[z3k,z3k];by_cases e:p.1=k
  ·rw[z0s (by rw[e];simp),z0s (by simpa using e)];rfl
  ·rw[z0t (by simpa using λq=>e (qc8.mp q)),z0t (by simpa using e)];exact ih
def qui(W:Tab)(k:xD)(v:Int):putK ((encI W).map λD=>(D.1.map (Sum.inr:Str->Key),D.2)) (k.map Sum.inr) (V.int v)=(encI (putA W k v)).map λD=>(D.1.map Sum.inr,D.2):=by
 unfold putK putA encI;have e1:((List.map (λD:List Str×V=>(D.1.map (Sum.inr:Str->Key),D.2)) (W.map λD=>(D.1,V.int D.2))).any λD=>decide (D.1=k.map Sum.inr))=W.any λD=>decide (D.1=k):=by
  rw[List.any_map,List.any_map]
  congr 1
  funext D
  exact qy2 D.1 k
 rw[e1];split
 ·rw[z46,z46,z46,z46];refine z1f λD _=>?_;show (if D.1.map (Sum.inr:Str->Key)=k.map Sum.inr then (D.1.map Sum.inr,V.int v) else (D.1.map Sum.inr,V.int D.2))=_;by_cases h:D.1=k
  ·rw[if_pos (by rw[h])];show _=(((if D.1=k then (D.1,v) else D).1).map Sum.inr,V.int (if D.1=k then (D.1,v) else D).2);rw[if_pos h]
  ·rw[if_neg (λq=>h (qc8.mp q))];show _=(((if D.1=k then (D.1,v) else D).1).map Sum.inr,V.int (if D.1=k then (D.1,v) else D).2);rw[if_neg h]
 ·rw[z35,z35];rfl
def qlq(W:Tab)(k:xD)(v:Int):(putA W k v).map (·.1)=if k∈W.map (·.1) then W.map (·.1) else W.map (·.1)++ [k]:=by
 unfold putA;have e:(W.any λD=>decide (D.1=k))=decide (k∈W.map (·.1)):=by
  rw[z2z,z2p,decide_eq_true_iff,z44]
  constructor
  ·rintro ⟨p,J,h⟩;exact⟨p,J,of_decide_eq_true h⟩
  ·rintro ⟨p,J,h⟩;exact⟨p,J,z3b h⟩
 rw[e];by_cases h:k∈W.map (·.1)
 ·rw[if_pos (z3b h),if_pos h,z46];refine z1f λD _=>?_;show (if D.1=k then (D.1,v) else D).1=D.1;split <;> rfl
 ·rw[if_neg (by simpa using h),if_neg h,z35];rfl
def qzw{W:Tab}(h:(W.map (·.1)).Nodup)(k:xD)(v:Int):((putA W k v).map (·.1)).Nodup:=by
 rw[qlq];split
 ·exact h
 ·rename_i hk;exact qgc h hk
def qy3(W:Tab)(k:xD)(v:Int):(putA W k v).length<=W.length+1:=by
 have:(putA W k v).length=((putA W k v).map (·.1)).length:=by rw[z30]
 rw[this,qlq];split
 ·rw[z30];lia
 ·rw[z1o,z30];exact z47 _
def q11s(kv:List Str×Int):PyData:= .tuple [.tuple (kv.1.map .str),.int kv.2]
def whyD(W:Tab):List PyData:=W.map q11s
theorem qd2{α β:Type}{F:α->β->Prop}{x:α}{y:β}:∀{xs:List α} {ys:List β},Paired F xs ys->F x y->Paired F (xs++ [x]) (ys++ [y])
 | _,_,.nil,h=> .cons h .nil
 | _,_,.cons a b,h=> .cons a (qd2 b h)
def PlAt(H:Hp)(x:V)(kv:List Str×Int):Prop:=∃q b,x= .ref q/\H q=some (.tup [.ref b,.int kv.2])/\H b=some (.tup (kv.1.map V.str))
def PlAt.keep{H H':Hp}{x:V}{D:List Str×Int}(h:PlAt H x D)(s:KeepT H H'):PlAt H' x D:=by
 obtain⟨q,b,e,h1,h2⟩:=h;exact⟨q,b,e,s _ _ h1,s _ _ h2⟩
theorem qgw{H H':Hp}(s:KeepT H H'):∀{xs:List V} {ps:Tab},Paired (PlAt H) xs ps->Paired (PlAt H') xs ps
 | _,_,.nil=> .nil
 | _,_,.cons a b=> .cons (a.keep s) (qgw s b)
def q1w{ns:List Int}{k:Nat}(h:k < ns.length):atI (ns.map V.int) (k:Int)=some (V.int (ns.getD k 0)):=by
 rw[q7g h];exact q91 (by rw[z22,z0d h];rfl)
theorem qbi{K:xA}{H:Hp}:∀ns:List Int,Dats K H (ns.map .int) (ns.map V.int)
 | []=> .nil
 | n::ns=> .cons (.int n) (qbi ns)
def qf9(ns:List Int):PyData.depthAll (ns.map .int)=0:=by
 induction ns with
 | nil=>rfl
 | cons x p ih=>
  show max (PyData.depth (.int x)) (PyData.depthAll (p.map .int))=0;rw[ih];rfl
def qlr(xs:List V)(n:Nat)(h:n<=xs.length):cutV xs (some (n:Int)) none=xs.drop n:=by
 unfold cutV;rw[HT.sIx_nat,HT.sIx_none,Nat.min_eq_left h,z0n (by rw[z2h];exact z47 _)]
variable{P:Program}{w:World}{K:xA}{mg:xE}{base:Heap}
def qs5:Sp:=λvs H Q _=>∃c m:Int,vs=[.int c,.int m]/\0<=m/\m<=100/\∀p (ns:List Int) H',Same H H'->H' p=some (.lst (ns.map V.int))->ns.length=m.toNat->H p=none->(∀n∈ns,0<=n/\n < 2147483647)->Q (.ref p) H'
def fur:Str:="abcdefghijklmnopqrstuvwxyz0123456789"
def qoc:fur.length=36:=by decide+kernel
def qzx:∀c∈fur.cps.toList,c < 0x110000:=by decide+kernel
def Wz(n:Nat)(z:Str):Prop:=z.length<=n/\∀c∈z.cps.toList,c∈fur.cps.toList
def Wz.ok{n:Nat}{z:Str}(h:Wz n z):PyData.strOk z=true:=quh λc hc=>qzx c (h.2 c hc)
def Wz.cut{n:Nat}{z:Str}(h:Wz n z)(lo hi:Option Int):Wz n (cutS z lo hi):=⟨z40 (qcw z lo hi) h.1,λc hc=>h.2 c (qy1 hc)⟩
def Wz.app{n m:Nat}{z y:Str}(h:Wz n z)(k:Wz m y):Wz (n+m) (z++y):=⟨by rw[q3z];exact Nat.add_le_add h.1 k.1,λc D=>by
 rw[qdt]at D;exact(z2u.mp D).elim (h.2 c) (k.2 c)⟩
def Wz.one{c:Nat}(h:c∈fur.cps.toList):Wz 1 ⟨#[c]⟩:=⟨z47 _,λd hd=>by
 have:d=c:=by simpa using hd
 subst this;exact h⟩
def Wz.le{n m:Nat}{z:Str}(h:Wz n z)(k:n<=m):Wz m z:=⟨z40 h.1 k,h.2⟩
def Wz.size{n:Nat}{z:Str}(h:Wz n z)(k:n<=1000):z.length<=sizeLine:=z40 (z40 h.1 k) (by decide)
def q7h(d:Nat):(⟨#[d]⟩:Str).length<=1:=z47 _
def qs6(c:Int){m:Int}(h0:0 < m)(h1:m<=36):∃d,atI fur.cps.toList (c%m)=some d/\d∈fur.cps.toList:=
 ql6 (z39 _ (by lia)) (by rw[q3r,qoc];have:=z1w c h0;lia)
def q86:fur.length<=sizeLine:=by rw[qoc];decide
def qod(o:Option Int):(o.map V.int).getD (V.int 0)=V.int (o.getD 0):=by cases o <;> rfl
def qls{W:Tab}(h:(W.map (·.1)).Nodup){k:xD}(hk:k∈W.map (·.1)):∃n,getA W k=some n/\(k,n)∈W:=by
 obtain⟨⟨k',n⟩,hp,e⟩:=z44.mp hk;have e':k'=k:=e;subst e';unfold getA;cases q:W.find? λkv=>decide (kv.1=k') with
 | none=>
  have:=List.find?_eq_none.mp q _ hp;simp at this
 | some x=>
  have h1:=List.find?_some q;have h2:=z0c q;obtain⟨x1,x2⟩:=x;have:x1=k':=by simpa using h1
  subst this;exact⟨x2,zr,h2⟩
def quj{K:xA}{H:Hp}{b:Addr}{p:xD}(h:H b=some (.tup (p.map V.str)))(ho:∀x∈p,PyData.strOk x=true):Dat K H (.tuple (p.map .str)) (.ref b):=by
 refine .tup (SqT.of h) ?_;clear h
 induction p with
 | nil=>exact .nil
 | cons x p ih=>exact .cons (.str x (ho x (z1p ..))) (ih λy hy=>ho y (z16 _ hy))
theorem qlt{K:xA}{H:Hp}:∀{xs:List V} {W:Tab},Paired (PlAt H) xs W->(∀J∈W,∀z∈J.1,PyData.strOk z=true)->Dats K H (whyD W) xs
 | _,_,.nil,_=> .nil
 | _,_,.cons ⟨q,b,e,h1,h2⟩ r,ok=>by
  subst e;exact .cons (.tup (SqT.of h1) (.cons (quj h2 (ok _ (z1p ..))) (.cons (.int _) .nil))) (qlt r λJ D=>ok J (z16 _ D))
theorem q4m{α β:Type}{F:α->β->Prop}:∀{l:List α} {k:List β} {i:Nat} {x:α},Paired F l k->l[i]? =some x->∃y,k[i]? =some y/\F x y
 | _,_,_,_,.nil,h=>by simp at h
 | _,_,0,_,.cons a _,h=>by
  simp at h
  subst h;exact⟨_,zr,a⟩
 | _,_,i+1,x,.cons _ r,h=>by
  obtain⟨y,e,f⟩:=q4m (i:=i) (x:=x) r (by simpa using h);exact⟨y,by simpa using e,f⟩
def qpu(p:xD):PyData.depthAll (p.map .str)=0:=by
 induction p with
 | nil=>rfl
 | cons x p ih=>
  show max (PyData.depth (.str x)) (PyData.depthAll (p.map .str))=0;rw[ih];rfl
def Asc(p:xD):Prop:=p.Pairwise λa b=>q19 b a=false
def Rise(W:Tab):Prop:=(W.map (·.1)).Pairwise λa b=>q17 a b=true
theorem qbj{α:Type}{lt:α->α->Bool}(h:Tim.STO lt):∀{l:List α},l.Pairwise (λa b=>lt b a=false)->l.Nodup->l.Pairwise λa b=>lt a b=true
 | [],_,_=> .nil
 | a::l,h1,h2=>by
  obtain⟨a1,a2⟩:=z1q.mp h1;obtain⟨b1,b2⟩:=z32.mp h2;refine z1q.mpr ⟨λb D=>?_,qbj h a2 b2⟩;cases e:lt a b with
  | true=>rfl
  | false=>exact absurd (h.tri a b e (a1 b D)) λz=>b1 (z ▸ D)
def quk{W:Tab}{k:xD}{v:Int}{D:List Str×Int}(h:D∈putA W k v):D∈W\/ D=(k,v):=by
 unfold putA at h;split at h
 ·obtain⟨x,hx,e⟩:=z44.mp h;by_cases q:x.1=k
  ·rw[if_pos q]at e;exact .inr (by rw[<- e,q])
  ·rw[if_neg q]at e;exact .inl (e ▸ hx)
 ·rcases z2u.mp h with h | h
  ·exact .inl h
  ·exact .inr (z1m.mp h)
def qy4{W:Tab}{k:xD}{n:Int}(h:getA W k=some n):(k,n)∈W:=by
 unfold getA at h;obtain⟨x,hx,rfl⟩:=z0q.mp h;have h1:=List.find?_some hx;have:x.1=k:=by simpa using h1
 rw[<- this];exact z0c hx
theorem q1m{α β:Type}{F:α->β->Prop}:∀{xs D:List α} {ys J:List β},Paired F xs ys->Paired F D J->Paired F (xs++D) (ys++J)
 | _,_,_,_,.nil,h=>h
 | _,_,_,_,.cons a b,h=> .cons a (q1m b h)
def qpv(W:Tab):PyData.depthAll (whyD W)<=2:=by
 induction W with
 | nil=>exact z4a _
 | cons p W ih=>
  refine Nat.max_le.mpr ⟨?_,ih⟩;show max (PyData.depthAll (p.1.map .str)+1) (max 0 0)+1<=2;rw[qpu];decide
def qs7(W:Tab):PyData.depth (.list (whyD W))<=60:=z40 (z2q (qpv W)) (by decide)
abbrev NN(ps:Tab):Prop:=∀p∈ps,0<=p.2
def Bd(n L:Nat)(b:Int)(W:Tab):Prop:=W.length<=n/\∀p∈W,(∀x∈p.1,PyData.strOk x=true)/\p.1.length<=L/\0<=p.2/\p.2<=b
abbrev BW(W:Tab):Prop:=Bd 200 1000 (2^599) W
def WA(H:Hp)(l:Addr)(W:Tab):Prop:=∃xs,H l=some (.lst xs)/\Paired (PlAt H) xs W/\BW W
def WA.same{H H':Hp}{l:Addr}{W:Tab}(h:WA H l W)(s:Same H H'):WA H' l W:=by
 obtain⟨xs,h1,h2,h3⟩:=h;exact⟨xs,s _ _ h1,qgw (Same.keepT s) h2,h3⟩
def WA.bd{H:Hp}{l:Addr}{W:Tab}(h:WA H l W):BW W:=by
 obtain⟨xs,h1,h2,h3⟩:=h;exact h3
def WA.dat{K:xA}{H:Hp}{l:Addr}{W:Tab}(h:WA H l W):Dat K H (.list (whyD W)) (.ref l):=by
 obtain⟨xs,h1,h2,h3⟩:=h;exact .lst (SqL.of h1) (qlt h2 λp hp=>(h3.2 p hp).1)
noncomputable def WA.xs {H : Hp} {l : Addr} {W : Tab} (h : WA H l W) : List V := Classical.choose h
theorem WA.lst{H:Hp}{l:Addr}{W:Tab}(h:WA H l W):H l=some (.lst h.xs):=(Classical.choose_spec h).1
def WA.prd{H:Hp}{l:Addr}{W:Tab}(h:WA H l W):Paired (PlAt H) h.xs W:=(Classical.choose_spec h).2.1
def WA.copy{H:Hp}{l q:Addr}{W:Tab}(h:WA H l W)(hq:H q=none):WA (upd H q (.lst h.xs)) q W:=⟨h.xs,qb,qgw (Same.keepT (qf hq)) h.prd,h.bd⟩
def q11t(W:Tab)(ns:xD):Prop:=(ns.Pairwise λa b=>q19 a b=true)/\∀x,x∈ns↔∃kv∈W,x∈kv.1
def qul{kvs:List (Key×V)}{k:Key}(v:V)(h:k∈kvs.map (·.1)):(putK kvs k v).map (·.1)=kvs.map (·.1):=by
 obtain⟨p,hp,e⟩:=z44.mp h;unfold putK;rw[if_pos (z2p.mpr ⟨p,hp,z3b e⟩),z46];refine z1f λD _=>?_;show (if D.1=k then (D.1,v) else D).1=D.1;split <;> rfl
def qs8{kvs:List (Key×V)}{k:Key}(v:V)(h:¬ k∈kvs.map (·.1)):(putK kvs k v).map (·.1)=kvs.map (·.1)++ [k]:=by
 unfold putK;rw[if_neg,z35]
 ·rfl
 ·intro z;obtain⟨p,hp,e⟩:=z2p.mp z;exact h (z44.mpr ⟨p,hp,of_decide_eq_true e⟩)
def qlu(H:Hp)(d:Addr)(ws:xD)(v:V):Prop:=∃kvs,H d=some (.dK kvs)/\kvs.map (·.1)=ws.map Sum.inr/\ws.Nodup/\∀kv∈kvs,kv.2=v
def qoe{x:Str}{ws:xD}:(Sum.inr x:Key)∈ws.map Sum.inr↔x∈ws:=by
 rw[z44]
 constructor
 ·rintro ⟨y,hy,e⟩;cases e
  exact hy
 ·exact λh=>⟨x,h,zr⟩
def qlv{kvs:List (Key×V)}{k:Key}{v:V}(h:∀J∈kvs,J.2=v):∀J∈putK kvs k v,J.2=v:=λJ D=>by
 unfold putK at D;split at D
 ·obtain⟨x,hx,e⟩:=z44.mp D;by_cases q:x.1=k
  ·rw[if_pos q]at e;rw[<- e]
  ·rw[if_neg q]at e;exact e ▸ h x hx
 ·rcases z2u.mp D with g | g
  ·exact h J g
  ·rw[z1m.mp g]
def qum{H:Hp}{d:Addr}{ws:xD}{v:V}{x:Str}{kvs:List (Key×V)}(h1:kvs.map (·.1)=ws.map Sum.inr)(h2:ws.Nodup)(J:∀kv∈kvs,kv.2=v):∃D,qlu (upd H d (.dK (putK kvs (Sum.inr x) v))) d D v/\(∀y,y∈D↔y∈ws\/ y=x)/\D.length<=ws.length+1:=by
 by_cases h:x∈ws
 ·refine⟨ws,⟨_,qb,?_,h2,qlv J⟩,λy=>⟨.inl,λz=>z.elim id λe=>e ▸ h⟩,Nat.le_succ _⟩;rw[qul v (by rw[h1];exact qoe.mpr h),h1]
 ·refine⟨ws++ [x],⟨_,qb,?_,qgc h2 h,qlv J⟩,λy=>by rw[z2u,z1m],by rw[z1o];exact z47 _⟩;rw[qs8 v (by rw[h1];exact λz=>h (qoe.mp z)),h1,z35];rfl
def qun:Sp:=λvs H Q _=>∃(l:Addr) (W:Tab),vs=[.ref l]/\WA H l W/\∀p ns H',Same H H'->H p=none->H' p=some (.lst (ns.map V.str))->q11t W ns->ns.length<=200000->Q (.ref p) H'
def quo{W:Tab}{n L:Nat}(h:∀p∈W,p.1.length<=L)(hn:W.length<=n):(W.flatMap (·.1)).length<=n*L:=by
 have:(W.flatMap (·.1)).length<=W.length*L:=by
  clear hn
  induction W with
  | nil=>simp
  | cons p W ih=>
   rw[List.flatMap_cons,z1o,z2i,Nat.add_mul];have h1:=h p (z1p ..);have h2:=ih λq hq=>h q (z16 _ hq)
   lia
 exact z40 this (Nat.mul_le_mul_right _ hn)
def qng(T:Txt K mg):Def P w K mg base 1 "names_of" ["why"] qun:=by
 refine T.qqj.ok q4s (λvs H Q E h=>?_) λf cdv A outer s H vs Q E hr h=>?_
 ·obtain⟨l,W,rfl,_⟩:=h;rfl
 ·obtain⟨l,W,rfl,⟨xs,hl,hp,hb⟩,k⟩:=h;refine⟨_,(q3f
   (qm (i:=1) q4s.nd rfl (Or.inl rfl) q5w)
   (q1o PassesOwn.never rfl (q18 K (pv 0)) (qks rfl (q5v (qu (i:=2) q4s.nd rfl (Or.inl rfl)) (q5v (qu (i:=3) q4s.nd rfl (Or.inl rfl)) qg7))) (qg (q1o PassesOwn.never rfl (q5x K (pv 2)) (qu (i:=4) q4s.nd rfl (Or.inl rfl)) (qg (q94 (q33 hr) (pv 1) (pv 4) q3p rfl)))))
   (qh (qo (qiy rfl K) rfl T.q2h q2c (pa_1 (pv 1))))),?_⟩
  refine λd hd=>?_;have s1:=qf (o:=HO.dK []) hd;have xl:=Paired.length hp;have fl:∀i,((W.take i).flatMap (·.1)).length<=200000:=λi=>quo (n:=200) (L:=1000) (λp hp=>(hb.2 p (z15 hp)).2.1) (z40 (by rw[z2g];lia) hb.1);refine⟨_,rfl,l,rfl,⟨_,SqL.of (s1 _ _ hl)⟩,q20 (xs:=xs) (λi σ G=>Same H G/\(∃v1 v2 v3,σ=[some (.ref l),some (.ref d),v1,v2,v3])/\∃ws,qlu G d ws (.bl true)/\(∀x,x∈ws↔x∈(W.take i).flatMap (·.1))/\ws.length<=((W.take i).flatMap (·.1)).length) ⟨s1,⟨_,_,_,rfl⟩,[],⟨[],qb,rfl,z3f,λ_ z=>nomatch z⟩,λx=>by simp,z4a _⟩ (λi σ G _ z=>SqL.of (z.1 _ _ hl)) ?_ ?_⟩
  ·rintro i x σ G hx ⟨sg,⟨v1,v2,v3,rfl⟩,ws,hk,Z,D⟩;obtain⟨kv,a6,a7⟩:=q4m hp hx;obtain⟨q,b,rfl,hq,a2⟩:=a7.keep (Same.keepT sg);refine⟨_,_,zr,SqT.of hq,zr,_,_,zr,_,_,zr,zr,?_⟩;have a0:(W.take (i+1)).flatMap (·.1)=(W.take i).flatMap (·.1)++kv.1:=by
    rw[z3g,a6,z1j];simp
   have a5:=fl (i+1);rw[a0,z1o]at a5;refine⟨_,rfl,b,rfl,⟨_,SqT.of a2⟩,q90 (xs:=kv.1.map V.str) (λj σ F=>Same H F/\F b=some (.tup (kv.1.map V.str))/\(∃v3,σ=[some (.ref l),some (.ref d),some (.ref b),some (.int kv.2),v3])/\∃ws,qlu F d ws (.bl true)/\(∀x,x∈ws↔x∈(W.take i).flatMap (·.1)\/ x∈kv.1.take j)/\ws.length<=((W.take i).flatMap (·.1)).length+j) ⟨sg,a2,⟨_,rfl⟩,ws,hk,λx=>by rw[Z x];simp,D⟩ (λj σ F _ z=>SqT.of z.2.1) ?_ ?_⟩
   ·rintro j y σ F hy ⟨sf,fb,⟨v3,rfl⟩,ws,⟨kvs,J,O,a1,a4⟩,Z,D⟩;rw[z22]at hy;obtain⟨z,hz,rfl⟩:=z0q.mp hy;have jl:j < kv.1.length:=(z07.mp hz).1;have kl:kvs.length=ws.length:=by
     have:=congrArg List.length O;rw[z30,z30]at this;exact this
    obtain⟨a8,g1,g2,g3⟩:=qum (H:=F) (d:=d) (x:=z) O a1 a4;refine⟨_,rfl,_,rfl,d,_,rfl,DPut.k (k:=Sum.inr z) J (by rw[kl];exact z1r (show ws.length < 1000000 by lia) (by decide)),?_⟩;refine⟨λc o hc=>by rw[qi (λe=>by rw[e,hd]at hc;cases hc)];exact sf c o hc,by rw[qi (λe=>by rw[e,J]at fb;cases fb)];exact fb,⟨_,rfl⟩,a8,g1,λx=>?_,by lia⟩;rw[g2,Z,z3g,hz,or_assoc];simp
   ·rintro σ F ⟨sf,fb,⟨v3,rfl⟩,ws,hk,Z,D⟩;rw[z30,z2t]at Z;rw[z30]at D;refine⟨sf,⟨_,_,_,zr⟩,ws,hk,λx=>?_,?_⟩
    ·rw[Z,a0,z2u]
    ·rw[a0,z1o];exact D
  ·rintro σ G ⟨sg,⟨v1,v2,v3,rfl⟩,ws,⟨kvs,J,O,a1,a4⟩,Z,D⟩;rw[xl,z2t]at Z;have fl2:=fl xs.length;refine⟨_,zr,d,kvs,ws,zr,J,O,λp hp=>?_⟩;refine k p _ _ (sg.trans (qf hp)) (sg.free hp) qb ⟨qbj q24 (Tim.q23 q24 _) ((Tim.q13 q19 _).nodup_iff.mpr a1),λx=>?_⟩ ?_
   ·rw[(Tim.q13 q19 _).mem_iff,Z,List.mem_flatMap]
   ·rw[(Tim.q13 q19 _).length_eq]
    lia
def qof{z:Str}{m:Int}(h1:1<=z.length)(hm:1<=m):1<=(cutS z none (some m)).length:=by
 obtain⟨k,rfl⟩:=z0m (show 0<=m by lia);have hk:1<=k:=by lia
 show 1<=(cutS z none (some (k:Int))).cps.size;rw[<- z19];unfold cutS;rw[HT.sIx_nat,HT.sIx_none,z1g,z2g,z2h,q3r]
 lia
def qy5(K:xA):Sp:=λvs H Q _=>∃(a:Addr) (ns:List Int) (k:Int),vs=[.ref a,.int k]/\SqL K H a (ns.map V.int)/\0<=k/\Q (.int (ns.getD k.toNat 0)) H
def q5o(T:Txt K mg):Def P w K mg base 1 "_law_cell_at" ["_law_script","_law_k"] (qy5 K):=by
 refine T.qhm.ok qf8 (λvs H Q E h=>?_) λf cdv A outer s H vs Q E hr h=>?_
 ·obtain⟨a,ns,k,rfl,_⟩:=h;rfl
 ·obtain⟨a,ns,k,rfl,J,h0,q⟩:=h;refine⟨_,(q39
   (q12 (qp qw6 (pv 1) (qo (q3l K) rfl T.b_len q4r (pa_1 (pv 0))) (qq _)) (qg (qh (q1a (qy K) (pv 0) (pv 1) (λ_ _=>rfl)))) qr)
   (qh qc)),?_⟩
  refine⟨_,zr,_,zr,_,_,zr,.inl ⟨_,J,zr⟩,_,_,zr,zr,_,zr,?_⟩;rw[z30];refine ite2 (λh1=>?_) (λh1=>?_)
  ·have D:k < ns.length:=by simpa using h1
   have hk:k.toNat < ns.length:=by lia
   refine⟨_,zr,_,zr,_,_,_,V.int (ns.getD k.toNat 0),zr,zr,J,?_,q⟩;rw[qzk h0 (by rw[z30];exact D),z22,z0d hk,q7g hk];rfl
  ·have D:¬ k < ns.length:=by simpa using h1
   have e:ns.getD k.toNat 0=0:=by
    exact qxn (by lia)
   rw[e]at q;exact q
def kidV(kvs:List (Key×V))(w:Str):Option Addr:=match valV kvs (Sum.inr w) with
 | some (.ref b)=>some b
 | _=>none
def q87(H:Hp)(a:Addr):List (Key×V):=match H a with
 | some (.dK kvs)=>kvs
 | _=>[]
def go(H:Hp):Addr->List Str->Option Addr
 | a,[]=>some a
 | a,w::ws=>(kidV (q87 H a) w).bind λb=>go H b ws
theorem q3j(H:Hp):∀(x y:xD) (a:Addr),go H a (x++y)=(go H a x).bind λb=>go H b y
 | [],y,a=>rfl
 | w::x,y,a=>by
  show (kidV (q87 H a) w).bind (λb=>go H b (x++y))=((kidV (q87 H a) w).bind λb=>go H b x).bind λb=>go H b y;cases kidV (q87 H a) w with
  | none=>rfl
  | some b=>exact q3j H x y b
def q1x{H:Hp}{a:Addr}{kvs:List (Key×V)}(e:H a=some (.dK kvs))(w:Str)(ws:xD):go H a (w::ws)=(kidV kvs w).bind λb=>go H b ws:=by
 show (kidV (q87 H a) w).bind (λb=>go H b ws)=_;rw[show q87 H a=kvs by unfold q87;rw[e]]
structure Nodes (H:Hp) (r:Addr):Prop where
 node:∀p a,go H r p=some a->∃kvs,H a=some (.dK kvs)
 inj:∀p q a,go H r p=some a->go H r q=some a->p=q
def qy6(kvs:List (Key×V))(w u:Str)(m:Addr):kidV (putK kvs (Sum.inr w) (.ref m)) u=if u=w then some m else kidV kvs u:=by
 unfold kidV;rw[q4x];by_cases h:u=w
 ·rw[if_pos h,if_pos (by rw[h])]
 ·rw[if_neg h,if_neg (λz=>h (by injection z))]
def qzy{H:Hp}{r a m:Addr}{p:xD}{w:Str}{kvs:List (Key×V)}(N:Nodes H r)(Z:go H r p=some a)(hk:H a=some (.dK kvs))(hn:kidV kvs w=none)(hm:H m=none):
    ∀(y x:xD) (b:Addr),go H r x=some b->go (upd (upd H m (.dK [])) a (.dK (putK kvs (Sum.inr w) (.ref m)))) b y=if x++y=p++ [w] then some m else go H b y:=by
  have a2:a≠m:=qz hk hm;have a4:go H r (p++ [w])=none:=by
    rw[q3j,Z];show go H a [w]=none;rw[q1x hk,hn];rfl
  intro y
  induction y with
  | nil=>
    intro x b J;rw[z31,if_neg (λz=>by rw[z,a4]at J;cases J)];rfl
  | cons u ys ih=>
    intro x b J;obtain⟨kb,D⟩:=N.node x b J;have step:∀c,kidV kb u=some c->go H r (x++ [u])=some c:=λc O=>by
      rw[q3j,J];show go H b [u]=some c;rw[q1x D,O];rfl
    by_cases e:b=a
    · subst e
      have ex:x=p:=N.inj x p b J Z;subst ex;rw[hk]at D;cases D
      have e':upd (upd H m (.dK [])) b (.dK (putK kvs (Sum.inr w) (.ref m))) b=some (.dK (putK kvs (Sum.inr w) (.ref m))):=qb;rw[q1x e',qy6,q1x hk];by_cases hu:u=w
      · subst hu
        rw[if_pos rfl,hn];show go _ m ys=_;cases ys with
        | nil=>
          rw[if_pos rfl];rfl
        | cons v vs=>
          have em:upd (upd H m (.dK [])) b (.dK (putK kvs (Sum.inr u) (.ref m))) m=some (.dK []):=by rw[qi a2.symm,qb]
          rw[q1x em,if_neg (λz=>by
            have:=List.append_cancel_left z;simp at this)]
          rfl
      · rw[if_neg hu]
        cases O:kidV kvs u with
        | none=>
          rw[if_neg (λz=>by
            have:=List.append_cancel_left z;simp at this
            exact hu this.1)]
          rfl
        | some c=>
          show go _ c ys=if _ then _ else go H c ys
          rw[ih (x++ [u]) c (step c O),z1y];rfl
    · have a1:b≠m:=qz D hm
      have e':upd (upd H m (.dK [])) a (.dK (putK kvs (Sum.inr w) (.ref m))) b=some (.dK kb):=by rw[qi e,qi a1];exact D
      rw[q1x e',q1x D];cases O:kidV kb u with
      | none=>
        rw[if_neg (λz=>?_)]
        · rfl
        · have:go H r (x++u::ys)=none:=by
            rw[q3j,J];show go H b (u::ys)=none;rw[q1x D,O];rfl
          have h2:x=p:=by
            have hl:=congrArg List.length z;rw[z1o,z1o,z2i,z0y]at hl;by_cases hy:ys=[]
            · subst hy
              exact(List.append_inj' z rfl).1
            · exfalso
              have a0:x.length < p.length:=by
                have:0 < ys.length:=List.length_pos_iff.mpr hy
                lia
              have a5:x++ [u] <+:p:=by
                have h3:x++ [u] <+:p++ [w]:=⟨ys,by rw[z1y];exact z⟩;exact List.prefix_of_prefix_length_le h3 (List.prefix_append _ _) (by rw[z1o];exact a0)
              obtain⟨t,ht⟩:=a5;rw[<- ht,q3j,q3j,J]at Z;have:go H b [u]=none:=by
                rw[q1x D,O];rfl
              simp[this]at Z
          subst h2;rw[J]at Z;cases Z
          exact e rfl
      | some c=>
        show go _ c ys=if _ then _ else go H c ys
        rw[ih (x++ [u]) c (step c O),z1y];rfl
def Ks(kvs:List (Key×V))(us:xD):Prop:=kvs.map (·.1)=us.map Sum.inr/\us.Nodup
def qdu(kvs:List (Key×V))(k:Key):(valV kvs k).isSome=true↔∃kv∈kvs,kv.1=k:=by
 unfold valV;rw[Option.isSome_map,List.find?_isSome];simp
def Ks.mem{kvs:List (Key×V)}{us:xD}(h:Ks kvs us)(w:Str):w∈us↔(valV kvs (.inr w)).isSome=true:=by
 rw[qdu]
 constructor
 ·intro hw;have:(Sum.inr w:Key)∈kvs.map (·.1):=by
   rw[h.1];exact z44.mpr ⟨w,hw,zr⟩
  obtain⟨J,hk,e⟩:=z44.mp this;exact⟨J,hk,e⟩
 ·rintro ⟨J,hk,e⟩;have:(Sum.inr w:Key)∈us.map Sum.inr:=by
   rw[<- h.1,<- e];exact z44.mpr ⟨J,hk,zr⟩
  obtain⟨u,hu,D⟩:=z44.mp this;injection D with D;rw[<- D];exact hu
def Ks.put{kvs:List (Key×V)}{us:xD}(h:Ks kvs us)(w:Str)(v:V):∃J,Ks (putK kvs (.inr w) v) J:=by
 unfold putK;split
 ·refine⟨us,?_,h.2⟩;rw[z46,<- h.1]
  apply z1f
  intro D _;show (if D.1=Sum.inr w then (D.1,v) else D).1=D.1;split <;> rfl
 ·rename_i z;refine⟨us++ [w],by rw[z35,z35,h.1];rfl,?_⟩;rw[z2d];refine⟨h.2,by simp,λa O b hb e=>z ?_⟩;have eb:b=w:=by simpa using hb
  rw[e,eb,h.mem,qdu]at O;obtain⟨D,hk,ek⟩:=O;exact z2p.mpr ⟨D,hk,z3b ek⟩
def Ks.len{kvs:List (Key×V)}{us:xD}(h:Ks kvs us):us.length=kvs.length:=by
 have:=congrArg List.length h.1;rw[z30,z30]at this;exact this.symm
def Ks.get{kvs:List (Key×V)}{us:xD}(h:Ks kvs us){i:Nat}{D:Key×V}(e:kvs[i]? =some D):∃w,us[i]? =some w/\D.1= .inr w:=by
 have:(us.map (Sum.inr:Str->Key))[i]? =some D.1:=by rw[<- h.1,z22,e];rfl
 rw[z22]at this;obtain⟨w,hw,e⟩:=z0q.mp this;exact⟨w,hw,e.symm⟩
structure PathOk (H0 H:Hp) (r:Addr) (S:List Str->Prop) (n:Nat):Prop where
 nodes:Nodes H r
 dom:∀p,(∃a,go H r p=some a)↔S p
 new:∀p a,go H r p=some a->H0 a=none
 size:∀p a kvs,go H r p=some a->H a=some (.dK kvs)->kvs.length<=n
 refs:∀p a kvs w v,go H r p=some a->H a=some (.dK kvs)->valV kvs (Sum.inr w)=some v->∃b,v= .ref b
 nd:∀p a kvs,go H r p=some a->H a=some (.dK kvs)->∃us,Ks kvs us
def qs9{H:Hp}{r m:Addr}{o:HO}(N:Nodes H r)(hm:H m=none):∀(y x:xD) (b:Addr),go H r x=some b->go (upd H m o) b y=go H b y:=by
 intro y
 induction y with
 | nil=>exact λ_ _ _=>rfl
 | cons u ys ih=>
  intro x b J;obtain⟨kb,D⟩:=N.node x b J;have e':upd H m o b=some (.dK kb):=by rw[qi (qz D hm)];exact D
  rw[q1x e',q1x D];cases hc:kidV kb u with
  | none=>rfl
  | some c=>
   refine ih (x++ [u]) c ?_;rw[q3j,J];show go H b [u]=some c;rw[q1x D,hc];rfl
def PathOk.lay{H0 H:Hp}{r m:Addr}{S:List Str->Prop}{n:Nat}{o:HO}(T:PathOk H0 H r S n)(Z:H m=none):PathOk H0 (upd H m o) r S n:=by
 have g:∀x,go (upd H m o) r x=go H r x:=λx=>qs9 T.nodes Z x [] r rfl;have J:∀x b kb,go H r x=some b->upd H m o b=some (.dK kb)->H b=some (.dK kb):=λx b kb D e=>by
  obtain⟨kc,O⟩:=T.nodes.node x b D;rw[qi (qz O Z)]at e;exact e
 refine⟨⟨λx b D=>?_,λx y b hx hy=>?_⟩,λx=>?_,λx b D=>?_,λx b kb D e=>?_,λx b kb w v D e hv=>?_,λx b kb D e=>?_⟩
 ·rw[g]at D;obtain⟨kc,O⟩:=T.nodes.node x b D;exact⟨kc,by rw[qi (qz O Z)];exact O⟩
 ·rw[g]at hx hy;exact T.nodes.inj x y b hx hy
 ·rw[g];exact T.dom x
 ·rw[g]at D;exact T.new x b D
 ·rw[g]at D;exact T.size x b kb D (J x b kb D e)
 ·rw[g]at D;exact T.refs x b kb w v D (J x b kb D e) hv
 ·rw[g]at D;exact T.nd x b kb D (J x b kb D e)
def qif{H0 H:Hp}{r a m:Addr}{S:List Str->Prop}{n:Nat}{p:xD}{w:Str}{kvs:List (Key×V)}(T:PathOk H0 H r S n)(s0:Same H0 H)(ha:go H r p=some a)(hk:H a=some (.dK kvs))(hn:kidV kvs w=none)(hm:H m=none):
  PathOk H0 (upd (upd H m (.dK [])) a (.dK (putK kvs (Sum.inr w) (.ref m)))) r (λx=>S x\/ x=p++ [w]) (n+1)/\go (upd (upd H m (.dK [])) a (.dK (putK kvs (Sum.inr w) (.ref m)))) r (p++ [w])=some m:=by
 have g:∀x,go (upd (upd H m (.dK [])) a (.dK (putK kvs (Sum.inr w) (.ref m)))) r x=if x=p++ [w] then some m else go H r x:=λx=>qzy T.nodes ha hk hn hm x [] r rfl
 have a1:a≠m:=qz hk hm;have hM:upd (upd H m (.dK [])) a (.dK (putK kvs (Sum.inr w) (.ref m))) m=some (.dK []):=by rw[qi a1.symm,qb]
 generalize hH:upd (upd H m (.dK [])) a (.dK (putK kvs (Sum.inr w) (.ref m)))=H' at*;have O:∀b kb,H b=some (.dK kb)->(b=a/\kb=kvs/\H' b=some (.dK (putK kvs (Sum.inr w) (.ref m))))\/ H' b=some (.dK kb):=λb kb e=>by
  by_cases z:b=a
  ·subst z;rw[hk]at e;cases e
   exact .inl ⟨rfl,rfl,by rw[<- hH,qb]⟩
  ·exact .inr (by rw[<- hH,qi z,qi (qz e hm)];exact e)
 refine⟨⟨⟨λx b D=>?_,λx y b hx hy=>?_⟩,λx=>?_,λx b D=>?_,λx b kb D e=>?_,λx b kb u v D e hv=>?_,λx b kb D e=>?_⟩,by rw[g,if_pos rfl]⟩
 ·rw[g]at D;by_cases z:x=p++ [w]
  ·rw[if_pos z]at D;cases D
   exact⟨_,hM⟩
  ·rw[if_neg z]at D;obtain⟨kb,e⟩:=T.nodes.node x b D;rcases O b kb e with ⟨_,_,q⟩ | q
   ·exact⟨_,q⟩
   ·exact⟨_,q⟩
 ·rw[g]at hx hy;by_cases z1:x=p++ [w]
  ·by_cases z2:y=p++ [w]
   ·rw[z1,z2]
   ·rw[if_pos z1]at hx;rw[if_neg z2]at hy;cases hx
    obtain⟨kb,e⟩:=T.nodes.node y _ hy;rw[hm]at e;cases e
  ·by_cases z2:y=p++ [w]
   ·rw[if_neg z1]at hx;rw[if_pos z2]at hy;cases hy
    obtain⟨kb,e⟩:=T.nodes.node x _ hx;rw[hm]at e;cases e
   ·rw[if_neg z1]at hx;rw[if_neg z2]at hy;exact T.nodes.inj x y b hx hy
 ·rw[g];by_cases z:x=p++ [w]
  ·rw[if_pos z];exact⟨λ_=> .inr z,λ_=>⟨m,zr⟩⟩
  ·rw[if_neg z,T.dom x];exact⟨.inl,λq=>q.elim id λq=>absurd q z⟩
 ·rw[g]at D;by_cases z:x=p++ [w]
  ·rw[if_pos z]at D;cases D
   exact s0.free hm
  ·rw[if_neg z]at D;exact T.new x b D
 ·rw[g]at D;by_cases z:x=p++ [w]
  ·rw[if_pos z]at D;cases D
   rw[hM]at e;cases e
   exact z4a _
  ·rw[if_neg z]at D;obtain⟨Z,J⟩:=T.nodes.node x b D;have hs:=T.size x b Z D J;rcases O b Z J with ⟨_,rfl,q⟩ | q
   ·rw[q]at e;cases e
    have:=q3x Z (Sum.inr w) (V.ref m)
    lia
   ·rw[q]at e;cases e
    lia
 ·rw[g]at D;by_cases z:x=p++ [w]
  ·rw[if_pos z]at D;cases D
   rw[hM]at e;cases e
   cases hv
  ·rw[if_neg z]at D;obtain⟨Z,J⟩:=T.nodes.node x b D;rcases O b Z J with ⟨_,rfl,q⟩ | q
   ·rw[q]at e;cases e
    rw[q4x]at hv;by_cases hu:(Sum.inr u:Key)=Sum.inr w
    ·rw[if_pos hu]at hv;cases hv
     exact⟨m,zr⟩
    ·rw[if_neg hu]at hv;exact T.refs x b _ u v D J hv
   ·rw[q]at e;cases e
    exact T.refs x b _ u v D J hv
 ·rw[g]at D;by_cases z:x=p++ [w]
  ·rw[if_pos z]at D;cases D
   rw[hM]at e;cases e
   exact⟨[],zr,z3f⟩
  ·rw[if_neg z]at D;obtain⟨Z,J⟩:=T.nodes.node x b D;obtain⟨us,a0⟩:=T.nd x b Z D J;rcases O b Z J with ⟨_,rfl,q⟩ | q
   ·rw[q]at e;cases e
    exact a0.put w (.ref m)
   ·rw[q]at e;cases e
    exact⟨us,a0⟩
def endW:Str:=""
def q14{n:Nat}(h:n < 1000000):n < sizeLine:=z1r h (by decide)
def qzz:Sp:=λvs H Q _=>∃(H0:Hp) (r t:Addr) (ws:xD) (S:List Str->Prop) (n:Nat),vs=[.ref r,.ref t]/\H0 t=some (.tup (ws.map V.str))/\Same H0 H/\PathOk H0 H r S n/\n+ws.length<=900000/\¬ S (ws++ [endW])/\
 ∀H' S',Same H0 H'->PathOk H0 H' r S' (n+ws.length+1)->(∀x,S' x↔S x\/ x <+:ws++ [endW])->Q .non H'
def qnh(T:Txt K mg):Def P w K mg base 1 "put_into" ["tree","words"] qzz:=by
  refine T.qqg.ok q6h (λvs H Q E h=>?_) λf cdv A outer s H vs Q E hr h=>?_
  · obtain⟨H0,r,t,ws,S,n,rfl,_⟩:=h
    rfl
  · obtain⟨H0,r,t,ws,S,n,rfl,ht,s0,T0,hn,hS,q⟩:=h
    refine⟨_,(q3f
      (qm (i:=2) q6h.nd rfl (Or.inl rfl) (pv 0))
      (q1o PassesOwn.never rfl (q5x K (pv 1)) (qu (i:=3) q6h.nd rfl (Or.inl rfl)) (qg (qm (i:=2) q6h.nd rfl (Or.inl rfl) (qlf (pv 2) (pv 3) q5w ⟨rfl,rfl,rfl,rfl⟩))))
      (q94 (q33 hr) (pv 2) (qk6 rfl T.c_END) q5w rfl)),?_⟩
    refine⟨_,zr,?_⟩;refine⟨_,rfl,t,rfl,⟨_,SqT.of (s0 _ _ ht)⟩,q90 (xs:=ws.map V.str) (λi σ H'=>∃(c:Addr) (v:Option V) (S':List Str->Prop),σ=[some (.ref r),some (.ref t),some (.ref c),v]/\Same H0 H'/\PathOk H0 H' r S' (n+i)/\(∀x,S' x↔S x\/ x <+:ws.take i)/\go H' r (ws.take i)=some c)
      ⟨r,none,S,rfl,s0,T0,λx=>⟨.inl,λz=>z.elim id λz=>?_⟩,rfl⟩ (λi σ H' _ z=>by obtain⟨_,_,_,_,z,_⟩:=z;exact SqT.of (z _ _ ht)) ?_ ?_⟩
    · have:x=[]:=by simpa using z
      rw[this];exact(T0.dom []).mp ⟨r,zr⟩
    · rintro i x σ H1 hx ⟨c,v,S',rfl,s1,J,D,Z⟩
      rw[z22]at hx;obtain⟨u,hu,rfl⟩:=z0q.mp hx;have il:i < ws.length:=(z07.mp hu).1;obtain⟨kvs,O⟩:=J.nodes.node _ c Z;have et:ws.take (i+1)=ws.take i++ [u]:=by
        rw[z3g,hu];rfl
      have a0:∀x,x <+:ws.take (i+1)↔x <+:ws.take i\/ x=ws.take i++ [u]:=λx=>by
        rw[et,List.prefix_concat_iff];exact or_comm
      refine⟨_,zr,c,zr,.inl ⟨kvs,.inl O⟩,_,zr,λm hm=>?_⟩;have sz:=J.size _ c kvs Z O;have a1:c≠m:=qz O hm;refine⟨kvs,Sum.inr u,by rw[qi a1];exact O,rfl,q14 (by lia),λv hv=>?_,λhv=>?_⟩
      · obtain⟨b,rfl⟩:=J.refs _ c kvs u v Z O hv
        have hg:go (upd H1 m (.dK [])) r (ws.take (i+1))=some b:=by
          rw[qs9 J.nodes hm _ [] r rfl,et,q3j,Z];show go H1 c [u]=some b;rw[q1x O];unfold kidV;rw[hv];rfl
        have T2:=J.lay (o:=HO.dK []) hm;refine⟨b,_,S',zr,s1.trans (qf hm),⟨T2.nodes,T2.dom,T2.new,λp a k h1 h2=>Nat.le_succ_of_le (T2.size p a k h1 h2),T2.refs,T2.nd⟩,λx=>?_,hg⟩;have a2:S' (ws.take (i+1)):=(T2.dom _).mp ⟨b,hg⟩;rw[D x,a0]
        constructor
        · rintro (z | z)
          · exact .inl z
          · exact .inr (.inl z)
        · rintro (z | z | z)
          · exact .inl z
          · exact .inr z
          · rw[z,<- et]
            exact(D _).mp a2
      · have hk:kidV kvs u=none:=by
          unfold kidV;rw[hv]
        obtain⟨T2,hg⟩:=qif J s1 Z O hk hm;refine⟨m,_,_,rfl,?_,T2,λx=>?_,by rw[et];exact hg⟩
        · exact(s1.trans (qf hm)).set (J.new _ c Z)
        · show S' x\/ x=ws.take i++ [u]↔_
          rw[D x,a0,or_assoc]
    · rintro σ H1 ⟨c,v,S',rfl,s1,J,D,Z⟩
      rw[z30]at J;rw[z30,z2t]at Z;rw[z30,z2t]at D;obtain⟨kvs,O⟩:=J.nodes.node _ c Z;have sz:=J.size _ c kvs Z O;intro m hm;have a1:c≠m:=qz O hm;have hk:kidV kvs endW=none:=by
        cases e:kidV kvs endW with
        | none=>rfl
        | some b=>
          have:S' (ws++ [endW]):=(J.dom _).mp ⟨b,by
            rw[q3j,Z];show go H1 c [endW]=some b;rw[q1x O,e];rfl⟩
          rcases (D _).mp this with z | z
          · exact absurd z hS
          · have:=z.length_le
            rw[z1o,z0y]at this
            lia
      obtain⟨T2,hg⟩:=qif J s1 Z O hk hm;refine⟨_,rfl,c,_,rfl,DPut.k (k:=Sum.inr endW) (by rw[qi a1];exact O) (q14 (by lia)),?_⟩;refine q _ _ ((s1.trans (qf hm)).set (J.new _ c Z)) T2 λx=>?_;show S' x\/ x=ws++ [endW]↔_;rw[D x,List.prefix_concat_iff,or_assoc,or_comm (a:=x=ws++ [endW])]
def kidR(kvs:List (Key×V))(w:Str):V:=(valV kvs (.inr w)).getD .non
def qy7:Sp:=λvs H Q _=>∃(a m:Addr) (kvs mvs:List (Key×V)) (us ms:xD),vs=[.ref a,.ref m]/\a≠m/\H a=some (.dK kvs)/\H m=some (.dK mvs)/\Ks kvs us/\Ks mvs ms/\us.length<=900000/\ms.length<=900000/\
 ∀p (ws:xD) H',Same H H'->H p=none->H' p=some (.lst (ws.map (kidR kvs)))->ws.Nodup->(∀w,w∈ws↔w∈us/\w∈ms)->Q (.ref p) H'
def qgx{kvs:List (Key×V)}{w:Str}(h:(valV kvs (.inr w)).isSome=true):valV kvs (.inr w)=some (kidR kvs w):=by
 unfold kidR;cases e:valV kvs (.inr w) with
 | none=>rw[e]at h;cases h
 | some v=>rfl
def qgy(T:Txt K mg):Def P w K mg base 1 "kids_within" ["node","members"] qy7:=by
 refine T.qjw.ok qgl (λvs H Q E h=>?_) λf cdv A outer s H vs Q E hr h=>?_
 ·obtain⟨a,m,kvs,a1,us,ms,rfl,_⟩:=h;rfl
 ·obtain⟨a,m,kvs,a1,us,ms,rfl,a2,ha,hm,k1,k2,l1,l2,k⟩:=h;have e1:=k1.len;have e2:=k2.len;refine⟨_,(q39
   (q12 (qp qw6 (qo qi6 rfl T.b_len q4r (pa_1 (pv 0))) (qo qi6 rfl T.b_len q4r (pa_1 (pv 1))) (qq _)) (qg (qh (qob (q2d (N:=["word","node","members"]) (caps:=[none,some 0,some 1]) rfl (by with_unfolding_all rfl) (qle (pv 0)) (λ_ _ _ _ _=>(qu (i:=0) (show (["word","node","members"]:xD).Nodup by decide+kernel) rfl (Or.inl rfl))) (λ_ _ _ _ _=>qaz (qeo (ql3 (q33 hr) (pv 0) (pv 2)))) (λ_ _ _ _ _=>(q56 (q33 hr) (pv 1) (pv 0) (λ_ _=>rfl))))))) qr)
   (qh (qob (q2d (N:=["word","node"]) (caps:=[none,some 0]) rfl (by with_unfolding_all rfl) (qle (pv 1)) (λ_ _ _ _ _=>(qu (i:=0) (show (["word","node"]:xD).Nodup by decide+kernel) rfl (Or.inl rfl))) (λ_ _ _ _ _=>qaz (qeo (ql3 (q33 hr) (pv 0) (pv 1)))) (λ_ _ _ _ _=>(q56 (q33 hr) (pv 1) (pv 0) (λ_ _=>rfl))))))),?_⟩
  refine⟨_,zr,a,kvs,zr,ha,_,zr,m,a1,zr,hm,_,_,zr,zr,_,zr,ite2 (λ_=>?_) (λ_=>?_)⟩
  ·refine⟨_,zr,a,kvs,zr,.inl ⟨ha,λo D hD=>?_⟩⟩;have O:D≠a:=λz=>by rw[z,qb]at hD;cases hD
   have Z:H D=none:=by rw[qi O]at hD;exact hD
   refine q1u kvs.length (λi σ' H'=>(∃v,σ'=[v,some (.ref a),some (.ref m)])/\(∀b u,b≠a->H b=some u->H' b=some u)/\H' a=some (.frz o (.dK kvs))/\H' D=some (.lst (((us.take i).filter λw=>decide (w∈ms)).map (kidR kvs)))) ⟨⟨_,rfl⟩,(λb u hb e=>by rw[qi (qz e Z),qi hb];exact e),by rw[qi O.symm,qb],qb⟩ (λi σ' H' hi p=>⟨p.2.2.1,hi⟩) (λσ' H' p=>⟨⟨p.2.2.1,z47 _⟩,?_⟩) (λi σ' H' hi p x H2 y=>?_)
   ·obtain⟨_,sm,ea,eD⟩:=p;refine .inr ⟨a,o,kvs,ea,(λo u z=>by have z':H a=some (.frz o u):=z;rw[ha]at z';cases z'),?_⟩;rw[<- e1,z2t]at eD;refine k D _ _ (λb u e=>?_) Z (by rw[qi O];exact eD) (k1.2.filter _) λw=>by rw[z2x];simp
    by_cases z:b=a
    ·subst z;rw[ha]at e;cases e
     exact qb
    ·rw[qi z];exact sm b u z e
   ·obtain⟨⟨v,rfl⟩,sm,ea,eD⟩:=p;obtain⟨rfl,kv,hk,rfl⟩:=y;obtain⟨w,hw,ew⟩:=k1.get hk;rw[ew];have J:(us.take (i+1)).filter (λw=>decide (w∈ms))=(us.take i).filter (λw=>decide (w∈ms))++(if w∈ms then [w] else []):=by
     rw[z3g,hw,z1u]
     congr 1
     by_cases z:w∈ms
     ·rw[if_pos z];simp[z]
     ·rw[if_neg z];simp[z]
    refine⟨_,zr,_,zr,m,_,zr,DGet.k (k:=Sum.inr w) (sm m _ a2.symm hm),_,zr,ite2 (λh1=>?_) (λh1=>?_)⟩
    ·have a0:w∈ms:=(k2.mem w).mpr h1;have hu:w∈us:=z18 hw;refine⟨_,zr,_,zr,a,kidR kvs w,zr,.inl ⟨kvs,.inr w,.inr ⟨o,ea⟩,zr,(qgx ((k1.mem w).mp hu)).symm⟩,?_⟩;refine⟨_,eD,?_,⟨_,rfl⟩,(λb u hb e=>by rw[qi (qz e Z)];exact sm b u hb e),by rw[qi O.symm];exact ea,?_⟩
     ·rw[z30];exact q14 (by have:=z10 (λw=>decide (w∈ms)) (us.take i);rw[z2g]at this;lia)
     ·rw[qb,J,if_pos a0,z35];rfl
    ·have a0:w∉ms:=λz=>h1 ((k2.mem w).mp z);exact⟨⟨_,rfl⟩,sm,ea,by rw[J,if_neg a0,z31];exact eD⟩
  ·refine⟨_,zr,m,a1,zr,.inl ⟨hm,λo D hD=>?_⟩⟩;have O:D≠m:=λz=>by rw[z,qb]at hD;cases hD
   have Z:H D=none:=by rw[qi O]at hD;exact hD
   refine q1u a1.length (λi σ' H'=>(∃v,σ'=[v,some (.ref a)])/\(∀b u,b≠m->H b=some u->H' b=some u)/\H' m=some (.frz o (.dK a1))/\H' D=some (.lst (((ms.take i).filter λw=>decide (w∈us)).map (kidR kvs)))) ⟨⟨_,rfl⟩,(λb u hb e=>by rw[qi (qz e Z),qi hb];exact e),by rw[qi O.symm,qb],qb⟩ (λi σ' H' hi p=>⟨p.2.2.1,hi⟩) (λσ' H' p=>⟨⟨p.2.2.1,z47 _⟩,?_⟩) (λi σ' H' hi p x H2 y=>?_)
   ·obtain⟨_,sm,ea,eD⟩:=p;refine .inr ⟨m,o,a1,ea,(λo u z=>by have z':H m=some (.frz o u):=z;rw[hm]at z';cases z'),?_⟩;rw[<- e2,z2t]at eD;refine k D _ _ (λb u e=>?_) Z (by rw[qi O];exact eD) (k2.2.filter _) λw=>by rw[z2x,and_comm];simp
    by_cases z:b=m
    ·subst z;rw[hm]at e;cases e
     exact qb
    ·rw[qi z];exact sm b u z e
   ·obtain⟨⟨v,rfl⟩,sm,ea,eD⟩:=p;obtain⟨rfl,kv,hk,rfl⟩:=y;obtain⟨w,hw,ew⟩:=k2.get hk;rw[ew];have J:(ms.take (i+1)).filter (λw=>decide (w∈us))=(ms.take i).filter (λw=>decide (w∈us))++(if w∈us then [w] else []):=by
     rw[z3g,hw,z1u]
     congr 1
     by_cases z:w∈us
     ·rw[if_pos z];simp[z]
     ·rw[if_neg z];simp[z]
    refine⟨_,zr,_,zr,a,_,zr,DGet.k (k:=Sum.inr w) (sm a _ a2 ha),_,zr,ite2 (λh1=>?_) (λh1=>?_)⟩
    ·have a0:w∈us:=(k1.mem w).mpr h1;refine⟨_,zr,_,zr,a,kidR kvs w,zr,?_,?_⟩
     ·rw[<- qgx h1];exact DGet.k (sm a _ a2 ha)
     refine⟨_,eD,?_,⟨_,rfl⟩,(λb u hb e=>by rw[qi (qz e Z)];exact sm b u hb e),by rw[qi O.symm];exact ea,?_⟩
     ·rw[z30];exact q14 (by have:=z10 (λw=>decide (w∈us)) (ms.take i);rw[z2g]at this;lia)
     ·rw[qb,J,if_pos a0,z35];rfl
    ·have a0:w∉us:=λz=>h1 ((k1.mem w).mp z);exact⟨⟨_,rfl⟩,sm,ea,by rw[J,if_neg a0,z31];exact eD⟩
def mu(acc:xF)(p:xD):Nat:=1+(acc.map λq=>if p <+:q++ [endW] then q.length+2 - p.length else 0).sum
theorem qlw{α:Type}(f g:α->Nat):∀l:List α,(l.map λx=>f x+g x).sum=(l.map f).sum+(l.map g).sum
 | []=>rfl
 | x::l=>by
  rw[z3k,z3k,z3k,z3r,z3r,z3r,qlw f g l]
  lia
theorem qbk{α:Type}{f:α->Nat}:∀{l:List α},(∀x∈l,f x=0)->(l.map f).sum=0
 | [],_=>rfl
 | x::l,h=>by
  rw[z3k,z3r,h x (z1p ..),qbk λy hy=>h y (z16 _ hy)]
theorem qgz{α:Type}{f g:α->Nat}:∀{l:List α},(∀x∈l,f x<=g x)->(l.map f).sum<=(l.map g).sum
 | [],_=>z47 _
 | x::l,h=>by
  rw[z3k,z3k,z3r,z3r];exact Nat.add_le_add (h x (z1p ..)) (qgz λy hy=>h y (z16 _ hy))
theorem qh0{α:Type}{f:α->Nat}:∀{l:List α},(∀x∈l,1<=f x)->l.length<=(l.map f).sum
 | [],_=>z47 _
 | x::l,h=>by
  rw[z3k,z3r,z2i];have:=h x (z1p ..);have:=qh0 λy hy=>h y (z16 _ hy)
  lia
def qy8{p q:xD}{w v:Str}(h1:p++ [w] <+:q)(h2:p++ [v] <+:q):w=v:=by
 obtain⟨s,rfl⟩:=h1;obtain⟨t,e⟩:=h2;rw[z1y,z1y]at e;have:=List.append_cancel_left e;simp at this
 exact this.1.symm
theorem qog(p q:xD)(c:Nat):∀{ws:xD},ws.Nodup->(ws.map λw=>if p++ [w] <+:q then c else 0).sum<=if p <+:q then c else 0
 | [],_=>z4a _
 | w::ws,nd=>by
  rw[z3k,z3r];have D:=z32.mp nd;by_cases h:p++ [w] <+:q
  ·have hp:p <+:q:=(List.prefix_append p [w]).trans h;rw[if_pos h,if_pos hp,qbk λv hv=>if_neg λz=>D.1 (by rw[qy8 h z];exact hv)]
   lia
  ·rw[if_neg h,z3w];exact qog p q c D.2
theorem qlx(p:xD){ws:xD}(nd:ws.Nodup):∀acc:List (List Str),(ws.map λw=>(acc.map λq=>if p++ [w] <+:q++ [endW] then q.length+2 - p.length else 0).sum).sum<=(acc.map λq=>if p <+:q++ [endW] then q.length+2 - p.length else 0).sum
 | []=>Nat.le_of_eq (qbk λ_ _=>rfl)
 | q::acc=>by
  have e:(ws.map λw=>((q::acc).map λq=>if p++ [w] <+:q++ [endW] then q.length+2 - p.length else 0).sum)=ws.map λw=>(if p++ [w] <+:q++ [endW] then q.length+2 - p.length else 0)+(acc.map λq=>if p++ [w] <+:q++ [endW] then q.length+2 - p.length else 0).sum:=by
   apply z1f
   intro w _;rw[z3k,z3r]
  rw[e,qlw,z3k,z3r];exact Nat.add_le_add (qog p (q++ [endW]) _ nd) (qlx p nd acc)
theorem qsa{p:xD}{w:Str}:∀{acc:xF},(∃q∈acc,p++ [w] <+:q++ [endW])->mu acc (p++ [w])<=(acc.map λq=>if p++ [w] <+:q++ [endW] then q.length+2 - p.length else 0).sum
 | [],h=>by
  obtain⟨_,h,_⟩:=h;cases h
 | q::acc,h=>by
  unfold mu;rw[z3k,z3r,z3k,z3r];have all:(acc.map λq=>if p++ [w] <+:q++ [endW] then q.length+2 - (p++ [w]).length else 0).sum<=(acc.map λq=>if p++ [w] <+:q++ [endW] then q.length+2 - p.length else 0).sum:=qgz λq _=>by
   split
   ·rw[z1o]
    lia
   ·exact z47 _
  by_cases hq:p++ [w] <+:q++ [endW]
  ·rw[if_pos hq,if_pos hq];have hl:=hq.length_le;rw[z1o,z1o,z0y,z0y]at hl;have e1:(p++ [w]).length=p.length+1:=by rw[z1o];rfl
   lia
  ·rw[if_neg hq,if_neg hq];have:∃q∈acc,p++ [w] <+:q++ [endW]:=by
    obtain⟨q',h1,h2⟩:=h;rcases z3m.mp h1 with rfl | h1
    ·exact absurd h2 hq
    ·exact⟨q',h1,h2⟩
   have:=qsa this;unfold mu at this
   lia
def qy9{acc:xF}{p ws:xD}(nd:ws.Nodup)(h:∀w∈ws,∃q∈acc,p++ [w] <+:q++ [endW]):((ws.map λw=>p++ [w]).map (mu acc)).sum < mu acc p:=by
 rw[z46];have h1:(ws.map (mu acc∘λw=>p++ [w])).sum<=(ws.map λw=>(acc.map λq=>if p++ [w] <+:q++ [endW] then q.length+2 - p.length else 0).sum).sum:=qgz λw hw=>qsa (h w hw);have h2:=qlx p nd acc;show _ < 1+_
 lia
def qni{α β:Type}{F:α->β->Prop}{xs:List α}{ps:List β}(h:Paired F xs ps):xs≠ []->∃ys y D p,xs=ys++ [y]/\ps=D++ [p]/\Paired F ys D/\F y p:=by
 induction h with
 | nil=>exact λz=>absurd rfl z
 | @cons a b as bs h1 h2 ih=>
  intro _;cases as with
  | nil=>
   cases h2
   exact⟨[],a,[],b,zr,zr,.nil,h1⟩
  | cons c cs=>
   obtain⟨ys,y,D,p,e1,e2,h3,h4⟩:=ih (by simp);exact⟨a::ys,y,b::D,p,by rw[e1];rfl,by rw[e2];rfl,.cons h1 h3,h4⟩
theorem qig{α β γ:Type}{F:α->β->Prop}{f:γ->α}{g:γ->β}:∀{l:List γ},(∀x∈l,F (f x) (g x))->Paired F (l.map f) (l.map g)
 | [],_=> .nil
 | x::l,h=> .cons (h x (z1p ..)) (qig λy hy=>h y (z16 _ hy))
structure Paths (acc:xF) (S:List Str->Prop):Prop where
 dom:∀p,S p↔p=[]\/ ∃q∈acc,p <+:q++ [endW]
 ne:∀q∈acc,endW∉q
def qoh{p q:xD}(h:p++ [endW] <+:q++ [endW])(hq:endW∉q):p=q:=by
 rcases List.prefix_concat_iff.mp h with e | h
 ·exact List.append_cancel_right e
 ·exact absurd (h.subset (by simp)) hq
theorem qih(w:Str):∀(ws:xD) (m:List (Key×V)),(valV (q44 (ws.map λw=>(w,V.bl true)) m) (.inr w)).isSome=true↔w∈ws\/ (valV m (.inr w)).isSome=true
 | [],m=>by simp[q44]
 | x::ws,m=>by
  show (valV (q44 (ws.map λw=>(w,V.bl true)) (putK m (.inr x) (.bl true))) (.inr w)).isSome=true↔_;rw[qih w ws,q4x];by_cases e:w=x
  ·subst e;rw[if_pos rfl];simp
  ·rw[if_neg (λz=>e (by injection z)),z3m];simp[e]
theorem qly:∀(ws:xD) (m:List (Key×V)) {us:xD},Ks m us->∃D,Ks (q44 (ws.map λw=>(w,V.bl true)) m) D
 | [],m,us,h=>⟨us,h⟩
 | x::ws,m,us,h=>by
  obtain⟨D,h'⟩:=h.put x (.bl true);exact qly ws _ h'
def q100:Sp:=λvs H Q _=>∃(H0:Hp) (r t:Addr) (ws:xD) (acc:xF) (S:List Str->Prop) (n:Nat),vs=[.ref r,.ref t]/\H t=some (.tup (ws.map V.str))/\PathOk H0 H r S n/\n<=900000/\ws.length<=1000/\Paths acc S/\mu acc []<=900000/\
 ∀H',Same H H'->Q (.bl (decide (∃q∈acc,∀w∈q,w∈ws))) H'
def qck(T:Txt K mg):Def P w K mg base 2 "has_one_within" ["tree","words"] q100:=by
  refine T.qec.ok q3g (λvs H Q E h=>?_) λf cdv A outer s H vs Q E hr h=>?_
  · obtain⟨H0,r,t,ws,acc,S,n,rfl,_⟩:=h
    rfl
  · obtain⟨H0,r,t,ws,acc,S,n,rfl,ht,T0,hn,hl,hP,d2,k⟩:=h
    refine⟨_,(qc5
      (qm (i:=2) q3g.nd rfl (Or.inl rfl) (q2v (qpj rfl K) rfl T.q112 qxm (pa_1 (q2d (N:=["word"]) (caps:=[none]) rfl (by with_unfolding_all rfl) (q5x K (pv 1)) (λ_ _ _ _ _=>(qu (i:=0) (show (["word"]:xD).Nodup by decide+kernel) rfl (Or.inl rfl))) (λ_ _ _ _ _=>q2u) (λ_ _ _ _ _=>(qkv (pa_2 (pv 0) q3p)))))))
      (qm (i:=3) q3g.nd rfl (Or.inl rfl) (q1p (pa_1 (pv 0))))
      (qtt PassesOwn.never (qp qw7 (qo (q3l K) rfl T.b_len q4r (pa_1 (pv 3))) qc (qq _)) (q3f
      (qm (i:=4) q3g.nd rfl (Or.inl rfl) (qz9 z0l PySem.F.slot_list_pop PySem.F.type_list_pop qza (pv 3)))
      (q12 (qeo (ql3 (q33 hr) (qk6 rfl T.c_END) (pv 4))) (qg (qh q3p)) qr)
      (q2i (q43 z0l z0e z0f q6j (pv 3) (pa_1 (q11 (qgy T) hr rfl (pa_2 (pv 4) (pv 2))))))))
      (qh q3p)),?_⟩
    refine⟨_,zr,t,zr,⟨_,SqT.of ht⟩,λD hD=>?_⟩;refine q1u (ws.map V.str).length (λi σ' H'=>(∃v,σ'=[v])/\Same H H'/\∃ys,H' D=some (.lst ys)/\ys.length=i/\∀H2,KeepT H' H2->Paired (qpi K H2) ys ((ws.take i).map λw=>(w,V.bl true))) ⟨⟨_,zr⟩,qf hD,[],qb,zr,λ_ _=> .nil⟩ (λi σ' H' hi p=>?_) (λσ' H' p=>⟨?_,?_⟩) (λi σ' H' hi p x H2 y=>?_)
    · obtain⟨_,sm,_⟩:=p
      exact⟨_,(ws.map V.str)[i],SqT.of (sm _ _ ht),z0d hi⟩
    · obtain⟨_,sm,_⟩:=p
      exact⟨_,SqT.of (sm _ _ ht),z47 _⟩
    · obtain⟨_,s1,ys,ey,ly,hy⟩:=p
      have c1:=hy H' λ_ _ e=>e;rw[z30,z2t]at c1;refine⟨D,ys,_,zr,SqL.of ey,c1,λm hm=>?_⟩;have s2:=s1.trans (qf (o:=HO.dK (q44 (ws.map λw=>(w,V.bl true)) [])) hm);have em:=qb (H:=H') (a:=m) (o:=HO.dK (q44 (ws.map λw=>(w,V.bl true)) []));obtain⟨ms,b7⟩:=qly ws [] (us:=[]) ⟨rfl,z3f⟩;have c7:∀w,w∈ms↔w∈ws:=λw=>by
        rw[b7.mem,qih];simp[valV]
      have lms:ms.length<=1000:=by
        rw[b7.len];have:=qb5 (ws.map λw=>(w,V.bl true)) [];rw[z30]at this;simp at this
        lia
      have c9:H m=none:=s1.free hm;generalize upd H' m (.dK (q44 (ws.map λw=>(w,V.bl true)) []))=G at*;generalize q44 (ws.map λw=>(w,V.bl true)) []=d7 at*;refine⟨_,rfl,by show 1<=sizeLine;decide,λq hq=>?_⟩;have hqH:H q=none:=s2.free hq;refine⟨λmm σ H'=>∃(v:Option V) (xs:List V) (ps:xF),σ=[some (.ref r),some (.ref t),some (.ref m),some (.ref q),v]/\Same G H'/\H' q=some (.lst xs)/\Paired (λx p=>∃b,x=V.ref b/\go H r p=some b) xs ps/\(∀p∈ps,∀w∈p,w∈ws)/\(∀u∈acc,(∀w∈u,w∈ws)->∃p∈ps,p <+:u)/\mm=(ps.map (mu acc)).sum/\mm<=900000,
        ⟨mu acc [],none,[.ref r],[[]],rfl,qf hq,qb,.cons ⟨r,rfl,rfl⟩ .nil,(λp hp w hw=>by rw[z1m.mp hp]at hw;cases hw),(λu _ _=>⟨[],by simp,List.nil_prefix⟩),by simp,d2⟩,?_⟩
      rintro mm σ G1 ⟨v,xs,ps,rfl,s3,eq,b6,b5,b3,d0,d8⟩;have lxs:xs.length<=900000:=by
        have h1:=Paired.length b6;have h2:=qh0 (f:=mu acc) (l:=ps) λp _=>by unfold mu;lia
        lia
      refine⟨_,zr,_,_,zr,.inl ⟨_,SqL.of eq,zr⟩,_,_,zr,zr,_,zr,ite2 (λh1=>?_) (λh1=>?_)⟩
      · have d3:xs≠ []:=λz=>by
          rw[z]at h1;exact absurd h1 (by decide)
        obtain⟨a6,y,qs,p,rfl,rfl,d6,b,rfl,hb⟩:=qni b6 d3;refine⟨λσ' G'=>∃m',m' < mm/\∃(v:Option V) (xs:List V) (ps:xF),σ'=[some (.ref r),some (.ref t),some (.ref m),some (.ref q),v]/\Same G G'/\G' q=some (.lst xs)/\Paired (λx p=>∃b,x=V.ref b/\go H r p=some b) xs ps/\(∀p∈ps,∀w∈p,w∈ws)/\(∀u∈acc,(∀w∈u,w∈ws)->∃p∈ps,p <+:u)/\m'=(ps.map (mu acc)).sum/\m'<=900000,λ_ _ z=>z,?_⟩;obtain⟨kvs,Z⟩:=T0.nodes.node p b hb;obtain⟨us,a9⟩:=T0.nd p b kvs hb Z;have sz:=T0.size p b kvs hb Z;refine⟨_,zr,.inl ⟨zr,_,SqL.of eq⟩,_,_,.ref b,zr,zr,eq,by simp,?_⟩;rw[List.dropLast_concat];have s4:Same G (upd G1 q (.lst a6)):=s3.set hq;have e4:=qb (H:=G1) (a:=q) (o:=HO.lst a6);generalize upd G1 q (.lst a6)=G2 at*;have b2:=s4 _ _ (s2 _ _ Z);have c5:∀w,(valV kvs (.inr w)).isSome=true->∃c,kidR kvs w= .ref c/\go H r (p++ [w])=some c:=λw hw=>by
          have hv:=qgx hw;obtain⟨c,ec⟩:=T0.refs p b kvs w _ hb Z hv;refine⟨c,ec,?_⟩;rw[q3j,hb];show go H b [w]=some c;rw[q1x Z];unfold kidV;rw[hv,ec];rfl
        have b4:∀w,(valV kvs (.inr w)).isSome=true->∃u∈acc,p++ [w] <+:u++ [endW]:=λw hw=>by
          obtain⟨c,_,hc⟩:=c5 w hw;rcases (hP.dom _).mp ((T0.dom _).mp ⟨c,hc⟩) with z | z
          · simp at z
          · exact z
        refine⟨_,zr,b,_,zr,DGet.k (k:=Sum.inr endW) b2,_,zr,ite2 (λh2=>?_) (λh2=>?_)⟩
        · obtain⟨u,hu,a0⟩:=b4 endW h2
          have c8:=qoh a0 (hP.ne u hu);have kk:=k G2 (s2.trans s4);rw[z3b ⟨u,hu,by rw[<- c8];exact b5 p (by simp)⟩]at kk;exact kk
        · refine⟨_,rfl,.inl ⟨rfl,_,SqL.of e4⟩,_,rfl,_,rfl,b,m,kvs,d7,us,ms,rfl,qz Z c9,b2,s4 _ _ em,a9,b7,by rw[a9.len];lia,by lia,λc a1 G3 s5 hc ec nd a4=>?_⟩
          have c4:∀w∈a1,(valV kvs (.inr w)).isSome=true:=λw hw=>(a9.mem w).mp ((a4 w).mp hw).1;have hlt:=qy9 (acc:=acc) (p:=p) nd λw hw=>b4 w (c4 w hw);have d1:((qs++a1.map λw=>p++ [w]).map (mu acc)).sum < mm:=by
            rw[d0,z35,z35,List.sum_append,List.sum_append];simp only[z3k,z43,z3r,List.sum_nil]
            lia
          have a5:Paired (λx p=>∃b,x=V.ref b/\go H r p=some b) (a6++a1.map (kidR kvs)) (qs++a1.map λw=>p++ [w]):=q1m d6 (qig λw hw=>c5 w (c4 w hw));have c6:(a6++a1.map (kidR kvs)).length<=900000:=by
            have h1:=Paired.length a5;have h2:=qh0 (f:=mu acc) (l:=qs++a1.map λw=>p++ [w]) λp _=>by unfold mu;lia
            lia
          rw[z1o]at c6;refine⟨q,c,_,_,zr,zr,s5 _ _ e4,ec,z3x (q14 (by lia)),?_⟩;refine⟨_,d1,_,_,_,zr,(s4.trans s5).set hq,qb,a5,λp' J w hw=>?_,λu hu a8=>?_,zr,by lia⟩
          · rcases z2u.mp J with J | J
            · exact b5 p' (z2u.mpr (.inl J)) w hw
            · obtain⟨w',d5,rfl⟩:=z44.mp J
              rcases z2u.mp hw with hw | hw
              · exact b5 p (by simp) w hw
              · rw[z1m.mp hw]
                exact(c7 w').mp ((a4 w').mp d5).2
          · obtain⟨p',J,a0⟩:=b3 u hu a8
            rcases z2u.mp J with J | J
            · exact⟨p',z2u.mpr (.inl J),a0⟩
            · rw[z1m.mp J]at a0
              obtain⟨tl,a7⟩:=a0;cases tl with
              | nil=>
                rw[z31]at a7;refine absurd ?_ h2;obtain⟨c',a2⟩:=(T0.dom (p++ [endW])).mpr ((hP.dom _).mpr (.inr ⟨u,hu,by rw[a7];exact List.prefix_refl _⟩));rw[q3j,hb]at a2;have O:go H b [endW]=some c':=a2;rw[q1x Z]at O;cases e:valV kvs (.inr endW) with
                | none=>
                  unfold kidV at O;rw[e]at O;cases O
                | some _=>rfl
              | cons w' tl=>
                have b9:p++ [w'] <+:u:=⟨tl,by rw[<- a7];simp⟩;refine⟨p++ [w'],z2u.mpr (.inr (z44.mpr ⟨w',(a4 w').mpr ⟨?_,(c7 w').mpr (a8 w' (by rw[<- a7];simp))⟩,rfl⟩)),b9⟩;obtain⟨c',a2⟩:=(T0.dom (p++ [w'])).mpr ((hP.dom _).mpr (.inr ⟨u,hu,b9.trans (List.prefix_append _ _)⟩));rw[q3j,hb]at a2;have O:go H b [w']=some c':=a2;rw[q1x Z]at O;rw[a9.mem];cases e:valV kvs (.inr w') with
                | none=>
                  unfold kidV at O;rw[e]at O;cases O
                | some _=>rfl
      · have b8:xs=[]:=by
          cases xs with
          | nil=>rfl
          | cons x xs=>exact absurd (by simp) h1
        subst b8;cases b6
        have kk:=k G1 (s2.trans s3);rw[z2w (by
          rintro ⟨u,hu,a8⟩;obtain⟨p,hp,_⟩:=b3 u hu a8;cases hp)]at kk
        exact kk
    · obtain⟨⟨v,rfl⟩,sm,ys,ey,ly,hy⟩:=p
      obtain⟨rfl,hx⟩:=y;have c0:=hx _ (SqT.of (sm _ _ ht));rw[z22]at c0;obtain⟨z,hz,rfl⟩:=z0q.mp c0;refine⟨_,rfl,by show 2<=sizeLine;decide,λp hp=>?_⟩;have s2:=qf (o:=HO.tup [.str z,.bl true]) hp;have d4:p≠D:=(qz ey hp).symm;refine⟨_,s2 _ _ ey,by rw[ly];exact q14 (by rw[z30]at hi;lia),⟨_,rfl⟩,(sm.trans s2).set hD,ys++ [.ref p],qb,by rw[z1o,ly];rfl,λG hG=>?_⟩;rw[z3g,hz,z35];refine q1m (hy G λb zs e=>hG b zs ?_) (.cons ⟨p,zr,SqT.of (hG p _ (by rw[qi d4,qb]))⟩ .nil);rw[qi (λz=>by rw[z,ey]at e;cases e)];exact s2 _ _ e
def qlz:bootBuiltins "set"=some (.type "set"):=by decide+kernel
def encB(U:xF):List (List Key×V):=U.map λu=>(u.map Sum.inr,V.bl true)
def addU(U:xF)(u:xD):List (List Str):=if u∈U then U else U++ [u]
def qup(U:xF)(u:xD):putK (encB U) (u.map Sum.inr) (V.bl true)=encB (addU U u):=by
 have any:((encB U).any λD=>decide (D.1=u.map Sum.inr))=decide (u∈U):=by
  rw[z2z,z2p,decide_eq_true_iff]
  constructor
  ·rintro ⟨D,hk,e⟩;obtain⟨v,hv,rfl⟩:=z44.mp hk;have:=qc8.mp (of_decide_eq_true e);rw[<- this];exact hv
  ·intro h;exact⟨_,z44.mpr ⟨u,h,zr⟩,z3b rfl⟩
 unfold putK addU;rw[any];by_cases h:u∈U
 ·rw[if_pos (z3b h),if_pos h];unfold encB;rw[z46]
  apply z1f
  intro v _;show (if v.map (Sum.inr:Str->Key)=u.map Sum.inr then (v.map Sum.inr,V.bl true) else (v.map Sum.inr,V.bl true))=_;split <;> rfl
 ·rw[if_neg (by simpa using h),if_neg h];unfold encB;rw[z35];rfl
def quq{U:xF}{u v:xD}:v∈addU U u↔v∈U\/ v=u:=by
 unfold addU;by_cases h:u∈U
 ·rw[if_pos h];exact⟨.inl,λz=>z.elim id λz=>by rw[z];exact h⟩
 ·rw[if_neg h,z2u,z1m]
def qya{U:xF}{u:xD}(h:U.Nodup):(addU U u).Nodup:=by
 unfold addU;by_cases D:u∈U
 ·rw[if_pos D];exact h
 ·rw[if_neg D,z2d];exact⟨h,by simp,λa ha b hb e=>D (by rw[<- z1m.mp hb,<- e];exact ha)⟩
def qur{U:xF}{u:xD}:(addU U u).length<=U.length+1:=by
 unfold addU;split
 ·lia
 ·rw[z1o];exact z47 _
def szF(U:xF)(n:Int):List (List Str):=U.filter λu=>decide ((u.length:Int)=n)
structure Mid (H0 H:Hp) (kvs:List (Key×V)) (ns:List Int) (U:xF):Prop where
 keys:kvs.map (·.1)=ns.map Sum.inl
 nd:ns.Nodup
 has:∀n∈ns,∃c xs,valV kvs (.inl n)=some (.ref c)/\H c=some (.lst xs)/\q1b H xs (szF U n)/\H0 c=none
 inj:∀n m c,valV kvs (.inl n)=some (.ref c)->valV kvs (.inl m)=some (.ref c)->n=m
 all:∀u∈U,(u.length:Int)∈ns
def qc9{kvs:List (Key×V)}{ns:List Int}(h:kvs.map (·.1)=ns.map Sum.inl)(n:Int):n∈ns↔(valV kvs (.inl n)).isSome=true:=by
 rw[qdu]
 constructor
 ·intro hn;have:(Sum.inl n:Key)∈kvs.map (·.1):=by
   rw[h];exact z44.mpr ⟨n,hn,zr⟩
  obtain⟨J,hk,e⟩:=z44.mp this;exact⟨J,hk,e⟩
 ·rintro ⟨J,hk,e⟩;have:(Sum.inl n:Key)∈ns.map Sum.inl:=by
   rw[<- h,<- e];exact z44.mpr ⟨J,hk,zr⟩
  obtain⟨m,hm,D⟩:=z44.mp this;injection D with D;rw[<- D];exact hm
theorem q1i{H H':Hp}(k:KeepT H H'):∀{zs:List V} {ps:xF},q1b H zs ps->q1b H' zs ps
 | _,_,.nil=> .nil
 | _,_,.cons ⟨b,e,hb⟩ h=> .cons ⟨b,e,k _ _ hb⟩ (q1i k h)
def Mid.same{D H H':Hp}{kvs:List (Key×V)}{ns:List Int}{U:xF}(M:Mid D H kvs ns U)(s:Same H H'):Mid D H' kvs ns U:=
 ⟨M.keys,M.nd,λn hn=>by
  obtain⟨c,xs,h1,h2,h3,h4⟩:=M.has n hn;exact⟨c,xs,h1,s _ _ h2,q1i (λb ys e=>s b _ e) h3,h4⟩,M.inj,M.all⟩
def qyb(U:xF)(u:xD)(n:Int):szF (U++ [u]) n=szF U n++(if (u.length:Int)=n then [u] else []):=by
 unfold szF;rw[z1u]
 congr 1
 by_cases h:(u.length:Int)=n
 ·rw[if_pos h];simp[h]
 ·rw[if_neg h];simp[h]
def Mid.more{Z H:Hp}{kvs:List (Key×V)}{ns:List Int}{U:xF}{u:xD}{c b:Addr}{xs:List V}(M:Mid Z H kvs ns U)(J:valV kvs (.inl (u.length:Int))=some (.ref c))(hx:H c=some (.lst xs))(hb:H b=some (.tup (u.map V.str))):
  Mid Z (upd H c (.lst (xs++ [.ref b]))) kvs ns (U++ [u]):=by
 have kt:KeepT H (upd H c (.lst (xs++ [.ref b]))):=KeepT.upd (λ_ _ e=>e) hx;have hn:(u.length:Int)∈ns:=(qc9 M.keys _).mpr (by rw[J];rfl);refine⟨M.keys,M.nd,λn hn=>?_,M.inj,λv D=>?_⟩
 ·obtain⟨c',O,h1,h2,h3,h4⟩:=M.has n hn;rw[qyb];by_cases e:(u.length:Int)=n
  ·subst e;rw[J]at h1;cases h1
   rw[hx]at h2;cases h2
   refine⟨c,_,J,qb,?_,h4⟩;rw[if_pos rfl];exact q1m (q1i kt h3) (.cons ⟨b,zr,kt _ _ hb⟩ .nil)
  ·have ne:c'≠c:=λz=>e (M.inj _ _ c J (by rw[<- z];exact h1));refine⟨c',O,h1,by rw[qi ne];exact h2,?_,h4⟩;rw[if_neg e,z31];exact q1i kt h3
 ·rcases z2u.mp D with D | D
  ·exact M.all v D
  ·rw[z1m.mp D];exact hn
def Mid.new{O H:Hp}{kvs:List (Key×V)}{ns:List Int}{U:xF}{n:Int}{e:Addr}(M:Mid O H kvs ns U)(hn:valV kvs (.inl n)=none)(he:H e=some (.lst []))(h0:O e=none)(J:∀m c,valV kvs (.inl m)=some (.ref c)->c≠e):
  Mid O H (putK kvs (.inl n) (.ref e)) (ns++ [n]) U:=by
 have nn:n∉ns:=λz=>by
  have:=(qc9 M.keys n).mp z;rw[hn]at this;cases this
 refine⟨?_,?_,λm D=>?_,λm m' c h1 h2=>?_,λv Z=>z2u.mpr (.inl (M.all v Z))⟩
 ·rw[qu1 _ hn,z35,z35,M.keys];rfl
 ·rw[z2d];exact⟨M.nd,by simp,λa ha b hb e=>nn (by rw[<- z1m.mp hb,<- e];exact ha)⟩
 ·rw[q4x];rcases z2u.mp D with D | D
  ·obtain⟨c,xs,h1,h2⟩:=M.has m D;refine⟨c,xs,?_,h2⟩;rw[if_neg (λz=>nn (by injection z with z;rw[<- z];exact D))];exact h1
  ·rw[z1m.mp D];refine⟨e,[],if_pos rfl,he,?_,h0⟩;have:szF U n=[]:=by
    unfold szF;rw[List.filter_eq_nil_iff];intro v Z z;have:=M.all v Z;rw[of_decide_eq_true z]at this;exact nn this
   rw[this];exact .nil
 ·rw[q4x]at h1 h2;by_cases e1:(Sum.inl m:Key)=Sum.inl n
  ·by_cases e2:(Sum.inl m':Key)=Sum.inl n
   ·injection e1 with e1;injection e2 with e2;rw[e1,e2]
   ·rw[if_pos e1]at h1;rw[if_neg e2]at h2;cases h1
    exact absurd rfl (J _ _ h2)
  ·by_cases e2:(Sum.inl m':Key)=Sum.inl n
   ·rw[if_neg e1]at h1;rw[if_pos e2]at h2;cases h2
    exact absurd rfl (J _ _ h1)
   ·rw[if_neg e1]at h1;rw[if_neg e2]at h2;exact M.inj _ _ c h1 h2
def qfa(K:xA)(H:Hp)(xs:List V)(ss:xF):Prop:=Paired (λx s=>∃b,x=V.ref b/\(SqL K H b (s.map V.str)\/ SqT K H b (s.map V.str))) xs ss
theorem qii{K:xA}{H:Hp}:∀{xs:List V} {D:xF} {i:Nat} {x:V},qfa K H xs D->xs[i]? =some x->∃s b,D[i]? =some s/\x=V.ref b/\(SqL K H b (s.map V.str)\/ SqT K H b (s.map V.str))
 | _,_,i,x,.nil,h=>by simp at h
 | _,_,0,x,.cons ⟨b,e,hb⟩ _,h=>by
  simp at h
  subst h;exact⟨_,b,zr,e,hb⟩
 | _,_,i+1,x,.cons _ r,h=>by
  obtain⟨s,b,e,q⟩:=qii (i:=i) (x:=x) r (by simpa using h);exact⟨s,b,by simpa using e,q⟩
def qyc(K:xA):Sp:=λvs H Q _=>∃(l:Addr) (xs:List V) (ss:xF),vs=[.ref l]/\SqL K H l xs/\qfa K H xs ss/\ss.length<=20000/\(∀s∈ss,s.length<=4000)/\
 ∀d kvs ns (U:xF) H',Same H H'->H d=none->H' d=some (.dK kvs)->Mid H H' kvs ns U->(∀u,u∈U↔∃s∈ss,u=uniq s)->U.Nodup->U.length<=ss.length->Q (.ref d) H'
def qfb(T:Txt K mg):Def P w K mg base 1 "once_by_size" ["sets"] (qyc K):=by
 refine T.qhn.ok q3a (λvs H Q E h=>?_) λf cdv A outer s H vs Q E hr h=>?_
 ·obtain⟨l,xs,ss,rfl,_⟩:=h;rfl
 ·obtain⟨l,xs,ss,rfl,hl,hx,h1,h2,k⟩:=h;have lx:xs.length=ss.length:=Paired.length hx;refine⟨_,(qk7
   (qm (i:=1) q3a.nd rfl (Or.inl rfl) ql4)
   (q1o PassesOwn.never rfl (q18 K (pv 0)) (qu (i:=2) q3a.nd rfl (Or.inl rfl)) (qg (q94 (q33 hr) (pv 1) (q2v (q6f K) rfl T.q9h q7q (pa_1 (qo (q7s rfl P w) rfl T.q2h q2c (pa_1 (q2v (qba rfl P w K) rfl T.b_set qlz (pa_1 (pv 2))))))) q3p rfl)))
   (qm (i:=3) q3a.nd rfl (Or.inl rfl) q5w)
   (q1o PassesOwn.never rfl (qug (pv 1)) (qu (i:=2) q3a.nd rfl (Or.inl rfl)) (qg (q2i (q43 z0l z0g z0h q2w (qlf (pv 3) (qo (q3l K) rfl T.b_len q4r (pa_1 (pv 2))) (q1p q26) ⟨rfl,rfl,rfl,rfl⟩) (pa_1 (pv 2))))))
   (qh (pv 3))),?_⟩
  intro o ho;have t0:=qf (o:=HO.dT []) ho;refine⟨_,rfl,l,rfl,⟨_,t0.seq hl⟩,q20 (xs:=xs) (λi σ H'=>∃(v:Option V) (U:xF),σ=[some (.ref l),some (.ref o),v,none]/\Same H H'/\H' o=some (.dT (encB U))/\U.Nodup/\U.length<=i/\∀u,u∈U↔∃s∈ss.take i,u=uniq s)
   ⟨none,[],rfl,t0,qb,z3f,z47 _,λu=>by simp⟩ (λi σ H' _ z=>by obtain⟨_,_,_,z,_⟩:=z;exact z.seq hl) ?_ ?_⟩
  ·rintro i x σ H1 a7 ⟨v,U,rfl,s1,e1,nd,lu,hU⟩;obtain⟨st,b,hs,rfl,hb⟩:=qii hx a7;have il:i < xs.length:=(z07.mp a7).1;have a9:SqL K H1 b (st.map V.str)\/ SqT K H1 b (st.map V.str):=hb.elim (λz=> .inl (s1.seq z)) (λz=> .inr (s1.seqT z));refine⟨_,zr,_,zr,b,st,zr,a9,h2 st (z18 hs),λe ys he b7 b6=>?_⟩;have s2:=qf (o:=SetH P w e ys) he;refine⟨e,ys,zr,qb,λg hg=>?_⟩;rw[qdl b7 b6];have s3:=qf (o:=HO.lst ((uniq st).map V.str)) hg;refine⟨_,_,zr,.inl ⟨SqL.of qb,λt ht=>?_⟩⟩;have D:=qf (o:=HO.tup ((uniq st).map V.str)) ht;refine⟨o,_,rfl,DPut.t (k:=(uniq st).map Sum.inr) (D _ _ (s3 _ _ (s2 _ _ e1))) (by rw[q98];exact qb) (by unfold encB;rw[z30];exact q14 (by lia)),?_⟩;rw[qup];refine⟨_,addU U (uniq st),zr,(s1.trans (s2.trans (s3.trans D))).set ho,qb,qya nd,z40 qur (by lia),λu=>?_⟩;rw[quq,hU,z3g,hs]
   constructor
   ·rintro (⟨s,h1,h2⟩ | h)
    ·exact⟨s,z2u.mpr (.inl h1),h2⟩
    ·exact⟨st,z2u.mpr (.inr (by simp)),h⟩
   ·rintro ⟨s,h1,h2⟩;rcases z2u.mp h1 with h1 | h1
    ·exact .inl ⟨s,h1,h2⟩
    ·have:s=st:=by simpa using h1
     rw[this]at h2;exact .inr h2
  ·rintro σ H1 ⟨v,U,rfl,s1,e1,nd,lu,hU⟩;rw[lx,z2t]at hU;intro d hd;have a2:H d=none:=s1.free hd;have s2:=qf (o:=HO.dK []) hd;have eo:=s2 _ _ e1;have a4:d≠o:=(qz e1 hd).symm;refine⟨_,rfl,o,_,rfl,.inl ⟨eo,λob=>qs2 (λi σ H'=>∃(v:Option V) (kvs:List (Key×V)) (ns:List Int),σ=[some (.ref l),some (.ref o),v,some (.ref d)]/\Same H H'/\H' o=some (.frz ob (.dT (encB U)))/\H' d=some (.dK kvs)/\kvs.length<=i/\Mid H H' kvs ns (U.take i))
    ⟨v,[],[],rfl,(s1.trans s2).set ho,qb,by rw[qi a4,qb],z47 _,⟨rfl,z3f,(λ_ z=>nomatch z),(λn m c h _=>nomatch h),λu hu=>by simp at hu⟩⟩ (λi σ H' _ z=>by obtain⟨_,_,_,_,_,z,_⟩:=z;exact z) ?_ ?_⟩⟩
   ·rintro i kv b σ H2 hk hb ⟨v,kvs,ns,rfl,s3,e3,Z,lk,M⟩;have il:i < (encB U).length:=(z07.mp hk).1;have iu:i < U.length:=by unfold encB at il;rw[z30]at il;exact il
    obtain⟨u,hu,rfl⟩:∃u,U[i]? =some u/\kv=(u.map Sum.inr,V.bl true):=by
     unfold encB at hk;rw[z22]at hk;obtain⟨u,h1,h2⟩:=z0q.mp hk;exact⟨u,h1,h2.symm⟩
    have O:H2 b=some (.tup (u.map V.str)):=by rw[hb,q98]
    have et:U.take (i+1)=U.take i++ [u]:=by rw[z3g,hu];rfl
    refine⟨_,rfl,d,rfl,.inl ⟨kvs,.inl Z⟩,_,rfl,_,_,rfl,.inr ⟨_,SqT.of O,rfl⟩,by show 0<=sizeLine;decide,λe he=>?_⟩;rw[z30];have D:=qf (o:=HO.lst []) he;have a5:H e=none:=s3.free he;have M1:=M.same D;have szs:U.length<=20000:=by lia
    have a8:∀n,(szF (U.take i) n).length<=20000:=λn=>by
     have:=z10 (λu:List Str=>decide ((u.length:Int)=n)) (U.take i);rw[z2g]at this;unfold szF
     lia
    refine⟨kvs,.inl (u.length:Int),D _ _ Z,zr,q14 (by lia),λv hv=>?_,λhv=>?_⟩
    ·obtain⟨c,zs,g1,J,g3,g4⟩:=M1.has _ ((qc9 M1.keys _).mpr (by rw[hv];rfl));rw[hv]at g1;cases g1
     have lz:=Paired.length g3;refine⟨.inl ⟨rfl,_,SqL.of J⟩,_,rfl,c,_,_,rfl,rfl,J,q14 (by have:=a8 (u.length:Int);lia),?_⟩;have b3:c≠o:=λz=>by rw[z,D _ _ e3]at J;cases J
     have a1:c≠d:=λz=>by rw[z,D _ _ Z]at J;cases J
     rw[et];exact⟨_,kvs,ns,rfl,(s3.trans D).set g4,by rw[qi b3.symm];exact D _ _ e3,by rw[qi a1.symm];exact D _ _ Z,by lia,M1.more hv J (D _ _ O)⟩
    ·have a6:e≠d:=(qz Z he).symm;have b4:e≠o:=(qz e3 he).symm;have M2:=M1.new hv qb a5 λm c hm z=>by
      obtain⟨c',xs',q1,q2,_⟩:=M.has m ((qc9 M.keys m).mpr (by rw[hm];rfl));rw[hm]at q1;cases q1
      rw[z]at q2;rw[q2]at he;cases he
     have M3:Mid H (upd (upd H2 e (.lst [])) d (.dK (putK kvs (.inl (u.length:Int)) (.ref e)))) (putK kvs (.inl (u.length:Int)) (.ref e)) (ns++ [(u.length:Int)]) (U.take i):=by
      refine⟨M2.keys,M2.nd,λn hn=>?_,M2.inj,M2.all⟩;obtain⟨c,zs,g1,J,g3,g4⟩:=M2.has n hn;have a1:c≠d:=λz=>by rw[z,D _ _ Z]at J;cases J
      refine⟨c,zs,g1,by rw[qi a1];exact J,q1i (λb' ys a0=>?_) g3,g4⟩;rw[qi (λz=>by rw[z,D _ _ Z]at a0;cases a0)];exact a0
     have ee:upd (upd H2 e (.lst [])) d (.dK (putK kvs (.inl (u.length:Int)) (.ref e))) e=some (.lst []):=by rw[qi a6,qb]
     have b5:valV (putK kvs (.inl (u.length:Int)) (.ref e)) (.inl (u.length:Int))=some (.ref e):=by rw[q4x,if_pos rfl]
     have b2:upd (upd H2 e (.lst [])) d (.dK (putK kvs (.inl (u.length:Int)) (.ref e))) b=some (.tup (u.map V.str)):=by
      rw[qi (λz=>by rw[z,Z]at O;cases O)];exact D _ _ O
     refine⟨.inl ⟨rfl,_,SqL.of ee⟩,_,rfl,e,_,_,rfl,rfl,ee,by show 0 < sizeLine;decide,?_⟩;have s5:Same H (upd (upd H2 e (.lst [])) d (.dK (putK kvs (.inl (u.length:Int)) (.ref e)))):=(s3.trans D).set a2;rw[et];refine⟨_,_,_,zr,s5.set a5,?_,?_,z40 (q3x _ _ _) (by lia),M3.more b5 ee b2⟩
     ·rw[qi b4.symm,qi a4.symm];exact D _ _ e3
     ·rw[qi a6.symm,qb]
   ·rintro σ H2 ⟨v,kvs,ns,rfl,s3,e3,Z,lk,M⟩;have lU:(encB U).length=U.length:=by unfold encB;rw[z30]
    rw[lU,z2t]at M;refine⟨_,zr,k d kvs ns U H2 s3 a2 Z M hU nd (by lia)⟩
def Up(F:xF)(x:xD):Prop:=∃f∈F,∀w∈f,w∈x
def Norm(r:xD):Prop:=r.Pairwise λa b=>q19 a b=true
structure Acc (R:xF):Prop where
 srt:R.Pairwise λa b=>q17 a b=true
 norm:∀r∈R,Norm r
 anti:∀r∈R,∀q∈R,(∀w∈r,w∈q)->r=q
def q58{α:Type}{lt:α->α->Bool}(h:Tim.STO lt){l:List α}(a:l.Pairwise λa b=>lt b a=false)(n:l.Nodup):l.Pairwise λa b=>lt a b=true:=
 (List.Pairwise.and a n).imp λ{x y} z=>by
  cases e:lt x y with
  | true=>rfl
  | false=>exact absurd (h.tri x y e z.1) z.2
def qfc{α:Type}{lt:α->α->Bool}(h:Tim.STO lt){l:List α}(a:l.Pairwise λa b=>lt a b=true):l.Pairwise λa b=>lt b a=false:=
 a.imp λ{x y} z=>by
  cases e:lt y x with
  | false=>rfl
  | true=>
   have:=h.tr x y x z e;rw[h.irr]at this;cases this
def q4c{α:Type}{lt:α->α->Bool}(h:Tim.STO lt){l:List α}(a:l.Pairwise λa b=>lt a b=true):l.Nodup:=
 a.imp λ{x y} z e=>by
  rw[e,h.irr]at z;cases z
def qij{α:Type}[DecidableEq α]{lt:α->α->Bool}(h:Tim.STO lt){l k:List α}(a:l.Pairwise λa b=>lt a b=true)(b:k.Pairwise λa b=>lt a b=true)(m:∀x,x∈l↔x∈k):l=k:=
 h.uniq ((List.perm_ext_iff_of_nodup (q4c h a) (q4c h b)).mpr m) (qfc h a) (qfc h b)
def qh1{r q:xD}(hr:Norm r)(hq:Norm q)(h1:∀w∈r,w∈q)(h2:∀w∈q,w∈r):r=q:=qij q24 hr hq λx=>⟨h1 x,h2 x⟩
def q4d(s:xD):Norm (uniq s):=q58 q24 (Tim.q23 q24 _) ((Tim.q13 q19 _).nodup_iff.mpr (q9u _ _ (z47 _)))
theorem q6m{α:Type}[DecidableEq α]:∀{u v:List α},u.Nodup->(∀w∈u,w∈v)->u.length<=v.length
 | [],_,_,_=>z4a _
 | x::u,v,nd,h=>by
  have D:=z32.mp nd;have hx:=h x (z1p ..);have:=q6m (u:=u) (v:=v.erase x) D.2 λw hw=>(List.mem_erase_of_ne (λe=>D.1 (by rw[<- e];exact hw))).mpr (h w (z16 _ hw));rw[List.length_erase_of_mem hx]at this;have:=List.length_pos_of_mem hx;rw[z2i]
  lia
def qus(s:xD):(uniq s).length<=s.length:=q6m (q4c q24 (q4d s)) λw hw=>(q2t s w).mp hw
def qm0{r q:xD}(hr:Norm r)(hq:Norm q)(h1:∀w∈r,w∈q)(hl:q.length<=r.length):r=q:=by
 refine qh1 hr hq h1 λw hw=>?_;have nr:=q4c q24 hr
 apply Classical.byContradiction
 intro hn;have:=q6m (u:=w::r) (v:=q) (z32.mpr ⟨hn,nr⟩) λx hx=>by
  rcases z3m.mp hx with rfl | hx
  ·exact hw
  ·exact h1 x hx
 rw[z2i]at this
 lia
def qsb{R Q:xF}(hR:Acc R)(D:Acc Q)(h:∀x,Up R x↔Up Q x):R=Q:=by
 have one:∀{A B:xF},Acc A->Acc B->(∀x,Up A x↔Up B x)->∀r∈A,r∈B:=λ{A B} O hB h r hr=>by
  obtain⟨q,hq,h1⟩:=(h r).mp ⟨r,hr,λ_ z=>z⟩;obtain⟨r',J,h2⟩:=(h q).mpr ⟨q,hq,λ_ z=>z⟩;have e:=O.anti r' J r hr λw hw=>h1 w (h2 w hw);subst e;rw[qh1 (O.norm _ hr) (hB.norm _ hq) h2 h1];exact hq
 exact qij q28 hR.srt D.srt λx=>⟨one hR D h x,one D hR (λy=>(h y).symm) x⟩
structure ThI (U:xF) (szs:List Int) (i:Nat) (acc:xF):Prop where
 sub:∀u∈acc,u∈U/\(u.length:Int)∈szs.take i
 cov:∀u∈U,(u.length:Int)∈szs.take i->∃q∈acc,∀w∈q,w∈u
 anti:∀u∈acc,∀q∈acc,(∀w∈u,w∈q)->u=q
 nd:acc.Nodup
def lst(U acc:xF)(n:Int):List (List Str):=(szF U n).filter λu=> !decide (∃q∈acc,∀w∈q,w∈u)
def q69{U acc:xF}{n:Int}{u:xD}:u∈lst U acc n↔u∈U/\(u.length:Int)=n/\¬ ∃q∈acc,∀w∈q,w∈u:=by
 unfold lst szF;rw[z2x,z2x];simp[and_assoc]
def ThI.step{U:xF}{J:List Int}{i:Nat}{acc:xF}{n:Int}(T:ThI U J i acc)(hs:J.Pairwise λa b=>q1g a b=true)(hi:J[i]? =some n)(nU:U.Nodup)(Z:∀u∈U,Norm u):ThI U J (i+1) (acc++lst U acc n):=by
 have et:J.take (i+1)=J.take i++ [n]:=by rw[z3g,hi];rfl
 have O:∀m∈J.take i,m < n:=λm hm=>by
  obtain⟨j,hj,e⟩:=z1i hm;rw[z2g]at hj;obtain⟨a0,en⟩:=z07.mp hi;have:=(z08.mp hs) j i (by lia) a0 (by lia);rw[z1z]at e;rw[en,e]at this;exact of_decide_eq_true this
 refine⟨λu D=>?_,λu D hl=>?_,λu D q hq h=>?_,?_⟩
 ·rw[et];rcases z2u.mp D with D | D
  ·exact⟨(T.sub u D).1,z2u.mpr (.inl (T.sub u D).2)⟩
  ·obtain⟨h1,h2,_⟩:=q69.mp D;exact⟨h1,z2u.mpr (.inr (by rw[h2];simp))⟩
 ·rw[et]at hl;rcases z2u.mp hl with hl | hl
  ·obtain⟨q,h1,h2⟩:=T.cov u D hl;exact⟨q,z2u.mpr (.inl h1),h2⟩
  ·have e:(u.length:Int)=n:=by simpa using hl
   by_cases z:∃q∈acc,∀w∈q,w∈u
   ·obtain⟨q,h1,h2⟩:=z;exact⟨q,z2u.mpr (.inl h1),h2⟩
   ·exact⟨u,z2u.mpr (.inr (q69.mpr ⟨D,e,z⟩)),λ_ z=>z⟩
 ·rcases z2u.mp D with D | D
  ·rcases z2u.mp hq with hq | hq
   ·exact T.anti u D q hq h
   ·exact absurd ⟨u,D,h⟩ (q69.mp hq).2.2
  ·obtain⟨u1,u2,_⟩:=q69.mp D;rcases z2u.mp hq with hq | hq
   ·have l1:=O _ (T.sub q hq).2;have:=q6m (q4c q24 (Z u u1)) h
    lia
   ·obtain⟨q1,q2,_⟩:=q69.mp hq;exact qm0 (Z u u1) (Z q q1) h (by lia)
 ·rw[z2d];refine⟨T.nd,(nU.filter _).filter _,λa ha b hb e=>?_⟩;subst e;exact(q69.mp hb).2.2 ⟨a,ha,λ_ z=>z⟩
def q101{acc:xF}{B:Nat}(h:∀q∈acc,q.length<=B):mu acc []<=1+acc.length*(B+2):=by
 unfold mu;have:∀acc:List (List Str),(∀q∈acc,q.length<=B)->(acc.map λq=>if [] <+:q++ [endW] then q.length+2 - ([]:xD).length else 0).sum<=acc.length*(B+2):=λacc=>by
  induction acc with
  | nil=>exact λ_=>z4a _
  | cons q acc ih=>
   intro h;have h1:=h q (z1p ..);have h2:=ih λx hx=>h x (z16 _ hx);rw[z3k,z3r,if_pos List.nil_prefix,z2i,Nat.succ_mul];have e0:([]:xD).length=0:=rfl
   lia
 have:=this acc h
 lia
open Classical in
noncomputable def restT (H : Hp) (r : Addr) : Hp := fun b => if ∃ p, go H r p = some b then none else H b
def qsc(H:Hp)(r:Addr):Same (restT H r) H:=λb o e=>by
 unfold restT at e;split at e
 ·cases e
 ·exact e
def qsd{H:Hp}{r b:Addr}{p:xD}(h:go H r p=some b):restT H r b=none:=by
 unfold restT;exact if_pos ⟨p,h⟩
def PathOk.other{H0 H:Hp}{r b:Addr}{S:List Str->Prop}{n:Nat}{o:HO}(T:PathOk H0 H r S n)(h:H b=some o)(hn:∀kvs,o≠ .dK kvs):restT H r b=some o:=by
 unfold restT;rw[if_neg]
 ·exact h
 ·rintro ⟨p,hp⟩;obtain⟨kvs,e⟩:=T.nodes.node p b hp;rw[h]at e;exact hn kvs (Option.some.inj e)
def PathOk.bas{H0 H:Hp}{r:Addr}{S:List Str->Prop}{n:Nat}(T:PathOk H0 H r S n):PathOk (restT H r) H r S n:=⟨T.nodes,T.dom,λ_ _ h=>qsd h,T.size,T.refs,T.nd⟩
def PathOk.back{H1 H H':Hp}{r:Addr}{S O:List Str->Prop}{n Z:Nat}(T:PathOk H1 H r S n)(s1:Same H1 H)(s2:Same (restT H r) H')(D:PathOk (restT H r) H' r O Z):PathOk H1 H' r O Z/\Same H1 H':=by
 have J:∀a o,H1 a=some o->restT H r a=some o:=λa o e=>by
  unfold restT;rw[if_neg]
  ·exact s1 _ _ e
  ·rintro ⟨p,hp⟩;rw[T.new p a hp]at e;cases e
 refine⟨⟨D.nodes,D.dom,λp a h=>?_,D.size,D.refs,D.nd⟩,λa o e=>s2 _ _ (J a o e)⟩;have:=D.new p a h;cases e:H1 a with
 | none=>rfl
 | some o=>
  rw[J a o e]at this;cases this
def qyd{H H':Hp}{r:Addr}(N:Nodes H r)(k:∀b kvs,H b=some (.dK kvs)->H' b=some (.dK kvs)):∀(y x:xD) (b:Addr),go H r x=some b->go H' b y=go H b y:=by
 intro y
 induction y with
 | nil=>exact λ_ _ _=>rfl
 | cons u ys ih=>
  intro x b J;obtain⟨kb,D⟩:=N.node x b J;rw[q1x (k _ _ D),q1x D];cases hc:kidV kb u with
  | none=>rfl
  | some c=>
   refine ih (x++ [u]) c ?_;rw[q3j,J];show go H b [u]=some c;rw[q1x D,hc];rfl
def PathOk.keep{Z H H':Hp}{r:Addr}{S:List Str->Prop}{n:Nat}(T:PathOk Z H r S n)(k:∀b kvs,H b=some (.dK kvs)->H' b=some (.dK kvs)):PathOk Z H' r S n:=by
 have g:∀x,go H' r x=go H r x:=λx=>qyd T.nodes k x [] r rfl;have J:∀x b kb,go H r x=some b->H' b=some (.dK kb)->H b=some (.dK kb):=λx b kb D e=>by
  obtain⟨kc,O⟩:=T.nodes.node x b D;rw[k _ _ O]at e;rw[O];exact e
 refine⟨⟨λx b D=>?_,λx y b hx hy=>?_⟩,λx=>?_,λx b D=>?_,λx b kb D e=>?_,λx b kb w v D e hv=>?_,λx b kb D e=>?_⟩
 ·rw[g]at D;obtain⟨kc,O⟩:=T.nodes.node x b D;exact⟨kc,k _ _ O⟩
 ·rw[g]at hx hy;exact T.nodes.inj x y b hx hy
 ·rw[g];exact T.dom x
 ·rw[g]at D;exact T.new x b D
 ·rw[g]at D;exact T.size x b kb D (J x b kb D e)
 ·rw[g]at D;exact T.refs x b kb w v D (J x b kb D e) hv
 ·rw[g]at D;exact T.nd x b kb D (J x b kb D e)
theorem q2y{H:Hp}:∀{xs:List V} {ps:xF} {i:Nat} {x:V},q1b H xs ps->xs[i]? =some x->∃p b,ps[i]? =some p/\x=V.ref b/\H b=some (.tup (p.map V.str))
 | _,_,i,x,.nil,h=>by simp at h
 | _,_,0,x,.cons ⟨b,e,hb⟩ _,h=>by
  simp at h
  subst h;exact⟨_,b,zr,e,hb⟩
 | _,_,i+1,x,.cons _ r,h=>by
  obtain⟨s,b,e,q⟩:=q2y (i:=i) (x:=x) r (by simpa using h);exact⟨s,b,by simpa using e,q⟩
def qye(K:xA):Sp:=λvs H Q _=>∃(l:Addr) (xs:List V) (ss:xF),vs=[.ref l]/\SqL K H l xs/\qfa K H xs ss/\ss.length<=20000/\(∀s∈ss,s.length<=30/\endW∉s)/\
 ∀p zs (R:xF) H',Same H H'->H p=none->H' p=some (.lst zs)->q1b H' zs R->Acc R->(∀x,Up R x↔Up ss x)->Q (.ref p) H'
def qa4(T:Txt K mg):Def P w K mg base 3 "thinned" ["sets"] (qye K):=by
 refine T.qtj.ok q3q (λvs H Q E h=>?_) λf cdv A outer s H vs Q E hr h=>?_
 ·obtain⟨l,xs,ss,rfl,_⟩:=h;rfl
 ·obtain⟨l,xs,ss,rfl,hl,hx,l1,l2,k⟩:=h;refine⟨_,(qk7
   (qm (i:=1) q3q.nd rfl (Or.inl rfl) (q11 (qfb T) hr rfl (pa_1 (pv 0))))
   (qm (i:=2) q3q.nd rfl (Or.inr rfl) q5w)
   (qm (i:=3) q3q.nd rfl (Or.inl rfl) (q1p q26))
   (q1o PassesOwn.never rfl (q18 K (qo (qj1 rfl K) rfl T.q2h q2c (pa_1 (pv 1)))) (qu (i:=4) q3q.nd rfl (Or.inl rfl)) (q3f
   (q9o (i:=5) q3q.nd rfl rfl (N:=["words","smaller"]) (caps:=[none,some 2]) rfl (by with_unfolding_all rfl) (q18 K (q56 (q33 hr) (pv 1) (pv 4) (λ_ _=>rfl))) (λ_ _ _ _ _=>(qu (i:=0) (show (["words","smaller"]:xD).Nodup by decide+kernel) rfl (Or.inl rfl))) (λ_ _ _ _ _=>qaz (q3t (q3s (q11 (qck T) hr rfl (pa_2 (pv 1) (pv 0)))))) (λ_ _ _ _ _=>(pv 0)))
   (q1o PassesOwn.never rfl (q18 K (pv 5)) (qu (i:=6) q3q.nd rfl (Or.inl rfl)) (qg (q2i (q11 (qnh T) hr rfl (pa_2 (pv 2) (pv 6))))))
   (q2i (q43 z0l z0e z0f q6j (pv 3) (pa_1 (pv 5))))))
   (qh (qo (q6r hr.units K) rfl T.q2h q2c (pa_1 (pv 3))))),?_⟩
  refine⟨_,zr,l,xs,ss,zr,hl,hx,l1,λs hs=>z40 (l2 s hs).1 (by decide),λd kvs ns U H1 s1 hd ed M hU nU lU=>?_⟩;have a4:∀u∈U,Norm u:=λu J=>by
   obtain⟨s,_,rfl⟩:=(hU u).mp J;exact q4d s
  have a2:∀u∈U,u.length<=30:=λu J=>by
   obtain⟨s,hs,rfl⟩:=(hU u).mp J;exact z40 (qus s) (l2 s hs).1
  have d4:∀u∈U,endW∉u:=λu J=>by
   obtain⟨s,hs,rfl⟩:=(hU u).mp J;exact λz=>(l2 s hs).2 ((q2t s _).mp z)
  intro r b6;have t1:=qf (o:=HO.dK []) b6;refine⟨by show 0<=sizeLine;decide,λq hq=>?_⟩;have t2:=qf (o:=HO.lst []) hq;have hqr:q≠r:=(qz qb hq).symm;have c8:H1 q=none:=t1.free hq;refine⟨_,zr,d,kvs,ns,zr,t2 _ _ (t1 _ _ ed),M.keys,λsl a9=>?_⟩;have t3:=qf (o:=HO.lst ((Tim.srt q1g ns).map V.int)) a9;have d5:sl≠r:=(qz (t2 _ _ qb) a9).symm;have b7:sl≠q:=(qz qb a9).symm;have b9:(Tim.srt q1g ns).Pairwise λa b=>q1g a b=true:=q58 q29 (Tim.q23 q29 _) ((Tim.q13 q1g _).nodup_iff.mpr M.nd);have a7:∀n,n∈Tim.srt q1g ns↔n∈ns:=λn=>(Tim.q13 q1g ns).mem_iff;have er:upd (upd (upd H1 r (.dK [])) q (.lst [])) sl (.lst ((Tim.srt q1g ns).map V.int)) r=some (.dK []):=(t2.trans t3) _ _ qb;have c0:upd (upd (upd H1 r (.dK [])) q (.lst [])) sl (.lst ((Tim.srt q1g ns).map V.int)) q=some (.lst []):=t3 _ _ qb;have b3:upd (upd (upd H1 r (.dK [])) q (.lst [])) sl (.lst ((Tim.srt q1g ns).map V.int)) sl=some (.lst ((Tim.srt q1g ns).map V.int)):=qb;have s2:Same H1 (upd (upd (upd H1 r (.dK [])) q (.lst [])) sl (.lst ((Tim.srt q1g ns).map V.int))):=t1.trans (t2.trans t3);generalize upd (upd (upd H1 r (.dK [])) q (.lst [])) sl (.lst ((Tim.srt q1g ns).map V.int))=G at*;generalize Tim.srt q1g ns=a5 at*;have P0:PathOk H1 G r (λp=>p=[]) 0:=by
   have g:∀p a,go G r p=some a->p=[]/\a=r:=λp a h=>by
    cases p with
    | nil=>exact⟨rfl,(Option.some.inj h).symm⟩
    | cons w ws=>
     rw[q1x er]at h;cases h
   refine⟨⟨λp a h=>?_,λp q' a h1 h2=>?_⟩,λp=>⟨λ⟨a,h⟩=>(g p a h).1,λh=>⟨r,by rw[h];rfl⟩⟩,λp a h=>?_,λp a kvs h e=>?_,λp a kvs w v h e hv=>?_,λp a kvs h e=>?_⟩
   ·rw[(g p a h).2];exact⟨[],er⟩
   ·rw[(g p a h1).1,(g q' a h2).1]
   ·rw[(g p a h).2];exact b6
   ·rw[(g p a h).2,er]at e;cases e
    exact z47 _
   ·rw[(g p a h).2,er]at e;cases e
    cases hv
   ·rw[(g p a h).2,er]at e;cases e
    exact⟨[],zr,z3f⟩
  refine⟨sl,rfl,⟨_,SqL.of b3⟩,q20 (xs:=a5.map V.int) (λi σ H'=>∃(v1 v2 v3:Option V) (zs:List V) (acc:xF) (S:List Str->Prop) (n:Nat),σ=[some (.ref l),some (.ref d),some (.ref r),some (.ref q),v1,v2,v3]/\Same H1 H'/\H' q=some (.lst zs)/\H' sl=some (.lst (a5.map V.int))/\q1b H1 zs acc/\PathOk H1 H' r S n/\Paths acc S/\n<=acc.length*31/\ThI U a5 i acc)
   ⟨none,none,none,[],[],λp=>p=[],0,rfl,s2,c0,b3,.nil,P0,⟨λp=>by simp,λ_ z=>nomatch z⟩,z4a _,⟨(λ_ z=>nomatch z),(λu J h=>by simp at h),(λ_ z=>nomatch z),z3f⟩⟩ (λi σ H' _ z=>by obtain⟨_,_,_,_,_,_,_,_,_,_,z,_⟩:=z;exact SqL.of z) ?_ ?_⟩
  ·rintro i x σ H2 hx ⟨v1,v2,v3,zs,acc,S,n,rfl,s3,eq,es,hz,T2,hP,hn,TI⟩;rw[z22]at hx;obtain⟨m,hm,rfl⟩:=z0q.mp hx;have d2:m∈ns:=(a7 m).mp (z18 hm);obtain⟨c,ys,hv,hc,hy,_⟩:=M.has m d2;have a6:∀u∈acc,u∈U:=λu J=>(TI.sub u J).1;have d6:acc.length<=U.length:=q6m TI.nd a6;have a8:=TI.step b9 hm nU a4;have b2:(acc++lst U acc m).length<=U.length:=q6m a8.nd λu J=>(a8.sub u J).1;rw[z1o]at b2;have c6:mu acc []<=900000:=by
    have:=q101 (acc:=acc) (B:=30) λu J=>a2 u (a6 u J)
    lia
   have dg:DGet H2 d (V.int m) (some (.ref c)):=by
    rw[<- hv];exact DGet.k (k:=Sum.inl m) (s3 _ _ ed)
   have ly:=Paired.length hy;refine⟨_,zr,_,zr,d,_,zr,dg,c,zr,⟨_,SqL.of (s3 _ _ hc)⟩,λD hD=>?_⟩;have hD1:H1 D=none:=s3.free hD;have lsz:(szF U m).length<=U.length:=z10 _ _;refine q1u ys.length (λj σ' H'=>(∃v,σ'=[v,some (.ref r)])/\Same H2 H'/\∃ws,H' D=some (.lst ws)/\q1b H1 ws (((szF U m).take j).filter λu=> !decide (∃q∈acc,∀w∈q,w∈u))/\ws.length<=j) ⟨⟨_,rfl⟩,qf hD,[],qb,.nil,z47 _⟩ (λj σ' H' hj p=>?_) (λσ' H' p=>⟨?_,?_⟩) (λj σ' H' hj p x H3 y=>?_)
   ·obtain⟨_,sm,_⟩:=p;exact⟨_,ys[j],SqL.of (sm _ _ (s3 _ _ hc)),z0d hj⟩
   ·obtain⟨_,sm,_⟩:=p;exact⟨_,SqL.of (sm _ _ (s3 _ _ hc)),z47 _⟩
   ·obtain⟨_,sm,ws,eD,hw,lw⟩:=p;rw[ly,z2t]at hw;have hw:q1b H1 ws (lst U acc m):=hw;have b8:ws.length=(lst U acc m).length:=Paired.length hw;have T3:=T2.keep (H':=H') λb kb e=>sm _ _ e;refine⟨_,rfl,D,rfl,⟨_,SqL.of eD⟩,q20 (xs:=ws) (λj σ G'=>∃(v:Option V) (S':List Str->Prop) (n':Nat),σ=[some (.ref l),some (.ref d),some (.ref r),some (.ref q),some (.int m),some (.ref D),v]/\Same H1 G'/\G' q=some (.lst zs)/\G' sl=some (.lst (a5.map V.int))/\G' D=some (.lst ws)/\PathOk H1 G' r S' n'/\Paths (acc++(lst U acc m).take j) S'/\n'<=(acc.length+j)*31)
     ⟨v3,S,n,rfl,s3.trans sm,sm _ _ eq,sm _ _ es,eD,T3,by rw[List.take_zero,z31];exact hP,hn⟩ (λj σ H' _ z=>by obtain⟨_,_,_,_,_,_,_,z,_⟩:=z;exact SqL.of z) ?_ ?_⟩
    ·rintro j x σ G1 hx ⟨v,S',n',rfl,g1,gq,gs,gD,T4,Z,b4⟩;obtain⟨u,b,J,rfl,hb⟩:=q2y hw hx;have jl:j < (lst U acc m).length:=(z07.mp J).1;have c9:u∈lst U acc m:=z18 J;obtain⟨uU,ul,un⟩:=q69.mp c9;have lu:=a2 u uU;have c4:=g1 _ _ hb;have et:(lst U acc m).take (j+1)=(lst U acc m).take j++ [u]:=by rw[z3g,J];rfl
     have d3:(lst U acc m).Nodup:=(nU.filter _).filter _;refine⟨_,rfl,_,rfl,restT G1 r,r,b,u,S',n',rfl,T4.other c4 (λ_ z=>nomatch z),qsc _ _,T4.bas,by lia,?_,λG2 S2 g2 T5 c1=>?_⟩
     ·intro z;rcases (Z.dom _).mp z with z | ⟨q',a1,b5⟩
      ·simp at z
      ·have e:=qoh b5 (Z.ne q' a1);subst e;rcases z2u.mp a1 with h | h
       ·exact un ⟨u,h,λ_ z=>z⟩
       ·obtain⟨j',c5,e'⟩:=z1i h;rw[z2g]at c5;rw[z1z]at e';obtain⟨_,eu⟩:=z07.mp J;exact(z08.mp d3) j' j (by lia) jl (by lia) (e'.trans eu.symm)
     ·obtain⟨T6,g3⟩:=T4.back g1 g2 T5;have c7:n'+u.length+1<=(acc.length+(j+1))*31:=by lia
      refine⟨_,S2,_,rfl,g3,g2 _ _ (T4.other gq (λ_ z=>nomatch z)),g2 _ _ (T4.other gs (λ_ z=>nomatch z)),g2 _ _ (T4.other gD (λ_ z=>nomatch z)),T6,⟨λp=>?_,λq' a1=>?_⟩,c7⟩
      ·rw[c1,Z.dom,et]
       constructor
       ·rintro ((h | ⟨q',h1,h2⟩) | h)
        ·exact .inl h
        ·refine .inr ⟨q',?_,h2⟩;rw[<- z1y];exact z2u.mpr (.inl h1)
        ·exact .inr ⟨u,by simp,h⟩
       ·rintro (h | ⟨q',h1,h2⟩)
        ·exact .inl (.inl h)
        ·rw[<- z1y]at h1;rcases z2u.mp h1 with h1 | h1
         ·exact .inl (.inr ⟨q',h1,h2⟩)
         ·rw[z1m.mp h1]at h2;exact .inr h2
      ·rw[et,<- z1y]at a1;rcases z2u.mp a1 with h1 | h1
       ·exact Z.ne q' h1
       ·rw[z1m.mp h1];exact d4 u uU
    ·rintro σ G1 ⟨v,S',n',rfl,g1,gq,gs,gD,T4,Z,b4⟩;rw[b8,z2t]at Z;have lz:=Paired.length hz;refine⟨_,zr,.inl ⟨zr,_,SqL.of gq⟩,_,zr,q,D,_,_,zr,zr,gq,gD,z3x (q14 (by lia)),?_⟩;have kq:∀b kb,G1 b=some (.dK kb)->upd G1 q (.lst (zs++ws)) b=some (.dK kb):=λb kb e=>by
      rw[qi (λz=>by rw[z,gq]at e;cases e)];exact e
     exact⟨_,_,_,_,acc++lst U acc m,S',n',rfl,g1.set c8,qb,by rw[qi b7];exact gs,q1m hz hw,T4.keep kq,Z,by rw[z1o,<- b8];exact b4,a8⟩
   ·obtain⟨⟨v,rfl⟩,sm,ws,eD,hw,lw⟩:=p;obtain⟨rfl,hx⟩:=y;have d1:=hx _ (SqL.of (sm _ _ (s3 _ _ hc)));obtain⟨u,b,J,rfl,hb⟩:=q2y hy d1;have uU:u∈U:=(z2x.mp (z18 J)).1;have a0:((szF U m).take (j+1)).filter (λu=> !decide (∃q∈acc,∀w∈q,w∈u))=((szF U m).take j).filter (λu=> !decide (∃q∈acc,∀w∈q,w∈u))++(if (!decide (∃q∈acc,∀w∈q,w∈u))=true then [u] else []):=by
     rw[z3g,J,z1u]
     congr 1
     show List.filter _ [u]=_;rw[z2j,List.filter_nil]
    have T3:=T2.keep (H':=H3) λb kb e=>sm _ _ e;refine⟨_,zr,_,zr,H1,r,b,u,acc,S,n,zr,sm _ _ (s3 _ _ hb),T3,by lia,z40 (a2 u uU) (by decide),hP,c6,λH4 s4=>⟨_,zr,ite2 (λh1=>?_) (λh1=>?_)⟩⟩
    ·refine⟨_,rfl,_,s4 _ _ eD,q14 (by lia),⟨_,rfl⟩,(sm.trans s4).set hD,_,qb,?_,by rw[z1o];show _+1<=_;lia⟩;rw[a0,if_pos h1];exact q1m hw (.cons ⟨b,zr,hb⟩ .nil)
    ·refine⟨⟨_,zr⟩,sm.trans s4,ws,s4 _ _ eD,?_,by lia⟩;rw[a0,if_neg h1,z31];exact hw
  ·rintro σ H2 ⟨v1,v2,v3,zs,acc,S,n,rfl,s3,eq,es,hz,T2,hP,hn,TI⟩;rw[z30]at TI;have cov:∀u∈U,∃q∈acc,∀w∈q,w∈u:=λu J=>TI.cov u J (by rw[z2t,a7];exact M.all u J);refine⟨_,zr,q,zs,acc,zr,SqL.of eq,q1i (λb ys e=>s3 b _ e) hz,λp us hp d0=>?_⟩;have s4:=qf (o:=HO.lst us) hp;have O:∀x,x∈Tim.srt q17 acc↔x∈acc:=λx=>(Tim.q13 q17 acc).mem_iff;refine k p us (Tim.srt q17 acc) _ (s1.trans (s3.trans s4)) (s1.free (s3.free hp)) qb (q1i (λb ys e=>s4 b _ e) d0) ⟨q58 q28 (Tim.q23 q28 _) ((Tim.q13 q17 _).nodup_iff.mpr TI.nd),λx hx=>a4 x (TI.sub x ((O x).mp hx)).1,λx hx y hy h=>TI.anti x ((O x).mp hx) y ((O y).mp hy) h⟩ λx=>?_
   constructor
   ·rintro ⟨u,J,h⟩;obtain⟨s,hs,rfl⟩:=(hU u).mp (TI.sub u ((O u).mp J)).1;exact⟨s,hs,λw hw=>h w ((q2t s w).mpr hw)⟩
   ·rintro ⟨s,hs,h⟩;obtain⟨q',h1,h2⟩:=cov (uniq s) ((hU _).mpr ⟨s,hs,rfl⟩);exact⟨q',(O q').mpr h1,λw hw=>h w ((q2t s w).mp (h2 w hw))⟩
def qca(K:xA)(H:Hp)(zs:List V)(C:xF):Prop:=Paired (λx s=>∃b,x=V.ref b/\SqT K H b (s.map V.str)) zs C
theorem qa5{K:xA}{H H':Hp}(k:∀b xs,SqT K H b xs->SqT K H' b xs):∀{zs:List V} {C:xF},qca K H zs C->qca K H' zs C
 | _,_,.nil=> .nil
 | _,_,.cons ⟨b,e,hb⟩ h=> .cons ⟨b,e,k _ _ hb⟩ (qa5 k h)
theorem qa6{K:xA}{H:Hp}:∀{zs:List V} {C:xF},qca K H zs C->qfa K H zs C
 | _,_,.nil=> .nil
 | _,_,.cons ⟨b,e,hb⟩ h=> .cons ⟨b,e,.inr hb⟩ (qa6 h)
def qcb{K:xA}{H:Hp}{t b:Addr}{zs ys xs:List V}(D:H t=some (.lst zs))(h:SqT K H b xs):SqT K (upd H t (.lst ys)) b xs:=by
 rcases h with (h | ⟨o,h⟩) | h
 ·exact .inl (.inl (by rw[qi (λz=>by rw[z,D]at h;cases h)];exact h))
 ·exact .inl (.inr ⟨o,by rw[qi (λz=>by rw[z,D]at h;cases h)];exact h⟩)
 ·exact .inr h
def q4w(A B:xF):List (List Str):=A.flatMap λa=>B.map λb=>a++b
def qbl{A B:xF}{c:xD}:c∈q4w A B↔∃a∈A,∃b∈B,c=a++b:=by
 unfold q4w;rw[List.mem_flatMap]
 constructor
 ·rintro ⟨a,D,h⟩;obtain⟨b,J,rfl⟩:=z44.mp h;exact⟨a,D,b,J,zr⟩
 ·rintro ⟨a,D,b,J,rfl⟩;exact⟨a,D,z44.mpr ⟨b,J,zr⟩⟩
def qik(A B:xF):(q4w A B).length=A.length*B.length:=by
 unfold q4w
 induction A with
 | nil=>simp
 | cons a A ih=>
  rw[List.flatMap_cons,z1o,ih,z30,z2i,Nat.succ_mul]
  lia
def qpw(A B:xF)(a:xD):q4w (A++ [a]) B=q4w A B++B.map λb=>a++b:=by
 unfold q4w;rw[z1j];simp
def qcc{A B:xF}{x:xD}:Up (q4w A B) x↔Up A x/\Up B x:=by
 constructor
 ·rintro ⟨c,hc,h⟩;obtain⟨a,D,b,J,rfl⟩:=qbl.mp hc;exact⟨⟨a,D,λw hw=>h w (z2u.mpr (.inl hw))⟩,b,J,λw hw=>h w (z2u.mpr (.inr hw))⟩
 ·rintro ⟨⟨a,D,h1⟩,b,J,h2⟩;exact⟨a++b,qbl.mpr ⟨a,D,b,J,zr⟩,λw hw=>(z2u.mp hw).elim (h1 w) (h2 w)⟩
def qse(K:xA):Sp:=λvs H Q _=>∃(a b:Addr) (xs ys:List V) (A B:xF),vs=[.ref a,.ref b]/\SqL K H a xs/\SqL K H b ys/\q1b H xs A/\q1b H ys B/\A.length*B.length<=20000/\B.length<=20000/\(∀r∈A,r.length<=15/\endW∉r)/\(∀r∈B,r.length<=15/\endW∉r)/\
 ∀p zs (R:xF) H',Same H H'->H p=none->H' p=some (.lst zs)->q1b H' zs R->Acc R->(∀x,Up R x↔Up A x/\Up B x)->Q (.ref p) H'
def qsf(T:Txt K mg):Def P w K mg base 4 "agreed" ["one","other"] (qse K):=by
 refine T.qw0.ok qbe (λvs H Q E h=>?_) λf cdv A outer s H vs Q E hr h=>?_
 ·obtain⟨a,b,xs,ys,A,B,rfl,_⟩:=h;rfl
 ·obtain⟨a,b,xs,ys,FA,FB,rfl,ha,hb,hA,hB,lA,lB,oA,oB,k⟩:=h;have lx:=Paired.length hA;have ly:=Paired.length hB;refine⟨_,(q3f
   (qm (i:=2) qbe.nd rfl (Or.inl rfl) (q1p q26))
   (q1o PassesOwn.never rfl (q18 K (pv 0)) (qu (i:=3) qbe.nd rfl (Or.inr rfl)) (qg (q2i (q43 z0l z0e z0f q6j (pv 2) (pa_1 (q2d (N:=["more_words","words"]) (caps:=[none,some 3]) rfl (by with_unfolding_all rfl) (q18 K (pv 1)) (λ_ _ _ _ _=>(qu (i:=0) (show (["more_words","words"]:xD).Nodup by decide+kernel) rfl (Or.inl rfl))) (λ_ _ _ _ _=>q2u) (λ_ _ _ _ _=>(ql (qxs K) (pv 1) (pv 0)))))))))
   (qh (q11 (qa4 T) hr rfl (pa_1 (pv 2))))),?_⟩
  refine⟨by show 0<=sizeLine;decide,λt ht=>?_⟩;have s0:=qf (o:=HO.lst []) ht;refine⟨_,zr,a,zr,⟨_,s0.seq ha⟩,q20 (xs:=xs) (λi σ H'=>∃(v:Option V) (zs:List V),σ=[some (.ref a),some (.ref b),some (.ref t),v]/\Same H H'/\H' t=some (.lst zs)/\qca K H' zs (q4w (FA.take i) FB))
   ⟨none,[],rfl,s0,qb,.nil⟩ (λi σ H' _ z=>by obtain⟨_,_,_,z,_⟩:=z;exact z.seq ha) ?_ ?_⟩
  ·rintro i x σ H1 hx ⟨v,zs,rfl,s1,Z,hz⟩;obtain⟨wa,ba,O,rfl,a2⟩:=q2y hA hx;have lz:=Paired.length hz;rw[qik,z2g]at lz;have il:i < FA.length:=(z07.mp O).1;have lz2:zs.length<=20000:=by rw[lz];exact z40 (z3i (by lia) (z47 _)) lA
   refine⟨_,zr,.inl ⟨zr,_,SqL.of Z⟩,_,zr,b,zr,⟨_,s1.seq hb⟩,λD hD=>?_⟩;refine q1u ys.length (λj σ' H'=>(∃v,σ'=[v,some (.ref ba)])/\Same H1 H'/\∃us,H' D=some (.lst us)/\(∀H2,(∀b xs,SqT K H' b xs->SqT K H2 b xs)->qca K H2 us ((FB.take j).map λb=>wa++b))) ⟨⟨_,zr⟩,qf hD,[],qb,λ_ _=> .nil⟩ (λj σ' H' hj p=>?_) (λσ' H' p=>⟨?_,?_⟩) (λj σ' H' hj p x H3 y=>?_)
   ·obtain⟨_,sm,_⟩:=p;exact⟨_,ys[j],(s1.trans sm).seq hb,z0d hj⟩
   ·obtain⟨_,sm,_⟩:=p;exact⟨_,(s1.trans sm).seq hb,z47 _⟩
   ·obtain⟨_,sm,us,eD,hu⟩:=p;have J:=hu H' λ_ _ z=>z;have lu:=Paired.length J;rw[z30,z2g]at lu;rw[ly,z2t]at hu;refine⟨t,D,_,_,zr,zr,sm _ _ Z,eD,z3x (q14 (by lia)),?_⟩;have a1:FA.take (i+1)=FA.take i++ [wa]:=by rw[z3g,O];rfl
    refine⟨_,zs++us,zr,(s1.trans sm).set ht,qb,?_⟩;rw[a1,qpw];exact q1m (qa5 (λb xs h=>qcb (sm _ _ Z) (sm.seqT h)) hz) (hu _ λb xs h=>qcb (sm _ _ Z) h)
   ·obtain⟨⟨v,rfl⟩,sm,us,eD,hu⟩:=p;obtain⟨rfl,a6⟩:=y;have a5:=a6 _ ((s1.trans sm).seq hb);obtain⟨wb,bb,a0,rfl,a4⟩:=q2y hB a5;have J:=hu H3 λ_ _ z=>z;have lu:=Paired.length J;rw[z30,z2g]at lu;have o1:=oA wa (z18 O);have o2:=oB wb (z18 a0);refine⟨_,rfl,_,rfl,_,_,_,_,rfl,rfl,SqT.of (sm _ _ (s1 _ _ a2)),SqT.of (sm _ _ (s1 _ _ a4)),z3x (q14 (by rw[z30,z30];lia)),λp H4 s4 hp=>?_⟩;rw[<- z35]at hp;refine⟨_,s4 _ _ eD,q14 (by lia),⟨_,zr⟩,(sm.trans s4).set hD,us++ [.ref p],qb,λH5 h5=>?_⟩;rw[z3g,a0,z35];exact q1m (hu H5 λb xs h=>h5 b xs (qcb (s4 _ _ eD) (s4.seqT h))) (.cons ⟨p,zr,h5 _ _ (qcb (s4 _ _ eD) hp)⟩ .nil)
  ·rintro σ H1 ⟨v,zs,rfl,s1,Z,hz⟩;rw[lx,z2t]at hz;have lz:=Paired.length hz;refine⟨_,rfl,t,zs,q4w FA FB,rfl,SqL.of Z,qa6 hz,by rw[qik];exact lA,λc hc=>?_,λp us R H2 s2 hp ep hR aR uR=>?_⟩
   ·obtain⟨x,hx,y,hy,rfl⟩:=qbl.mp hc;have o1:=oA x hx;have o2:=oB y hy;refine⟨by rw[z1o];lia,λz=>?_⟩;rcases z2u.mp z with z | z
    ·exact o1.2 z
    ·exact o2.2 z
   ·exact k p us R H2 (s1.trans s2) (s1.free hp) ep hR aR λx=>by rw[uR,qcc]
def qsg{R A B:xF}(hR:Acc R)(h:∀x,Up R x↔Up A x/\Up B x):∀r∈R,∃a∈A,∃b∈B,∀w∈r,w∈a\/ w∈b:=λr hr=>by
 obtain⟨⟨a,J,h1⟩,b,O,h2⟩:=(h r).mp ⟨r,hr,λ_ z=>z⟩;refine⟨a,J,b,O,?_⟩;obtain⟨q,hq,D⟩:=(h (a++b)).mpr ⟨⟨a,J,λw hw=>z2u.mpr (.inl hw)⟩,b,O,λw hw=>z2u.mpr (.inr hw)⟩;have e:=hR.anti q hq r hr λw hw=>(z2u.mp (D w hw)).elim (h1 w) (h2 w);subst e;exact λw hw=>z2u.mp (D w hw)
theorem qcd:∀(W:xD) (R:xF),R.Nodup->(∀r∈R,Norm r/\∀w∈r,w∈W)->R.length<=2^W.length
 | [],R,nd,h=>by
  have:∀r∈R,r=[]:=λr hr=>by
   cases r with
   | nil=>rfl
   | cons w r=>exact absurd ((h _ hr).2 w (z1p ..)) (by simp)
  exact q6m (v:=[[]]) nd λr hr=>by rw[this r hr];simp
 | x::W,R,nd,h=>by
  have e:R.length=(R.filter λr=>decide (x∈r)).length+(R.filter λr=> !decide (x∈r)).length:=by
   induction R with
   | nil=>rfl
   | cons r R ih=>
    have:=ih (z32.mp nd).2 λq hq=>h q (z16 _ hq);by_cases z:x∈r <;> simp[z] <;> lia
  have h0:(R.filter λr=> !decide (x∈r)).length<=2^W.length:=qcd W _ (nd.filter _) λr hr=>by
   obtain⟨h1,h2⟩:=z2x.mp hr;refine⟨(h r h1).1,λw hw=>?_⟩;rcases z3m.mp ((h r h1).2 w hw) with rfl | z
   ·exact absurd hw (by simpa using h2)
   ·exact z
  have h1:((R.filter λr=>decide (x∈r)).map λr=>r.filter λw=>decide (w≠x)).length<=2^W.length:=by
   refine qcd W _ ?_ λq hq=>?_
   ·refine List.pairwise_map.mpr ((nd.filter _).imp_of_mem λ{a b} ha hb J e=>J ?_);obtain⟨a1,a2⟩:=z2x.mp ha;obtain⟨b1,b2⟩:=z2x.mp hb;have D:∀(p q:xD),x∈q->(p.filter λw=>decide (w≠x))=(q.filter λw=>decide (w≠x))->∀w∈p,w∈q:=λp q hq e w hw=>by
     by_cases z:w=x
     ·rw[z];exact hq
     ·have:w∈p.filter λw=>decide (w≠x):=z2x.mpr ⟨hw,z3b z⟩;rw[e]at this;exact(z2x.mp this).1
    exact qh1 (h a a1).1 (h b b1).1 (D a b (of_decide_eq_true b2) e) (D b a (of_decide_eq_true a2) e.symm)
   ·obtain⟨r,hr,rfl⟩:=z44.mp hq;obtain⟨r1,_⟩:=z2x.mp hr;refine⟨List.Pairwise.filter _ (h r r1).1,λw hw=>?_⟩;obtain⟨w1,w2⟩:=z2x.mp hw;rcases z3m.mp ((h r r1).2 w w1) with z | z
    ·exact absurd z (of_decide_eq_true w2)
    ·exact z
  rw[z30]at h1;rw[z2i,Nat.pow_succ]
  lia
structure Of (n:Nat) (W:xD) (R:xF):Prop where
 top:n<=10
 few:W.length<=n
 ne:endW∉W
 sub:∀r∈R,∀w∈r,w∈W
def Of.len{n:Nat}{W:xD}{R:xF}(h:Of n W R){r:xD}(hr:r∈R)(nr:Norm r):r.length<=10/\endW∉r:=
 ⟨by have:=q6m (q4c q24 nr) (h.sub r hr);have:=h.few;have:=h.top;lia,λz=>h.ne (h.sub r hr _ z)⟩
def Of.card{n:Nat}{W:xD}{R:xF}(h:Of n W R)(a:Acc R):R.length<=2^n:=by
 have h1:=qcd W R (q4c q28 a.srt) λr hr=>⟨a.norm r hr,h.sub r hr⟩;exact z40 h1 (Nat.pow_le_pow_right (by decide) h.few)
def Of.cards{n:Nat}{W:xD}{R:xF}(h:Of n W R)(a:Acc R):R.length<=1024:=
 z40 (h.card a) (z40 (Nat.pow_le_pow_right (by decide) h.top) (by decide))
def qoi(a b:Str):eqV (.str a) (.str b)=decide (a=b):=by
 show (a==b)=_;by_cases h:a=b <;> simp[h]
def qut(x:Str)(ws:xD):inV (.str x) (ws.map V.str)=decide (x∈ws):=by
 unfold inV;rw[z2z,z2p,decide_eq_true_iff]
 constructor
 ·rintro ⟨y,hy,h⟩;obtain⟨z,hz,rfl⟩:=z44.mp hy;rw[qoi]at h;have:=of_decide_eq_true h;exact this ▸ hz
 ·intro h;exact⟨.str x,z44.mpr ⟨x,h,rfl⟩,by rw[qoi];simp⟩
def qsh(ws:xD):(ws.map V.str).all q7e=true:=by
 rw[z2n];intro x hx;obtain⟨z,_,rfl⟩:=z44.mp hx;rfl
def qsi:Sp:=λvs H Q _=>∃(a b:Addr) (r q:xD),vs=[.ref a,.ref b]/\H a=some (.tup (r.map V.str))/\H b=some (.tup (q.map V.str))/\Q (.bl (decide (∀x∈r,x∈q))) H
def q4n(T:Txt K mg):Def P w K mg base 1 "_law_within" ["_law_one","_law_other"] qsi:=by
 refine T.qjn.ok q99 (λvs H Q E h=>?_) λf cdv A outer s H vs Q E hr h=>?_
 ·obtain⟨a,b,r,q,rfl,_⟩:=h;rfl
 ·obtain⟨a,b,r,q,rfl,J,hb,k⟩:=h;refine⟨_,(q39
   (q1o PassesOwn.never rfl (q5x K (pv 0)) (qu (i:=2) q99.nd rfl (Or.inl rfl)) (qg (q12 (qp (qrj K) (pv 2) (pv 1) (by with_unfolding_all rfl)) (qg (qh q3p)) qr)))
   (qh q3p)),?_⟩
  refine⟨_,rfl,a,rfl,⟨_,SqT.of J⟩,q90 (xs:=r.map V.str) (λi σ H'=>H'=H/\(∃v,σ=[some (.ref a),some (.ref b),v])/\∀x∈r.take i,x∈q) ⟨rfl,⟨_,rfl⟩,λx hx=>by simp at hx⟩ (λi σ H' _ z=>by rw[z.1];exact SqT.of J) ?_ ?_⟩
  ·rintro i x σ H1 hx ⟨rfl,⟨v,rfl⟩,D⟩;rw[z22]at hx;obtain⟨z,hz,rfl⟩:=z0q.mp hx;refine⟨_,zr,_,zr,b,_,zr,.inr (SqT.of hb),zr,qsh q,_,zr,?_⟩;rw[qut];refine ite2 (λh1=>?_) (λh1=>?_)
   ·have hn:z∉q:=by simpa using h1
    rw[z2w (λy=>hn (y z (z18 hz)))]at k;exact k
   ·have hn:z∈q:=by simpa using h1
    refine⟨zr,⟨_,zr⟩,λy hy=>?_⟩;rw[z3g,hz]at hy;rcases z2u.mp hy with hy | hy
    ·exact D y hy
    ·rw[show y=z by simpa using hy];exact hn
  ·rintro σ H1 ⟨rfl,⟨v,rfl⟩,D⟩;rw[z30,z2t]at D;rw[z3b D]at k;exact k
def qfd{R S:xF}(hR:Acc R)(h:∀x,Up R x↔Up S x):∀r∈R,∃s∈S,∀w∈r,w∈s:=λr hr=>by
 obtain⟨s,D,h1⟩:=(h r).mp ⟨r,hr,λ_ z=>z⟩;obtain⟨q,hq,h2⟩:=(h s).mpr ⟨s,D,λ_ z=>z⟩;have e:=hR.anti q hq r hr λw hw=>h1 w (h2 w hw);subst e;exact⟨s,D,h2⟩
def Of.agr{n:Nat}{W:xD}{A B C:xF}(a:Of n W A)(b:Of n W B)(hC:Acc C)(h:∀x,Up C x↔Up A x/\Up B x):Of n W C:=⟨a.top,a.few,a.ne,λr hr w hw=>by
 obtain⟨x,hx,y,hy,z⟩:=qsg hC h r hr;exact(z w hw).elim (a.sub x hx w) (b.sub y hy w)⟩
def Of.thin{n:Nat}{W:xD}{A B C:xF}(a:Of n W A)(b:Of n W B)(hC:Acc C)(h:∀x,Up C x↔Up (A++B) x):Of n W C:=⟨a.top,a.few,a.ne,λr hr w hw=>by
 obtain⟨x,hx,z⟩:=qfd hC h r hr;exact(z2u.mp hx).elim (λq=>a.sub x q w (z w hw)) (λq=>b.sub x q w (z w hw))⟩
theorem qil{K:xA}{H:Hp}:∀{zs:List V} {C:xF},q1b H zs C->qfa K H zs C
 | _,_,.nil=> .nil
 | _,_,.cons ⟨b,e,hb⟩ h=> .cons ⟨b,e,.inr (SqT.of hb)⟩ (qil h)
def dR(r:xD):PyData:= .tuple (r.map .str)
theorem qsj{K:xA}{H:Hp}:∀{r:xD},(∀w∈r,PyData.strOk w=true)->Dats K H (r.map .str) (r.map V.str)
 | [],_=> .nil
 | w::r,h=> .cons (.str w (h w (z1p ..))) (qsj λx hx=>h x (z16 _ hx))
theorem qm1{K:xA}{H:Hp}:∀{zs:List V} {R:xF},q1b H zs R->(∀r∈R,∀w∈r,PyData.strOk w=true)->Dats K H (R.map dR) zs
 | _,_,.nil,_=> .nil
 | _,_,.cons ⟨b,e,hb⟩ t,h=>by
  rw[e];exact .cons (.tup (SqT.of hb) (qsj (h _ (z1p ..)))) (qm1 t λr hr=>h r (z16 _ hr))
def qyf(r:xD):PyData.depthAll (r.map .str)=0:=by
 induction r with
 | nil=>rfl
 | cons x p ih=>
  show max (PyData.depth (.str x)) (PyData.depthAll (p.map .str))=0;rw[ih];rfl
def qoj(R:xF):PyData.depthAll (R.map dR)<=1:=by
 induction R with
 | nil=>exact z4a _
 | cons r R ih=>
  show max (PyData.depth (dR r)) (PyData.depthAll (R.map dR))<=1;refine Nat.max_le.mpr ⟨?_,ih⟩;show PyData.depthAll (r.map .str)+1<=1;rw[qyf];exact z47 _
def addN:V->V->V
 | .int i,.int j=> .int (i+j)
 | _,_=> .non
def minN:V->V->V
 | .non,y=>y
 | x,.non=>x
 | .int i,.int j=> .int (if j < i then j else i)
 | x,_=>x
def IsN(x:V):Prop:=x= .non\/ ∃i,x= .int i
def sp_k(v:V):Sp:=λvs H Q _=>∃p:Addr,vs=[.ref p]/\Q v H
def qpx(f:Int->Int->Int):Sp:=λvs H Q _=>∃(p:Addr) (i j:Int),vs=[.ref p,.int i,.int j]/\Q (.int (f i j)) H
def q102:Sp:=λvs H Q _=>∃(p:Addr) (i j:Int),vs=[.ref p,.int i,.int j]/\qwf i j/\Q (.int (i*j)) H
def qwh(f:V->V->V):Sp:=λvs H Q _=>∃(p:Addr) (x y:V),vs=[.ref p,x,y]/\IsN x/\IsN y/\Q (f x y) H
def qwi(f:Bool->Bool->Bool):Sp:=λvs H Q _=>∃(p:Addr) (x y:Bool),vs=[.ref p,.bl x,.bl y]/\Q (.bl (f x y)) H
def qdv(T:Txt K mg):MDef P w K mg base 1 (cA mg "Counts") "nought" ["self"] (sp_k (.int 0)):=by
 refine T.qfw.ok qdn (λvs H Q E h=>?_) λf cdv A outer s H vs Q E hr h=>?_
 ·obtain⟨p,rfl,_⟩:=h;rfl
 ·obtain⟨p,rfl,q⟩:=h;exact⟨_,(qg (qh qc)),q⟩
def qh2(T:Txt K mg):MDef P w K mg base 1 (cA mg "Counts") "unit" ["self"] (sp_k (.int 1)):=by
 refine T.qk0.ok qgn (λvs H Q E h=>?_) λf cdv A outer s H vs Q E hr h=>?_
 ·obtain⟨p,rfl,_⟩:=h;rfl
 ·obtain⟨p,rfl,q⟩:=h;exact⟨_,(qg (qh qc)),q⟩
def qdw(T:Txt K mg):MDef P w K mg base 1 (cA mg "Counts") "either" ["self","one","other"] (qpx (· + ·)):=by
 refine T.qg4.ok qdo (λvs H Q E h=>?_) λf cdv A outer s H vs Q E hr h=>?_
 ·obtain⟨p,i,j,rfl,_⟩:=h;rfl
 ·obtain⟨p,i,j,rfl,q⟩:=h;exact⟨_,(qg (qh (ql q1j (pv 1) (pv 2)))),⟨_,zr,_,zr,_,_,zr,zr,q⟩⟩
def qh3(T:Txt K mg):MDef P w K mg base 1 (cA mg "Counts") "both" ["self","one","other"] q102:=by
 refine T.qjr.ok qgo (λvs H Q E h=>?_) λf cdv A outer s H vs Q E hr h=>?_
 ·obtain⟨p,i,j,rfl,_⟩:=h;rfl
 ·obtain⟨p,i,j,rfl,b,q⟩:=h;exact⟨_,(qg (qh (ql qc7 (pv 1) (pv 2)))),⟨_,zr,_,zr,_,_,zr,zr,b,q⟩⟩
def qfe(T:Txt K mg):MDef P w K mg base 1 (cA mg "Costs") "nought" ["self"] (sp_k .non):=by
 refine T.qhq.ok qf2 (λvs H Q E h=>?_) λf cdv A outer s H vs Q E hr h=>?_
 ·obtain⟨p,rfl,_⟩:=h;rfl
 ·obtain⟨p,rfl,q⟩:=h;exact⟨_,(qg (qh q38)),q⟩
def qjc(T:Txt K mg):MDef P w K mg base 1 (cA mg "Costs") "unit" ["self"] (sp_k (.int 0)):=by
 refine T.qmq.ok qj3 (λvs H Q E h=>?_) λf cdv A outer s H vs Q E hr h=>?_
 ·obtain⟨p,rfl,_⟩:=h;rfl
 ·obtain⟨p,rfl,q⟩:=h;exact⟨_,(qg (qh qc)),q⟩
def qff(T:Txt K mg):MDef P w K mg base 1 (cA mg "Costs") "either" ["self","one","other"] (qwh minN):=by
 refine T.qhs.ok qf3 (λvs H Q E h=>?_) λf cdv A outer s H vs Q E hr h=>?_
 ·obtain⟨p,x,y,rfl,_⟩:=h;rfl
 ·obtain⟨p,x,y,rfl,hx,hy,q⟩:=h;refine⟨_,(q3f
   (q12 (qp q7n (pv 1) q38 (qq _)) (qg (qh (pv 2))) qr)
   (q12 (qp q7n (pv 2) q38 (qq _)) (qg (qh (pv 1))) qr)
   (qh (qo (q8k rfl) rfl T.b_min q96 (pa_2 (pv 1) (pv 2))))),?_⟩
  rcases hx with rfl | ⟨i,rfl⟩
  ·exact⟨_,zr,zr,_,zr,q1d rfl ⟨_,zr,q⟩⟩
  ·rcases hy with rfl | ⟨j,rfl⟩
   ·exact⟨_,zr,zr,_,zr,qk rfl ⟨_,zr,zr,_,zr,q1d rfl ⟨_,zr,q⟩⟩⟩
   ·exact⟨_,zr,zr,_,zr,qk rfl ⟨_,zr,zr,_,zr,qk rfl ⟨_,zr,_,zr,_,_,zr,q⟩⟩⟩
def qjd(T:Txt K mg):MDef P w K mg base 1 (cA mg "Costs") "both" ["self","one","other"] (qwh addN):=by
 refine T.qmt.ok qj4 (λvs H Q E h=>?_) λf cdv A outer s H vs Q E hr h=>?_
 ·obtain⟨p,x,y,rfl,_⟩:=h;rfl
 ·obtain⟨p,x,y,rfl,hx,hy,q⟩:=h;refine⟨_,(q39
   (q12 (PW.pt (q7c (qp q7n (pv 1) q38 (qq _)) (q5a (qp q7n (pv 2) q38 (qq _))))) (qg (qh q38)) qr)
   (qh (ql q1j (pv 1) (pv 2)))),?_⟩
  rcases hx with rfl | ⟨i,rfl⟩
  ·exact⟨_,zr,zr,_,zr,q1d rfl q⟩
  ·rcases hy with rfl | ⟨j,rfl⟩
   ·exact⟨_,zr,zr,_,zr,qk rfl ⟨_,zr,zr,_,zr,q1d rfl q⟩⟩
   ·exact⟨_,zr,zr,_,zr,qk rfl ⟨_,zr,zr,_,zr,qk rfl ⟨_,zr,_,zr,_,_,zr,zr,q⟩⟩⟩
def quu(C:Addr):Sp:=λvs H Q _=>∃(p dx:Addr) (v:V),vs=[.ref p,v]/\H p=some (.ins C dx [])/\Q .non (upd H p (.ins C dx [("top",v)]))
def q9b(T:Txt K mg):IDef P w K mg base 1 (cA mg "Trusts") "top" (.int 100) (quu (cA mg "Trusts")):=by
 refine T.qjy.ok qgp (λvs H Q E h=>?_) λf cdv A outer s H vs Q E hr h=>?_
 ·obtain⟨p,dx,v,rfl,_⟩:=h;rfl
 ·obtain⟨p,dx,v,rfl,hp,q⟩:=h;exact⟨_,(qg (qr4 (pv 0) (pv 1) rfl)),⟨_,rfl,_,rfl,p,_,dx,_,rfl,hp,T.q8s,T.q8f,(by show 0 < 1000;decide),q⟩⟩
def qdx(T:Txt K mg):MDef P w K mg base 1 (cA mg "Trusts") "nought" ["self"] (sp_k (.int 0)):=by
 refine T.qfz.ok qdp (λvs H Q E h=>?_) λf cdv A outer s H vs Q E hr h=>?_
 ·obtain⟨p,rfl,_⟩:=h;rfl
 ·obtain⟨p,rfl,q⟩:=h;exact⟨_,(qg (qh qc)),q⟩
def quv(C:Addr):Sp:=λvs H Q _=>∃(p dx:Addr) (v:V),vs=[.ref p]/\H p=some (.ins C dx [("top",v)])/\Q v H
def qh4(T:Txt K mg):MDef P w K mg base 1 (cA mg "Trusts") "unit" ["self"] (quv (cA mg "Trusts")):=by
 refine T.qjx.ok qgr (λvs H Q E h=>?_) λf cdv A outer s H vs Q E hr h=>?_
 ·obtain⟨p,dx,v,rfl,_⟩:=h;rfl
 ·obtain⟨p,dx,v,rfl,hp,q⟩:=h;exact⟨_,(qg (qh (qay (pv 0) rfl))),⟨_,zr,p,_,dx,_,v,zr,hp,T.q8s,T.q8f,zr,q⟩⟩
def qdy(T:Txt K mg):MDef P w K mg base 1 (cA mg "Trusts") "either" ["self","one","other"] (qpx λi j=>if j > i then j else i):=by
 refine T.qg3.ok qdq (λvs H Q E h=>?_) λf cdv A outer s H vs Q E hr h=>?_
 ·obtain⟨p,i,j,rfl,_⟩:=h;rfl
 ·obtain⟨p,i,j,rfl,q⟩:=h;exact⟨_,(qg (qh (qo (qr0 rfl) rfl T.b_max qrl (pa_2 (pv 1) (pv 2))))),⟨_,zr,_,zr,_,_,zr,q⟩⟩
def qh5(T:Txt K mg):MDef P w K mg base 1 (cA mg "Trusts") "both" ["self","one","other"] (qpx λi j=>if j < i then j else i):=by
 refine T.qjs.ok qgs (λvs H Q E h=>?_) λf cdv A outer s H vs Q E hr h=>?_
 ·obtain⟨p,i,j,rfl,_⟩:=h;rfl
 ·obtain⟨p,i,j,rfl,q⟩:=h;exact⟨_,(qg (qh (qo (q8k rfl) rfl T.b_min q96 (pa_2 (pv 1) (pv 2))))),⟨_,zr,_,zr,_,_,zr,q⟩⟩
def qdz(T:Txt K mg):MDef P w K mg base 1 (cA mg "Truths") "nought" ["self"] (sp_k (.bl false)):=by
 refine T.qg1.ok qdr (λvs H Q E h=>?_) λf cdv A outer s H vs Q E hr h=>?_
 ·obtain⟨p,rfl,_⟩:=h;rfl
 ·obtain⟨p,rfl,q⟩:=h;exact⟨_,(qg (qh q3p)),q⟩
def qh6(T:Txt K mg):MDef P w K mg base 1 (cA mg "Truths") "unit" ["self"] (sp_k (.bl true)):=by
 refine T.qjp.ok qgu (λvs H Q E h=>?_) λf cdv A outer s H vs Q E hr h=>?_
 ·obtain⟨p,rfl,_⟩:=h;rfl
 ·obtain⟨p,rfl,q⟩:=h;exact⟨_,(qg (qh q3p)),q⟩
def qe0(T:Txt K mg):MDef P w K mg base 1 (cA mg "Truths") "either" ["self","one","other"] (qwi (· || ·)):=by
 refine T.qfx.ok qds (λvs H Q E h=>?_) λf cdv A outer s H vs Q E hr h=>?_
 ·obtain⟨p,i,j,rfl,_⟩:=h;rfl
 ·obtain⟨p,i,j,rfl,q⟩:=h;refine⟨_,(qg (qh (qw1 (pv 1) (q5b (pv 2))))),⟨_,zr,_,zr,?_⟩⟩;cases i with
  | true=>exact iteT q
  | false=>exact iteF ⟨_,rfl,q⟩
def qh7(T:Txt K mg):MDef P w K mg base 1 (cA mg "Truths") "both" ["self","one","other"] (qwi (· && ·)):=by
 refine T.qjo.ok qgv (λvs H Q E h=>?_) λf cdv A outer s H vs Q E hr h=>?_
 ·obtain⟨p,i,j,rfl,_⟩:=h;rfl
 ·obtain⟨p,i,j,rfl,q⟩:=h;refine⟨_,(qg (qh (q7m (pv 1) (q5b (pv 2))))),⟨_,zr,_,zr,?_⟩⟩;cases i with
  | true=>exact iteT ⟨_,rfl,q⟩
  | false=>exact iteF q
def q1e(m:Int)(ns:List Int):List Int:=(Tim.srt q1g ns).take m.toNat
def sums(a b:List Int):List Int:=a.flatMap λx=>b.map λy=>x+y
def quw(a b:List Int):(sums a b).length=a.length*b.length:=by
 unfold sums
 induction a with
 | nil=>simp
 | cons x a ih=>rw[List.flatMap_cons,z1o,ih,z30,z2i,Nat.succ_mul,Nat.add_comm]
def qux(xs:List V){m:Int}(h:0<=m):cutV xs none (some m)=xs.take m.toNat:=by
 obtain⟨n,rfl⟩:=z0m h;unfold cutV;rw[HT.sIx_nat,HT.sIx_none,List.drop_zero];show xs.take (min n xs.length - 0)=xs.take n;rw[Nat.sub_zero,<- List.take_eq_take_min]
def BeAt(mg:xE)(H:Hp)(p:Addr)(m:Int):Prop:=∃dx,H p=some (.ins (cA mg "Bests") dx [("most",.int m)])
def BeAt.same{mg:xE}{H H':Hp}{p:Addr}{m:Int}(h:BeAt mg H p m)(s:Same H H'):BeAt mg H' p m:=by
 obtain⟨dx,e⟩:=h;exact⟨dx,s _ _ e⟩
def quy(C:Addr):Sp:=λvs H Q _=>∃(p dx:Addr) (v:V),vs=[.ref p,v]/\H p=some (.ins C dx [])/\Q .non (upd H p (.ins C dx [("most",v)]))
def qai(T:Txt K mg):IDef P w K mg base 1 (cA mg "Bests") "many" (.int 3) (quy (cA mg "Bests")):=by
 refine T.qn0.ok qj5 (λvs H Q E h=>?_) λf cdv A outer s H vs Q E hr h=>?_
 ·obtain⟨p,dx,v,rfl,_⟩:=h;rfl
 ·obtain⟨p,dx,v,rfl,hp,q⟩:=h;exact⟨_,(qg (qr4 (pv 0) (pv 1) rfl)),⟨_,rfl,_,rfl,p,_,dx,_,rfl,hp,T.q4i,T.q5r,(by show 0 < 1000;decide),q⟩⟩
def quz(mg:xE):Sp:=λvs H Q _=>∃(p b:Addr) (m:Int) (ns:List Int),vs=[.ref p,.ref b]/\BeAt mg H p m/\0<=m/\H b=some (.lst (ns.map V.int))/\∀l H',Same H H'->H l=none->H' l=some (.lst ((q1e m ns).map V.int))->Q (.ref l) H'
def q42(T:Txt K mg):MDef P w K mg base 1 (cA mg "Bests") "least_ones" ["self","numbers"] (quz mg):=by
 refine T.qbz.ok qan (λvs H Q E h=>?_) λf cdv A outer s H vs Q E hr h=>?_
 ·obtain⟨p,b,m,ns,rfl,_⟩:=h;rfl
 ·obtain⟨p,b,m,ns,rfl,⟨dx,hp⟩,m0,hb,q⟩:=h;refine⟨_,(qg (qh (q27 (q31 K) (qo (q5f K) rfl T.q2h q2c (pa_1 (pv 1))) q3w (q1q (qay (pv 0) rfl))))),?_⟩;refine⟨_,zr,b,ns,zr,.inl (SqL.of hb),λl hl=>?_⟩;have s1:=qf (o:=HO.lst ((Tim.srt q1g ns).map V.int)) hl;refine⟨_,zr,p,_,dx,_,_,zr,s1 _ _ hp,T.q4i,T.q5r,zr,_,zr,_,_,zr,SqL.of qb,λl2 D=>?_⟩;rw[qux _ m0,<- List.map_take];exact q l2 _ (s1.trans (qf D)) (s1.free D) qb
def qpy:Sp:=λvs H Q _=>∃p:Addr,vs=[.ref p]/\∀l,H l=none->Q (.ref l) (upd H l (.lst []))
def qfg(T:Txt K mg):MDef P w K mg base 1 (cA mg "Bests") "nought" ["self"] qpy:=by
 refine T.qho.ok qf4 (λvs H Q E h=>?_) λf cdv A outer s H vs Q E hr h=>?_
 ·obtain⟨p,rfl,_⟩:=h;rfl
 ·obtain⟨p,rfl,q⟩:=h;exact⟨_,(qg (qh (q1p q26))),⟨by decide,q⟩⟩
def qv0:Sp:=λvs H Q _=>∃p:Addr,vs=[.ref p]/\∀l,H l=none->Q (.ref l) (upd H l (.lst [.int 0]))
def qje(T:Txt K mg):MDef P w K mg base 1 (cA mg "Bests") "unit" ["self"] qv0:=by
 refine T.qmy.ok qj7 (λvs H Q E h=>?_) λf cdv A outer s H vs Q E hr h=>?_
 ·obtain⟨p,rfl,_⟩:=h;rfl
 ·obtain⟨p,rfl,q⟩:=h;exact⟨_,(qg (qh (q1p (pa_1 qc)))),⟨by show 1<=sizeLine;decide,q⟩⟩
def qsk(mg:xE)(g:List Int->List Int->List Int):Sp:=λvs H Q _=>∃(p a b:Addr) (m:Int) (xs ys:List Int),vs=[.ref p,.ref a,.ref b]/\BeAt mg H p m/\0<=m/\H a=some (.lst (xs.map V.int))/\H b=some (.lst (ys.map V.int))/\xs.length<=20/\ys.length<=20/\
 ∀l H',Same H H'->H l=none->H' l=some (.lst ((q1e m (g xs ys)).map V.int))->Q (.ref l) H'
def qfh(T:Txt K mg):MDef P w K mg base 2 (cA mg "Bests") "either" ["self","one","other"] (qsk mg (· ++ ·)):=by
 refine T.qhl.ok qf5 (λvs H Q E h=>?_) λf cdv A outer s H vs Q E hr h=>?_
 ·obtain⟨p,a,b,m,xs,ys,rfl,_⟩:=h;rfl
 ·obtain⟨p,a,b,m,xs,ys,rfl,J,m0,ha,hb,lx,ly,q⟩:=h;refine⟨_,(qg (qh (qgh (q42 T) T.q4i hr (pv 0) (pa_1 (ql q5e (pv 1) (pv 2)))))),?_⟩;obtain⟨dx,D⟩:=id J;refine⟨_,rfl,p,dx,_,rfl,D,rfl,_,rfl,_,rfl,a,b,_,_,rfl,rfl,ha,hb,by rw[z30,z30];exact z3x (q1l (by lia)),λc hc=>?_⟩;have s1:=qf (o:=HO.lst (xs.map V.int++ys.map V.int)) hc;exact⟨p,c,m,xs++ys,zr,J.same s1,m0,by rw[qb,z35],λl H' s' hl e=>q l H' (s1.trans s') (s1.free hl) e⟩
def qjf(T:Txt K mg):MDef P w K mg base 2 (cA mg "Bests") "both" ["self","one","other"] (qsk mg sums):=by
 refine T.qmm.ok q76 (λvs H Q E h=>?_) λf cdv A outer s H vs Q E hr h=>?_
 ·obtain⟨p,a,b,m,xs,ys,rfl,_⟩:=h;rfl
 ·obtain⟨p,a,b,m,xs,ys,rfl,hp,m0,ha,hb,lx,ly,q⟩:=h;refine⟨_,(q3f
   (qm (i:=3) q76.nd rfl (Or.inl rfl) (q1p q26))
   (q1o PassesOwn.never rfl (q18 K (pv 1)) (qu (i:=4) q76.nd rfl (Or.inr rfl)) (qg (q2i (q43 z0l z0e z0f q6j (pv 3) (pa_1 (q2d (N:=["more","number"]) (caps:=[none,some 4]) rfl (by with_unfolding_all rfl) (q18 K (pv 2)) (λ_ _ _ _ _=>(qu (i:=0) (show (["more","number"]:xD).Nodup by decide+kernel) rfl (Or.inl rfl))) (λ_ _ _ _ _=>q2u) (λ_ _ _ _ _=>(ql q1j (pv 1) (pv 0)))))))))
   (qh (qgh (q42 T) T.q4i hr (pv 0) (pa_1 (pv 3))))),?_⟩
  refine⟨by decide,λS hS=>?_⟩;refine⟨_,rfl,a,rfl,⟨_,SqL.of (qf hS _ _ ha)⟩,q20 (xs:=xs.map V.int) (λi σ H'=>∃v:Option V,σ=[some (.ref p),some (.ref a),some (.ref b),some (.ref S),v]/\Same H H'/\H' S=some (.lst ((sums (xs.take i) ys).map V.int))) ⟨none,rfl,qf hS,qb⟩ (λi σ H' _ z=>by obtain⟨_,_,z,_⟩:=z;exact SqL.of (z _ _ ha)) ?_ ?_⟩
  ·rintro i x σ H' hx ⟨v,rfl,s1,h1⟩;rw[z22]at hx;obtain⟨n,O,rfl⟩:=z0q.mp hx;have il:i < xs.length:=(z07.mp O).1;have J:=s1 _ _ hb;refine⟨_,zr,.inl ⟨zr,_,SqL.of h1⟩,_,zr,b,zr,⟨_,SqL.of J⟩,λD hD=>?_⟩;refine q1u (ys.map V.int).length (λi σ' G=>(∃v,σ'=[v,some (.int n)])/\Same H' G/\G D=some (.lst (((ys.take i).map λy=>n+y).map V.int))) ⟨⟨_,zr⟩,qf hD,qb⟩ (λi σ' G hi p=>?_) (λσ' G p=>⟨?_,?_⟩) (λi σ' G hi p x H2 y=>?_)
   ·obtain⟨_,sm,_⟩:=p;exact⟨_,_,SqL.of (sm _ _ J),z0d hi⟩
   ·obtain⟨_,sm,_⟩:=p;exact⟨_,SqL.of (sm _ _ J),z47 _⟩
   ·obtain⟨_,sm,e⟩:=p;rw[z30,z2t]at e;have el:(sums (xs.take i) ys).length<=400:=by
     rw[quw,z2g];exact z3i (show min i xs.length<=20 by lia) ly
    refine⟨S,D,_,_,rfl,rfl,sm _ _ h1,e,by rw[z30,z30,z30];exact z3x (q1l (by lia)),_,rfl,(s1.trans sm).set hS,?_⟩;rw[qb,z3g,O,<- z35]
    congr 3
    unfold sums;rw[z1j];show _=_++List.flatMap _ [n];rw[List.flatMap_cons,List.flatMap_nil,z31]
   ·obtain⟨⟨v,rfl⟩,sm,e⟩:=p;obtain⟨rfl,hx⟩:=y;have a0:=hx _ (SqL.of (sm _ _ J));rw[z22]at a0;obtain⟨z,a1,rfl⟩:=z0q.mp a0;refine⟨_,zr,_,zr,_,_,zr,zr,?_⟩;refine⟨_,e,by rw[z30,z30,z2g];exact q1l (by lia),⟨_,rfl⟩,sm.set hD,?_⟩;rw[qb,z3g,a1,z35,z35];rfl
  ·rintro σ H' ⟨v,rfl,s1,h1⟩;rw[z30,z2t]at h1;obtain⟨dx,Z⟩:=hp.same s1;exact⟨_,zr,p,dx,_,zr,Z,zr,_,zr,p,S,m,sums xs ys,zr,⟨dx,Z⟩,m0,h1,λl H2 s2 hl e=>q l H2 (s1.trans s2) (s1.free hl) e⟩
def q103:Sp:=λvs H Q _=>∃o,vs=[o]/\∀p,H p=none->Q (.ref p) (upd H p (.lst []))
def qfi(T:Txt K mg):MDef P w K mg base 1 (cA mg "Hands") "nought" ["self"] q103:=by
 refine T.qhp.ok qf6 (λvs H Q E h=>?_) λf cdv A outer s H vs Q E hr h=>?_
 ·obtain⟨o,rfl,_⟩:=h;rfl
 ·obtain⟨o,rfl,k⟩:=h;exact⟨_,(qg (qh (q1p q26))),by show 0<=sizeLine;decide,λp hp=>k p hp⟩
def q104:Sp:=λvs H Q _=>∃o,vs=[o]/\∀p e H',Same H H'->H p=none->H' p=some (.lst [.ref e])->H' e=some (.tup [])->Q (.ref p) H'
def qjg(T:Txt K mg):MDef P w K mg base 1 (cA mg "Hands") "unit" ["self"] q104:=by
 refine T.qmj.ok qj9 (λvs H Q E h=>?_) λf cdv A outer s H vs Q E hr h=>?_
 ·obtain⟨o,rfl,_⟩:=h;rfl
 ·obtain⟨o,rfl,k⟩:=h;refine⟨_,(qg (qh (q1p (pa_1 (qkv q26))))),by show 0<=sizeLine;decide,λe he=>⟨by show 1<=sizeLine;decide,λp D=>?_⟩⟩;have s1:=qf (o:=HO.tup []) he;have J:=qf (o:=HO.lst [.ref e]) D;exact k p e _ (s1.trans J) (s1.free D) qb (J _ _ qb)
def qyg:Sp:=λvs H Q _=>∃(o:V) (a b:Addr) (xs ys:List V) (A B:xF),vs=[o,.ref a,.ref b]/\H a=some (.lst xs)/\H b=some (.lst ys)/\q1b H xs A/\q1b H ys B/\A.length<=2000/\B.length<=2000/\(∀r∈A,r.length<=15/\endW∉r)/\(∀r∈B,r.length<=15/\endW∉r)/\
 ∀p zs (R:xF) H',Same H H'->H p=none->H' p=some (.lst zs)->q1b H' zs R->Acc R->(∀x,Up R x↔Up (A++B) x)->Q (.ref p) H'
def qfj(T:Txt K mg):MDef P w K mg base 4 (cA mg "Hands") "either" ["self","one","other"] qyg:=by
 refine T.qht.ok qf7 (λvs H Q E h=>?_) λf cdv A outer s H vs Q E hr h=>?_
 ·obtain⟨o,a,b,xs,ys,A,B,rfl,_⟩:=h;rfl
 ·obtain⟨o,a,b,xs,ys,FA,FB,rfl,ha,hb,D,J,lA,lB,wA,wB,k⟩:=h;have l1:=Paired.length D;have l2:=Paired.length J;refine⟨_,(qg (qh (q11 (qa4 T) hr rfl (pa_1 (ql q5e (pv 1) (pv 2)))))),?_⟩;refine⟨_,zr,_,zr,a,b,_,_,zr,zr,ha,hb,z3x (q14 (by lia)),λc hc=>?_⟩;have s1:=qf (o:=HO.lst (xs++ys)) hc;refine⟨c,xs++ys,FA++FB,rfl,SqL.of qb,qil (q1i (λb ys e=>s1 b _ e) (q1m D J)),by rw[z1o];lia,λr hr=>?_,λp zs R H' s2 hp ep tp aR uR=>k p zs R H' (s1.trans s2) (s1.free hp) ep tp aR uR⟩;have:=(z2u.mp hr).elim (wA r) (wB r);exact⟨by lia,this.2⟩
def qv1(K:xA):Sp:=λvs H Q E=>∃o ws,vs=o::ws/\qse K ws H Q E
def qjh(T:Txt K mg):MDef P w K mg base 5 (cA mg "Hands") "both" ["self","one","other"] (qv1 K):=by
 refine T.qmo.ok qja (λvs H Q E h=>?_) λf cdv A outer s H vs Q E hr h=>?_
 ·obtain⟨o,ws,rfl,a,b,xs,ys,A,B,rfl,_⟩:=h;rfl
 ·obtain⟨o,ws,rfl,a,b,xs,ys,FA,FB,rfl,h⟩:=h;exact⟨_,(qg (qh (q11 (qsf T) hr rfl (pa_2 (pv 1) (pv 2))))),_,zr,_,zr,a,b,xs,ys,FA,FB,zr,h⟩
def insI(x:Int):List Int->List Int
 | []=>[x]
 | y::ys=>if x < y then x::y::ys else y::insI x ys
def upTo(x:Int)(l:List Int):Nat:=(l.filter λy=>decide (y<=x)).length
def AscI(l:List Int):Prop:=l.Pairwise λa b=>q1g b a=false
theorem qbm(x:Int):∀l,(insI x l).Perm (x::l)
 | []=> .refl _
 | y::ys=>by
  unfold insI;split
  ·exact .refl _
  ·exact((qbm x ys).cons y).trans (.swap _ _ _)
theorem qm2(x:Int):∀l,AscI l->AscI (insI x l)
 | [],_=>z0i _ _
 | y::ys,h=>by
  have h1:=z1q.mp h;unfold insI;split
  ·rename_i c;refine z1q.mpr ⟨λz hz=>?_,h⟩;rcases z3m.mp hz with rfl | hz
   ·exact z2w (by lia)
   ·have:=of_decide_eq_false (h1.1 z hz);exact z2w (by lia)
  ·rename_i c;refine z1q.mpr ⟨λz hz=>?_,qm2 x ys h1.2⟩;rcases z3m.mp ((qbm x ys).mem_iff.mp hz) with rfl | hz
   ·exact z2w c
   ·exact h1.1 z hz
def qv2(x:Int)(l:List Int):Tim.srt q1g (x::l)=insI x (Tim.srt q1g l):=
 (Tim.q97 q29 ((qbm x _).trans ((Tim.q13 q1g l).cons x)) (qm2 x _ (Tim.q23 q29 l))).symm
theorem qim(x:Int):∀(l:List Int) (m:Nat),AscI l->m<=upTo x l->(insI x l).take m=l.take m
 | _,0,_,_=>rfl
 | [],m+1,_,h=>by
  have:upTo x []=0:=rfl
  lia
 | y::ys,m+1,h,hm=>by
  have h1:=z1q.mp h;unfold insI;split
  ·rename_i c
   exfalso
   have:upTo x (y::ys)=0:=by
    unfold upTo;rw[z0k,List.filter_eq_nil_iff];intro z hz;rcases z3m.mp hz with rfl | hz
    ·simp;lia
    ·have:=of_decide_eq_false (h1.1 z hz);simp;lia
   lia
  ·rename_i c;rw[List.take_succ_cons,List.take_succ_cons,qim x ys m h1.2];have:upTo x (y::ys)=upTo x ys+1:=by
    unfold upTo;rw[List.filter_cons_of_pos (by simp;lia),z2i]
   lia
def qsl{x:Int}{a b:List Int}(p:a.Perm b):upTo x a=upTo x b:=(p.filter _).length_eq
def qe1(x:Int)(a b:List Int):upTo x (a++b)=upTo x a+upTo x b:=by
 unfold upTo;rw[z1u,z1o]
def qv3{x:Int}{a:List Int}(h:∀y∈a,y<=x):upTo x a=a.length:=by
 unfold upTo;rw[List.filter_eq_self.mpr λy hy=>z3b (h y hy)]
def q5p{m:Int}{a b:List Int}(p:a.Perm b):q1e m a=q1e m b:=by
 unfold q1e;rw[Tim.q97 q29 ((Tim.q13 q1g a).trans p) (Tim.q23 q29 a)]
theorem qa7{m:Int}{S:List Int}:∀T:List Int,(∀t∈T,m.toNat<=upTo t S)->q1e m (T++S)=q1e m S
 | [],_=>rfl
 | t::T,h=>by
  have ih:=qa7 (m:=m) (S:=S) T λt ht=>h t (z16 _ ht);rw[<- ih];show (Tim.srt q1g (t::(T++S))).take _=_;rw[qv2,qim t _ _ (Tim.q23 q29 _)]
  ·rfl
  ·rw[qsl (Tim.q13 q1g _),qe1];have:=h t (z1p ..)
   lia
def qd3(m:Int)(a:List Int):∃R:List Int,(q1e m a++R).Perm a/\(R=[]\/ (q1e m a).length=m.toNat)/\∀p∈q1e m a,∀r∈R,p<=r:=by
 refine⟨(Tim.srt q1g a).drop m.toNat,?_,?_,?_⟩
 ·unfold q1e;rw[z0v];exact Tim.q13 q1g a
 ·unfold q1e;rw[z2g];by_cases h:(Tim.srt q1g a).length<=m.toNat
  ·exact .inl (List.drop_eq_nil_of_le h)
  ·right
   lia
 ·intro p hp r hr;have h:=Tim.q23 q29 a;rw[<- z0v m.toNat (Tim.srt q1g a),z11]at h;have:=of_decide_eq_false (h.2.2 p hp r hr)
  lia
def qh8(m:Int)(a b:List Int):q1e m (q1e m a++b)=q1e m (a++b):=by
 obtain⟨R,h1,h2,h3⟩:=qd3 m a;have e:(R++(q1e m a++b)).Perm (a++b):=by
  rw[<- z1y];exact((z0u).trans h1).append_right b
 rw[<- q5p e]
 symm
 refine qa7 R λt D=>?_;rcases h2 with rfl | h2
 ·cases D
 ·rw[qe1,qv3 λy hy=>h3 y hy t D]
  lia
def q6a(m:Int)(a b:List Int):q1e m (a++q1e m b)=q1e m (a++b):=by
 rw[q5p z0u,qh8,q5p z0u]
def qv4(a b c:List Int):sums (a++b) c=sums a c++sums b c:=z1j
def qsm{a b c:List Int}(p:a.Perm b):(sums a c).Perm (sums b c):=p.flatMap_right _
def qv5(m:Int)(a b:List Int):q1e m (sums (q1e m a) b)=q1e m (sums a b):=by
 obtain⟨R,h1,h2,h3⟩:=qd3 m a;have e:(sums R b++sums (q1e m a) b).Perm (sums a b):=by
  rw[<- qv4];exact qsm ((z0u).trans h1)
 rw[<- q5p e]
 symm
 refine qa7 _ λt D=>?_;rcases h2 with rfl | h2
 ·cases D
 ·obtain⟨r,hr,D⟩:=List.mem_flatMap.mp D;obtain⟨y,hy,rfl⟩:=z44.mp D;have key:∀P:List Int,(∀p∈P,p<=r)->P.length<=upTo (r+y) (sums P b):=by
   intro P
   induction P with
   | nil=>intro _;exact z4a _
   | cons p P ih=>
    intro J;have h4:=ih λq hq=>J q (z16 _ hq);have:sums (p::P) b=b.map (λz=>p+z)++sums P b:=rfl;rw[this,qe1,z2i];have:1<=upTo (r+y) (b.map λz=>p+z):=by
     unfold upTo;refine List.length_pos_of_mem (a:=p+y) (z2x.mpr ⟨z44.mpr ⟨y,hy,zr⟩,z3b ?_⟩);have:=J p (z1p ..)
     lia
    lia
  have:=key (q1e m a) λp hp=>h3 p hp r hr
  lia
def qfk{m:Int}{a:List Int}(h:AscI a)(hl:a.length<=m.toNat):q1e m a=a:=by
 unfold q1e;rw[<- Tim.q97 q29 (.refl a) h,z0n hl]
def qbn(m:Int)(a:List Int):AscI (q1e m a):=(Tim.q23 q29 a).sublist (List.take_sublist _ _)
def minS(F:xF):List (List Str):=(F.map uniq).filter λu=> !(F.map uniq).any λv=>decide ((∀w∈v,w∈u)/\v≠u)
def nubF:List (List Str)->List (List Str)
 | []=>[]
 | x::l=>if x∈l then nubF l else x::nubF l
theorem qa8{x:xD}:∀{l:xF},x∈nubF l↔x∈l
 | []=>Iff.rfl
 | y::l=>by
  unfold nubF;split
  ·rename_i h;rw[qa8,z3m];exact⟨.inr,λz=>z.elim (λe=>e ▸ h) id⟩
  ·rw[z3m,z3m,qa8]
theorem qh9:∀l:List (List Str),(nubF l).Nodup
 | []=>z3f
 | y::l=>by
  unfold nubF;split
  ·exact qh9 l
  ·rename_i h;exact z32.mpr ⟨λz=>h (qa8.mp z),qh9 l⟩
def q3b(F:xF):List (List Str):=Tim.srt q17 (nubF (minS F))
def q59{F:xF}{r:xD}:r∈q3b F↔r∈minS F:=by
 unfold q3b;rw[(Tim.q13 q17 _).mem_iff,qa8]
def q6b{F:xF}{r:xD}:r∈minS F↔(∃f∈F,uniq f=r)/\∀f∈F,(∀w∈uniq f,w∈r)->uniq f=r:=by
 unfold minS;rw[z2x,z44];refine and_congr Iff.rfl ?_
 constructor
 ·intro h f hf hw
  apply Classical.byContradiction
  intro hn;have:((F.map uniq).any λv=>decide ((∀w∈v,w∈r)/\v≠r))=true:=z2p.mpr ⟨uniq f,z44.mpr ⟨f,hf,rfl⟩,z3b ⟨hw,hn⟩⟩;rw[this]at h;cases h
 ·intro h;have:((F.map uniq).any λv=>decide ((∀w∈v,w∈r)/\v≠r))=false:=by
   rw[List.any_eq_false];intro v hv;obtain⟨f,hf,rfl⟩:=z44.mp hv;intro z;have z:=of_decide_eq_true z;exact z.2 (h f hf z.1)
  rw[this];rfl
def q4e(F:xF):Acc (q3b F):=by
 refine⟨q58 q28 (Tim.q23 q28 _) ((Tim.q13 q17 _).nodup_iff.mpr (qh9 _)),λr hr=>?_,λr hr q hq h=>?_⟩
 ·obtain⟨⟨f,_,rfl⟩,_⟩:=q6b.mp (q59.mp hr);exact q4d f
 ·obtain⟨⟨f,hf,rfl⟩,_⟩:=q6b.mp (q59.mp hr);exact(q6b.mp (q59.mp hq)).2 f hf h
theorem qok{F:xF}:∀(n:Nat) (f:xD),f∈F->(uniq f).length<=n->∃r∈minS F,∀w∈r,w∈uniq f
 | n,f,hf,hn=>by
  by_cases z:∀g∈F,(∀w∈uniq g,w∈uniq f)->uniq g=uniq f
  ·exact⟨uniq f,q6b.mpr ⟨⟨f,hf,zr⟩,z⟩,λ_ z=>z⟩
  ·obtain⟨g,z⟩:=Classical.not_forall.mp z;obtain⟨hg,z⟩:=Classical.not_imp.mp z;obtain⟨hw,D⟩:=Classical.not_imp.mp z;have hl:(uniq g).length < (uniq f).length:=by
    apply Classical.byContradiction
    intro q;exact D (qm0 (q4d g) (q4d f) hw (by lia))
   match n with
   | 0=>lia
   | n+1=>
    obtain⟨r,hr,h⟩:=qok n g hg (by lia);exact⟨r,hr,λw q=>hw w (h w q)⟩
def q6c{F:xF}{x:xD}:Up (q3b F) x↔Up F x:=by
 constructor
 ·rintro ⟨r,hr,h⟩;obtain⟨⟨f,hf,rfl⟩,_⟩:=q6b.mp (q59.mp hr);exact⟨f,hf,λw hw=>h w ((q2t f w).mpr hw)⟩
 ·rintro ⟨f,hf,h⟩;obtain⟨r,hr,h1⟩:=qok _ f hf (z47 _);exact⟨r,q59.mpr hr,λw hw=>h w ((q2t f w).mp (h1 w hw))⟩
def q88{A R:xF}(a:Acc R)(h:∀x,Up R x↔Up A x):R=q3b A:=qsb a (q4e A) λx=>(h x).trans q6c.symm
def q105{x:xD}:Up [[]] x↔True:=⟨λ_=>trivial,λ_=>⟨[],z1m.mpr rfl,λ_ z=>nomatch z⟩⟩
def qol{x:xD}:Up [] x↔False:=⟨(λ⟨_,z,_⟩=>nomatch z),False.elim⟩
inductive Wo where
 | num (i:Int) | non | nums (l:List Int) | tr (b:Bool) | acc (R:xF)
inductive Kd where
 | counts | costs | bests (m:Int) | trusts (t:Int) | truths | hands
def Kd.ok:Kd->Prop
 | .bests m=>1<=m/\m<=9
 | .trusts t=>0<=t
 | _=>True
structure HOk (W:xD):Prop where
 few:W.length<=7
 ne:endW∉W
 ok:∀w∈W,PyData.strOk w=true
inductive qx (W:xD):Kd->Wo->Prop where
 | counts {i:Int} (h:0<=i):qx W .counts (.num i)
 | costN (i:Int):qx W .costs (.num i)
 | costX:qx W .costs .non
 | bests {m:Int} {l:List Int} (h:AscI l) (hl:l.length<=m.toNat):qx W (.bests m) (.nums l)
 | trusts {t i:Int} (h:0<=i) (h2:i<=t):qx W (.trusts t) (.num i)
 | truths (b:Bool):qx W .truths (.tr b)
 | hands {R:xF} (a:Acc R) (o:Of 7 W R):qx W .hands (.acc R)
def noW:Kd->Wo
 | .counts=> .num 0
 | .costs=> .non
 | .bests _=> .nums []
 | .trusts _=> .num 0
 | .truths=> .tr false
 | .hands=> .acc []
def unW:Kd->Wo
 | .counts=> .num 1
 | .costs=> .num 0
 | .bests _=> .nums [0]
 | .trusts t=> .num t
 | .truths=> .tr true
 | .hands=> .acc [[]]
def eiW:Kd->Wo->Wo->Wo
 | .counts,.num i,.num j=> .num (i+j)
 | .costs,.non,y=>y
 | .costs,.num i,.num j=> .num (if j < i then j else i)
 | .bests m,.nums a,.nums b=> .nums (q1e m (a++b))
 | .trusts _,.num i,.num j=> .num (if j > i then j else i)
 | .truths,.tr a,.tr b=> .tr (a || b)
 | .hands,.acc A,.acc B=> .acc (q3b (A++B))
 | _,x,_=>x
def boW:Kd->Wo->Wo->Wo
 | .counts,.num i,.num j=> .num (i*j)
 | .costs,.num i,.num j=> .num (i+j)
 | .bests m,.nums a,.nums b=> .nums (q1e m (sums a b))
 | .trusts _,.num i,.num j=> .num (if j < i then j else i)
 | .truths,.tr a,.tr b=> .tr (a&&b)
 | .hands,.acc A,.acc B=> .acc (q3b (q4w A B))
 | _,_,_=> .non
def Of.nil{W:xD}(h:HOk W):Of 7 W []:=⟨by decide,h.few,h.ne,λ_ z=>nomatch z⟩
def Of.one{W:xD}(h:HOk W):Of 7 W [[]]:=⟨by decide,h.few,h.ne,λr hr w hw=>by rw[z1m.mp hr]at hw;cases hw⟩
def q106:Acc []:=⟨List.Pairwise.nil,(λ_ z=>nomatch z),λ_ z=>nomatch z⟩
def q107:Acc [[]]:=⟨z0i _ _,(λr hr=>by rw[z1m.mp hr];exact List.Pairwise.nil),λr hr q hq _=>by rw[z1m.mp hr,z1m.mp hq]⟩
def qpz{A:xF}(a:Acc A):q3b A=A:=(q88 a λ_=>Iff.rfl).symm
section
variable{W:xD}{k:Kd}{a b c:Wo}
def qe2(m:Int)(l:List Int):(q1e m l).length<=m.toNat:=by
 unfold q1e;rw[z2g]
 lia
def qyh(hW:HOk W):qx W k (noW k)\/ ∃t,k= .trusts t:=by
 cases k with
 | counts=>exact .inl (.counts (z49 _))
 | costs=>exact .inl .costX
 | bests m=>exact .inl (.bests List.Pairwise.nil (z4a _))
 | trusts t=>exact .inr ⟨t,rfl⟩
 | truths=>exact .inl (.truths _)
 | hands=>exact .inl (.hands q106 (.nil hW))
def q89(hW:HOk W)(hk:k.ok):qx W k (noW k):=by
 rcases qyh (k:=k) hW with h | ⟨t,rfl⟩
 ·exact h
 ·exact .trusts (z49 _) hk
def q108(hW:HOk W)(hk:k.ok):qx W k (unW k):=by
 cases k with
 | counts=>exact .counts (by decide)
 | costs=>exact .costN _
 | bests m=>
  have:1<=m:=hk.1;exact .bests (z0i _ _) (by show 1<=m.toNat;lia)
 | trusts t=>exact .trusts hk (z49 _)
 | truths=>exact .truths _
 | hands=>exact .hands q107 (.one hW)
def q9c(ha:qx W k a)(D:qx W k b):qx W k (eiW k a b):=by
 cases ha with
 | counts h=>cases D with | counts h'=>exact .counts (by lia)
 | costN i=>cases D with
  | costN j=>exact .costN _
  | costX=>exact .costN _
 | costX=>exact D
 | bests h hl=>cases D with | bests h' hl'=>exact .bests (qbn _ _) (qe2 _ _)
 | trusts h h2=>cases D with
  | trusts h' h2'=>
   refine .trusts ?_ ?_ <;> split <;> lia
 | truths x=>cases D with | truths y=>exact .truths _
 | hands x o=>cases D with | hands y o'=>exact .hands (q4e _) (o.thin o' (q4e _) λ_=>q6c)
def q109(ha:qx W k a)(D:qx W k b):qx W k (boW k a b):=by
 cases ha with
 | counts h=>cases D with | counts h'=>exact .counts (z3j h h')
 | costN i=>cases D with
  | costN j=>exact .costN _
  | costX=>exact .costX
 | costX=>cases D with
  | costN j=>exact .costX
  | costX=>exact .costX
 | bests h hl=>cases D with | bests h' hl'=>exact .bests (qbn _ _) (qe2 _ _)
 | trusts h h2=>cases D with
  | trusts h' h2'=>
   refine .trusts ?_ ?_ <;> split <;> lia
 | truths x=>cases D with | truths y=>exact .truths _
 | hands x o=>cases D with | hands y o'=>exact .hands (q4e _) (o.agr o' (q4e _) λ_=>q6c.trans qcc)
end
def WV(H:Hp):Wo->V->Prop
 | .num i,x=>x= .int i
 | .non,x=>x= .non
 | .tr b,x=>x= .bl b
 | .nums l,x=>∃p,x= .ref p/\H p=some (.lst (l.map V.int))
 | .acc R,x=>∃p zs,x= .ref p/\H p=some (.lst zs)/\q1b H zs R
def WV.same{H H':Hp}{w:Wo}{x:V}(h:WV H w x)(s:Same H H'):WV H' w x:=by
 cases w with
 | num i=>exact h
 | non=>exact h
 | tr b=>exact h
 | nums l=>
  obtain⟨p,e,h⟩:=h;exact⟨p,e,s _ _ h⟩
 | acc R=>
  obtain⟨p,zs,e,h,t⟩:=h;exact⟨p,zs,e,s _ _ h,q1i (λb ys z=>s b _ z) t⟩
def dW:Wo->PyData
 | .num i=> .int i
 | .non=> .none
 | .tr b=> .bool b
 | .nums l=> .list (l.map .int)
 | .acc R=> .list (R.map dR)
def WV.dat{K:xA}{W:xD}{k:Kd}{H:Hp}{w:Wo}{x:V}(hW:HOk W)(g:qx W k w)(h:WV H w x):Dat K H (dW w) x:=by
 cases g with
 | counts _=>cases h;exact .int _
 | costN _=>cases h;exact .int _
 | costX=>cases h;exact .non
 | bests _ _=>
  obtain⟨p,rfl,h⟩:=h;exact .lst (SqL.of h) (qbi _)
 | trusts _ _=>cases h;exact .int _
 | truths _=>cases h;exact .bl _
 | hands a o=>
  obtain⟨p,zs,rfl,h,t⟩:=h;exact .lst (SqL.of h) (qm1 t λr hr w hw=>hW.ok w (o.sub r hr w hw))
def qe3(w:Wo):(dW w).depth<=60:=by
 cases w with
 | num i=>exact z4a _
 | non=>exact z4a _
 | tr b=>exact z4a _
 | nums l=>exact z40 (z2q (Nat.le_of_eq (qf9 l))) (by decide)
 | acc R=>exact z40 (z2q (qoj R)) (by decide)
def NewV(H:Hp)(x:V):Prop:=∀p,x= .ref p->H p=none
def q3k{H:Hp}{p:Addr}(h:H p=none):NewV H (.ref p):=λq e=>by cases e;exact h
def q2g{H:Hp}(i:Int):NewV H (.int i):=λ_ e=>nomatch e
def qbo{H:Hp}(b:Bool):NewV H (.bl b):=λ_ e=>nomatch e
def q7i{H:Hp}:NewV H .non:=λ_ e=>nomatch e
def NewV.back{H H':Hp}{x:V}(s:Same H H')(h:NewV H' x):NewV H x:=λp e=>s.free (h p e)
def clsK(mg:xE):Kd->Addr
 | .counts=>cA mg "Counts"
 | .costs=>cA mg "Costs"
 | .bests _=>cA mg "Bests"
 | .trusts _=>cA mg "Trusts"
 | .truths=>cA mg "Truths"
 | .hands=>cA mg "Hands"
def fsK:Kd->List (Str×V)
 | .bests m=>[("most",.int m)]
 | .trusts t=>[("top",.int t)]
 | _=>[]
def meN:List Str:=["nought","unit","either","both","fits","repeated"]
def qce{m:Str}(D:m∈meN)(k:Kd):(fsK k).lookup m=none:=by
 cases k with
 | bests n=>
  have:(m=="most")=false:=by
   rw[beq_eq_false_iff_ne];intro e;subst e;exact absurd D (by decide)
  show (match m=="most" with | true=>some _ | false=>List.lookup m [])=none;rw[this];rfl
 | trusts t=>
  have:(m=="top")=false:=by
   rw[beq_eq_false_iff_ne];intro e;subst e;exact absurd D (by decide)
  show (match m=="top" with | true=>some _ | false=>List.lookup m [])=none;rw[this];rfl
 | _=>rfl
def qbp(k:Kd):(fsK k).lookup ("nought":Str)=none:=qce (by decide) k
def q10a(k:Kd):(fsK k).lookup ("unit":Str)=none:=qce (by decide) k
def qbq(k:Kd):(fsK k).lookup ("either":Str)=none:=qce (by decide) k
def q10b(k:Kd):(fsK k).lookup ("both":Str)=none:=qce (by decide) k
def q10c(k:Kd):(fsK k).lookup ("fits":Str)=none:=qce (by decide) k
def q10d(k:Kd):(fsK k).lookup ("repeated":Str)=none:=qce (by decide) k
def ByAt(mg:xE)(H:Hp)(o:Addr)(k:Kd):Prop:=∃dx,H o=some (.ins (clsK mg k) dx (fsK k))
def ByAt.same{mg:xE}{H H':Hp}{o:Addr}{k:Kd}(h:ByAt mg H o k)(s:Same H H'):ByAt mg H' o k:=by
 obtain⟨dx,e⟩:=h;exact⟨dx,s _ _ e⟩
def szW:Wo->Int
 | .num i=>i
 | _=>0
def q11u(mg:xE)(k:Kd):Sp:=λvs H Q _=>∃o,vs=[.ref o]/\ByAt mg H o k/\∀z H',Same H H'->NewV H z->WV H' (noW k) z->Q z H'
def q11v(mg:xE)(k:Kd):Sp:=λvs H Q _=>∃o,vs=[.ref o]/\ByAt mg H o k/\∀z H',Same H H'->NewV H z->WV H' (unW k) z->Q z H'
def q11w(mg:xE)(k:Kd):Sp:=λvs H Q _=>∃(o:Addr) (x y:V) (a b:Wo) (W:xD),vs=[.ref o,x,y]/\ByAt mg H o k/\k.ok/\qx W k a/\qx W k b/\WV H a x/\WV H b y/\∀z H',Same H H'->NewV H z->WV H' (eiW k a b) z->Q z H'
def q11x(mg:xE)(k:Kd):Sp:=λvs H Q _=>∃(o:Addr) (x y:V) (a b:Wo) (W:xD),vs=[.ref o,x,y]/\ByAt mg H o k/\k.ok/\qx W k a/\qx W k b/\WV H a x/\WV H b y/\(k= .counts->szW a < 2^600/\szW b < 2^600)/\∀z H',Same H H'->NewV H z->WV H' (boW k a b) z->Q z H'
def LtW(k:Kd)(B:Int)(a:Wo):Prop:=k= .counts->szW a < B
def LtW.mono{k:Kd}{A B:Int}{a:Wo}(h:LtW k A a)(hB:A<=B):LtW k B a:=λe=>Int.lt_of_lt_of_le (h e) hB
def LtW.and{k:Kd}{A B:Int}{a b:Wo}(h:LtW k A a)(h2:LtW k B b):k= .counts->szW a < A/\szW b < B:=λe=>⟨h e,h2 e⟩
def LtW.bo{W:xD}{k:Kd}{A B:Int}{a b:Wo}(h:LtW k A a)(ga:qx W k a)(gb:qx W k b)(h2:LtW k B b)(hA:0<=A)(hB:0<=B):LtW k (A*B) (boW k a b):=λe=>by
 subst e;cases ga with | counts i=>cases gb with | counts j=>
  have h1:=h rfl;have h2:=h2 rfl;exact z1v (z02 (z3u h2) i) (Int.mul_lt_mul_of_pos_right h1 (z1v j h2))
def wd7{W:xD}{R:xF}(a:Acc R)(o:Of 7 W R):∀r∈R,r.length<=15/\endW∉r:=λr hr=>⟨z40 (o.len hr (a.norm r hr)).1 (by decide),(o.len hr (a.norm r hr)).2⟩
def q3c(T:Txt K mg)(k:Kd):Cls K (clsK mg k):=by
 cases k with
 | counts=>exact T.qtc
 | costs=>exact T.qvw
 | bests _=>exact T.q4i
 | trusts _=>exact T.q8s
 | truths=>exact T.qta
 | hands=>exact T.qvr
def q6n(T:Txt K mg)(k:Kd):MDef P w K mg base 1 (clsK mg k) "nought" ["self"] (q11u mg k):=by
 cases k with
 | counts=>exact(qdv T).imp λvs H Q E ⟨o,e,_,q⟩=>⟨o,e,q _ _ (Same.refl _) (q2g _) rfl⟩
 | costs=>exact(qfe T).imp λvs H Q E ⟨o,e,_,q⟩=>⟨o,e,q _ _ (Same.refl _) q7i rfl⟩
 | bests _=>exact(qfg T).imp λvs H Q E ⟨o,e,_,q⟩=>⟨o,e,λl hl=>q _ _ (qf hl) (q3k hl) ⟨l,rfl,qb⟩⟩
 | trusts _=>exact(qdx T).imp λvs H Q E ⟨o,e,_,q⟩=>⟨o,e,q _ _ (Same.refl _) (q2g _) rfl⟩
 | truths=>exact(qdz T).imp λvs H Q E ⟨o,e,_,q⟩=>⟨o,e,q _ _ (Same.refl _) (qbo _) rfl⟩
 | hands=>exact(qfi T).imp λvs H Q E ⟨o,e,_,q⟩=>⟨_,e,λl hl=>q _ _ (qf hl) (q3k hl) ⟨l,[],rfl,qb,.nil⟩⟩
def qyi(T:Txt K mg)(k:Kd):MDef P w K mg base 1 (clsK mg k) "unit" ["self"] (q11v mg k):=by
 cases k with
 | counts=>exact(qh2 T).imp λvs H Q E ⟨o,e,_,q⟩=>⟨o,e,q _ _ (Same.refl _) (q2g _) rfl⟩
 | costs=>exact(qjc T).imp λvs H Q E ⟨o,e,_,q⟩=>⟨o,e,q _ _ (Same.refl _) (q2g _) rfl⟩
 | bests _=>exact(qje T).imp λvs H Q E ⟨o,e,_,q⟩=>⟨o,e,λl hl=>q _ _ (qf hl) (q3k hl) ⟨l,rfl,qb⟩⟩
 | trusts t=>exact(qh4 T).imp λvs H Q E ⟨o,e,⟨dx,h⟩,q⟩=>⟨o,dx,.int t,e,h,q _ _ (Same.refl _) (q2g _) rfl⟩
 | truths=>exact(qh6 T).imp λvs H Q E ⟨o,e,_,q⟩=>⟨o,e,q _ _ (Same.refl _) (qbo _) rfl⟩
 | hands=>exact(qjg T).imp λvs H Q E ⟨o,e,_,q⟩=>⟨_,e,λp t H' s hp h1 h2=>q _ _ s (q3k hp) ⟨p,_,rfl,h1,.cons ⟨t,rfl,h2⟩ .nil⟩⟩
def q6o(T:Txt K mg)(k:Kd):MDef P w K mg base 4 (clsK mg k) "either" ["self","one","other"] (q11w mg k):=by
 cases k with
 | counts=>
  refine(MDef.mono (qdw T) (by decide)).imp λvs H Q E D=>?_;obtain⟨o,x,y,a,b,W,e,_,_,ga,Z,J,O,q⟩:=D;cases ga with | counts h=>cases Z with | counts h'=>
   cases J;cases O
   exact⟨o,_,_,e,q _ _ (Same.refl _) (q2g _) rfl⟩
 | costs=>
  refine(MDef.mono (qff T) (by decide)).imp λvs H Q E D=>?_;obtain⟨o,x,y,a,b,W,e,_,_,ga,Z,J,O,q⟩:=D;cases ga with
  | costN i=>cases Z with
   | costN j=>cases J;cases O;exact⟨o,_,_,e,.inr ⟨_,rfl⟩,.inr ⟨_,rfl⟩,q _ _ (Same.refl _) (q2g _) rfl⟩
   | costX=>cases J;cases O;exact⟨o,_,_,e,.inr ⟨_,rfl⟩,.inl rfl,q _ _ (Same.refl _) (q2g _) rfl⟩
  | costX=>cases Z with
   | costN j=>cases J;cases O;exact⟨o,_,_,e,.inl rfl,.inr ⟨_,rfl⟩,q _ _ (Same.refl _) (q2g _) rfl⟩
   | costX=>cases J;cases O;exact⟨o,_,_,e,.inl rfl,.inl rfl,q _ _ (Same.refl _) q7i rfl⟩
 | bests m=>
  refine(MDef.mono (qfh T) (by decide)).imp λvs H Q E D=>?_;obtain⟨o,x,y,a,b,W,e,⟨dx,hb⟩,hk,ga,Z,J,O,q⟩:=D;cases ga with | bests h hl=>cases Z with | bests h' hl'=>
   obtain⟨pa,rfl,ea⟩:=J;obtain⟨pb,rfl,eb⟩:=O;have:m<=9:=hk.2;have:1<=m:=hk.1;exact⟨o,pa,pb,m,_,_,e,⟨dx,hb⟩,by lia,ea,eb,by lia,by lia,λl H' s hl e=>q _ _ s (q3k hl) ⟨l,zr,e⟩⟩
 | trusts t=>
  refine(MDef.mono (qdy T) (by decide)).imp λvs H Q E D=>?_;obtain⟨o,x,y,a,b,W,e,_,_,ga,Z,J,O,q⟩:=D;cases ga with | trusts h h2=>cases Z with | trusts h' h2'=>
   cases J;cases O
   exact⟨o,_,_,e,q _ _ (Same.refl _) (q2g _) rfl⟩
 | truths=>
  refine(MDef.mono (qe0 T) (by decide)).imp λvs H Q E D=>?_;obtain⟨o,x,y,a,b,W,e,_,_,ga,Z,J,O,q⟩:=D;cases ga with | truths h=>cases Z with | truths h'=>
   cases J;cases O
   exact⟨o,_,_,e,q _ _ (Same.refl _) (qbo _) rfl⟩
 | hands=>
  refine(MDef.mono (qfj T) (by decide)).imp λvs H Q E D=>?_;obtain⟨o,x,y,a,b,W,e,_,_,ga,Z,J,O,q⟩:=D;cases ga with | hands A oA=>cases Z with | hands B oB=>
   obtain⟨pa,za,rfl,ea,ta⟩:=J;obtain⟨pb,zb,rfl,eb,tb⟩:=O;have lA:=oA.cards A;have lB:=oB.cards B;refine⟨_,pa,pb,za,zb,_,_,e,ea,eb,ta,tb,by lia,by lia,wd7 A oA,wd7 B oB,λp zs R H' s hp ep tp aR uR=>q _ _ s (q3k hp) ⟨p,zs,zr,ep,?_⟩⟩;rw[<- q88 aR uR];exact tp
def qyj(T:Txt K mg)(k:Kd):MDef P w K mg base 5 (clsK mg k) "both" ["self","one","other"] (q11x mg k):=by
 cases k with
 | counts=>
  refine(MDef.mono (qh3 T) (by decide)).imp λvs H Q E D=>?_;obtain⟨o,x,y,a,b,W,e,_,_,ga,Z,J,O,sz,q⟩:=D;cases ga with | counts h=>cases Z with | counts h'=>
   cases J;cases O
   have sz:=sz rfl;exact⟨o,_,_,e,⟨⟨h,sz.1⟩,h',sz.2⟩,q _ _ (Same.refl _) (q2g _) rfl⟩
 | costs=>
  refine(MDef.mono (qjd T) (by decide)).imp λvs H Q E D=>?_;obtain⟨o,x,y,a,b,W,e,_,_,ga,Z,J,O,_,q⟩:=D;cases ga with
  | costN i=>cases Z with
   | costN j=>cases J;cases O;exact⟨o,_,_,e,.inr ⟨_,rfl⟩,.inr ⟨_,rfl⟩,q _ _ (Same.refl _) (q2g _) rfl⟩
   | costX=>cases J;cases O;exact⟨o,_,_,e,.inr ⟨_,rfl⟩,.inl rfl,q _ _ (Same.refl _) q7i rfl⟩
  | costX=>cases Z with
   | costN j=>cases J;cases O;exact⟨o,_,_,e,.inl rfl,.inr ⟨_,rfl⟩,q _ _ (Same.refl _) q7i rfl⟩
   | costX=>cases J;cases O;exact⟨o,_,_,e,.inl rfl,.inl rfl,q _ _ (Same.refl _) q7i rfl⟩
 | bests m=>
  refine(MDef.mono (qjf T) (by decide)).imp λvs H Q E D=>?_;obtain⟨o,x,y,a,b,W,e,⟨dx,hb⟩,hk,ga,Z,J,O,_,q⟩:=D;cases ga with | bests h hl=>cases Z with | bests h' hl'=>
   obtain⟨pa,rfl,ea⟩:=J;obtain⟨pb,rfl,eb⟩:=O;have:m<=9:=hk.2;have:1<=m:=hk.1;exact⟨o,pa,pb,m,_,_,e,⟨dx,hb⟩,by lia,ea,eb,by lia,by lia,λl H' s hl e=>q _ _ s (q3k hl) ⟨l,zr,e⟩⟩
 | trusts t=>
  refine(MDef.mono (qh5 T) (by decide)).imp λvs H Q E D=>?_;obtain⟨o,x,y,a,b,W,e,_,_,ga,Z,J,O,_,q⟩:=D;cases ga with | trusts h h2=>cases Z with | trusts h' h2'=>
   cases J;cases O
   exact⟨o,_,_,e,q _ _ (Same.refl _) (q2g _) rfl⟩
 | truths=>
  refine(MDef.mono (qh7 T) (by decide)).imp λvs H Q E D=>?_;obtain⟨o,x,y,a,b,W,e,_,_,ga,Z,J,O,_,q⟩:=D;cases ga with | truths h=>cases Z with | truths h'=>
   cases J;cases O
   exact⟨o,_,_,e,q _ _ (Same.refl _) (qbo _) rfl⟩
 | hands=>
  refine(MDef.mono (qjh T) (by decide)).imp λvs H Q E D=>?_;obtain⟨o,x,y,a,b,W,e,_,_,ga,Z,J,O,_,q⟩:=D;cases ga with | hands A oA=>cases Z with | hands B oB=>
   obtain⟨pa,za,rfl,ea,ta⟩:=J;obtain⟨pb,zb,rfl,eb,tb⟩:=O;have lA:=oA.card A;have lB:=oB.card B;refine⟨_,_,e,pa,pb,za,zb,_,_,zr,SqL.of ea,SqL.of eb,ta,tb,z40 (z3i lA lB) (by decide),z40 lB (by decide),wd7 A oA,wd7 B oB,λp zs R H' s hp ep tp aR uR=>q _ _ s (q3k hp) ⟨p,zs,zr,ep,?_⟩⟩;rw[<- q88 aR λx=>(uR x).trans qcc.symm];exact tp
def itS(n:Int):Nat->Int
 | 0=>n
 | i+1=>itS n i*48271%2147483647
def strF(c m:Int):List Int:=((List.range (m+2).toNat).map λj=>itS (1+c%2147483646) (j+1)).drop 2
def qa9{c m:Int}(h:0<=m):(strF c m).length=m.toNat:=by
 unfold strF;rw[z2h,z30,z29]
 lia
def qyk{c m n:Int}(h:n∈strF c m):0<=n/\n < 2147483647:=by
 obtain⟨j,_,rfl⟩:=z44.mp (z14 h);exact⟨z39 _ (by decide),z1w _ (by decide)⟩
def qe4{c m:Int}(k:Nat):0<=(strF c m).getD k 0/\(strF c m).getD k 0 < 2147483647:=by
 rw[z06];cases e:(strF c m)[k]? with
 | none=>exact⟨z49 _,by decide⟩
 | some n=>exact qyk (z18 e)
def q6d{c m:Int}{k:Nat}(h:0<=m)(hk:(k:Int) < m):atI ((strF c m).map V.int) k=some (V.int ((strF c m).getD k 0)):=q1w (by rw[qa9 h];lia)
def cutL(ns:List Int)(lo hi:Option Int):List Int:=(ns.drop (HT.sIx ns.length 0 lo)).take (HT.sIx ns.length ns.length hi - HT.sIx ns.length 0 lo)
def qfl(ns:List Int)(lo hi:Option Int):cutV (ns.map V.int) lo hi=(cutL ns lo hi).map V.int:=by
 unfold cutV cutL;rw[z30,List.map_take,List.map_drop]
def qe5(ns:List Int)(lo hi:Option Int):(cutL ns lo hi).length<=ns.length:=by
 unfold cutL;rw[z2g,z2h]
 lia
def minCut(a b n:Nat):min b n - min a n<=b - a:=by
 rcases Nat.le_total a n with h | h
 ·rw[Nat.min_eq_left h];exact Nat.sub_le_sub_right (Nat.min_le_left ..) _
 ·rw[Nat.min_eq_right h,Nat.sub_eq_zero_of_le (Nat.min_le_right ..)];exact Nat.zero_le _
def qha(ns:List Int)(lo hi:Nat):(cutL ns (some (lo:Int)) (some (hi:Int))).length<=hi - lo:=by
 unfold cutL;rw[HT.sIx_nat,HT.sIx_nat,z2g];exact Nat.le_trans (Nat.min_le_left ..) (minCut ..)
def qq0:Sp:=λvs H Q _=>∃c m:Int,vs=[.int c,.int m]/\0<=m/\m<=100/\∀p H',Same H H'->H p=none->H' p=some (.lst ((strF c m).map V.int))->Q (.ref p) H'
def q5q(T:Txt K mg):Def P w K mg base 1 "_law_stream" ["_law_cell","_law_many"] qq0:=by
 refine T.qal.ok q1v (λvs H Q E h=>?_) λf cdv A outer s H vs Q E hr h=>?_
 ·obtain⟨c,m,rfl,_⟩:=h;rfl
 ·obtain⟨c,m,rfl,m0,m1,k⟩:=h;refine⟨_,(qc5
   (qm (i:=2) q1v.nd rfl (Or.inl rfl) (ql q1j qc (ql q16 (pv 0) qc)))
   (qm (i:=3) q1v.nd rfl (Or.inl rfl) (q1p q26))
   (q1o PassesOwn.never rfl (q55 rfl T.q7k (pa_1 (ql q1j (pv 1) qc))) (qu (i:=4) q1v.nd rfl (Or.inl rfl)) (q39
   (qm (i:=2) q1v.nd rfl (Or.inl rfl) (ql q16 (ql q5d (pv 2) qc) qc))
   (q2i (q43 z0l z0g z0h q2w (pv 3) (pa_1 (pv 2))))))
   (qh (q27 (q31 K) (pv 3) (q1q qc) q3w))),?_⟩
  refine⟨_,rfl,_,_,rfl,rfl,(by show (0:Int) < 2147483646;decide),_,_,rfl,rfl,?_⟩;refine⟨by decide,λp hp=>?_⟩;refine⟨_,zr,_,_,zr,zr,_,zr,by lia,by lia,q8j (lo:=0) (n:=(m+2).toNat) (λi σ H'=>∃(D:Option V),σ=[some (.int c),some (.int m),some (.int (itS (1+c%2147483646) i)),some (.ref p),D]/\H'=upd H p (.lst (((List.range i).map λj=>itS (1+c%2147483646) (j+1)).map V.int)))
   ⟨none,rfl,rfl⟩ ?_ ?_⟩
  ·rintro i σ H' hi ⟨D,rfl,rfl⟩;refine⟨_,rfl,_,_,rfl,rfl,.inr ⟨by decide,by decide⟩,_,_,rfl,rfl,(by show (0:Int) < 2147483647;decide),?_⟩;refine⟨_,rfl,.inl ⟨rfl,_,SqL.of qb⟩,_,rfl,_,_,_,rfl,rfl,qb,by rw[z30,z30,z29];exact q1l (by lia),?_⟩;refine⟨_,zr,?_⟩;rw[q5u,List.range_succ,z35,z35];rfl
  ·rintro σ H' ⟨D,rfl,rfl⟩;refine⟨_,zr,_,zr,_,_,zr,SqL.of qb,λq hq=>?_⟩;have e:∀ns:List Int,2<=ns.length->cutV (ns.map V.int) (some 2) none=(ns.drop 2).map V.int:=λns h=>by
    have:=qlr (ns.map V.int) 2 (by rw[z30];lia);rw[List.map_drop];exact this
   rw[e _ (by rw[z30,z29];lia)];have s1:=qf (o:=HO.lst (((List.range (m+2).toNat).map λj=>itS (1+c%2147483646) (j+1)).map V.int)) hp;exact k q _ (s1.trans (qf hq)) (s1.free hq) qb
def q3i(T:Txt K mg):Def P w K mg base 1 "_law_stream" ["_law_cell","_law_many"] qs5:=by
 obtain⟨f,fd,F,hm,hk,hb⟩:=(q5q T).ex
 refine⟨f,fd,F.imp ?_,hm,hk,hb⟩
 rintro vs H Q E ⟨c,m,e,m0,m1,k⟩
 exact⟨c,m,e,m0,m1,λp H' s a b=>k p _ H' s b (qa9 m0) a λn hn=>qyk hn⟩
def q8r(ws:xD)(n:Int):Str:=ws.getD (n%(ws.length:Int)).toNat endW
def oneS(ws:xD)(m c:Int):List Str:=if (strF c (m+3)).getD 1 0%16=5 then [] else (cutL (strF c (m+3)) (some 3) (some (4+(strF c (m+3)).getD 0 0%m))).map (q8r ws)
def qyl{ws:xD}{n:Int}(h:1<=ws.length):atI (ws.map V.str) (n%((ws.map V.str).length:Int))=some (V.str (q8r ws n)):=by
 rw[z30];have h0:=z39 n (show (ws.length:Int)≠0 by lia);have h1:=z1w n (show (0:Int) < (ws.length:Int) by lia);obtain⟨j,D⟩:=z0m h0;unfold q8r;rw[D];rw[D]at h1;have hl:j < ws.length:=by lia
 refine q91 ?_;show (ws.map V.str)[j]? =some (V.str (ws.getD j endW));rw[z22,z06,z0d hl];rfl
def qom{ws:xD}{n:Int}(h:1<=ws.length):q8r ws n∈ws:=by
 have h0:=z39 n (show (ws.length:Int)≠0 by lia);have h1:=z1w n (show (0:Int) < (ws.length:Int) by lia);unfold q8r;have hl:(n%(ws.length:Int)).toNat < ws.length:=by lia
 rw[z06,z0d hl];exact z2k hl
def qhb{u x:xD}:Up [u] x↔∀w∈u,w∈x:=⟨λ⟨f,hf,h⟩=>by rw[z1m.mp hf]at h;exact h,λh=>⟨u,z1m.mpr rfl,h⟩⟩
def qhc{A B:xF}{x:xD}:Up (A++B) x↔Up A x\/ Up B x:=by
 constructor
 ·rintro ⟨a,D,h⟩;rcases z2u.mp D with D | D
  ·exact .inl ⟨a,D,h⟩
  ·exact .inr ⟨a,D,h⟩
 ·rintro (⟨a,D,h⟩ | ⟨a,D,h⟩)
  ·exact⟨a,z2u.mpr (.inl D),h⟩
  ·exact⟨a,z2u.mpr (.inr D),h⟩
def qsn{D F:xF}{u o:xD}(h:∀x,Up D x↔Up F x)(hu:∀x:List Str,(∀w∈u,w∈x)↔∀w∈o,w∈x):∀x,Up (D.filter (λr=> !decide (∀x∈u,x∈r))++ [u]) x↔Up (F++ [o]) x:=λx=>by
 rw[qhc,qhc,qhb,qhb,<- hu,<- h]
 constructor
 ·rintro (⟨r,hr,z⟩ | z)
  ·exact .inl ⟨r,(z2x.mp hr).1,z⟩
  ·exact .inr z
 ·rintro (⟨r,hr,z⟩ | z)
  ·by_cases q:∀x∈u,x∈r
   ·exact .inr λw hw=>z w (q w hw)
   ·exact .inl ⟨r,z2x.mpr ⟨hr,by rw[z2w q];rfl⟩,z⟩
  ·exact .inr z
def qso{D F:xF}{u o:xD}(h:∀x,Up D x↔Up F x)(hu:∀x:List Str,(∀w∈u,w∈x)↔∀w∈o,w∈x)(hw:∃r∈D,∀x∈r,x∈u):∀x,Up D x↔Up (F++ [o]) x:=λx=>by
 rw[qhc,qhb,<- hu,<- h]
 constructor
 ·exact .inl
 ·rintro (z | z)
  ·exact z
  ·obtain⟨r,hr,q⟩:=hw;exact⟨r,hr,λw hw=>z w (q w hw)⟩
def qq1:Sp:=λvs H Q _=>∃(ca wa:Addr) (cs:List Int) (ws:xD) (m:Int) (n:Nat),vs=[.ref ca,.ref wa,.int m]/\H ca=some (.lst (cs.map V.int))/\cs.length<=100/\H wa=some (.lst (ws.map V.str))/\1<=ws.length/\n<=10/\ws.length<=n/\endW∉ws/\1<=m/\m<=40/\
 ∀p zs (R:xF) H',Same H H'->H p=none->H' p=some (.lst zs)->q1b H' zs R->Acc R->Of n ws R->R.length<=cs.length->(∀x,Up R x↔Up (cs.map (oneS ws m)) x)->Q (.ref p) H'
def qfm(T:Txt K mg):Def P w K mg base 2 "_law_accord" ["_law_cells","_law_words_here","_law_most"] qq1:=by
  refine T.qjt.ok q2f (λvs H Q E h=>?_) λf cdv A outer s H vs Q E hr h=>?_
  · obtain⟨ca,wa,cs,ws,m,nn,rfl,_⟩:=h
    rfl
  · obtain⟨ca,wa,cs,ws,m,nn,rfl,d6,cl,f5,wl,e4,g0,g1,m0,m1,k⟩:=h
    refine⟨_,(q3f
      (qm (i:=3) q2f.nd rfl (Or.inl rfl) (q1p q26))
      (q1o PassesOwn.never rfl (q18 K (pv 0)) (qu (i:=4) q2f.nd rfl (Or.inl rfl)) (qk7
      (qm (i:=5) q2f.nd rfl (Or.inl rfl) (q11 (q5q T) hr rfl (pa_2 (pv 4) (ql q1j (pv 2) qc))))
      (q9o (i:=6) q2f.nd rfl rfl (N:=["_law_number_here","_law_words_here"]) (caps:=[none,some 1]) rfl (by with_unfolding_all rfl) (q18 K (q27 (q31 K) (pv 5) (q1q qc) (q1q (ql q1j qc (ql q16 (q1a (qy K) (pv 5) qc (λ_ _=>rfl)) (pv 2)))))) (λ_ _ _ _ _=>(qu (i:=0) (show (["_law_number_here","_law_words_here"]:xD).Nodup by decide+kernel) rfl (Or.inl rfl))) (λ_ _ _ _ _=>q2u) (λ_ _ _ _ _=>(q1a (qy K) (pv 1) (ql q16 (pv 0) (qo (q3l K) rfl T.b_len q4r (pa_1 (pv 1)))) (λ_ _=>rfl))))
      (q12 (qp q1f (ql q16 (q1a (qy K) (pv 5) qc (λ_ _=>rfl)) qc) qc (qq _)) (qg (qm (i:=6) q2f.nd rfl (Or.inl rfl) (q1p q26))) qr)
      (qm (i:=7) q2f.nd rfl (Or.inr rfl) (q2v (q6f K) rfl T.q9h q7q (pa_1 (qo (q7s rfl P w) rfl T.q2h q2c (pa_1 (q2v (qba rfl P w K) rfl T.b_set qlz (pa_1 (pv 6))))))))
      (q12 (q3t (q3s (qo (qb4 rfl K) rfl T.b_any ql7 (pa_1 (q2d (N:=["_law_old","_law_one"]) (caps:=[none,some 7]) rfl (by with_unfolding_all rfl) (q18 K (pv 3)) (λ_ _ _ _ _=>(qu (i:=0) (show (["_law_old","_law_one"]:xD).Nodup by decide+kernel) rfl (Or.inl rfl))) (λ_ _ _ _ _=>q2u) (λ_ _ _ _ _=>(q11 (q4n T) hr rfl (pa_2 (pv 0) (pv 1))))))))) (qg (qm (i:=3) q2f.nd rfl (Or.inl rfl) (ql q5e (q2d (N:=["_law_old","_law_one"]) (caps:=[none,some 7]) rfl (by with_unfolding_all rfl) (q18 K (pv 3)) (λ_ _ _ _ _=>(qu (i:=0) (show (["_law_old","_law_one"]:xD).Nodup by decide+kernel) rfl (Or.inl rfl))) (λ_ _ _ _ _=>qaz (q3t (q3s (q11 (q4n T) hr rfl (pa_2 (pv 1) (pv 0)))))) (λ_ _ _ _ _=>(pv 0))) (q1p (pa_1 (pv 7)))))) qr)))
      (qh (qo (q6r hr.units K) rfl T.q2h q2c (pa_1 (pv 3))))),?_⟩
    refine⟨by show 0<=sizeLine;decide,λk0 e9=>?_⟩;have s0:=qf (o:=HO.lst []) e9;refine⟨_,rfl,ca,rfl,⟨_,SqL.of (s0 _ _ d6)⟩,q20 (xs:=cs.map V.int) (λi σ H'=>∃(v1 v2 v3 v4:Option V) (kq:Addr) (zs:List V) (O:xF),σ=[some (.ref ca),some (.ref wa),some (.int m),some (.ref kq),v1,v2,v3,v4]/\Same H H'/\H' kq=some (.lst zs)/\q1b H' zs O/\O.length<=i/\(∀r∈O,Norm r/\∀x∈r,x∈ws)/\(∀r∈O,∀q∈O,(∀x∈r,x∈q)->r=q)/\O.Nodup/\∀x,Up O x↔Up ((cs.take i).map (oneS ws m)) x)
      ⟨none,none,none,none,k0,[],[],rfl,s0,qb,.nil,z47 _,(λ_ z=>nomatch z),(λ_ z=>nomatch z),z3f,λ_=>Iff.rfl⟩ (λi σ H' _ z=>by obtain⟨_,_,_,_,_,_,_,_,z,_⟩:=z;exact SqL.of (z _ _ d6)) ?_ ?_⟩
    · rintro i x σ H0 hx ⟨v1,v2,v3,v4,kq,zs,O,rfl,s1,ek,hz,lk,hN,a6,hnd,c4⟩
      rw[z22]at hx;obtain⟨c,d7,rfl⟩:=z0q.mp hx;have icl:i < cs.length:=(z07.mp d7).1;have lzk:=Paired.length hz;refine⟨_,zr,_,zr,_,_,zr,zr,c,m+3,zr,by lia,by lia,λp H1 t1 hpn hp=>?_⟩;have hl:(strF c (m+3)).length=(m+3).toNat:=qa9 (by lia);obtain⟨ns,d9⟩:∃ns,ns=strF c (m+3):=⟨_,rfl⟩;have c6:oneS ws m c=if ns.getD 1 0%16=5 then [] else (cutL ns (some 3) (some (4+ns.getD 0 0%m))).map (q8r ws):=by rw[d9];rfl
      have c7:(cs.take (i+1)).map (oneS ws m)=(cs.take i).map (oneS ws m)++ [oneS ws m c]:=by rw[z3g,d7,z35];rfl
      rw[<- d9]at hl hp;have a0:atI (ns.map V.int) 0=some (V.int (ns.getD 0 0)):=q1w (k:=0) (by lia);have a1:atI (ns.map V.int) 1=some (V.int (ns.getD 1 0)):=q1w (k:=1) (by lia);refine⟨_,rfl,_,rfl,_,rfl,_,_,_,_,rfl,rfl,SqL.of hp,a0,_,rfl,_,_,rfl,rfl,(by show (0:Int) < m;lia),_,_,rfl,rfl,_,rfl,_,_,rfl,SqL.of hp,λq hq=>?_⟩;have lm:=qe5 ns (some 3) (some (4+ns.getD 0 0%m));rw[qfl];obtain⟨ms,f1⟩:∃ms,ms=cutL ns (some 3) (some (4+ns.getD 0 0%m)):=⟨_,rfl⟩;rw[<- f1]at c6 lm ⊢;have t2:=qf (o:=HO.lst (ms.map V.int)) hq;refine⟨q,zr,⟨_,SqL.of qb⟩,λD hD=>?_⟩;have t3:=qf (o:=HO.lst []) hD;refine q1u (ms.map V.int).length (λi σ' H'=>(∃v,σ'=[v,some (.ref wa)])/\Same (upd H1 q (.lst (ms.map V.int))) H'/\∃ys:List Str,H' D=some (.lst (ys.map V.str))/\ys.length=i/\(∀y∈ys,y∈ws)/\ys=(ms.take i).map (q8r ws)) ⟨⟨_,rfl⟩,t3,[],qb,rfl,(λ_ z=>nomatch z),rfl⟩ (λi σ' H' hi p=>?_) (λσ' H' p=>⟨?_,?_⟩) (λi σ' H' hi p x H2 y=>?_)
      · obtain⟨_,sm,_⟩:=p
        exact⟨_,(ms.map V.int)[i],SqL.of (sm _ _ qb),z0d hi⟩
      · obtain⟨_,sm,_⟩:=p
        exact⟨_,SqL.of (sm _ _ qb),z47 _⟩
      · obtain⟨_,sm,ys,e,yl,hys,c9⟩:=p
        rw[z30]at yl;rw[z30,z2t]at c9;have lys:ys.length<=43:=by lia
        have f9:=t1.trans (t2.trans sm);have f2:=sm _ _ (t2 _ _ hp)
        apply qwg
        · intro key
          refine⟨_,rfl,_,_,_,_,rfl,rfl,SqL.of f2,a1,_,_,rfl,rfl,(by show (0:Int) < 16;decide),rfl,_,rfl,ite2 (λc5=>⟨by show 0<=sizeLine;decide,λD0 d4=>?_⟩) (λc5=>?_)⟩
          · have a7:=f9.trans (qf (o:=HO.lst []) d4)
            have b8:([]:xD).length<=43:=by decide
            have b7:∀y∈([]:xD),y∈ws:=λ_ z=>nomatch z;have c0:upd H' D0 (.lst []) D0=some (.lst (([]:xD).map V.str)):=qb;have hU:∀x:List Str,(∀w∈uniq [],w∈x)↔∀w∈oneS ws m c,w∈x:=λx=>by
              rw[c6,if_pos (by have:=of_decide_eq_true c5;injection this)];exact Iff.of_eq (forall_congr λw=>by rw[q2t])
            clear d4;generalize ([]:xD)=J at a7 b8 b7 c0 hU;generalize upd H' D0 (.lst [])=HX at a7 c0 ⊢;revert a7 b8 b7 c0 hU;revert J;revert HX;revert D0;exact key
          · have hU:∀x:List Str,(∀w∈uniq ys,w∈x)↔∀w∈oneS ws m c,w∈x:=λx=>by
              rw[c6,if_neg (λz=>c5 (z3b (congrArg V.int z))),<- c9];exact Iff.of_eq (forall_congr λw=>by rw[q2t])
            refine key D H' ys ?_ ?_ ?_ ?_ ?_ <;> assumption
        · intro D0 HX J b1 b2 b3 b4 b5
          have a7:Same H0 HX:=by assumption
          have b8:J.length<=43:=by assumption
          have b7:∀y∈J,y∈ws:=by assumption
          have c0:HX D0=some (.lst (J.map V.str)):=by assumption
          have hU:∀x:List Str,(∀w∈uniq J,w∈x)↔∀w∈oneS ws m c,w∈x:=by assumption
          clear b1 b2 b3 b4 b5;have f0:=a7 _ _ ek;have e5:q1b HX zs O:=q1i (λb ys z=>a7 b _ z) hz;refine⟨_,rfl,D0,J,rfl,.inl (SqL.of c0),by have:=b8;lia,λe1 us e6 f8 d1=>?_⟩;have u1:=qf (o:=SetH P w e1 us) e6;refine⟨e1,us,zr,qb,λe2 e7=>?_⟩;rw[qdl f8 d1];have u2:=qf (o:=HO.lst ((uniq J).map V.str)) e7;refine⟨_,_,zr,.inl ⟨SqL.of qb,λt ht=>?_⟩⟩;have u3:=qf (o:=HO.tup ((uniq J).map V.str)) ht;have uA:=u1.trans (u2.trans u3);have et:=qb (H:=upd (upd HX e1 (SetH P w e1 us)) e2 (.lst ((uniq J).map V.str))) (a:=t) (o:=HO.tup ((uniq J).map V.str));have nu:=q4d J;have wu:∀x∈uniq J,x∈ws:=λx hx=>b7 x ((q2t J x).mp hx);have sB:=a7.trans uA;have a4:=uA _ _ f0;have a8:q1b (upd (upd (upd HX e1 (SetH P w e1 us)) e2 (.lst ((uniq J).map V.str))) t (.tup ((uniq J).map V.str))) zs O:=q1i (λb ys z=>uA b _ z) e5;generalize upd (upd (upd HX e1 (SetH P w e1 us)) e2 (.lst ((uniq J).map V.str))) t (.tup ((uniq J).map V.str))=G1 at*;generalize uniq J=u at*;refine⟨_,zr,kq,zr,⟨_,SqL.of a4⟩,λD hD=>?_⟩;refine q1u zs.length (λj σ' H'=>(∃v,σ'=[v,some (.ref t)])/\Same G1 H'/\H' D=some (.lst (((O.take j).map λr=>decide (∀x∈r,x∈u)).map V.bl))) ⟨⟨_,zr⟩,qf hD,qb⟩ (λj σ' H' hj p=>?_) (λσ' H' p=>⟨?_,?_⟩) (λj σ' H' hj p x H3 y=>?_)
          · obtain⟨_,sm,_⟩:=p
            exact⟨_,zs[j],SqL.of (sm _ _ a4),z0d hj⟩
          · obtain⟨_,sm,_⟩:=p
            exact⟨_,SqL.of (sm _ _ a4),z47 _⟩
          · obtain⟨_,sm,eD⟩:=p
            rw[Paired.length a8,z2t]at eD;refine⟨D,O.map λr=>decide (∀x∈r,x∈u),zr,SqL.of eD,_,zr,ite2 (λh1=>?_) (λh1=>?_)⟩
            · have no:∀r∈O,¬ ∀x∈r,x∈u:=λr hr z=>by
                have:((O.map λr=>decide (∀x∈r,x∈u)).any id)=true:=z2p.mpr ⟨true,z44.mpr ⟨r,hr,z3b z⟩,rfl⟩;rw[this]at h1;cases h1
              have b6:=sm _ _ a4;have d3:=sm _ _ et;have a9:q1b H' zs O:=q1i (λb ys z=>sm b _ z) a8;refine⟨_,zr,kq,zr,⟨_,SqL.of b6⟩,λD2 d5=>?_⟩;refine q1u zs.length (λj σ' G2=>(∃v,σ'=[v,some (.ref t)])/\Same H' G2/\∃qs,G2 D2=some (.lst qs)/\q1b H' qs ((O.take j).filter λr=> !decide (∀x∈u,x∈r))/\qs.length<=j) ⟨⟨_,rfl⟩,qf d5,[],qb,.nil,z47 _⟩ (λj σ' G2 hj p=>?_) (λσ' G2 p=>⟨?_,?_⟩) (λj σ' G2 hj p x G3 y=>?_)
              · obtain⟨_,Z,_⟩:=p
                exact⟨_,zs[j],SqL.of (Z _ _ b6),z0d hj⟩
              · obtain⟨_,Z,_⟩:=p
                exact⟨_,SqL.of (Z _ _ b6),z47 _⟩
              · obtain⟨_,Z,qs,c8,hq,lq⟩:=p
                rw[Paired.length a9,z2t]at hq;rw[Paired.length a9]at lq;refine⟨_,rfl,by show 1<=sizeLine;decide,λe3 e8=>?_⟩;have u4:=qf (o:=HO.lst [.ref t]) e8;refine⟨D2,e3,_,_,rfl,rfl,u4 _ _ c8,qb,z3x (q14 (by show _+1 < _;lia)),λpk f3=>?_⟩;have u5:=qf (o:=HO.lst (qs++ [.ref t])) f3;have sC:=Z.trans (u4.trans u5);refine⟨_,_,_,_,pk,_,O.filter (λr=> !decide (∀x∈u,x∈r))++ [u],rfl,s1.trans (sB.trans (sm.trans sC)),qb,q1m (q1i (λb ys z=>sC b _ z) hq) (.cons ⟨t,rfl,sC _ _ d3⟩ .nil),?_,λr hr=>?_,λr hr q a2 h=>?_,?_,by rw[c7];exact qsn c4 hU⟩
                · have:=z10 (λr=> !decide (∀x∈u,x∈r)) O
                  rw[z1o];show _+1<=_
                  lia
                · rcases z2u.mp hr with hr | hr
                  · exact hN r (z2x.mp hr).1
                  · rw[z1m.mp hr]
                    exact⟨nu,wu⟩
                · rcases z2u.mp hr with hr | hr
                  · rcases z2u.mp a2 with a2 | a2
                    · exact a6 r (z2x.mp hr).1 q (z2x.mp a2).1 h
                    · rw[z1m.mp a2]at h
                      exact absurd h (no r (z2x.mp hr).1)
                  · rcases z2u.mp a2 with a2 | a2
                    · rw[z1m.mp hr]at h
                      have:=(z2x.mp a2).2;rw[z3b h]at this;cases this
                    · rw[z1m.mp hr,z1m.mp a2]
                · rw[z2d]
                  refine⟨hnd.filter _,by simp,λx hx y hy e=>?_⟩;rw[z1m.mp hy]at e;exact no x (z2x.mp hx).1 (by rw[e];exact λ_ z=>z)
              · obtain⟨⟨v,rfl⟩,Z,qs,c8,hq,lq⟩:=p
                obtain⟨rfl,d2⟩:=y;have b9:=d2 _ (SqL.of (Z _ _ b6));obtain⟨r,br,hr,rfl,d0⟩:=q2y a9 b9;have c1:(O.take (j+1)).filter (λr=> !decide (∀x∈u,x∈r))=(O.take j).filter (λr=> !decide (∀x∈u,x∈r))++(if (!decide (∀x∈u,x∈r))=true then [r] else []):=by
                  rw[z3g,hr,z1u]
                  congr 1
                  show List.filter _ [r]=_;rw[z2j,List.filter_nil]
                refine⟨_,zr,_,zr,t,br,u,r,zr,Z _ _ d3,Z _ _ d0,_,zr,ite2 (λh2=>?_) (λh2=>?_)⟩
                · refine⟨_,rfl,_,c8,q14 (by have:=Paired.length a9;lia),⟨_,rfl⟩,Z.set d5,_,qb,?_,by rw[z1o];show _+1<=_;lia⟩
                  rw[c1,if_pos h2];exact q1m hq (.cons ⟨br,zr,d0⟩ .nil)
                · refine⟨⟨_,zr⟩,Z,qs,c8,?_,by lia⟩
                  rw[c1,if_neg h2,z31];exact hq
            · exact⟨_,_,_,_,kq,zs,O,zr,s1.trans (sB.trans sm),sm _ _ a4,q1i (λb ys z=>sm b _ z) a8,by lia,hN,a6,hnd,by
                rw[c7];refine qso c4 hU ?_;have h2:((O.map λr=>decide (∀x∈r,x∈u)).any id)=true:=by
                  cases z:((O.map λr=>decide (∀x∈r,x∈u)).any id) with
                  | true=>rfl
                  | false=>exact absurd (by rw[z];rfl) h1
                obtain⟨b,hb,eb⟩:=z2p.mp h2;obtain⟨r,hr,rfl⟩:=z44.mp hb;exact⟨r,hr,of_decide_eq_true eb⟩⟩
          · obtain⟨⟨v,rfl⟩,sm,eD⟩:=p
            obtain⟨rfl,d2⟩:=y;have b9:=d2 _ (SqL.of (sm _ _ a4));obtain⟨r,br,hr,rfl,d0⟩:=q2y a8 b9;refine⟨_,zr,_,zr,br,t,r,u,zr,sm _ _ d0,sm _ _ et,_,eD,?_,⟨_,zr⟩,sm.set hD,?_⟩
            · rw[z30,z30,z2g]
              exact q14 (by lia)
            · rw[qb,z3g,hr,z35,z35]
              rfl
      · obtain⟨⟨v,rfl⟩,sm,ys,e,yl,hy,c9⟩:=p
        obtain⟨rfl,hx⟩:=y;have b9:=hx _ (SqL.of (sm _ _ qb));rw[z22]at b9;obtain⟨n,d8,rfl⟩:=z0q.mp b9;have e0:=sm _ _ (t2 _ _ (t1 _ _ (s1 _ _ f5)));have wp:(0:Int) < ((ws.map V.str).length:Int):=by rw[z30];lia
        have f4:=qyl (ws:=ws) (n:=n) wl;have f7:=qom (ws:=ws) (n:=n) wl;refine⟨_,zr,_,zr,_,zr,_,_,zr,.inl ⟨_,SqL.of e0,zr⟩,_,_,zr,zr,wp,_,_,_,_,zr,zr,SqL.of e0,f4,?_⟩;have il:i < ms.length:=(z07.mp d8).1;refine⟨_,e,by rw[z30,yl];exact q1l (by lia),⟨_,rfl⟩,sm.set hD,ys++ [q8r ws n],by rw[qb,z35];rfl,by rw[z1o,yl];rfl,(λy f6=>?_),by rw[z3g,d8,z35,<- c9];rfl⟩;rcases z2u.mp f6 with h | h
        · exact hy y h
        · rw[z1m.mp h]
          exact f7
    · rintro σ H1 ⟨v1,v2,v3,v4,kq,zs,O,rfl,s1,ek,hz,lk,hN,a6,hnd,c4⟩
      rw[z30,z2t]at c4;refine⟨_,zr,kq,zs,O,zr,SqL.of ek,hz,λp us hp d1=>?_⟩;have s2:=qf (o:=HO.lst us) hp;have a5:∀x,x∈Tim.srt q17 O↔x∈O:=λx=>(Tim.q13 q17 O).mem_iff;exact k p us (Tim.srt q17 O) _ (s1.trans s2) (s1.free hp) qb (q1i (λb ys e=>s2 b _ e) d1) ⟨q58 q28 (Tim.q23 q28 _) ((Tim.q13 q17 _).nodup_iff.mpr hnd),λx hx=>(hN x ((a5 x).mp hx)).1,λx hx y hy h=>a6 x ((a5 x).mp hx) y ((a5 y).mp hy) h⟩ ⟨e4,g0,g1,λr hr=>(hN r ((a5 r).mp hr)).2⟩ (by rw[(Tim.q13 q17 O).length_eq];rw[z30]at lk;exact lk) λx=>by
        rw[<- c4];exact⟨λ⟨r,hr,z⟩=>⟨r,(a5 r).mp hr,z⟩,λ⟨r,hr,z⟩=>⟨r,(a5 r).mpr hr,z⟩⟩
def vi{a b:Int}(h:decide (V.int a=V.int b)=true):a=b:=by
 have:=of_decide_eq_true h;injection this
def vin{a b:Int}(h:¬ decide (V.int a=V.int b)=true):a≠b:=λe=>h (z3b (congrArg V.int e))
def numF(c:Int):Int:=if (strF c 3).getD 0 0%3=0 then c%10^15 else if (strF c 3).getD 0 0%3=1 then 0 - c%10^15 else (strF c 3).getD 1 0%7 - 3
def qon(c:Int): -(10^15) < numF c/\numF c < 10^15:=by
 unfold numF;have m0:=z39 c (show (10:Int)^15≠0 by decide);have m1:=z1w c (show (0:Int) < 10^15 by decide);have e0:=z39 ((strF c 3).getD 1 0) (show (7:Int)≠0 by decide);have e1:=z1w ((strF c 3).getD 1 0) (show (0:Int) < 7 by decide);split
 ·lia
 ·split <;> lia
def qym:Sp:=λvs H Q _=>∃c:Int,vs=[.int c]/\∀H',Same H H'->Q (.int (numF c)) H'
def q9d(T:Txt K mg):Def P w K mg base 2 "_law_number" ["_law_cell"] qym:=by
 refine T.qjz.ok q9a (λvs H Q E h=>?_) λf cdv A outer s H vs Q E hr h=>?_
 ·obtain⟨c,rfl,_⟩:=h;rfl
 ·obtain⟨c,rfl,q⟩:=h;refine⟨_,(qc5
   (qm (i:=1) q9a.nd rfl (Or.inl rfl) (q11 (q5q T) hr rfl (pa_2 (pv 0) qc)))
   (q12 (qp q1f (ql q16 (q1a (qy K) (pv 1) qc (λ_ _=>rfl)) qc) qc (qq _)) (qg (qh (ql q16 (pv 0) (ql qer qc qc)))) qr)
   (q12 (qp q1f (ql q16 (q1a (qy K) (pv 1) qc (λ_ _=>rfl)) qc) qc (qq _)) (qg (qh (ql qqw qc (ql q16 (pv 0) (ql qer qc qc))))) qr)
   (qh (ql qqw (ql q16 (q1a (qy K) (pv 1) qc (λ_ _=>rfl)) qc) qc))),?_⟩
  refine⟨_,zr,c,3,zr,by decide,by decide,λp H1 s1 hn D=>?_⟩
  replace q:=q H1 s1
  have O:=q6d (c:=c) (m:=3) (k:=0) (by decide) (by decide);have a1:=q6d (c:=c) (m:=3) (k:=1) (by decide) (by decide);unfold numF at q;generalize strF c 3=is at*;generalize is.getD 0 0=i0 at*;generalize is.getD 1 0=i1 at*;have J:(0:Int) < 10^15:=by decide
  refine⟨_,rfl,_,_,_,_,rfl,rfl,SqL.of D,O,_,_,rfl,rfl,(by show (0:Int) < 3;decide),rfl,_,rfl,ite2 (λh=>?_) (λh=>?_)⟩
  ·rw[if_pos (vi h)]at q;exact⟨_,zr,_,_,zr,zr,⟨by decide,by decide,by decide⟩,_,_,zr,zr,J,q⟩
  ·rw[if_neg (vin h)]at q;refine⟨_,rfl,_,_,_,_,rfl,rfl,SqL.of D,O,_,_,rfl,rfl,(by show (0:Int) < 3;decide),rfl,_,rfl,ite2 (λh=>?_) (λh=>?_)⟩
   ·rw[if_pos (vi h)]at q;exact⟨_,zr,_,_,zr,zr,⟨by decide,by decide,by decide⟩,_,_,zr,zr,J,_,_,zr,zr,q⟩
   ·rw[if_neg (vin h)]at q;exact⟨_,rfl,_,_,_,_,rfl,rfl,SqL.of D,a1,_,_,rfl,rfl,(by show (0:Int) < 7;decide),_,_,rfl,rfl,q⟩
def q2s:Kd->Int
 | .counts=>0
 | .costs=>1
 | .bests _=>2
 | .trusts _=>3
 | .truths=>4
 | .hands=>5
def ofK(m t:Int):Kd->Prop
 | .bests n=>n=m
 | .trusts n=>n=t
 | _=>True
def q11y{c m t:Int}(h0:0<=c)(h6:c < 6)(hm:1<=m/\m<=9)(ht:0<=t):∃k:Kd,q2s k=c/\ofK m t k/\k.ok:=by
 by_cases e0:c=0
 ·exact⟨.counts,e0.symm,trivial,trivial⟩
 by_cases e1:c=1
 ·exact⟨.costs,e1.symm,trivial,trivial⟩
 by_cases e2:c=2
 ·exact⟨.bests m,e2.symm,zr,hm⟩
 by_cases e3:c=3
 ·exact⟨.trusts t,e3.symm,zr,ht⟩
 by_cases e4:c=4
 ·exact⟨.truths,e4.symm,trivial,trivial⟩
 exact⟨.hands,by show 5=c;lia,trivial,trivial⟩
def q4f{H:Hp}{x dx C:Addr}{fs:List (Str×V)}(nx:H x=none)(D:H dx=none):Same H (upd (upd H dx (.own x)) x (.ins C dx fs)):=λc o e=>by
 rw[qi (qz e nx),qi (qz e D)];exact e
def q11z(mg:xE):Sp:=λvs H Q _=>∃(k:Kd) (m t:Int),vs=[.int (q2s k),.int m,.int t]/\ofK m t k/\∀o H',Same H H'->ByAt mg H' o k->Q (.ref o) H'
def qq2(T:Txt K mg):Def P w K mg base 3 "_law_by" ["_law_kind","_law_many","_law_top"] (q11z mg):=by
 refine T.qtd.ok qpt (λvs H Q E h=>?_) λf cdv A outer s H vs Q E hr h=>?_
 ·obtain⟨k,m,t,rfl,_⟩:=h;rfl
 ·obtain⟨k,m,t,rfl,hk,q⟩:=h;refine⟨_,(qk8
   (q12 (qp q1f (pv 0) qc (qq _)) (qg (qh (q9r T.qte T.qtg T.qtb rfl T.qvv))) qr)
   (q12 (qp q1f (pv 0) qc (qq _)) (qg (qh (q9r T.qvs T.qvz T.qvy rfl T.qyz))) qr)
   (q12 (PW.pt (qep (qp q1f (pv 0) qc (qq _)) (qc1 (qp q1f (pv 1) qc (qq _))))) (qg (qh (qrw (qai T) T.qmv T.qmw hr rfl T.qox))) qr)
   (q12 (qp q1f (pv 0) qc (qq _)) (qg (qh (qrx (qai T) T.qmv T.qmw hr rfl T.qox (pa_1 (pv 1))))) qr)
   (q12 (PW.pt (qep (qp q1f (pv 0) qc (qq _)) (qc1 (qp q1f (pv 2) qc (qq _))))) (qg (qh (qrw (q9b T) T.qit T.qis hr rfl T.qms))) qr)
   (q12 (qp q1f (pv 0) qc (qq _)) (qg (qh (qrx (q9b T) T.qit T.qis hr rfl T.qms (pa_1 (pv 2))))) qr)
   (q12 (qp q1f (pv 0) qc (qq _)) (qg (qh (q9r T.qtl T.qt9 T.qti rfl T.qvu))) qr)
   (qh (q9r T.qvx T.qvt T.qvq rfl T.qyy))),?_⟩
  cases k with
  | counts=>exact⟨_,rfl,rfl,_,rfl,q1d rfl λx dx nx D J=>q _ _ (q4f nx D) ⟨dx,qb⟩⟩
  | costs=>exact⟨_,rfl,rfl,_,rfl,qk rfl ⟨_,rfl,rfl,_,rfl,q1d rfl λx dx nx D J=>q _ _ (q4f nx D) ⟨dx,qb⟩⟩⟩
  | bests n=>
   cases (show n=m from hk)
   refine⟨_,zr,zr,_,zr,qk rfl ⟨_,zr,zr,_,zr,qk rfl ⟨_,zr,zr,_,zr,q1d rfl ?_⟩⟩⟩;refine⟨_,zr,zr,_,zr,ite2 (λh=>?_) (λh=>?_)⟩
   ·cases vi h
    intro x dx nx D J;refine⟨x,dx,_,zr,qb,zr,?_⟩;rw[q5u];exact q _ _ (q4f nx D) ⟨dx,qb⟩
   ·refine⟨_,zr,zr,_,zr,q1d rfl ?_⟩;refine⟨_,zr,λx dx nx D J=>?_⟩;refine⟨x,dx,_,zr,qb,zr,?_⟩;rw[q5u];exact q _ _ (q4f nx D) ⟨dx,qb⟩
  | trusts n=>
   cases (show n=t from hk)
   refine⟨_,zr,zr,_,zr,qk rfl ⟨_,zr,zr,_,zr,qk rfl ⟨_,zr,zr,_,zr,qk rfl ⟨_,zr,zr,_,zr,qk rfl ⟨_,zr,zr,_,zr,q1d rfl ?_⟩⟩⟩⟩⟩;refine⟨_,zr,zr,_,zr,ite2 (λh=>?_) (λh=>?_)⟩
   ·cases vi h
    intro x dx nx D J;refine⟨x,dx,_,zr,qb,zr,?_⟩;rw[q5u];exact q _ _ (q4f nx D) ⟨dx,qb⟩
   ·refine⟨_,zr,zr,_,zr,q1d rfl ?_⟩;refine⟨_,zr,λx dx nx D J=>?_⟩;refine⟨x,dx,_,zr,qb,zr,?_⟩;rw[q5u];exact q _ _ (q4f nx D) ⟨dx,qb⟩
  | truths=>
   refine⟨_,zr,zr,_,zr,qk rfl ⟨_,zr,zr,_,zr,qk rfl ⟨_,zr,zr,_,zr,qk rfl ⟨_,zr,zr,_,zr,qk rfl ⟨_,zr,zr,_,zr,qk rfl ⟨_,zr,zr,_,zr,qk rfl ⟨_,zr,zr,_,zr,q1d rfl ?_⟩⟩⟩⟩⟩⟩⟩;exact λx dx nx D J=>q _ _ (q4f nx D) ⟨dx,qb⟩
  | hands=>
   refine⟨_,zr,zr,_,zr,qk rfl ⟨_,zr,zr,_,zr,qk rfl ⟨_,zr,zr,_,zr,qk rfl ⟨_,zr,zr,_,zr,qk rfl ⟨_,zr,zr,_,zr,qk rfl ⟨_,zr,zr,_,zr,qk rfl ⟨_,zr,zr,_,zr,qk rfl ?_⟩⟩⟩⟩⟩⟩⟩;exact λx dx nx D J=>q _ _ (q4f nx D) ⟨dx,qb⟩
def qv6{ns:List Int}{i:Int}(h0:0<=i)(h1:i < (ns.length:Int)):atI (ns.map V.int) i=some (V.int (ns.getD i.toNat 0)):=by
 obtain⟨j,rfl⟩:=z0m h0;exact q1w (by lia)
def absI(i:Int):Int:=if i < 0 then -i else i
def bigF(is:List Int):Int:=is.getD 1 0*is.getD 2 0*is.getD 3 0*is.getD 4 0
def q8a(W:xD)(c:Int):Kd->Wo
 | .counts=> .num (absI (numF c))
 | .costs=>if (strF c 12).getD 0 0%6=0 then .non else .num (numF c)
 | .bests m=> .nums (Tim.srt q1g ((cutL (strF c 12) (some 1) (some (1+(strF c 12).getD 0 0%(m+1)))).map λo=>numF (o*1000003)))
 | .trusts t=> .num (([0,t,absI (numF c),bigF (strF c 12),bigF (strF c 12),bigF (strF c 12) / 7].getD ((strF c 12).getD 0 0%6).toNat 0)%(t+1))
 | .truths=> .tr (decide (V.int ((strF c 12).getD 0 0%2)=V.int 1))
 | .hands=> .acc (q3b ((cutL (strF c 12) (some 2) (some (2+(strF c 12).getD 0 0%4))).map (oneS W 3)))
def qv7{W:xD}{F:xF}(hW:HOk W)(h:∀f∈F,∀w∈f,w∈W):Of 7 W (q3b F):=⟨by decide,hW.few,hW.ne,λr hr w hw=>by
 obtain⟨⟨f,hf,rfl⟩,_⟩:=q6b.mp (q59.mp hr);exact h f hf w ((q2t f w).mp hw)⟩
def qyn{W:xD}{m c:Int}(wl:1<=W.length):∀w∈oneS W m c,w∈W:=λw hw=>by
 unfold oneS at hw;split at hw
 ·cases hw
 ·obtain⟨n,_,rfl⟩:=z44.mp hw;exact qom wl
def qaa{W:xD}{k:Kd}(hW:HOk W)(wl:1<=W.length)(hk:k.ok)(c:Int):qx W k (q8a W c k):=by
  cases k with
  | counts=>
    refine .counts ?_;unfold absI;split <;> lia
  | costs=>
    show qx W .costs (if _ then _ else _);split
    · exact .costX
    · exact .costN _
  | bests m=>
    refine .bests (Tim.q23 q29 _) ?_;rw[(Tim.q13 q1g _).length_eq,z30];have h1:1<=m:=hk.1;have e0:=z39 ((strF c 12).getD 0 0) (show m+1≠0 by lia);have e1:=z1w ((strF c 12).getD 0 0) (show 0 < m+1 by lia);generalize (strF c 12).getD 0 0%(m+1)=r at*;obtain⟨n,rfl⟩:=z0m e0;have:=qha (strF c 12) 1 (1+n);have e:((1+n:Nat):Int)=1+(n:Int):=by lia
    rw[e]at this;exact z40 this (by lia)
  | trusts t=>
    have h1:0<=t:=hk;refine .trusts (z39 _ (by lia)) ?_;have:=z1w ([0,t,absI (numF c),bigF (strF c 12),bigF (strF c 12),bigF (strF c 12) / 7].getD ((strF c 12).getD 0 0%6).toNat 0) (show 0 < t+1 by lia)
    lia
  | truths=>exact .truths _
  | hands=>exact .hands (q4e _) (qv7 hW λf hf=>by
      obtain⟨n,_,rfl⟩:=z44.mp hf;exact qyn wl)
def qv8:Sp:=λvs H Q _=>∃(k:Kd) (c m t:Int) (wa:Addr) (W:xD),vs=[.int (q2s k),.int c,.ref wa,.int m,.int t]/\ofK m t k/\k.ok/\(1<=m/\m<=9)/\0<=t/\H wa=some (.lst (W.map V.str))/\HOk W/\1<=W.length/\
 ∀x H',Same H H'->NewV H x->WV H' (q8a W c k) x->Q x H'
def qji(T:Txt K mg):Def P w K mg base 3 "_law_worth" ["_law_kind","_law_cell","_law_words_here","_law_many","_law_top"] qv8:=by
 refine T.qmu.ok q4v (λvs H Q E h=>?_) λf cdv A outer s H vs Q E hr h=>?_
 ·obtain⟨k,c,m,t,wa,W,rfl,_⟩:=h;rfl
 ·obtain⟨k,c,m,t,wa,W,rfl,hk,ko,hm,ht,hw,hW,wl,q⟩:=h;refine⟨_,(q11k
   (qm (i:=5) q4v.nd rfl (Or.inl rfl) (q11 (q5q T) hr rfl (pa_2 (pv 1) qc)))
   (qm (i:=6) q4v.nd rfl (Or.inl rfl) (q11 (q9d T) hr rfl (pa_1 (pv 1))))
   (q12 (qp q1f (pv 0) qc (qq _)) (qg (qh (qo qku rfl T.b_abs qru (pa_1 (pv 6))))) qr)
   (q12 (PW.pt (qep (qp q1f (pv 0) qc (qq _)) (qc1 (qp q1f (ql q16 (q1a (qy K) (pv 5) qc (λ_ _=>rfl)) qc) qc (qq _))))) (qg (qh q38)) qr)
   (q12 (qp q1f (pv 0) qc (qq _)) (qg (qh (pv 6))) qr)
   (q12 (qp q1f (pv 0) qc (qq _)) (qg (qh (qo (q5f K) rfl T.q2h q2c (pa_1 (q2d (N:=["_law_other"]) (caps:=[none]) rfl (by with_unfolding_all rfl) (q18 K (q27 (q31 K) (pv 5) (q1q qc) (q1q (ql q1j qc (ql q16 (q1a (qy K) (pv 5) qc (λ_ _=>rfl)) (ql q1j (pv 3) qc)))))) (λ_ _ _ _ _=>(qu (i:=0) (show (["_law_other"]:xD).Nodup by decide+kernel) rfl (Or.inl rfl))) (λ_ _ _ _ _=>q2u) (λ_ _ _ _ _=>(q11 (q9d T) hr rfl (pa_1 (ql q5d (pv 0) qc))))))))) qr)
   (q12 (qp q1f (pv 0) qc (qq _)) (q39
   (qm (i:=7) q4v.nd rfl (Or.inl rfl) (ql q5d (ql q5d (ql q5d (q1a (qy K) (pv 5) qc (λ_ _=>rfl)) (q1a (qy K) (pv 5) qc (λ_ _=>rfl))) (q1a (qy K) (pv 5) qc (λ_ _=>rfl))) (q1a (qy K) (pv 5) qc (λ_ _=>rfl))))
   (qh (ql q16 (q1a (qy K) (q1p (pa_6 qc (pv 4) (qo qku rfl T.b_abs qru (pa_1 (pv 6))) (pv 7) (pv 7) (ql qwx (pv 7) qc))) (ql q16 (q1a (qy K) (pv 5) qc (λ_ _=>rfl)) qc) (λ_ _=>rfl)) (ql q1j (pv 4) qc)))) qr)
   (q12 (qp q1f (pv 0) qc (qq _)) (qg (qh (q4j q1f (ql q16 (q1a (qy K) (pv 5) qc (λ_ _=>rfl)) qc) qc (qq _)))) qr)
   (qh (q11 (qfm T) hr rfl (pa_3 (q27 (q31 K) (pv 5) (q1q qc) (q1q (ql q1j qc (ql q16 (q1a (qy K) (pv 5) qc (λ_ _=>rfl)) qc)))) (pv 2) qc)))),?_⟩
  refine⟨_,zr,c,12,zr,by decide,by decide,λp H1 s1 hn hp=>?_⟩;refine⟨_,zr,c,zr,λH2 s2=>?_⟩;have J:=s2 _ _ hp;have O:=s1.trans s2;have b5:=O _ _ hw;have nb:=qon c;have a0:=q6d (c:=c) (m:=12) (k:=0) (by decide) (by decide);have a1:=q6d (c:=c) (m:=12) (k:=1) (by decide) (by decide);have a2:=q6d (c:=c) (m:=12) (k:=2) (by decide) (by decide);have a3:=q6d (c:=c) (m:=12) (k:=3) (by decide) (by decide);have a4:=q6d (c:=c) (m:=12) (k:=4) (by decide) (by decide);cases k with
  | counts=>exact⟨_,rfl,rfl,_,rfl,q1d rfl ⟨_,rfl,_,rfl,q _ _ O (q2g _) rfl⟩⟩
  | costs=>
   refine⟨_,zr,zr,_,zr,qk rfl ⟨_,zr,zr,_,zr,q1d rfl ?_⟩⟩;refine⟨_,rfl,_,_,_,_,rfl,rfl,SqL.of J,a0,_,_,rfl,rfl,(by show (0:Int) < 6;decide),rfl,_,rfl,ite2 (λh=>?_) (λh=>?_)⟩
   ·exact q _ _ O q7i (by show WV _ (if _ then _ else _) _;rw[if_pos (vi h)];rfl)
   ·exact⟨_,rfl,rfl,_,rfl,q1d rfl ⟨_,rfl,q _ _ O (q2g _) (by show WV _ (if _ then _ else _) _;rw[if_neg (vin h)];rfl)⟩⟩
  | bests n=>
   cases (show n=m from hk)
   refine⟨_,zr,zr,_,zr,qk rfl ⟨_,zr,zr,_,zr,qk rfl ⟨_,zr,zr,_,zr,qk rfl ⟨_,zr,zr,_,zr,q1d rfl ?_⟩⟩⟩⟩;refine⟨_,rfl,_,rfl,_,rfl,_,_,_,_,rfl,rfl,SqL.of J,a0,_,rfl,_,_,rfl,rfl,_,_,rfl,rfl,(by show 0 < m+1;lia),_,_,rfl,rfl,_,rfl,_,_,rfl,SqL.of J,λl hl=>?_⟩;have Z:=qe5 (strF c 12) (some 1) (some (1+(strF c 12).getD 0 0%(m+1)));rw[qa9 (by decide)]at Z;have Z:_<=12:=Z;rw[qfl];obtain⟨ms,a6⟩:∃ms,ms=cutL (strF c 12) (some 1) (some (1+(strF c 12).getD 0 0%(m+1))):=⟨_,rfl⟩;rw[<- a6]at Z ⊢;have t2:=qf (o:=HO.lst (ms.map V.int)) hl;refine⟨l,zr,⟨_,SqL.of qb⟩,λD hD=>?_⟩;have t3:=qf (o:=HO.lst []) hD;refine q1u (ms.map V.int).length (λi σ' H'=>(∃v,σ'=[v])/\Same (upd H2 l (.lst (ms.map V.int))) H'/\H' D=some (.lst (((ms.take i).map λo=>numF (o*1000003)).map V.int))) ⟨⟨_,zr⟩,t3,qb⟩ (λi σ' H' hi p=>?_) (λσ' H' p=>⟨?_,?_⟩) (λi σ' H' hi p x H3 y=>?_)
   ·obtain⟨_,sm,_⟩:=p;exact⟨_,(ms.map V.int)[i],SqL.of (sm _ _ qb),z0d hi⟩
   ·obtain⟨_,sm,_⟩:=p;exact⟨_,SqL.of (sm _ _ qb),z47 _⟩
   ·obtain⟨_,sm,e⟩:=p;rw[z30,z2t]at e;refine⟨D,_,zr,.inl (SqL.of e),λl2 a5=>?_⟩;have sA:=O.trans (t2.trans sm);exact q _ _ (sA.trans (qf a5)) (q3k (sA.free a5)) ⟨l2,zr,by rw[qb,a6]⟩
   ·obtain⟨⟨v,rfl⟩,sm,e⟩:=p;obtain⟨rfl,hx⟩:=y;have a8:=hx _ (SqL.of (sm _ _ qb));rw[z22]at a8;obtain⟨n,a7,rfl⟩:=z0q.mp a8;have il:i < ms.length:=(z07.mp a7).1;refine⟨_,zr,_,_,zr,zr,.inr ⟨by decide,by decide⟩,_,zr,λH4 s4=>?_⟩;refine⟨_,s4 _ _ e,by rw[z30,z30,z2g];exact q1l (by lia),⟨_,rfl⟩,(sm.trans s4).set hD,?_⟩;rw[qb,z3g,a7,z35,z35];rfl
  | trusts n=>
   cases (show n=t from hk)
   refine⟨_,zr,zr,_,zr,qk rfl ⟨_,zr,zr,_,zr,qk rfl ⟨_,zr,zr,_,zr,qk rfl ⟨_,zr,zr,_,zr,qk rfl ⟨_,zr,zr,_,zr,q1d rfl ?_⟩⟩⟩⟩⟩;have b2:=qe4 (c:=c) (m:=12) 2;have b3:=qe4 (c:=c) (m:=12) 3;have b4:=qe4 (c:=c) (m:=12) 4;refine⟨_,zr,_,_,_,_,zr,zr,SqL.of J,a1,_,zr,_,_,_,_,zr,zr,SqL.of J,a2,_,_,zr,zr,.inr ⟨by lia,by lia⟩,_,zr,_,_,_,_,zr,zr,SqL.of J,a3,_,_,zr,zr,.inr ⟨by lia,by lia⟩,_,zr,_,_,_,_,zr,zr,SqL.of J,a4,_,_,zr,zr,.inr ⟨by lia,by lia⟩,?_⟩;refine⟨_,rfl,_,rfl,_,rfl,_,rfl,_,rfl,_,rfl,_,_,rfl,rfl,⟨by decide,by decide⟩,by show 6<=sizeLine;decide,λL hL=>?_⟩;have e0:=z39 ((strF c 12).getD 0 0) (show (6:Int)≠0 by decide);have e1:=z1w ((strF c 12).getD 0 0) (show (0:Int) < 6 by decide);have a9:=qv6 (ns:=[0,t,absI (numF c),bigF (strF c 12),bigF (strF c 12),bigF (strF c 12) / 7]) e0 e1;have u1:=qf (o:=HO.lst ([0,t,absI (numF c),bigF (strF c 12),bigF (strF c 12),bigF (strF c 12) / 7].map V.int)) hL;refine⟨_,rfl,_,_,_,_,rfl,rfl,SqL.of (u1 _ _ J),a0,_,_,rfl,rfl,(by show (0:Int) < 6;decide),_,_,_,_,rfl,rfl,SqL.of qb,a9,_,rfl,_,_,rfl,rfl,_,_,rfl,rfl,(by show 0 < t+1;lia),?_⟩;exact q _ _ (O.trans u1) (q2g _) rfl
  | truths=>
   refine⟨_,zr,zr,_,zr,qk rfl ⟨_,zr,zr,_,zr,qk rfl ⟨_,zr,zr,_,zr,qk rfl ⟨_,zr,zr,_,zr,qk rfl ⟨_,zr,zr,_,zr,qk rfl ⟨_,zr,zr,_,zr,q1d rfl ?_⟩⟩⟩⟩⟩⟩;exact⟨_,rfl,_,_,_,_,rfl,rfl,SqL.of J,a0,_,_,rfl,rfl,(by show (0:Int) < 2;decide),rfl,q _ _ O (qbo _) rfl⟩
  | hands=>
   refine⟨_,zr,zr,_,zr,qk rfl ⟨_,zr,zr,_,zr,qk rfl ⟨_,zr,zr,_,zr,qk rfl ⟨_,zr,zr,_,zr,qk rfl ⟨_,zr,zr,_,zr,qk rfl ⟨_,zr,zr,_,zr,qk rfl ?_⟩⟩⟩⟩⟩⟩;refine⟨_,rfl,_,rfl,_,rfl,_,_,_,_,rfl,rfl,SqL.of J,a0,_,_,rfl,rfl,(by show (0:Int) < 4;decide),_,_,rfl,rfl,_,rfl,_,_,rfl,SqL.of J,λl hl=>?_⟩;have Z:=qe5 (strF c 12) (some 2) (some (2+(strF c 12).getD 0 0%4));rw[qa9 (by decide)]at Z;have Z:_<=12:=Z;rw[qfl];have t2:=qf (o:=HO.lst ((cutL (strF c 12) (some 2) (some (2+(strF c 12).getD 0 0%4))).map V.int)) hl;refine⟨_,zr,l,wa,_,W,3,7,zr,qb,by lia,t2 _ _ b5,wl,by decide,hW.few,hW.ne,by decide,by decide,λp zs R H' s hp ep tp aR oR lR uR=>?_⟩;have sA:=O.trans t2;refine q _ _ (sA.trans s) (q3k (sA.free hp)) ⟨p,zs,zr,ep,?_⟩;rw[<- q88 aR uR];exact tp
def repL(l:List Int)(j:Int):List Int:=(List.replicate j.toNat l).flatten
def repW:Kd->Wo->Int->Wo
 | .counts,.num i,n=> .num (i*n)
 | .bests m,.nums l,n=> .nums (q1e m (repL l (if m < n then m else n)))
 | k,w,n=>if n=0 then noW k else eiW k w w
section
variable{W:xD}{k:Kd}{a:Wo}
def qoo(hW:HOk W)(hk:k.ok)(h:qx W k a){n:Int}(hn:0<=n):qx W k (repW k a n):=by
 cases h with
 | counts h=>exact .counts (z3j h hn)
 | bests h hl=>exact .bests (qbn _ _) (qe2 _ _)
 | costN i=>
  show qx W _ (if _ then _ else _);split
  ·exact q89 hW hk
  ·exact q9c (.costN i) (.costN i)
 | costX=>
  show qx W _ (if _ then _ else _);split
  ·exact q89 hW hk
  ·exact q9c .costX .costX
 | trusts h h2=>
  show qx W _ (if _ then _ else _);split
  ·exact q89 hW hk
  ·exact q9c (.trusts h h2) (.trusts h h2)
 | truths b=>
  show qx W _ (if _ then _ else _);split
  ·exact q89 hW hk
  ·exact q9c (.truths b) (.truths b)
 | hands x o=>
  show qx W _ (if _ then _ else _);split
  ·exact q89 hW hk
  ·exact q9c (.hands x o) (.hands x o)
end
def qab(mg:xE)(k:Kd):Sp:=λvs H Q _=>∃(o:Addr) (x:V) (n:Int) (a:Wo) (W:xD),vs=[.ref o,x,.int n]/\ByAt mg H o k/\k.ok/\HOk W/\qx W k a/\WV H a x/\0<=n/\(k= .counts->szW a < 2^600/\n < 2^600)/\∀z H',Same H H'->NewV H z->WV H' (repW k a n) z->Q z H'
def qbr(T:Txt K mg):MDef P w K mg base 1 (cA mg "Counts") "repeated" ["self","worth","many"] (qab mg .counts):=by
 refine T.qcr.ok qbf (λvs H Q E h=>?_) λf cdv A outer s H vs Q E hr h=>?_
 ·obtain⟨o,x,n,a,W,rfl,_⟩:=h;rfl
 ·obtain⟨o,x,n,a,W,rfl,_,_,_,ga,va,hn,sz,q⟩:=h;have sz:=sz rfl;cases ga with | counts h=>
   cases va
   exact⟨_,(qg (qh (ql qc7 (pv 1) (pv 2)))),⟨_,zr,_,zr,_,_,zr,zr,⟨⟨h,sz.1⟩,hn,sz.2⟩,q _ _ (Same.refl _) (q2g _) rfl⟩⟩
def qcl(T:Txt K mg)(m:Int):MDef P w K mg base 2 (cA mg "Bests") "repeated" ["self","worth","many"] (qab mg (.bests m)):=by
 refine T.qeg.ok qci (λvs H Q E h=>?_) λf cdv A outer s H vs Q E hr h=>?_
 ·obtain⟨o,x,n,a,W,rfl,_⟩:=h;rfl
 ·obtain⟨o,x,n,a,W,rfl,⟨dx,D⟩,hk,_,ga,va,hn,sz,q⟩:=h;cases ga with | @bests _ l h hl=>
   obtain⟨p,rfl,e⟩:=va;have m9:m<=9:=hk.2;have m1:1<=m:=hk.1;have b0:0<=(if m < n then m else n):=by split <;> lia
   have b9:(if m < n then m else n)<=9:=by split <;> lia
   refine⟨_,(qg (qh (qgh (q42 T) T.q4i hr (pv 0) (pa_1 (ql qzb (pv 1) (qo (q8k rfl) rfl T.b_min q96 (pa_2 (pv 2) (qay (pv 0) rfl)))))))),?_⟩;refine⟨_,zr,o,dx,_,zr,D,zr,_,zr,_,zr,_,zr,o,_,dx,_,_,zr,D,T.q4i,T.q5r,zr,_,_,zr,p,_,_,zr,zr,e,by lia,by lia,?_,λc hc=>?_⟩
   ·rw[z30];refine z40 (z3i (show l.length<=9 by lia) (show (if m < n then m else n).toNat<=9 by lia)) (by decide)
   ·have s1:=qf (o:=HO.lst (List.replicate (if m < n then m else n).toNat (l.map V.int)).flatten) hc;refine⟨o,c,m,repL l (if m < n then m else n),rfl,⟨dx,s1 _ _ D⟩,by lia,?_,λl2 H' s' J e2=>q _ _ (s1.trans s') (q3k (s1.free J)) ⟨l2,rfl,e2⟩⟩;rw[qb]
    congr 2
    unfold repL;rw[List.map_flatten,List.map_replicate]
def qcm(T:Txt K mg):MDef P w K mg base 5 (cA mg "Costs") "repeated" ["self","worth","many"] (qab mg .costs):=by
 refine T.qed.ok qch (λvs H Q E h=>?_) λf cdv A outer s H vs Q E hr h=>?_
 ·obtain⟨o,x,n,a,W,rfl,_⟩:=h;rfl
 ·obtain⟨o,x,n,a,W,rfl,⟨dx,D⟩,hk,_,J,va,hn,sz,q⟩:=h;have eq:repW .costs a n=if n=0 then noW .costs else eiW .costs a a:=by cases J <;> rfl
  rw[eq]at q;refine⟨_,(q39
   (q12 (qp q1f (pv 2) qc (qq _)) (qg (qh (q57 (q6n T) (q3c T) hr (pv 0)))) qr)
   (qh (q46 (q6o T) (q3c T) hr (pv 0) (pa_2 (pv 1) (pv 1))))),?_⟩
  refine⟨_,zr,zr,_,zr,ite2 (λh=>?_) (λh=>?_)⟩
  ·rw[if_pos (vi h)]at q;exact⟨_,zr,.costs,o,dx,_,zr,D,qbp .costs,o,zr,⟨dx,D⟩,λz H' s' O Z=>q z H' s' O Z⟩
  ·rw[if_neg (vin h)]at q;exact⟨_,zr,.costs,o,dx,_,zr,D,qbq .costs,_,zr,_,zr,o,_,_,a,a,W,zr,⟨dx,D⟩,hk,J,J,va,va,λz H' s' O Z=>q z H' s' O Z⟩
def qbs(T:Txt K mg)(t:Int):MDef P w K mg base 5 (cA mg "Trusts") "repeated" ["self","worth","many"] (qab mg (.trusts t)):=by
 refine T.qcq.ok qbg (λvs H Q E h=>?_) λf cdv A outer s H vs Q E hr h=>?_
 ·obtain⟨o,x,n,a,W,rfl,_⟩:=h;rfl
 ·obtain⟨o,x,n,a,W,rfl,⟨dx,D⟩,hk,_,J,va,hn,sz,q⟩:=h;have eq:repW (.trusts t) a n=if n=0 then noW (.trusts t) else eiW (.trusts t) a a:=by cases J <;> rfl
  rw[eq]at q;refine⟨_,(q39
   (q12 (qp q1f (pv 2) qc (qq _)) (qg (qh (q57 (q6n T) (q3c T) hr (pv 0)))) qr)
   (qh (q46 (q6o T) (q3c T) hr (pv 0) (pa_2 (pv 1) (pv 1))))),?_⟩
  refine⟨_,zr,zr,_,zr,ite2 (λh=>?_) (λh=>?_)⟩
  ·rw[if_pos (vi h)]at q;exact⟨_,zr,(.trusts t),o,dx,_,zr,D,qbp (.trusts t),o,zr,⟨dx,D⟩,λz H' s' O Z=>q z H' s' O Z⟩
  ·rw[if_neg (vin h)]at q;exact⟨_,zr,(.trusts t),o,dx,_,zr,D,qbq (.trusts t),_,zr,_,zr,o,_,_,a,a,W,zr,⟨dx,D⟩,hk,J,J,va,va,λz H' s' O Z=>q z H' s' O Z⟩
def qbt(T:Txt K mg):MDef P w K mg base 5 (cA mg "Truths") "repeated" ["self","worth","many"] (qab mg .truths):=by
 refine T.qcp.ok qbh (λvs H Q E h=>?_) λf cdv A outer s H vs Q E hr h=>?_
 ·obtain⟨o,x,n,a,W,rfl,_⟩:=h;rfl
 ·obtain⟨o,x,n,a,W,rfl,⟨dx,D⟩,hk,_,J,va,hn,sz,q⟩:=h;have eq:repW .truths a n=if n=0 then noW .truths else eiW .truths a a:=by cases J <;> rfl
  rw[eq]at q;refine⟨_,(q39
   (q12 (qp q1f (pv 2) qc (qq _)) (qg (qh (q57 (q6n T) (q3c T) hr (pv 0)))) qr)
   (qh (q46 (q6o T) (q3c T) hr (pv 0) (pa_2 (pv 1) (pv 1))))),?_⟩
  refine⟨_,zr,zr,_,zr,ite2 (λh=>?_) (λh=>?_)⟩
  ·rw[if_pos (vi h)]at q;exact⟨_,zr,.truths,o,dx,_,zr,D,qbp .truths,o,zr,⟨dx,D⟩,λz H' s' O Z=>q z H' s' O Z⟩
  ·rw[if_neg (vin h)]at q;exact⟨_,zr,.truths,o,dx,_,zr,D,qbq .truths,_,zr,_,zr,o,_,_,a,a,W,zr,⟨dx,D⟩,hk,J,J,va,va,λz H' s' O Z=>q z H' s' O Z⟩
def qcn(T:Txt K mg):MDef P w K mg base 5 (cA mg "Hands") "repeated" ["self","worth","many"] (qab mg .hands):=by
 refine T.qee.ok qcj (λvs H Q E h=>?_) λf cdv A outer s H vs Q E hr h=>?_
 ·obtain⟨o,x,n,a,W,rfl,_⟩:=h;rfl
 ·obtain⟨o,x,n,a,W,rfl,⟨dx,D⟩,hk,_,J,va,hn,sz,q⟩:=h;have eq:repW .hands a n=if n=0 then noW .hands else eiW .hands a a:=by cases J <;> rfl
  rw[eq]at q;refine⟨_,(q39
   (q12 (qp q1f (pv 2) qc (qq _)) (qg (qh (q57 (q6n T) (q3c T) hr (pv 0)))) qr)
   (qh (q46 (q6o T) (q3c T) hr (pv 0) (pa_2 (pv 1) (pv 1))))),?_⟩
  refine⟨_,zr,zr,_,zr,ite2 (λh=>?_) (λh=>?_)⟩
  ·rw[if_pos (vi h)]at q;exact⟨_,zr,.hands,o,dx,_,zr,D,qbp .hands,o,zr,⟨dx,D⟩,λz H' s' O Z=>q z H' s' O Z⟩
  ·rw[if_neg (vin h)]at q;exact⟨_,zr,.hands,o,dx,_,zr,D,qbq .hands,_,zr,_,zr,o,_,_,a,a,W,zr,⟨dx,D⟩,hk,J,J,va,va,λz H' s' O Z=>q z H' s' O Z⟩
def qnj(T:Txt K mg)(k:Kd):MDef P w K mg base 5 (clsK mg k) "repeated" ["self","worth","many"] (qab mg k):=by
 cases k with
 | counts=>exact MDef.mono (qbr T) (by decide)
 | costs=>exact qcm T
 | bests m=>exact MDef.mono (qcl T m) (by decide)
 | trusts t=>exact qbs T t
 | truths=>exact qbt T
 | hands=>exact qcn T
def qv9(K:xA):Sp:=λvs H Q _=>∃(x y:V) (d:PyData),vs=[x,y]/\Dat K H d x/\Dat K H d y/\d.depth<=60/\Q (.bl true) H
def qaj(T:Txt K mg):Def P w K mg base 1 "_law_alike" ["_law_found","_law_due_here"] (qv9 K):=by
 refine T.qmr.ok qjb (λvs H Q E h=>?_) λf cdv A outer s H vs Q E hr h=>?_
 ·obtain⟨x,y,d,rfl,_⟩:=h;rfl
 ·obtain⟨x,y,d,rfl,dx,D,dd,q⟩:=h;refine⟨_,(q3f
   (q12 (qp q7n (pv 1) q38 (qq _)) (qg (qh (q4j q7n (pv 0) q38 (qq _)))) qr)
   (q12 (PW.pt (q7c (qp qw5 (qo (q2j K) rfl T.q1t q1n (pa_2 (pv 0) (q4u rfl T.qfy qc4))) (qo (q2j K) rfl T.q1t q1n (pa_2 (pv 1) (q4u rfl T.qfy qc4))) (qq _)) (q5a (qp qw5 (qo (q2j K) rfl T.q1t q1n (pa_2 (pv 0) (q4u rfl T.q8e q5y))) (qo (q2j K) rfl T.q1t q1n (pa_2 (pv 1) (q4u rfl T.q8e q5y))) (qq _))))) (qg (qh q3p)) qr)
   (qh (q4j (ql9 hr.units K) (pv 0) (pv 1) (qq _)))),?_⟩
  by_cases J:y= .non
  ·subst J;cases D
   cases dx
   exact⟨_,zr,zr,_,zr,q1d rfl ⟨_,zr,zr,q⟩⟩
  refine⟨_,zr,zr,_,zr,qk (by simp[J]) ?_⟩;refine⟨_,zr,x,_,d,zr,dx,by decide,_,zr,y,_,d,zr,D,by decide,zr,_,zr,qk (by simp) ?_⟩;refine⟨_,zr,x,_,d,zr,dx,by decide,_,zr,y,_,d,zr,D,by decide,zr,_,zr,qk (by simp) ?_⟩;refine⟨_,zr,_,zr,d,d,dx,D,dd,?_⟩;rw[PySem.SeqAt.eqv_refl _ (Dat.lay _ _ dx)];exact q
def small:Str:="abcdefghijklmnopqrstuvwxyz"
def q9e(fs:Str):List Nat->Bool
 | []=>false
 | c::r=>decide (c∈fs.cps.toList)&&r.all λd=>decide (d∈fur.cps.toList)
def txtB(fs z:Str):Bool:=decide (1<=z.length)&&decide (z.length<=12)&&q9e fs z.cps.toList
def txtD(fs:Str):PyData->Bool
 | .str z=>txtB fs z
 | _=>false
def q4g:PyData->Bool
 | .int _=>true
 | _=>false
def shD:PyData->Prop
 | .str z=>z.length<=200
 | _=>True
def qyo{K:xA}{H:Hp}{d:PyData}{x:V}(h:Dat K H d x):(∃z,d= .str z/\x= .str z)\/ (tyIs (tyD d) "str"=false/\∀fs,txtD fs d=false):=by
 cases h with
 | str z _=>exact .inl ⟨z,rfl,rfl⟩
 | non=>exact .inr ⟨rfl,λ_=>rfl⟩
 | bl _=>exact .inr ⟨rfl,λ_=>rfl⟩
 | int _=>exact .inr ⟨rfl,λ_=>rfl⟩
 | lst _ _=>exact .inr ⟨rfl,λ_=>rfl⟩
 | tup _ _=>exact .inr ⟨rfl,λ_=>rfl⟩
def qm3{fs z:Str}(h:¬ (1<=z.length/\z.length<=12)):txtB fs z=false:=by
 unfold txtB;by_cases h1:1<=z.length
 ·have h2:¬ z.length<=12:=λq=>h ⟨h1,q⟩;simp[h2]
 ·simp[h1]
def qop{fs z:Str}(h1:1<=z.length)(h2:z.length<=12):txtB fs z=q9e fs z.cps.toList:=by
 unfold txtB;simp[h1,h2]
def qfn{z:Str}(h:1<=z.length):∃c r,z.cps.toList=c::r:=by
 have:=q3r z;cases e:z.cps.toList with
 | nil=>rw[e]at this;simp at this;lia
 | cons c r=>exact⟨c,r,rfl⟩
def qva{z:Str}(h:1<=z.length):(cutS z (some 1) none).cps.toList=z.cps.toList.tail:=by
 have e1:HT.sIx z.length 0 (some 1)=1:=by
  have:=HT.sIx_nat z.length 0 1;rw[show ((1:Nat):Int)=1 from rfl]at this;rw[this]
  lia
 have hl:=q3r z;unfold cutS;rw[e1,HT.sIx_none];show ((z.cps.toList.drop 1).take (z.length - 1)).toArray.toList=_;rw[z1g,z0n (by rw[z2h];lia),List.drop_one]
def qvb(K:xA):Sp:=λvs H Q _=>∃x fs d,vs=[x,.str fs]/\Dat K H d x/\shD d/\∀H',Same H H'->Q (.bl (txtD fs d)) H'
def qao(T:Txt K mg):Def P w K mg base 1 "is_text_begun_by" ["thing","first_signs"] (qvb K):=by
 refine T.qbx.ok qam (λvs H Q E h=>?_) λf cdv A outer s H vs Q E hr h=>?_
 ·obtain⟨x,fs,d,rfl,_⟩:=h;rfl
 ·obtain⟨x,fs,d,rfl,hd,hz,k⟩:=h;refine⟨_,(q39
   (q12 (PW.pt (q7c (q3t (q3s (qo (q2j K) rfl T.q1t q1n (pa_2 (pv 0) (q4u rfl T.b_str qzl))))) (q5a (q3t (qtw qk4 qk4 qc (qo (q3l K) rfl T.b_len q4r (pa_1 (pv 0))) (q11i rfl T.qmp)))))) (qg (qh q3p)) qr)
   (qh (q7m (q4j qhx (q1a q92 (pv 0) qc (λ_ _=>rfl)) (pv 1) (by with_unfolding_all rfl)) (q5b (qo (q6l rfl K) rfl T.b_all qb1 (pa_1 (q2d (N:=["sign"]) (caps:=[none]) rfl (by with_unfolding_all rfl) (qzi (q27 qb0 (pv 0) (q1q qc) q3w)) (λ_ _ _ _ _=>(qu (i:=0) (show (["sign"]:xD).Nodup by decide+kernel) rfl (Or.inl rfl))) (λ_ _ _ _ _=>q2u) (λ_ _ _ _ _=>(q4j qhx (pv 0) (qk6 rfl T.qg0) (by with_unfolding_all rfl)))))))))),?_⟩
  rcases qyo hd with ⟨z,rfl,rfl⟩ | ⟨ty,hn⟩
  ·have hz:z.length<=200:=hz;have O:z.length<=sizeLine:=z40 hz (by decide);have no:¬ (1<=z.length/\z.length<=12)->Q (.bl false) H:=λq=>by
    have:=k H (Same.refl H);rw[show txtD fs (.str z)=false from qm3 q]at this;exact this
   refine⟨_,zr,_,_,_,zr,hd,by decide,_,zr,?_⟩;refine qk (show (!tyIs "str" "str")=false by decide) ?_;refine⟨_,zr,_,_,zr,⟨O,zr⟩,_,_,zr,zr,_,zr,?_⟩;refine ite2 (λh1=>?_) (λh1=>?_)
   ·refine⟨_,_,zr,zr,_,zr,?_⟩;refine ite2 (λh2=>?_) (λh2=>?_)
    ·exact no λq=>by simp at h2;lia
    ·have l1:1<=z.length:=by simp at h1;lia
     have l2:z.length<=12:=by simp at h2;lia
     obtain⟨c,r,J⟩:=qfn l1;have et:txtD fs (.str z)=q9e fs z.cps.toList:=qop (fs:=fs) l1 l2;rw[J]at et;refine⟨_,rfl,_,_,c,rfl,rfl,O,(by rw[J];exact q91 (j:=0) rfl),_,rfl,_,_,rfl,rfl,_,rfl,?_⟩;rw[StrLaws.found_one];refine ite2 (λh3=>?_) (λh3=>?_)
     ·refine⟨_,zr,_,zr,_,zr,O,_,zr,λD hD=>?_⟩;have Z:(cutS z (some 1) none).cps.toList=r:=by rw[qva l1,J];rfl
      have hrl:r.length<=12:=by
       have:=q3r z;rw[J,z2i]at this
       lia
      have a0:(cutS z (some 1) none).cps.size=r.length:=by rw[<- Z,z19]
      refine q1u r.length (λi σ' H'=>(∃v,σ'=[v])/\H'=upd H D (.lst ((r.take i).map λc=>V.bl (decide (c∈fur.cps.toList))))) ⟨⟨_,rfl⟩,rfl⟩ (λi σ' H' hi _=>by show i < _;rw[a0];exact hi) (λσ' H' p=>⟨a0.symm,?_⟩) (λi σ' H' hi p x H2 y=>?_)
      ·obtain⟨_,rfl⟩:=p;refine⟨D,r.map λc=>decide (c∈fur.cps.toList),rfl,SqL.of (by rw[qb,z2t,z46];rfl),?_⟩;have:=k (upd H D (.lst ((r.take r.length).map λc=>V.bl (decide (c∈fur.cps.toList))))) (qf hD);rw[et]at this;have e2:q9e fs (c::r)=(r.map λc=>decide (c∈fur.cps.toList)).all id:=by
        show (decide (c∈fs.cps.toList)&&_)=_;rw[h3,z3s,z45];rfl
       rw[e2]at this;exact this
      ·obtain⟨⟨v,rfl⟩,rfl⟩:=p;obtain⟨rfl,c',hc,rfl⟩:=y;have a1:r[i]? =some c':=by rw[<- Z,z0x];exact hc
       refine⟨_,zr,_,_,zr,zr,_,qb,?_,⟨_,zr⟩,?_⟩
       ·rw[z30,z2g];exact q1l (by lia)
       ·rw[q5u,StrLaws.found_one,z3g,a1,z35];rfl
     ·have:=k H (Same.refl H);rw[et]at this;have e2:q9e fs (c::r)=false:=by
       show (decide (c∈fs.cps.toList)&&_)=_;rw[Bool.eq_false_iff.mpr h3,z3d]
      rw[e2]at this;exact this
   ·refine⟨_,zr,iteT ?_⟩;exact no λq=>by simp at h1;lia
  ·refine⟨_,zr,_,_,_,zr,hd,by decide,_,zr,?_⟩;refine q1d (by rw[ty];rfl) (iteT ?_);have:=k H (Same.refl H);rw[hn]at this;exact this
def qyp(K:xA)(fs:Str):Sp:=λvs H Q _=>∃x d,vs=[x]/\Dat K H d x/\shD d/\∀H',Same H H'->Q (.bl (txtD fs d)) H'
def qq3(T:Txt K mg):Def P w K mg base 2 "is_word" ["thing"] (qyp K small):=by
 refine T.qtf.ok qps (λvs H Q E h=>?_) λf cdv A outer s H vs Q E hr h=>?_
 ·obtain⟨x,d,rfl,_⟩:=h;rfl
 ·obtain⟨x,d,rfl,hd,hz,k⟩:=h;refine⟨_,(qg (qh (q11 (qao T) hr rfl (pa_2 (pv 0) (qk6 rfl T.qg2))))),?_⟩;exact⟨_,zr,_,_,d,zr,hd,hz,k⟩
def qvc(K:xA):Sp:=λvs H Q _=>∃x d,vs=[x]/\Dat K H d x/\Q (.bl (q4g d)) H
def q6i(T:Txt K mg):Def P w K mg base 1 "is_whole" ["thing"] (qvc K):=by
 refine T.qqh.ok qnf (λvs H Q E h=>?_) λf cdv A outer s H vs Q E hr h=>?_
 ·obtain⟨x,d,rfl,_⟩:=h;rfl
 ·obtain⟨x,d,rfl,hd,k⟩:=h;refine⟨_,(qg (qh (q7m (qo (q2j K) rfl T.q1t q1n (pa_2 (pv 0) (q4u rfl T.b_int qzm))) (q5b (qz5 (qo (q2j K) rfl T.q1t q1n (pa_2 (pv 0) (q4u rfl T.qfy qc4)))))))),?_⟩;refine⟨_,zr,_,_,_,zr,hd,by decide,_,zr,ite2 (λh1=>?_) (λh1=>?_)⟩
  ·refine⟨_,zr,_,_,_,zr,hd,by decide,_,zr,?_⟩;cases hd <;> first | exact k | (exact absurd h1 z1l)
  ·cases hd <;> first | exact k | (exact absurd rfl h1)
def strD:PyData->Str
 | .str z=>z
 | _=>endW
def intD:PyData->Int
 | .int i=>i
 | _=>0
def setD:PyData->List Str
 | .tuple es=>es.map strD
 | _=>[]
def twB:PyData->Bool
 | .tuple es=>es.all (txtD small)
 | _=>false
def accB:PyData->Bool
 | .list ds=>ds.all twB&&decide (ds.map setD=q3b (ds.map setD))
 | _=>false
def fitB:Kd->PyData->Bool
 | .counts,.int i=>decide (0<=i)
 | .costs,.none=>true
 | .costs,.int _=>true
 | .bests m,.list ds=>decide ((ds.length:Int)<=m)&&(ds.all q4g&&decide (ds.map intD=Tim.srt q1g (ds.map intD)))
 | .trusts t,.int i=>decide (0<=i)&&decide (i<=t)
 | .truths,.bool _=>true
 | .hands,d=>accB d
 | _,_=>false
def okT:PyData->Prop
 | .tuple es=>es.length<=10/\∀x∈es,shD x
 | _=>True
def okF:PyData->Prop
 | .list ds=>ds.length<=2000/\∀e∈ds,okT e
 | _=>True
def qbu{K:xA}{H:Hp}{d:PyData}{x:V}(h:Dat K H d x):(∃i,d= .int i/\x= .int i)\/ (q4g d=false/\∀i,d≠ .int i):=by
 cases h with
 | int i=>exact .inl ⟨i,rfl,rfl⟩
 | non=>exact .inr ⟨rfl,λ_ z=>nomatch z⟩
 | bl _=>exact .inr ⟨rfl,λ_ z=>nomatch z⟩
 | str _ _=>exact .inr ⟨rfl,λ_ z=>nomatch z⟩
 | lst _ _=>exact .inr ⟨rfl,λ_ z=>nomatch z⟩
 | tup _ _=>exact .inr ⟨rfl,λ_ z=>nomatch z⟩
def qoq{K:xA}{H:Hp}{d:PyData}{x:V}(h:Dat K H d x):(∃a xs ds,d= .list ds/\x= .ref a/\SqL K H a xs/\Dats K H ds xs)\/ (tyIs (tyD d) "list"=false/\(∀ds,d≠ .list ds)):=by
 cases h with
 | lst a b=>exact .inl ⟨_,_,_,rfl,rfl,a,b⟩
 | non=>exact .inr ⟨rfl,λ_ z=>nomatch z⟩
 | bl _=>exact .inr ⟨rfl,λ_ z=>nomatch z⟩
 | int _=>exact .inr ⟨rfl,λ_ z=>nomatch z⟩
 | str _ _=>exact .inr ⟨rfl,λ_ z=>nomatch z⟩
 | tup _ _=>exact .inr ⟨rfl,λ_ z=>nomatch z⟩
def qm4{K:xA}{H:Hp}{d:PyData}{x:V}(h:Dat K H d x):(∃a xs ds,d= .tuple ds/\x= .ref a/\SqT K H a xs/\Dats K H ds xs)\/ (tyIs (tyD d) "tuple"=false/\twB d=false):=by
 cases h with
 | tup a b=>exact .inl ⟨_,_,_,rfl,rfl,a,b⟩
 | non=>exact .inr ⟨rfl,rfl⟩
 | bl _=>exact .inr ⟨rfl,rfl⟩
 | int _=>exact .inr ⟨rfl,rfl⟩
 | str _ _=>exact .inr ⟨rfl,rfl⟩
 | lst _ _=>exact .inr ⟨rfl,rfl⟩
theorem qfo{K:xA}{H:Hp}:∀{ds:List PyData} {xs:List V},Dats K H ds xs->ds.all q4g=true->xs=(ds.map intD).map V.int/\ds=(ds.map intD).map PyData.int
 | _,_,.nil,_=>⟨rfl,rfl⟩
 | d::ds,x::xs,.cons h t,e=>by
  rw[List.all_cons,z2m]at e;rcases qbu h with ⟨i,rfl,rfl⟩ | ⟨n,_⟩
  ·obtain⟨a,b⟩:=qfo t e.2;exact⟨by rw[z3k,z3k,<- a];rfl,by rw[z3k,z3k,<- b];rfl⟩
  ·rw[n]at e;exact absurd e.1 z1l
theorem qfp{K:xA}{H:Hp}:∀{es:List PyData} {xs:List V},Dats K H es xs->es.all (txtD small)=true->xs=(es.map strD).map V.str/\es=(es.map strD).map PyData.str/\(∀w∈es.map strD,PyData.strOk w=true/\txtB small w=true)
 | _,_,.nil,_=>⟨rfl,rfl,λ_ z=>nomatch z⟩
 | d::ds,x::xs,.cons h t,e=>by
  rw[List.all_cons,z2m]at e;cases h with
  | str z hz=>
   obtain⟨a,b,c⟩:=qfp t e.2;refine⟨by rw[z3k,z3k,<- a];rfl,by rw[z3k,z3k,<- b];rfl,λw hw=>?_⟩;rcases z3m.mp hw with rfl | hw
   ·exact⟨hz,e.1⟩
   ·exact c w hw
  | non=>exact absurd e.1 z1l
  | bl _=>exact absurd e.1 z1l
  | int _=>exact absurd e.1 z1l
  | lst _ _=>exact absurd e.1 z1l
  | tup _ _=>exact absurd e.1 z1l
theorem qor{K:xA}{H:Hp}:∀{ds:List PyData} {xs:List V},Dats K H ds xs->ds.all twB=true->qca K H xs (ds.map setD)/\ds=(ds.map setD).map dR/\∀s∈ds.map setD,∀w∈s,PyData.strOk w=true/\txtB small w=true
 | _,_,.nil,_=>⟨.nil,rfl,λ_ z=>nomatch z⟩
 | d::ds,x::xs,.cons h t,e=>by
  rw[List.all_cons,z2m]at e;rcases qm4 h with ⟨a,ys,es,rfl,rfl,O,D⟩ | ⟨_,n⟩
  ·obtain⟨b,c,g⟩:=qor t e.2;obtain⟨b1,c1,g1⟩:=qfp D e.1;refine⟨.cons ⟨a,rfl,by rw[b1]at O;exact O⟩ b,?_,λs J=>?_⟩
   ·rw[z3k,z3k,<- c];exact congrArg (· ::ds) (congrArg PyData.tuple c1)
   ·rcases z3m.mp J with rfl | J
    ·exact g1
    ·exact g s J
  ·rw[n]at e;exact absurd e.1 z1l
theorem qin:∀p q:List Str,PyData.eqvAll (p.map .str) (q.map .str)=decide (p=q)
 | [],[]=>by rw[z43,PyData.eqvAll];rfl
 | [],_::_=>by rw[z43,z3k,PyData.eqvAll];rfl
 | _::_,[]=>by rw[z43,z3k,PyData.eqvAll];rfl
 | x::p,y::q=>by
  have es:PyData.eqv (.str x) (.str y)=decide (x=y):=by
   show (x==y)=_;by_cases h:x=y <;> simp[h]
  rw[z3k,z3k,PyData.eqvAll,es,qin p q];by_cases h:x=y
  ·by_cases h2:p=q <;> simp[h,h2]
  ·simp[h]
theorem qio:∀p q:List (List Str),PyData.eqvAll (p.map dR) (q.map dR)=decide (p=q)
 | [],[]=>by rw[z43,PyData.eqvAll];rfl
 | [],_::_=>by rw[z43,z3k,PyData.eqvAll];rfl
 | _::_,[]=>by rw[z43,z3k,PyData.eqvAll];rfl
 | x::p,y::q=>by
  have es:PyData.eqv (dR x) (dR y)=decide (x=y):=by
   unfold dR;rw[PyData.eqv,qin]
  rw[z3k,z3k,PyData.eqvAll,es,qio p q];by_cases h:x=y
  ·by_cases h2:p=q <;> simp[h,h2]
  ·simp[h]
theorem qip:∀p q:List Int,PyData.eqvAll (p.map .int) (q.map .int)=decide (p=q)
 | [],[]=>by rw[z43,PyData.eqvAll];rfl
 | [],_::_=>by rw[z43,z3k,PyData.eqvAll];rfl
 | _::_,[]=>by rw[z43,z3k,PyData.eqvAll];rfl
 | x::p,y::q=>by
  have es:PyData.eqv (.int x) (.int y)=decide (x=y):=by
   show (x==y)=_;by_cases h:x=y <;> simp[h]
  rw[z3k,z3k,PyData.eqvAll,es,qip p q];by_cases h:x=y
  ·by_cases h2:p=q <;> simp[h,h2]
  ·simp[h]
def q10e{z:Str}(h:txtB small z=true):z≠endW:=λe=>by
 subst e;exact absurd h (by decide+kernel)
def q8b(K:xA)(mg:xE)(k:Kd):Sp:=λvs H Q _=>∃(o:Addr) (x:V) (d:PyData),vs=[.ref o,x]/\ByAt mg H o k/\Dat K H d x/\okF d/\∀H',Same H H'->Q (.bl (fitB k d)) H'
def qhd(T:Txt K mg):MDef P w K mg base 2 (cA mg "Counts") "fits" ["self","thing"] (q8b K mg .counts):=by
 refine T.qjv.ok qgm (λvs H Q E h=>?_) λf cdv A outer s H vs Q E hr h=>?_
 ·obtain⟨o,x,d,rfl,_⟩:=h;rfl
 ·obtain⟨o,x,d,rfl,_,hd,_,q⟩:=h;refine⟨_,(qg (qh (q7m (q11 (q6i T) hr rfl (pa_1 (pv 1))) (q5b (q4j q11b (pv 1) qc (qq _)))))),?_⟩;have q:=q H (Same.refl H);refine⟨_,zr,x,d,zr,hd,_,zr,?_⟩;rcases qbu hd with ⟨i,rfl,rfl⟩ | ⟨n,hn⟩
  ·exact q1d rfl ⟨_,zr,_,_,zr,zr,q⟩
  ·refine qk n ?_;have e:fitB .counts d=false:=by
    cases d with
    | int i=>exact absurd rfl (hn i)
    | _=>rfl
   rw[e]at q;exact q
def qjj(T:Txt K mg):MDef P w K mg base 2 (cA mg "Costs") "fits" ["self","thing"] (q8b K mg .costs):=by
 refine T.qmz.ok qj2 (λvs H Q E h=>?_) λf cdv A outer s H vs Q E hr h=>?_
 ·obtain⟨o,x,d,rfl,_⟩:=h;rfl
 ·obtain⟨o,x,d,rfl,_,hd,_,q⟩:=h;refine⟨_,(qg (qh (qw1 (q4j q7n (pv 1) q38 (qq _)) (q5b (q11 (q6i T) hr rfl (pa_1 (pv 1))))))),?_⟩;have q:=q H (Same.refl H);refine⟨_,zr,zr,_,zr,?_⟩;cases hd with
  | non=>exact q1d rfl q
  | bl b=>exact qk rfl ⟨_,rfl,_,_,rfl,.bl b,q⟩
  | int i=>exact qk rfl ⟨_,rfl,_,_,rfl,.int i,q⟩
  | str z hz=>exact qk rfl ⟨_,rfl,_,_,rfl,.str z hz,q⟩
  | lst a b=>exact qk rfl ⟨_,rfl,_,_,rfl,.lst a b,q⟩
  | tup a b=>exact qk rfl ⟨_,rfl,_,_,rfl,.tup a b,q⟩
def qhe(T:Txt K mg)(t:Int):MDef P w K mg base 2 (cA mg "Trusts") "fits" ["self","thing"] (q8b K mg (.trusts t)):=by
  refine T.qju.ok qgq (λvs H Q E h=>?_) λf cdv A outer s H vs Q E hr h=>?_
  · obtain⟨o,x,d,rfl,_⟩:=h
    rfl
  · obtain⟨o,x,d,rfl,⟨dx,hp⟩,hd,_,q⟩:=h
    refine⟨_,(qg (qh (q7m (q11 (q6i T) hr rfl (pa_1 (pv 1))) (q5b (qtv qk4 qk4 qc (pv 1) (qay (pv 0) rfl)))))),?_⟩;have q:=q H (Same.refl H);refine⟨_,zr,x,d,zr,hd,_,zr,?_⟩;rcases qbu hd with ⟨i,rfl,rfl⟩ | ⟨n,hn⟩
    · refine q1d rfl ⟨_,zr,_,_,zr,zr,_,zr,ite2 (λh1=>?_) (λh1=>?_)⟩
      · refine⟨_,zr,o,_,dx,_,_,zr,hp,T.q8s,T.q8f,zr,_,_,zr,zr,?_⟩
        have e:fitB (.trusts t) (.int i)=decide (i<=t):=by
          show (decide (0<=i)&&decide (i<=t))=_;rw[h1,z3s]
        rw[e]at q;exact q
      · have e:fitB (.trusts t) (.int i)=false:=by
          show (decide (0<=i)&&decide (i<=t))=_;rw[Bool.eq_false_iff.mpr h1,z3d]
        rw[e]at q;exact q
    · refine qk n ?_
      have e:fitB (.trusts t) d=false:=by
        cases d with
        | int i=>exact absurd rfl (hn i)
        | _=>rfl
      rw[e]at q;exact q
def qhf(T:Txt K mg):MDef P w K mg base 1 (cA mg "Truths") "fits" ["self","thing"] (q8b K mg .truths):=by
 refine T.qjq.ok qgt (λvs H Q E h=>?_) λf cdv A outer s H vs Q E hr h=>?_
 ·obtain⟨o,x,d,rfl,_⟩:=h;rfl
 ·obtain⟨o,x,d,rfl,_,hd,_,q⟩:=h;refine⟨_,(qg (qh (qo (q2j K) rfl T.q1t q1n (pa_2 (pv 1) (q4u rfl T.qfy qc4))))),?_⟩;have q:=q H (Same.refl H);refine⟨_,zr,x,_,d,zr,hd,by decide,?_⟩;cases hd <;> exact q
def qjk(T:Txt K mg)(m:Int):MDef P w K mg base 2 (cA mg "Bests") "fits" ["self","thing"] (q8b K mg (.bests m)):=by
 refine T.qmk.ok qj6 (λvs H Q E h=>?_) λf cdv A outer s H vs Q E hr h=>?_
 ·obtain⟨o,x,d,rfl,_⟩:=h;rfl
 ·obtain⟨o,x,d,rfl,⟨dx,hp⟩,hd,hz,q⟩:=h;refine⟨_,(q39
   (q12 (PW.pt (q7c (q3t (q3s (qo (q2j K) rfl T.q1t q1n (pa_2 (pv 1) (q4u rfl T.q8e q5y))))) (q5a (qp qw7 (qo (q3l K) rfl T.b_len q4r (pa_1 (pv 1))) (qay (pv 0) rfl) (qq _))))) (qg (qh q3p)) qr)
   (qh (q7m (qo (q6l rfl K) rfl T.b_all qb1 (pa_1 (q2d (N:=["part"]) (caps:=[none]) rfl (by with_unfolding_all rfl) (q18 K (pv 1)) (λ_ _ _ _ _=>(qu (i:=0) (show (["part"]:xD).Nodup by decide+kernel) rfl (Or.inl rfl))) (λ_ _ _ _ _=>q2u) (λ_ _ _ _ _=>(q11 (q6i T) hr rfl (pa_1 (pv 0))))))) (q5b (q4j (ql9 hr.units K) (pv 1) (qo (q5f K) rfl T.q2h q2c (pa_1 (pv 1))) (qq _)))))),?_⟩
  refine⟨_,zr,x,_,d,zr,hd,by decide,_,zr,?_⟩;rcases qoq hd with ⟨a,xs,ds,rfl,rfl,hl,J⟩ | ⟨ty,hn⟩
  ·refine qk (show (!tyIs "list" "list")=false by decide) ?_;have el:=qa3 J;have hz1:ds.length<=2000:=hz.1;refine⟨_,zr,_,_,zr,.inl ⟨_,hl,zr⟩,_,zr,o,_,dx,_,_,zr,hp,T.q4i,T.q5r,zr,_,_,zr,zr,_,zr,?_⟩;rw[<- el];refine ite2 (λh1=>?_) (λh1=>?_)
   ·have q:=q H (Same.refl H);have e:fitB (.bests m) (.list ds)=false:=by
     have:¬ (ds.length:Int)<=m:=Int.not_le.mpr (of_decide_eq_true h1);show (decide ((ds.length:Int)<=m)&&_)=false;rw[z2w this,z3d]
    rw[e]at q;exact q
   ·have hm:(ds.length:Int)<=m:=Int.not_lt.mp λz=>h1 (z3b z);refine⟨_,zr,a,zr,⟨_,hl⟩,λD hD=>?_⟩;refine q1u xs.length (λi σ' H'=>(∃v,σ'=[v])/\Same H H'/\H' D=some (.lst (((ds.take i).map q4g).map V.bl))) ⟨⟨_,zr⟩,qf hD,qb⟩ (λi σ' H' hi p=>?_) (λσ' H' p=>⟨?_,?_⟩) (λi σ' H' hi p x H2 y=>?_)
    ·obtain⟨_,sm,_⟩:=p;exact⟨xs,xs[i],sm.seq hl,z0d hi⟩
    ·obtain⟨_,sm,_⟩:=p;exact⟨xs,sm.seq hl,z47 _⟩
    ·obtain⟨_,sm,e⟩:=p;refine⟨D,ds.map q4g,rfl,SqL.of (by rw[e,<- el,z2t]),_,rfl,?_⟩;have e2:(ds.map q4g).all id=ds.all q4g:=by rw[z45];rfl
     rw[e2];have ef:fitB (.bests m) (.list ds)=(ds.all q4g&&decide (ds.map intD=Tim.srt q1g (ds.map intD))):=by
      show (decide ((ds.length:Int)<=m)&&_)=_;rw[z3b hm,z3s]
     refine ite2 (λh2=>?_) (λh2=>?_)
     ·obtain⟨ex,ed⟩:=qfo J h2;refine⟨_,rfl,_,rfl,a,ds.map intD,rfl,.inl (by rw[<- ex];exact sm.seq hl),λl a0=>?_⟩;have s2:=qf (o:=HO.lst ((Tim.srt q1g (ds.map intD)).map V.int)) a0;have sA:=sm.trans s2;refine⟨.list ((ds.map intD).map .int),.list ((Tim.srt q1g (ds.map intD)).map .int),?_,.lst (SqL.of qb) (qbi _),?_,?_⟩
      ·rw[<- ed];exact Dat.same sA _ _ hd
      ·show PyData.depthAll ((ds.map intD).map .int)+1<=60;rw[qf9];decide
      ·have q:=q _ sA;rw[ef,h2,z3s,<- qip]at q;exact q
     ·have q:=q _ sm;rw[ef,Bool.eq_false_iff.mpr h2,z3d]at q;exact q
    ·obtain⟨⟨v,rfl⟩,sm,e⟩:=p;obtain⟨rfl,hx⟩:=y;obtain⟨d,O,Z⟩:=qa2 (Dats.same sm _ _ J) (hx xs (sm.seq hl));refine⟨_,zr,x,d,zr,Z,_,e,?_,⟨_,zr⟩,sm.set hD,?_⟩
     ·rw[z30,z30,z2g];exact q14 (by lia)
     ·rw[qb,z3g,O,z35,z35];rfl
  ·refine q1d (by rw[ty];rfl) (iteT ?_);have q:=q H (Same.refl H);have e:fitB (.bests m) d=false:=by
    cases d with
    | list ds=>exact absurd rfl (hn ds)
    | _=>rfl
   rw[e]at q;exact q
def q120(K:xA):Sp:=λvs H Q _=>∃(x:V) (d:PyData),vs=[x]/\Dat K H d x/\okT d/\∀H',Same H H'->Q (.bl (twB d)) H'
def qac(T:Txt K mg):Def P w K mg base 3 "is_tuple_of_words" ["thing"] (q120 K):=by
 refine T.qaq.ok qa1 (λvs H Q E h=>?_) λf cdv A outer s H vs Q E hr h=>?_
 ·obtain⟨x,d,rfl,_⟩:=h;rfl
 ·obtain⟨x,d,rfl,hd,hz,q⟩:=h;refine⟨_,(qg (qh (q7m (qo (q2j K) rfl T.q1t q1n (pa_2 (pv 0) (q4u rfl T.q9h q7q))) (q5b (qo (q6l rfl K) rfl T.b_all qb1 (pa_1 (q2d (N:=["part"]) (caps:=[none]) rfl (by with_unfolding_all rfl) (q5x K (pv 0)) (λ_ _ _ _ _=>(qu (i:=0) (show (["part"]:xD).Nodup by decide+kernel) rfl (Or.inl rfl))) (λ_ _ _ _ _=>q2u) (λ_ _ _ _ _=>(q11 (qq3 T) hr rfl (pa_1 (pv 0))))))))))),?_⟩;refine⟨_,zr,x,_,d,zr,hd,by decide,_,zr,?_⟩;rcases qm4 hd with ⟨a,xs,ds,rfl,rfl,Z,O⟩ | ⟨ty,hn⟩
  ·refine q1d (show tyIs "tuple" "tuple"=true by decide) ?_;have el:=qa3 O;have hz1:ds.length<=10:=hz.1;refine⟨_,zr,a,zr,⟨_,Z⟩,λD hD=>?_⟩;refine q1u xs.length (λi σ' H'=>(∃v,σ'=[v])/\Same H H'/\H' D=some (.lst (((ds.take i).map (txtD small)).map V.bl))) ⟨⟨_,zr⟩,qf hD,qb⟩ (λi σ' H' hi p=>?_) (λσ' H' p=>⟨?_,?_⟩) (λi σ' H' hi p x H2 y=>?_)
   ·obtain⟨_,sm,_⟩:=p;exact⟨xs,xs[i],sm.seqT Z,z0d hi⟩
   ·obtain⟨_,sm,_⟩:=p;exact⟨xs,sm.seqT Z,z47 _⟩
   ·obtain⟨_,sm,e⟩:=p;refine⟨D,ds.map (txtD small),rfl,SqL.of (by rw[e,<- el,z2t]),?_⟩;rw[z45];exact q _ sm
   ·obtain⟨⟨v,rfl⟩,sm,e⟩:=p;obtain⟨rfl,hx⟩:=y;obtain⟨d,J,a0⟩:=qa2 (Dats.same sm _ _ O) (hx xs (sm.seqT Z));refine⟨_,zr,x,d,zr,a0,hz.2 d (z18 J),λH3 s3=>⟨_,s3 _ _ e,?_,⟨_,zr⟩,(sm.trans s3).set hD,?_⟩⟩
    ·rw[z30,z30,z2g];exact q1l (by lia)
    ·rw[qb,z3g,J,z35,z35];rfl
  ·refine qk ty ?_;have q:=q H (Same.refl H);rw[hn]at q;exact q
def q10f(K:xA):Sp:=λvs H Q _=>∃(x:V) (d:PyData),vs=[x]/\Dat K H d x/\okF d/\∀H',Same H H'->Q (.bl (accB d)) H'
def qm5(T:Txt K mg):Def P w K mg base 4 "is_accord" ["thing"] (q10f K):=by
 refine T.qnm.ok qlo (λvs H Q E h=>?_) λf cdv A outer s H vs Q E hr h=>?_
 ·obtain⟨x,d,rfl,_⟩:=h;rfl
 ·obtain⟨x,d,rfl,hd,hz,q⟩:=h;refine⟨_,(q39
   (q12 (PW.pt (q7c (q3t (q3s (qo (q2j K) rfl T.q1t q1n (pa_2 (pv 0) (q4u rfl T.q8e q5y))))) (q5a (q3t (q3s (qo (q6l rfl K) rfl T.b_all qb1 (pa_1 (q2d (N:=["part"]) (caps:=[none]) rfl (by with_unfolding_all rfl) (q18 K (pv 0)) (λ_ _ _ _ _=>(qu (i:=0) (show (["part"]:xD).Nodup by decide+kernel) rfl (Or.inl rfl))) (λ_ _ _ _ _=>q2u) (λ_ _ _ _ _=>(q11 (qac T) hr rfl (pa_1 (pv 0)))))))))))) (qg (qh q3p)) qr)
   (qh (q4j (ql9 hr.units K) (pv 0) (q11 (qa4 T) hr rfl (pa_1 (pv 0))) (qq _)))),?_⟩
  refine⟨_,zr,x,_,d,zr,hd,by decide,_,zr,?_⟩;rcases qoq hd with ⟨a,xs,ds,rfl,rfl,hl,J⟩ | ⟨ty,hn⟩
  ·refine qk (show (!tyIs "list" "list")=false by decide) ?_;have el:=qa3 J;have hz1:ds.length<=2000:=hz.1;refine⟨_,zr,a,zr,⟨_,hl⟩,λD hD=>?_⟩;refine q1u xs.length (λi σ' H'=>(∃v,σ'=[v])/\Same H H'/\H' D=some (.lst (((ds.take i).map twB).map V.bl))) ⟨⟨_,zr⟩,qf hD,qb⟩ (λi σ' H' hi p=>?_) (λσ' H' p=>⟨?_,?_⟩) (λi σ' H' hi p x H2 y=>?_)
   ·obtain⟨_,sm,_⟩:=p;exact⟨xs,xs[i],sm.seq hl,z0d hi⟩
   ·obtain⟨_,sm,_⟩:=p;exact⟨xs,sm.seq hl,z47 _⟩
   ·obtain⟨_,sm,e⟩:=p;refine⟨D,ds.map twB,rfl,SqL.of (by rw[e,<- el,z2t]),_,rfl,?_⟩;have e2:(ds.map twB).all id=ds.all twB:=by rw[z45];rfl
    rw[e2];have ef:accB (.list ds)=(ds.all twB&&decide (ds.map setD=q3b (ds.map setD))):=rfl;cases h2:ds.all twB with
    | true=>
     refine qk rfl ?_;obtain⟨ts,ed,ok⟩:=qor J h2;refine⟨_,rfl,_,rfl,a,xs,ds.map setD,rfl,sm.seq hl,qa6 (qa5 (λ_ _ z=>sm.seqT z) ts),by rw[z30];lia,λr hr=>?_,λp zs R H3 s3 hp ep tp aR uR=>?_⟩
     ·refine⟨?_,λz=>q10e ((ok r hr _ z).2) rfl⟩;obtain⟨e,he,rfl⟩:=z44.mp hr;have ho:=hz.2 e he;cases e with
      | tuple es=>
       show (es.map strD).length<=30;rw[z30];exact z40 ho.1 (by decide)
      | _=>exact z4a _
     ·have eR:=q88 aR uR;have a0:∀r∈R,∀w∈r,PyData.strOk w=true:=λr hr w hw=>by
       obtain⟨s,hs,z⟩:=qfd aR uR r hr;exact(ok s hs w (z w hw)).1
      refine⟨.list ((ds.map setD).map dR),.list (R.map dR),?_,.lst (SqL.of ep) (qm1 tp a0),?_,?_⟩
      ·rw[<- ed];exact Dat.same (sm.trans s3) _ _ hd
      ·exact z40 (z2q (qoj _)) (by decide)
      ·have q:=q _ (sm.trans s3);rw[ef,h2,z3s,<- eR,<- qio]at q;exact q
    | false=>
     refine q1d rfl ?_;have q:=q _ sm;rw[ef,h2,z3d]at q;exact q
   ·obtain⟨⟨v,rfl⟩,sm,e⟩:=p;obtain⟨rfl,hx⟩:=y;obtain⟨d,O,Z⟩:=qa2 (Dats.same sm _ _ J) (hx xs (sm.seq hl));refine⟨_,zr,x,d,zr,Z,hz.2 d (z18 O),λH3 s3=>⟨_,s3 _ _ e,?_,⟨_,zr⟩,(sm.trans s3).set hD,?_⟩⟩
    ·rw[z30,z30,z2g];exact q14 (by lia)
    ·rw[qb,z3g,O,z35,z35];rfl
  ·refine q1d (by rw[ty];rfl) (iteT ?_);have q:=q H (Same.refl H);have e:accB d=false:=by
    cases d with
    | list ds=>exact absurd rfl (hn ds)
    | _=>rfl
   rw[e]at q;exact q
def qjl(T:Txt K mg):MDef P w K mg base 5 (cA mg "Hands") "fits" ["self","thing"] (q8b K mg .hands):=by
 refine T.qmx.ok qj8 (λvs H Q E h=>?_) λf cdv A outer s H vs Q E hr h=>?_
 ·obtain⟨o,x,d,rfl,_⟩:=h;rfl
 ·obtain⟨o,x,d,rfl,_,hd,hz,q⟩:=h;exact⟨_,(qg (qh (q11 (qm5 T) hr rfl (pa_1 (pv 1))))),_,zr,x,d,zr,hd,hz,q⟩
def qyq(T:Txt K mg)(k:Kd):MDef P w K mg base 5 (clsK mg k) "fits" ["self","thing"] (q8b K mg k):=by
 cases k with
 | counts=>exact MDef.mono (qhd T) (by decide)
 | costs=>exact MDef.mono (qjj T) (by decide)
 | bests m=>exact MDef.mono (qjk T m) (by decide)
 | trusts t=>exact MDef.mono (qhe T t) (by decide)
 | truths=>exact MDef.mono (qhf T) (by decide)
 | hands=>exact qjl T
def qvd{W:xD}{k:Kd}{a:Wo}(g:qx W k a)(hk:k.ok)(hW:∀w∈W,txtB small w=true):fitB k (dW a)=true:=by
 cases g with
 | counts h=>exact z3b h
 | costN i=>rfl
 | costX=>rfl
 | @bests m l h hl=>
  have D:(l.map PyData.int).map intD=l:=by rw[z46];exact z4b _
  have e1:(l.map PyData.int).all q4g=true:=by rw[z45];exact z2n.mpr λ_ _=>rfl
  show (decide (((l.map PyData.int).length:Int)<=m)&&((l.map PyData.int).all q4g&&decide ((l.map PyData.int).map intD=Tim.srt q1g ((l.map PyData.int).map intD))))=true;rw[D,e1,z30,z3b (show l=Tim.srt q1g l from q29.uniq (Tim.q13 q1g l).symm h (Tim.q23 q29 l)),z3s,Bool.and_true];have:1<=m:=hk.1;exact z3b (by lia)
 | trusts h h2=>
  show (decide _&&decide _)=true;rw[z3b h,z3b h2];rfl
 | truths b=>rfl
 | @hands R a o=>
  have D:(R.map dR).map setD=R:=by
   rw[z46]
   conv=>rhs;rw[<- z4b R]
   refine z1f λr _=>?_;show (r.map PyData.str).map strD=r;rw[z46];exact z4b _
  have e1:(R.map dR).all twB=true:=by
   rw[z45];refine z2n.mpr λr hr=>?_;show (r.map PyData.str).all (txtD small)=true;rw[z45];exact z2n.mpr λw hw=>hW w (o.sub r hr w hw)
  show ((R.map dR).all twB&&decide ((R.map dR).map setD=q3b ((R.map dR).map setD)))=true;rw[D,e1,z3b (qpz a).symm];rfl
def qsp{W:xD}{k:Kd}{a:Wo}(g:qx W k a)(hk:k.ok)(hW:∀w∈W,txtB small w=true):okF (dW a):=by
 cases g with
 | counts h=>trivial
 | costN i=>trivial
 | costX=>trivial
 | @bests m l h hl=>
  have:m<=9:=hk.2;refine⟨by rw[z30];lia,λe D=>?_⟩;obtain⟨i,_,rfl⟩:=z44.mp D;trivial
 | trusts h h2=>trivial
 | truths b=>trivial
 | @hands R a o=>
  refine⟨by rw[z30];exact z40 (o.cards a) (by decide),λe D=>?_⟩;obtain⟨r,hr,rfl⟩:=z44.mp D;refine⟨by rw[z30];exact(o.len hr (a.norm r hr)).1,λx hx=>?_⟩;obtain⟨w,hw,rfl⟩:=z44.mp hx;have t:=hW w (o.sub r hr w hw);show w.length<=200
  apply Classical.byContradiction
  intro z;rw[qm3 (λq=>z (z40 q.2 (by decide)))]at t;cases t
def Ws(z:Str):Prop:=∀c r,z.cps.toList=c::r->c∈small.cps.toList
def q10g:Ws "":=λc r h=>by
 have:(("":Str).cps.toList:List Nat)=[]:=by decide+kernel
 rw[this]at h;cases h
def qm6{d:Nat}(h:d∈small.cps.toList):Ws ⟨#[d]⟩:=λc r e=>by
 injection (show [d]=c::r from e) with e1 e2;subst e1;exact h
def qyr{z:Str}(h:z.cps.toList=[]):z="":=by
 cases z with | mk a=>
  have ha:a.toList=[]:=h;have:a=#[]:=Array.toList_eq_nil_iff.mp ha;subst this;decide+kernel
def q9f{a b:Str}(h:Ws a)(k:a.cps.toList=[]->Ws b):Ws (a++b):=λc r e=>by
 rw[qdt]at e;cases D:a.cps.toList with
 | nil=>
  rw[D,List.nil_append]at e;exact k D c r e
 | cons x xs=>
  rw[D,List.cons_append]at e;injection e with e1 _;subst e1;exact h _ _ D
def qfq{z:Str}{hi:Option Int}(h:Ws z):Ws (cutS z none hi):=λc r e=>by
 unfold cutS at e;rw[z1g,HT.sIx_none,List.drop_zero,Nat.sub_zero]at e;cases D:z.cps.toList with
 | nil=>rw[D,List.take_nil]at e;cases e
 | cons x xs=>
  rw[D]at e;cases n:HT.sIx z.length z.length hi with
  | zero=>rw[n,List.take_zero]at e;cases e
  | succ m=>
   rw[n,List.take_succ_cons]at e;injection e with e1 _;subst e1;exact h _ _ D
def qsq(a:Str)(d:Nat):(a++(⟨#[d]⟩:Str)).cps.toList≠ []:=λe=>by
 rw[qdt]at e;exact absurd (List.append_eq_nil_iff.mp e).2 (by intro z;cases z)
def q10h{z:Str}{m:Int}(h1:1<=z.length)(hm:1<=m):(cutS z none (some m)).cps.toList≠ []:=λe=>by
 have:=qof h1 hm;rw[<- q3r,e]at this;exact absurd this (by decide)
def qve{y:Str}(h:1<=y.length):(cutS y none (some (-1))).length<=y.length - 1:=by
 rw[<- q3r];unfold cutS;rw[z1g,z2g,HT.sIx_none,List.drop_zero,Nat.sub_zero];refine z40 (Nat.min_le_left _ _) ?_;have:HT.sIx y.length y.length (some (-1))=y.length - 1:=by
  unfold HT.sIx;simp
  lia
 lia
def qys(z:Str){m:Int}(h:0<=m):((cutS z none (some m)).length:Int)<=m:=by
 obtain⟨k,rfl⟩:=z0m h;rw[<- q3r];unfold cutS;rw[z1g,z2g,HT.sIx_none,HT.sIx_nat,List.drop_zero,Nat.sub_zero];have:=Nat.min_le_left (min k z.length) z.cps.toList.length;have:=Nat.min_le_left k z.length
 lia
def qvf(z:Str){lo hi:Int}(h0:0<=lo)(h1:lo<=hi):((cutS z (some lo) (some hi)).length:Int)<=hi - lo:=by
 obtain⟨a,rfl⟩:=z0m h0;obtain⟨b,rfl⟩:=z0m (z3v h0 h1);rw[<- q3r];unfold cutS;rw[z1g,z2g,HT.sIx_nat,HT.sIx_nat];refine Int.le_trans (Int.ofNat_le.mpr (Nat.le_trans (Nat.min_le_left ..) (minCut a b z.length))) ?_;lia
def q121:∀k:Nat,k < 26->∃d,fur.cps.toList[k]? =some d/\d∈small.cps.toList:=by decide+kernel
def qe6(c:Int):∃d,atI fur.cps.toList (c%26)=some d/\d∈fur.cps.toList/\d∈small.cps.toList:=by
 have h0:0<=c%26:=z39 _ (by decide);have h1:c%26 < 26:=z1w _ (by decide);obtain⟨k,hk⟩:=z0m h0;rw[hk];obtain⟨d,hd,hs⟩:=q121 k (by lia);exact⟨d,q91 hd,z18 hd,hs⟩
def q10i{z:Str}(h:Wz 12 z)(h1:1<=z.length)(hs:Ws z):txtB small z=true:=by
 rw[qop h1 h.1];obtain⟨c,r,e⟩:=qfn h1;rw[e];show (decide _&&_)=true;rw[z3b (hs c r e),z3s];exact z2n.mpr λd hd=>z3b (h.2 d (by rw[e];exact z16 _ hd))
def qsr:Sp:=λvs H Q _=>∃c m:Int,vs=[.int c,.int m]/\1<=m/\m<=40/\∀z H',Same H H'->Wz m.toNat z->z.length=m.toNat->Ws z->Q (.str z) H'
def qak(T:Txt K mg):Def P w K mg base 2 "_law_word" ["_law_cell","_law_size"] qsr:=by
 refine T.qno.ok q3h (λvs H Q E h=>?_) λf cdv A outer s H vs Q E hr h=>?_
 ·obtain⟨c,m,rfl,_⟩:=h;rfl
 ·obtain⟨c,m,rfl,m0,m1,k⟩:=h;refine⟨_,(qc5
   (qm (i:=2) q3h.nd rfl (Or.inl rfl) qen)
   (qm (i:=3) q3h.nd rfl (Or.inl rfl) qen)
   (q1o PassesOwn.never rfl (q18 K (q11 (q3i T) hr rfl (pa_2 (pv 0) (pv 1)))) (qu (i:=4) q3h.nd rfl (Or.inl rfl)) (qg (q12 (qp q1f (pv 3) qen (qq _)) (qg (qm (i:=3) q3h.nd rfl (Or.inl rfl) (q1a q92 (pv 2) (ql q16 (pv 4) qc) (λ_ _=>rfl)))) (qg (qm (i:=3) q3h.nd rfl (Or.inl rfl) (ql q7d (pv 3) (q1a q92 (pv 2) (ql q16 (pv 4) qc) (λ_ _=>rfl))))))))
   (qh (pv 3))),?_⟩
  refine⟨_,zr,_,zr,c,m,zr,by lia,by lia,λp ns H1 s1 hp hl _ hn=>?_⟩;refine⟨p,rfl,⟨_,SqL.of hp⟩,q20 (xs:=ns.map V.int) (λi σ H'=>H'=H1/\∃(v:Option V) (z:Str),σ=[some (.int c),some (.int m),some (.str fur),some (.str z),v]/\Wz i z/\z.length=i/\Ws z) ⟨rfl,_,"",rfl,⟨z47 _,λc hc=>nomatch hc⟩,rfl,q10g⟩ (λi σ H' _ z=>by rw[z.1];exact SqL.of hp) ?_ ?_⟩
  ·rintro i x σ H' hx ⟨rfl,v,z,rfl,hw,hz,O⟩;rw[z22]at hx;obtain⟨n,J,rfl⟩:=z0q.mp hx;have il:i < ns.length:=(z07.mp J).1;refine⟨_,zr,zr,_,zr,ite2 (λh1=>?_) (λh1=>?_)⟩
   ·obtain⟨d,hd,D,Z⟩:=qe6 n;have e:z="":=by
     have:=of_decide_eq_true h1;injection this
    have i0:i=0:=by rw[<- hz,e];rfl
    refine⟨_,rfl,_,rfl,_,_,rfl,rfl,(by show (0:Int) < 26;decide),_,_,d,rfl,rfl,q86,hd,?_⟩;exact⟨rfl,_,_,rfl,(Wz.one D).le (by lia),by rw[i0];rfl,qm6 Z⟩
   ·obtain⟨d,hd,D⟩:=qs6 n (m:=36) (by decide) (by decide);refine⟨_,rfl,_,rfl,_,rfl,_,_,rfl,rfl,(by show (0:Int) < 36;decide),_,_,d,rfl,rfl,q86,hd,_,_,rfl,rfl,?_,?_⟩
    ·exact z40 (Nat.add_le_add (Nat.le_of_eq hz) (q7h d)) (z40 (show i+1<=1000 by lia) (by decide))
    ·exact⟨rfl,_,_,rfl,hw.app (Wz.one D),by rw[q3z,hz];rfl,q9f O λe=>absurd (show decide (V.str z=V.str "")=true from z3b (congrArg V.str (qyr e))) h1⟩
  ·rintro σ H' ⟨rfl,v,z,rfl,hw,hz,O⟩;rw[z30,hl]at hw hz;exact⟨_,zr,k z _ s1 hw hz O⟩
def qss:Sp:=λvs H Q _=>∃c m:Int,vs=[.int c,.int m]/\0<=m/\m<=20/\∀p (ws:xD) H',Same H H'->H' p=some (.lst (ws.map V.str))->ws.length=m.toNat->H p=none->(∀z∈ws,Wz 12 z/\1<=z.length/\Ws z)->Q (.ref p) H'
def qhg(T:Txt K mg):Def P w K mg base 3 "_law_words" ["_law_cell","_law_many"] qss:=by
 refine T.qmn.ok q1s (λvs H Q E h=>?_) λf cdv A outer s H vs Q E hr h=>?_
 ·obtain⟨c,m,rfl,_⟩:=h;rfl
 ·obtain⟨c,m,rfl,m0,m1,k⟩:=h;refine⟨_,(qk8
   (qm (i:=2) q1s.nd rfl (Or.inl rfl) qen)
   (qm (i:=3) q1s.nd rfl (Or.inl rfl) (q11 (q3i T) hr rfl (pa_2 (pv 0) qc)))
   (qm (i:=4) q1s.nd rfl (Or.inl rfl) (q11 (qak T) hr rfl (pa_2 (pv 0) qc)))
   (qm (i:=5) q1s.nd rfl (Or.inl rfl) (ql q1j qc (ql q16 (q1a (qy K) (pv 3) qc (λ_ _=>rfl)) qc)))
   (qm (i:=6) q1s.nd rfl (Or.inl rfl) (ql q16 (q1a (qy K) (pv 3) qc (λ_ _=>rfl)) (pv 5)))
   (qm (i:=7) q1s.nd rfl (Or.inl rfl) (q1p q26))
   (q1o PassesOwn.never rfl (q55 rfl T.q7k (pa_1 (pv 1))) (qu (i:=8) q1s.nd rfl (Or.inl rfl)) (qg (q12 (qp q1f (ql q16 (q1a (qy K) (pv 3) qc (λ_ _=>rfl)) qc) qc (qq _)) (q39
   (qm (i:=9) q1s.nd rfl (Or.inl rfl) (q11 (qak T) hr rfl (pa_2 (ql q1j (q1a (qy K) (pv 3) qc (λ_ _=>rfl)) (ql q5d qc (pv 8))) (ql q1j qc (ql q16 (ql q1j (q1a (qy K) (pv 3) qc (λ_ _=>rfl)) (ql q5d qc (pv 8))) qc)))))
   (q2i (q43 z0l z0g z0h q2w (pv 7) (pa_1 (ql q7d (q27 qb0 (pv 9) q3w (q1q (qw4 qqx qc))) (q1a q92 (pv 2) (ql q16 (ql q1j (q1a (qy K) (pv 3) qc (λ_ _=>rfl)) (pv 8)) qc) (λ_ _=>rfl))))))) (qg (q12 (qp q1f (ql q16 (q1a (qy K) (pv 3) qc (λ_ _=>rfl)) qc) qc (qq _)) (qg (q2i (q43 z0l z0g z0h q2w (pv 7) (pa_1 (q27 qb0 (pv 4) q3w (q1q (ql q1j qc (ql q16 (ql q1j (q1a (qy K) (pv 3) qc (λ_ _=>rfl)) (pv 8)) qc)))))))) (q3f
   (qm (i:=10) q1s.nd rfl (Or.inl rfl) (q1a q92 (pv 2) (ql q16 (ql q1j (q1a (qy K) (pv 3) qc (λ_ _=>rfl)) (pv 8)) qc) (λ_ _=>rfl)))
   (q12 (qp q1f (pv 6) qc (qq _)) (qg (qm (i:=10) q1s.nd rfl (Or.inl rfl) (q1a q92 (pv 2) (ql q16 (ql q1j (q1a (qy K) (pv 3) qc (λ_ _=>rfl)) (pv 8)) qc) (λ_ _=>rfl)))) qr)
   (q2i (q43 z0l z0g z0h q2w (pv 7) (pa_1 (ql q7d (ql q7d (q27 qb0 (pv 4) q3w (q1q (pv 6))) (pv 10)) (q27 qb0 (pv 4) (q1q (ql q1j (pv 6) qc)) (q1q (pv 5)))))))))))))
   (qh (pv 7))),?_⟩
  refine⟨_,zr,c,4,zr,by decide,by decide,λp ns H1 s1 hp hl _ hn=>?_⟩;refine⟨_,zr,c,12,zr,by decide,by decide,λz H2 s2 hz hzl a8=>?_⟩;have a5:=s2 _ _ hp;have hl4:ns.length=4:=hl;have a0:atI (ns.map V.int) 0=some (V.int (ns.getD 0 0)):=q1w (k:=0) (by lia);have a1:atI (ns.map V.int) 1=some (V.int (ns.getD 1 0)):=q1w (k:=1) (by lia);have a2:atI (ns.map V.int) 2=some (V.int (ns.getD 2 0)):=q1w (k:=2) (by lia);have a3:atI (ns.map V.int) 3=some (V.int (ns.getD 3 0)):=q1w (k:=3) (by lia);generalize ns.getD 0 0=J at*;generalize ns.getD 1 0=Z at*;generalize ns.getD 2 0=n2 at*;generalize ns.getD 3 0=n3 at*;refine⟨_,rfl,_,_,_,_,rfl,rfl,SqL.of a5,a0,_,_,rfl,rfl,(by show (0:Int) < 12;decide),_,_,rfl,rfl,?_⟩;refine⟨_,rfl,_,_,_,_,rfl,rfl,SqL.of a5,a1,_,rfl,_,_,rfl,rfl,(by show (0:Int) < 1+J%12;lia),?_⟩;refine⟨by decide,λq hq=>?_⟩;have s3:=qf (o:=HO.lst []) hq;have sz:z.length<=sizeLine:=hz.size (by decide);refine⟨_,rfl,_,rfl,by lia,by lia,q8j (lo:=0) (n:=m.toNat) (λi σ H'=>Same H2 H'/\(∃ws:List Str,H' q=some (.lst (ws.map V.str))/\ws.length=i/\∀y∈ws,Wz 12 y/\1<=y.length/\Ws y)/\∃(v1 v2 v3:Option V),σ=[some (.int c),some (.int m),some (.str fur),some (.ref p),some (.str z),some (.int (1+J%12)),some (.int (Z%(1+J%12))),some (.ref q),v1,v2,v3])
   ⟨s3,⟨[],qb,rfl,λ_ z=>nomatch z⟩,_,_,_,rfl⟩ ?_ ?_⟩
  ·rintro i σ H' hi ⟨sm,⟨ws,hw,wl,a6⟩,v1,v2,v3,rfl⟩;have D:=sm _ _ a5;have lw:ws.length < sizeLine:=by rw[wl];exact q1l (by lia)
   have fin:∀(y:Str) (H3:Hp),Same H' H3->Wz 12 y->1<=y.length->Ws y->Same H2 (upd H3 q (.lst (ws.map V.str++ [V.str y])))/\∃a9:List Str,upd H3 q (.lst (ws.map V.str++ [V.str y])) q=some (.lst (a9.map V.str))/\a9.length=i+1/\∀x∈a9,Wz 12 x/\1<=x.length/\Ws x:=λy H3 s4 hy b7 a7=>by
    refine⟨(sm.trans s4).set hq,ws++ [y],by rw[qb,z35];rfl,by rw[z1o,wl];rfl,λx hx=>?_⟩;rcases z2u.mp hx with hx | hx
    ·exact a6 x hx
    ·rw[z1m.mp hx];exact⟨hy,b7,a7⟩
   refine⟨_,rfl,_,_,_,_,rfl,rfl,SqL.of D,a2,_,_,rfl,rfl,(by show (0:Int) < 4;decide),rfl,_,rfl,ite2 (λh1=>?_) (λh1=>?_)⟩
   ·refine⟨_,rfl,_,_,_,_,rfl,rfl,SqL.of D,a3,_,rfl,_,_,rfl,rfl,.inl ⟨by decide,by decide⟩,_,_,rfl,rfl,_,rfl,_,_,_,_,rfl,rfl,SqL.of D,a1,_,rfl,_,_,rfl,rfl,.inl ⟨by decide,by decide⟩,_,_,rfl,rfl,_,_,rfl,rfl,(by show (0:Int) < 12;decide),_,_,rfl,rfl,_,_,rfl,by lia,by lia,λy H3 s4 hy hyl a7=>?_⟩;obtain⟨d,hd,a4,b6⟩:=qe6 (J+(0+(i:Int)));have O:Wz 12 y:=hy.le (by lia);have yz:y.length<=sizeLine:=O.size (by decide);have cy:=O.cut none (some (-1));refine⟨_,rfl,.inl ⟨rfl,_,SqL.of (s4 _ _ hw)⟩,_,rfl,_,rfl,_,rfl,_,rfl,yz,_,rfl,_,rfl,_,_,_,_,rfl,rfl,SqL.of (s4 _ _ D),a0,_,rfl,_,_,rfl,rfl,_,_,rfl,rfl,(by show (0:Int) < 26;decide),_,_,d,rfl,rfl,q86,hd,_,_,rfl,rfl,z40 (Nat.add_le_add cy.1 (q7h d)) (by decide),?_⟩;refine⟨_,_,_,rfl,rfl,s4 _ _ hw,by rw[z30];exact lw,?_⟩;obtain⟨f1,f2⟩:=fin _ H3 s4 ⟨by rw[q3z];exact z40 (Nat.add_le_add (qve (by lia)) (q7h d)) (by have:=O.1;lia),(cy.app (Wz.one a4)).2⟩ (by rw[q3z];exact Nat.le_add_left 1 _) (q9f (qfq a7) λ_=>qm6 b6);exact⟨f1,f2,_,_,_,zr⟩
   ·refine⟨_,rfl,_,_,_,_,rfl,rfl,SqL.of D,a2,_,_,rfl,rfl,(by show (0:Int) < 4;decide),rfl,_,rfl,ite2 (λh2=>?_) (λh2=>?_)⟩
    ·have cz:=hz.cut none (some (1+(J+(0+(i:Int)))%12));refine⟨_,rfl,.inl ⟨rfl,_,SqL.of hw⟩,_,rfl,_,rfl,_,_,_,_,rfl,rfl,SqL.of D,a0,_,rfl,_,_,rfl,rfl,_,_,rfl,rfl,(by show (0:Int) < 12;decide),_,_,rfl,rfl,_,rfl,_,rfl,sz,?_⟩;refine⟨_,_,_,rfl,rfl,hw,by rw[z30];exact lw,?_⟩;obtain⟨f1,f2⟩:=fin _ H' (Same.refl _) cz (qof (by lia) (by lia)) (qfq a8);exact⟨f1,f2,_,_,_,zr⟩
    ·obtain⟨d,hd,a4⟩:=qs6 (n3+(0+(i:Int))) (m:=36) (by decide) (by decide);obtain⟨d',b5,b2,b3⟩:=qe6 (n3+(0+(i:Int)));have b8:0<=Z%(1+J%12):=z39 _ (by lia);have n11:Z%(1+J%12) < 1+J%12:=z1w _ (by lia);have b4:∀x:Nat,(cutS z none (some (Z%(1+J%12)))++(⟨#[x]⟩:Str)++cutS z (some (Z%(1+J%12)+1)) (some (1+J%12))).length<=12:=λx=>by
      rw[q3z,q3z];have q1:=qys z b8;have q2:=qvf z (lo:=Z%(1+J%12)+1) (hi:=1+J%12) (by lia) (by lia);have q3:=q7h x
      lia
     have c1:=hz.cut none (some (Z%(1+J%12)));have c2:=hz.cut (some (Z%(1+J%12)+1)) (some (1+J%12));refine⟨_,rfl,_,rfl,_,_,_,_,rfl,rfl,SqL.of D,a3,_,rfl,_,_,rfl,rfl,_,_,rfl,rfl,(by show (0:Int) < 36;decide),_,_,d,rfl,rfl,q86,hd,?_⟩;refine⟨_,zr,zr,_,zr,ite2 (λh3=>?_) (λh3=>?_)⟩
     ·refine⟨_,rfl,_,rfl,_,_,_,_,rfl,rfl,SqL.of D,a3,_,rfl,_,_,rfl,rfl,_,_,rfl,rfl,(by show (0:Int) < 26;decide),_,_,d',rfl,rfl,q86,b5,?_⟩;have ca:=c1.app (Wz.one b2);refine⟨_,zr,.inl ⟨zr,_,SqL.of hw⟩,_,zr,_,zr,_,zr,_,zr,sz,_,zr,_,_,zr,zr,z40 (Nat.add_le_add c1.1 (q7h d')) (by decide),?_⟩;refine⟨_,zr,_,zr,_,_,zr,zr,_,zr,_,zr,_,zr,_,zr,sz,_,_,zr,zr,z40 (Nat.add_le_add ca.1 c2.1) (by decide),?_⟩;refine⟨_,_,_,rfl,rfl,hw,by rw[z30];exact lw,?_⟩;obtain⟨f1,f2⟩:=fin _ H' (Same.refl _) ⟨b4 d',(ca.app c2).2⟩ (by rw[q3z,q3z];exact z40 (Nat.le_add_left 1 _) (Nat.le_add_right _ _)) (q9f (q9f (qfq a8) λ_=>qm6 b3) λe=>absurd e (qsq _ _));exact⟨f1,f2,_,_,_,zr⟩
     ·have ca:=c1.app (Wz.one a4);refine⟨_,zr,.inl ⟨zr,_,SqL.of hw⟩,_,zr,_,zr,_,zr,_,zr,sz,_,zr,_,_,zr,zr,z40 (Nat.add_le_add c1.1 (q7h d)) (by decide),?_⟩;refine⟨_,zr,_,zr,_,_,zr,zr,_,zr,_,zr,_,zr,_,zr,sz,_,_,zr,zr,z40 (Nat.add_le_add ca.1 c2.1) (by decide),?_⟩;refine⟨_,_,_,rfl,rfl,hw,by rw[z30];exact lw,?_⟩;obtain⟨f1,f2⟩:=fin _ H' (Same.refl _) ⟨b4 d,(ca.app c2).2⟩ (by rw[q3z,q3z];exact z40 (Nat.le_add_left 1 _) (Nat.le_add_right _ _)) (q9f (q9f (qfq a8) λe=>absurd e (q10h (by lia) (by have:=vin h3;lia))) λe=>absurd e (qsq _ _));exact⟨f1,f2,_,_,_,zr⟩
  ·rintro σ H' ⟨sm,⟨ws,hw,wl,a6⟩,v1,v2,v3,rfl⟩;exact⟨_,zr,k q ws H' ((s1.trans s2).trans sm) hw wl ((s1.trans s2).free hq) a6⟩
def rkP(k:Kd)(g:Str->Wo)(p:xD):Wo:=p.foldl (λa n=>boW k a (g n)) (unW k)
def rkS(k:Kd)(l:List Wo):Wo:=l.foldl (eiW k) (noW k)
def rkT(k:Kd)(g:Str->Wo)(p:List Str×Int):Wo:=repW k (rkP k g p.1) p.2
def rkY(k:Kd)(g:Str->Wo)(Y:Tab):Wo:=rkS k (Y.map (rkT k g))
section
variable{W:xD}{k:Kd}{g:Str->Wo}
def q4h(p:xD)(n:Str):rkP k g (p++ [n])=boW k (rkP k g p) (g n):=by
 unfold rkP;rw[z2f];rfl
def qad(hW:HOk W)(hk:k.ok)(hg:∀z,qx W k (g z))(p:xD):qx W k (rkP k g p):=by
 unfold rkP;have:∀(p:xD) (a:Wo),qx W k a->qx W k (p.foldl (λa n=>boW k a (g n)) a):=λp=>by
  induction p with
  | nil=>exact λa h=>h
  | cons n p ih=>exact λa h=>ih _ (q109 h (hg n))
 exact this p _ (q108 hW hk)
def qvg(hW:HOk W)(hk:k.ok){l:List Wo}(h:∀a∈l,qx W k a):qx W k (rkS k l):=by
 have:∀(l:List Wo) (a:Wo),(∀b∈l,qx W k b)->qx W k a->qx W k (l.foldl (eiW k) a):=λl=>by
  induction l with
  | nil=>exact λa _ h=>h
  | cons n l ih=>exact λa hl h=>ih _ (λb hb=>hl b (z16 _ hb)) (q9c h (hl n (z1p ..)))
 exact this l _ h (q89 hW hk)
def qvh(l:List Wo)(a:Wo):rkS k (l++ [a])=eiW k (rkS k l) a:=by
 unfold rkS;rw[z2f];rfl
def qvi(hW:HOk W)(hk:k.ok)(hg:∀z,qx W k (g z)){p:List Str×Int}(h:0<=p.2):qx W k (rkT k g p):=qoo hW hk (qad hW hk hg p.1) h
def qst(hW:HOk W)(hk:k.ok)(hg:∀z,qx W k (g z)){Y:Tab}(h:NN Y):∀a∈Y.map (rkT k g),qx W k a:=λa ha=>by
 obtain⟨p,hp,rfl⟩:=z44.mp ha;exact qvi hW hk hg (h p hp)
def qm7(hW:HOk W)(hk:k.ok)(hg:∀z,qx W k (g z)){Y:Tab}(h:NN Y):qx W k (rkY k g Y):=qvg hW hk (qst hW hk hg h)
def q53(Y:Tab)(p:List Str×Int):rkY k g (Y++ [p])=eiW k (rkY k g Y) (rkT k g p):=by
 unfold rkY;rw[z35];exact qvh _ _
end
section
variable{W:xD}{k:Kd}{g:Str->Wo}
end
def WD(H:Hp)(d:Addr)(f:Str->Option Wo):Prop:=∃kvs,Rd H d (.dK kvs)/\∀z,f z=none\/ ∃a v,f z=some a/\valV kvs (Sum.inr z)=some v/\WV H a v
theorem WD.same{H H':Hp}{d:Addr}{f:Str->Option Wo}(h:WD H d f)(s:Same H H'):WD H' d f:=by
 obtain⟨kvs,hr,hv⟩:=h;refine⟨kvs,?_,λz=>?_⟩
 ·rcases hr with hr | ⟨o,hr⟩
  ·exact .inl (s _ _ hr)
  ·exact .inr ⟨o,s _ _ hr⟩
 ·rcases hv z with h | ⟨a,v,e1,e2,hw⟩
  ·exact .inl h
  ·exact .inr ⟨a,v,e1,e2,hw.same s⟩
def WD.get{H:Hp}{d:Addr}{f:Str->Option Wo}(h:WD H d f){z:Str}{a:Wo}(e:f z=some a):∃v,DGet H d (.str z) (some v)/\WV H a v:=by
 obtain⟨kvs,hr,hv⟩:=h;rcases hv z with e1 | ⟨b,v,e1,e2,hw⟩
 ·rw[e1]at e;cases e
 ·rw[e1]at e;cases e
  exact⟨v,.inl ⟨kvs,Sum.inr z,hr,zr,e2.symm⟩,hw⟩
def gOf(k:Kd)(f:Str->Option Wo)(z:Str):Wo:=(f z).getD (noW k)
structure FOk (W:xD) (k:Kd) (f:Str->Option Wo):Prop where
 hk:k.ok
 hW:HOk W
 tW:∀w∈W,txtB small w=true
 good:∀z a,f z=some a->qx W k a
 lt:∀z,LtW k (2^600) (gOf k f z)
def FOk.g{W:xD}{k:Kd}{f:Str->Option Wo}(h:FOk W k f)(z:Str):qx W k (gOf k f z):=by
 unfold gOf;cases e:f z with
 | none=>exact q89 h.hW h.hk
 | some a=>exact h.good z a e
def q122(K:xA)(mg:xE):Sp:=λvs H Q _=>∃(b o d:Addr) (p:xD) (k:Kd) (f:Str->Option Wo) (W:xD),vs=[.ref b,.ref o,.ref d]/\H b=some (.tup (p.map V.str))/\ByAt mg H o k/\WD H d f/\FOk W k f/\(∀n∈p,∃a,f n=some a)/\(∀i,LtW k (2^600) (rkP k (gOf k f) (p.take i)))/\∀z H',Same H H'->NewV H z\/ p≠ []->WV H' (rkP k (gOf k f) p) z->Q z H'
def qap(T:Txt K mg):Def P w K mg base 6 "product_reckoned" ["product","by","worths"] (q122 K mg):=by
 refine T.qby.ok q34 (λvs H Q E h=>?_) λf cdv A outer s H vs Q E hr h=>?_
 ·obtain⟨b,o,d,p,k,f,W,rfl,_⟩:=h;rfl
 ·obtain⟨b,o,d,p,k,ff,W,rfl,hb,hB,hd,ok,a1,a2,q⟩:=h;refine⟨_,(q3f
   (qm (i:=3) q34.nd rfl (Or.inl rfl) (q57 (qyi T) (q3c T) hr (pv 1)))
   (q1o PassesOwn.never rfl (q5x K (pv 0)) (qu (i:=4) q34.nd rfl (Or.inl rfl)) (qg (qm (i:=3) q34.nd rfl (Or.inl rfl) (q46 (qyj T) (q3c T) hr (pv 1) (pa_2 (pv 3) (q56 (q33 hr) (pv 2) (pv 4) (λ_ _=>rfl)))))))
   (qh (pv 3))),?_⟩
  obtain⟨dx,a0⟩:=id hB;refine⟨_,zr,k,o,dx,_,zr,a0,q10a k,o,zr,hB,λz0 H1 s1 n0 w0=>?_⟩;refine⟨_,zr,b,zr,⟨_,SqT.of (s1 _ _ hb)⟩,q90 (xs:=p.map V.str) (λi σ G=>Same H G/\∃z v,σ=[some (.ref b),some (.ref o),some (.ref d),some z,v]/\NewV H z/\WV G (rkP k (gOf k ff) (p.take i)) z) ⟨s1,z0,_,zr,n0,w0⟩ (λi σ G _ z=>SqT.of (z.1 _ _ hb)) ?_ ?_⟩
  ·rintro i x σ G hx ⟨D,z,v,rfl,nz,Z⟩;rw[z22]at hx;obtain⟨n,hn,rfl⟩:=z0q.mp hx;obtain⟨a,ha⟩:=a1 n (z18 hn);obtain⟨u,hu,wu⟩:=(hd.same D).get ha;obtain⟨dx,J⟩:=hB.same D;have ga:=ok.good n a ha;have eg:gOf k ff n=a:=by
    unfold gOf;rw[ha];rfl
   have O:=ok.lt n;rw[eg]at O;refine⟨_,zr,k,o,dx,_,zr,J,q10b k,_,zr,_,zr,_,zr,d,_,zr,hu,o,z,u,_,a,W,zr,⟨dx,J⟩,ok.hk,qad ok.hW ok.hk ok.g _,ga,Z,wu,(a2 i).and O,λz2 G2 s2 n2 w2=>?_⟩;refine⟨D.trans s2,z2,_,zr,n2.back D,?_⟩;rw[z3g,hn];show WV G2 (rkP k (gOf k ff) (p.take i++ [n])) z2;rw[q4h,eg];exact w2
  ·rintro σ G ⟨D,z,v,rfl,nz,Z⟩;rw[z30,z2t]at Z;exact⟨_,zr,q z G D (.inl nz) Z⟩
def YOk(k:Kd)(g:Str->Wo)(Y:Tab):Prop:=∀p∈Y,p.2 < 2^600/\∀i,LtW k (2^600) (rkP k g (p.1.take i))
def q10j(K:xA)(mg:xE):Sp:=λvs H Q _=>∃(p o d:Addr) (ns:xD) (k:Kd) (f:Str->Option Wo) (W:xD),vs=[.ref p,.ref o,.ref d]/\H p=some (.lst (ns.map V.str))/\ByAt mg H o k/\WD H d f/\FOk W k f/\(∀n∈ns,∃a,f n=some a)/\∀H',Same H H'->Q .non H'
def qjm(T:Txt K mg):Def P w K mg base 6 "ask_worths" ["names","by","worths"] (q10j K mg):=by
 refine T.qml.ok qah (λvs H Q E h=>?_) λf cdv A outer s H vs Q E hr h=>?_
 ·obtain⟨p,o,d,ns,k,f,W,rfl,_⟩:=h;rfl
 ·obtain⟨p,o,d,ns,k,ff,W,rfl,hp,hB,hd,ok,Z,q⟩:=h;refine⟨_,(qg (q1o PassesOwn.never rfl (q18 K (pv 0)) (qu (i:=3) qah.nd rfl (Or.inl rfl)) (qg (q12 (PW.pt (q7c (qeo (qrc (q33 hr) (pv 3) (pv 2))) (q5a (q3t (q3s (q46 (qyq T) (q3c T) hr (pv 1) (pa_1 (q56 (q33 hr) (pv 2) (pv 3) (λ_ _=>rfl))))))))) (qg q11q) qr)))),?_⟩;refine⟨_,zr,p,zr,⟨_,SqL.of hp⟩,q20 (xs:=ns.map V.str) (λi σ G=>Same H G/\∃v,σ=[some (.ref p),some (.ref o),some (.ref d),v]) ⟨Same.refl _,_,zr⟩ (λi σ G _ z=>SqL.of (z.1 _ _ hp)) ?_ ?_⟩
  ·rintro i x σ G hx ⟨J,v,rfl⟩;rw[z22]at hx;obtain⟨z,hz,rfl⟩:=z0q.mp hx;obtain⟨a,ha⟩:=Z z (z18 hz);obtain⟨u,hu,wu⟩:=(hd.same J).get ha;obtain⟨dx,D⟩:=hB.same J;have O:=ok.good z a ha;refine⟨_,zr,_,zr,d,_,zr,hu,_,zr,qk rfl ?_⟩;refine⟨_,zr,k,o,dx,_,zr,D,q10c k,_,zr,_,zr,d,_,zr,hu,o,u,dW a,zr,⟨dx,D⟩,wu.dat ok.hW O,qsp O ok.hk ok.tW,λH2 s2=>?_⟩;rw[qvd O ok.hk ok.tW];exact⟨_,zr,iteF ⟨J.trans s2,_,zr⟩⟩
  ·rintro σ G ⟨J,v,rfl⟩;exact q _ J
def q123(K:xA)(mg:xE):Sp:=λvs H Q _=>∃(l o d:Addr) (Y:Tab) (k:Kd) (f:Str->Option Wo) (W:xD),vs=[.ref l,.ref o,.ref d]/\WA H l Y/\ByAt mg H o k/\WD H d f/\FOk W k f/\(∀p∈Y,∀n∈p.1,∃a,f n=some a)/\YOk k (gOf k f) Y/\∀z H',Same H H'->NewV H z->WV H' (rkY k (gOf k f) Y) z->Q z H'
def qd4(T:Txt K mg):Def P w K mg base 7 "reckoned" ["why","by","worths"] (q123 K mg):=by
 refine T.qqi.ok q4t (λvs H Q E h=>?_) λf cdv A outer s H vs Q E hr h=>?_
 ·obtain⟨l,o,d,Y,k,f,W,rfl,_⟩:=h;rfl
 ·obtain⟨l,o,d,Y,k,ff,W,rfl,hl,hB,hd,ok,a4,hY,q⟩:=h;refine⟨_,(qc5
   (q2i (q11 (qjm T) hr rfl (pa_3 (q11 (qng T) hr rfl (pa_1 (pv 0))) (pv 1) (pv 2))))
   (qm (i:=3) q4t.nd rfl (Or.inl rfl) (q57 (q6n T) (q3c T) hr (pv 1)))
   (q1o PassesOwn.never rfl (q18 K (pv 0)) (qks rfl (q5v (qu (i:=4) q4t.nd rfl (Or.inl rfl)) (q5v (qu (i:=5) q4t.nd rfl (Or.inl rfl)) qg7))) (qg (qm (i:=3) q4t.nd rfl (Or.inl rfl) (q46 (q6o T) (q3c T) hr (pv 1) (pa_2 (pv 3) (q46 (qnj T) (q3c T) hr (pv 1) (pa_2 (q11 (qap T) hr rfl (pa_3 (pv 4) (pv 1) (pv 2))) (pv 5))))))))
   (qh (pv 3))),?_⟩
  refine⟨_,zr,l,Y,zr,hl,λp ns H1 s1 _ hp a9 _=>?_⟩;refine⟨_,zr,_,zr,p,o,d,ns,k,ff,W,zr,hp,hB.same s1,hd.same s1,ok,λn hn=>?_,λH2 s2=>?_⟩
  ·obtain⟨D,O,hx⟩:=(a9.2 n).mp hn;exact a4 D O n hx
  have Z:=s1.trans s2;obtain⟨dx,a1⟩:=hB.same Z;refine⟨_,zr,k,o,dx,_,zr,a1,qbp k,o,zr,⟨dx,a1⟩,λz0 H3 s3 n0 w0=>?_⟩;have a0:=Z.trans s3;obtain⟨xs,a6,a5,a2⟩:=hl.same a0;have xl:=Paired.length a5;refine⟨_,zr,l,zr,⟨_,SqL.of a6⟩,q20 (xs:=xs) (λi σ G=>Same H3 G/\∃z v1 v2,σ=[some (.ref l),some (.ref o),some (.ref d),some z,v1,v2]/\NewV H z/\WV G (rkY k (gOf k ff) (Y.take i)) z) ⟨Same.refl _,z0,_,_,zr,n0.back Z,w0⟩ (λi σ G _ z=>SqL.of (z.1 _ _ a6)) ?_ ?_⟩
  ·rintro i x σ G hx ⟨sg,z,v1,v2,rfl,nz,wz⟩;obtain⟨D,O,b2⟩:=q4m a5 hx;obtain⟨qa,b,rfl,hq,a8⟩:=b2.keep (Same.keepT sg);have hm:=z18 O;have sH:=a0.trans sg;obtain⟨dx,J⟩:=hB.same sH;have a7:0<=D.2:=(a2.2 D hm).2.2.1;have b4:NN Y:=λp hp=>(a2.2 p hp).2.2.1;have gP:=qad ok.hW ok.hk ok.g D.1;refine⟨_,_,zr,SqT.of hq,zr,_,_,zr,_,_,zr,zr,?_⟩;refine⟨_,zr,k,o,dx,_,zr,J,qbq k,_,zr,_,zr,k,o,dx,_,zr,J,q10d k,_,zr,_,zr,_,zr,b,o,d,D.1,k,ff,W,zr,a8,⟨dx,J⟩,hd.same sH,ok,a4 D hm,(hY D hm).2,λu G2 s2 _ wu=>?_⟩;have b3:LtW k (2^600) (rkP k (gOf k ff) D.1):=by
    have:=(hY D hm).2 D.1.length;rw[z2t]at this;exact this
   refine⟨_,zr,o,u,D.2,_,W,zr,⟨dx,s2 _ _ J⟩,ok.hk,ok.hW,gP,wu,a7,λe=>⟨b3 e,(hY D hm).1⟩,λy G3 s3 _ wy=>?_⟩;refine⟨o,z,y,_,_,W,zr,⟨dx,(s2.trans s3) _ _ J⟩,ok.hk,qm7 ok.hW ok.hk ok.g (λp hp=>b4 p (z15 hp)),qoo ok.hW ok.hk gP a7,wz.same (s2.trans s3),wy,λy2 G4 s4 n4 w4=>?_⟩;have sA:=s2.trans (s3.trans s4);refine⟨sg.trans sA,y2,_,_,zr,n4.back (sH.trans (s2.trans s3)),?_⟩;rw[z3g,O];show WV G4 (rkY k (gOf k ff) (Y.take i++ [D])) y2;rw[q53];exact w4
  ·rintro σ G ⟨sg,z,v1,v2,rfl,nz,wz⟩;rw[xl,z2t]at wz;exact⟨_,zr,q z G (a0.trans sg) nz wz⟩
section
variable{W:xD}{k:Kd}{g:Str->Wo}
def q10k(hW:HOk W)(hk:k.ok)(O:∀z,qx W k (g z))(hl:∀z,LtW k (10^24) (g z)):∀p:List Str,LtW k (2*(10^24)^p.length) (rkP k g p):=λp=>by
 have:∀n:Nat,∀p:List Str,p.length=n->LtW k (2*(10^24)^n) (rkP k g p):=λn=>by
  induction n with
  | zero=>
   intro p J e;rw[z0k.mp J];subst e;show (1:Int) < 2*(10^24)^0;decide
  | succ n ih=>
   intro p J;have D:p≠ []:=λz=>by rw[z]at J;cases J
   rw[<- List.dropLast_concat_getLast D,q4h];have:=LtW.bo (ih p.dropLast (by rw[List.length_dropLast,J];rfl)) (qad hW hk O _) (O _) (hl (p.getLast D)) (z3j (by decide) (Int.pow_nonneg (by decide))) (by decide);refine this.mono ?_;rw[Int.pow_succ,Int.mul_assoc];exact z49 _
 exact this _ p rfl
def qyt(hW:HOk W)(hk:k.ok)(hg:∀z,qx W k (g z))(hl:∀z,LtW k (10^24) (g z)){p:xD}{n:Nat}(h:p.length<=n):LtW k (2*(10^24)^n) (rkP k g p):=by
  refine(q10k hW hk hg hl p).mono (z02 ?_ (by decide));obtain⟨m,rfl⟩:=Nat.exists_eq_add_of_le h;rw[Int.pow_add];have a:(0:Int)<=(10^24)^p.length:=Int.pow_nonneg (by decide);have b:(1:Int)<=(10^24)^m:=Int.pow_pos (by decide)
  calc (10^24:Int)^p.length=(10^24)^p.length*1:=(Int.mul_one _).symm
    _<=(10^24)^p.length*(10^24)^m:=z02 b a
def q10l:(2*(10^24)^6:Int)<=2^600:=by decide+kernel
def q10m(hW:HOk W)(hk:k.ok)(hg:∀z,qx W k (g z))(hl:∀z,LtW k (10^24) (g z)){Y:Tab}(h:∀p∈Y,p.1.length<=6/\p.2 < 2^600):YOk k g Y:=λp D=>⟨(h p D).2,λi=>(qyt hW hk hg hl (n:=6) (z40 (by rw[z2g];lia) (h p D).1)).mono q10l⟩
end
def qsu(xs:List V)(k:Nat):cutV xs none (some (k:Int))=xs.take k:=by
 unfold cutV;rw[HT.sIx_none,HT.sIx_nat,List.drop_zero,Nat.sub_zero];by_cases h:k<=xs.length
 ·rw[Nat.min_eq_left h]
 ·rw[Nat.min_eq_right (by lia),z2t,z0n (by lia)]
def qvj{kvs:List (Key×V)}{k:Key}{v:V}{D:Key×V}(h:D∈putK kvs k v):D∈kvs\/ D.2=v:=by
 unfold putK at h;split at h
 ·obtain⟨x,hx,e⟩:=z44.mp h;by_cases q:x.1=k
  ·rw[if_pos q]at e;rw[<- e];exact .inr rfl
  ·rw[if_neg q]at e;exact .inl (e ▸ hx)
 ·rcases z2u.mp h with g | g
  ·exact .inl g
  ·rw[z1m.mp g];exact .inr rfl
def mf(ws:xD)(cs:List Int)(k:Kd):Nat->Str->Option Wo
 | 0,_=>none
 | i+1,z=>if z=ws.getD i endW then some (q8a (ws.take 4) (cs.getD i 0) k) else mf ws cs k i z
theorem qhh{ws:xD}{cs:List Int}{k:Kd}{z:Str}{a:Wo}:∀{n:Nat},mf ws cs k n z=some a->∃c,a=q8a (ws.take 4) c k
 | 0,h=>by cases h
 | n+1,h=>by
  unfold mf at h;split at h
  ·cases h
   exact⟨_,zr⟩
  ·exact qhh h
theorem qwj{ws:xD}{cs:List Int}{k:Kd}{j:Nat}:∀{n:Nat},j < n->∃a,mf ws cs k n (ws.getD j endW)=some a
 | 0,h=>by lia
 | n+1,h=>by
  unfold mf;split
  ·exact⟨_,zr⟩
  ·rename_i e;exact qwj (by
    have:j≠n:=λq=>e (by rw[q])
    lia)
def q124{ws:xD}{cs:List Int}{k:Kd}{z:Str}(h:z∈ws):∃a,mf ws cs k ws.length z=some a:=by
 obtain⟨i,hi,ei⟩:=z1i h;have:=qwj (cs:=cs) (k:=k) (ws:=ws) hi;rw[z06,z0d hi]at this;rw[<- ei];exact this
structure Wsd (W:xD) (k:Kd) (H:Hp) (kvs:List (Key×V)) (f:Str->Option Wo):Prop where
 val:∀z,(f z=none/\valV kvs (Sum.inr z)=none)\/ ∃a v,f z=some a/\valV kvs (Sum.inr z)=some v/\WV H a v
 all:∀kv∈kvs,∃a,qx W k a/\WV H a kv.2
theorem Wsd.same{W:xD}{k:Kd}{H H':Hp}{kvs:List (Key×V)}{f:Str->Option Wo}(h:Wsd W k H kvs f)(s:Same H H'):Wsd W k H' kvs f:=by
 refine⟨λz=>?_,λkv D=>?_⟩
 ·rcases h.val z with h | ⟨a,v,e1,e2,hw⟩
  ·exact .inl h
  ·exact .inr ⟨a,v,e1,e2,hw.same s⟩
 ·obtain⟨a,g,w⟩:=h.all kv D;exact⟨a,g,w.same s⟩
def qfr{G F:Hp}{d:Addr}{kvs:List (Key×V)}(J:G d=some (.dK kvs))(O:∀c o,c≠d->G c=some o->F c=some o){x:V}{Z:Wo}(D:WV G Z x):WV F Z x:=by
 cases Z with
 | num i=>exact D
 | non=>exact D
 | tr b=>exact D
 | nums l=>
  obtain⟨p,e,h⟩:=D;exact⟨p,e,O _ _ (λq=>by subst q;rw[J]at h;cases h) h⟩
 | acc R=>
  obtain⟨p,zs,e,h,tt⟩:=D;exact⟨p,zs,e,O _ _ (λq=>by subst q;rw[J]at h;cases h) h,q1i (λb ys z=>O b _ (λq=>by subst q;rw[J]at z;cases z) z) tt⟩
def Wsd.but{W:xD}{k:Kd}{G F:Hp}{d:Addr}{kvs J:List (Key×V)}{f:Str->Option Wo}(h:Wsd W k G kvs f)(O:G d=some (.dK J))(Z:∀c o,c≠d->G c=some o->F c=some o):Wsd W k F kvs f:=by
 refine⟨λz=>?_,λkv D=>?_⟩
 ·rcases h.val z with h | ⟨a,v,e1,e2,hw⟩
  ·exact .inl h
  ·exact .inr ⟨a,v,e1,e2,qfr O Z hw⟩
 ·obtain⟨a,g,w⟩:=h.all kv D;exact⟨a,g,qfr O Z w⟩
def WPr(H:Hp)(kv:Key×V)(p:Str×Wo):Prop:=kv.1=Sum.inr p.1/\WV H p.2 kv.2
def putD(D:List (Str×Wo))(z:Str)(a:Wo):List (Str×Wo):=if (D.any λp=>decide (p.1=z))=true then D.map (λp=>if p.1=z then (p.1,a) else p) else D++ [(z,a)]
def mD(ws:xD)(cs:List Int)(k:Kd):Nat->List (Str×Wo)
 | 0=>[]
 | i+1=>putD (mD ws cs k i) (ws.getD i endW) (q8a (ws.take 4) (cs.getD i 0) k)
theorem WPr.same{H H':Hp}(s:Same H H'){kvs:List (Key×V)}{D:List (Str×Wo)}(h:Paired (WPr H) kvs D):Paired (WPr H') kvs D:=L2.Paired.mapP h λ_ _ z=>⟨z.1,z.2.same s⟩
def q10n{H:Hp}{kvs:List (Key×V)}{D:List (Str×Wo)}{z:Str}{a:Wo}{v:V}(h:Paired (WPr H) kvs D)(w:WV H a v):Paired (WPr H) (putK kvs (Sum.inr z) v) (putD D z a):=by
 have e:(kvs.any λO=>decide (O.1=Sum.inr z))=D.any λp=>decide (p.1=z):=by
  clear w
  induction h with
  | nil=>rfl
  | cons q _ J=>
   rw[z3p,z3p,J,q.1]
   congr 1
   exact decide_eq_decide.mpr ⟨λy=>Sum.inr.inj y,λy=>by rw[y]⟩
 unfold putK putD;rw[e];split
 ·rename_i c0;clear e c0
  induction h with
  | nil=>exact .nil
  | @cons O p _ _ q _ J=>
   rw[z3k,z3k];refine .cons ?_ J;by_cases y:p.1=z
   ·rw[if_pos y,if_pos (by rw[q.1,y])];exact⟨q.1,w⟩
   ·rw[if_neg y,if_neg (λx=>y (by rw[q.1]at x;exact Sum.inr.inj x))];exact q
 ·exact q1m h (.cons ⟨zr,w⟩ .nil)
theorem qos{K:xA}{W:xD}{k:Kd}{H:Hp}(hW:HOk W){J kb:List (Key×V)}{D:List (Str×Wo)}(h:∀p∈D,qx W k p.2)(a:Paired (WPr H) J D)(b:Paired (WPr H) kb D):Paired (DatP K H) J kb:=by
 induction a generalizing kb with
 | nil=>cases b;exact .nil
 | cons a r ih=>
  cases b with
  | cons c d=>exact .cons ⟨a.1.trans c.1.symm,_,a.2.dat hW (h _ (z1p ..)),c.2.dat hW (h _ (z1p ..)),qe3 _⟩ (ih (λq hq=>h q (z16 _ hq)) d)
theorem qm8{ws:xD}{cs:List Int}{k:Kd}:∀(n:Nat),∀p∈mD ws cs k n,∃c,p.2=q8a (ws.take 4) c k
 | 0,_,h=>nomatch h
 | n+1,p,h=>by
  unfold mD putD at h;split at h
  ·obtain⟨q,hq,rfl⟩:=z44.mp h;split
   ·exact⟨_,zr⟩
   ·exact qm8 n q hq
  ·rcases z2u.mp h with h | h
   ·exact qm8 n p h
   ·rw[z1m.mp h];exact⟨_,zr⟩
def qyu:Sp:=λvs H Q _=>∃(k:Kd) (ca wa:Addr) (cs:List Int) (m t:Int) (ws:xD),vs=[.int (q2s k),.ref ca,.ref wa,.int m,.int t]/\ofK m t k/\k.ok/\(1<=m/\m<=9)/\0<=t/\H ca=some (.lst (cs.map V.int))/\H wa=some (.lst (ws.map V.str))/\HOk (ws.take 4)/\1<=ws.length/\ws.length<=7/\ws.length<=cs.length/\
 ∀d kvs H',Same H H'->H d=none->H' d=some (.dK kvs)->kvs.length<=7->Wsd (ws.take 4) k H' kvs (mf ws cs k ws.length)->Paired (WPr H') kvs (mD ws cs k ws.length)->Q (.ref d) H'
def q5s(T:Txt K mg):Def P w K mg base 4 "_law_many_worths" ["_law_kind","_law_cells","_law_words_here","_law_many","_law_top"] qyu:=by
 refine T.qc0.ok q41 (λvs H Q E h=>?_) λf cdv A outer s H vs Q E hr h=>?_
 ·obtain⟨k,ca,wa,cs,m,t,ws,rfl,_⟩:=h;rfl
 ·obtain⟨k,ca,wa,cs,m,t,ws,rfl,a4,hk,hm,ht,hc,hw,hW,w1,w7,wc,q⟩:=h;refine⟨_,(q3f
   (qm (i:=5) q41.nd rfl (Or.inl rfl) q5w)
   (q1o PassesOwn.never rfl (q55 rfl T.q7k (pa_1 (qo (q3l K) rfl T.b_len q4r (pa_1 (pv 2))))) (qu (i:=6) q41.nd rfl (Or.inl rfl)) (qg (q94 (q33 hr) (pv 5) (q1a (qy K) (pv 2) (pv 6) (λ_ _=>rfl)) (q11 (qji T) hr rfl (pa_5 (pv 0) (q1a (qy K) (pv 1) (pv 6) (λ_ _=>rfl)) (q27 (q31 K) (pv 2) q3w (q1q qc)) (pv 3) (pv 4))) rfl)))
   (qh (pv 5))),?_⟩
  refine λd hd=>?_;have s1:=qf (o:=HO.dK []) hd;have a5:((ws.map V.str).length:Int).toNat=ws.length:=by rw[z30];lia
  have a0:1<=(ws.take 4).length:=by rw[z2g];lia
  refine⟨_,rfl,_,_,rfl,.inl ⟨_,SqL.of (s1 _ _ hw),rfl⟩,_,rfl,by lia,by rw[z30];lia,?_⟩;rw[a5];refine q8j (lo:=0) (n:=ws.length) (λi σ G=>Same H G/\∃(v:Option V) (kvs:List (Key×V)),σ=[some (.int (q2s k)),some (.ref ca),some (.ref wa),some (.int m),some (.int t),some (.ref d),v]/\G d=some (.dK kvs)/\kvs.length<=i/\Wsd (ws.take 4) k G kvs (mf ws cs k i)/\Paired (WPr G) kvs (mD ws cs k i)) ⟨s1,none,[],rfl,qb,z47 _,⟨λz=> .inl ⟨rfl,rfl⟩,λ_ z=>nomatch z⟩,.nil⟩ ?_ ?_
  ·rintro i σ G hi ⟨sg,v,kvs,rfl,gd,kl,O,J⟩;have hg:atI (ws.map V.str) (0+(i:Int))=some (V.str (ws.getD i endW)):=by
    rw[Int.zero_add];refine q91 ?_;rw[z22,z06,z0d hi];rfl
   have a1:atI (cs.map V.int) (0+(i:Int))=some (V.int (cs.getD i 0)):=by
    rw[Int.zero_add];exact q1w (by lia)
   refine⟨_,zr,_,zr,_,zr,_,_,_,_,zr,zr,SqL.of (sg _ _ hc),a1,_,zr,_,zr,_,_,zr,SqL.of (sg _ _ hw),λl hl=>?_⟩;rw[show cutV (ws.map V.str) none (some 4)=(ws.take 4).map V.str by rw[List.map_take];exact qsu _ 4];have s4:=qf (o:=HO.lst ((ws.take 4).map V.str)) hl;refine⟨_,zr,_,zr,k,cs.getD i 0,m,t,l,ws.take 4,zr,a4,hk,hm,ht,qb,hW,a0,λx G2 s2 nx wx=>?_⟩;have sA:=s4.trans s2;have D:=sA _ _ gd;refine⟨_,zr,_,zr,_,zr,_,_,_,_,zr,zr,SqL.of ((sg.trans sA) _ _ hw),hg,d,_,zr,DPut.k (k:=Sum.inr (ws.getD i endW)) D (q1l (by lia)),?_⟩;refine⟨(sg.trans sA).set hd,_,_,rfl,qb,by have:=q3x kvs (Sum.inr (ws.getD i endW):Key) x;lia,?_⟩;have hF:∀c o,c≠d->G2 c=some o->upd G2 d (.dK (putK kvs (Sum.inr (ws.getD i endW)) x)) c=some o:=λc o hc z=>by rw[qi hc];exact z
   have h2:=(O.same sA).but D hF;have Z:=qfr D hF wx;refine⟨⟨λz=>?_,λkv a2=>?_⟩,q10n (L2.Paired.mapP J λ_ _ z=>⟨z.1,qfr D hF (z.2.same sA)⟩) Z⟩
   ·rw[q4x];show (mf ws cs k (i+1) z=none/\_)\/ _;unfold mf;by_cases e:z=ws.getD i endW
    ·rw[if_pos e,if_pos (by rw[e])];exact .inr ⟨_,x,zr,zr,Z⟩
    ·rw[if_neg e,if_neg (λq=>e (Sum.inr.inj q))];exact h2.val z
   ·rcases qvj a2 with h | h
    ·exact h2.all kv h
    ·rw[h];exact⟨_,qaa hW a0 hk _,Z⟩
  ·rintro σ G ⟨sg,v,kvs,rfl,gd,kl,O,J⟩;exact⟨_,zr,q d kvs G sg hd gd (z40 kl w7) O J⟩
def q25{α:Type}{C:List α->Prop}(h0:C [])(h1:∀l x,C l->C (l++ [x]))(l:List α):C l:=by
 rw[<- List.reverse_reverse l]
 induction l.reverse with
 | nil=>exact h0
 | cons x r ih=>
  rw[List.reverse_cons];exact h1 _ _ ih
def cart{α:Type}(ss:List (List α)):List (List α):=ss.foldl (λrows s=>rows.flatMap λr=>s.map λx=>r++ [x]) [[]]
def q2o{α:Type}(D:List (List α))(s:List α):cart (D++ [s])=(cart D).flatMap λr=>s.map λx=>r++ [x]:=by
 unfold cart;rw[z2f];rfl
def qm9{α β:Type}(f:β->α)(l:List β):cart (l.map λx=>[f x])=[l.map f]:=by
 refine q25 (C:=λl=>cart (l.map λx=>[f x])=[l.map f]) rfl (λl x ih=>?_) l;rw[z35,z3k,z43,q2o,ih];simp
def qma{α β:Type}(f:α->β)(D:List (List α)):cart (D.map (List.map f))=(cart D).map (List.map f):=by
 refine q25 (C:=λD=>cart (D.map (List.map f))=(cart D).map (List.map f)) rfl (λl x ih=>?_) D;rw[z35,z3k,z43,q2o,q2o,ih,List.flatMap_map,List.map_flatMap]
 congr 1
 funext r
 rw[z46,z46]
 congr 1
 funext y
 simp
theorem qmb{α β γ:Type}(s:List β)(g:α->β->γ):∀D:List α,(D.flatMap λr=>s.map (g r)).length=D.length*s.length
 | []=>by simp
 | r::D=>by rw[List.flatMap_cons,z1o,qmb s g D,z30,z2i,Nat.add_mul,Nat.one_mul,Nat.add_comm]
def qmc{α:Type}{m:Nat}(D:List (List α)):(∀s∈D,s.length<=m)->(cart D).length<=m^D.length:=by
 refine q25 (C:=λD=>(∀s∈D,s.length<=m)->(cart D).length<=m^D.length) (λ_=>z47 _) (λl x ih h=>?_) D;rw[q2o,qmb,z1o];exact z3i (ih λs hs=>h s (z17 _ hs)) (h x (z0w _ (z1m.mpr rfl)))
def qiq{α:Type}{r:List α}{D:List (List α)}:r∈cart D->r.length=D.length:=by
 revert r;refine q25 (C:=λD=>∀{r:List α},r∈cart D->r.length=D.length) (λh=>by rw[z1m.mp h];rfl) (λl x ih r h=>?_) D;rw[q2o]at h;obtain⟨r0,h0,h1⟩:=List.mem_flatMap.mp h;obtain⟨y,_,rfl⟩:=z44.mp h1;rw[z1o,z1o,ih h0];rfl
def qvk(D:List (List Int)):(cart D).map List.sum=D.foldl sums [0]:=by
 refine q25 (C:=λD=>(cart D).map List.sum=D.foldl sums [0]) rfl (λl x ih=>?_) D;rw[q2o,z2f,<- ih];show _=sums ((cart l).map List.sum) x;unfold sums;rw[List.map_flatMap,List.flatMap_map]
 congr 1
 funext r
 rw[z46]
 congr 1
 funext y
 show (r++ [y]).sum=r.sum+y;rw[List.sum_append];simp
theorem qir(m:Int)(S:List Int):∀j:Nat,q1e m (List.replicate j (q1e m S)).flatten=q1e m (List.replicate j S).flatten
 | 0=>rfl
 | j+1=>by
  rw[z1e,z1e,z27,z27,qh8,<- q6a,qir m S j,q6a]
theorem qmd{α:Type}(x:α)(S:List α):∀k:Nat,(List.replicate k x++(List.replicate k S).flatten).Perm (List.replicate k (x::S)).flatten
 | 0=> .nil
 | k+1=>by
  rw[z1e,z1e,z1e,z27,z27,List.cons_append,List.cons_append];refine .cons x ?_;have h1:(List.replicate k x++(S++(List.replicate k S).flatten)).Perm (S++(List.replicate k x++(List.replicate k S).flatten)):=by
   rw[<- z1y,<- z1y];exact z0u.append_right _
  exact h1.trans ((qmd x S k).append_left S)
theorem qme{α:Type}(k:Nat):∀S:List α,(S.flatMap λs=>List.replicate k s).Perm (List.replicate k S).flatten
 | []=>by
  have:(List.replicate k ([]:List α)).flatten=[]:=by simp
  rw[this];exact .nil
 | x::S=>by
  rw[List.flatMap_cons];exact((qme k S).append_left _).trans (qmd x S k)
section
variable{W:xD}{k:Kd}{g:Str->Wo}
def sB(b:Str->List Int)(p:xD):List Int:=(p.map b).foldl sums [0]
def qsv{m:Int}{b:Str->List Int}(m1:1<=m)(hg:∀z,g z= .nums (b z))(p:xD):rkP (.bests m) g p= .nums (q1e m (sB b p)):=by
 refine q25 (C:=λp=>rkP (.bests m) g p= .nums (q1e m (sB b p))) ?_ (λp n ih=>?_) p
 ·show Wo.nums [0]= .nums (q1e m [0]);rw[qfk (z0i _ _) (by show 1<=m.toNat;lia)]
 ·rw[q4h,ih,hg];show Wo.nums (q1e m (sums (q1e m (sB b p)) (b n)))=_;rw[qv5];unfold sB;rw[z35,z2f];rfl
def mn(m n:Int):Nat:=(if m < n then m else n).toNat
def qsw{m:Int}{b:Str->List Int}(m1:1<=m)(hg:∀z,g z= .nums (b z))(Y:Tab):rkY (.bests m) g Y= .nums (q1e m (Y.flatMap λp=>(sB b p.1).flatMap λs=>List.replicate (mn m p.2) s)):=by
 refine q25 (C:=λY=>rkY (.bests m) g Y= .nums (q1e m (Y.flatMap λp=>(sB b p.1).flatMap λs=>List.replicate (mn m p.2) s))) ?_ (λY p ih=>?_) Y
 ·show Wo.nums []= .nums (q1e m []);rw[qfk List.Pairwise.nil (z4a _)]
 ·rw[q53,ih,rkT,qsv m1 hg,z1j];show Wo.nums (q1e m (q1e m _++q1e m (repL (q1e m (sB b p.1)) (if m < p.2 then m else p.2))))=_;rw[qh8,q6a];unfold repL;rw[<- q6a,show (if m < p.2 then m else p.2).toNat=mn m p.2 from rfl,qir,q6a,List.flatMap_cons,List.flatMap_nil,z31,<- q6a,<- q5p (qme (mn m p.2) (sB b p.1)),q6a]
def pC(a:Str->Int)(p:xD):Int:=(p.map a).foldl (· * ·) 1
def qq4{a:Str->Int}(hg:∀z,g z= .num (a z))(p:xD):rkP .counts g p= .num (pC a p):=by
 refine q25 (C:=λp=>rkP .counts g p= .num (pC a p)) rfl (λp n ih=>?_) p;rw[q4h,ih,hg];unfold pC;rw[z35,z2f];rfl
def qq5{a:Str->Int}(hg:∀z,g z= .num (a z))(Y:Tab):rkY .counts g Y= .num (Y.map λp=>pC a p.1*p.2).sum:=by
 refine q25 (C:=λY=>rkY .counts g Y= .num (Y.map λp=>pC a p.1*p.2).sum) rfl (λY p ih=>?_) Y;rw[q53,ih,rkT,qq4 hg,z35,List.sum_append];show Wo.num (_+pC a p.1*p.2)=Wo.num (_+(pC a p.1*p.2+0));rw[Int.add_zero]
def cW:Option Int->Wo
 | none=> .non
 | some i=> .num i
def addC:Option Int->Option Int->Option Int
 | some i,some j=>some (i+j)
 | _,_=>none
def sC(c:Str->Option Int)(p:xD):Option Int:=(p.map c).foldl addC (some 0)
def qsx{c:Str->Option Int}(hg:∀z,g z=cW (c z))(p:xD):rkP .costs g p=cW (sC c p):=by
 refine q25 (C:=λp=>rkP .costs g p=cW (sC c p)) rfl (λp n ih=>?_) p;rw[q4h,ih,hg];unfold sC;rw[z35,z2f];show boW .costs (cW ((p.map c).foldl addC (some 0))) (cW (c n))=cW (addC ((p.map c).foldl addC (some 0)) (c n));cases (p.map c).foldl addC (some 0) <;> cases c n <;> rfl
def minC:Option Int->Option Int->Option Int
 | none,y=>y
 | x,none=>x
 | some i,some j=>some (if j < i then j else i)
def lC(l:List (Option Int)):Option Int:=l.foldl minC none
def q7j(l:List (Option Int))(c:Option Int):lC (l++ [c])=minC (lC l) c:=by
 unfold lC;rw[z2f];rfl
def qsy{c:Str->Option Int}(hg:∀z,g z=cW (c z))(Y:Tab)(D:∀p∈Y,1<=p.2):rkY .costs g Y=cW (lC (Y.map λp=>sC c p.1)):=by
 revert D;refine q25 (C:=λY=>(∀p∈Y,1<=p.2)->rkY .costs g Y=cW (lC (Y.map λp=>sC c p.1))) (λ_=>rfl) (λY p ih D=>?_) Y;have hp:=D p (z0w _ (z1m.mpr rfl));rw[q53,ih (λq hq=>D q (z17 _ hq)),rkT,qsx hg,z35];show eiW .costs _ (if p.2=0 then _ else eiW .costs (cW (sC c p.1)) (cW (sC c p.1)))=cW (lC (_++ [sC c p.1]));rw[if_neg (by lia),q7j];cases lC (Y.map λp=>sC c p.1) <;> cases sC c p.1 <;> first | rfl | (show Wo.num _=Wo.num _;simp only[ite_self])
def botC(l:List Int):q2l (λi=>l.getD i 0) l.length=lC (l.map some):=by
 refine q25 (C:=λl=>q2l (λi=>l.getD i 0) l.length=lC (l.map some)) rfl (λl c ih=>?_) l;have D:∀n,n<=l.length->q2l (λi=>(l++ [c]).getD i 0) n=q2l (λi=>l.getD i 0) n:=λn=>by
  induction n with
  | zero=>exact λ_=>rfl
  | succ n J=>
   intro hn;rw[q2l,q2l,J (by lia)];have:(l++ [c]).getD n 0=l.getD n 0:=by rw[z06,z06,List.getElem?_append_left (by lia)]
   rw[this]
 rw[z1o,z35];show q2l _ (l.length+1)=lC (l.map some++ [some c]);rw[q7j,q2l,D _ (z47 _),ih];have e:(l++ [c]).getD l.length 0=c:=by
  rw[z06,z05 (z47 _),Nat.sub_self];rfl
 rw[e];cases lC (l.map some) <;> rfl
def qyv(l:List (Option Int)):lC l=lC ((l.filterMap id).map some):=by
 refine q25 (C:=λl=>lC l=lC ((l.filterMap id).map some)) rfl (λl c ih=>?_) l;rw[q7j,List.filterMap_append,z35,ih];cases c with
 | none=>
  show minC _ none=lC (_++ []);rw[z31];cases lC ((l.filterMap id).map some) <;> rfl
 | some i=>
  show _=lC (_++ [some i]);rw[q7j]
def mT(t:Int)(l:List Int):Int:=l.foldl (λx y=>if y < x then y else x) t
def xT(l:List Int):Int:=l.foldl (λx y=>if y > x then y else x) 0
def qq6{t:Int}{a:Str->Int}(hg:∀z,g z= .num (a z))(p:xD):rkP (.trusts t) g p= .num (mT t (p.map a)):=by
 refine q25 (C:=λp=>rkP (.trusts t) g p= .num (mT t (p.map a))) rfl (λp n ih=>?_) p;rw[q4h,ih,hg];unfold mT;rw[z35,z2f];rfl
def qq7{t:Int}{a:Str->Int}(hg:∀z,g z= .num (a z))(Y:Tab)(D:∀p∈Y,1<=p.2):rkY (.trusts t) g Y= .num (xT (Y.map λp=>mT t (p.1.map a))):=by
 revert D;refine q25 (C:=λY=>(∀p∈Y,1<=p.2)->rkY (.trusts t) g Y= .num (xT (Y.map λp=>mT t (p.1.map a)))) (λ_=>rfl) (λY p ih D=>?_) Y;have hp:=D p (z0w _ (z1m.mpr rfl));rw[q53,ih (λq hq=>D q (z17 _ hq)),rkT,qq6 hg,z35];show eiW (.trusts t) _ (if p.2=0 then _ else eiW (.trusts t) (.num (mT t (p.1.map a))) (.num (mT t (p.1.map a))))=_;rw[if_neg (by lia)];unfold xT;rw[z2f];show Wo.num (if (if _ > _ then _ else _) > _ then (if _ > _ then _ else _) else _)=Wo.num _;rw[if_neg (Int.lt_irrefl _)];rfl
def q10o(t:Int)(l:List Int):lC ((l++ [t]).map some)=some (mT t l):=by
 rw[z35,z3k,z43,q7j];refine q25 (C:=λl=>minC (lC (l.map some)) (some t)=some (mT t l)) rfl (λl x D=>?_) l;rw[z35,z3k,z43,q7j];have e:mT t (l++ [x])=if x < mT t l then x else mT t l:=by
  unfold mT;rw[z2f];rfl
 rw[e];cases h:lC (l.map some) with
 | none=>
  rw[h]at D;have:t=mT t l:=Option.some.inj D;rw[<- this];show some (if t < x then t else x)=some (if x < t then x else t)
  congr 1
  (repeat' split) <;> lia
 | some i=>
  rw[h]at D;have:(if t < i then t else i)=mT t l:=Option.some.inj D;rw[<- this];show some (if t < (if x < i then x else i) then t else (if x < i then x else i))=some (if x < (if t < i then t else i) then x else (if t < i then t else i))
  congr 1
  (repeat' split) <;> lia
def topC(l:List Int)(h:∀x∈l,0<=x):(q2q (λi=>l.getD i 0) l.length).getD 0=xT l:=by
 revert h;have all:∀l:List Int,(∀x∈l,0<=x)->(l=[]/\q2q (λi=>l.getD i 0) l.length=none)\/ q2q (λi=>l.getD i 0) l.length=some (xT l):=by
  refine q25 (C:=λl=>(∀x∈l,0<=x)->(l=[]/\q2q (λi=>l.getD i 0) l.length=none)\/ q2q (λi=>l.getD i 0) l.length=some (xT l)) (λ_=> .inl ⟨rfl,rfl⟩) (λl c ih h=>?_);have D:∀n,n<=l.length->q2q (λi=>(l++ [c]).getD i 0) n=q2q (λi=>l.getD i 0) n:=λn=>by
   induction n with
   | zero=>exact λ_=>rfl
   | succ n J=>
    intro hn;rw[q2q,q2q,J (by lia)];have:(l++ [c]).getD n 0=l.getD n 0:=by rw[z06,z06,List.getElem?_append_left (by lia)]
    rw[this]
  have e:(l++ [c]).getD l.length 0=c:=by
   rw[z06,z05 (z47 _),Nat.sub_self];rfl
  have ex:xT (l++ [c])=if c > xT l then c else xT l:=by
   unfold xT;rw[z2f];rfl
  refine .inr ?_;rw[z1o];show q2q _ (l.length+1)=_;rw[q2q,D _ (z47 _),e,ex];have c0:=h c (z0w _ (z1m.mpr rfl));rcases ih (λx hx=>h x (z17 _ hx)) with ⟨rfl,h1⟩ | h1
  ·rw[h1];show some c=some (if c > 0 then c else 0)
   congr 1
   split <;> lia
  ·rw[h1]
 intro h;rcases all l h with ⟨rfl,h1⟩ | h1
 ·rfl
 ·rw[h1];rfl
def qq8{b:Str->Bool}(hg:∀z,g z= .tr (b z))(p:xD):rkP .truths g p= .tr ((p.map b).all id):=by
 refine q25 (C:=λp=>rkP .truths g p= .tr ((p.map b).all id)) rfl (λp n ih=>?_) p;rw[q4h,ih,hg,z35,List.all_append];show Wo.tr (_&&b n)=Wo.tr (_&&(b n&&true));rw[Bool.and_true]
def qq9{b:Str->Bool}(hg:∀z,g z= .tr (b z))(Y:Tab)(D:∀p∈Y,1<=p.2):rkY .truths g Y= .tr ((Y.map λp=>(p.1.map b).all id).any id):=by
 revert D;refine q25 (C:=λY=>(∀p∈Y,1<=p.2)->rkY .truths g Y= .tr ((Y.map λp=>(p.1.map b).all id).any id)) (λ_=>rfl) (λY p ih D=>?_) Y;have hp:=D p (z0w _ (z1m.mpr rfl));rw[q53,ih (λq hq=>D q (z17 _ hq)),rkT,qq8 hg,z35,List.any_append];show eiW .truths _ (if p.2=0 then _ else eiW .truths (.tr ((p.1.map b).all id)) (.tr ((p.1.map b).all id)))=_;rw[if_neg (by lia)];show Wo.tr (_ || (_ || _))=Wo.tr (_ || (_ || false));rw[Bool.or_self,Bool.or_false];rfl
def qsz{A B:xF}{x:xD}:Up (A++B) x↔Up A x\/ Up B x:=by
 constructor
 ·rintro ⟨f,hf,h⟩;exact(z2u.mp hf).imp (λq=>⟨f,q,h⟩) λq=>⟨f,q,h⟩
 ·rintro (⟨f,hf,h⟩ | ⟨f,hf,h⟩)
  ·exact⟨f,z17 _ hf,h⟩
  ·exact⟨f,z0w _ hf,h⟩
def qt0{r:Str->List (List Str)}(hg:∀z,g z= .acc (r z))(p:xD):∃R,rkP .hands g p= .acc R/\∀x,Up R x↔∀n∈p,Up (r n) x:=by
 refine q25 (C:=λp=>∃R,rkP .hands g p= .acc R/\∀x,Up R x↔∀n∈p,Up (r n) x) ⟨[[]],rfl,λx=>⟨λ_ _ z=>(nomatch z),λ_=>q105.mpr trivial⟩⟩ (λp n ih=>?_) p;obtain⟨R,e,h⟩:=ih;refine⟨q3b (q4w R (r n)),by rw[q4h,e,hg];rfl,λx=>?_⟩;rw[q6c,qcc,h]
 constructor
 ·rintro ⟨h1,h2⟩ m D;rcases z2u.mp D with q | q
  ·exact h1 m q
  ·rw[z1m.mp q];exact h2
 ·exact λh1=>⟨λm D=>h1 m (z17 _ D),h1 n (z0w _ (z1m.mpr rfl))⟩
def qt1{r:Str->List (List Str)}(hg:∀z,g z= .acc (r z))(Y:Tab)(J:∀p∈Y,1<=p.2):∃R,rkY .hands g Y= .acc R/\Acc R/\∀x,Up R x↔∃p∈Y,∀n∈p.1,Up (r n) x:=by
 revert J;refine q25 (C:=λY=>(∀p∈Y,1<=p.2)->∃R,rkY .hands g Y= .acc R/\Acc R/\∀x,Up R x↔∃p∈Y,∀n∈p.1,Up (r n) x) (λ_=>⟨[],rfl,⟨List.Pairwise.nil,(λ_ z=>nomatch z),λ_ z=>nomatch z⟩,λx=>⟨λz=>(qol.mp z).elim,λ⟨_,z,_⟩=>nomatch z⟩⟩) (λY p ih J=>?_) Y;have hp:=J p (z0w _ (z1m.mpr rfl));obtain⟨R,e,_,h⟩:=ih (λq hq=>J q (z17 _ hq));obtain⟨S,e2,h2⟩:=qt0 hg p.1;have e3:rkT .hands g p= .acc (q3b (S++S)):=by
  rw[rkT,e2];show (if p.2=0 then _ else eiW .hands (.acc S) (.acc S))=_;rw[if_neg (by lia)];rfl
 refine⟨q3b (R++q3b (S++S)),by rw[q53,e,e3];rfl,q4e _,λx=>?_⟩;rw[q6c,qsz,q6c,qsz,or_self,h,h2]
 constructor
 ·rintro (⟨q,hq,D⟩ | D)
  ·exact⟨q,z17 _ hq,D⟩
  ·exact⟨p,z0w _ (z1m.mpr rfl),D⟩
 ·rintro ⟨q,hq,D⟩;rcases z2u.mp hq with z | z
  ·exact .inl ⟨q,z,D⟩
  ·rw[z1m.mp z]at D;exact .inr D
def qot{r:Str->List (List Str)}{x:xD}(p:xD):(∃row∈cart (p.map r),∀w∈row.flatten,w∈x)↔∀n∈p,Up (r n) x:=by
 refine q25 (C:=λp=>(∃row∈cart (p.map r),∀w∈row.flatten,w∈x)↔∀n∈p,Up (r n) x) ⟨λ_ _ z=>(nomatch z),λ_=>⟨[],z1m.mpr rfl,λ_ z=>nomatch z⟩⟩ (λp n ih=>?_) p;rw[z35,z3k,z43,q2o]
 constructor
 ·rintro ⟨row,J,h⟩ m Z;obtain⟨O,D,a0⟩:=List.mem_flatMap.mp J;obtain⟨f,hf,rfl⟩:=z44.mp a0;rw[List.flatten_append]at h;rcases z2u.mp Z with q | q
  ·exact ih.mp ⟨O,D,λw hw=>h w (z17 _ hw)⟩ m q
  ·rw[z1m.mp q];exact⟨f,hf,λw hw=>h w (z0w _ (by simpa using hw))⟩
 ·intro h;obtain⟨O,D,h1⟩:=ih.mpr λm Z=>h m (z17 _ Z);obtain⟨f,hf,h2⟩:=h n (z0w _ (z1m.mpr rfl));refine⟨O++ [f],List.mem_flatMap.mpr ⟨O,D,z44.mpr ⟨f,hf,zr⟩⟩,λw hw=>?_⟩;rw[List.flatten_append]at hw;rcases z2u.mp hw with q | q
  ·exact h1 w q
  ·exact h2 w (by simpa using q)
end
def RowsAt(B H:Hp)(rs:List (V×List V)):Prop:=∀e∈rs,∃l,e.1= .ref l/\B l=none/\H l=some (.lst e.2)
def RowsAt.same{B H H':Hp}{D:List (V×List V)}(s:Same H H')(h:RowsAt B H D):RowsAt B H' D:=λe he=>let ⟨l,a,n,b⟩:=h e he;⟨l,a,n,s _ _ b⟩
def RowsAt.app{B H:Hp}{a b:List (V×List V)}(h:RowsAt B H a)(g:RowsAt B H b):RowsAt B H (a++b):=λe he=>(z2u.mp he).elim (h e) (g e)
def Itm(H:Hp)(kd:Int)(v:V)(xs:List V):Prop:=((kd=2\/ kd=5)/\∃l,v= .ref l/\H l=some (.lst xs))\/ (kd≠2/\kd≠5/\xs=[v])
def Itm.same{H H':Hp}{kd:Int}{v:V}{xs:List V}(s:Same H H')(h:Itm H kd v xs):Itm H' kd v xs:=h.imp (λ⟨a,l,e,b⟩=>⟨a,l,e,s _ _ b⟩) id
def q10p:Sp:=λvs H Q _=>∃(kd:Int) (b d:Addr) (p:xD) (kvs:List (Key×V)) (sm:Str->List V),vs=[.int kd,.ref b,.ref d]/\H b=some (.tup (p.map V.str))/\p.length<=3/\Rd H d (.dK kvs)/\(∀n∈p,(sm n).length<=16/\∃v,valV kvs (Sum.inr n)=some v/\Itm H kd v (sm n))/\
 ∀L rs H',Same H H'->H L=none->H' L=some (.lst (rs.map (·.1)))->RowsAt H H' rs->rs.map (·.2)=cart (p.map sm)->Q (.ref L) H'
def qfs(T:Txt K mg):Def P w K mg base 1 "_law_choices" ["_law_kind","_law_product","_law_worths"] q10p:=by
 refine T.qhr.ok q1y (λvs H Q E h=>?_) λf cdv A outer s H vs Q E hr h=>?_
 ·obtain⟨kd,b,d,p,kvs,sm,rfl,_⟩:=h;rfl
 ·obtain⟨kd,b,d,p,kvs,sm,rfl,hb,p3,hd,b6,q⟩:=h;refine⟨_,(q3f
   (qm (i:=3) q1y.nd rfl (Or.inl rfl) (q1p (pa_1 (q1p q26))))
   (q1o PassesOwn.never rfl (q5x K (pv 1)) (qu (i:=4) q1y.nd rfl (Or.inl rfl)) (qk7
   (qm (i:=5) q1y.nd rfl (Or.inl rfl) (q1p (pa_1 (q56 (q33 hr) (pv 2) (pv 4) (λ_ _=>rfl)))))
   (q12 (PW.pt (q7c (qp q1f (pv 0) qc (qq _)) (q5a (qp q1f (pv 0) qc (qq _))))) (qg (qm (i:=5) q1y.nd rfl (Or.inl rfl) (q56 (q33 hr) (pv 2) (pv 4) (λ_ _=>rfl)))) qr)
   (qm (i:=6) q1y.nd rfl (Or.inl rfl) (q1p q26))
   (q1o PassesOwn.never rfl (q18 K (pv 3)) (qu (i:=7) q1y.nd rfl (Or.inr rfl)) (qg (qm (i:=6) q1y.nd rfl (Or.inl rfl) (ql q5e (pv 6) (q2d (N:=["_law_one","_law_row"]) (caps:=[none,some 7]) rfl (by with_unfolding_all rfl) (q18 K (pv 5)) (λ_ _ _ _ _=>(qu (i:=0) (show (["_law_one","_law_row"]:xD).Nodup by decide+kernel) rfl (Or.inl rfl))) (λ_ _ _ _ _=>q2u) (λ_ _ _ _ _=>(ql q5e (pv 1) (q1p (pa_1 (pv 0))))))))))
   (qm (i:=3) q1y.nd rfl (Or.inl rfl) (pv 6))))
   (qh (pv 3))),?_⟩
  refine⟨by decide,λc0 a8=>⟨by show 1<=sizeLine;decide,λr0 b4=>?_⟩⟩;have s1:=(qf (o:=HO.lst []) a8).trans (qf (o:=HO.lst [V.ref c0]) b4);have e0:upd (upd H c0 (.lst [])) r0 (.lst [V.ref c0]) c0=some (.lst []):=(qf b4) _ _ qb;have c5:∀i,i<=p.length->(cart ((p.take i).map sm)).length<=4096:=λi hi=>by
   have h1:=qmc (m:=16) ((p.take i).map sm) λs hs=>by
    obtain⟨n,hn,rfl⟩:=z44.mp hs;exact(b6 n (z15 hn)).1
   rw[z30,z2g]at h1;exact z40 h1 (z40 (Nat.pow_le_pow_right (by decide) (show min i p.length<=3 by lia)) (by decide))
  refine⟨_,rfl,b,rfl,⟨_,SqT.of (s1 _ _ hb)⟩,q90 (xs:=p.map V.str) (λi σ G=>Same H G/\∃(v4 v5 v6 v7:Option V) (rA:Addr) (rs:List (V×List V)),σ=[some (.int kd),some (.ref b),some (.ref d),some (.ref rA),v4,v5,v6,v7]/\H rA=none/\G rA=some (.lst (rs.map (·.1)))/\RowsAt H G rs/\rs.map (·.2)=cart ((p.take i).map sm)) ⟨s1,none,none,none,none,r0,[(.ref c0,[])],rfl,(qf a8).free b4,qb,(λe he=>by rw[z1m.mp he];exact⟨c0,rfl,a8,e0⟩),rfl⟩ (λi σ G _ z=>SqT.of (z.1 _ _ hb)) ?_ ?_⟩
  ·rintro i x σ G hx ⟨O,v4,v5,v6,v7,rA,rs,rfl,c8,a5,b5,Z⟩;rw[z22]at hx;obtain⟨z,hz,rfl⟩:=z0q.mp hx;have il:=(z07.mp hz).1;have e4:=(b6 z (z18 hz)).1;have d2:(p.take (i+1)).map sm=(p.take i).map sm++ [sm z]:=by rw[z3g,hz,z35];rfl
   have lrs:rs.length<=4096:=by
    have:=c5 i (by lia);rw[<- Z,z30]at this;exact this
   have c6:∀e∈rs,e.2.length<=3:=λe he=>by
    have h1:e.2∈cart ((p.take i).map sm):=by rw[<- Z];exact z44.mpr ⟨e,he,rfl⟩
    rw[qiq h1,z30,z2g]
    lia
   apply qwg
   ·intro key;obtain⟨_,v,hv,hi⟩:=b6 z (z18 hz);have dg:DGet G d (.str z) (some v):= .inl ⟨kvs,Sum.inr z,hd.imp (O _ _) (λ⟨o,e⟩=>⟨o,O _ _ e⟩),rfl,hv.symm⟩;refine⟨_,rfl,_,rfl,d,_,rfl,dg,by show 1<=sizeLine;decide,λc hc=>?_⟩;have d7:=hi.same O;rcases d7 with ⟨d3,l,rfl,hl⟩ | ⟨h2,h5,e1⟩
    ·have b1:Same G (upd G c (.lst [V.ref l])):=qf hc;have b2:upd G c (.lst [V.ref l]) l=some (.lst (sm z)):=b1 _ _ hl;rcases d3 with h2 | h5
     ·refine⟨_,zr,zr,_,zr,q1d (z3b (by rw[h2])) ⟨_,zr,_,zr,d,V.ref l,zr,.inl ⟨kvs,Sum.inr z,hd.imp ((O.trans b1) _ _) (λ⟨o,e⟩=>⟨o,(O.trans b1) _ _ e⟩),zr,hv.symm⟩,?_⟩⟩;show qk3 5 (V.ref l) [some (V.int kd),some (V.ref b),some (V.ref d),some (V.ref rA),some (V.str z),none,v6,v7] _ _;clear dg hl hi hv hc;generalize upd G c (.lst [V.ref l])=HX at b1 b2 ⊢;revert b1 b2;revert HX;revert l;exact key
     ·by_cases h2:kd=2
      ·refine⟨_,zr,zr,_,zr,q1d (z3b (by rw[h2])) ⟨_,zr,_,zr,d,_,zr,.inl ⟨kvs,Sum.inr z,hd.imp ((O.trans b1) _ _) (λ⟨o,e⟩=>⟨o,(O.trans b1) _ _ e⟩),zr,hv.symm⟩,?_⟩⟩;exact key l _ b1 b2
      ·refine⟨_,zr,zr,_,zr,qk (z2w λe=>h2 (by injection e)) ⟨_,zr,zr,_,zr,q1d (z3b (by rw[h5])) ⟨_,zr,_,zr,d,_,zr,.inl ⟨kvs,Sum.inr z,hd.imp ((O.trans b1) _ _) (λ⟨o,e⟩=>⟨o,(O.trans b1) _ _ e⟩),zr,hv.symm⟩,?_⟩⟩⟩;exact key l _ b1 b2
    ·refine⟨_,zr,zr,_,zr,qk (z2w λe=>h2 (by injection e)) ⟨_,zr,zr,_,zr,qk (z2w λe=>h5 (by injection e)) ?_⟩⟩;exact key c _ (qf hc) (by rw[qb,e1])
   ·intro sA HX b1 b2;have b1:Same G HX:=b1;have b2:HX sA=some (.lst (sm z)):=b2;refine⟨by decide,λlg c4=>?_⟩;have s2:=qf (o:=HO.lst []) c4;have S2:=b1.trans s2;refine⟨_,rfl,rA,rfl,⟨_,SqL.of (S2 _ _ a5)⟩,q20 (xs:=rs.map (·.1)) (λj σ F=>Same HX F/\∃(v7:Option V) (lA:Addr) (es:List (V×List V)),σ=[some (.int kd),some (.ref b),some (.ref d),some (.ref rA),some (.str z),some (.ref sA),some (.ref lA),v7]/\H lA=none/\F lA=some (.lst (es.map (·.1)))/\RowsAt H F es/\es.map (·.2)=((rs.map (·.2)).take j).flatMap λr=>(sm z).map λx=>r++ [x]) ⟨s2,_,lg,[],rfl,(O.trans b1).free c4,qb,(λ_ z=>nomatch z),rfl⟩ (λj σ F _ y=>SqL.of ((b1.trans y.1) _ _ a5)) ?_ ?_⟩
    ·rintro j x σ F hx ⟨sF,v7,lA,es,rfl,c7,b3,a9,a0⟩;rw[z22]at hx;obtain⟨e,a4,rfl⟩:=z0q.mp hx;have jl:=(z07.mp a4).1;obtain⟨lr,d1,_,d8⟩:=b5.same (b1.trans sF) e (z18 a4);have les:es.length<=65536:=by
      have h1:(es.map (·.2)).length=(((rs.map (·.2)).take j).flatMap λr=>(sm z).map λx=>r++ [x]).length:=by rw[a0]
      rw[qmb,z30,z2g,z30]at h1;have h2:min j rs.length*(sm z).length<=4096*16:=z3i (by lia) e4
      lia
     have a6:=sF _ _ b2;rw[d1];refine⟨_,zr,_,zr,sA,zr,⟨_,SqL.of a6⟩,λD hD=>?_⟩;refine q1u (sm z).length (λi σ' E'=>(∃v,σ'=[v,some (.ref lr)])/\Same F E'/\∃xs:List (V×List V),E' D=some (.lst (xs.map (·.1)))/\xs.length=i/\xs.map (·.2)=((sm z).take i).map (λx=>e.2++ [x])/\∀F',(∀c o,c≠D->E' c=some o->F' c=some o)->RowsAt H F' xs) ⟨⟨_,rfl⟩,qf hD,[],qb,rfl,rfl,λ_ _ _ z=>nomatch z⟩ (λi σ' E' hi p=>?_) (λσ' E' p=>⟨?_,?_⟩) (λi σ' E' hi p x E3 y=>?_)
     ·exact⟨_,_,SqL.of (p.2.1 _ _ a6),z0d hi⟩
     ·exact⟨_,SqL.of (p.2.1 _ _ a6),z47 _⟩
     ·obtain⟨_,J,xs,a7,lx,a1,rx⟩:=p;rw[z2t]at a1;refine⟨lA,D,_,_,rfl,rfl,J _ _ b3,a7,z40 (show _<=70000 by rw[z30,z30];lia) (by decide),λl2 b9=>?_⟩;have s3:=qf (o:=HO.lst (es.map (·.1)++xs.map (·.1))) b9;refine⟨sF.trans (J.trans s3),_,l2,es++xs,zr,((O.trans b1).trans (sF.trans J)).free b9,by rw[qb,z35],(a9.same (J.trans s3)).app ((rx E' λ_ _ _ h=>h).same s3),?_⟩;rw[z35,a0,a1,z3g,z22,a4,z1j];simp
     ·obtain⟨⟨v,rfl⟩,J,xs,a7,lx,a1,rx⟩:=p;obtain⟨rfl,hy⟩:=y;have d9:=hy _ (SqL.of (J _ _ a6));refine⟨_,rfl,_,rfl,by show 1<=sizeLine;decide,λc1 d5=>?_⟩;have u1:=qf (o:=HO.lst [x]) d5;have le2:=c6 e (z18 a4);refine⟨lr,c1,_,_,rfl,rfl,(J.trans u1) _ _ d8,qb,z40 (show _<=70000 by show e.2.length+1<=70000;lia) (by decide),λc2 a2=>?_⟩;have u2:=qf (o:=HO.lst (e.2++ [x])) a2;have d0:=qb (H:=upd E3 c1 (.lst [x])) (a:=c2) (o:=HO.lst (e.2++ [x]));have b7:=u1.trans u2;have d4:=b7 _ _ a7;have e5:H c2=none:=(((O.trans b1).trans (sF.trans J)).trans u1).free a2;have c9:c2≠D:=λy=>by rw[y,u1 _ _ a7]at a2;cases a2
      generalize upd (upd E3 c1 (.lst [x])) c2 (.lst (e.2++ [x]))=E5 at*;refine⟨_,d4,by rw[z30,lx];exact q1l (by lia),⟨_,rfl⟩,(J.trans b7).set hD,xs++ [(.ref c2,e.2++ [x])],by rw[qb,z35];rfl,by rw[z1o,lx];rfl,?_,λF' hF=>?_⟩
      ·rw[z35,a1,z3g,d9,z35];rfl
      ·have b8:∀c o,c≠D->E5 c=some o->F' c=some o:=λc o hc h=>hF c o hc (by rw[qi hc];exact h);refine(rx F' λc o hc h=>b8 c o hc (b7 _ _ h)).app λe' d6=>?_;rw[z1m.mp d6];exact⟨c2,zr,e5,b8 _ _ c9 d0⟩
    ·rintro σ F ⟨sF,v7,lA,es,rfl,c7,b3,a9,a0⟩;rw[z30,<- z30 (f:=λx:V×List V=>x.2),z2t,Z]at a0;refine⟨_,zr,(O.trans b1).trans sF,_,_,_,_,lA,es,zr,c7,b3,a9,?_⟩;rw[a0,d2,q2o]
  ·rintro σ G ⟨O,v4,v5,v6,v7,rA,rs,rfl,c8,a5,b5,Z⟩;rw[z30,z2t]at Z;exact⟨_,zr,q rA rs G O c8 a5 b5 Z⟩
def vf{a b:Int}(h:a≠b):decide (V.int a=V.int b)=false:=z2w λe=>h (by injection e)
def vt{a b:Int}(h:a=b):decide (V.int a=V.int b)=true:=z3b (by rw[h])
def cV:Option Int->V
 | none=> .non
 | some i=> .int i
def cD:Option Int->PyData
 | none=> .none
 | some i=> .int i
def RowK:Kd->Int->Hp->List V->Prop
 | .counts,_,_,row=>∃is:List Int,row=is.map V.int/\∀i∈is,0<=i/\i < 10^24
 | .costs,_,_,row=>∃cs:List (Option Int),row=cs.map cV
 | .bests _,_,_,row=>∃is:List Int,row=is.map V.int
 | .trusts u,t,_,row=>t=u/\∃is:List Int,row=is.map V.int
 | .truths,_,_,row=>∃bs:List Bool,row=bs.map V.bl
 | .hands,_,H,row=>∃ss:List (List Str),q1b H row ss/\∀s∈ss,s.length<=10
def OneR:Kd->Hp->List V->V->Prop
 | .counts,_,row,v=>∃is:List Int,row=is.map V.int/\v= .int (is.foldl (· * ·) 1)
 | .costs,_,row,v=>∃cs:List (Option Int),row=cs.map cV/\v=cV (cs.foldl addC (some 0))
 | .bests _,_,row,v=>∃is:List Int,row=is.map V.int/\v= .int is.sum
 | .trusts u,_,row,v=>∃is:List Int,row=is.map V.int/\v= .int (mT u is)
 | .truths,_,row,v=>∃bs:List Bool,row=bs.map V.bl/\v= .bl (bs.all id)
 | .hands,H,row,v=>∃(ss:xF) (b:Addr),q1b H row ss/\v= .ref b/\H b=some (.tup ((uniq ss.flatten).map V.str))
def qou{is:List Int}(h:∀i∈is,0<=i/\i < 10^24)(n:Nat)(hn:is.length<=n):0<=is.foldl (· * ·) 1/\is.foldl (· * ·) 1<=(10^24)^n:=by
 have all:∀l:List Int,(∀i∈l,0<=i/\i < 10^24)->0<=l.foldl (· * ·) 1/\l.foldl (· * ·) 1<=(10^24)^l.length:=by
  refine q25 (C:=λl=>(∀i∈l,0<=i/\i < 10^24)->0<=l.foldl (· * ·) 1/\l.foldl (· * ·) 1<=(10^24)^l.length) (λ_=>⟨by decide,by decide⟩) λl x ih h=>?_;obtain⟨a,b⟩:=ih λi hi=>h i (z17 _ hi);obtain⟨D,x1⟩:=h x (z0w _ (z1m.mpr rfl));rw[z2f,z1o];refine⟨z3j a D,?_⟩;show l.foldl (· * ·) 1*x<=(10^24)^(l.length+1);rw[Int.pow_succ];exact Int.mul_le_mul b (z3u x1) D (Int.pow_nonneg (by decide))
 obtain⟨a,b⟩:=all is h;refine⟨a,z3v b ?_⟩;obtain⟨m,rfl⟩:=Nat.exists_eq_add_of_le hn;rw[Int.pow_add];have c:(0:Int)<=(10^24)^is.length:=Int.pow_nonneg (by decide);have d:(1:Int)<=(10^24)^m:=Int.pow_pos (by decide);have:=z02 d c;rw[Int.mul_one]at this;exact this
def qvl(is:List Int):(is.map some).foldl addC (some 0)=some is.sum:=by
 refine q25 (C:=λis=>(is.map some).foldl addC (some 0)=some is.sum) rfl (λl x ih=>?_) is;rw[z35,z2f,ih,List.sum_append];show some (l.sum+x)=some (l.sum+(x+0));rw[Int.add_zero]
def qt2{cs:List (Option Int)}(h:none∈cs):cs.foldl addC (some 0)=none:=by
 have st:∀l:List (Option Int),l.foldl addC none=none:=λl=>by
  induction l with
  | nil=>rfl
  | cons x l ih=>exact ih
 obtain⟨a,b,rfl⟩:=List.append_of_mem h;rw[z2f,List.foldl_cons];have:addC (a.foldl addC (some 0)) none=none:=by cases a.foldl addC (some 0) <;> rfl
 rw[this];exact st b
theorem qmf:∀{cs:List (Option Int)},none∉cs->∃is:List Int,cs=is.map some
 | [],_=>⟨[],rfl⟩
 | c::cs,h=>by
  obtain⟨is,e⟩:=qmf (cs:=cs) λz=>h (z16 _ z);cases c with
  | none=>exact absurd (z1p ..) h
  | some i=>exact⟨i::is,by rw[e];rfl⟩
theorem qhi{K:xA}{H:Hp}:∀cs:List (Option Int),Dats K H (cs.map cD) (cs.map cV)
 | []=> .nil
 | none::cs=> .cons .non (qhi cs)
 | some i::cs=> .cons (.int i) (qhi cs)
theorem qe7:∀cs:List (Option Int),PyData.depthAll (cs.map cD)=0
 | []=>rfl
 | none::cs=>by show max 0 _=0;rw[qe7 cs];rfl
 | some _::cs=>by show max 0 _=0;rw[qe7 cs];rfl
def qvm(cs:List (Option Int)):((cs.map cD).any λy=>PyData.eqv y .none)=decide (none∈cs):=by
 induction cs with
 | nil=>rfl
 | cons c cs ih=>
  rw[z3k,z3p,ih];cases c with
  | none=>
   rw[show PyData.eqv (cD none) .none=true by rw[cD,PyData.eqv],Bool.true_or,z3b (z1p ..)]
  | some i=>
   rw[show PyData.eqv (cD (some i)) .none=false by rw[cD,PyData.eqv],Bool.false_or];exact decide_eq_decide.mpr ⟨z16 _,λh=>(z3m.mp h).elim (λe=>nomatch e) id⟩
def q10q:Sp:=λvs H Q _=>∃(k:Kd) (r:Addr) (t:Int) (row:List V),vs=[.int (q2s k),.ref r,.int t]/\H r=some (.lst row)/\row.length<=3/\RowK k t H row/\∀v H',Same H H'->OneR k H' row v->Q v H'
def qco(T:Txt K mg):Def P w K mg base 1 "_law_one_worth" ["_law_kind","_law_row","_law_top"] q10q:=by
 refine T.qef.ok q2a (λvs H Q E h=>?_) λf cdv A outer s H vs Q E hr h=>?_
 ·obtain⟨k,r,t,row,rfl,_⟩:=h;rfl
 ·obtain⟨k,r,t,row,rfl,D,l3,rk,q⟩:=h;refine⟨_,(qk8
   (q12 (qp q1f (pv 0) qc (qq _)) (q3f
   (qm (i:=3) q2a.nd rfl (Or.inl rfl) qc)
   (q1o PassesOwn.never rfl (q18 K (pv 1)) (qu (i:=4) q2a.nd rfl (Or.inl rfl)) (qg (qm (i:=3) q2a.nd rfl (Or.inl rfl) (ql qc7 (pv 3) (pv 4)))))
   (qh (pv 3))) qr)
   (q12 (PW.pt (qep (qp q1f (pv 0) qc (qq _)) (qc1 (qp (qxz hr.units K) q38 (pv 1) (by with_unfolding_all rfl))))) (qg (qh q38)) qr)
   (q12 (PW.pt (q7c (qp q1f (pv 0) qc (qq _)) (q5a (qp q1f (pv 0) qc (qq _))))) (qg (qh (qo (qia rfl K) rfl T.b_sum qrk (pa_1 (pv 1))))) qr)
   (q12 (qp q1f (pv 0) qc (qq _)) (qg (qh (qo (qs4 rfl K) rfl T.b_min q96 (pa_1 (ql q5e (pv 1) (q1p (pa_1 (pv 2)))))))) qr)
   (q12 (qp q1f (pv 0) qc (qq _)) (qg (qh (qo (q6l rfl K) rfl T.b_all qb1 (pa_1 (pv 1))))) qr)
   (qm (i:=5) q2a.nd rfl (Or.inl rfl) (q1p q26))
   (q1o PassesOwn.never rfl (q18 K (pv 1)) (qu (i:=6) q2a.nd rfl (Or.inl rfl)) (qg (qm (i:=5) q2a.nd rfl (Or.inl rfl) (ql q5e (pv 5) (q2v (qev K) rfl T.q8e q5y (pa_1 (pv 6)))))))
   (qh (q2v (q6f K) rfl T.q9h q7q (pa_1 (qo (q7s rfl P w) rfl T.q2h q2c (pa_1 (q2v (qba rfl P w K) rfl T.b_set qlz (pa_1 (pv 5))))))))),?_⟩
  cases k with
  | counts=>
   obtain⟨is,rfl,h0⟩:=rk;rw[z30]at l3;refine⟨_,zr,zr,_,zr,q1d rfl ?_⟩;refine⟨_,rfl,r,rfl,⟨_,SqL.of D⟩,q20 (xs:=is.map V.int) (λi σ G=>G=H/\∃v,σ=[some (.int 0),some (.ref r),some (.int t),some (.int ((is.take i).foldl (· * ·) 1)),v,none,none]) ⟨rfl,none,rfl⟩ (λi σ G _ z=>by rw[z.1];exact SqL.of D) ?_ ?_⟩
   ·rintro i x σ G hx ⟨rfl,v,rfl⟩;rw[z22]at hx;obtain⟨n,hn,rfl⟩:=z0q.mp hx;have il:=(z07.mp hn).1;obtain⟨n0,n1⟩:=h0 n (z18 hn);obtain⟨a,b⟩:=qou (is:=is.take i) (λj hj=>h0 j (z15 hj)) 3 (by rw[z2g];lia);have b3:((10^24)^3:Int) < 2^600:=by decide+kernel
    have b1:(10^24:Int) < 2^600:=by decide+kernel
    refine⟨_,zr,_,zr,_,_,zr,zr,⟨⟨a,z1v b b3⟩,n0,Int.lt_trans n1 b1⟩,zr,some (.int n),?_⟩;rw[z3g,hn,z2f];rfl
   ·rintro σ G ⟨rfl,v,rfl⟩;rw[z30,z2t];exact⟨_,zr,q _ G (Same.refl _) ⟨is,zr,zr⟩⟩
  | costs=>
   obtain⟨cs,rfl⟩:=rk;refine⟨_,zr,zr,_,zr,qk (vf (by decide)) ?_⟩;have dl:Dat K H (.list (cs.map cD)) (.ref r):= .lst (SqL.of D) (qhi cs);refine⟨_,rfl,rfl,_,rfl,q1d (vt rfl) ⟨_,rfl,.none,cs.map cD,.non,dl,by rw[qe7];decide,?_⟩⟩;rw[qvm];refine⟨_,zr,ite2 (λh=>?_) (λh=>?_)⟩
   ·have h:=of_decide_eq_true h;exact q .non H (Same.refl _) ⟨cs,rfl,by rw[qt2 h];rfl⟩
   ·obtain⟨is,rfl⟩:=qmf λz=>h (z3b z);refine⟨_,rfl,rfl,_,rfl,q1d (vt rfl) ⟨_,rfl,r,is,rfl,SqL.of (by rw[D,z46];rfl),?_⟩⟩;exact q _ H (Same.refl _) ⟨is.map some,rfl,by rw[qvl];rfl⟩
  | bests m=>
   obtain⟨is,rfl⟩:=rk;refine⟨_,rfl,rfl,_,rfl,qk (vf (by show (2:Int)≠0;decide)) ?_⟩;refine⟨_,rfl,rfl,_,rfl,qk (vf (by show (2:Int)≠1;decide)) ?_⟩;refine⟨_,rfl,rfl,_,rfl,qk (vf (by show (2:Int)≠1;decide)) ⟨_,rfl,rfl,_,rfl,q1d (vt rfl) ⟨_,rfl,r,is,rfl,SqL.of D,?_⟩⟩⟩;exact q _ H (Same.refl _) ⟨is,zr,zr⟩
  | trusts u=>
   obtain⟨rfl,is,rfl⟩:=rk;rw[z30]at l3;refine⟨_,rfl,rfl,_,rfl,qk (vf (by show (3:Int)≠0;decide)) ?_⟩;refine⟨_,rfl,rfl,_,rfl,qk (vf (by show (3:Int)≠1;decide)) ?_⟩;refine⟨_,rfl,rfl,_,rfl,qk (vf (by show (3:Int)≠1;decide)) ⟨_,rfl,rfl,_,rfl,qk (vf (by show (3:Int)≠2;decide)) ?_⟩⟩;refine⟨_,zr,zr,_,zr,q1d (vt rfl) ?_⟩;refine⟨_,rfl,_,rfl,by show 1<=sizeLine;decide,λc hc=>?_⟩;have s1:=qf (o:=HO.lst [V.int t]) hc;refine⟨r,c,_,_,rfl,rfl,s1 _ _ D,qb,z40 (show _<=10 by rw[z30];show is.length+1<=10;lia) (by decide),λc2 O=>?_⟩;have s2:=qf (o:=HO.lst (is.map V.int++ [V.int t])) O;refine⟨c2,is++ [t],mT t is,rfl,SqL.of (by rw[qb,z35];rfl),by rw[botC,q10o],?_⟩;exact q _ _ (s1.trans s2) ⟨is,zr,zr⟩
  | truths=>
   obtain⟨bs,rfl⟩:=rk;refine⟨_,zr,zr,_,zr,qk (vf (by decide)) ?_⟩;refine⟨_,zr,zr,_,zr,qk (vf (by decide)) ?_⟩;refine⟨_,zr,zr,_,zr,qk (vf (by decide)) ⟨_,zr,zr,_,zr,qk (vf (by decide)) ?_⟩⟩;refine⟨_,zr,zr,_,zr,qk (vf (by decide)) ?_⟩;refine⟨_,zr,zr,_,zr,q1d (vt rfl) ⟨_,zr,r,bs,zr,SqL.of D,?_⟩⟩;exact q _ H (Same.refl _) ⟨bs,zr,zr⟩
  | hands=>
   obtain⟨J,Z,l7⟩:=rk;have a9:=Paired.length Z;refine⟨_,zr,zr,_,zr,qk (vf (by decide)) ?_⟩;refine⟨_,zr,zr,_,zr,qk (vf (by decide)) ?_⟩;refine⟨_,zr,zr,_,zr,qk (vf (by decide)) ⟨_,zr,zr,_,zr,qk (vf (by decide)) ?_⟩⟩;refine⟨_,zr,zr,_,zr,qk (vf (by decide)) ?_⟩;refine⟨_,zr,zr,_,zr,qk (vf (by decide)) ?_⟩;refine⟨by decide,λc0 a4=>?_⟩;have s0:=qf (o:=HO.lst []) a4;have lf:∀i,(J.take i).flatten.length<=30:=λi=>by
    have:∀l:List (List Str),(∀s∈l,s.length<=10)->l.flatten.length<=10*l.length:=λl=>by
     induction l with
     | nil=>exact λ_=>z47 _
     | cons x l ih=>
      intro h;rw[z27,z1o,z2i];have:=h x (z1p ..);have:=ih λs hs=>h s (z16 _ hs)
      lia
    have h1:=this (J.take i) λs hs=>l7 s (z15 hs);rw[z2g]at h1
    lia
   refine⟨_,zr,r,zr,⟨_,SqL.of (s0 _ _ D)⟩,q20 (xs:=row) (λi σ G=>Same H G/\∃(v:Option V) (c:Addr),σ=[some (.int 5),some (.ref r),some (.int t),none,none,some (.ref c),v]/\G c=some (.lst ((J.take i).flatten.map V.str))) ⟨s0,none,c0,zr,qb⟩ (λi σ G _ z=>SqL.of (z.1 _ _ D)) ?_ ?_⟩
   ·rintro i x σ G hx ⟨sg,v,c,rfl,hc⟩;obtain⟨s1,a0,b,rfl,hb⟩:=q4m Z hx;have a2:=sg _ _ hb;refine⟨_,zr,_,zr,b,_,zr,.inr (SqT.of a2),λl hl=>?_⟩;have u1:=qf (o:=HO.lst (s1.map V.str)) hl;have a1:=lf i;have l71:=l7 s1 (z18 a0);refine⟨c,l,_,_,rfl,rfl,u1 _ _ hc,qb,z40 (show _<=100 by rw[z30,z30];lia) (by decide),λc2 O=>?_⟩;refine⟨sg.trans (u1.trans (qf O)),_,c2,zr,?_⟩;rw[qb,z3g,a0,List.flatten_append,z35];simp
   ·rintro σ G ⟨sg,v,c,rfl,hc⟩;rw[a9,z2t]at hc;have a1:=lf J.length;rw[z2t]at a1;refine⟨_,zr,c,J.flatten,zr,.inl (SqL.of hc),by lia,λe1 us a5 b2 a8=>?_⟩;have u1:=qf (o:=SetH P w e1 us) a5;refine⟨e1,us,zr,qb,λe2 a6=>?_⟩;rw[qdl b2 a8];have u2:=qf (o:=HO.lst ((uniq J.flatten).map V.str)) a6;refine⟨_,_,zr,.inl ⟨SqL.of qb,λt1 a7=>?_⟩⟩;have u3:=qf (o:=HO.tup ((uniq J.flatten).map V.str)) a7;have S3:=sg.trans (u1.trans (u2.trans u3));exact q _ _ S3 ⟨J,t1,q1i (λb ys z=>S3 b _ z) Z,zr,qb⟩
def q10r:Sp:=λvs H Q _=>∃(a:Addr) (zs0:List V) (F:xF),vs=[.ref a]/\H a=some (.lst zs0)/\q1b H zs0 F/\F.length<=300000/\(∀f∈F,Norm f)/\
 ∀p us (R:xF) H',Same H H'->H p=none->H' p=some (.lst us)->q1b H' us R->Acc R->(∀x,Up R x↔Up F x)->Q (.ref p) H'
def qmg(T:Txt K mg):Def P w K mg base 2 "_law_thin" ["_law_sets"] q10r:=by
  refine T.qnn.ok q5n (λvs H Q E h=>?_) λf cdv A outer s H vs Q E hr h=>?_
  · obtain⟨a,b6,F,rfl,_⟩:=h
    rfl
  · obtain⟨a,b6,F,rfl,ha,hF,lF,nF,k⟩:=h
    refine⟨_,(q3f
      (qm (i:=1) q5n.nd rfl (Or.inl rfl) (q1p q26))
      (q1o PassesOwn.never rfl (q18 K (pv 0)) (qu (i:=2) q5n.nd rfl (Or.inr rfl)) (qg (q12 (q3t (q3s (qo (qb4 rfl K) rfl T.b_any ql7 (pa_1 (q2d (N:=["_law_old","_law_one"]) (caps:=[none,some 2]) rfl (by with_unfolding_all rfl) (q18 K (pv 1)) (λ_ _ _ _ _=>(qu (i:=0) (show (["_law_old","_law_one"]:xD).Nodup by decide+kernel) rfl (Or.inl rfl))) (λ_ _ _ _ _=>q2u) (λ_ _ _ _ _=>(q11 (q4n T) hr rfl (pa_2 (pv 0) (pv 1))))))))) (qg (qm (i:=1) q5n.nd rfl (Or.inl rfl) (ql q5e (q2d (N:=["_law_old","_law_one"]) (caps:=[none,some 2]) rfl (by with_unfolding_all rfl) (q18 K (pv 1)) (λ_ _ _ _ _=>(qu (i:=0) (show (["_law_old","_law_one"]:xD).Nodup by decide+kernel) rfl (Or.inl rfl))) (λ_ _ _ _ _=>qaz (q3t (q3s (q11 (q4n T) hr rfl (pa_2 (pv 1) (pv 0)))))) (λ_ _ _ _ _=>(pv 0))) (q1p (pa_1 (pv 2)))))) qr)))
      (qh (qo (q6r hr.units K) rfl T.q2h q2c (pa_1 (pv 1))))),?_⟩
    have c6:=Paired.length hF;refine⟨by decide,λk0 c0=>?_⟩;have s0:=qf (o:=HO.lst []) c0;refine⟨_,rfl,a,rfl,⟨_,SqL.of (s0 _ _ ha)⟩,q20 (xs:=b6) (λi σ H'=>∃(v1:Option V) (kq:Addr) (zs:List V) (J:xF),σ=[some (.ref a),some (.ref kq),v1]/\Same H H'/\H' kq=some (.lst zs)/\q1b H' zs J/\J.length<=i/\(∀r∈J,Norm r)/\(∀r∈J,∀q∈J,(∀x∈r,x∈q)->r=q)/\J.Nodup/\∀x,Up J x↔Up (F.take i) x)
      ⟨none,k0,[],[],rfl,s0,qb,.nil,z47 _,(λ_ z=>nomatch z),(λ_ z=>nomatch z),z3f,λ_=>Iff.rfl⟩ (λi σ H' _ z=>by obtain⟨_,_,_,_,_,z,_⟩:=z;exact SqL.of (z _ _ ha)) ?_ ?_⟩
    · rintro i x σ G1 hx ⟨v1,kq,zs,J,rfl,s1,a0,a2,lk,hN,a1,hnd,a8⟩
      have icl:i < b6.length:=(z07.mp hx).1;have lzk:=Paired.length a2;obtain⟨u,t,hu,rfl,c4⟩:=q2y hF hx;have et:=s1 _ _ c4;have nu:=nF u (z18 hu);have a9:F.take (i+1)=F.take i++ [u]:=by rw[z3g,hu];rfl
      have hU:∀x:List Str,(∀w∈u,w∈x)↔∀w∈u,w∈x:=λ_=>Iff.rfl;refine⟨_,zr,kq,zr,⟨_,SqL.of a0⟩,λD hD=>?_⟩;refine q1u zs.length (λj σ' H'=>(∃v,σ'=[v,some (.ref t)])/\Same G1 H'/\H' D=some (.lst (((J.take j).map λr=>decide (∀x∈r,x∈u)).map V.bl))) ⟨⟨_,zr⟩,qf hD,qb⟩ (λj σ' H' hj p=>?_) (λσ' H' p=>⟨?_,?_⟩) (λj σ' H' hj p x H3 y=>?_)
      · obtain⟨_,sm,_⟩:=p
        exact⟨_,zs[j],SqL.of (sm _ _ a0),z0d hj⟩
      · obtain⟨_,sm,_⟩:=p
        exact⟨_,SqL.of (sm _ _ a0),z47 _⟩
      · obtain⟨_,sm,eD⟩:=p
        rw[Paired.length a2,z2t]at eD;refine⟨D,J.map λr=>decide (∀x∈r,x∈u),zr,SqL.of eD,_,zr,ite2 (λh1=>?_) (λh1=>?_)⟩
        · have no:∀r∈J,¬ ∀x∈r,x∈u:=λr hr z=>by
            have:((J.map λr=>decide (∀x∈r,x∈u)).any id)=true:=z2p.mpr ⟨true,z44.mpr ⟨r,hr,z3b z⟩,rfl⟩;rw[this]at h1;cases h1
          have a6:=sm _ _ a0;have b7:=sm _ _ et;have a5:q1b H' zs J:=q1i (λb ys z=>sm b _ z) a2;refine⟨_,zr,kq,zr,⟨_,SqL.of a6⟩,λD2 b8=>?_⟩;refine q1u zs.length (λj σ' G2=>(∃v,σ'=[v,some (.ref t)])/\Same H' G2/\∃qs,G2 D2=some (.lst qs)/\q1b H' qs ((J.take j).filter λr=> !decide (∀x∈u,x∈r))/\qs.length<=j) ⟨⟨_,rfl⟩,qf b8,[],qb,.nil,z47 _⟩ (λj σ' G2 hj p=>?_) (λσ' G2 p=>⟨?_,?_⟩) (λj σ' G2 hj p x H4 y=>?_)
          · obtain⟨_,O,_⟩:=p
            exact⟨_,zs[j],SqL.of (O _ _ a6),z0d hj⟩
          · obtain⟨_,O,_⟩:=p
            exact⟨_,SqL.of (O _ _ a6),z47 _⟩
          · obtain⟨_,O,qs,b2,hq,lq⟩:=p
            rw[Paired.length a5,z2t]at hq;rw[Paired.length a5]at lq;refine⟨_,rfl,by show 1<=sizeLine;decide,λe3 b9=>?_⟩;have u4:=qf (o:=HO.lst [.ref t]) b9;refine⟨D2,e3,_,_,rfl,rfl,u4 _ _ b2,qb,z3x (q14 (by show _+1 < _;lia)),λpk c1=>?_⟩;have u5:=qf (o:=HO.lst (qs++ [.ref t])) c1;have sC:=O.trans (u4.trans u5);refine⟨_,pk,_,J.filter (λr=> !decide (∀x∈u,x∈r))++ [u],rfl,s1.trans (sm.trans sC),qb,q1m (q1i (λb ys z=>sC b _ z) hq) (.cons ⟨t,rfl,sC _ _ b7⟩ .nil),?_,λr hr=>?_,λr hr q Z h=>?_,?_,by rw[a9];exact qsn a8 hU⟩
            · have:=z10 (λr=> !decide (∀x∈u,x∈r)) J
              rw[z1o];show _+1<=_
              lia
            · rcases z2u.mp hr with hr | hr
              · exact hN r (z2x.mp hr).1
              · rw[z1m.mp hr]
                exact nu
            · rcases z2u.mp hr with hr | hr
              · rcases z2u.mp Z with Z | Z
                · exact a1 r (z2x.mp hr).1 q (z2x.mp Z).1 h
                · rw[z1m.mp Z]at h
                  exact absurd h (no r (z2x.mp hr).1)
              · rcases z2u.mp Z with Z | Z
                · rw[z1m.mp hr]at h
                  have:=(z2x.mp Z).2;rw[z3b h]at this;cases this
                · rw[z1m.mp hr,z1m.mp Z]
            · rw[z2d]
              refine⟨hnd.filter _,by simp,λx hx y hy e=>?_⟩;rw[z1m.mp hy]at e;exact no x (z2x.mp hx).1 (by rw[e];exact λ_ z=>z)
          · obtain⟨⟨v,rfl⟩,O,qs,b2,hq,lq⟩:=p
            obtain⟨rfl,b5⟩:=y;have b4:=b5 _ (SqL.of (O _ _ a6));obtain⟨r,br,hr,rfl,b3⟩:=q2y a5 b4;have a7:(J.take (j+1)).filter (λr=> !decide (∀x∈u,x∈r))=(J.take j).filter (λr=> !decide (∀x∈u,x∈r))++(if (!decide (∀x∈u,x∈r))=true then [r] else []):=by
              rw[z3g,hr,z1u]
              congr 1
              show List.filter _ [r]=_;rw[z2j,List.filter_nil]
            refine⟨_,zr,_,zr,t,br,u,r,zr,O _ _ b7,O _ _ b3,_,zr,ite2 (λh2=>?_) (λh2=>?_)⟩
            · refine⟨_,rfl,_,b2,q14 (by have:=Paired.length a5;lia),⟨_,rfl⟩,O.set b8,_,qb,?_,by rw[z1o];show _+1<=_;lia⟩
              rw[a7,if_pos h2];exact q1m hq (.cons ⟨br,zr,b3⟩ .nil)
            · refine⟨⟨_,zr⟩,O,qs,b2,?_,by lia⟩
              rw[a7,if_neg h2,z31];exact hq
        · exact⟨_,kq,zs,J,zr,s1.trans sm,sm _ _ a0,q1i (λb ys z=>sm b _ z) a2,by lia,hN,a1,hnd,by
            rw[a9];refine qso a8 hU ?_;have h2:((J.map λr=>decide (∀x∈r,x∈u)).any id)=true:=by
              cases z:((J.map λr=>decide (∀x∈r,x∈u)).any id) with
              | true=>rfl
              | false=>exact absurd (by rw[z];rfl) h1
            obtain⟨b,hb,eb⟩:=z2p.mp h2;obtain⟨r,hr,rfl⟩:=z44.mp hb;exact⟨r,hr,of_decide_eq_true eb⟩⟩
      · obtain⟨⟨v,rfl⟩,sm,eD⟩:=p
        obtain⟨rfl,b5⟩:=y;have b4:=b5 _ (SqL.of (sm _ _ a0));obtain⟨r,br,hr,rfl,b3⟩:=q2y a2 b4;refine⟨_,zr,_,zr,br,t,r,u,zr,sm _ _ b3,sm _ _ et,_,eD,?_,⟨_,zr⟩,sm.set hD,?_⟩
        · rw[z30,z30,z2g]
          exact q14 (by lia)
        · rw[qb,z3g,hr,z35,z35]
          rfl
    · rintro σ H1 ⟨v1,kq,zs,J,rfl,s1,ek,hz,lk,hN,a1,hnd,a8⟩
      rw[c6,z2t]at a8;refine⟨_,zr,kq,zs,J,zr,SqL.of ek,hz,λp us hp c5=>?_⟩;have s2:=qf (o:=HO.lst us) hp;have a4:∀x,x∈Tim.srt q17 J↔x∈J:=λx=>(Tim.q13 q17 J).mem_iff;refine k p us (Tim.srt q17 J) _ (s1.trans s2) (s1.free hp) qb (q1i (λb ys e=>s2 b _ e) c5) ⟨q58 q28 (Tim.q23 q28 _) ((Tim.q13 q17 _).nodup_iff.mpr hnd),λx hx=>hN x ((a4 x).mp hx),λx hx y hy h=>a1 x ((a4 x).mp hx) y ((a4 y).mp hy) h⟩ λx=>?_;rw[<- a8];exact⟨λ⟨r,hr,z⟩=>⟨r,(a4 r).mp hr,z⟩,λ⟨r,hr,z⟩=>⟨r,(a4 r).mpr hr,z⟩⟩
def OneR.kt{H H':Hp}{k:Kd}{row:List V}{v:V}(s:KeepT H H')(h:OneR k H row v):OneR k H' row v:=by
 cases k with
 | hands=>
  obtain⟨ss,b,h1,h2,h3⟩:=h;exact⟨ss,b,q1i (λb ys z=>s b _ z) h1,h2,s _ _ h3⟩
 | _=>exact h
def pc:Kd->Int->V×(List V×Int)->List V
 | .counts,_,(.int i,(_,n))=>[.int (i*n)]
 | .bests _,m,(v,(_,n))=>List.replicate (mn m n) v
 | _,_,(v,_)=>if v= .non then [] else [v]
def Fnd(k:Kd)(m:Int)(F:Hp)(rl:List (List V×Int))(xs:List V):Prop:=∃es:List (V×(List V×Int)),es.map (·.2)=rl/\(∀e∈es,OneR k F e.2.1 e.1)/\xs=es.flatMap (pc k m)
theorem Fnd.kt{k:Kd}{m:Int}{F D:Hp}{J:List (List V×Int)}{xs:List V}(s:KeepT F D)(h:Fnd k m F J xs):Fnd k m D J xs:=let ⟨es,a,b,c⟩:=h;⟨es,a,λe he=>(b e he).kt s,c⟩
def Fnd.snoc{k:Kd}{m:Int}{F:Hp}{D:List (List V×Int)}{xs:List V}{row:List V}{n:Int}{v:V}(h:Fnd k m F D xs)(o:OneR k F row v):Fnd k m F (D++ [(row,n)]) (xs++pc k m (v,(row,n))):=by
 obtain⟨es,a,b,c⟩:=h;refine⟨es++ [(v,(row,n))],by rw[z35,a];rfl,λe he=>?_,by rw[z1j,c];simp⟩;rcases z2u.mp he with h | h
 ·exact b e h
 ·rw[z1m.mp h];exact o
def q10s{k:Kd}{m:Int}(h1:1<=m)(h4:m<=4)(e:V×(List V×Int)):(pc k m e).length<=4:=by
 obtain⟨v,row,n⟩:=e;have D:(if v=V.non then ([]:List V) else [v]).length<=4:=by split <;> simp
 cases k with
 | counts=>cases v <;> first | exact D | (show 1<=4;decide)
 | bests u=>
  show (List.replicate (mn m n) v).length<=4;rw[List.length_replicate];unfold mn;split <;> lia
 | _=>exact D
def Fnd.len{k:Kd}{m:Int}{F:Hp}{D:List (List V×Int)}{xs:List V}(h1:1<=m)(h4:m<=4)(h:Fnd k m F D xs):xs.length<=4*D.length:=by
 obtain⟨es,a,b,c⟩:=h;rw[c,<- a,z30];clear a b c
 induction es with
 | nil=>exact z47 _
 | cons e es ih=>
  rw[List.flatMap_cons,z1o,z2i];have:=q10s (k:=k) h1 h4 e
  lia
theorem q8c:∀{a b:List Int},a.map V.int=b.map V.int->a=b
 | [],[],_=>rfl
 | [],_::_,h=>nomatch h
 | _::_,[],h=>nomatch h
 | x::a,y::b,h=>by
  rw[z3k,z3k]at h;injection h with h1 h2;injection h1 with h1;rw[h1,q8c h2]
theorem qov:∀{a b:List Bool},a.map V.bl=b.map V.bl->a=b
 | [],[],_=>rfl
 | [],_::_,h=>nomatch h
 | _::_,[],h=>nomatch h
 | x::a,y::b,h=>by
  rw[z3k,z3k]at h;injection h with h1 h2;injection h1 with h1;rw[h1,qov h2]
def q10t:∀{x y:Option Int},cV x=cV y->x=y
 | none,none,_=>rfl
 | none,some _,h=>nomatch h
 | some _,none,h=>nomatch h
 | some i,some j,h=>by
  have:V.int i=V.int j:=h;injection this with h;rw[h]
theorem qt3:∀{a b:List (Option Int)},a.map cV=b.map cV->a=b
 | [],[],_=>rfl
 | [],_::_,h=>nomatch h
 | _::_,[],h=>nomatch h
 | x::a,y::b,h=>by
  rw[z3k,z3k]at h;injection h with h1 h2;rw[q10t h1,qt3 h2]
def qbv{α:Type}{k:Kd}{m:Int}{F:Hp}{enc:α->List V}{out:α×Int->List V}(h:∀(a:α) (n:Int) (v:V),OneR k F (enc a) v->pc k m (v,(enc a,n))=out (a,n)):∀{D:List (α×Int)} {xs:List V},Fnd k m F (D.map λq=>(enc q.1,q.2)) xs->xs=D.flatMap out:=by
 intro D xs ⟨es,e1,e2,e3⟩;rw[e3];clear e3
 induction es generalizing D with
 | nil=>
  cases D with
  | nil=>rfl
  | cons q D=>exact nomatch e1
 | cons e es ih=>
  cases D with
  | nil=>exact nomatch e1
  | cons q D=>
   rw[z3k,z3k]at e1;injection e1 with h1 h2;rw[List.flatMap_cons,List.flatMap_cons,ih h2 (λx hx=>e2 x (z16 _ hx))];have h3:=e2 e (z1p ..);obtain⟨v,r,n⟩:=e;have h1:(r,n)=(enc q.1,q.2):=h1;cases h1
   rw[h q.1 q.2 v h3]
def SmR(k:Kd)(H:Hp)(a:Wo)(xs:List V):Prop:=
 match k with
 | .bests _=>∃l,a= .nums l/\xs=l.map V.int
 | .hands=>∃R,a= .acc R/\q1b H xs R
 | _=>WV H a (xs.headD .non)/\xs.length=1
theorem qe8{H:Hp}:∀{zs:List V} {R S:xF},q1b H zs R->q1b H zs S->R=S
 | _,_,_,.nil,.nil=>rfl
 | _,_,_,.cons ⟨b,e,h⟩ r,.cons ⟨b',e',h'⟩ r'=>by
  rw[e]at e';cases e'
  rw[h]at h';injection h' with h';injection h' with h';have:∀{x y:xD},x.map V.str=y.map V.str->x=y:=λ{x}=>by
   induction x with
   | nil=>intro y e;cases y with | nil=>rfl | cons _ _=>exact nomatch e
   | cons a x ih=>
    intro y e;cases y with
    | nil=>exact nomatch e
    | cons c y=>
     rw[z3k,z3k]at e;injection e with e1 e2;injection e1 with e1;rw[e1,ih e2]
  rw[this h',qe8 r r']
def qbw{H:Hp}{sm:Str->List V}{r:Str->List (List Str)}(p:xD):(∀n∈p,q1b H (sm n) (r n))->Paired (q1b H) (cart (p.map sm)) (cart (p.map r)):=by
 refine q25 (C:=λp=>(∀n∈p,q1b H (sm n) (r n))->Paired (q1b H) (cart (p.map sm)) (cart (p.map r))) (λ_=> .cons .nil .nil) (λp n O h=>?_) p;rw[z35,z35,z3k,z3k,z43,z43,q2o,q2o];have h1:=O λm hm=>h m (z17 _ hm);have h2:=h n (z0w _ (z1m.mpr rfl));clear O h;generalize cart (p.map sm)=A at h1 ⊢;generalize cart (p.map r)=B at h1 ⊢
 induction h1 with
 | nil=>exact .nil
 | @cons x y xs ys hx _ D=>
  rw[List.flatMap_cons,List.flatMap_cons];refine q1m ?_ D;clear D;generalize sm n=zs at h2;generalize r n=R at h2
  induction h2 with
  | nil=>exact .nil
  | cons hz _ J=>exact .cons (q1m hx (.cons hz .nil)) J
def RLs(sm:Str->List V)(Y:Tab):List (List V×Int):=Y.flatMap λp=>(cart (p.1.map sm)).map λr=>(r,p.2)
def qvn(sm:Str->List V)(Y:Tab)(p:List Str×Int):RLs sm (Y++ [p])=RLs sm Y++(cart (p.1.map sm)).map λr=>(r,p.2):=by
 unfold RLs;rw[z1j];simp
theorem qft{α β:Type}(f:α->β):∀l:List α,(l.flatMap λx=>[f x])=l.map f
 | []=>rfl
 | x::l=>by rw[List.flatMap_cons,qft f l];rfl
def qe9{α:Type}{xs:List α}{d:α}(h:xs.length=1):xs=[xs.headD d]:=by
 match xs,h with
 | [x],_=>rfl
section
variable{W:xD}{g:Str->Wo}{H F:Hp}{sm:Str->List V}{Y:Tab}{m:Int}{xs:List V}
def aO(g:Str->Wo)(z:Str):Int:=match g z with | .num i=>i | _=>0
def cO(g:Str->Wo)(z:Str):Option Int:=match g z with | .num i=>some i | _=>none
def bO(g:Str->Wo)(z:Str):List Int:=match g z with | .nums l=>l | _=>[]
def tO(g:Str->Wo)(z:Str):Bool:=match g z with | .tr b=>b | _=>false
def rO(g:Str->Wo)(z:Str):List (List Str):=match g z with | .acc R=>R | _=>[]
def q8d(hg:∀z,qx W .counts (g z))(z:Str):g z= .num (aO g z)/\0<=aO g z:=by
 have h:=hg z;unfold aO;generalize g z=a at h ⊢;cases h with | counts h=>exact⟨rfl,h⟩
def qhj(hg:∀z,qx W .costs (g z))(z:Str):g z=cW (cO g z):=by
 have h:=hg z;unfold cO;generalize g z=a at h ⊢;cases h <;> rfl
def qhk{u:Int}(hg:∀z,qx W (.bests u) (g z))(z:Str):g z= .nums (bO g z)/\(bO g z).length<=u.toNat:=by
 have h:=hg z;unfold bO;generalize g z=a at h ⊢;cases h with | bests h hl=>exact⟨rfl,hl⟩
def qae{u:Int}(hg:∀z,qx W (.trusts u) (g z))(z:Str):g z= .num (aO g z)/\0<=aO g z:=by
 have h:=hg z;unfold aO;generalize g z=a at h ⊢;cases h with | trusts h _=>exact⟨rfl,h⟩
def qea(hg:∀z,qx W .truths (g z))(z:Str):g z= .tr (tO g z):=by
 have h:=hg z;unfold tO;generalize g z=a at h ⊢;cases h with | truths b=>rfl
def qcf(hg:∀z,qx W .hands (g z))(z:Str):g z= .acc (rO g z)/\Acc (rO g z)/\Of 7 W (rO g z):=by
 have h:=hg z;unfold rO;generalize g z=a at h ⊢;cases h with | hands a o=>exact⟨rfl,a,o⟩
theorem q9g{α:Type}{f:α->V}{x:Str->α}:∀{Y:Tab},(∀p∈Y,∀n∈p.1,sm n=[f (x n)])->RLs sm Y=(Y.map λp=>(p.1.map x,p.2)).map λq=>(q.1.map f,q.2)
 | [],_=>rfl
 | p::Y,h=>by
  have h1:p.1.map sm=p.1.map λn=>[f (x n)]:=z1f λn hn=>h p (z1p ..) n hn;have ih:=q9g (Y:=Y) λq hq=>h q (z16 _ hq);show (cart (p.1.map sm)).map (λr=>(r,p.2))++RLs sm Y=_;rw[ih,h1,qm9];have e:p.1.map (λn=>f (x n))=(p.1.map x).map f:=by rw[z46];rfl
  rw[e];rfl
def qcg{α:Type}{f:α->V}{x:Str->α}{p:xD}{row:List V}(h:∀n∈p,sm n=[f (x n)])(hr:row∈cart (p.map sm)):row=(p.map x).map f:=by
 have h1:p.map sm=p.map λn=>[f (x n)]:=z1f λn hn=>h n hn;rw[h1,qm9]at hr;rw[z1m.mp hr,z46];rfl
def qqa(h:∀p∈Y,∀n∈p.1,sm n=[V.int (aO g n)])(hf:Fnd .counts m F (RLs sm Y) xs):xs=(Y.map λp=>pC (aO g) p.1*p.2).map V.int:=by
 rw[q9g h]at hf;have:=qbv (k:= .counts) (enc:=List.map V.int) (out:=λq:List Int×Int=>[V.int (q.1.foldl (· * ·) 1*q.2)]) (λa n v ⟨is,e1,e2⟩=>by rw[e2,q8c e1];rfl) hf;rw[this,List.flatMap_map,qft,z46];rfl
def qt4(h:∀p∈Y,∀n∈p.1,sm n=[cV (cO g n)])(hf:Fnd .costs m F (RLs sm Y) xs):xs=((Y.map λp=>sC (cO g) p.1).filterMap id).map V.int:=by
 rw[q9g h]at hf;have:=qbv (k:= .costs) (enc:=List.map cV) (out:=λq:List (Option Int)×Int=>match q.1.foldl addC (some 0) with | some i=>[V.int i] | none=>[]) (λa n v ⟨is,e1,e2⟩=>by
  rw[e2,<- qt3 e1];show (if cV (a.foldl addC (some 0))=V.non then [] else [cV (a.foldl addC (some 0))])=match a.foldl addC (some 0) with | some i=>[V.int i] | none=>[]
  cases a.foldl addC (some 0) with
  | none=>rfl
  | some i=>exact if_neg λz=>by cases z) hf
 rw[this,List.flatMap_map];clear this hf h
 induction Y with
 | nil=>rfl
 | cons p Y ih=>
  rw[List.flatMap_cons,ih,z3k];show (match (p.1.map (cO g)).foldl addC (some 0) with | some i=>[V.int i] | none=>[])++_=_;rw[show sC (cO g) p.1=(p.1.map (cO g)).foldl addC (some 0) from rfl];cases (p.1.map (cO g)).foldl addC (some 0) <;> rfl
def qqb{u:Int}(h:∀p∈Y,∀n∈p.1,sm n=[V.int (aO g n)])(hf:Fnd (.trusts u) m F (RLs sm Y) xs):xs=(Y.map λp=>mT u (p.1.map (aO g))).map V.int:=by
 rw[q9g h]at hf;have:=qbv (k:= .trusts u) (enc:=List.map V.int) (out:=λq:List Int×Int=>[V.int (mT u q.1)]) (λa n v ⟨is,e1,e2⟩=>by
  rw[e2,<- q8c e1];show (if V.int (mT u a)=V.non then [] else [V.int (mT u a)])=[V.int (mT u a)];exact if_neg λz=>by cases z) hf
 rw[this,List.flatMap_map,qft,z46];rfl
def qqc(h:∀p∈Y,∀n∈p.1,sm n=[V.bl (tO g n)])(hf:Fnd .truths m F (RLs sm Y) xs):xs=(Y.map λp=>(p.1.map (tO g)).all id).map V.bl:=by
 rw[q9g h]at hf;have:=qbv (k:= .truths) (enc:=List.map V.bl) (out:=λq:List Bool×Int=>[V.bl (q.1.all id)]) (λa n v ⟨is,e1,e2⟩=>by
  rw[e2,<- qov e1];show (if V.bl (a.all id)=V.non then [] else [V.bl (a.all id)])=[V.bl (a.all id)];exact if_neg λz=>by cases z) hf
 rw[this,List.flatMap_map,qft,z46];rfl
def qt5{u:Int}(h:∀p∈Y,∀n∈p.1,sm n=(bO g n).map V.int)(hf:Fnd (.bests u) m F (RLs sm Y) xs):xs=(Y.flatMap λp=>(sB (bO g) p.1).flatMap λs=>List.replicate (mn m p.2) s).map V.int:=by
 have J:RLs sm Y=(Y.flatMap λp=>(cart (p.1.map (bO g))).map λr=>(r,p.2)).map λq=>(q.1.map V.int,q.2):=by
  unfold RLs;rw[List.map_flatMap];clear hf
  induction Y with
  | nil=>rfl
  | cons p Y D=>
   have h1:p.1.map sm=(p.1.map (bO g)).map (List.map V.int):=by
    rw[z46];exact z1f λn hn=>h p (z1p ..) n hn
   rw[List.flatMap_cons,List.flatMap_cons,D λq hq=>h q (z16 _ hq),h1,qma,z46,z46];rfl
 rw[J]at hf;have:=qbv (k:= .bests u) (enc:=List.map V.int) (out:=λq:List Int×Int=>List.replicate (mn m q.2) (V.int q.1.sum)) (λa n v ⟨is,e1,e2⟩=>by rw[e2,<- q8c e1];rfl) hf;rw[this];clear this hf J h
 induction Y with
 | nil=>rfl
 | cons p Y D=>
  rw[List.flatMap_cons,z1j,D,List.flatMap_cons,z35]
  congr 1
  unfold sB;rw[<- qvk,List.flatMap_map,List.flatMap_map,List.map_flatMap]
  congr 1
  funext r
  rw[List.map_replicate]
def qt6{es:List (V×(List V×Int))}:(∀e∈es,OneR .hands F e.2.1 e.1)->∃J,q1b F (es.flatMap (pc .hands m)) J/\(∀f∈J,Norm f)/\∀x,Up J x↔∃e∈es,∃D,q1b F e.2.1 D/\∀w∈D.flatten,w∈x:=by
 induction es with
 | nil=>exact λ_=>⟨[],.nil,(λ_ z=>nomatch z),λx=>⟨λz=>(qol.mp z).elim,λ⟨_,z,_⟩=>nomatch z⟩⟩
 | cons e es ih=>
  intro h;obtain⟨J,h1,h2,h3⟩:=ih λx hx=>h x (z16 _ hx);obtain⟨D,b,Z,k2,k3⟩:=h e (z1p ..);obtain⟨v,row,n⟩:=e;have k2:v= .ref b:=k2;have Z:q1b F row D:=Z;subst k2;refine⟨uniq D.flatten::J,?_,λf hf=>?_,λx=>?_⟩
  ·rw[List.flatMap_cons];show q1b F ((if V.ref b=V.non then [] else [V.ref b])++_) _;rw[if_neg λz=>by cases z];exact .cons ⟨b,zr,k3⟩ h1
  ·rcases z3m.mp hf with rfl | hf
   ·exact q4d _
   ·exact h2 f hf
  ·constructor
   ·rintro ⟨f,hf,h4⟩;rcases z3m.mp hf with rfl | hf
    ·exact⟨_,z1p ..,D,Z,λw hw=>h4 w ((q2t _ w).mpr hw)⟩
    ·obtain⟨e,O,z⟩:=(h3 x).mp ⟨f,hf,h4⟩;exact⟨e,z16 _ O,z⟩
   ·rintro ⟨e,O,s2,k4,k5⟩;rcases z3m.mp O with rfl | O
    ·refine⟨_,z1p ..,λw hw=>?_⟩;have k4:q1b F row s2:=k4;rw[qe8 Z k4]at hw;exact k5 w ((q2t _ w).mp hw)
    ·obtain⟨f,hf,z⟩:=(h3 x).mpr ⟨e,O,s2,k4,k5⟩;exact⟨f,z16 _ hf,z⟩
theorem qmh{α β:Type}{R:α->β->Prop}:∀{l:List α} {k:List β},Paired R l k->∀y∈k,∃x∈l,R x y
 | _,_,.nil,_,h=>nomatch h
 | _,_,.cons a b,y,h=>by
  rcases z3m.mp h with rfl | h
  ·exact⟨_,z1p ..,a⟩
  ·obtain⟨x,hx,f⟩:=qmh b y h;exact⟨x,z16 _ hx,f⟩
theorem qeb{α β:Type}{R:α->β->Prop}:∀{l:List α} {k:List β},Paired R l k->∀x∈l,∃y∈k,R x y
 | _,_,.nil,_,h=>nomatch h
 | _,_,.cons a b,x,h=>by
  rcases z3m.mp h with rfl | h
  ·exact⟨_,z1p ..,a⟩
  ·obtain⟨y,hy,f⟩:=qeb b x h;exact⟨y,z16 _ hy,f⟩
def qt7(h:∀p∈Y,∀n∈p.1,q1b F (sm n) (rO g n))(hf:Fnd .hands m F (RLs sm Y) xs):∃Z,q1b F xs Z/\(∀f∈Z,Norm f)/\∀x,Up Z x↔∃p∈Y,∀n∈p.1,Up (rO g n) x:=by
 obtain⟨es,e1,e2,e3⟩:=hf;obtain⟨Z,h1,h2,h3⟩:=qt6 (m:=m) e2;refine⟨Z,by rw[e3];exact h1,h2,λx=>(h3 x).trans ?_⟩
 constructor
 ·rintro ⟨e,he,ss,k1,k2⟩;have O:e.2∈RLs sm Y:=by rw[<- e1];exact z44.mpr ⟨e,he,rfl⟩
  obtain⟨p,hp,O⟩:=List.mem_flatMap.mp O;obtain⟨row,D,e4⟩:=z44.mp O;rw[<- e4]at k1;obtain⟨s2,J,k3⟩:=qeb (qbw p.1 (h p hp)) row D;rw[qe8 k1 k3]at k2;exact⟨p,hp,(qot p.1).mp ⟨s2,J,k2⟩⟩
 ·rintro ⟨p,hp,k1⟩;obtain⟨s2,J,k2⟩:=(qot p.1).mpr k1;obtain⟨row,D,k3⟩:=qmh (qbw p.1 (h p hp)) s2 J;have O:(row,p.2)∈RLs sm Y:=List.mem_flatMap.mpr ⟨p,hp,z44.mpr ⟨row,D,rfl⟩⟩;rw[<- e1]at O;obtain⟨e,he,e4⟩:=z44.mp O;exact⟨e,he,s2,by rw[e4];exact k3,k2⟩
end
def qyw{α:Type}{s:α}{row:List α}{D:List (List α)}:row∈cart D->s∈row->∃l∈D,s∈l:=by
 revert row;refine q25 (C:=λD=>∀{row:List α},row∈cart D->s∈row->∃l∈D,s∈l) (λh J=>by rw[z1m.mp h]at J;cases J) (λl x ih row h J=>?_) D;rw[q2o]at h;obtain⟨r0,h0,h1⟩:=List.mem_flatMap.mp h;obtain⟨y,hy,rfl⟩:=z44.mp h1;rcases z2u.mp J with q | q
 ·obtain⟨l',O,z⟩:=ih h0 q;exact⟨l',z17 _ O,z⟩
 ·rw[z1m.mp q];exact⟨x,z0w _ (z1m.mpr rfl),hy⟩
section
variable{W:xD}{k:Kd}{g:Str->Wo}{H:Hp}{sm:Str->List V}{m t:Int}
def q125{a:Wo}{v:V}(O:qx W k a)(D:WV H a v)(hW:W.length<=4)(ho:ofK m t k)(m4:m<=4):∃xs:List V,xs.length<=16/\Itm H (q2s k) v xs/\SmR k H a xs:=by
 cases k with
 | bests u=>
  have ho:u=m:=ho;cases O with | bests h hl=>
   obtain⟨p,e,h⟩:=D;exact⟨_,by rw[z30];lia,.inl ⟨.inl rfl,p,e,h⟩,_,rfl,rfl⟩
 | hands=>
  cases O with | @hands R a o=>
   obtain⟨p,zs,e,h,Z⟩:=D;refine⟨zs,?_,.inl ⟨.inr rfl,p,e,h⟩,_,zr,Z⟩;rw[Paired.length Z];have nd:R.Nodup:=List.Pairwise.imp (λ{x y} J e=>by rw[e,q28.irr]at J;cases J) a.srt;exact z40 (qcd W R nd λr hr=>⟨a.norm r hr,o.sub r hr⟩) (z40 (Nat.pow_le_pow_right (by decide) hW) (by decide))
 | counts=>exact⟨[v],by show 1<=16;decide,.inr ⟨by decide,by decide,rfl⟩,D,rfl⟩
 | costs=>exact⟨[v],by show 1<=16;decide,.inr ⟨by decide,by decide,rfl⟩,D,rfl⟩
 | trusts u=>exact⟨[v],by show 1<=16;decide,.inr ⟨by show (3:Int)≠2;decide,by show (3:Int)≠5;decide,rfl⟩,D,rfl⟩
 | truths=>exact⟨[v],by show 1<=16;decide,.inr ⟨by decide,by decide,rfl⟩,D,rfl⟩
def qfu{v:V}{e:List V×Int}(hv:v≠ .non)(h0:q2s k≠0)(h2:q2s k≠2):pc k m (v,e)=[v]:=by
 cases k with
 | counts=>exact absurd rfl h0
 | bests u=>exact absurd rfl h2
 | _=>exact if_neg hv
def qfv{i:Int}{xs:List V}(h:WV H (.num i) (xs.headD .non)/\xs.length=1):xs=[V.int i]:=by
 rw[qe9 (d:=V.non) h.2];exact congrArg (λx=>[x]) h.1
def qow{c:Option Int}{xs:List V}(h:WV H (cW c) (xs.headD .non)/\xs.length=1):xs=[cV c]:=by
 rw[qe9 (d:=V.non) h.2];cases c <;> exact congrArg (λx=>[x]) h.1
def qwk{b:Bool}{xs:List V}(h:WV H (.tr b) (xs.headD .non)/\xs.length=1):xs=[V.bl b]:=by
 rw[qe9 (d:=V.non) h.2];exact congrArg (λx=>[x]) h.1
def q126{p:xD}{row:List V}(D:∀z,qx W k (g z))(lt:∀z,LtW k (10^24) (g z))(ho:ofK m t k)(J:∀n∈p,SmR k H (g n) (sm n))(hr:row∈cart (p.map sm)):RowK k t H row:=by
 cases k with
 | counts=>
  have e:=qcg (f:=V.int) (x:=aO g) (λn hn=>qfv (by have:=J n hn;rw[(q8d D n).1]at this;exact this)) hr;refine⟨p.map (aO g),e,λi hi=>?_⟩;obtain⟨n,_,rfl⟩:=z44.mp hi;have h1:=lt n rfl;rw[(q8d D n).1]at h1;exact⟨(q8d D n).2,h1⟩
 | costs=>exact⟨p.map (cO g),qcg (f:=cV) (x:=cO g) (λn hn=>qow (by have:=J n hn;rw[qhj D n]at this;exact this)) hr⟩
 | bests u=>
  have h1:p.map sm=(p.map (bO g)).map (List.map V.int):=by
   rw[z46];refine z1f λn hn=>?_;obtain⟨l,e1,e2⟩:=J n hn;rw[(qhk D n).1]at e1;cases e1
   exact e2
  rw[h1,qma]at hr;obtain⟨is,_,rfl⟩:=z44.mp hr;exact⟨is,zr⟩
 | trusts u=>exact⟨(show u=t from ho).symm,p.map (aO g),qcg (f:=V.int) (x:=aO g) (λn hn=>qfv (by have:=J n hn;rw[(qae D n).1]at this;exact this)) hr⟩
 | truths=>exact⟨p.map (tO g),qcg (f:=V.bl) (x:=tO g) (λn hn=>qwk (by have:=J n hn;rw[qea D n]at this;exact this)) hr⟩
 | hands=>
  have h1:∀n∈p,q1b H (sm n) (rO g n):=λn hn=>by
   obtain⟨R,e1,e2⟩:=J n hn;rw[(qcf D n).1]at e1;cases e1
   exact e2
  obtain⟨ss,a0,tt⟩:=qeb (qbw p h1) row hr;refine⟨ss,tt,λs Z=>?_⟩;obtain⟨l,hl,O⟩:=qyw a0 Z;obtain⟨n,_,rfl⟩:=z44.mp hl;obtain⟨_,a,o⟩:=qcf D n;exact(o.len O (a.norm s O)).1
def RowK.same{H':Hp}{row:List V}(s:Same H H')(h:RowK k t H row):RowK k t H' row:=by
 cases k with
 | hands=>
  obtain⟨ss,h1,h2⟩:=h;exact⟨ss,q1i (λb ys z=>s b _ z) h1,h2⟩
 | _=>exact h
def qyx{Y:Tab}(h:∀p∈Y,(cart (p.1.map sm)).length<=4096):(RLs sm Y).length<=4096*Y.length:=by
 unfold RLs
 induction Y with
 | nil=>exact z47 _
 | cons p Y ih=>
  rw[List.flatMap_cons,z1o,z30,z2i];have:=h p (z1p ..);have:=ih λq hq=>h q (z16 _ hq)
  lia
end
def q10u:Sp:=λvs H Q _=>∃(k:Kd) (l d:Addr) (m t:Int) (Y:Tab) (f:Str->Option Wo) (W:xD),vs=[.int (q2s k),.ref l,.ref d,.int m,.int t]/\ofK m t k/\1<=m/\m<=4/\WA H l Y/\Y.length<=15/\(∀p∈Y,p.1.length<=3/\1<=p.2/\p.2 < 2^200)/\WD H d f/\FOk W k f/\W.length<=4/\(∀p∈Y,∀n∈p.1,∃a,f n=some a)/\(∀z,LtW k (10^24) (gOf k f z))/\
 ∀z H',Same H H'->NewV H z->WV H' (rkY k (gOf k f) Y) z->Q z H'
def qnk(T:Txt K mg):Def P w K mg base 3 "_law_due" ["_law_kind","_law_why_here","_law_worths","_law_many","_law_top"] q10u:=by
 refine T.qqe.ok q3y (λvs H Q E h=>?_) λf cdv A outer s H vs Q E hr h=>?_
 ·obtain⟨k,l,d,m,t,Y,f,W,rfl,_⟩:=h;rfl
 ·obtain⟨k,l,d,m,t,Y,ff,W,rfl,ho,m1,m4,⟨ys,hl,c1,hbw⟩,lY,hY,⟨kvs,d0,c5⟩,fk,d1,d2,lt,q⟩:=h;refine⟨_,(qk8
   (qm (i:=5) q3y.nd rfl (Or.inl rfl) (q1p q26))
   (q1o PassesOwn.never rfl (q18 K (pv 1)) (qks rfl (q5v (qu (i:=6) q3y.nd rfl (Or.inl rfl)) (q5v (qu (i:=7) q3y.nd rfl (Or.inl rfl)) qg7))) (qg (q1o PassesOwn.never rfl (q18 K (q11 (qfs T) hr rfl (pa_3 (pv 0) (pv 6) (pv 2)))) (qu (i:=8) q3y.nd rfl (Or.inl rfl)) (q39
   (qm (i:=9) q3y.nd rfl (Or.inr rfl) (q11 (qco T) hr rfl (pa_3 (pv 0) (pv 8) (pv 4))))
   (q12 (qp q1f (pv 0) qc (qq _)) (qg (q2i (q43 z0l z0g z0h q2w (pv 5) (pa_1 (ql qc7 (pv 9) (pv 7)))))) (qg (q12 (qp q1f (pv 0) qc (qq _)) (qg (q2i (q43 z0l z0e z0f q6j (pv 5) (pa_1 (q2d (N:=["_law_k","_law_one"]) (caps:=[none,some 9]) rfl (by with_unfolding_all rfl) (q55 rfl T.q7k (pa_1 (qo (q8k rfl) rfl T.b_min q96 (pa_2 (pv 7) (pv 3))))) (λ_ _ _ _ _=>(qu (i:=0) (show (["_law_k","_law_one"]:xD).Nodup by decide+kernel) rfl (Or.inl rfl))) (λ_ _ _ _ _=>q2u) (λ_ _ _ _ _=>(pv 1))))))) (qg (q12 (qp qwy (pv 9) q38 (qq _)) (qg (q2i (q43 z0l z0g z0h q2w (pv 5) (pa_1 (pv 9))))) qr)))))))))
   (q12 (qp q1f (pv 0) qc (qq _)) (qg (qh (qo (qia rfl K) rfl T.b_sum qrk (pa_1 (pv 5))))) qr)
   (q12 (qp q1f (pv 0) qc (qq _)) (qg (qh (qy0 K rfl rfl T.b_min q96 (pa_1 (pv 5)) (qo2 q38 qr5)))) qr)
   (q12 (qp q1f (pv 0) qc (qq _)) (qg (qh (q27 (q31 K) (qo (q5f K) rfl T.q2h q2c (pa_1 (pv 5))) q3w (q1q (pv 3))))) qr)
   (q12 (qp q1f (pv 0) qc (qq _)) (qg (qh (qxt K rfl rfl T.b_max qrl (pa_1 (pv 5)) (qo2 qc qr5)))) qr)
   (q12 (qp q1f (pv 0) qc (qq _)) (qg (qh (qo (qb4 rfl K) rfl T.b_any ql7 (pa_1 (pv 5))))) qr)
   (qh (q11 (qmg T) hr rfl (pa_1 (pv 5))))),?_⟩
  have hg:=fk.g;have ly:=Paired.length c1;have ex:∀n,∃xs:List V,(∃a,ff n=some a)->(xs.length<=16/\(∃v,valV kvs (Sum.inr n)=some v/\Itm H (q2s k) v xs)/\SmR k H (gOf k ff n) xs):=λn=>by
   by_cases hn:∃a,ff n=some a
   ·obtain⟨a,ha⟩:=hn;rcases c5 n with e | ⟨a',v,e1,e2,wv⟩
    ·rw[e]at ha;cases ha
    ·rw[e1]at ha;cases ha
     have eg:gOf k ff n=a:=by
      unfold gOf;rw[e1];rfl
     obtain⟨xs,x1,x2,x3⟩:=q125 (fk.good n a e1) wv d1 ho m4;exact⟨xs,λ_=>⟨x1,⟨v,e2,x2⟩,by rw[eg];exact x3⟩⟩
   ·exact⟨[],λz=>absurd z hn⟩
  obtain⟨sm,c4⟩:=Classical.axiomOfChoice ex;have hS:∀p∈Y,∀n∈p.1,(sm n).length<=16/\(∃v,valV kvs (Sum.inr n)=some v/\Itm H (q2s k) v (sm n))/\SmR k H (gOf k ff n) (sm n):=λp hp n hn=>c4 n (d2 p hp n hn);clear c4 ex;have b9:∀p∈Y,(cart (p.1.map sm)).length<=4096:=λp hp=>by
   have h1:=qmc (m:=16) (p.1.map sm) λs hs=>by
    obtain⟨n,hn,rfl⟩:=z44.mp hs;exact(hS p hp n hn).1
   rw[z30]at h1;exact z40 h1 (z40 (Nat.pow_le_pow_right (by decide) (hY p hp).1) (by decide))
  have b8:∀i,(RLs sm (Y.take i)).length<=61440:=λi=>by
   have:=qyx (Y:=Y.take i) λp hp=>b9 p (z15 hp);rw[z2g]at this
   lia
  refine⟨by decide,λO b5=>?_⟩;have s0:=qf (o:=HO.lst []) b5;refine⟨_,rfl,l,rfl,⟨_,SqL.of (s0 _ _ hl)⟩,q20 (xs:=ys) (λi σ G=>Same H G/\∃(v6 v7 v8 v9:Option V) (xs:List V),σ=[some (.int (q2s k)),some (.ref l),some (.ref d),some (.int m),some (.int t),some (.ref O),v6,v7,v8,v9]/\G O=some (.lst xs)/\Fnd k m G (RLs sm (Y.take i)) xs) ⟨s0,none,none,none,none,[],rfl,qb,[],rfl,(λ_ z=>nomatch z),rfl⟩ (λi σ G _ z=>SqL.of (z.1 _ _ hl)) ?_ ?_⟩
  ·rintro i x σ G hx ⟨sg,v6,v7,v8,v9,xs,rfl,a0,J⟩;obtain⟨kv,c0,d6⟩:=q4m c1 hx;obtain⟨qa,b,rfl,hq,hb⟩:=d6.keep (Same.keepT sg);have hm:=z18 c0;obtain⟨p3,w1,w2⟩:=hY kv hm;have c9:Y.take (i+1)=Y.take i++ [kv]:=by rw[z3g,c0];rfl
   refine⟨_,_,zr,SqT.of hq,zr,_,_,zr,_,_,zr,zr,?_⟩;refine⟨_,rfl,_,rfl,_,rfl,q2s k,b,d,kv.1,kvs,sm,rfl,hb,p3,d0.imp (sg _ _) (λ⟨o,e⟩=>⟨o,sg _ _ e⟩),(λn hn=>let ⟨a1,⟨v,a2,a3⟩,_⟩:=hS kv hm n hn;⟨a1,v,a2,a3.same sg⟩),λL rs G1 s1 nL hL d7 a8=>?_⟩;have c7:L≠O:=λz=>by rw[z,a0]at nL;cases nL
   have lrs:rs.length<=4096:=by
    have:=b9 kv hm;rw[<- a8,z30]at this;exact this
   refine⟨L,rfl,⟨_,SqL.of hL⟩,q20 (xs:=rs.map (·.1)) (λj σ F=>Same H F/\(∀c o,c≠O->G1 c=some o->F c=some o)/\∃(v8 v9:Option V) (xs:List V),σ=[some (.int (q2s k)),some (.ref l),some (.ref d),some (.int m),some (.int t),some (.ref O),some (.ref b),some (.int kv.2),v8,v9]/\F O=some (.lst xs)/\Fnd k m F (RLs sm (Y.take i)++((rs.map (·.2)).take j).map λr=>(r,kv.2)) xs) ⟨sg.trans s1,(λ_ _ _ h=>h),v8,v9,xs,rfl,s1 _ _ a0,by rw[List.take_zero,z43,z31];exact J.kt (Same.keepT s1)⟩ (λj σ F _ z=>SqL.of (z.2.1 _ _ c7 hL)) ?_ ?_⟩
   ·rintro j x σ F hx ⟨sF,kF,v8,v9,xs,rfl,b6,J⟩;rw[z22]at hx;obtain⟨e,b4,rfl⟩:=z0q.mp hx;have jl:=(z07.mp b4).1;have em:=z18 b4;obtain⟨lr,c8,c6,d5⟩:=d7 e em;have d8:lr≠O:=λz=>by rw[z,a0]at c6;cases c6
    have d4:=kF _ _ d8 d5;have a7:e.2∈cart (kv.1.map sm):=by rw[<- a8];exact z44.mpr ⟨e,em,rfl⟩
    have rK:=(q126 (m:=m) hg lt ho (λn hn=>(hS kv hm n hn).2.2) a7).same sF;have l3:e.2.length<=3:=by rw[qiq a7,z30];exact p3
    have b7:((rs.map (·.2)).take (j+1)).map (λr=>(r,kv.2))=((rs.map (·.2)).take j).map (λr=>(r,kv.2))++ [(e.2,kv.2)]:=by rw[z3g,z22,b4,z35];rfl
    rw[c8];refine⟨_,zr,_,zr,_,zr,k,lr,t,e.2,zr,d4,l3,rK,λv F1 s2 hv=>?_⟩;have Z:=s2 _ _ b6;have a5:=(J.kt (Same.keepT s2)).snoc (n:=kv.2) hv;rw[z1y,<- b7]at a5;have lx:xs.length<=300000:=by
     have h1:=J.len m1 m4;have h2:=b8 i;rw[z1o,z30,z2g,z30]at h1
     lia
    have big:∀{n:Nat},n<=300000->n+4 < sizeLine:=λ{n} h=>z1r (show n+4 < 1000000 by lia) (by decide);have S2:=sF.trans s2;have step:∀o,xs++pc k m (v,(e.2,kv.2))=o->Same H (upd F1 O (.lst o))/\(∀c q,c≠O->G1 c=some q->upd F1 O (.lst o) c=some q)/\∃(u8 u9:Option V) (a6:List V),[some (V.int (q2s k)),some (.ref l),some (.ref d),some (.int m),some (.int t),some (.ref O),some (.ref b),some (.int kv.2),some (.ref lr),some v]=[some (V.int (q2s k)),some (.ref l),some (.ref d),some (.int m),some (.int t),some (.ref O),some (.ref b),some (.int kv.2),u8,u9]/\upd F1 O (.lst o) O=some (.lst a6)/\Fnd k m (upd F1 O (.lst o)) (RLs sm (Y.take i)++((rs.map (·.2)).take (j+1)).map λr=>(r,kv.2)) a6:=λo eo=>by
     refine⟨S2.set b5,λc q hc h=>by rw[qi hc];exact s2 _ _ (kF c q hc h),_,_,o,rfl,qb,?_⟩;rw[<- eo];exact a5.kt (KeepT.upd (λb ys e=>e) Z)
    have stay:pc k m (v,(e.2,kv.2))=[]->Same H F1/\(∀c q,c≠O->G1 c=some q->F1 c=some q)/\∃(u8 u9:Option V) (a6:List V),[some (V.int (q2s k)),some (.ref l),some (.ref d),some (.int m),some (.int t),some (.ref O),some (.ref b),some (.int kv.2),some (.ref lr),some v]=[some (V.int (q2s k)),some (.ref l),some (.ref d),some (.int m),some (.int t),some (.ref O),some (.ref b),some (.int kv.2),u8,u9]/\F1 O=some (.lst a6)/\Fnd k m F1 (RLs sm (Y.take i)++((rs.map (·.2)).take (j+1)).map λr=>(r,kv.2)) a6:=λeo=>by
     rw[eo,z31]at a5;exact⟨S2,λc q hc h=>s2 _ _ (kF c q hc h),_,_,xs,zr,Z,a5⟩
    cases k with
    | counts=>
     obtain⟨is,e1,rfl⟩:=hv;obtain⟨is',e2,h0⟩:=rK;rw[e1]at e2;obtain rfl:=q8c e2;rw[e1,z30]at l3;obtain⟨a1,a2⟩:=qou h0 3 l3;have b3:((10^24)^3:Int) < 2^600:=by decide+kernel
     have b2:(2^200:Int) < 2^600:=by decide+kernel
     refine⟨_,zr,zr,_,zr,q1d rfl ⟨_,zr,.inl ⟨zr,_,SqL.of Z⟩,_,zr,_,zr,_,_,zr,zr,⟨⟨a1,z1v a2 b3⟩,by lia,Int.lt_trans w2 b2⟩,O,_,_,zr,zr,Z,z1r (Nat.lt_of_le_of_lt (Nat.le_add_right _ 4) (big lx)) (z47 _),?_⟩⟩;exact step _ rfl
    | bests u=>
     refine⟨_,rfl,rfl,_,rfl,qk (vf (by show (2:Int)≠0;decide)) ⟨_,rfl,rfl,_,rfl,q1d (vt rfl) ⟨_,rfl,.inl ⟨rfl,_,SqL.of Z⟩,_,rfl,_,rfl,_,_,rfl,_,rfl,by split <;> lia,by split <;> lia,λD hD=>?_⟩⟩⟩;have d9:mn m kv.2<=4:=by unfold mn;split <;> lia
     refine q1u (mn m kv.2) (λa σ' E'=>(∃x,σ'=[x,some v])/\Same F1 E'/\E' D=some (.lst (List.replicate a v))) ⟨⟨_,zr⟩,qf hD,qb⟩ (λa σ' E' ha p=>ha) (λσ' E' p=>⟨z47 _,?_⟩) (λa σ' E' ha p x' E3 y=>?_)
     ·obtain⟨_,s3,a9⟩:=p;refine⟨O,D,_,_,rfl,rfl,s3 _ _ Z,a9,z3x (Nat.lt_of_le_of_lt (by rw[List.length_replicate];exact Nat.add_le_add_left d9 _) (big lx)),?_⟩;have S3:=S2.trans s3;refine⟨S3.set b5,λc q hc h=>by rw[qi hc];exact s3 _ _ (s2 _ _ (kF c q hc h)),_,_,_,rfl,qb,?_⟩;exact(a5.kt (Same.keepT s3)).kt (KeepT.upd (λb ys e=>e) (s3 _ _ Z))
     ·obtain⟨⟨x,rfl⟩,s3,a9⟩:=p;obtain⟨rfl,rfl⟩:=y;refine⟨_,rfl,_,a9,by rw[List.length_replicate];exact q1l (by lia),⟨_,rfl⟩,s3.set hD,?_⟩;rw[qb,List.replicate_succ']
    | costs=>
     obtain⟨cs,e1,rfl⟩:=hv;refine⟨_,zr,zr,_,zr,qk (vf (by decide)) ⟨_,zr,zr,_,zr,qk (vf (by decide)) ?_⟩⟩;generalize cs.foldl addC (some 0)=c at*;cases c with
     | none=>exact⟨_,rfl,rfl,_,rfl,qk rfl (stay rfl)⟩
     | some i=>exact⟨_,rfl,rfl,_,rfl,q1d rfl ⟨_,rfl,.inl ⟨rfl,_,SqL.of Z⟩,_,rfl,O,_,_,rfl,rfl,Z,Nat.lt_of_le_of_lt (Nat.le_add_right _ 4) (big lx),step _ (congrArg (xs++ ·) (qfu (λz=>by cases z) (by decide) (by decide)))⟩⟩
    | trusts u=>
     obtain⟨is,e1,rfl⟩:=hv;exact⟨_,rfl,rfl,_,rfl,qk (vf (by show (3:Int)≠0;decide)) ⟨_,rfl,rfl,_,rfl,qk (vf (by show (3:Int)≠2;decide)) ⟨_,rfl,rfl,_,rfl,q1d rfl ⟨_,rfl,.inl ⟨rfl,_,SqL.of Z⟩,_,rfl,O,_,_,rfl,rfl,Z,Nat.lt_of_le_of_lt (Nat.le_add_right _ 4) (big lx),step _ (congrArg (xs++ ·) (qfu (λz=>by cases z) (by show (3:Int)≠0;decide) (by show (3:Int)≠2;decide)))⟩⟩⟩⟩
    | truths=>
     obtain⟨is,e1,rfl⟩:=hv;exact⟨_,zr,zr,_,zr,qk (vf (by decide)) ⟨_,zr,zr,_,zr,qk (vf (by decide)) ⟨_,zr,zr,_,zr,q1d rfl ⟨_,zr,.inl ⟨zr,_,SqL.of Z⟩,_,zr,O,_,_,zr,zr,Z,Nat.lt_of_le_of_lt (Nat.le_add_right _ 4) (big lx),step _ (congrArg (xs++ ·) (qfu (λz=>by cases z) (by decide) (by decide)))⟩⟩⟩⟩
    | hands=>
     obtain⟨ss,b1,e1,rfl,e3⟩:=hv;exact⟨_,zr,zr,_,zr,qk (vf (by decide)) ⟨_,zr,zr,_,zr,qk (vf (by decide)) ⟨_,zr,zr,_,zr,q1d rfl ⟨_,zr,.inl ⟨zr,_,SqL.of Z⟩,_,zr,O,_,_,zr,zr,Z,Nat.lt_of_le_of_lt (Nat.le_add_right _ 4) (big lx),step _ (congrArg (xs++ ·) (qfu (λz=>by cases z) (by decide) (by decide)))⟩⟩⟩⟩
   ·rintro σ F ⟨sF,kF,v8,v9,xs,rfl,b6,J⟩;rw[z30,<- z30 (f:=λx:V×List V=>x.2),z2t,a8]at J;refine⟨sF,_,_,_,_,xs,zr,b6,?_⟩;rw[c9,qvn];exact J
  ·rintro σ G ⟨sg,v6,v7,v8,v9,xs,rfl,a0,J⟩;rw[ly,z2t]at J;have w1:∀p∈Y,1<=p.2:=λp hp=>(hY p hp).2.1;have hR:=b8 Y.length;rw[z2t]at hR;have lx:=J.len m1 m4;cases k with
   | counts=>
    have e:=qqa (g:=gOf .counts ff) (λp hp n hn=>qfv (by have:=(hS p hp n hn).2.2;rw[(q8d hg n).1]at this;exact this)) J;refine⟨_,rfl,rfl,_,rfl,q1d rfl ⟨_,rfl,O,_,rfl,SqL.of (by rw[a0,e]),q _ G sg (λ_ z=>nomatch z) ?_⟩⟩;rw[qq5 λz=>(q8d hg z).1];rfl
   | costs=>
    have e:=qt4 (g:=gOf .costs ff) (λp hp n hn=>qow (by have:=(hS p hp n hn).2.2;rw[qhj hg n]at this;exact this)) J;refine⟨_,zr,zr,_,zr,qk (vf (by decide)) ⟨_,zr,zr,_,zr,q1d (vt rfl) ⟨_,zr,O,_,zr,zr,SqL.of (by rw[a0,e]),?_⟩⟩⟩;rw[botC,<- qyv];refine q _ G sg (λp z=>?_) ?_
    ·cases h:lC (Y.map λp=>sC (cO (gOf .costs ff)) p.1) <;> rw[h]at z <;> cases z
    ·rw[qsy (qhj hg) Y w1];cases lC (Y.map λp=>sC (cO (gOf .costs ff)) p.1) <;> rfl
   | bests u=>
    have ho:u=m:=ho;subst ho;have e:=qt5 (g:=gOf (.bests u) ff) (λp hp n hn=>by
     obtain⟨l,e1,e2⟩:=(hS p hp n hn).2.2;rw[(qhk hg n).1]at e1;cases e1
     exact e2) J
    refine⟨_,rfl,rfl,_,rfl,qk (vf (by show (2:Int)≠0;decide)) ⟨_,rfl,rfl,_,rfl,qk (vf (by show (2:Int)≠1;decide)) ⟨_,rfl,rfl,_,rfl,q1d (vt rfl) ⟨_,rfl,O,_,rfl,.inl (SqL.of (by rw[a0,e])),λl1 d3=>?_⟩⟩⟩⟩;have s1:=qf (o:=HO.lst ((Tim.srt q1g (Y.flatMap λp=>(sB (bO (gOf (.bests u) ff)) p.1).flatMap λs=>List.replicate (mn u p.2) s)).map V.int)) d3;refine⟨_,zr,_,zr,_,_,zr,SqL.of qb,λc hc=>?_⟩;have ec:∀ns:List Int,cutV (ns.map V.int) none (some u)=(ns.take u.toNat).map V.int:=λns=>by
     have:=qsu (ns.map V.int) u.toNat;rw[show ((u.toNat:Nat):Int)=u by lia]at this;rw[this,List.map_take]
    rw[ec];refine q _ _ (sg.trans (s1.trans (qf hc))) (λp z=>by cases z;exact(sg.trans s1).free hc) ?_;rw[qsw m1 λz=>(qhk hg z).1];exact⟨c,zr,qb⟩
   | trusts u=>
    have e:=qqb (g:=gOf (.trusts u) ff) (λp hp n hn=>qfv (by have:=(hS p hp n hn).2.2;rw[(qae hg n).1]at this;exact this)) J;refine⟨_,rfl,rfl,_,rfl,qk (vf (by show (3:Int)≠0;decide)) ⟨_,rfl,rfl,_,rfl,qk (vf (by show (3:Int)≠1;decide)) ⟨_,rfl,rfl,_,rfl,qk (vf (by show (3:Int)≠2;decide)) ⟨_,rfl,rfl,_,rfl,q1d (vt rfl) ⟨_,rfl,O,_,_,rfl,rfl,SqL.of (by rw[a0,e]),?_⟩⟩⟩⟩⟩;rw[topC _ (λx hx=>by
     obtain⟨p,_,rfl⟩:=z44.mp hx;have:∀l:List Int,(∀i∈l,0<=i)->0<=mT u l:=by
      refine q25 (C:=λl=>(∀i∈l,0<=i)->0<=mT u l) (λ_=>fk.hk) λl y ih h=>?_;have h1:=ih λi hi=>h i (z17 _ hi);have h2:=h y (z0w _ (z1m.mpr rfl));have e:mT u (l++ [y])=if y < mT u l then y else mT u l:=by
       unfold mT;rw[z2f];rfl
      rw[e];split <;> lia
     exact this _ λi hi=>by
      obtain⟨n,_,rfl⟩:=z44.mp hi;exact(qae hg n).2)]
    refine q _ G sg (λ_ z=>nomatch z) ?_;rw[qq7 (λz=>(qae hg z).1) Y w1];rfl
   | truths=>
    have e:=qqc (g:=gOf .truths ff) (λp hp n hn=>qwk (by have:=(hS p hp n hn).2.2;rw[qea hg n]at this;exact this)) J;refine⟨_,rfl,rfl,_,rfl,qk (vf (by decide)) ⟨_,rfl,rfl,_,rfl,qk (vf (by decide)) ⟨_,rfl,rfl,_,rfl,qk (vf (by decide)) ⟨_,rfl,rfl,_,rfl,qk (vf (by decide)) ⟨_,rfl,rfl,_,rfl,q1d (vt rfl) ⟨_,rfl,O,_,rfl,SqL.of (by rw[a0,e]),q _ G sg (λ_ z=>nomatch z) ?_⟩⟩⟩⟩⟩⟩;rw[qq9 (qea hg) Y w1];rfl
   | hands=>
    obtain⟨FF,h1,h2,h3⟩:=qt7 (g:=gOf .hands ff) (λp hp n hn=>by
     obtain⟨R,e1,e2⟩:=(hS p hp n hn).2.2;rw[(qcf hg n).1]at e1;cases e1
     exact q1i (λb ys z=>sg b _ z) e2) J
    obtain⟨R',e4,a4,h4⟩:=qt1 (λz=>(qcf hg z).1) Y w1;refine⟨_,rfl,rfl,_,rfl,qk (vf (by decide)) ⟨_,rfl,rfl,_,rfl,qk (vf (by decide)) ⟨_,rfl,rfl,_,rfl,qk (vf (by decide)) ⟨_,rfl,rfl,_,rfl,qk (vf (by decide)) ⟨_,rfl,rfl,_,rfl,qk (vf (by decide)) ⟨_,rfl,O,xs,FF,rfl,a0,h1,by rw[<- Paired.length h1];lia,h2,λp us R H' s' np hp tt aR hU=>?_⟩⟩⟩⟩⟩⟩;refine q _ H' (sg.trans s') (λp z=>by cases z;exact sg.free np) ?_;rw[e4,qsb a4 aR λx=>(h4 x).trans ((h3 x).symm.trans (hU x).symm)];exact⟨p,us,zr,hp,tt⟩
def W3(ws:xD)(W:Tab):Prop:=Rise W/\∀kv∈W,1<=kv.2/\Asc kv.1/\kv.1.length<=3/\(∀z∈kv.1,z∈ws)/\kv.2 < 2^200
def q10v:Sp:=λvs H Q _=>∃(ca wa:Addr) (cs:List Int) (ws:xD) (m:Int),vs=[.ref ca,.ref wa,.int m]/\H ca=some (.lst (cs.map V.int))/\cs.length<=90/\H wa=some (.lst (ws.map V.str))/\1<=ws.length/\(∀z∈ws,PyData.strOk z=true)/\0<=m/\m<=3/\
 ∀l ys W H',Same H H'->H l=none->H' l=some (.lst ys)->(∀H2,KeepT H' H2->Paired (PlAt H2) ys W)->W.length<=cs.length->W3 ws W->Q (.ref l) H'
def qnl(T:Txt K mg):Def P w K mg base 2 "_law_why" ["_law_cells","_law_words_here","_law_most"] q10v:=by
 refine T.qqf.ok q2x (λvs H Q E h=>?_) λf cdv A outer s H vs Q E hr h=>?_
 ·obtain⟨ca,wa,cs,ws,m,rfl,_⟩:=h;rfl
 ·obtain⟨ca,wa,cs,ws,m,rfl,c4,cl,e7,wl,hwz,m0,m1,k⟩:=h;refine⟨_,(q3f
   (qm (i:=3) q2x.nd rfl (Or.inr rfl) ql4)
   (q1o PassesOwn.never rfl (q18 K (pv 0)) (qu (i:=4) q2x.nd rfl (Or.inl rfl)) (q11j
   (qm (i:=5) q2x.nd rfl (Or.inl rfl) (q11 (q3i T) hr rfl (pa_2 (pv 4) (ql q1j (pv 2) qc))))
   (qm (i:=6) q2x.nd rfl (Or.inl rfl) (ql q16 (q1a (qy K) (pv 5) qc (λ_ _=>rfl)) (ql q1j (pv 2) qc)))
   (qm (i:=7) q2x.nd rfl (Or.inl rfl) (q2v (q6f K) rfl T.q9h q7q (pa_1 (qo (qla K) rfl T.q2h q2c (pa_1 (q2d (N:=["_law_number_here","_law_words_here"]) (caps:=[none,some 1]) rfl (by with_unfolding_all rfl) (q18 K (q27 (q31 K) (pv 5) (q1q qc) (q1q (ql q1j qc (pv 6))))) (λ_ _ _ _ _=>(qu (i:=0) (show (["_law_number_here","_law_words_here"]:xD).Nodup by decide+kernel) rfl (Or.inl rfl))) (λ_ _ _ _ _=>q2u) (λ_ _ _ _ _=>(q1a (qy K) (pv 1) (ql q16 (pv 0) (qo (q3l K) rfl T.b_len q4r (pa_1 (pv 1)))) (λ_ _=>rfl)))))))))
   (qm (i:=8) q2x.nd rfl (Or.inl rfl) (ql q1j qc (ql q16 (q1a (qy K) (pv 5) qc (λ_ _=>rfl)) qc)))
   (q12 (qp q1f (ql q16 (q1a (qy K) (pv 5) qc (λ_ _=>rfl)) qc) qc (qq _)) (qg (qm (i:=8) q2x.nd rfl (Or.inl rfl) (ql q1j qc (ql q16 (pv 4) (ql qer qc qc))))) qr)
   (q94 (q33 hr) (pv 3) (pv 7) (ql q1j (qu4 (q33 hr) (pv 3) (pv 7) qc ⟨rfl,rfl,rfl,rfl⟩) (pv 8)) rfl)))
   (qh (q2d (N:=["_law_product","_law_ways"]) (caps:=[none,some 3]) rfl (by with_unfolding_all rfl) (q18 K (qo (qlc hr.units rfl K) rfl T.q2h q2c (pa_1 (pv 3)))) (λ_ _ _ _ _=>(qu (i:=0) (show (["_law_product","_law_ways"]:xD).Nodup by decide+kernel) rfl (Or.inl rfl))) (λ_ _ _ _ _=>q2u) (λ_ _ _ _ _=>(qkv (pa_2 (pv 0) (q56 (q33 hr) (pv 1) (pv 0) (λ_ _=>rfl)))))))),?_⟩
  refine λd hd=>?_;have s1:=qf (o:=HO.dT []) hd;refine⟨_,rfl,ca,rfl,⟨_,SqL.of (s1 _ _ c4)⟩,q20 (xs:=cs.map V.int) (λi σ G=>Same H G/\(∃v1 v2 v3 v4 v5,σ=[some (.ref ca),some (.ref wa),some (.int m),some (.ref d),v1,v2,v3,v4,v5])/\∃W:Tab,G d=some (encD W)/\(W.map (·.1)).Nodup/\W.length<=i/\∀J∈W,1<=J.2/\Asc J.1/\J.1.length<=3/\(∀z∈J.1,z∈ws)/\J.2<=(i:Int)*2^110) ⟨s1,⟨_,_,_,_,_,rfl⟩,[],qb,z3f,z47 _,λ_ z=>nomatch z⟩ (λi σ G _ z=>SqL.of (z.1 _ _ c4)) ?_ ?_⟩
  ·rintro i x σ G hx ⟨sg,⟨v1,v2,v3,v4,v5,rfl⟩,W,hW,hnd,b8,a5⟩;rw[z22]at hx;obtain⟨c,d3,rfl⟩:=z0q.mp hx;have icl:i < cs.length:=(z07.mp d3).1;refine⟨_,zr,_,zr,_,_,zr,zr,c,m+3,zr,by lia,by lia,λp ns H1 t1 hp hl _ hn=>?_⟩;have a0:atI (ns.map V.int) 0=some (V.int (ns.getD 0 0)):=q1w (k:=0) (by lia);have a1:atI (ns.map V.int) 1=some (V.int (ns.getD 1 0)):=q1w (k:=1) (by lia);have a2:atI (ns.map V.int) 2=some (V.int (ns.getD 2 0)):=q1w (k:=2) (by lia);refine⟨_,rfl,_,_,_,_,rfl,rfl,SqL.of hp,a0,_,rfl,_,_,rfl,rfl,_,_,rfl,rfl,(by show (0:Int) < m+1;lia),?_⟩;refine⟨_,zr,_,zr,_,zr,_,_,zr,zr,_,zr,_,_,zr,SqL.of hp,λq hq=>?_⟩;obtain⟨ms,em,lm⟩:∃ms:List Int,cutV (ns.map V.int) (some 3) (some (3+ns.getD 0 0%(m+1)))=ms.map V.int/\ms.length<=3:=by
    refine⟨_,qfl ns _ _,?_⟩;have h0:0<=ns.getD 0 0%(m+1):=z39 _ (by lia);have h1:ns.getD 0 0%(m+1) < m+1:=z1w _ (by lia);obtain⟨r,hr⟩:=z0m h0;rw[hr,show (3:Int)+(r:Int)=((3+r:Nat):Int) by lia];exact z40 (qha ns 3 (3+r)) (by lia)
   rw[em];have t2:=qf (o:=HO.lst (ms.map V.int)) hq;refine⟨q,zr,⟨_,SqL.of qb⟩,λD hD=>?_⟩;have t3:=qf (o:=HO.lst []) hD;refine q1u (ms.map V.int).length (λi σ' H'=>(∃v,σ'=[v,some (.ref wa)])/\Same (upd H1 q (.lst (ms.map V.int))) H'/\∃ys:List Str,H' D=some (.lst (ys.map V.str))/\ys.length=i/\∀y∈ys,y∈ws) ⟨⟨_,rfl⟩,t3,[],qb,rfl,λ_ z=>nomatch z⟩ (λi σ' H' hi p=>?_) (λσ' H' p=>⟨?_,?_⟩) (λi σ' H' hi p x H2 y=>?_)
   ·obtain⟨_,sm,_⟩:=p;exact⟨_,(ms.map V.int)[i],SqL.of (sm _ _ qb),z0d hi⟩
   ·obtain⟨_,sm,_⟩:=p;exact⟨_,SqL.of (sm _ _ qb),z47 _⟩
   ·obtain⟨_,sm,ys,e,yl,hy⟩:=p;rw[z30]at yl;have d7:=sm _ _ (t2 _ _ hp);refine⟨_,ys,zr,.inl (SqL.of e),λl d4=>?_⟩;have u1:=qf (o:=HO.lst ((Tim.srt q19 ys).map V.str)) d4;refine⟨_,_,zr,.inl ⟨SqL.of qb,λt ht=>?_⟩⟩;have u2:=qf (o:=HO.tup ((Tim.srt q19 ys).map V.str)) ht;have uA:=t1.trans (t2.trans (sm.trans (u1.trans u2)));have c5:=u2 _ _ (u1 _ _ d7);have a4:=uA _ _ hW;have c0:upd (upd H' l (.lst ((Tim.srt q19 ys).map V.str))) t (.tup ((Tim.srt q19 ys).map V.str)) t=some (.tup (((Tim.srt q19 ys).map (Sum.inr:Str->Key)).map kV)):=by
     rw[qb,q98]
    generalize upd (upd H' l (.lst ((Tim.srt q19 ys).map V.str))) t (.tup ((Tim.srt q19 ys).map V.str))=H6 at*;have c8:(Tim.srt q19 ys).length=ys.length:=(Tim.q13 q19 _).length_eq;have fin:∀n:Int,1<=n->n<=2^110->(Same H (upd H6 d (.dT (putK ((encI W).map λJ=>(J.1.map Sum.inr,J.2)) ((Tim.srt q19 ys).map Sum.inr) (V.int ((getA W (Tim.srt q19 ys)).getD 0+n)))))/\∃W':Tab,upd H6 d (.dT (putK ((encI W).map λJ=>(J.1.map Sum.inr,J.2)) ((Tim.srt q19 ys).map Sum.inr) (V.int ((getA W (Tim.srt q19 ys)).getD 0+n)))) d=some (encD W')/\(W'.map (·.1)).Nodup/\W'.length<=i+1/\∀J∈W',1<=J.2/\Asc J.1/\J.1.length<=3/\(∀z∈J.1,z∈ws)/\J.2<=((i+1:Nat):Int)*2^110):=λn hn1 hn2=>by
     have ei:((i+1:Nat):Int)*2^110=(i:Int)*2^110+2^110:=by rw[Int.natCast_add,Int.add_mul];rfl
     refine⟨(sg.trans uA).set hd,addA W (Tim.srt q19 ys) n,by rw[qb,qui];rfl,qzw hnd _ _,z40 (qy3 _ _ _) (z2q b8),λJ b9=>?_⟩;rcases quk b9 with h | h
     ·obtain⟨b1,b2,b3,b4,b5⟩:=a5 J h;exact⟨b1,b2,b3,b4,by rw[ei];lia⟩
     ·rw[h];have bb:1<=(getA W (Tim.srt q19 ys)).getD 0+n/\(getA W (Tim.srt q19 ys)).getD 0+n<=(i:Int)*2^110+2^110:=by
       cases hg:getA W (Tim.srt q19 ys) with
       | none=>show 1<=0+n/\0+n<=_;lia
       | some v=>
        obtain⟨b1,_,_,_,b5⟩:=a5 _ (qy4 hg);have b1':1<=v:=b1;have c9:v<=(i:Int)*2^110:=b5;show 1<=v+n/\v+n<=_
        lia
      exact⟨bb.1,Tim.q23 q24 _,by rw[c8];lia,λz hz=>hy z ((Tim.q13 q19 _).mem_iff.mp hz),by rw[ei];exact bb.2⟩
    have O:DGet H6 d (.ref t) ((getA W (Tim.srt q19 ys)).map V.int):=by
     rw[<- qlp];exact DGet.t a4 c0
    have a9:((encI W).map λJ=>(J.1.map (Sum.inr:Str->Key),J.2)).length < sizeLine:=by rw[z30];unfold encI;rw[z30];exact q1l (by lia)
    refine⟨_,rfl,_,_,_,_,rfl,rfl,SqL.of c5,a1,_,_,rfl,rfl,(by show (0:Int) < 3;decide),_,_,rfl,rfl,?_⟩;refine⟨_,rfl,_,_,_,_,rfl,rfl,SqL.of c5,a2,_,_,rfl,rfl,(by show (0:Int) < 3;decide),rfl,_,rfl,ite2 (λh1=>?_) (λh1=>?_)⟩
    ·refine⟨_,rfl,_,_,rfl,rfl,⟨by decide,by decide,by decide⟩,_,_,rfl,rfl,(by show (0:Int) < 10^30;decide),_,_,rfl,rfl,?_⟩;refine⟨_,zr,_,zr,.inr ⟨_,.inl a4⟩,_,zr,_,O,_,zr,(getA W (Tim.srt q19 ys)).getD 0,_,qod _,zr,?_⟩;refine⟨_,zr,_,zr,d,_,zr,DPut.t a4 c0 a9,?_⟩;have hc0:=z39 c (show (10^30:Int)≠0 by decide);have hc1:=z1w c (show (0:Int) < 10^30 by decide);have h3:(10^30:Int) < 2^110:=by decide
     obtain⟨f1,f2⟩:=fin (1+c%10^30) (by lia) (by lia);exact⟨f1,⟨_,_,_,_,_,zr⟩,f2⟩
    ·refine⟨_,zr,_,zr,.inr ⟨_,.inl a4⟩,_,zr,_,O,_,zr,(getA W (Tim.srt q19 ys)).getD 0,_,qod _,zr,?_⟩;refine⟨_,zr,_,zr,d,_,zr,DPut.t a4 c0 a9,?_⟩;obtain⟨f1,f2⟩:=fin (1+ns.getD 1 0%3) (by lia) (by lia);exact⟨f1,⟨_,_,_,_,_,zr⟩,f2⟩
   ·obtain⟨⟨v,rfl⟩,sm,ys,e,yl,hy⟩:=p;obtain⟨rfl,hx⟩:=y;have a7:=hx _ (SqL.of (sm _ _ qb));rw[z22]at a7;obtain⟨n,d6,rfl⟩:=z0q.mp a7;have c6:=sm _ _ (t2 _ _ (t1 _ _ (sg _ _ e7)));have wp:(0:Int) < ((ws.map V.str).length:Int):=by rw[z30];lia
    have e4:=z39 n (show ((ws.map V.str).length:Int)≠0 by lia);have e5:=z1w n wp;obtain⟨v2,e6,d5⟩:=ql6 (xs:=ws.map V.str) (i:=n%((ws.map V.str).length:Int)) e4 e5;obtain⟨z,hz,rfl⟩:=z44.mp d5;refine⟨_,zr,_,zr,_,zr,_,_,zr,.inl ⟨_,SqL.of c6,zr⟩,_,_,zr,zr,wp,_,_,_,_,zr,zr,SqL.of c6,e6,?_⟩;have il:i < ms.length:=(z07.mp d6).1;refine⟨_,e,by rw[z30,yl];exact q1l (by lia),⟨_,rfl⟩,sm.set hD,ys++ [z],by rw[qb,z35];rfl,by rw[z1o,yl];rfl,λy e8=>?_⟩;rcases z2u.mp e8 with h | h
    ·exact hy y h
    ·rw[z1m.mp h];exact hz
  ·rintro σ G ⟨sg,⟨v1,v2,v3,v4,v5,rfl⟩,W,hW,hnd,b8,a5⟩;rw[z30]at b8;refine⟨_,zr,d,encI W,zr,hW,λl zs hl hz=>?_⟩;have ek:(encI W).map (·.1)=W.map (·.1):=by unfold encI;rw[z46];rfl
   rw[ek]at hz;have u1:=qf (o:=HO.lst zs) hl;refine⟨l,zr,⟨_,SqL.of qb⟩,λD2 b7=>?_⟩;have d8:zs.length=(Tim.srt q17 (W.map (·.1))).length:=Paired.length hz;have a8:G D2=none:=u1.free b7;have d0:(Tim.srt q17 (W.map (·.1))).length=W.length:=by
    rw[(Tim.q13 q17 _).length_eq,z30]
   have Z:∀p∈Tim.srt q17 (W.map (·.1)),p∈W.map (·.1):=λp hp=>(Tim.q13 q17 _).mem_iff.mp hp;have d1:(Tim.srt q17 (W.map (·.1))).Pairwise λa b=>q17 a b=true:=qbj q28 (Tim.q23 q28 _) ((Tim.q13 q17 _).nodup_iff.mpr hnd);generalize Tim.srt q17 (W.map (·.1))=S at*;refine q1u zs.length (λi σ' H'=>(∃v,σ'=[v,some (.ref d)])/\Same (upd G l (.lst zs)) H'/\∃ys,H' D2=some (.lst ys)/\(∀H2,KeepT H' H2->Paired (PlAt H2) ys ((S.take i).map λk=>(k,(getA W k).getD 0)))/\ys.length=i) ⟨⟨_,zr⟩,qf b7,[],qb,λ_ _=> .nil,zr⟩ (λi σ' H' hi p=>?_) (λσ' H' p=>⟨?_,?_⟩) (λi σ' H' hi p x H2 y=>?_)
   ·obtain⟨_,sm,_⟩:=p;exact⟨_,zs[i],SqL.of (sm _ _ qb),z0d hi⟩
   ·obtain⟨_,sm,_⟩:=p;exact⟨_,SqL.of (sm _ _ qb),z47 _⟩
   ·obtain⟨_,sm,ys,e,c7,yl⟩:=p;rw[d8,z2t]at c7;refine k D2 ys _ H' (sg.trans (u1.trans sm)) (sg.free a8) e c7 (by rw[z30];lia) ⟨?_,λJ b9=>?_⟩
    ·unfold Rise;rw[z46];exact(z4b S).symm ▸ d1
    ·obtain⟨pr,a6,rfl⟩:=z44.mp b9;obtain⟨n,hn,b6⟩:=qls hnd (Z pr a6);obtain⟨b1,b2,b3,b4,b5⟩:=a5 _ b6;rw[hn];refine⟨b1,b2,b3,b4,?_⟩;rw[z30]at b5;have c9:n<=(cs.length:Int)*2^110:=b5;have h90:(cs.length:Int)*2^110<=90*2^110:=Int.mul_le_mul_of_nonneg_right (by lia) (by decide);have h91:(90*2^110:Int) < 2^200:=by decide
     show n < 2^200
     lia
   ·obtain⟨⟨v,rfl⟩,sm,ys,e2,e0,yl⟩:=p;obtain⟨rfl,hx⟩:=y;have a7:=hx _ (SqL.of (sm _ _ qb));obtain⟨pr,a6,b,rfl,hb⟩:=q4m hz a7;obtain⟨n,hn,b6⟩:=qls hnd (Z pr (z18 a6));have c1:=sm _ _ (u1 _ _ hb);have O:DGet H2 d (.ref b) (some (.int n)):=by
     have e1:(some (V.int n))=valV ((encI W).map λJ=>(J.1.map (Sum.inr:Str->Key),J.2)) (pr.map Sum.inr):=by rw[qlp,hn];rfl
     rw[e1];exact DGet.t (sm _ _ (u1 _ _ hW)) (by rw[q98];exact c1)
    refine⟨_,rfl,_,rfl,_,rfl,d,_,rfl,O,by show 2<=sizeLine;decide,λq hq=>?_⟩;have u3:=qf (o:=HO.tup [.ref b,.int n]) hq;have d9:q≠D2:=λz=>by
     rw[z,e2]at hq;cases hq
    have d2:b≠D2:=λz=>by
     rw[z,a8]at hb;cases hb
    refine⟨_,u3 _ _ e2,by rw[yl];exact q1l (by lia),⟨_,rfl⟩,(sm.trans u3).set b7,ys++ [.ref q],qb,λH5 h5=>?_,by rw[z1o,yl];rfl⟩;rw[z3g,a6,z35];refine qd2 (e0 H5 (((Same.keepT u3).upd (u3 _ _ e2)).trans h5)) ⟨q,b,rfl,h5 q _ ?_,h5 b _ (by rw[qi d2];exact u3 _ _ c1)⟩;rw[qi d9,qb];show some (HO.tup [V.ref b,V.int n])=some (HO.tup [V.ref b,V.int ((getA W pr).getD 0)]);rw[hn];rfl
def qt8(W:xD)(k:Kd)(c:Int):LtW k (10^24) (q8a W c k):=λe=>by
 subst e;show absI (numF c) < 10^24;have:=qon c;unfold absI;split <;> lia
def q10w(xs:List V):cutV xs none (some (-1))=xs.take (xs.length - 1):=by
 unfold cutV;rw[HT.sIx_none,List.drop_zero,Nat.sub_zero];have:HT.sIx xs.length xs.length (some (-1))=xs.length - 1:=by
  unfold HT.sIx;simp
  lia
 rw[this]
def qqd{ws:xD}(w7:ws.length<=7)(tx:∀z∈ws,Wz 12 z/\1<=z.length/\Ws z):HOk (ws.take 4):=⟨by rw[z2g];lia,λz=>absurd (tx _ (z15 z)).2.1 (by decide+kernel),λw hw=>(tx w (z15 hw)).1.ok⟩
def qvo{W:xD}{k:Kd}{l:List Int}(g:qx W k (.nums l))(hk:k.ok):l.length<=9:=by
 cases g with | bests h hl=>
  have:=hk.2
  lia
def qvp{W:xD}{k:Kd}{R:xF}(g:qx W k (.acc R)):R.length<=128:=by
 cases g with | hands a o=>exact o.card a
structure At30 (K:xA) (mg:xE) (yl hd dw dk o:Addr) (cs:List Int) (ws:xD) (Y:Tab) (k:Kd) (m t:Int) (kvs kv2:List (Key×V)) (H:Hp):Prop where
 of:ofK m t k
 kok:k.ok
 mm:1<=m/\m<=4
 w2:2<=ws.length
 w7:ws.length<=7
 tx:∀z∈ws,Wz 12 z/\1<=z.length/\Ws z
 why:WA H yl Y
 hnd:WA H hd Y
 few:Y.length<=15
 prd:∀p∈Y,p.1.length<=3/\1<=p.2/\p.2 < 2^200
 nm:∀p∈Y,∀z∈p.1,z∈ws
 dct:H dw=some (.dK kvs)
 wsd:Wsd (ws.take 4) k H kvs (mf ws cs k ws.length)
 wpr:Paired (WPr H) kvs (mD ws cs k ws.length)
 dc2:H dk=some (.dK kv2)
 ws2:Wsd (ws.take 4) k H kv2 (mf ws cs k ws.length)
 wp2:Paired (WPr H) kv2 (mD ws cs k ws.length)
 by_:ByAt mg H o k
section
variable{K:xA}{mg:xE}{yl hd dw dk o:Addr}{cs:List Int}{ws:xD}{Y:Tab}{k:Kd}{m t:Int}{kvs kv2:List (Key×V)}{H:Hp}
theorem At30.same{H':Hp}(h:At30 K mg yl hd dw dk o cs ws Y k m t kvs kv2 H)(s:Same H H'):At30 K mg yl hd dw dk o cs ws Y k m t kvs kv2 H':=
 ⟨h.of,h.kok,h.mm,h.w2,h.w7,h.tx,h.why.same s,h.hnd.same s,h.few,h.prd,h.nm,s _ _ h.dct,h.wsd.same s,WPr.same s h.wpr,s _ _ h.dc2,h.ws2.same s,WPr.same s h.wp2,h.by_.same s⟩
def At30.hW(h:At30 K mg yl hd dw dk o cs ws Y k m t kvs kv2 H):HOk (ws.take 4):=qqd h.w7 h.tx
def At30.w1(h:At30 K mg yl hd dw dk o cs ws Y k m t kvs kv2 H):1<=(ws.take 4).length:=by
 have:=h.w2;rw[z2g]
 lia
def At30.good(h:At30 K mg yl hd dw dk o cs ws Y k m t kvs kv2 H)(z:Str)(w:Wo)(e:mf ws cs k ws.length z=some w):qx (ws.take 4) k w:=by
 obtain⟨c,rfl⟩:=qhh e;exact qaa h.hW h.w1 h.kok c
def At30.lt24(h:At30 K mg yl hd dw dk o cs ws Y k m t kvs kv2 H)(z:Str):LtW k (10^24) (gOf k (mf ws cs k ws.length) z):=by
 unfold gOf;cases e:mf ws cs k ws.length z with
 | none=>exact λq=>by subst q;show (0:Int) < 10^24;decide
 | some a=>
  obtain⟨c,rfl⟩:=qhh e;exact qt8 _ k c
def At30.fok(h:At30 K mg yl hd dw dk o cs ws Y k m t kvs kv2 H):FOk (ws.take 4) k (mf ws cs k ws.length):=⟨h.kok,h.hW,λw hw=>q10i (h.tx w (z15 hw)).1 (h.tx w (z15 hw)).2.1 (h.tx w (z15 hw)).2.2,h.good,λz=>(h.lt24 z).mono (by decide+kernel)⟩
def At30.yok(h:At30 K mg yl hd dw dk o cs ws Y k m t kvs kv2 H):YOk k (gOf k (mf ws cs k ws.length)) Y:=q10m h.hW h.kok h.fok.g h.lt24 λp D=>⟨z40 (h.prd p D).1 (by decide),Int.lt_trans (h.prd p D).2.2 (by decide+kernel)⟩
def At30.names(h:At30 K mg yl hd dw dk o cs ws Y k m t kvs kv2 H):∀p∈Y,∀n∈p.1,∃a,mf ws cs k ws.length n=some a:=λp hp n hn=>q124 (h.nm p hp n hn)
def At30.rgood(h:At30 K mg yl hd dw dk o cs ws Y k m t kvs kv2 H):qx (ws.take 4) k (rkY k (gOf k (mf ws cs k ws.length)) Y):=qm7 h.hW h.kok h.fok.g λp hp=>by have:=(h.prd p hp).2.1;lia
def At30.wd(h:At30 K mg yl hd dw dk o cs ws Y k m t kvs kv2 H):WD H dw (mf ws cs k ws.length):=⟨kvs,.inl h.dct,λz=>(h.wsd.val z).imp (·.1) id⟩
def At30.wd2(h:At30 K mg yl hd dw dk o cs ws Y k m t kvs kv2 H):WD H dk (mf ws cs k ws.length):=⟨kv2,.inl h.dc2,λz=>(h.ws2.val z).imp (·.1) id⟩
def At30.eqd(h:At30 K mg yl hd dw dk o cs ws Y k m t kvs kv2 H):Paired (DatP K H) kvs kv2:=qos h.hW (λp hp=>by
 obtain⟨c,e⟩:=qm8 _ p hp;rw[e];exact qaa h.hW h.w1 h.kok c) h.wpr h.wp2
end
def sp_law(K:xA):Sp:=λvs H Q _=>∃(a:Addr) (ns:List Int),vs=[.ref a]/\SqL K H a (ns.map V.int)/\ns.length<=63/\∀H',Q (.bl true) H'
def q10x{l:PySem.W.OpenLaw}{w:World}{K:xA}{mg:xE}{fa:Addr}(T:Txt K mg)(e5:mg "law"=some (.ref fa)):
  ∃fd:FuncData,(∀(s:Shared) (v:Value),BindsTo s fd ⟨[v],[]⟩ [("_law_script",v)])/\∀base:Heap,K.In base->base.Ns mainGlobals mg->FnOk l.prog w K mg base CX0 8 fa fd ["_law_script"] (sp_law K):=by
 refine T.t_law.fin e5 q32 (λvs H Q E h=>?_) λbase f cdv A outer s H vs Q E hr h=>?_
 ·obtain⟨a,ns,rfl,_⟩:=h;rfl
 ·obtain⟨a,ns,rfl,hS,f4,q⟩:=h;refine qxo 5 (λσ H'=>∃(p:Addr) (is:List Int) (kd m t:Int),σ=[some (.ref a),some (.ref p),some (.int kd),some (.int m),some (.int t),none,none,none,none,none,none,none,none,none]/\Same H H'/\H' p=some (.lst (is.map V.int))/\is.length=9/\(0<=kd/\kd < 6)/\(1<=m/\m<=4)/\0<=t) ?_ (λu hu hC=>⟨_,(q11l
   (qm (i:=1) q32.nd rfl (Or.inr rfl) (q11 (q3i T) hr rfl (pa_2 (q11 (q5o T) hr rfl (pa_2 (pv 0) qc)) qc)))
   (qm (i:=2) q32.nd rfl (Or.inl rfl) (ql q16 (q1a (qy K) (pv 1) qc (λ_ _=>rfl)) qc))
   (qm (i:=3) q32.nd rfl (Or.inl rfl) (ql q1j qc (ql q16 (q1a (qy K) (pv 1) qc (λ_ _=>rfl)) qc)))
   (qm (i:=4) q32.nd rfl (Or.inl rfl) qc)
   (q12 (qp q1f (ql q16 (q1a (qy K) (pv 1) qc (λ_ _=>rfl)) qc) qc (qq _)) (qg (qm (i:=4) q32.nd rfl (Or.inl rfl) (ql q16 (q11 (q5o T) hr rfl (pa_2 (pv 0) qc)) (q1a (qy K) (q1p (pa_2 qc (ql qer qc qc))) (ql q16 (q1a (qy K) (pv 1) qc (λ_ _=>rfl)) qc) (λ_ _=>rfl))))) qr)
   hu),?_⟩)
  ·refine qrm 11 (λσ H'=>∃(p wp ca yl dw dk hd o:Addr) (cs:List Int) (ws:xD) (Y:Tab) (k:Kd) (m t:Int) (kvs kv2:List (Key×V)) (du fr:V),σ=[some (.ref a),some (.ref p),some (.int (q2s k)),some (.int m),some (.int t),some (.ref wp),some (.ref ca),some (.ref yl),some (.ref dw),some (.ref dk),some (.ref hd),some (.ref o),some du,some fr]/\At30 K mg yl hd dw dk o cs ws Y k m t kvs kv2 H'/\WV H' (rkY k (gOf k (mf ws cs k ws.length)) Y) du) ⟨_,(q39
   (q12 (PW.pt (q7c (qp (qzp hr.units K) (pv 10) (pv 7) (qq _)) (q5a (qp (qub hr.units K) (pv 8) (pv 9) (qq _))))) (qg (qh q3p)) qr)
   (qh (q11 (qaj T) hr rfl (pa_2 (q11 (qd4 T) hr rfl (pa_3 (pv 10) (pv 11) (pv 8))) (pv 12))))),?_⟩ (λu hu hC=>⟨_,(qzn
   (qm (i:=5) q32.nd rfl (Or.inl rfl) (q11 (qhg T) hr rfl (pa_2 (q1a (qy K) (pv 1) qc (λ_ _=>rfl)) (ql q1j qc (ql q16 (q1a (qy K) (pv 1) qc (λ_ _=>rfl)) qc)))))
   (q9o (i:=6) q32.nd rfl rfl (N:=["_law_k","_law_script","_law_way"]) (caps:=[none,some 0,some 1]) rfl (by with_unfolding_all rfl) (q55 rfl T.q7k (pa_1 qc)) (λ_ _ _ _ _=>(qu (i:=0) (show (["_law_k","_law_script","_law_way"]:xD).Nodup by decide+kernel) rfl (Or.inl rfl))) (λ_ _ _ _ _=>q2u) (λ_ _ _ _ _=>(ql q1j (ql q1j (q11 (q5o T) hr rfl (pa_2 (pv 1) (ql q1j qc (pv 0)))) (ql q16 (q1a (qy K) (pv 2) qc (λ_ _=>rfl)) qc)) (ql q5d qc (pv 0)))))
   (qm (i:=7) q32.nd rfl (Or.inl rfl) (q11 (qnl T) hr rfl (pa_3 (ql q5e (q11 (q3i T) hr rfl (pa_2 (q1a (qy K) (pv 1) qc (λ_ _=>rfl)) (ql q16 (q1a (qy K) (pv 1) qc (λ_ _=>rfl)) qc))) (q27 (q31 K) (pv 0) (q1q qc) (q1q qc))) (q27 (q31 K) (pv 5) q3w (q1q (qw4 qqx qc))) qc)))
   (qm (i:=8) q32.nd rfl (Or.inl rfl) (q11 (q5s T) hr rfl (pa_5 (pv 2) (pv 6) (pv 5) (pv 3) (pv 4))))
   (qm (i:=9) q32.nd rfl (Or.inl rfl) (q11 (q5s T) hr rfl (pa_5 (pv 2) (pv 6) (pv 5) (pv 3) (pv 4))))
   (qm (i:=10) q32.nd rfl (Or.inl rfl) (q2v (qev K) rfl T.q8e q5y (pa_1 (pv 7))))
   (qm (i:=11) q32.nd rfl (Or.inl rfl) (q11 (qq2 T) hr rfl (pa_3 (pv 2) (pv 3) (pv 4))))
   (qm (i:=12) q32.nd rfl (Or.inl rfl) (q11 (qnk T) hr rfl (pa_5 (pv 2) (pv 7) (pv 9) (pv 3) (pv 4))))
   (qm (i:=13) q32.nd rfl (Or.inl rfl) (q11 (qd4 T) hr rfl (pa_3 (pv 10) (pv 11) (pv 8))))
   (q12 (q3t (q3s (q11 (qaj T) hr rfl (pa_2 (pv 13) (pv 12))))) (qg (qh q3p)) qr)
   (q12 (q3s (qo (q2j K) rfl T.q1t q1n (pa_2 (pv 13) (q4u rfl T.q8e q5y)))) (qg (q2i (q43 z0l z0g z0h q2w (pv 13) (pa_1 qc)))) qr)
   hu),?_⟩)
   ·rintro σ H1 ⟨p,wp,ca,yl,dw,dk,hd,o,cs,ws,Y,k,m,t,kvs,kv2,du,fr,rfl,h,wd⟩;refine⟨_,zr,_,zr,_,_,h.hnd.dat,h.why.dat,qs7 _,_,zr,?_⟩;rw[PySem.SeqAt.eqv_refl _ (Dat.lay _ _ (h.why.dat (K:=K)))];refine qk rfl ?_;refine⟨_,zr,_,zr,dw,dk,kvs,kv2,zr,zr,.inl h.dct,.inl h.dc2,h.eqd,_,zr,iteF ?_⟩;refine⟨_,zr,_,zr,_,zr,hd,o,dw,Y,k,_,ws.take 4,zr,h.hnd,h.by_,h.wd,h.fok,h.names,h.yok,λz H2 s2 _ v=>?_⟩;exact⟨_,zr,z,du,_,zr,v.dat h.hW h.rgood,(wd.same s2).dat h.hW h.rgood,qe3 _,q _⟩
   ·rintro σ H1 ⟨p,is,kd,m,t,rfl,s1,J,il,⟨f0,f1⟩,hm,ht⟩;have a0:atI (is.map V.int) 0=some (V.int (is.getD 0 0)):=q1w (k:=0) (by lia);have a5:atI (is.map V.int) 5=some (V.int (is.getD 5 0)):=q1w (k:=5) (by lia);have a6:atI (is.map V.int) 6=some (V.int (is.getD 6 0)):=q1w (k:=6) (by lia);have a7:atI (is.map V.int) 7=some (V.int (is.getD 7 0)):=q1w (k:=7) (by lia);have a8:atI (is.map V.int) 8=some (V.int (is.getD 8 0)):=q1w (k:=8) (by lia);generalize is.getD 0 0=i0 at*;generalize is.getD 5 0=i5 at*;generalize is.getD 6 0=i6 at*;generalize is.getD 7 0=i7 at*;generalize is.getD 8 0=i8 at*;have b9:1<=m/\m<=9:=by lia
    obtain⟨k,rfl,b2,hk⟩:=q11y f0 f1 b9 ht;refine⟨_,rfl,_,_,_,_,rfl,rfl,SqL.of J,a0,_,rfl,_,_,_,_,rfl,rfl,SqL.of J,a5,_,_,rfl,rfl,(by show (0:Int) < 6;decide),_,_,rfl,rfl,_,2+i5%6,rfl,by lia,by lia,λwp ws H2 s2 hw lw _ tx=>?_⟩;have b0:0<=i5%6:=z39 _ (by decide);have b1:i5%6 < 6:=z1w _ (by decide);have w2:2<=ws.length:=by lia
    have w7:ws.length<=7:=by lia
    have d5:=s1.trans s2;have c4:=s2 _ _ J;have b8:=d5.seq hS;refine⟨_,zr,by decide,by decide,λD O=>?_⟩;refine q1u 8 (λi σ' H'=>(∃v,σ'=[v,some (.ref a),some (.ref p)])/\Same H2 H'/\∃cs:List Int,H' D=some (.lst (cs.map V.int))/\cs.length=i) ⟨⟨_,zr⟩,qf O,[],qb,zr⟩ (λi σ' H' hi p=>hi) (λσ' H' p=>⟨z47 _,?_⟩) (λi σ' H' hi p x H3 y=>?_)
    case refine_2=>
     obtain⟨⟨v,rfl⟩,sm,cs,e,cl⟩:=p;obtain⟨rfl,rfl⟩:=y;refine⟨_,rfl,_,rfl,_,_,rfl,rfl,a,ns,2+(0+(i:Int)),rfl,sm.seq b8,by lia,_,rfl,_,_,_,_,rfl,rfl,SqL.of (sm _ _ c4),a6,_,_,rfl,rfl,(by show (0:Int) < 97;decide),_,_,rfl,rfl,_,rfl,_,_,rfl,rfl,.inl ⟨by decide,by decide⟩,_,_,rfl,rfl,?_⟩;exact⟨_,e,by rw[z30,cl];exact q1l (by lia),⟨_,rfl⟩,sm.set O,cs++ [_],by rw[qb,z35];rfl,by rw[z1o,cl];rfl⟩
    obtain⟨_,sm,cs,hc,cl⟩:=p;clear O;have b4:=sm _ _ c4;have c5:=sm _ _ hw;have c9:=sm.seq b8;generalize H'=H3 at*;clear sm c4 hw b8 J d5 s1 s2 hS;refine⟨_,rfl,_,_,_,_,rfl,rfl,SqL.of b4,a7,_,rfl,_,_,_,_,rfl,rfl,SqL.of b4,a8,_,_,rfl,rfl,(by show (0:Int) < 4;decide),_,i8%4,rfl,by lia,by lia,λq2 js H4 s4 hq jl _ _=>?_⟩;have c0:0<=i8%4:=z39 _ (by decide);have c1:i8%4 < 4:=z1w _ (by decide);refine⟨_,zr,_,zr,_,zr,_,_,zr,s4.seq c9,λl5 e6=>?_⟩;rw[qfl];have d8:=qha ns 8 20;generalize cutL ns (some ((8:Nat):Int)) (some ((20:Nat):Int))=ms at*;have s5:=qf (o:=HO.lst (ms.map V.int)) e6;have jl':js.length<=3:=by lia
    refine⟨q2,l5,_,_,rfl,rfl,s5 _ _ hq,qb,by rw[z30,z30];exact z3x (q1l (by lia)),λl6 e7=>?_⟩;have s6:=qf (o:=HO.lst (js.map V.int++ms.map V.int)) e7;have c6:=s4.trans (s5.trans s6);refine⟨_,zr,_,zr,_,zr,_,_,zr,SqL.of (c6 _ _ c5),λl7 e8=>?_⟩;rw[q10w,<- List.map_take,z30];have s7:=qf (o:=HO.lst ((ws.take (ws.length - 1)).map V.str)) e8;refine⟨l6,l7,js++ms,ws.take (ws.length - 1),3,rfl,s7 _ _ (by rw[qb,z35]),by rw[z1o];lia,qb,by rw[z2g];lia,(λz hz=>(tx z (z15 hz)).1.ok),by decide,by decide,λyl ys Y H8 s8 _ e9 f2 lY w3=>?_⟩;have b7:Y.length<=15:=by rw[z1o]at lY;lia
    have d4:∀p∈Y,∀z∈p.1,z∈ws:=λp J z hz=>z15 ((w3.2 p J).2.2.2.1 z hz);have bw:BW Y:=⟨by lia,λp J=>⟨λx hx=>(tx x (d4 p J x hx)).1.ok,z40 (w3.2 p J).2.2.1 (by decide),by have:=(w3.2 p J).1;lia,z3v (z3u (w3.2 p J).2.2.2.2) (by decide+kernel)⟩⟩;have wY:WA H8 yl Y:=⟨ys,e9,f2 H8 (λ_ _ z=>z),bw⟩;have b5:=c6.trans (s7.trans s8);have hp8:=b5 _ _ b4;have d2:=b5 _ _ c5;have d0:=b5 _ _ hc;clear b4 c5 c9 hc b5 c6 s8 s7 s6 s5 s4;refine⟨_,zr,_,zr,_,zr,_,zr,_,zr,k,D,wp,cs,m,t,ws,zr,b2,hk,b9,ht,d0,d2,qqd w7 tx,by lia,w7,by lia,λdw kvs H9 s9 _ e0 kl wsd wpr=>?_⟩;refine⟨_,zr,_,zr,_,zr,_,zr,_,zr,k,D,wp,cs,m,t,ws,zr,b2,hk,b9,ht,s9 _ _ d0,s9 _ _ d2,qqd w7 tx,by lia,w7,by lia,λdk kv2 HA sA _ d9 kl2 d7 d6=>?_⟩;have f3:=s9.trans sA;have b6:=wY.same f3;refine⟨_,zr,yl,_,zr,.inl (SqL.of b6.lst),λhd d1=>?_⟩;have uB:=qf (o:=HO.lst b6.xs) d1;have wB:=b6.copy d1;refine⟨_,zr,_,zr,_,zr,k,m,t,zr,b2,λo HC sC hB=>?_⟩;have b3:=uB.trans sC;have c7:=sA.trans b3;have Z:At30 K mg yl hd dw dk o cs ws Y k m t kvs kv2 HC:=⟨b2,hk,hm,w2,w7,tx,b6.same b3,wB.same sC,b7,λp J=>⟨(w3.2 p J).2.2.1,(w3.2 p J).1,(w3.2 p J).2.2.2.2⟩,d4,c7 _ _ e0,wsd.same c7,WPr.same c7 wpr,b3 _ _ d9,d7.same b3,WPr.same b3 d6,hB⟩;refine⟨_,rfl,_,rfl,_,rfl,_,rfl,_,rfl,k,yl,dk,m,t,Y,_,ws.take 4,rfl,b2,hm.1,hm.2,Z.why,b7,Z.prd,Z.wd2,Z.fok,by rw[z2g];lia,Z.names,Z.lt24,λdu HD sD _ wD=>?_⟩;have O:=Z.same sD;refine⟨_,zr,_,zr,_,zr,hd,o,dw,Y,k,_,ws.take 4,zr,O.hnd,O.by_,O.wd,O.fok,O.names,O.yok,λfr HE sE nE wE=>?_⟩;refine⟨_,zr,_,zr,fr,du,_,zr,wE.dat O.hW O.rgood,(wD.same sE).dat O.hW O.rgood,qe3 _,_,zr,qk rfl ?_⟩;have dE:Dat K HE (dW (rkY k (gOf k (mf ws cs k ws.length)) Y)) fr:=wE.dat O.hW O.rgood;have hE:=O.same sE;have c8:=wD.same sE;refine⟨_,zr,_,_,_,zr,dE,by decide,?_⟩;have rg:=O.rgood;generalize rkY k (gOf k (mf ws cs k ws.length)) Y=R at dE wE rg ⊢;cases R with
    | num i=>exact⟨_,rfl,qk rfl (hC _ _ ⟨p,wp,D,yl,dw,dk,hd,o,cs,ws,Y,k,m,t,kvs,kv2,du,fr,rfl,hE,c8⟩)⟩
    | non=>exact⟨_,rfl,qk rfl (hC _ _ ⟨p,wp,D,yl,dw,dk,hd,o,cs,ws,Y,k,m,t,kvs,kv2,du,fr,rfl,hE,c8⟩)⟩
    | tr b=>exact⟨_,rfl,qk rfl (hC _ _ ⟨p,wp,D,yl,dw,dk,hd,o,cs,ws,Y,k,m,t,kvs,kv2,du,fr,rfl,hE,c8⟩)⟩
    | nums xs=>
     obtain⟨fp,rfl,a9⟩:=wE;have sG:=sE.set (o:=HO.lst (xs.map V.int++ [V.int 7])) (nE fp rfl);exact⟨_,rfl,q1d rfl ⟨_,rfl,.inl ⟨rfl,_,SqL.of a9⟩,fp,_,_,rfl,rfl,a9,q1l (by rw[z30];have:=qvo rg hk;lia),hC _ _ ⟨p,wp,D,yl,dw,dk,hd,o,cs,ws,Y,k,m,t,kvs,kv2,du,_,rfl,O.same sG,wD.same sG⟩⟩⟩
    | acc RR=>
     obtain⟨fp,zs,rfl,a9,tt⟩:=wE;have sG:=sE.set (o:=HO.lst (zs++ [V.int 7])) (nE fp rfl);exact⟨_,rfl,q1d rfl ⟨_,rfl,.inl ⟨rfl,_,SqL.of a9⟩,fp,_,_,rfl,rfl,a9,q1l (by rw[Paired.length tt];have:=qvp rg;lia),hC _ _ ⟨p,wp,D,yl,dw,dk,hd,o,cs,ws,Y,k,m,t,kvs,kv2,du,_,rfl,O.same sG,wD.same sG⟩⟩⟩
  ·refine⟨_,zr,a,ns,0,zr,hS,by decide,_,_,zr,by decide,by decide,λp is H1 s1 J il _ ig0=>?_⟩;have d3:is.length=9:=il;have a1:atI (is.map V.int) 1=some (V.int (is.getD 1 0)):=q1w (k:=1) (by lia);have a2:atI (is.map V.int) 2=some (V.int (is.getD 2 0)):=q1w (k:=2) (by lia);have a3:atI (is.map V.int) 3=some (V.int (is.getD 3 0)):=q1w (k:=3) (by lia);have a4:atI (is.map V.int) 4=some (V.int (is.getD 4 0)):=q1w (k:=4) (by lia);generalize is.getD 1 0=i1 at*;generalize is.getD 2 0=i2 at*;generalize is.getD 3 0=i3 at*;generalize is.getD 4 0=i4 at*;refine⟨_,rfl,_,_,_,_,rfl,rfl,SqL.of J,a1,_,_,rfl,rfl,(by show (0:Int) < 6;decide),?_⟩;refine⟨_,rfl,_,_,_,_,rfl,rfl,SqL.of J,a2,_,_,rfl,rfl,(by show (0:Int) < 4;decide),_,_,rfl,rfl,?_⟩;refine⟨_,rfl,_,_,_,_,rfl,rfl,SqL.of J,a3,_,_,rfl,rfl,(by show (0:Int) < 2;decide),rfl,_,rfl,ite2 (λ_=>?_) (λ_=>?_)⟩
   ·refine⟨_,rfl,a,ns,1,rfl,s1.seq hS,by decide,_,_,rfl,rfl,⟨by decide,by decide,by decide⟩,by show 2<=sizeLine;decide,λL hL=>?_⟩;have u1:=qf (o:=HO.lst [V.int 10,V.int (10^30)]) hL;obtain⟨v,e4,hv⟩:=ql6 (xs:=[V.int 10,V.int (10^30)]) (i:=i4%2) (z39 _ (by decide)) (z1w _ (by decide));refine⟨_,rfl,_,_,_,_,rfl,rfl,SqL.of (u1 _ _ J),a4,_,_,rfl,rfl,(by show (0:Int) < 2;decide),_,_,_,v,rfl,rfl,SqL.of qb,e4,?_⟩;simp only[z3m,z2r,or_false]at hv;have fin:∀j:Int,0<=j->u {nx:=λ_ H'=>Q .non H',rt:=Q} [some (.ref a),some (.ref p),some (.int (i1%6)),some (.int (1+i2%4)),some (.int j),none,none,none,none,none,none,none,none,none] (upd H1 L (.lst [V.int 10,V.int (10^30)])):=λj h=>hC _ _ ⟨p,is,_,_,_,rfl,s1.trans u1,u1 _ _ J,d3,⟨by lia,by lia⟩,⟨by lia,by lia⟩,h⟩;rcases hv with rfl | rfl
    ·exact⟨_,_,rfl,rfl,(by show (0:Int) < 10;decide),fin _ (z39 _ (by decide))⟩
    ·exact⟨_,_,rfl,rfl,(by show (0:Int) < 10^30;decide),fin _ (z39 _ (by decide))⟩
   ·exact hC _ _ ⟨p,is,i1%6,1+i2%4,100,zr,s1,J,d3,⟨by lia,by lia⟩,⟨by lia,by lia⟩,by decide⟩
open PySem.W in
def qmi{K:xA}{h:Heap}{mg:xE}(X:K.In h)(G:h.Ns mainGlobals mg){aR aS aT aU aV aW:Tok}{aL aM aH aN aX aI aO aY:Addr}{aZ a0 a1 a2 aP a3 a4 a5 a6 a7 a8 aQ a9 aa:Value}{ab ac ad ae af ag:Option Addr}{ah ai aj ak:Array (Option Value)}
  (al:nsIn K mainGlobals "abs"=some none)
  (am:nsIn K mainGlobals "all"=some none)
  (an:nsIn K mainGlobals "any"=some none)
  (ao:nsIn K mainGlobals "bool"=some none)
  (ap:nsIn K mainGlobals "dict"=some none)
  (aq:nsIn K mainGlobals "int"=some none)
  (ar:nsIn K mainGlobals "isinstance"=some none)
  (as:nsIn K mainGlobals "len"=some none)
  (au:nsIn K mainGlobals "list"=some none)
  (av:nsIn K mainGlobals "max"=some none)
  (aw:nsIn K mainGlobals "min"=some none)
  (ax:nsIn K mainGlobals "range"=some none)
  (ay:nsIn K mainGlobals "set"=some none)
  (az:nsIn K mainGlobals "sorted"=some none)
  (bA:nsIn K mainGlobals "str"=some none)
  (bB:nsIn K mainGlobals "sum"=some none)
  (bC:nsIn K mainGlobals "tuple"=some none)
  (bD:nsIn K mainGlobals "SMALL_LETTERS"=some (some (.str "abcdefghijklmnopqrstuvwxyz" aR)))
  (bE:nsIn K mainGlobals "FURTHER_SIGNS"=some (some (.str "abcdefghijklmnopqrstuvwxyz0123456789" aS)))
  (bF:nsIn K mainGlobals "MOST_SIGNS"=some (some (.int 12 aT)))
  (bG:nsIn K mainGlobals "END"=some (some (.str "" aU)))
  (bH:FiK K "is_whole" q9v)
  (bI:FiK K "is_text_begun_by" q47)
  (bJ:FiK K "is_word" qbb)
  (bK:FiK K "names_of" q9w)
  (bL:FiK K "ask_worths" q7t)
  (bM:FiK K "product_reckoned" q48)
  (bN:FiK K "reckoned" q9x)
  (bO:FiK K "is_tuple_of_words" q40)
  (bP:FiK K "is_accord" q8u)
  (bQ:FiK K "put_into" q9y)
  (bR:FiK K "kids_within" q6s)
  (bS:FiK K "has_one_within" q4y)
  (bT:FiK K "once_by_size" q60)
  (bU:FiK K "thinned" qbc)
  (bV:FiK K "agreed" qdm)
  (bW:FiK K "_law_cell_at" q67)
  (bX:FiK K "_law_stream" q72)
  (bY:FiK K "_law_word" q8v)
  (bZ:FiK K "_law_words" q83)
  (b0:FiK K "_law_why" q9z)
  (b1:FiK K "_law_within" q73)
  (b2:FiK K "_law_accord" q74)
  (b3:FiK K "_law_by" qbd)
  (b4:FiK K "_law_number" q75)
  (b5:FiK K "_law_worth" q84)
  (b6:FiK K "_law_many_worths" q4b)
  (b7:FiK K "_law_alike" q85)
  (b8:FiK K "_law_choices" q68)
  (b9:FiK K "_law_thin" q8w)
  (ba:FiK K "_law_one_worth" q52)
  (bb:FiK K "_law_due" qa0)
  (bc:FiK K "law" qpr)
  (bd:nsIn K mainGlobals "Bests"=some (some (.ref aL)))
  (be:nsIn K mainGlobals "Trusts"=some (some (.ref aM)))
  (D:CiK K "Reckoning")
  (bf:AiK K "Reckoning" "__init__" (some (some (.builtin "object.__init__"))))
  (bg:AiK K "Reckoning" "either" (some none))
  (bh:AiK K "Reckoning" "nought" (some none))
  (bi:MiK K "Reckoning" "repeated" "Reckoning.repeated" q5g)
  (J:CiK K "Counts")
  (bj:AiK K "Counts" "__init__" (some (some (.builtin "object.__init__"))))
  (bk:MiK K "Counts" "fits" "Counts.fits" q6t)
  (bl:MiK K "Counts" "nought" "Counts.nought" q5h)
  (bm:MiK K "Counts" "unit" "Counts.unit" q6u)
  (bn:MiK K "Counts" "either" "Counts.either" q5i)
  (bo:MiK K "Counts" "both" "Counts.both" q6v)
  (bp:MiK K "Counts" "repeated" "Counts.repeated" q4o)
  (O:CiK K "Costs")
  (bq:AiK K "Costs" "__init__" (some (some (.builtin "object.__init__"))))
  (br:MiK K "Costs" "fits" "Costs.fits" q7u)
  (bs:MiK K "Costs" "nought" "Costs.nought" q61)
  (bt:MiK K "Costs" "unit" "Costs.unit" q7v)
  (bu:MiK K "Costs" "either" "Costs.either" q62)
  (bv:MiK K "Costs" "both" "Costs.both" q7w)
  (bw:MiK K "Costs" "repeated" "Reckoning.repeated" q4z)
  (Z:CiK K "Bests")
  (bx:AiK K "Bests" "most" (some none))
  (bz:findIn K (.ref aL) "__init__"=some (some (.ref aH))) (cA:isFn K (.ref aH)=true)
  (cB:K.lookup aH=some ⟨aZ,ab,.func (fnOf "__init__" "Bests.__init__" (q1z q49) (q1k q49) (qd q49) (.ref aN) a0 a1 a2 ac aP a3),ah⟩)
  (cC:codeIn K aP "Bests.__init__"=true)
  (aJ:K.lookup aN=some ⟨a4,ad,.seq #[.int 3 aV] aX,ai⟩)
  (cD:MiK K "Bests" "least_ones" "Bests.least_ones" q4a)
  (cE:MiK K "Bests" "fits" "Bests.fits" q7x)
  (cF:MiK K "Bests" "nought" "Bests.nought" q63)
  (cG:MiK K "Bests" "unit" "Bests.unit" q7y)
  (cH:MiK K "Bests" "either" "Bests.either" q64)
  (cI:MiK K "Bests" "both" "Bests.both" q7z)
  (cJ:MiK K "Bests" "repeated" "Bests.repeated" q50)
  (aE:CiK K "Trusts")
  (cK:AiK K "Trusts" "top" (some none))
  (cL:findIn K (.ref aM) "__init__"=some (some (.ref aI))) (cM:isFn K (.ref aI)=true)
  (cN:K.lookup aI=some ⟨a5,ae,.func (fnOf "__init__" "Trusts.__init__" (q1z q3v) (q1k q3v) (qd q3v) (.ref aO) a6 a7 a8 af aQ a9),aj⟩)
  (cO:codeIn K aQ "Trusts.__init__"=true)
  (aK:K.lookup aO=some ⟨aa,ag,.seq #[.int 100 aW] aY,ak⟩)
  (cP:MiK K "Trusts" "fits" "Trusts.fits" q6w)
  (cQ:MiK K "Trusts" "nought" "Trusts.nought" q5j)
  (cR:MiK K "Trusts" "unit" "Trusts.unit" q6x)
  (cS:MiK K "Trusts" "either" "Trusts.either" q5k)
  (cT:MiK K "Trusts" "both" "Trusts.both" q6y)
  (cU:MiK K "Trusts" "repeated" "Reckoning.repeated" q4p)
  (aF:CiK K "Truths")
  (cV:AiK K "Truths" "__init__" (some (some (.builtin "object.__init__"))))
  (cW:MiK K "Truths" "fits" "Truths.fits" q6z)
  (cX:MiK K "Truths" "nought" "Truths.nought" q5l)
  (cY:MiK K "Truths" "unit" "Truths.unit" q70)
  (cZ:MiK K "Truths" "either" "Truths.either" q5m)
  (c0:MiK K "Truths" "both" "Truths.both" q71)
  (c1:MiK K "Truths" "repeated" "Reckoning.repeated" q4q)
  (aG:CiK K "Hands")
  (c2:AiK K "Hands" "__init__" (some (some (.builtin "object.__init__"))))
  (c3:MiK K "Hands" "fits" "Hands.fits" q80)
  (c4:MiK K "Hands" "nought" "Hands.nought" q65)
  (c5:MiK K "Hands" "unit" "Hands.unit" q81)
  (c6:MiK K "Hands" "either" "Hands.either" q66)
  (c7:MiK K "Hands" "both" "Hands.both" q82)
  (c8:MiK K "Hands" "repeated" "Reckoning.repeated" q51):Txt K mg:=
 ⟨z1x X G al,
  z1x X G am,
  z1x X G an,
  z1x X G ao,
  z1x X G ap,
  z1x X G aq,
  z1x X G ar,
  z1x X G as,
  z1x X G au,
  z1x X G av,
  z1x X G aw,
  z1x X G ax,
  z1x X G ay,
  z1x X G az,
  z1x X G bA,
  z1x X G bB,
  z1x X G bC,
  ⟨_,z3q X G bD⟩,
  ⟨_,z3q X G bE⟩,
  ⟨_,z3q X G bF⟩,
  ⟨_,z3q X G bG⟩,
  bH.top X G (λ_ _ _ _ _ _=>us1 λ_=>rfl),
  bI.top X G (λ_ _ _ _ _ _=>us2 λ_ _=>rfl),
  bJ.top X G (λ_ _ _ _ _ _=>us1 λ_=>rfl),
  bK.top X G (λ_ _ _ _ _ _=>us1 λ_=>rfl),
  bL.top X G (λ_ _ _ _ _ _=>us3 λ_ _ _=>rfl),
  bM.top X G (λ_ _ _ _ _ _=>us3 λ_ _ _=>rfl),
  bN.top X G (λ_ _ _ _ _ _=>us3 λ_ _ _=>rfl),
  bO.top X G (λ_ _ _ _ _ _=>us1 λ_=>rfl),
  bP.top X G (λ_ _ _ _ _ _=>us1 λ_=>rfl),
  bQ.top X G (λ_ _ _ _ _ _=>us2 λ_ _=>rfl),
  bR.top X G (λ_ _ _ _ _ _=>us2 λ_ _=>rfl),
  bS.top X G (λ_ _ _ _ _ _=>us2 λ_ _=>rfl),
  bT.top X G (λ_ _ _ _ _ _=>us1 λ_=>rfl),
  bU.top X G (λ_ _ _ _ _ _=>us1 λ_=>rfl),
  bV.top X G (λ_ _ _ _ _ _=>us2 λ_ _=>rfl),
  bW.top X G (λ_ _ _ _ _ _=>us2 λ_ _=>rfl),
  bX.top X G (λ_ _ _ _ _ _=>us2 λ_ _=>rfl),
  bY.top X G (λ_ _ _ _ _ _=>us2 λ_ _=>rfl),
  bZ.top X G (λ_ _ _ _ _ _=>us2 λ_ _=>rfl),
  b0.top X G (λ_ _ _ _ _ _=>us3 λ_ _ _=>rfl),
  b1.top X G (λ_ _ _ _ _ _=>us2 λ_ _=>rfl),
  b2.top X G (λ_ _ _ _ _ _=>us3 λ_ _ _=>rfl),
  b3.top X G (λ_ _ _ _ _ _=>us3 λ_ _ _=>rfl),
  b4.top X G (λ_ _ _ _ _ _=>us1 λ_=>rfl),
  b5.top X G (λ_ _ _ _ _ _=>us5 λ_ _ _ _ _=>rfl),
  b6.top X G (λ_ _ _ _ _ _=>us5 λ_ _ _ _ _=>rfl),
  b7.top X G (λ_ _ _ _ _ _=>us2 λ_ _=>rfl),
  b8.top X G (λ_ _ _ _ _ _=>us3 λ_ _ _=>rfl),
  b9.top X G (λ_ _ _ _ _ _=>us1 λ_=>rfl),
  ba.top X G (λ_ _ _ _ _ _=>us3 λ_ _ _=>rfl),
  bb.top X G (λ_ _ _ _ _ _=>us5 λ_ _ _ _ _=>rfl),
  bc.top X G (λ_ _ _ _ _ _=>us1 λ_=>rfl),
  D.g X G,
  D.cl X G,
  D.mk' X G,
  D.kp X G,
  bf.at' X G,
  bg.at' X G,
  bh.at' X G,
  bi.top X G (λ_ _ _ _ _ _=>us3 λ_ _ _=>rfl),
  J.g X G,
  J.cl X G,
  J.mk' X G,
  J.kp X G,
  bj.at' X G,
  bk.top X G (λ_ _ _ _ _ _=>us2 λ_ _=>rfl),
  bl.top X G (λ_ _ _ _ _ _=>us1 λ_=>rfl),
  bm.top X G (λ_ _ _ _ _ _=>us1 λ_=>rfl),
  bn.top X G (λ_ _ _ _ _ _=>us3 λ_ _ _=>rfl),
  bo.top X G (λ_ _ _ _ _ _=>us3 λ_ _ _=>rfl),
  bp.top X G (λ_ _ _ _ _ _=>us3 λ_ _ _=>rfl),
  O.g X G,
  O.cl X G,
  O.mk' X G,
  O.kp X G,
  bq.at' X G,
  br.top X G (λ_ _ _ _ _ _=>us2 λ_ _=>rfl),
  bs.top X G (λ_ _ _ _ _ _=>us1 λ_=>rfl),
  bt.top X G (λ_ _ _ _ _ _=>us1 λ_=>rfl),
  bu.top X G (λ_ _ _ _ _ _=>us3 λ_ _ _=>rfl),
  bv.top X G (λ_ _ _ _ _ _=>us3 λ_ _ _=>rfl),
  bw.top X G (λ_ _ _ _ _ _=>us3 λ_ _ _=>rfl),
  Z.g X G,
  Z.cl X G,
  Z.mk' X G,
  Z.kp X G,
  bx.at' X G,
  (by rw[q8o (z3q X G bd)];exact qo9 bz cA cB cC ⟨_,rfl⟩ (λs v X=>z3a X rfl aJ rfl rfl rfl) (λs v z X=>(by first | exact .of_eq rfl | exact z3a X rfl aJ rfl rfl rfl)) (λs v z X=>(by first | exact .of_eq rfl | exact z3a X rfl aJ rfl rfl rfl))),
  cD.top X G (λ_ _ _ _ _ _=>us2 λ_ _=>rfl),
  cE.top X G (λ_ _ _ _ _ _=>us2 λ_ _=>rfl),
  cF.top X G (λ_ _ _ _ _ _=>us1 λ_=>rfl),
  cG.top X G (λ_ _ _ _ _ _=>us1 λ_=>rfl),
  cH.top X G (λ_ _ _ _ _ _=>us3 λ_ _ _=>rfl),
  cI.top X G (λ_ _ _ _ _ _=>us3 λ_ _ _=>rfl),
  cJ.top X G (λ_ _ _ _ _ _=>us3 λ_ _ _=>rfl),
  aE.g X G,
  aE.cl X G,
  aE.mk' X G,
  aE.kp X G,
  cK.at' X G,
  (by rw[q8o (z3q X G be)];exact qo9 cL cM cN cO ⟨_,rfl⟩ (λs v X=>z3a X rfl aK rfl rfl rfl) (λs v z X=>(by first | exact .of_eq rfl | exact z3a X rfl aK rfl rfl rfl)) (λs v z X=>(by first | exact .of_eq rfl | exact z3a X rfl aK rfl rfl rfl))),
  cP.top X G (λ_ _ _ _ _ _=>us2 λ_ _=>rfl),
  cQ.top X G (λ_ _ _ _ _ _=>us1 λ_=>rfl),
  cR.top X G (λ_ _ _ _ _ _=>us1 λ_=>rfl),
  cS.top X G (λ_ _ _ _ _ _=>us3 λ_ _ _=>rfl),
  cT.top X G (λ_ _ _ _ _ _=>us3 λ_ _ _=>rfl),
  cU.top X G (λ_ _ _ _ _ _=>us3 λ_ _ _=>rfl),
  aF.g X G,
  aF.cl X G,
  aF.mk' X G,
  aF.kp X G,
  cV.at' X G,
  cW.top X G (λ_ _ _ _ _ _=>us2 λ_ _=>rfl),
  cX.top X G (λ_ _ _ _ _ _=>us1 λ_=>rfl),
  cY.top X G (λ_ _ _ _ _ _=>us1 λ_=>rfl),
  cZ.top X G (λ_ _ _ _ _ _=>us3 λ_ _ _=>rfl),
  c0.top X G (λ_ _ _ _ _ _=>us3 λ_ _ _=>rfl),
  c1.top X G (λ_ _ _ _ _ _=>us3 λ_ _ _=>rfl),
  aG.g X G,
  aG.cl X G,
  aG.mk' X G,
  aG.kp X G,
  c2.at' X G,
  c3.top X G (λ_ _ _ _ _ _=>us2 λ_ _=>rfl),
  c4.top X G (λ_ _ _ _ _ _=>us1 λ_=>rfl),
  c5.top X G (λ_ _ _ _ _ _=>us1 λ_=>rfl),
  c6.top X G (λ_ _ _ _ _ _=>us3 λ_ _ _=>rfl),
  c7.top X G (λ_ _ _ _ _ _=>us3 λ_ _ _=>rfl),
  c8.top X G (λ_ _ _ _ _ _=>us3 λ_ _ _=>rfl)⟩
end Wy
open PySem PySem.W PyProof.Rows
namespace PySem.W.Fast
end PySem.W.Fast
namespace PySem.W.Fast
def tw2663324887488402733:=0
def tw10477388744612882558:=0
def tw14295967920889934706:=0
def tw16167461780343116935:=0
def tw16381698405366082610:=0
def tw8086929718956459564:=0
def tw17284457941736204650:=0
def tw7738873749312507173:=0
def tw5166673000409183350:=0
def tw6706751074472082787:=0
def tw9267971107271133219:=0
def tw1783495856807053897:=0
def tw10275562278234513140:=0
def tw9234312820125474243:=0
def tw3540348017960176804:=0
def tw482737577807149344:=0
def tw16082140191519263949:=0
def tw2987261304412409392:=0
def tw17591162011711407255:=0
def tw2798285011796838432:=0
def tw4969145341074510180:=0
def tw15101700128065130179:=0
def tw3620159489475834640:=0
def tw17835223778115279662:=0
def tw3367763002141136195:=0
def tw9317702622117913556:=0
def tw14748241664724731698:=0
def tw16999160446599561406:=0
def tw3350778497972567947:=0
def tw15699180409714494170:=0
def tw1673015962969116082:=0
def tw10516800740533961954:=0
def tw9125435858236731022:=0
def tw32939706230315144:=0
def tw5000263485705082404:=0
def tw10128025151650158312:=0
def tw4442386868380817418:=0
def tw18073282888111097496:=0
def tw15664222197287737855:=0
def tw10796030722738807872:=0
def tw928529884194055799:=0
def tw11382724029244144935:=0
def tw1464728782384261501:=0
def tw4658436397821803878:=0
def tw1317092833100154565:=0
def tw15241105293521798009:=0
def tw17551144370497398418:=0
def tw10954025599275538448:=0
def tw5757121513595222039:=0
def tw11504729192139279618:=0
def tw4918300598779228581:=0
def tw14851775204064844985:=0
def tw17821376629911078877:=0
def tw10727634559285712475:=0
def tw9237859988265732429:=0
def tw9207740631789299837:=0
def tw7582837581597788609:=0
def tw15064802244738987795:=0
def tw11951825374223708058:=0
def tw8448797110236119125:=0
def tw16196556069239256346:=0
def tw7365841100786542790:=0
def tw13684809538646706373:=0
def tw18244406312028987268:=0
def tw13159934060554770495:=0
def tw2812757377459835622:=0
def tw16410057559421000573:=0
def tw17820082406651233128:=0
def tw10756104310668063483:=0
def tw7293414135669121231:=0
def tw18226541120335195436:=0
def tw7453036344567739836:=0
def tw11734659839358350560:=0
def tw4612562737437249353:=0
def tw2689473758446012193:=0
def tw15513846283618942668:=0
def tw2737225770138657214:=0
def tw3781992816956780747:=0
def tw280941852097070788:=0
def tw15728248482322554752:=0
def tw8613228689393579219:=0
def tw8951277979252730162:=0
def tw1795452058050719272:=0
def tw17489115260943408448:=0
def tw5576192908141537711:=0
def tw11838720026827804843:=0
def tw10226646050754985957:=0
def tw11297189619336140209:=0
def tw8609858590470323955:=0
def tw9756964641136169997:=0
def tw15841367808561593788:=0
def tw2237574644040624292:=0
def tw17738332292760965609:=0
def tw12801204908455528778:=0
def tw4399609158560954437:=0
def tw12250260217458955131:=0
def tw1526946459903352401:=0
def tw7474674028295850615:=0
def tw12375847156725272718:=0
def tw6082269069741346373:=0
def tw14970441912914970190:=0
def tw613928557542191281:=0
def tw11379245319158239325:=0
def tw715217952686098649:=0
def tw15272723001756724000:=0
def tw15321122009730932003:=0
def tw17070860970982732750:=0
def tw10044997837607708934:=0
def tw14252194100089311069:=0
def tw15277564169912617552:=0
def tw13929060099816446824:=0
def tw11436370804760580511:=0
def tw18397156173960009982:=0
def tw7939798314053360225:=0
def tw2355644617833194374:=0
def tw11682862602240200117:=0
def tw10883558246846366595:=0
def tw10135894582525667353:=0
def tw11371329985365613284:=0
def tw7238944910703724222:=0
def tw12373202190434233473:=0
def tw8345613399793340137:=0
def tw13982150074475720256:=0
def tw10991229998447605985:=0
def tw1896222175723581241:=0
def tw10409086786867245701:=0
def tw5520915538866555224:=0
def tw11560435590104897712:=0
def tw3167660359693109255:=0
def tw13170761810969371035:=0
def tw7627568972238186911:=0
def tw14414095231619826409:=0
def tw3987462394306488401:=0
def tw3264044279828682784:=0
def tw3661368716873006427:=0
def tw17743287228876911205:=0
def tw6502499933737797141:=0
def tw7413800580819532798:=0
def tw4803452402879365781:=0
def tw16534497244031498670:=0
def tw4000179366877786552:=0
def tw1076534158736609096:=0
def tw12515869408264962128:=0
def tw15240044518363545426:=0
def tw8505507051533056980:=0
def tw4265508284641042837:=0
def tw12356658421274794345:=0
def tw15734464673536062000:=0
def tw18232309347904886587:=0
def tw7564617552052066053:=0
def tw13495167279047859879:=0
def tw11221899702991473383:=0
def tw6857326915025857284:=0
def tw12512644551535895250:=0
def tw696554621295007543:=0
def tw14885793873430254273:=0
def tw591659335474341746:=0
def tw8812716298859763249:=0
def tw254896797959535167:=0
def tw4776604390595896857:=0
def tw6707638857180091992:=0
def tw5911319183050120597:=0
def tw8985765462698681321:=0
def tw9892686895005477356:=0
def tw17173415228920538213:=0
def tw1043612757837463997:=0
def tw12855676281943080633:=0
def tw241390942741713678:=0
def tw17057896425698560341:=0
def tw6164313214134605173:=0
def tw11383416082184812218:=0
def tw547690125232761797:=0
def tw9021451872833247195:=0
def tw14870701736494560206:=0
def tw7503441243427479976:=0
def tw4899278614167695260:=0
def tw3081521245874088197:=0
def tw1274880760436650811:=0
def tw17499967630752826959:=0
def tw16154429162346736463:=0
def tw11693655805788141002:=0
def tw12923952748674921594:=0
def tw17337198514455261212:=0
def tw4793966450444950668:=0
def tw17868473714105933677:=0
def tw4510216251968069944:=0
def tw13701030988408307765:=0
def tw5832542421687650923:=0
def tw13059785304640873421:=0
def tw2192046130345229755:=0
def tw6608678573028921044:=0
def tw10850019261916720484:=0
def tw6785647813777258805:=0
def tw17752374166783371064:=0
def tw3711326552848823592:=0
def tw16071018876483213385:=0
def tw3094383998329404734:=0
def tw7455347608574767025:=0
def tw7690975105287087093:=0
def tw1554143591961982467:=0
def tw18438624489580852257:=0
def tw4202487718605936004:=0
def tw15600837834692970414:=0
def tw8000362138225065936:=0
def tw15395769584816222461:=0
def tw5947149099936298276:=0
def tw9839424754175013257:=0
def tw16842444418737104063:=0
def tw1294679529279145161:=0
def tw15318743627753574632:=0
def tw3933349944908511453:=0
def tw5532609468146807238:=0
def tw6892986124259282468:=0
def tw9309889369760036462:=0
def tw17756386949874916928:=0
def tw8668396587130294:=0
def tw16881574697013871016:=0
def tw15715926801112733615:=0
def tw3704733765956768907:=0
def tw13581997604785410073:=0
def tw950028567731237856:=0
def tw14440971182949237729:=0
def tw15309115628179621819:=0
def tw17228435893397884289:=0
def tw13338047157756516434:=0
def tw14140781284260477481:=0
def tw10510426012564346021:=0
def tw17511279774716407157:=0
def tw5555922180276721684:=0
def tw3802586632745392173:=0
def tw2171716872889394387:=0
def tw12038569063251236375:=0
def tw15554764750026369288:=0
def tw1251826207602378821:=0
def tw6314097554650715864:=0
def tw5919582652663262359:=0
def tw17376474389304000320:=0
def tw11819866936724920322:=0
def tw14826380236392965363:=0
def tw16840208936052870532:=0
def tw17650216391648998616:=0
def tw889876735453546616:=0
def tw16672580506964469556:=0
def tw15115711937192037311:=0
def tw5669373563022036265:=0
def tw15410476890997694334:=0
def tw17288415539925717629:=0
def tw3711475897182469686:=0
def tw16397091961178709106:=0
def tw13977927308498619154:=0
def tw1973991694734095413:=0
def tw10279597975217492249:=0
def tw18350454235574045874:=0
def tw1664262366005821839:=0
def tw13384345037807255688:=0
def tw9146661027118706807:=0
def tw14753827597440327369:=0
def tw16732755582550896886:=0
def tw18416221313990922772:=0
def tw14970012867800614581:=0
def tw16727278252316368661:=0
def tw881408520557265313:=0
def tw12044800030167041712:=0
end PySem.W.Fast
set_option maxRecDepth 100000 in
set_option maxHeartbeats 0 in
theorem PySem.Challenge.cw_whyrows_k30_reckoned_holds : PySem.Challenge.rw_whyrows_k30_reckoned.Holds := by
 w_on;o_law;k_head;(case hw=>w_witness2)
 k_fill
 refine L2.qu6 (l:=PySem.Challenge.rw_whyrows_k30_reckoned) (n:=63) (k:=8) (x:="_law_script") (CX:=L2.CX0) (sp:=Wy.sp_law) rfl (by decide) rfl ⟨zr,by decide,by decide⟩ (λw h Y=>PySem.W.kIn_of Y) ?F ?S ?C
 case F=>
  intro w mg fa h KX G hmg;have T:Wy.Txt (L2.KOf KX) mg:=by
   dsimp only[L2.KOf]
   refine' Wy.qmi KX G ?_ ?_ ?_ ?_ ?_ ?_ ?_ ?_ ?_ ?_ ?_ ?_ ?_ ?_ ?_ ?_ ?_ ?_ ?_ ?_ ?_ ?_ ?_ ?_ ?_ ?_ ?_ ?_ ?_ ?_ ?_ ?_ ?_ ?_ ?_ ?_ ?_ ?_ ?_ ?_ ?_ ?_ ?_ ?_ ?_ ?_ ?_ ?_ ?_ ?_ ?_ ?_ ?_ ?_ ?_ ?_ ?_ ?_ ?_ ?_ ?_ ?_ ?_ ?_ ?_ ?_ ?_ ?_ ?_ ?_ ?_ ?_ ?_ ?_ ?_ ?_ ?_ ?_ ?_ ?_ ?_ ?_ ?_ ?_ ?_ ?_ ?_ ?_ ?_ ?_ ?_ ?_ ?_ ?_ ?_ ?_ ?_ ?_ ?_ ?_ ?_ ?_ ?_ ?_ ?_ ?_ ?_ ?_ ?_ ?_ ?_ ?_ ?_ ?_ ?_ ?_ ?_ ?_ ?_
   all_goals first | (refine' L2.fiK ?_ ?_ ?_ ?_;all_goals first | k_is | skip) | (refine' L2.miK ?_ ?_ ?_ ?_ ?_ ?_;all_goals first | k_is | skip) | (refine' L2.ciK ?_ ?_ ?_ ?_ ?_ ?_ ?_;all_goals first | k_is | skip) | (refine' L2.aiK ?_ ?_;all_goals first | k_is | skip) | k_is | skip
  exact Wy.q10x T hmg
 case S=>exact λK H a ns hl hO hS=>⟨a,ns,rfl,hS,hl,λ_=>rfl⟩
 case C=>exact λ_ _ _ _ z=>z
