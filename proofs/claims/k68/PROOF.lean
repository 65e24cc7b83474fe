import PyProof.Rows.All
import Wide.All
import OpenK.AllK
import PySem.Challenge.RW_whyrows_k68_trees_round_and_round
set_option Elab.async false
set_option linter.all false
set_option maxRecDepth 100000
set_option maxHeartbeats 4000000
set_option genSizeOf false
abbrev xD:=List PySem.Str
abbrev xE:=PySem.Str->Option PySem.Value
abbrev xF:=List (List PySem.Str)
abbrev xG:=List (PySem.Addr×PySem.Obj)
abbrev xH:=List PySem.Value
abbrev xA:=PySem.W.Frag
abbrev xB:=PySem.Value->PySem.Shared->Prop
def zr{α:Sort u}{a:α}:a=a:=rfl
def z00:=@PySem.F.slot_dict_keyiterator_next
def z01:=@PySem.wpAny_typeNameOfWhole_keyiter
def z02:=@PyProof.Rows.callWith_type1
def z03:=@Array.perm_iff_toList_perm
def z04:=@List.getElem?_append_right
def z05:=@List.getD_eq_getElem?_getD
def z06:=@List.getElem?_eq_some_iff
def z07:=@List.pairwise_iff_getElem
def z08:=@List.drop_eq_getElem_cons
def z09:=@Array.getElem?_eq_getElem
def z0a:=@List.mem_of_find?_eq_some
def z0b:=@List.getElem?_eq_getElem
def z0c:=@PySem.F.slot_list_extend
def z0d:=@PySem.F.type_list_extend
def z0e:=@PySem.F.slot_list_append
def z0f:=@PySem.F.type_list_append
def z0g:=@PySem.F.plain_list_iadd
def z0h:=@List.length_eq_zero_iff
def z0i:=@PySem.F.plainAttrs_list
def z0j:=@Int.eq_ofNat_of_zero_le
def z0k:=@List.take_of_length_le
def z0l:=@PySem.Heap.get?_push_of_some
def z0m:=@PySem.Heap.get?_update_other
def z0n:=@Option.map_eq_some_iff
def z0o:=@Array.getElem?_eq_none
def z0p:=@List.mem_append_right
def z0q:=@Array.getElem?_toList
def z0r:=@PySem.Heap.get?_update_self
def z0s:=@List.length_filter_le
def z0t:=@List.mem_iff_getElem
def z0u:=@List.mem_of_mem_take
def z0v:=@List.mem_cons_of_mem
def z0w:=@List.mem_append_left
def z0x:=@List.mem_of_getElem?
def z0y:=@Array.length_toList
def z0z:=@Array.toList_append
def z10:=@PySem.Heap.SameBut.update
def z11:=@PySem.Heap.get?_push_size
def z12:=@PySem.mem_of_lookup
def z13:=@List.replicate_succ
def z14:=@List.map_congr_left
def z15:=@List.toList_toArray
def z16:=@PySem.wpAny_setEntries_of
def z17:=@List.flatMap_append
def z18:=@Bool.false_eq_true
def z19:=@Bool.false_ne_true
def z1a:=@List.mem_singleton
def z1b:=@List.length_append
def z1c:=@List.mem_cons_self
def z1d:=@List.pairwise_cons
def z1e:=@Nat.lt_of_lt_of_le
def z1f:=@PySem.wpAny_Call_Name_kw
def z1g:=@List.filter_append
def z1h:=@Int.emod_lt_of_pos
def z1i:=@PySem.W.mg_none_of
def z1j:=@List.append_assoc
def z1k:=@Array.toList_push
def z1l:=@List.ext_getElem?
def z1m:=@List.getElem?_map
def z1n:=@List.size_toArray
def z1o:=@PySem.wpAny_truthy_bool
def z1p:=@PySem.wpAny_pyIter_list
def z1q:=@Int.toNat_natCast
def z1r:=@List.flatten_cons
def z1s:=@PySem.wpAny_newObj_type
def z1t:=@List.length_range
def z1u:=@PySem.wpAny_dictEntries
def z1v:=@PySem.wpAny_setState_of
def z1w:=@List.nodup_append
def z1x:=@Nat.lt_succ_of_lt
def z1y:=@List.length_take
def z1z:=@List.length_drop
def z20:=@List.length_cons
def z21:=@List.filter_cons
def z22:=@List.getElem_mem
def z23:=@Nat.lt_succ_self
def z24:=@Bool.and_eq_true
def z25:=@List.all_eq_true
def z26:=@PySem.wpAny_call_entry
def z27:=@List.any_eq_true
def z28:=@Nat.succ_le_succ
def z29:=@List.not_mem_nil
def z2a:=@PySem.wpAny_askSetting
def z2b:=@List.take_length
def z2c:=@List.mem_append
def z2d:=@decide_eq_false
def z2e:=@List.mem_filter
def z2f:=@PySem.wpAny_passesOwn
def z2g:=@Bool.eq_iff_iff
def z2h:=@List.length_map
def z2i:=@List.append_nil
def z2j:=@List.nodup_cons
def z2k:=@List.find?_cons
def z2l:=@List.length_nil
def z2m:=@List.range_succ
def z2n:=@List.map_append
def z2o:=@PySem.W.kia_one
def z2p:=@PySem.wpAny_dictEpoch
def z2q:=@PySem.codeAny_builtin
def z2r:=@Int.emod_nonneg
def z2s:=@decide_eq_true
def z2t:=@List.mem_range
def z2u:=@Bool.false_and
def z2v:=@PySem.Heap.size_push
def z2w:=@List.nodup_nil
def z2x:=@List.take_succ
def z2y:=@PySem.wpAny_setField
def z2z:=@Nat.mul_le_mul
def z30:=@List.map_cons
def z31:=@PySem.wpAny_attempt
def z32:=@List.mem_cons
def z33:=@PySem.wpAny_holding
def z34:=@Nat.lt_irrefl
def z35:=@List.any_cons
def z36:=@PySem.W.mg_of
def z37:=@decide_false
def z38:=@Int.le_of_lt
def z39:=@Nat.zero_add
def z3a:=@Nat.le_of_lt
def z3b:=@PySem.Heap.lt_size
def z3c:=@Nat.ne_of_lt
def z3d:=@Nat.le_trans
def z3e:=@Nat.ne_of_gt
def z3f:=@PySem.codeAny_mono
def z3g:=@List.map_nil
def z3h:=@List.mem_map
def z3i:=@List.map_map
def z3j:=@Nat.le_refl
def z3k:=@decide_true
def z3l:=@Int.le_refl
def z3m:=@Nat.zero_le
def z3n:=@PySem.wpAny_rule
def z3o:=@PySem.wpAny_pure
def z3p:=@PySem.wpAny_bind
def z3q:=@PySem.wpAny_mono
namespace Tim
open PySem PyProof.Rows
def kx(rk:Keyed->Int)(xs:Array Keyed)(i:Nat):Int:=match xs[i]? with
 | some p=>rk p
 | none=>0
def Up(rk:Keyed->Int)(xs:Array Keyed)(lo hi:Nat):Prop:=∀i j,lo<=i->i<=j->j < hi->kx rk xs i<=kx rk xs j
def Dn(rk:Keyed->Int)(xs:Array Keyed)(lo hi:Nat):Prop:=∀i j,lo<=i->i<=j->j < hi->kx rk xs j<=kx rk xs i
def qso{rk:Keyed->Int}{xs:Array Keyed}{i:Nat}{p:Keyed}(h:xs[i]? =some p):kx rk xs i=rk p:=by unfold kx;rw[h]
def q9y{rk:Keyed->Int}{xs ys:Array Keyed}{i j:Nat}(h:xs[i]? =ys[j]?):kx rk xs i=kx rk ys j:=by unfold kx;rw[h]
def LtOk(M:Model)(A:Around)(E:xB)(s:Shared)(kd:SortKind)(S:Keyed->Prop)(rk:Keyed->Int):Prop:=
 ∀(x y:Keyed) (st:SortSt) (Q:Option Bool->SortSt->Prop),S x->S y->kindOf st=kd->Q (some (decide (rk x < rk y))) st->wpS M A E s (lt' x y) Q st
structure Mv (lo hi:Nat) (st st':SortSt):Prop where
 perm:(arrOf st').Perm (arrOf st)
 out:∀k,k < lo\/ hi<=k->(arrOf st')[k]? =(arrOf st)[k]?
 kind:kindOf st'=kindOf st
 pend:pendingOf st'=pendingOf st
 failed:failedOf st'=failedOf st
theorem Mv.refl(lo hi:Nat)(st:SortSt):Mv lo hi st st:=⟨Array.Perm.refl _,λ_ _=>rfl,rfl,rfl,rfl⟩
theorem Mv.trans{lo hi:Nat}{a b c:SortSt}(h:Mv lo hi a b)(k:Mv lo hi b c):Mv lo hi a c:=
 ⟨k.perm.trans h.perm,λi hi=>(k.out i hi).trans (h.out i hi),k.kind.trans h.kind,k.pend.trans h.pend,k.failed.trans h.failed⟩
def Mv.wide{lo hi O J:Nat}{a b:SortSt}(h:Mv lo hi a b)(h1:O<=lo)(h2:hi<=J):Mv O J a b:=
 ⟨h.perm,λk hk=>h.out k (by lia),h.kind,h.pend,h.failed⟩
theorem Mv.size{lo hi:Nat}{a b:SortSt}(h:Mv lo hi a b):(arrOf b).size=(arrOf a).size:=h.perm.size_eq
structure Sane (kd:SortKind) (S:Keyed->Prop) (n:Nat) (st:SortSt):Prop where
 size:(arrOf st).size=n
 all:∀p∈(arrOf st).toList,S p
 kind:kindOf st=kd
 failed:failedOf st=none
def Mv.sane{lo hi:Nat}{a b:SortSt}{kd:SortKind}{S:Keyed->Prop}{n:Nat}(h:Mv lo hi a b)(k:Sane kd S n a):Sane kd S n b:=
 ⟨h.size.trans k.size,λp hp=>k.all p ((z03.mp h.perm).mem_iff.mp hp),h.kind.trans k.kind,h.failed.trans k.failed⟩
def Sane.at{kd:SortKind}{S:Keyed->Prop}{n:Nat}{st:SortSt}(rk:Keyed->Int)(k:Sane kd S n st){i:Nat}(hi:i < n):∃p,(arrOf st)[i]? =some p/\S p/\kx rk (arrOf st) i=rk p:=by
 have J:i < (arrOf st).size:=by rw[k.size];exact hi
 have e:(arrOf st)[i]? =some (arrOf st)[i]:=getElem?_pos _ i J;exact⟨_,e,k.all _ (by simp),qso e⟩
def Mv.mirrored{lo hi i j:Nat}{st:SortSt}(h1:lo<=i)(h2:j<=hi)(hj:j<=(arrOf st).size):Mv lo hi st (setArr st (mirror (arrOf st) i j ((j - i) / 2))):=
 ⟨mirror_perm _ _ _ _,λk hk=>(getElem?_mirror_all (i:=i) hj k).trans (if_neg (by lia)),rfl,rfl,rfl⟩
def Mv.sunk{lo hi J d:Nat}{st:SortSt}(h1:lo+d<=J)(h2:J < hi)(hs:J < (arrOf st).size):Mv lo hi st (setArr st (bubble (arrOf st) J d)):=
 ⟨bubble_perm _ _ _,λk hk=>(getElem?_bubble hs d (by lia) k).trans (by rw[if_neg (by lia),if_neg (by lia)]),rfl,rfl,rfl⟩
def qbe(rk:Keyed->Int){xs:Array Keyed}{i j:Nat}(hj:j<=xs.size)(k:Nat):
  kx rk (mirror xs i j ((j - i) / 2)) k=if i<=k/\k < j then kx rk xs (i+j - 1 - k) else kx rk xs k:=by
 have e:=getElem?_mirror_all (i:=i) hj k;by_cases c:i<=k/\k < j
 ·rw[if_pos c]at e ⊢;exact q9y e
 ·rw[if_neg c]at e ⊢;exact q9y e
def q3e(rk:Keyed->Int){xs:Array Keyed}{i j:Nat}(hj:j<=xs.size)(J:∀k,i<=k->k < j->kx rk xs k=kx rk xs (j - 1))(k:Nat):
  kx rk (mirror xs i j ((j - i) / 2)) k=kx rk xs k:=by
 rw[qbe rk hj];by_cases c:i<=k/\k < j
 ·rw[if_pos c,J _ (by lia) (by lia),J k c.1 c.2]
 ·rw[if_neg c]
def qgs(rk:Keyed->Int){xs:Array Keyed}{J d:Nat}(hs:J < xs.size)(hd:d<=J)(k:Nat):
  kx rk (bubble xs J d) k=if k=J - d then kx rk xs J else if J - d < k/\k<=J then kx rk xs (k - 1) else kx rk xs k:=by
 have e:=getElem?_bubble hs d hd k;by_cases c:k=J - d
 ·rw[if_pos c]at e ⊢;exact q9y e
 ·rw[if_neg c]at e ⊢;by_cases c2:J - d < k/\k<=J
  ·rw[if_pos c2]at e ⊢;exact q9y e
  ·rw[if_neg c2]at e ⊢;exact q9y e
section
variable{M:Model}{A:Around}{E:xB}{s:Shared}{kd:SortKind}{S:Keyed->Prop}{rk:Keyed->Int}{n:Nat}
def qbf(L:LtOk M A E s kd S rk){st:SortSt}(B:Sane kd S n st){i j:Nat}(hi:i < n)(hj:j < n){Q:Option Bool->SortSt->Prop}
  (h:Q (some (decide (kx rk (arrOf st) i < kx rk (arrOf st) j))) st):wpS M A E s (ltAt' i j) Q st:=by
 obtain⟨p,e1,s1,k1⟩:=B.at rk hi;obtain⟨q,e2,s2,k2⟩:=B.at rk hj;rw[k1,k2]at h;rw[ltAt'_eq];refine wpS_bind (wpS_get ?_);show wpS M A E s (elem' (arrOf st) i >>=λx=>elem' (arrOf st) j >>=λy=>lt' x y) Q st;rw[elem'_eq,elem'_eq,e1,e2];exact wpS_bind (wpS_pure (wpS_bind (wpS_pure (L p q st Q s1 s2 B.kind h))))
def q8y{st:SortSt}{i j:Nat}{Q:Unit->SortSt->Prop}(h:Q () (setArr st (mirror (arrOf st) i j ((j - i) / 2)))):wpS M A E s (reverseSlice' i j) Q st:=by
 rw[reverseSlice'_eq];exact wpS_modify h
def qbg(lo a nrem:Nat):StateT SortSt Sem AscSt:=
 forIn [a:nrem] ((none,a):AscSt) λ_ c=>do
  let x <- ltAt' (lo+c.snd) (lo+c.snd - 1)
  match x with
  | some b=>if b=true then pure (ForInStep.done (none,c.snd)) else pure (ForInStep.yield (none,c.snd+1))
  | _=>pure (ForInStep.done (some none,c.snd))
def qbh(lo m nrem:Nat):StateT SortSt Sem (Option Nat):=do
 reverseSlice' lo (lo+m)
 let c <- qbg lo m nrem
 match c.fst with
 | some r=>pure r
 | none=>pure (some c.snd)
def qef(lo m nrem:Nat):StateT SortSt Sem DescSt:=
 forIn [m:nrem] ((none,m,0):DescSt) λ_ c=>do
  let x <- ltAt' (lo+c.snd.fst) (lo+c.snd.fst - 1)
  match x with
  | some b=>
   if b=true then
    if c.snd.snd > 0 then do
     reverseSlice' (lo+c.snd.fst - (c.snd.snd+1)) (lo+c.snd.fst)
     pure (ForInStep.yield (none,c.snd.fst+1,0))
    else pure (ForInStep.yield (none,c.snd.fst+1,0))
   else do
    let y <- ltAt' (lo+c.snd.fst - 1) (lo+c.snd.fst)
    match y with
    | some g=>if g=true then pure (ForInStep.done (none,c.snd.fst,c.snd.snd)) else pure (ForInStep.yield (none,c.snd.fst+1,c.snd.snd+1))
    | _=>pure (ForInStep.done (some none,c.snd.fst,c.snd.snd))
  | _=>pure (ForInStep.done (some none,c.snd.fst,c.snd.snd))
def qbi(lo m nrem:Nat):StateT SortSt Sem (Option Nat):=do
 liftM (rule "list.sort.descending-run")
 let c <- qef lo (m+1) nrem
 match c.fst with
 | some r=>pure r
 | none=>
  if c.snd.snd > 0 then do
   reverseSlice' (lo+c.snd.fst - (c.snd.snd+1)) (lo+c.snd.fst)
   qbh lo c.snd.fst nrem
  else qbh lo c.snd.fst nrem
def qkk(lo J:Nat):countRun' lo J=(do
  let c <- qbg lo 1 J
  match c.fst with
  | some r=>pure r
  | none=>
   if (c.snd==J)=true then pure (some c.snd)
   else if c.snd > 1 then do
    let x <- ltAt' lo (lo+c.snd - 1)
    match x with
    | some O=>if O=true then pure (some c.snd) else do
      reverseSlice' lo (lo+c.snd)
      qbi lo c.snd J
    | _=>pure none
   else qbi lo c.snd J):=by
 rw[countRun'_eq]
 dsimp only
 unfold qbi qbh qef qbg
 congr 1
 funext c
 obtain⟨r,m⟩:=c;cases r with
 | some r=>rfl
 | none=>
  dsimp only
  split
  ·rfl
  ·split
   ·congr 1
    funext x
    cases x with
    | none=>rfl
    | some O=>
     dsimp only
     split
     ·rfl
     ·congr 1
      funext _u
      congr 1
      funext _v
      congr 1
      congr 1
      funext c2
      obtain⟨r2,n2,q2⟩:=c2;cases r2 with
      | some r2=>rfl
      | none=>
       dsimp only
       split
       ·congr 1
        funext _w
        congr 1
        funext _z
        congr 1
        funext c3
        obtain⟨r3,Y⟩:=c3;cases r3 <;> rfl
       ·congr 1
        funext _z
        congr 1
        funext c3
        obtain⟨r3,Y⟩:=c3;cases r3 <;> rfl
   ·congr 1
    funext _v
    congr 1
    congr 1
    funext c2
    obtain⟨r2,n2,q2⟩:=c2;cases r2 with
    | some r2=>rfl
    | none=>
     dsimp only
     split
     ·congr 1
      funext _w
      congr 1
      funext _z
      congr 1
      funext c3
      obtain⟨r3,Y⟩:=c3;cases r3 <;> rfl
     ·congr 1
      funext _z
      congr 1
      funext c3
      obtain⟨r3,Y⟩:=c3;cases r3 <;> rfl
def qii(L:LtOk M A E s kd S rk){st:SortSt}{lo a J:Nat}{Q:AscSt->SortSt->Prop}(B:Sane kd S n st)(hn:lo+J<=n)(ha:1<=a)(a1:a<=J)(hs:Up rk (arrOf st) lo (lo+a))
  (h:∀m,a<=m->m<=J->Up rk (arrOf st) lo (lo+m)->(m=J\/ kx rk (arrOf st) (lo+m) < kx rk (arrOf st) (lo+m - 1))->Q (none,m) st):wpS M A E s (qbg lo a J) Q st:=by
 unfold qbg;refine wpS_forRange (I:=λx c Z=>Z=st/\c=(none,x)/\Up rk (arrOf st) lo (lo+x)) ?turn ?last ⟨zr,zr,hs⟩
 case last=>
  rintro c Z ⟨rfl,rfl,Y⟩;have e:max a J=J:=by lia
  rw[e]at Y ⊢;exact h J a1 (z3j _) Y (.inl rfl)
 case turn=>
  rintro x c Z a2 hxn ⟨rfl,rfl,Y⟩
  dsimp only
  refine wpS_bind (qbf L B (by lia) (by lia) ?_);by_cases O:kx rk (arrOf Z) (lo+x) < kx rk (arrOf Z) (lo+x - 1)
  ·simp only[O,z3k,if_true];exact wpS_pure (h x a2 (by lia) Y (.inr O))
  ·simp only[O,z37,z18,if_false];refine wpS_pure ⟨zr,zr,λi j h1 h2 h3=>?_⟩;by_cases hj:j < lo+x
   ·exact Y i j h1 h2 hj
   ·have a3:j=lo+x:=by lia
    subst a3;by_cases hi:i=lo+x
    ·subst hi
     lia
    ·have:=Y i (lo+x - 1) h1 (by lia) (by lia)
     lia
def qij(L:LtOk M A E s kd S rk){st:SortSt}{lo m J:Nat}{Q:Option Nat->SortSt->Prop}(B:Sane kd S n st)(hn:lo+J<=n)(h1:1<=m)(hm:m<=J)(hs:Dn rk (arrOf st) lo (lo+m))
  (h:∀k O,Mv lo (lo+J) st O->1<=k->k<=J->Up rk (arrOf O) lo (lo+k)->Q (some k) O):wpS M A E s (qbh lo m J) Q st:=by
 unfold qbh;have hz:lo+m<=(arrOf st).size:=by rw[B.size];lia
 have v:Mv lo (lo+J) st (setArr st (mirror (arrOf st) lo (lo+m) ((lo+m - lo) / 2))):=Mv.mirrored (z3j _) (by lia) hz;refine wpS_bind (q8y (wpS_bind (qii L (v.sane B) hn h1 hm ?_ λk k1 k2 k3 _=>wpS_pure (h k _ v (by lia) k2 k3))));intro i j a b c;show kx rk (mirror (arrOf st) lo (lo+m) ((lo+m - lo) / 2)) i<=kx rk (mirror (arrOf st) lo (lo+m) ((lo+m - lo) / 2)) j;rw[qbe rk hz,qbe rk hz,if_pos (by lia),if_pos (by lia)];exact hs _ _ (by lia) (by lia) (by lia)
def qqw(L:LtOk M A E s kd S rk){st:SortSt}{lo m O:Nat}{Q:DescSt->SortSt->Prop}(B:Sane kd S n st)(hn:lo+O<=n)(h1:1<=m)(hm:m<=O)(hs:Dn rk (arrOf st) lo (lo+m))
  (h:∀k q J,Mv lo (lo+O) st J->m<=k->k<=O->Dn rk (arrOf J) lo (lo+k)->q+1<=k->(∀i,lo+k - (q+1)<=i->i < lo+k->kx rk (arrOf J) i=kx rk (arrOf J) (lo+k - 1))->Q (none,k,q) J):
  wpS M A E s (qef lo m O) Q st:=by
 unfold qef;refine wpS_forRange (I:=λx c J=>∃q,c=(none,x,q)/\Mv lo (lo+O) st J/\Dn rk (arrOf J) lo (lo+x)/\q+1<=x/\
  (∀i,lo+x - (q+1)<=i->i < lo+x->kx rk (arrOf J) i=kx rk (arrOf J) (lo+x - 1))) ?turn ?last ⟨0,rfl,Mv.refl _ _ _,hs,by lia,λi a b=>by rw[show i=lo+m - 1 by lia]⟩
 case last=>
  rintro c J ⟨q,rfl,v,Y,hq,he⟩;have e:max m O=O:=by lia
  rw[e]at Y hq he ⊢;exact h O q J v hm (z3j _) Y hq he
 case turn=>
  rintro x c J a4 hxn ⟨q,rfl,v,Y,hq,he⟩
  dsimp only
  have B':=v.sane B;have hz:lo+x<=(arrOf J).size:=by rw[B'.size];lia
  refine wpS_bind (qbf L B' (by lia) (by lia) ?_);by_cases Z:kx rk (arrOf J) (lo+x) < kx rk (arrOf J) (lo+x - 1)
  ·simp only[Z,z3k,if_true];have more:∀xs:Array Keyed,(∀k,kx rk xs k=kx rk (arrOf J) k)->Dn rk xs lo (lo+(x+1)):=by
    intro xs hk i j a b c;rw[hk,hk];by_cases hj:j < lo+x
    ·exact Y i j a b hj
    ·have a2:j=lo+x:=by lia
     subst a2;by_cases hi:i=lo+x
     ·subst hi
      lia
     ·have:=Y i (lo+x - 1) a (by lia) (by lia)
      lia
   by_cases a3:q > 0
   ·rw[if_pos a3];exact wpS_bind (q8y (wpS_pure ⟨0,zr,v.trans (Mv.mirrored (by lia) (by lia) hz),more _ (q3e rk hz he),by lia,λi a b=>by rw[show i=lo+(x+1) - 1 by lia]⟩))
   ·rw[if_neg a3];exact wpS_pure ⟨0,zr,v,more _ (λ_=>rfl),by lia,λi a b=>by rw[show i=lo+(x+1) - 1 by lia]⟩
  ·simp only[Z,z37,z18,if_false];refine wpS_bind (qbf L B' (by lia) (by lia) ?_);by_cases a1:kx rk (arrOf J) (lo+x - 1) < kx rk (arrOf J) (lo+x)
   ·simp only[a1,z3k,if_true];exact wpS_pure (h x q J v a4 (by lia) Y hq he)
   ·simp only[a1,z37,z18,if_false];have ex:kx rk (arrOf J) (lo+x)=kx rk (arrOf J) (lo+x - 1):=by lia
    refine wpS_pure ⟨q+1,zr,v,λi j a b c=>?_,by lia,λi a b=>?_⟩
    ·by_cases hj:j < lo+x
     ·exact Y i j a b hj
     ·have a2:j=lo+x:=by lia
      subst a2;by_cases hi:i=lo+x
      ·subst hi
       lia
      ·have:=Y i (lo+x - 1) a (by lia) (by lia)
       lia
    ·rw[show lo+(x+1) - 1=lo+x by lia];by_cases hi:i=lo+x
     ·rw[hi]
     ·rw[ex];exact he i (by lia) (by lia)
def qik(L:LtOk M A E s kd S rk){st:SortSt}{lo m O:Nat}{Q:Option Nat->SortSt->Prop}(B:Sane kd S n st)(hn:lo+O<=n)(hm:m+1<=O)(hs:Dn rk (arrOf st) lo (lo+(m+1)))
  (h:∀k J,Mv lo (lo+O) st J->1<=k->k<=O->Up rk (arrOf J) lo (lo+k)->Q (some k) J):wpS M A E s (qbi lo m O) Q st:=by
 unfold qbi;refine wpS_bind (wpS_lift (z3n ⟨zr,?_⟩));refine wpS_bind (qqw L B hn (by lia) hm hs λk q J v k1 k2 a1 hq he=>?_)
 dsimp only
 have B':=v.sane B;have hz:lo+k<=(arrOf J).size:=by rw[B'.size];lia
 by_cases Z:q > 0
 ·rw[if_pos Z];have v2:Mv lo (lo+O) J (setArr J (mirror (arrOf J) (lo+k - (q+1)) (lo+k) ((lo+k - (lo+k - (q+1))) / 2))):=Mv.mirrored (by lia) (by lia) hz;refine wpS_bind (q8y (qij L (v2.sane B') hn (by lia) k2 ?_ λj Y v3=>h j Y ((v.trans v2).trans v3)));intro i j a b c;show kx rk (mirror (arrOf J) (lo+k - (q+1)) (lo+k) ((lo+k - (lo+k - (q+1))) / 2)) j<=kx rk (mirror (arrOf J) (lo+k - (q+1)) (lo+k) ((lo+k - (lo+k - (q+1))) / 2)) i;rw[q3e rk hz he,q3e rk hz he];exact a1 i j a b c
 ·rw[if_neg Z];exact qij L B' hn (by lia) k2 a1 λj Y v3=>h j Y (v.trans v3)
def qmp(L:LtOk M A E s kd S rk){st:SortSt}{lo J:Nat}{Q:Option Nat->SortSt->Prop}(B:Sane kd S n st)(hn:lo+J<=n)(h1:1<=J)
  (h:∀k Z,Mv lo (lo+J) st Z->1<=k->k<=J->Up rk (arrOf Z) lo (lo+k)->Q (some k) Z):wpS M A E s (countRun' lo J) Q st:=by
 rw[qkk];refine wpS_bind (qii L B hn (z3j 1) h1 (λi j a b c=>by rw[show i=j by lia];exact z3l _) λm m1 m2 hs a6=>?_)
 dsimp only
 by_cases hm:m=J
 ·rw[if_pos (by simpa using hm)];exact wpS_pure (h m st (Mv.refl _ _ _) m1 m2 hs)
 ·rw[if_neg (by simpa using hm)];have a4:=a6.resolve_left hm;by_cases hg:m > 1
  ·rw[if_pos hg];refine wpS_bind (qbf L B (by lia) (by lia) ?_);by_cases O:kx rk (arrOf st) lo < kx rk (arrOf st) (lo+m - 1)
   ·simp only[O,z3k,if_true];exact wpS_pure (h m st (Mv.refl _ _ _) m1 m2 hs)
   ·simp only[O,z37,z18,if_false];have hz:lo+m<=(arrOf st).size:=by rw[B.size];lia
    have Y:∀k,lo<=k->k < lo+m->kx rk (arrOf st) k=kx rk (arrOf st) (lo+m - 1):=by
     intro k a b;have a1:=hs lo k (z3j _) a b;have a2:=hs k (lo+m - 1) a (by lia) (by lia)
     lia
    have v:Mv lo (lo+J) st (setArr st (mirror (arrOf st) lo (lo+m) ((lo+m - lo) / 2))):=Mv.mirrored (z3j _) (by lia) hz;refine wpS_bind (q8y (qik L (v.sane B) hn (by lia) ?_ λj a7 v3=>h j a7 (v.trans v3)));intro i j a b c;show kx rk (mirror (arrOf st) lo (lo+m) ((lo+m - lo) / 2)) j<=kx rk (mirror (arrOf st) lo (lo+m) ((lo+m - lo) / 2)) i;rw[q3e rk hz Y,q3e rk hz Y];by_cases hj:j < lo+m
    ·rw[Y i a (by lia),Y j (by lia) hj];exact z3l _
    ·have a3:j=lo+m:=by lia
     subst a3;by_cases hi:i=lo+m
     ·subst hi
      lia
     ·rw[Y i a (by lia)]
      lia
  ·rw[if_neg hg];have a5:m=1:=by lia
   subst a5;refine qik L B hn (by lia) ?_ h;intro i j a b c;by_cases hi:i=j
   ·rw[hi];exact z3l _
   ·have e1:i=lo:=by lia
    have e2:j=lo+1:=by lia
    subst e1 e2;have:i+1 - 1=i:=by lia
    rw[this]at a4
    lia
def qil(L:LtOk M A E s kd S rk){st:SortSt}{lo m ok:Nat}{Q:Bool->SortSt->Prop}(B:Sane kd S n st)(hn:lo+m<=n)(hok:ok<=m)(hs:Up rk (arrOf st) lo (lo+ok))
    (h:∀J,Mv lo (lo+m) st J->Up rk (arrOf J) lo (lo+m)->Q true J):wpS M A E s (binarySort' lo m ok) Q st:=by
  rw[binarySort'_eq];refine wpS_bind (wpS_mono (wpS_forRange (I:=λk c J=>c=(none,())/\Mv lo (lo+m) st J/\Up rk (arrOf J) lo (lo+min k m))
    (Q:=λc J=>c=(none,())/\Mv lo (lo+m) st J/\Up rk (arrOf J) lo (lo+m)) ?turn ?last ?first) ?after)
  case after=>
    rintro c J ⟨rfl,v,Y⟩;exact wpS_pure (h J v Y)
  case first=>
    refine⟨zr,Mv.refl _ _ _,λi j a b c=>?_⟩;by_cases h0:ok=0
    · rw[show i=j by lia]
      exact z3l _
    · exact hs i j a b (by lia)
  case last=>
    rintro c J ⟨hc,v,Y⟩;refine⟨hc,v,?_⟩
    rwa [show min (max (max ok 1) m) m=m by lia]at Y
  case turn=>
    rintro k c J hak hkm ⟨rfl,v,Y⟩;have e0:min k m=k:=by lia
    rw[e0]at Y;have B':=v.sane B;refine wpS_bind (wpS_mono (wpS_forRange (I:=λx c O=>O=J/\∃l r,c=(none,l,r)/\l<=r/\r<=k/\r - l<=k - x/\
        (∀i,i < l->kx rk (arrOf J) (lo+i)<=kx rk (arrOf J) (lo+k))/\(∀i,r<=i->i < k->kx rk (arrOf J) (lo+k) < kx rk (arrOf J) (lo+i)))
      (Q:=λc O=>O=J/\∃l r,c=(none,l,r)/\l<=k/\
        (∀i,i < l->kx rk (arrOf J) (lo+i)<=kx rk (arrOf J) (lo+k))/\(∀i,l<=i->i < k->kx rk (arrOf J) (lo+k) < kx rk (arrOf J) (lo+i))) ?iturn ?ilast ?ifirst) ?iafter)
    case ifirst=>exact⟨rfl,0,k,rfl,by lia,by lia,by lia,λi hi=>by lia,λi a b=>by lia⟩
    case ilast=>
      rintro c O ⟨rfl,l,r,rfl,a6,a3,hd,a1,Z⟩;have e:l=r:=by lia
      subst e;exact⟨zr,l,l,zr,a3,a1,Z⟩
    case iturn=>
      rintro x c O _ hxk ⟨rfl,l,r,rfl,a6,a3,hd,a1,Z⟩
      dsimp only
      by_cases a4:l >=r
      · rw[if_pos a4]
        have e:l=r:=by lia
        subst e;exact wpS_pure ⟨zr,l,l,zr,a3,a1,Z⟩
      · rw[if_neg a4]
        refine wpS_bind (qbf L B' (by lia) (by lia) ?_);by_cases a2:kx rk (arrOf O) (lo+k) < kx rk (arrOf O) (lo+(l+r) / 2)
        · simp only[a2,z3k,if_true]
          refine wpS_pure ⟨zr,l,(l+r) / 2,zr,by lia,by lia,by lia,a1,λi a b=>?_⟩;have:=Y (lo+(l+r) / 2) (lo+i) (by lia) (by lia) (by lia)
          lia
        · simp only[a2,z37,z18,if_false]
          refine wpS_pure ⟨zr,(l+r) / 2+1,r,zr,by lia,by lia,by lia,λi a=>?_,Z⟩;have:=Y (lo+i) (lo+(l+r) / 2) (by lia) (by lia) (by lia)
          lia
    case iafter=>
      rintro c O ⟨rfl,l,r,rfl,hlk,a1,Z⟩;show wpS M A E s (moveDown' (lo+k) (lo+l) >>=λ_=>pure (ForInStep.yield (none,()))) _ O;rw[moveDown'_eq];have hz:lo+k < (arrOf O).size:=by rw[B'.size];lia
      refine wpS_bind (wpS_modify (wpS_pure ⟨zr,v.trans (Mv.sunk (by lia) (by lia) hz),?_⟩));rw[show min (k+1) m=k+1 by lia];intro i j a b c;show kx rk (bubble (arrOf O) (lo+k) (lo+k - (lo+l))) i<=kx rk (bubble (arrOf O) (lo+k) (lo+k - (lo+l))) j;rw[qgs rk hz (by lia),qgs rk hz (by lia),show lo+k - (lo+k - (lo+l))=lo+l by lia];have a7:∀q,lo<=q->q < lo+l->kx rk (arrOf O) q<=kx rk (arrOf O) (lo+k):=λq a b=>by
        have:=a1 (q - lo) (by lia)
        rwa [show lo+(q - lo)=q by lia]at this
      have a5:∀q,lo+l<=q->q < lo+k->kx rk (arrOf O) (lo+k) < kx rk (arrOf O) q:=λq a b=>by
        have:=Z (q - lo) (by lia) (by lia)
        rwa [show lo+(q - lo)=q by lia]at this
      repeat' split
      all_goals first
        | (exfalso;lia)
        | exact z3l _
        | exact a7 _ (by lia) (by lia)
        | exact z38 (a5 _ (by lia) (by lia))
        | exact Y _ _ (by lia) (by lia) (by lia)
end
end Tim
namespace Tim
section
variable{α:Type}{rk:α->Int}{as bs out:List α}{ia ib:Nat}
end
end Tim
namespace Tim
open PySem PyProof.Rows
section
variable{M:Model}{A:Around}{E:xB}{s:Shared}{kd:SortKind}{S:Keyed->Prop}{rk:Keyed->Int}
end
section
variable{rk:Keyed->Int}{a b o:Array Keyed}{x y:Nat}
def qlp(xs:Array Keyed)(i:Nat){p:Keyed}(h:xs.toList[i]? =some p):kx rk xs i=rk p:=qso (by rw[<- h,z0q])
end
section
variable{S:Keyed->Prop}{rk:Keyed->Int}{a b o:Array Keyed}{x y:Nat}
end
section
variable{M:Model}{A:Around}{E:xB}{s:Shared}{kd:SortKind}{S:Keyed->Prop}{rk:Keyed->Int}{a b:Array Keyed}{st:SortSt}
end
section
variable{rk:Keyed->Int}{a b o:Array Keyed}{x y:Nat}
end
section
variable{S:Keyed->Prop}{rk:Keyed->Int}{a b o:Array Keyed}{x y:Nat}
end
section
variable{M:Model}{A:Around}{E:xB}{s:Shared}{kd:SortKind}{S:Keyed->Prop}{rk:Keyed->Int}{a b:Array Keyed}{st:SortSt}
end
section
variable{rk:Keyed->Int}{xs ys:Array Keyed}
end
section
variable{M:Model}{A:Around}{E:xB}{s:Shared}{kd:SortKind}{S:Keyed->Prop}{rk:Keyed->Int}{n:Nat}
end
section
variable{M:Model}{A:Around}{E:xB}{s:Shared}{kd:SortKind}{S:Keyed->Prop}{rk:Keyed->Int}{n:Nat}
end
def KLt(prog:Program)(w:World)(A:Around)(s:Shared)(kd:SortKind)(x y:Value)(r:Bool):Prop:=
 ∀(E:xB) (Q:Bool->Shared->Prop),Q r s->wpAny (model prog w) A (keyLt' kd x y) Q E s
def qt7{prog:Program}{w:World}{A:Around}{E:xB}{s:Shared}{kd:SortKind}{S:Keyed->Prop}{rk:Keyed->Int}(h:∀x y,S x->S y->KLt prog w A s kd x.1 y.1 (decide (rk x < rk y))):
  LtOk (model prog w) A E s kd S rk:=by
 intro x y st Q sx sy hk q;rw[lt'_eq];refine wpS_bind (wpS_get ?_);rw[hk];refine wpS_bind (wpS_lift (z31 (h x y sx sy _ _ ⟨zr,?_⟩)));exact wpS_pure q
section
variable{α:Type}
theorem qdn{p q:α->Bool}:∀(l:List α),(∀z∈l,p z=true->q z=true)->(l.filter p).length<=(l.filter q).length
 | [],_=>z3j _
 | z::l,h=>by
  have ih:=qdn (p:=p) (q:=q) l λy hy=>h y (z0v _ hy);rw[z21,z21];cases e:p z with
  | true=>
   rw[h z (z1c ..) e];simp only[if_true,z20]
   lia
  | false=>
   cases q z with
   | true=>simp only[z18,if_false,if_true,z20];lia
   | false=>simpa using ih
theorem qim{p q:α->Bool}{y:α}:∀(l:List α),(∀z∈l,p z=true->q z=true)->y∈l->p y=false->q y=true->(l.filter p).length < (l.filter q).length
 | [],_,hy,_,_=>nomatch hy
 | z::l,h,hy,h1,h2=>by
  have hl:∀w∈l,p w=true->q w=true:=λw hw=>h w (z0v _ hw);rw[z21,z21];rcases z32.mp hy with rfl | hy
  ·rw[h1,h2];have:=qdn l hl;simp only[z18,if_false,if_true,z20]
   lia
  ·have ih:=qim l hl hy h1 h2;cases e:p z with
   | true=>
    rw[h z (z1c ..) e];simp only[if_true,z20]
    lia
   | false=>
    cases q z with
    | true=>simp only[z18,if_false,if_true,z20];lia
    | false=>simpa using ih
def rank(lt:α->α->Bool)(l:List α)(x:α):Int:=((l.filter λy=>lt y x).length:Nat)
def qlq{lt:α->α->Bool}{l:List α}(irr:∀x∈l,lt x x=false)(tr:∀x∈l,∀y∈l,∀z∈l,lt x y=true->lt y z=true->lt x z=true)
  (nt:∀x∈l,∀y∈l,∀z∈l,lt x z=true->lt x y=true\/ lt y z=true) {x y:α} (J:x∈l) (hy:y∈l):lt x y=decide (rank lt l x < rank lt l y):=by
 unfold rank;cases e:lt x y with
 | true=>
  have:=qim (p:=λz=>lt z x) (q:=λz=>lt z y) l (λz hz h=>tr z hz x J y hy h e) J (irr x J) e;exact(z2s (by lia)).symm
 | false=>
  have:=qdn (p:=λz=>lt z y) (q:=λz=>lt z x) l (λz hz h=>(nt z hz x J y hy h).resolve_right (by rw[e];exact z19));exact(z2d (by lia)).symm
end
structure Sorted (rk:Value->Int) (vs out:xH):Prop where
 perm:out.Perm vs
 asc:out.Pairwise λx y=>rk x<=rk y
def qin{rk:Value->Int}{vs:xH}{xs:Array Keyed}(Z:xs.Perm (pairsOf vs))(hu:Up (λp=>rk p.1) xs 0 vs.length):Sorted rk vs (xs.map (·.2)).toList:=by
 have hl:xs.toList.Perm (vs.zip vs):=by
  rw[<- pairsOf_toList];exact z03.mp Z
 have hsz:xs.size=vs.length:=by
  rw[Z.size_eq,pairsOf_size]
 have same:∀p,p∈xs.toList->p.1=p.2:=λp h=>(mem_zip_self (hl.mem_iff.mp h)).1;refine⟨?_,?_⟩
 ·rw[Array.toList_map];have:=hl.map Prod.snd
  rwa [List.map_snd_zip (z3j _)]at this
 ·rw[Array.toList_map,z07];intro i j hi hj Y;rw[List.getElem_map,List.getElem_map];have O:i < xs.toList.length:=by simpa using hi
  have J:j < xs.toList.length:=by simpa using hj
  have:=hu i j (z3m _) (z3a Y) (by rw[z0y]at J;lia);rw[qlp xs i (z0b O),qlp xs j (z0b J)]at this;rw[<- same _ (z22 O),<- same _ (z22 J)];exact this
section
variable{prog:Program}{w:World}{A:Around}{E:xB}{s:Shared}
def Keys(prog:Program)(w:World)(A:Around)(s:Shared)(a:Addr)(vs:xH)(rk:Value->Int):Prop:=2<=vs.length->∀s':Shared,(∀b o,b≠a->s.heap.get? b=some o->s'.heap.get? b=some o)->
 ∃kd:SortKind,(∀(E:xB) (Q:SortKind->Shared->Prop),Q kd s'->wpAny (model prog w) A (keyKind' vs.toArray) Q E s')/\∀x∈vs,∀y∈vs,KLt prog w A s' kd x y (decide (rk x < rk y))
end
end Tim
namespace Tim
structure STO {α:Type} (lt:α->α->Bool):Prop where
 irr:∀a,lt a a=false
 tr:∀a b c,lt a b=true->lt b c=true->lt a c=true
 tri:∀a b,lt a b=false->lt b a=false->a=b
section
variable{α β:Type}
def STO.asym{lt:α->α->Bool}(h:STO lt){a b:α}(x:lt a b=true):lt b a=false:=by
 cases e:lt b a with
 | false=>rfl
 | true=>
  have:=h.tr a b a x e;rw[h.irr]at this;cases this
def STO.nt{lt:α->α->Bool}(h:STO lt){a c:α}(b:α)(x:lt a c=true):lt a b=true\/ lt b c=true:=by
 cases e:lt a b with
 | true=>exact .inl rfl
 | false=>
  cases f:lt b a with
  | true=>exact .inr (h.tr b a c f x)
  | false=>
   have:=h.tri a b e f;subst this;exact .inr x
def STO.map{lt:α->α->Bool}(h:STO lt)(f:β->α)(inj:∀a b,f a=f b->a=b):STO λa b=>lt (f a) (f b):=
 ⟨λa=>h.irr _,λa b c=>h.tr _ _ _,λa b x y=>inj a b (h.tri _ _ x y)⟩
def lexB[DecidableEq α](lt:α->α->Bool):List α->List α->Bool
 | [],[]=>false
 | [],_::_=>true
 | _::_,[]=>false
 | a::as,b::bs=>if a=b then lexB lt as bs else lt a b
def STO.lex[DecidableEq α]{lt:α->α->Bool}(h:STO lt):STO (lexB lt):=by
 refine⟨λa=>?_,λa=>?_,λa=>?_⟩
 ·induction a with
  | nil=>rfl
  | cons x a Y=>rw[lexB,if_pos rfl];exact Y
 ·induction a with
  | nil=>
   intro b c h1 h2;cases c with
   | nil=>cases b with
    | nil=>exact h1
    | cons y b=>cases h2
   | cons z c=>rfl
  | cons x a Y=>
   intro b c h1 h2;cases b with
   | nil=>cases h1
   | cons y b=>
    cases c with
    | nil=>cases h2
    | cons z c=>
     rw[lexB]at h1 h2 ⊢;by_cases J:x=y
     ·subst J;rw[if_pos rfl]at h1;by_cases Z:x=z
      ·subst Z;rw[if_pos rfl]at h2 ⊢;exact Y b c h1 h2
      ·rw[if_neg Z]at h2 ⊢;exact h2
     ·rw[if_neg J]at h1;by_cases yz:y=z
      ·subst yz;rw[if_neg J];exact h1
      ·rw[if_neg yz]at h2;have O:=h.tr x y z h1 h2;have:¬ x=z:=λe=>by
        subst e;rw[h.irr]at O;cases O
       rw[if_neg this];exact O
 ·induction a with
  | nil=>
   intro b h1 h2;cases b with
   | nil=>rfl
   | cons y b=>cases h1
  | cons x a Y=>
   intro b h1 h2;cases b with
   | nil=>cases h2
   | cons y b=>
    rw[lexB]at h1 h2;by_cases J:x=y
    ·subst J;rw[if_pos rfl]at h1 h2;rw[Y b h1 h2]
    ·rw[if_neg J]at h1;rw[if_neg (Ne.symm J)]at h2;exact absurd (h.tri x y h1 h2) J
def qt8:STO (λa b:Nat=>decide (a < b)):=
 ⟨λa=>by simp,λa b c h1 h2=>by simp at*;lia,λa b h1 h2=>by simp at*;lia⟩
theorem qlr:∀(a b:List Nat),decide (a < b)=lexB (λx y:Nat=>decide (x < y)) a b
 | [],[]=>rfl
 | [],_::_=>by simp[lexB]
 | _::_,[]=>by simp[lexB]
 | x::a,y::b=>by
  rw[lexB,<- qlr a b];by_cases e:x=y
  ·subst e;rw[if_pos rfl];simp
  ·rw[if_neg e];have:(x::a < y::b)↔x < y:=by
    rw[List.cons_lt_cons_iff]
    constructor
    ·rintro (h | h)
     ·exact h
     ·exact absurd h.1 e
    ·exact .inl
   simp[this]
theorem STO.uniq{lt:α->α->Bool}(h:STO lt):∀{a b:List α},a.Perm b->a.Pairwise (λx y=>lt y x=false)->b.Pairwise (λx y=>lt y x=false)->a=b
 | [],b,p,_,_=>(List.nil_perm.mp p).symm ▸ rfl
 | x::a,[],p,_,_=>by have:=p.length_eq;simp at this
 | x::a,y::b,p,pa,pb=>by
  obtain⟨O,Y⟩:=z1d.mp pa;obtain⟨Z,a1⟩:=z1d.mp pb;have e:x=y:=by
   have J:x∈y::b:=p.mem_iff.mp (z1c ..);have hy:y∈x::a:=p.mem_iff.mpr (z1c ..);rcases z32.mp J with e | J
   ·exact e
   ·rcases z32.mp hy with e | hy
    ·exact e.symm
    ·exact h.tri x y (Z x J) (O y hy)
  subst e;rw[h.uniq (List.Perm.cons_inv p) Y a1]
end
end Tim
namespace L2
open PySem PySem.Spec PyProof.Rows
abbrev Key:=Sum Int Str
def q8z:Key->Value->Bool
 | .inl k,v=>Value.isInt k v
 | .inr x,v=>Value.isStrOf x v
def keyH(w:World):Key->Int
 | .inl k=>hashInt k
 | .inr x=>hashStr w x
def q24:∀{k:Key} {v:Value},q8z k v=true->(∃i t,k=Sum.inl i/\v=Value.int i t)\/ (∃x t,k=Sum.inr x/\v=Value.str x t)
 | .inl i,v,h=>by
  obtain⟨t,e⟩:=Value.isInt_shape (k:=i) (v:=v) h;exact .inl ⟨i,t,zr,e⟩
 | .inr x,v,h=>by
  obtain⟨t,e⟩:=Value.isStrOf_shape (x:=x) (v:=v) h;exact .inr ⟨x,t,zr,e⟩
def qoc(i:Int)(t:Tok):q8z (.inl i) (.int i t)=true:=by simp[q8z,Value.isInt]
def qod(x:Str)(t:Tok):q8z (.inr x) (.str x t)=true:=by simp[q8z,Value.isStrOf]
def qvp(a b:Int):decide ((Sum.inl a:Key)=Sum.inl b)=(a==b):=by
 by_cases e:a=b
 ·subst e;simp
 ·have h:¬ (Sum.inl a:Key)=Sum.inl b:=λq=>e (Sum.inl.inj q);rw[z2d h];exact(beq_eq_false_iff_ne.mpr e).symm
def qvq(a b:Str):decide ((Sum.inr a:Key)=Sum.inr b)=decide (a=b):=by
 by_cases e:a=b
 ·subst e;simp
 ·have h:¬ (Sum.inr a:Key)=Sum.inr b:=λq=>e (Sum.inr.inj q);rw[z2d h,z2d e]
def qvr(a:Int)(b:Str):decide ((Sum.inl a:Key)=Sum.inr b)=false:=z2d (λq=>nomatch q)
def qvs(a:Str)(b:Int):decide ((Sum.inr a:Key)=Sum.inl b)=false:=z2d (λq=>nomatch q)
def q16(prog:Program)(w:World):PySem.KeyKind prog w Key where
 is:=q8z
 hash:=keyH w
 inj:=λv a b ha hb=>by
  rcases q24 ha with ⟨i,t,rfl,rfl⟩ | ⟨x,t,rfl,rfl⟩
  ·rcases q24 hb with ⟨j,u,rfl,e⟩ | ⟨y,u,rfl,e⟩
   ·injection e with e1 _;rw[e1]
   ·exact nomatch e
  ·rcases q24 hb with ⟨j,u,rfl,e⟩ | ⟨y,u,rfl,e⟩
   ·exact nomatch e
   ·injection e with e1 _;rw[e1]
 byValue:=λk v h=>by
  rcases q24 h with ⟨i,t,rfl,rfl⟩ | ⟨x,t,rfl,rfl⟩ <;> rfl
 pyHash:=λhv h=>by
  rcases q24 hv with ⟨i,t,rfl,rfl⟩ | ⟨x,t,rfl,rfl⟩
  ·exact wpAny_pyHash_int h
  ·exact wpAny_pyHash_str h
 eqBool:=λhu hv h=>by
  rcases q24 hu with ⟨i,t,rfl,rfl⟩ | ⟨x,t,rfl,rfl⟩
  ·rcases q24 hv with ⟨j,u,rfl,rfl⟩ | ⟨y,u,rfl,rfl⟩
   ·rw[qvp]at h;exact wpAny_eqBool_int h
   ·rw[qvr]at h;exact SeqAt.EqAt.int_str i t y u _ _ _ _ h
  ·rcases q24 hv with ⟨j,u,rfl,rfl⟩ | ⟨y,u,rfl,rfl⟩
   ·rw[qvs]at h;exact SeqAt.EqAt.str_int x t j u _ _ _ _ h
   ·rw[qvq]at h;exact wpAny_eqBool_str h
 «strs»:=λk x t v h=>by
  rcases q24 h with ⟨i,u,rfl,e⟩ | ⟨y,u,rfl,e⟩
  ·exact nomatch e
  ·injection e with e1 _;subst e1;cases v <;> rfl
def qkl(prog:Program)(w:World)(i:Int)(t:Tok):(q16 prog w).is (.inl i) (.int i t)=true:=qoc i t
def qdb(prog:Program)(w:World)(x:Str)(t:Tok):(q16 prog w).is (.inr x) (.str x t)=true:=qod x t
inductive V where
 | non | bl (b:Bool) | int (i:Int) | str (x:Str) | byt (b:Array UInt8) | flt (b:UInt64) | ref (a:Addr) | ty (n:String)
 deriving DecidableEq
def RelV:V->Value->Prop
 | .non,u=>u=Value.none
 | .bl b,u=>u=Value.bool b
 | .int i,u=>∃t,u=Value.int i t
 | .str x,u=>∃t,u=Value.str x t
 | .byt b,u=>∃t,u=Value.bytes b t
 | .flt b,u=>∃t,u=Value.float b t
 | .ref a,u=>u=Value.ref a
 | .ty n,u=>u=Value.type n
abbrev Vals:List V->List Value->Prop:=Paired RelV
theorem Vals.length{xs:List V}{us:xH}(r:Vals xs us):xs.length=us.length:=Paired.length r
theorem Vals.get:∀{xs:List V} {us:xH} {i:Nat} {x:V},Vals xs us->xs[i]? =some x->∃u,us[i]? =some u/\RelV x u
 | _,_,_,_,.nil,e=>by simp at e
 | _,_,0,_,.cons r _,e=>by simp at e;subst e;exact⟨_,rfl,r⟩
 | _,_,i+1,x,.cons _ t,e=>by
  obtain⟨u,h1,h2⟩:=Vals.get (i:=i) (x:=x) t (by simpa using e);exact⟨u,by simpa using h1,h2⟩
theorem Vals.append:∀{xs ys:List V} {us J:xH},Vals xs us->Vals ys J->Vals (xs++ys) (us++J)
 | _,_,_,_,.nil,s=>s
 | _,_,_,_,.cons r t,s=> .cons r (Vals.append t s)
theorem Vals.take:∀{xs:List V} {us:xH} (n:Nat),Vals xs us->Vals (xs.take n) (us.take n)
 | _,_,0,_=> .nil
 | _,_,_+1,.nil=> .nil
 | _,_,n+1,.cons r t=> .cons r (Vals.take n t)
theorem Vals.drop:∀{xs:List V} {us:xH} (n:Nat),Vals xs us->Vals (xs.drop n) (us.drop n)
 | _,_,0,r=>r
 | _,_,_+1,.nil=> .nil
 | _,_,n+1,.cons _ t=>Vals.drop n t
def RelO:Option V->Option Value->Prop
 | some v,some u=>RelV v u
 | none,none=>True
 | _,_=>False
def KV{κ:Type}:List (κ×V)->List (κ×Value)->Prop:=Paired λ(p:κ×V) (q:κ×Value)=>p.1=q.1/\RelV p.2 q.2
def kV:Key->V
 | .inl i=> .int i
 | .inr x=> .str x
inductive HO where
 | lst (xs:List V)
 | tup (xs:List V)
 | dK (kvs:List (Key×V)) | dT (kvs:List (List Key×V))
 | set (S:Int->Bool) (n:Nat)
 | ins (C dx:Addr) (fs:List (Str×V))
 | own (x:Addr)
 | xd (fs:List (Str×V))
 | met (f x:Addr)
 | rng (lo hi:Int)
 | frz (o:Obj) (u:HO)
 | tbl (ps:Array Value)
 | ext (φ:Heap->Prop)
abbrev Hp:=Addr->Option HO
def upd(H:Hp)(a:Addr)(o:HO):Hp:=λb=>if b=a then some o else H b
def qb{H:Hp}{a:Addr}{o:HO}:upd H a o a=some o:=by unfold upd;rw[if_pos rfl]
def qk{H:Hp}{a b:Addr}{o:HO}(h:b≠a):upd H a o b=H b:=by unfold upd;rw[if_neg h]
def qt9{H:Hp}{a:Addr}{o u:HO}:upd (upd H a o) a u=upd H a u:=by
 funext b;unfold upd;split <;> rfl
def qsp{H:Hp}{a b:Addr}{o u:HO}(h:H a=some o)(h':H b=some u)(d:o≠u):a≠b:=by
 intro e;subst e;rw[h]at h';exact d (Option.some.inj h')
def q2s{H:Hp}{a b:Addr}{o:HO}(h:H a=some o)(h':H b=none):a≠b:=by
 intro e;subst e;rw[h]at h';cases h'
section
variable(P:Program)(w:World)
def ObjOk(H:Hp)(h:Heap)(a:Addr):HO->Prop
 | .lst xs=>xs.length<=sizeLine/\∃(its:xH) (n:Nat),Vals xs its/\h.get? a=some {cls:= .type "list",data:= .seq its.toArray n}
 | .tup xs=>xs.length<=sizeLine/\∃its:List Value,Vals xs its/\IsTup h a its.toArray
 | .dK kvs=>kvs.length<=sizeLine/\(a==sysModules)=false/\∃vs,KV kvs vs/\h.DictOf (q16 P w) a vs
 | .dT kvs=>kvs.length<=sizeLine/\(a==sysModules)=false/\∃xs:List (List Key×Addr×Value),
   Paired (λ(p:List Key×V) (q:List Key×Addr×Value)=>p.1=q.1/\H q.2.1=some (.tup (p.1.map kV))/\RelV p.2 q.2.2) kvs xs/\
   ∃o es ep,h.get? a=some o/\o.ExactDict/\o.data= .dict es ep/\es.toList=xs.map (entryOfKey (tupleKind (q16 P w)))/\(xs.map (·.1)).Nodup
 | .set S n=>h.SetOf (intKind P w) a S n
 | .ins C dx fs=>H dx=some (.own a)/\fs.length<=1000/\dx≠a/\h.get? a=some (PySem.W.instObj C dx)/\
   ∃mA,h.Ns1 dx mA/\(∀f,RelO (fs.lookup f) (mA f))/\PySem.Within mA (fs.map (·.1))
 | .own _=>∃o,h.get? a=some o
 | .xd fs=>∃mA,h.Ns1 a mA/\∀f,RelO (fs.lookup f) (mA f)
 | .rng lo hi=>∃t u v,h.get? a=some {cls:= .type "range",data:= .fields #[.int lo t,.int hi u,.int 1 v]}
 | .frz o u=>h.get? a=some o/\ObjOk H h a u
 | .tbl ps=>h.get? a=some {cls:= .none,data:= .fields ps}
 | .met f x=>h.get? a=some (PySem.W.methodObj (.ref f) (.ref x))
 | .ext φ=>φ h/\(∃o,h.get? a=some o)/\∀h1 h2:Heap,φ h1->(∀o,h1.get? a=some o->h2.get? a=some o)->φ h2
def HOk(H:Hp)(h:Heap):Prop:=∀a o,H a=some o->ObjOk P w H h a o
end
section
variable{P:Program}{w:World}{H H':Hp}{h h':Heap}{a:Addr}{o:HO}
theorem ObjOk.lt(x:ObjOk P w H h a o):a < h.objs.size:=by
 cases o with
 | lst xs=>obtain⟨_,_,_,_,e⟩:=x;exact z3b e
 | tup xs=>obtain⟨_,_,_,p⟩:=x;exact p.lt
 | dK kvs=>obtain⟨_,_,_,_,o,_,_,e,_⟩:=x;exact z3b e
 | dT kvs=>obtain⟨_,_,_,_,o,_,_,e,_⟩:=x;exact z3b e
 | set S n=>obtain⟨o,_,_,_,e,_⟩:=x;exact z3b e
 | ins C dx fs=>obtain⟨_,_,_,e,_⟩:=x;exact z3b e
 | own y=>obtain⟨_,e⟩:=x;exact z3b e
 | xd fs=>obtain⟨_,⟨_,_,_,e,_⟩,_⟩:=x;exact z3b e
 | rng lo hi=>obtain⟨_,_,_,e⟩:=x;exact z3b e
 | frz ob u=>obtain⟨e,_⟩:=x;exact z3b e
 | tbl ps=>exact z3b (show h.get? a=some _ from x)
 | met f y=>exact z3b (show h.get? a=some _ from x)
 | ext φ=>obtain⟨_,⟨_,e⟩,_⟩:=x;exact z3b e
theorem Paired.mapP{α β:Type}{F G:α->β->Prop}:∀{J:List α} {O:List β},Paired F J O->(∀a b,F a b->G a b)->Paired G J O
 | _,_,.nil,_=> .nil
 | _,_,.cons r t,f=> .cons (f _ _ r) (Paired.mapP t f)
def ObjOk.stay(x:ObjOk P w H h a o)(k:∀b u,(b=a\/ H b=some (.own a))->h.get? b=some u->h'.get? b=some u)
  (ho:∀b,H b=some (.own a)->H' b=some (.own a)) (ht:∀b xs,H b=some (.tup xs)->H' b=some (.tup xs)):ObjOk P w H' h' a o:=by
 induction o with
 | lst xs=>obtain⟨z,its,n,r,e⟩:=x;exact⟨z,its,n,r,k _ _ (.inl rfl) e⟩
 | tup xs=>obtain⟨z,its,r,ob,e,c⟩:=x;exact⟨z,its,r,ob,k _ _ (.inl rfl) e,c⟩
 | dK kvs=>obtain⟨z,y,vs,r,ob,es,ep,e,c⟩:=x;exact⟨z,y,vs,r,ob,es,ep,k _ _ (.inl rfl) e,c⟩
 | dT kvs=>
  obtain⟨z,y,xs,r,ob,es,ep,e,c⟩:=x;exact⟨z,y,xs,Paired.mapP r λp q z=>⟨z.1,ht _ _ z.2.1,z.2.2⟩,ob,es,ep,k _ _ (.inl rfl) e,c⟩
 | set S n=>obtain⟨ob,es,ep,t,e,c⟩:=x;exact⟨ob,es,ep,t,k _ _ (.inl rfl) e,c⟩
 | ins C dx fs=>
  obtain⟨d,z,ne,e,mA,⟨J,es,ep,e2,c⟩,r⟩:=x;exact⟨ho _ d,z,ne,k _ _ (.inl rfl) e,mA,⟨J,es,ep,k _ _ (.inr d) e2,c⟩,r⟩
 | own y=>obtain⟨ob,e⟩:=x;exact⟨ob,k _ _ (.inl rfl) e⟩
 | xd fs=>obtain⟨mA,⟨J,es,ep,e,c⟩,r⟩:=x;exact⟨mA,⟨J,es,ep,k _ _ (.inl rfl) e,c⟩,r⟩
 | rng lo hi=>obtain⟨t,u,v,e⟩:=x;exact⟨t,u,v,k _ _ (.inl rfl) e⟩
 | frz ob u ih=>obtain⟨e,q⟩:=x;exact⟨k _ _ (.inl rfl) e,ih q⟩
 | tbl ps=>
  have e:h.get? a=some {cls:= .none,data:= .fields ps}:=x;show h'.get? a=some {cls:= .none,data:= .fields ps};exact k a _ (.inl rfl) e
 | met f y=>
  have e:h.get? a=some (PySem.W.methodObj (.ref f) (.ref y)):=x;show h'.get? a=some (PySem.W.methodObj (.ref f) (.ref y));exact k a _ (.inl rfl) e
 | ext φ=>obtain⟨p,⟨o,e⟩,st⟩:=x;exact⟨st _ _ p λo q=>k _ _ (.inl rfl) q,⟨o,k _ _ (.inl rfl) e⟩,st⟩
theorem HOk.lt(x:HOk P w H h)(e:H a=some o):a < h.objs.size:=(x a o e).lt
def HOk.fresh(x:HOk P w H h)(e:h.objs.size<=a):H a=none:=by
 cases q:H a with
 | none=>rfl
 | some u=>exact absurd (z1e (x.lt q) e) (z34 _)
def HOk.kept(x:HOk P w H h)(k:∀b u,h.get? b=some u->h'.get? b=some u):HOk P w H h':=λa o e=>
 (x a o e).stay (λb u _ q=>k b u q) (λ_ q=>q) λ_ _ q=>q
def HOk.laid(x:HOk P w H h)(k:∀b u,h.get? b=some u->h'.get? b=some u)(hp:h.objs.size<=a)(new:ObjOk P w (upd H a o) h' a o):HOk P w (upd H a o) h':=λb u e=>by
 have hn:=x.fresh hp;by_cases hb:b=a
 ·subst hb;rw[qb]at e;cases e;exact new
 ·rw[qk hb]at e;exact(x b u e).stay (λc v _ q=>k c v q) (λc q=>by rw[qk (q2s q hn)];exact q) λc xs q=>by rw[qk (q2s q hn)];exact q
end
def Rd(H:Hp)(a:Addr)(u:HO):Prop:=H a=some u\/ ∃o,H a=some (.frz o u)
def Rd.ok{P:Program}{w:World}{H:Hp}{h:Heap}{a:Addr}{u:HO}(r:Rd H a u)(x:HOk P w H h):ObjOk P w H h a u:=by
 rcases r with r | ⟨o,r⟩
 ·exact x a u r
 ·obtain⟨_,q⟩:=x a _ r;exact q
def Mut:Option HO->Prop
 | some (.lst _)=>True
 | some (.dK _)=>True
 | some (.dT _)=>True
 | some (.set _ _)=>True
 | some (.ins _ _ _)=>True
 | some (.ext _)=>True
 | _=>False
section
variable{P:Program}{w:World}{H:Hp}{h h':Heap}{x e:Addr}{o':HO}
def HOk.write(ok:HOk P w H h)(mu:Mut (H x))(he:e=x\/ H e=some (.own x))(k:∀b u,b≠e->h.get? b=some u->h'.get? b=some u)(a1:∃u,h'.get? e=some u)
    (new:ObjOk P w (upd H x o') h' x o'):HOk P w (upd H x o') h':=λb u q=>by
  have O:∀c y,H c=some (.own y)->c≠x:=λc y r z=>by subst z;rw[r]at mu;exact mu
  have Y:∀c xs,H c=some (.tup xs)->c≠x:=λc xs r z=>by subst z;rw[r]at mu;exact mu
  by_cases hb:b=x
  · subst hb;rw[qb]at q;cases q;exact new
  · rw[qk hb]at q
    by_cases J:b=e
    · have q':H b=some (.own x):=by
        rcases he with z | z
        · exact absurd (J.trans z) hb
        · rw[J];exact z
      rw[q]at q';cases q';obtain⟨v,hv⟩:=a1;exact⟨v,by rw[J];exact hv⟩
    · refine(ok b u q).stay (λc v Z r=>k c v ?_ r) (λc r=>by rw[qk (O c b r)];exact r) λc xs r=>by rw[qk (Y c xs r)];exact r
      rcases Z with rfl | Z
      · exact J
      · rintro rfl
        rcases he with z | z
        · exact O c b Z z
        · rw[Z]at z;cases z;exact hb rfl
end
structure Un (fs ex:List Addr) (H H':Hp) (h h':Heap):Prop where
 keep:∀b o,h.get? b=some o->H b=none->b∉fs->b∉ex->h'.get? b=some o
 slot:∀b o,h.get? b=some o->H b=none->b∈fs->b∉ex->∃sl,h'.get? b=some {o with slots:=sl}
 free:∀b o,h.get? b=some o->H b=none->b∉ex->H' b=none
 there:∀b o,h.get? b=some o->b∉ex->∃o',h'.get? b=some o'
 tups:∀b xs,H b=some (.tup xs)->H' b=some (.tup xs)
 frzs:∀b o u,H b=some (.frz o u)->H' b=some (.frz o u)
 tbls:∀b ps,H b=some (.tbl ps)->∃more,H' b=some (.tbl (ps++more))
section
variable{fs fs' ex ex':List Addr}{H H1 H2:Hp}{h h1 h2 h':Heap}{a x e:Addr}{o:HO}
def Un.any(u:Un fs ex H H1 h h1){b:Addr}{ob:Obj}(q:h.get? b=some ob)(n:H b=none)(J:b∉ex):∃sl,h1.get? b=some {ob with slots:=sl}:=by
 by_cases hb:b∈fs
 ·exact u.slot b ob q n hb J
 ·exact⟨ob.slots,u.keep b ob q n hb J⟩
def Un.kept(k:∀b u,h.get? b=some u->h'.get? b=some u):Un fs ex H H h h':=
 ⟨λb ob q _ _ _=>k b ob q,λb ob q _ _ _=>⟨ob.slots,k b ob q⟩,λ_ _ _ n _=>n,λb ob q _=>⟨ob,k b ob q⟩,λ_ _ q=>q,λ_ _ _ q=>q,λ_ ps q=>⟨#[],by rw[q];simp⟩⟩
def Un.refl:Un fs ex H H h h:=Un.kept λ_ _ q=>q
def Un.laid(k:∀b u,h.get? b=some u->h'.get? b=some u)(hp:h.objs.size<=a)(hn:H a=none):Un fs ex H (upd H a o) h h' where
 keep:=λb u q _ _ _=>k b u q
 slot:=λb u q _ _ _=>⟨u.slots,k b u q⟩
 free:=λb u q n _=>by rw[qk (z3c (z1e (z3b q) hp))];exact n
 there:=λb u q _=>⟨u,k b u q⟩
 tups:=λb xs q=>by rw[qk (q2s q hn)];exact q
 frzs:=λb u xs q=>by rw[qk (q2s q hn)];exact q
 tbls:=λb ps q=>⟨#[],by rw[qk (q2s q hn),q];simp⟩
def Un.write(O:Mut (H x))(he:e=x\/ H e=some (.own x))(k:∀b u,b≠e->h.get? b=some u->h'.get? b=some u)(Y:∃u,h'.get? e=some u):Un fs ex H (upd H x o) h h':=by
 have Z:∀b,H b=none->b≠x:=λb n z=>by subst z;rw[n]at O;exact O
 have hb:∀b,H b=none->b≠e:=λb n z=>by
  subst z;rcases he with r | r
  ·exact Z b n r
  ·rw[n]at r;cases r
 have hm:∀b u,H b=some u->¬ Mut (some u)->b≠x:=λb u q nm z=>by subst z;rw[q]at O;exact nm O
 refine⟨λb u q n _ _=>k b u (hb b n) q,λb u q n _ _=>⟨u.slots,k b u (hb b n) q⟩,λb u q n _=>by rw[qk (Z b n)];exact n,λb u q _=>?_,
  λb xs q=>by rw[qk (hm b _ q λz=>z)];exact q,λb u xs q=>by rw[qk (hm b _ q λz=>z)];exact q,λb ps q=>⟨#[],by rw[qk (hm b _ q λz=>z),q];simp⟩⟩
 by_cases J:b=e
 ·subst J;exact Y
 ·exact⟨u,k b u J q⟩
end
def trk(h:Heap)(H:Hp):List Addr:=(List.range h.objs.size).filter λa=>(H a).isSome
def hidT(h:Heap)(H:Hp):Heap:=PySem.W.hideAll h (trk h H)
def qoe(h:Heap)(H:Hp):(hidT h H).objs.size=h.objs.size:=PySem.W.hideAll_size _ _
def qqx{h:Heap}{H:Hp}{b:Addr}{o:Obj}(e:h.get? b=some o)(n:H b=none):(hidT h H).get? b=some o:=
 PySem.W.hideAll_get _ e λhm=>by
  have q:(H b).isSome=true:=(z2e.mp hm).2;rw[n]at q;simp at q
def qta{h:Heap}{H:Hp}{b:Addr}{o:Obj}(e:(hidT h H).get? b=some o):h.get? b=some o/\H b=none:=by
 have e':h.get? b=some o:=PySem.W.of_hideAll (trk h H) e;refine⟨e',?_⟩;cases q:H b with
 | none=>rfl
 | some x=>
  have hm:b∈trk h H:=z2e.mpr ⟨z2t.mpr (z3b e'),by simp[q]⟩;have z:(hidT h H).get? b=none:=PySem.W.hideAll_none (trk h H) hm;rw[z]at e;cases e
structure Mod (K:xA) (mg:xE) (base:Heap):Prop where
 kin:K.In base
 glob:base.Ns mainGlobals mg
 blt:∃mb,base.Ns builtinsNs mb/\∀x:Str,x≠"__name__" ->mb x=bootBuiltins x
 nolimit:base.NoLimit
structure Cx where
 prog:Program
 w:World
 K:xA
 mg:Str->Option Value
 base:Heap
 A:Around
 N:List Str
 s₀:Shared
 H₀:Hp
 env:Env
 outer:List Env
 stack:List Env
 ex:List Addr
 fn:Str->Bool
 calm:Bool
 pn:List (Addr×Obj)
 xe:xB
def frs(l:List Env):List Addr:=l.filterMap (·.frame)
abbrev Cx.fs(X:Cx):List Addr:=frs X.outer
def Vis(sc:Scope)(x:Str):Prop:=sc.names.lookup x=some .local\/ sc.names.lookup x=some .cell\/ sc.names.lookup x=some .free
def Loc(sc:Scope)(x:Str):Prop:=sc.names.lookup x=some .local\/ sc.names.lookup x=some .cell
def Look(env:Env)(h:Heap)(m:xE)(x:Str)(u:Value):Prop:=
 (env.kindOf x=some .local/\m x=some u)\/ ((env.kindOf x=some .cell\/ env.kindOf x=some .free)/\∃c,env.cells.lookup x=some c/\h.IsCell c (some u))
structure Cx.Ok (X:Cx):Prop where
 mod:Mod X.K X.mg X.base
 kind:X.env.scope.kind= .function
 glob:X.env.globals=mainGlobals
 blt:X.env.builtins=builtinsNs
 above:X.s₀.heap.objs.size<=X.env.locals
 inj:∀x y c,X.env.cells.lookup x=some c->X.env.cells.lookup y=some c->x=y
 has:∀x,(X.env.kindOf x=some .cell\/ X.env.kindOf x=some .free)->∃c,X.env.cells.lookup x=some c
 cab:∀x c,X.fn x=true->X.env.cells.lookup x=some c->X.s₀.heap.objs.size<=c
 hd:X.calm=true->X.A.handled=none
 frames:X.A.frames=some X.stack
 stk:X.stack=X.outer\/ (X.stack=X.env::X.outer/\X.env.frame=some X.env.locals)
 exf:∀b∈X.ex,b≠X.env.locals/\∀x c,X.env.cells.lookup x=some c->c≠b
 bs:∀b o,X.base.get? b=some o->X.s₀.heap.get? b=some o/\X.H₀ b=none
 bsz:X.base.objs.size<=X.s₀.heap.objs.size
 noex:∀b o,X.base.get? b=some o->b∉X.ex
 exfs:∀b∈X.ex,b∉X.fs
 funs:X.s₀.heap.FunFrames X.base X.outer
 frf:∀b∈X.fs,X.H₀ b=none
structure Inv (X:Cx) (xC:xG) (σ:List (Option V)) (H:Hp) (s:Shared):Prop where
 ok:X.Ok
 os:s.os=X.s₀.os
 bare:AllBare s.gens
 base:Un X.fs X.ex X.H₀ H X.s₀.heap s.heap
 loc:∃m,s.heap.Ns X.env.locals m/\∀(i:Nat) (x:Str) (v:V),X.N[i]? =some x->σ[i]? =some (some v)->Vis X.env.scope x->∃u,RelV v u/\Look X.env s.heap m x u
 cell:∀x c,X.env.cells.lookup x=some c->∃v,s.heap.IsCell c v
 free:H X.env.locals=none
 freeC:∀x c,X.env.cells.lookup x=some c->H c=none
 pin:∀p∈X.pn++xC,s.heap.get? p.1=some p.2/\H p.1=none/\p.1≠X.env.locals/\p.1∉X.fs/\∀v,p.2.data≠ .cell v
 hok:HOk X.prog X.w H s.heap
 len:σ.length=X.N.length
section
variable{X:Cx}{xC:xG}{σ:List (Option V)}{H H':Hp}{s:Shared}{h':Heap}
def Cx.Ok.nofr(ok:X.Ok){b:Addr}{o:Obj}(e:X.base.get? b=some o):b∉X.fs:=λhb=>by
 have:=(ok.funs.mem hb).1;rw[e]at this;cases this
theorem Inv.bs(I:Inv X xC σ H s):∀b o,X.base.get? b=some o->s.heap.get? b=some o/\H b=none:=λb o e=>
 ⟨I.base.keep b o (I.ok.bs b o e).1 (I.ok.bs b o e).2 (I.ok.nofr e) (I.ok.noex b o e),I.base.free b o (I.ok.bs b o e).1 (I.ok.bs b o e).2 (I.ok.noex b o e)⟩
def Inv.bk(I:Inv X xC σ H s):∀b o,X.base.get? b=some o->s.heap.get? b=some o:=λb o e=>(I.bs b o e).1
theorem Inv.mod(I:Inv X xC σ H s):Mod X.K X.mg X.base:=I.ok.mod
def Inv.kIn(I:Inv X xC σ H s):X.K.In s.heap:=I.ok.mod.kin.keeps I.bk
theorem Inv.lt(I:Inv X xC σ H s):X.env.locals < s.heap.objs.size:=let ⟨_,hn,_⟩:=I.loc;hn.lt
def Inv.sz(I:Inv X xC σ H s):X.s₀.heap.objs.size<=s.heap.objs.size:=z3d I.ok.above (z3a I.lt)
def Inv.nofs(I:Inv X xC σ H s){a:Addr}(h:s.heap.objs.size<=a):a∉X.fs:=λhb=>by
 obtain⟨_,o,ho,_⟩:=I.ok.funs.mem hb;exact absurd (z1e (z3b ho) (z3d I.sz h)) (z34 _)
def Inv.cne(I:Inv X xC σ H s):∀x c,X.env.cells.lookup x=some c->c≠X.env.locals:=λx c e z=>by
 obtain⟨v,o,ho,hd⟩:=I.cell x c e;obtain⟨m,⟨o',es,ep,O,J,_⟩,_⟩:=I.loc;rw[z,O]at ho;cases ho;rw[J]at hd;cases hd
theorem Inv.funs(I:Inv X xC σ H s):s.heap.FunFrames X.base X.outer:=by
 have all:∀(l:List Env),(∀b∈frs l,b∈X.fs)->X.s₀.heap.FunFrames X.base l->s.heap.FunFrames X.base l:=by
  intro l
  induction l with
  | nil=>intro _ _;trivial
  | cons env r ih=>
   intro Y hl;obtain⟨hk,⟨L,o,O,hn,ho,hd⟩,hr⟩:=hl;have J:L∈X.fs:=Y L (by unfold frs;rw[List.filterMap_cons,O];exact z1c);obtain⟨sl,e⟩:=I.base.slot L o ho (I.ok.frf L J) J λz=>I.ok.exfs L z J;exact⟨hk,⟨L,_,O,hn,e,hd⟩,ih (λb hb=>Y b (by unfold frs;rw[List.filterMap_cons,O];exact z0v _ hb)) hr⟩
 exact all X.outer (λ_ hb=>hb) I.ok.funs
theorem Inv.stack(I:Inv X xC σ H s):s.heap.FunFrames X.base X.stack:=by
 rcases I.ok.stk with e | ⟨e,hf⟩
 ·rw[e];exact I.funs
 ·rw[e];obtain⟨m,hn,_⟩:=I.loc;refine .cons (by rw[I.ok.kind];decide) hf hn ?_ I.funs;exact Heap.get?_none_of_le (z3d I.ok.bsz I.ok.above)
def Inv.stkSub(I:Inv X xC σ H s):∀b∈frs X.stack,b∈X.env.locals::X.fs:=λb hb=>by
 rcases I.ok.stk with e | ⟨e,hf⟩
 ·rw[e]at hb;exact z0v _ hb
 ·rw[e]at hb;unfold frs at hb;rw[List.filterMap_cons,hf]at hb;exact hb
def Inv.stkFree(I:Inv X xC σ H s):∀b∈frs X.stack,H b=none:=λb hb=>by
 rcases z32.mp (I.stkSub b hb) with e | hb
 ·rw[e];exact I.free
 ·obtain⟨_,o,ho,_⟩:=I.ok.funs.mem hb;exact I.base.free b o ho (I.ok.frf b hb) λz=>I.ok.exfs b z hb
def Inv.step{g':Array GenState}{t':Nat}{d':Drawn}{ch:List Addr}(I:Inv X xC σ H s)
  (Y:∀b∈ch,(b∈X.ex\/ X.s₀.heap.objs.size<=b)/\b≠X.env.locals/\(∀x c,X.env.cells.lookup x=some c->c≠b)/\∀p∈X.pn++xC,p.1≠b)
  (keep:∀b o,b≠X.env.locals->b∉X.fs->b∉ch->s.heap.get? b=some o->H b=none->h'.get? b=some o)
  (slot:∀b o,b≠X.env.locals->b∈X.fs->b∉ch->s.heap.get? b=some o->H b=none->∃sl,h'.get? b=some {o with slots:=sl}) (free:∀b o,b∉ch->s.heap.get? b=some o->H b=none->H' b=none)
  (there:∀b o,b∉ch->s.heap.get? b=some o->∃o',h'.get? b=some o')
  (tups:∀b xs,H b=some (.tup xs)->H' b=some (.tup xs)) (frzs:∀b o u,H b=some (.frz o u)->H' b=some (.frz o u)) (tbls:∀b ps,H b=some (.tbl ps)->∃more,H' b=some (.tbl (ps++more)))
  (ns:∀m,s.heap.Ns X.env.locals m->h'.Ns X.env.locals m) (hok:HOk X.prog X.w H' h') (hg:AllBare g'):
  Inv X xC σ H' {s with heap:=h',gens:=g',drawn:=d',toks:=t'}:=by
 have a2:∀b o,X.s₀.heap.get? b=some o->b≠X.env.locals:=λb o e=>z3c (z1e (z3b e) I.ok.above);have a1:∀b o,X.s₀.heap.get? b=some o->b∉X.ex->b∉ch:=λb o e J hb=>by
  rcases (Y b hb).1 with z | z
  ·exact J z
  ·exact absurd (z1e (z3b e) z) (z34 _)
 have O:∀x c,X.env.cells.lookup x=some c->∀v,s.heap.IsCell c v->h'.IsCell c v:=λx c e v ⟨o,ho,hd⟩=>by
  have Z:c∉ch:=λz=>(Y c z).2.2.1 x c e rfl;by_cases hc:c∈X.fs
  ·obtain⟨sl,q⟩:=slot c o (I.cne x c e) hc Z ho (I.freeC x c e);exact⟨_,q,hd⟩
  ·exact⟨o,keep c o (I.cne x c e) hc Z ho (I.freeC x c e),hd⟩
 refine⟨I.ok,I.os,hg,⟨λb o e n hb J=>?_,λb o e n hb J=>?_,λb o e n J=>?_,λb o e J=>?_,λb xs e=>tups b xs (I.base.tups b xs e),λb o xs e=>frzs b o xs (I.base.frzs b o xs e),λb ps e=>?_⟩,?_,λx c e=>?_,?_,λx c e=>?_,λp hp=>?_,hok,I.len⟩
 ·exact keep b o (a2 b o e) hb (a1 b o e J) (I.base.keep b o e n hb J) (I.base.free b o e n J)
 ·obtain⟨sl,e1⟩:=I.base.slot b o e n hb J;obtain⟨a3,e2⟩:=slot b _ (a2 b o e) hb (a1 b o e J) e1 (I.base.free b o e n J);exact⟨a3,e2⟩
 ·obtain⟨o',e1⟩:=I.base.there b o e J;exact free b o' (a1 b o e J) e1 (I.base.free b o e n J)
 ·obtain⟨o',e1⟩:=I.base.there b o e J;exact there b o' (a1 b o e J) e1
 ·obtain⟨m1,e1⟩:=I.base.tbls b ps e;obtain⟨m2,e2⟩:=tbls b _ e1;exact⟨m1++m2,by rw[e2,Array.append_assoc]⟩
 ·obtain⟨m,hn,hl⟩:=I.loc;refine⟨m,ns m hn,λi x v e1 e2 e3=>?_⟩;obtain⟨u,r,l⟩:=hl i x v e1 e2 e3;refine⟨u,r,?_⟩;rcases l with l | ⟨k,c,e,z⟩
  ·exact .inl l
  ·exact .inr ⟨k,c,e,O x c e _ z⟩
 ·obtain⟨v,z⟩:=I.cell x c e;exact⟨v,O x c e v z⟩
 ·obtain⟨m,⟨o,_,_,ho,_⟩,_⟩:=I.loc;exact free _ o (λz=>(Y _ z).2.1 rfl) ho I.free
 ·obtain⟨v,o,ho,hd⟩:=I.cell x c e;exact free c o (λz=>(Y c z).2.2.1 x c e rfl) ho (I.freeC x c e)
 ·obtain⟨e,n,ne,nf,d⟩:=I.pin p hp;have Z:p.1∉ch:=λz=>(Y p.1 z).2.2.2 p hp rfl;exact⟨keep p.1 p.2 ne nf Z e n,free p.1 p.2 Z e n,ne,nf,d⟩
def Inv.un{t':Nat}(I:Inv X xC σ H s)(u:Un X.fs [] H H' s.heap h')(hok:HOk X.prog X.w H' h'):Inv X xC σ H' {s with heap:=h',toks:=t'}:=by
 obtain⟨m,⟨o,es,ep,ho,r⟩,_⟩:=id I.loc;obtain⟨sl,hL⟩:=u.any ho I.free (by simp);exact I.step (g':=s.gens) (d':=s.drawn) (ch:=[]) (λ_ z=>nomatch z) (λb o _ hb _ e n=>u.keep b o e n hb (by simp)) (λb o _ hb _ e n=>u.slot b o e n hb (by simp)) (λb o _ e n=>u.free b o e n (by simp)) (λb o _ e=>u.there b o e (by simp)) u.tups u.frzs u.tbls (λm' hm=>by
  obtain⟨o',Y,O,J,r'⟩:=hm;rw[ho]at J;cases J;exact⟨_,Y,O,hL,r'⟩) hok I.bare
def Inv.call{g':Array GenState}{t':Nat}{d':Drawn}{ch:List Addr}(I:Inv X xC σ H s)(u:Un (frs X.stack) ch H H' s.heap h')(hok:HOk X.prog X.w H' h')(hg:AllBare g')
  (O:∀b∈ch,(b∈X.ex\/ X.s₀.heap.objs.size<=b)/\b≠X.env.locals/\(∀x c,X.env.cells.lookup x=some c->c≠b)/\∀p∈X.pn++xC,p.1≠b):
  Inv X xC σ H' {s with heap:=h',gens:=g',drawn:=d',toks:=t'}:=by
 obtain⟨m,⟨o,es,ep,ho,r⟩,_⟩:=id I.loc;obtain⟨sl,hL⟩:=u.any ho I.free λz=>(O _ z).2.1 rfl;exact I.step (ch:=ch) O (λb o hL hb J e n=>u.keep b o e n (λz=>(z32.mp (I.stkSub b z)).elim hL hb) J) (λb o _ _ J e n=>u.any e n J) (λb o J e n=>u.free b o e n J) (λb o J e=>u.there b o e J) u.tups u.frzs u.tbls (λm' hm=>by
  obtain⟨o',a1,Z,Y,r'⟩:=hm;rw[ho]at Y;cases Y;exact⟨_,a1,Z,hL,r'⟩) hok hg
def Inv.turned{t':Nat}{it:Addr}(I:Inv X xC σ H s)(k:∀b o,b≠it->s.heap.get? b=some o->h'.get? b=some o)(hn:H it=none)(Y:it≠X.env.locals)
  (h1:it∈X.ex\/ X.s₀.heap.objs.size<=it) (h2:∀x c,X.env.cells.lookup x=some c->c≠it) (h3:∀p∈X.pn++xC,p.1≠it):Inv X xC σ H {s with heap:=h',toks:=t'}:=by
 have O:∀b u,H b=some u->b≠it:=λb u e z=>by rw[z,hn]at e;cases e
 refine I.step (g':=s.gens) (d':=s.drawn) (ch:=[it]) (λb hb=>?_) (λb o _ _ J e _=>k b o (λz=>J (by simp[z])) e) (λb o _ _ J e _=>⟨o.slots,k b o (λz=>J (by simp[z])) e⟩) (λ_ _ _ _ n=>n)
  (λb o J e=>⟨o,k b o (λz=>J (by simp[z])) e⟩) (λ_ _ e=>e) (λ_ _ _ e=>e) (λb ps e=>⟨#[],by rw[e];simp⟩) (λm hm=>?_) (λb u e=>?_) I.bare
 ·have e:b=it:=by simpa using hb
  subst e;exact⟨h1,Y,h2,h3⟩
 ·obtain⟨o,es,ep,ho,r⟩:=hm;exact⟨o,es,ep,k _ o (Ne.symm Y) ho,r⟩
 ·refine(I.hok b u e).stay (λc v J q=>k c v ?_ q) (λ_ q=>q) λ_ _ q=>q;rcases J with z | z
  ·rw[z];exact O b u e
  ·exact O c _ z
def Inv.tok(I:Inv X xC σ H s)(t:Nat):Inv X xC σ H {s with toks:=t}:=I.un (h':=s.heap) (t':=t) Un.refl I.hok
theorem Inv.kept{t':Nat}(I:Inv X xC σ H s)(k:∀b u,s.heap.get? b=some u->h'.get? b=some u):Inv X xC σ H {s with heap:=h',toks:=t'}:=I.un (Un.kept k) (I.hok.kept k)
theorem Inv.laid{a:Addr}{o:HO}{t':Nat}(I:Inv X xC σ H s)(k:∀b u,s.heap.get? b=some u->h'.get? b=some u)(J:s.heap.objs.size<=a)(new:ObjOk X.prog X.w (upd H a o) h' a o):
  Inv X xC σ (upd H a o) {s with heap:=h',toks:=t'}:=I.un (Un.laid k J (I.hok.fresh J)) (I.hok.laid k J new)
theorem Inv.write{x e:Addr}{o:HO}{t':Nat}(I:Inv X xC σ H s)(Y:Mut (H x))(O:e=x\/ H e=some (.own x))(k:∀b u,b≠e->s.heap.get? b=some u->h'.get? b=some u)(J:∃u,h'.get? e=some u)
  (new:ObjOk X.prog X.w (upd H x o) h' x o):Inv X xC σ (upd H x o) {s with heap:=h',toks:=t'}:=I.un (Un.write Y O k J) (I.hok.write Y O k J new)
def Inv.qfq{pins':xG}(I:Inv X xC σ H s)(h:∀p∈pins',s.heap.get? p.1=some p.2/\H p.1=none/\p.1≠X.env.locals/\p.1∉X.fs/\∀v,p.2.data≠ .cell v):Inv X pins' σ H s:=
 ⟨I.ok,I.os,I.bare,I.base,I.loc,I.cell,I.free,I.freeC,λp hp=>(z2c.mp hp).elim (λz=>I.pin p (z0w _ z)) (h p),I.hok,I.len⟩
def qdo{N:xD}(hN:N.Nodup){i j:Nat}{x:Str}(a:N[i]? =some x)(b:N[j]? =some x):i=j:=by
 obtain⟨h1,e1⟩:=z06.mp a;obtain⟨h2,e2⟩:=z06.mp b;exact(List.getElem_inj hN).mp (e1.trans e2.symm)
def qof{M:Model}{A:Around}{E:xB}{i:Nat}{x:Str}{v:V}{u:Value}{Q:Unit->Shared->Prop}(I:Inv X xC σ H s)(hN:X.N.Nodup)(hi:X.N[i]? =some x)(Z:Loc X.env.scope x)(r:RelV v u)
    (h:∀s',Inv X xC (σ.set i (some v)) H s'->(∃a,Heap.SameBut a s.heap s'.heap/\(a=X.env.locals\/ X.env.cells.lookup x=some a))->Q () s') (hf:X.fn x=true\/ X.env.scope.names.lookup x=some .local:=by first | exact .inl rfl | exact .inr rfl | assumption):wpAny M A (storeName X.env x u) Q E s:=by
  obtain⟨m,hn,hl⟩:=id I.loc;have a5:(X.env.scope.kind== .class || (X.env.scope.kind== .module&&X.env.locals !=X.env.globals))=false:=by rw[I.ok.kind];rfl
  have a6:i < σ.length:=by rw[I.len];exact(z06.mp hi).1
  have cne:=I.cne;have O:∀{a:Addr} {h':Heap},(∃o,s.heap.get? a=some o/\H a=none)->Heap.SameBut a s.heap h'->HOk X.prog X.w H h':=λ{a h'} ha J b ob e=>by
    obtain⟨_,_,a1⟩:=ha;refine(I.hok b ob e).stay (λc w' Y q=>(J.2 c ?_).trans q) (λ_ q=>q) λ_ _ q=>q;rintro rfl;rcases Y with rfl | Y
    · rw[a1]at e;cases e
    · rw[a1]at Y;cases Y
  rcases Z with hk | hk
  · refine wpAny_storeName_local hk hn (λh' a9 J=>?_) a5
    obtain⟨oL,_,_,b0,_⟩:=id hn;refine h _ ⟨I.ok,I.os,I.bare,⟨λb o e n hb Z=>?_,λb o e n hb Z=>?_,I.base.free,λb o e Z=>?_,I.base.tups,I.base.frzs,I.base.tbls⟩,⟨_,a9,λj y v' e1 e2 e3=>?_⟩,λy c e=>?_,I.free,I.freeC,λp hp=>?_,O ⟨oL,b0,I.free⟩ J,by simpa using I.len⟩ ⟨_,J,.inl rfl⟩
    · exact(J.2 b (z3c (z1e (z3b e) I.ok.above))).trans (I.base.keep b o e n hb Z)
    · obtain⟨sl,e1⟩:=I.base.slot b o e n hb Z
      exact⟨sl,(J.2 b (z3c (z1e (z3b e) I.ok.above))).trans e1⟩
    · obtain⟨o',e1⟩:=I.base.there b o e Z
      exact⟨o',(J.2 b (z3c (z1e (z3b e) I.ok.above))).trans e1⟩
    · by_cases hj:j=i
      · subst hj
        rw[hi]at e1;cases e1;rw[List.getElem?_set_self a6]at e2;cases e2
        exact⟨u,r,.inl ⟨hk,by simp⟩⟩
      · rw[List.getElem?_set_ne (Ne.symm hj)]at e2
        obtain⟨u',r',q⟩:=hl j y v' e1 e2 e3;refine⟨u',r',?_⟩;rcases q with ⟨k,e⟩ | ⟨k,c,e,z⟩
        · refine .inl ⟨k,?_⟩
          have:y≠x:=λe=>hj (qdo hN e1 (e ▸ hi));simp[this,e]
        · exact .inr ⟨k,c,e,z.sameBut J (cne y c e)⟩
    · obtain⟨w',z⟩:=I.cell y c e
      exact⟨w',z.sameBut J (cne y c e)⟩
    · obtain⟨e,n,ne,nf,d⟩:=I.pin p hp
      exact⟨(J.2 p.1 ne).trans e,n,ne,nf,d⟩
  · have a2:X.fn x=true:=by
      rcases hf with z | z
      · exact z
      · rw[z]at hk;cases hk
    obtain⟨c,Y⟩:=I.ok.has x (.inl hk);obtain⟨w',z⟩:=I.cell x c Y;refine wpAny_storeName_cell I.ok.kind hk Y z (λh' a3 J=>?_);obtain⟨oc,a7,a8⟩:=id z;refine h {s with heap:=h'} ⟨I.ok,I.os,I.bare,⟨λb o e n hb Z=>?_,λb o e n hb Z=>?_,I.base.free,λb o e Z=>?_,I.base.tups,I.base.frzs,I.base.tbls⟩,⟨m,hn.sameBut J (Ne.symm (cne x c Y)),λj y v' e1 e2 e3=>?_⟩,λy c' e=>?_,I.free,I.freeC,λp hp=>?_,O ⟨oc,a7,I.freeC x c Y⟩ J,by simpa using I.len⟩ ⟨c,J,.inr Y⟩
    · exact(J.2 b (z3c (z1e (z3b e) (I.ok.cab x c a2 Y)))).trans (I.base.keep b o e n hb Z)
    · obtain⟨sl,e1⟩:=I.base.slot b o e n hb Z
      exact⟨sl,(J.2 b (z3c (z1e (z3b e) (I.ok.cab x c a2 Y)))).trans e1⟩
    · obtain⟨o',e1⟩:=I.base.there b o e Z
      exact⟨o',(J.2 b (z3c (z1e (z3b e) (I.ok.cab x c a2 Y)))).trans e1⟩
    · by_cases hj:j=i
      · subst hj
        rw[hi]at e1;cases e1;rw[List.getElem?_set_self a6]at e2;cases e2
        exact⟨u,r,.inr ⟨.inl hk,c,Y,a3⟩⟩
      · rw[List.getElem?_set_ne (Ne.symm hj)]at e2
        obtain⟨u',r',q⟩:=hl j y v' e1 e2 e3;refine⟨u',r',?_⟩;rcases q with q | ⟨k,c',e,z'⟩
        · exact .inl q
        · refine .inr ⟨k,c',e,z'.sameBut J ?_⟩
          rintro rfl;exact hj (qdo hN e1 (I.ok.inj _ _ _ e Y ▸ hi))
    · by_cases a4:c'=c
      · subst a4;exact⟨_,a3⟩
      · obtain⟨w2,z2⟩:=I.cell y c' e
        exact⟨w2,z2.sameBut J a4⟩
    · obtain⟨e,n,ne,nf,d⟩:=I.pin p hp
      refine⟨(J.2 p.1 ?_).trans e,n,ne,nf,d⟩;intro q;rw[q,a7]at e;have q':oc=p.2:=Option.some.inj e;exact d w' (by rw[<- q'];exact a8)
def qaf{M:Model}{A:Around}{E:xB}{i:Nat}{x:Str}{v:V}{u:Value}{Q:Unit->Shared->Prop}(I:Inv X xC σ H s)(hN:X.N.Nodup)(hi:X.N[i]? =some x)(hx:Loc X.env.scope x)(r:RelV v u)
  (h:∀s',Inv X xC (σ.set i (some v)) H s'->Q () s') (hf:X.fn x=true\/ X.env.scope.names.lookup x=some .local:=by first | exact .inl rfl | exact .inr rfl | assumption):wpAny M A (storeName X.env x u) Q E s:=
 qof I hN hi hx r (λs' I' _=>h s' I') hf
def Inv.call'{s':Shared}{ch:List Addr}(I:Inv X xC σ H s)(ho:s'.os=s.os)(u:Un (frs X.stack) ch H H' s.heap s'.heap)(hok:HOk X.prog X.w H' s'.heap)(hg:AllBare s'.gens)
  (J:∀b∈ch,(b∈X.ex\/ X.s₀.heap.objs.size<=b)/\b≠X.env.locals/\(∀x c,X.env.cells.lookup x=some c->c≠b)/\∀p∈X.pn++xC,p.1≠b):Inv X xC σ H' s':=by
 obtain⟨h',g',d',t',o'⟩:=s';have e:o'=s.os:=ho;subst e;exact I.call (g':=g') (t':=t') (d':=d') u hok hg J
end
abbrev XK:=Value->Option Addr->Hp->Prop
abbrev St:=List (Option V)
abbrev VK:=V->Hp->Prop
abbrev TE:=St->Hp->VK->Prop
abbrev TT:=St->Hp->(Bool->Hp->Prop)->Prop
abbrev TA:=St->Hp->(List V->Hp->Prop)->Prop
structure Ends where
 nx:St->Hp->Prop
 rt:VK
 bk:St->Hp->Prop:=λ_ _=>False
 ct:St->Hp->Prop:=λ_ _=>False
abbrev TS:=Ends->St->Hp->Prop
def EP(X:Cx)(xC:xG)(σ:St)(Q:VK)(u:Value)(s':Shared):Prop:=∃v H',Inv X xC σ H' s'/\RelV v u/\Q v H'
def TP(X:Cx)(xC:xG)(σ:St)(Q:Bool->Hp->Prop)(b:Bool)(s':Shared):Prop:=∃H',Inv X xC σ H' s'/\Q b H'
def AP(X:Cx)(xC:xG)(σ:St)(Q:List V->Hp->Prop)(us:xH)(s':Shared):Prop:=∃vs H',Inv X xC σ H' s'/\Vals vs us/\Q vs H'
def SP(X:Cx)(xC:xG)(D:Ends)(f:Flow)(s':Shared):Prop:=
 match f with
 | .next=>∃σ' H',Inv X xC σ' H' s'/\D.nx σ' H'
 | .brk=>∃σ' H',Inv X xC σ' H' s'/\D.bk σ' H'
 | .cont=>∃σ' H',Inv X xC σ' H' s'/\D.ct σ' H'
 | .ret u=>∃v σ' H',Inv X xC σ' H' s'/\RelV v u/\D.rt v H'
def PE(X:Cx)(e:Expr)(t:TE):Prop:=
 ∀(xC:xG) (s:Shared) (σ:St) (H:Hp) (Q:VK),Inv X xC σ H s->t σ H Q->wpAny (model X.prog X.w) X.A (eval e X.env) (EP X xC σ Q) X.xe s
def PT(X:Cx)(e:Expr)(t:TT):Prop:=
 ∀(xC:xG) (s:Shared) (σ:St) (H:Hp) (Q:Bool->Hp->Prop),Inv X xC σ H s->t σ H Q->wpAny (model X.prog X.w) X.A (isTrue e X.env (eval e X.env)) (TP X xC σ Q) X.xe s
def PW(X:Cx)(e:Expr)(t:TT):Prop:=
 ∀(whole:Sem Value) (xC:xG) (s:Shared) (σ:St) (H:Hp) (Q:Bool->Hp->Prop),Inv X xC σ H s->t σ H Q->wpAny (model X.prog X.w) X.A (isTrue e X.env whole) (TP X xC σ Q) X.xe s
def PW.pt{X:Cx}{e:Expr}{t:TT}(h:PW X e t):PT X e t:=h _
def PA(X:Cx)(es:List Expr)(t:TA):Prop:=
 ∀(pos:Pos) (xC:xG) (s:Shared) (σ:St) (H:Hp) (Q:List V->Hp->Prop),Inv X xC σ H s->t σ H Q->wpAny (model X.prog X.w) X.A (spliced (backTo pos (starEach es X.env))) (AP X xC σ Q) X.xe s
def PS(X:Cx)(st:Stmt)(t:TS):Prop:=
 ∀(xC:xG) (s:Shared) (σ:St) (H:Hp) (D:Ends),Inv X xC σ H s->t D σ H->wpAny (model X.prog X.w) X.A (exec st X.env) (SP X xC D) X.xe s
def PSs(X:Cx)(st:List Stmt)(t:TS):Prop:=
 ∀(xC:xG) (s:Shared) (σ:St) (H:Hp) (D:Ends),Inv X xC σ H s->t D σ H->wpAny (model X.prog X.w) X.A (execs st X.env) (SP X xC D) X.xe s
def thn{α:Type}{t:Sem α}{Q J:α->Shared->Prop}{M:Model}{A:Around}{E:xB}{s:Shared}(h:wpAny M A t Q E s)(hQ:∀a s,Q a s->J a s):wpAny M A t J E s:=z3q h hQ λ_ _ x=>x
section
variable{X:Cx}
def tVar(i:Nat):TE:=λσ H Q=>∃v,σ[i]? =some (some v)/\Q v H
def tC(v:V):TE:=λ_ H Q=>Q v H
def qvt{i:Nat}{x:Str}{pos:Pos}(hN:X.N[i]? =some x)(hv:Vis X.env.scope x)(hd:(x==("__debug__":Str))=false:=by decide)(O:(x==("__classdict__":Str))=false:=by decide):PE X (.Name x pos) (tVar i):=by
 intro xC s σ H Q I h;obtain⟨v,e,h⟩:=h;obtain⟨m,hn,hl⟩:=I.loc;obtain⟨u,r,l⟩:=hl i x v hN e hv;have fin:EP X xC σ Q u s:=⟨v,H,I,r,h⟩;rcases l with ⟨hk,hm⟩ | ⟨hk,c,Y,J⟩
 ·exact wpAny_Name (wpAny_loadName_local I.ok.kind hk hn hm fin) hd
 ·rcases hk with hk | hk
  ·exact wpAny_Name (wpAny_loadName_cell I.ok.kind hk Y J fin) hd
  ·exact wpAny_Name (wpAny_loadName_free I.ok.kind hk Y J fin O) hd
def qf{i j pos}:PE X (.Constant (.int i) j pos) (tC (.int i)):=λ_ _ _ H _ I h=>wpAny_Constant_int ⟨.int i,H,I.tok _,⟨_,rfl⟩,h⟩
def q4i{b j pos}:PE X (.Constant (.bool b) j pos) (tC (.bl b)):=λ_ _ _ H _ I h=>Constant_bool ⟨.bl b,H,I,rfl,h⟩
def q3f{j pos}:PE X (.Constant .none j pos) (tC .non):=λ_ _ _ H _ I h=>Constant_none ⟨.non,H,I,rfl,h⟩
def qbj{x j pos}:PE X (.Constant (.str x) j pos) (tC (.str x)):=λ_ _ _ H _ I h=>Calls.Constant_str ⟨.str x,H,I.tok _,⟨_,rfl⟩,h⟩
def Gl(X:Cx)(x:Str):Prop:=X.env.kindOf x=some .globalImplicit
def q7z{E:xB}{xC:xG}{s:Shared}{σ:St}{H:Hp}{x:Str}{u:Value}{pos:Pos}{Q:xB}(I:Inv X xC σ H s)(hg:Gl X x)(hm:X.mg x=some u)(h:Q u s)
  (hd:(x==("__debug__":Str))=false:=by decide):wpAny (model X.prog X.w) X.A (eval (.Name x pos) X.env) Q E s:=
 Calls.Name_function_global I.ok.kind hg (Calls.loadGlobal_global (by rw[I.ok.glob];exact I.mod.glob.keeps I.bk) hm h) hd
def q64{E:xB}{xC:xG}{s:Shared}{σ:St}{H:Hp}{x:Str}{u:Value}{pos:Pos}{Q:xB}(I:Inv X xC σ H s)(hg:Gl X x)(hm:X.mg x=none)(hv:bootBuiltins x=some u)(h:Q u s)
  (hn:x≠"__name__":=by decide) (hd:(x==("__debug__":Str))=false:=by decide):wpAny (model X.prog X.w) X.A (eval (.Name x pos) X.env) Q E s:=by
 obtain⟨mb,h1,h2⟩:=I.mod.blt;exact Calls.Name_function_global I.ok.kind hg (Calls.loadGlobal_builtin (by rw[I.ok.glob];exact I.mod.glob.keeps I.bk) hm (by rw[I.ok.blt];exact h1.keeps I.bk) ((h2 x hn).trans hv) h) hd
def qfr{x:Str}{v:V}{u:Value}{pos:Pos}(hg:Gl X x)(hm:X.mg x=some u)(r:RelV v u)(hd:(x==("__debug__":Str))=false:=by decide):PE X (.Name x pos) (tC v):=
 λ_ _ _ H _ I h=>q7z I hg hm ⟨v,H,I,r,h⟩ hd
def qtb{x:Str}{v:V}{u:Value}{pos:Pos}(hg:Gl X x)(hm:X.mg x=none)(hv:bootBuiltins x=some u)(r:RelV v u)(hn:x≠"__name__":=by decide)(hd:(x==("__debug__":Str))=false:=by decide):PE X (.Name x pos) (tC v):=
 λ_ _ _ H _ I h=>q64 I hg hm hv ⟨v,H,I,r,h⟩ hn hd
variable{a b:Expr}{ta tb:TE}{pos:Pos}
def PC(X:Cx)(op:CmpOp)(a b:Expr)(t:TE):Prop:=
 ∀(xC:xG) (s:Shared) (σ:St) (H:Hp) (Q:VK),Inv X xC σ H s->t σ H Q->
  wpAny (model X.prog X.w) X.A (eval a X.env) (λv s₁=>wpAny (model X.prog X.w) X.A (eval b X.env) (λu s₂=>wpAny (model X.prog X.w) X.A (compareOp op v u) (EP X xC σ Q) X.xe s₂) X.xe s₁) X.xe s
def tB(t:TE):TT:=λσ H Q=>t σ H λx H1=>∃c,x= .bl c/\Q c H1
def q65{op:CmpOp}{t:TE}(h:PC X op a b t)(h1:behindInMarks op b=false:=by first | exact nobehind _ (by decide) (by decide) | rfl):PT X (.Compare a [op] [b] pos) (tB t):=by
 intro xC s σ H Q I hw;refine wpAny_isTrue_Compare1 (thn (h xC s σ H _ I hw) λv s1 h1=>thn h1 λu s2 h2=>thn h2 λc s3 J=>?_) h1;obtain⟨x,H1,I1,r1,q1⟩:=J;obtain⟨d,rfl,q⟩:=q1;cases r1
 exact z1o ⟨H1,I1,q⟩
def q1z{e:Expr}{t:TE}(h:PE X e t)(he:∀J,isTrue e X.env J=(do let v <- J;standAt e.pos;holding [v] (truthy v)):=by intro _;rfl):PT X e (tB t):=by
 intro xC s σ H Q I hw;refine isTrue_plain (thn (h xC s σ H _ I hw) λv s1 O=>?_) (he _);obtain⟨x,H1,I1,r1,q1⟩:=O;obtain⟨d,rfl,q⟩:=q1;cases r1
 exact z1o ⟨H1,I1,q⟩
variable{tA tB':TT}{rest:List Expr}
def tAnd(t u:TT):TT:=λσ H Q=>t σ H λc H1=>if c=true then u σ H1 Q else Q false H1
def tOr(t u:TT):TT:=λσ H Q=>t σ H λc H1=>if c=true then Q true H1 else u σ H1 Q
def tNot(t:TT):TT:=λσ H Q=>t σ H λc H1=>Q (!c) H1
def qls(ha:PT X a tA):PW X (.BoolOp .And [a] pos) tA:=by
 intro wh xC s σ H Q I h;refine isTrue_and (thn (ha xC s σ H Q I h) λc s1 e=>?_);cases c with
 | true=>exact isTrue_and_nil e
 | false=>exact e
def q9z(ha:PT X a tA):PW X (.BoolOp .Or [a] pos) tA:=by
 intro wh xC s σ H Q I h;refine isTrue_or (thn (ha xC s σ H Q I h) λc s1 e=>?_);cases c with
 | false=>exact isTrue_or_nil e
 | true=>exact e
def qog(ha:PT X a tA)(hb:PW X (.BoolOp .And (b::rest) pos) tB'):PW X (.BoolOp .And (a::b::rest) pos) (tAnd tA tB'):=by
 intro wh xC s σ H Q I h;refine isTrue_and (thn (ha xC s σ H _ I h) λc s1 J=>?_);obtain⟨H1,I1,q1⟩:=J;cases c with
 | true=>exact hb wh xC s1 σ H1 Q I1 q1
 | false=>exact⟨H1,I1,q1⟩
def qag(ha:PT X a tA)(hb:PW X (.BoolOp .Or (b::rest) pos) tB'):PW X (.BoolOp .Or (a::b::rest) pos) (tOr tA tB'):=by
 intro wh xC s σ H Q I h;refine isTrue_or (thn (ha xC s σ H _ I h) λc s1 J=>?_);obtain⟨H1,I1,q1⟩:=J;cases c with
 | true=>exact⟨H1,I1,q1⟩
 | false=>exact hb wh xC s1 σ H1 Q I1 q1
def q33(ha:PT X a tA):PT X (.UnaryOp .Not a pos) (tNot tA):=by
 intro xC s σ H Q I h;exact isTrue_not (ha xC s σ H (λc H1=>Q (!c) H1) I h)
def qxk(ta tb:TE):TE:=λσ H Q=>ta σ H λx H1=>∃c,x= .bl c/\if c=true then tb σ H1 Q else Q (.bl false) H1
def tOrV(ta tb:TE):TE:=λσ H Q=>ta σ H λx H1=>∃c,x= .bl c/\if c=true then Q (.bl true) H1 else tb σ H1 Q
def qxl(ta:TE):TE:=λσ H Q=>ta σ H λx H1=>∃c,x= .bl c/\Q (.bl (!c)) H1
def q3q{op}{t:TE}(h:PE X a t):PE X (.BoolOp op [a] pos) t:=λxC s σ H Q I hw=>BoolOp_one (h xC s σ H Q I hw)
def q46(ha:PE X a ta)(hb:PE X (.BoolOp .And (b::rest) pos) tb):PE X (.BoolOp .And (a::b::rest) pos) (qxk ta tb):=by
 intro xC s σ H Q I h;refine BoolOp_and (thn (ha xC s σ H _ I h) λv s1 J=>?_);obtain⟨x,H1,I1,r1,q1⟩:=J;obtain⟨c,rfl,q1⟩:=q1;cases r1
 refine z1o ?_;cases c with
 | true=>exact hb xC s1 σ H1 Q I1 q1
 | false=>exact⟨.bl false,H1,I1,rfl,q1⟩
def qmq(ha:PE X a ta)(hb:PE X (.BoolOp .Or (b::rest) pos) tb):PE X (.BoolOp .Or (a::b::rest) pos) (tOrV ta tb):=by
 intro xC s σ H Q I h;refine BoolOp_or (thn (ha xC s σ H _ I h) λv s1 J=>?_);obtain⟨x,H1,I1,r1,q1⟩:=J;obtain⟨c,rfl,q1⟩:=q1;cases r1
 refine z1o ?_;cases c with
 | false=>exact hb xC s1 σ H1 Q I1 q1
 | true=>exact⟨.bl true,H1,I1,rfl,q1⟩
def qvu(ha:PE X a ta):PE X (.UnaryOp .Not a pos) (qxl ta):=by
 intro xC s σ H Q I h;refine UnaryOp_ (thn (ha xC s σ H _ I h) λv s1 J=>?_);obtain⟨x,H1,I1,r1,q1⟩:=J;obtain⟨c,rfl,q1⟩:=q1;cases r1
 exact not_of (z1o ⟨.bl (!c),H1,I1,zr,q1⟩)
def tIf(t:TT)(ta tb:TE):TE:=λσ H Q=>t σ H λc H1=>if c=true then ta σ H1 Q else tb σ H1 Q
def qah{c:Expr}(hc:PT X c tA)(ha:PE X a ta)(hb:PE X b tb):PE X (.IfExp c a b pos) (tIf tA ta tb):=by
 intro xC s σ H Q I h;refine wpAny_IfExp (thn (hc xC s σ H _ I h) λd s1 J=>?_);obtain⟨H1,I1,q1⟩:=J;cases d with
 | true=>exact ha xC s1 σ H1 Q I1 q1
 | false=>exact hb xC s1 σ H1 Q I1 q1
end
def SqL(K:xA)(H:Hp)(a:Addr)(xs:List V):Prop:=
 Rd H a (.lst xs)\/
  ∃(o:Obj) (its:Array Value) (n:Nat),K.lookup a=some o/\o.cls= .type "list"/\o.dict=none/\o.data= .seq its n/\its.size<=sizeLine/\Vals xs its.toList
def SqT(K:xA)(H:Hp)(a:Addr)(xs:List V):Prop:=
 Rd H a (.tup xs)\/
  ∃(o:Obj) (its:Array Value) (n:Nat),K.lookup a=some o/\o.cls= .type "tuple"/\o.data= .seq its n/\its.size<=sizeLine/\Vals xs its.toList
def absV:Value->Option V
 | .none=>some .non
 | .bool b=>some (.bl b)
 | .int i _=>some (.int i)
 | .str x _=>some (.str x)
 | .bytes b _=>some (.byt b)
 | .float b _=>some (.flt b)
 | .ref a=>some (.ref a)
 | .type n=>some (.ty n)
 | _=>none
def RelV.abs{x:V}{u:Value}(r:RelV x u):absV u=some x:=by
 cases x with
 | non=>cases r;rfl
 | bl _=>cases r;rfl
 | int _=>obtain⟨t,rfl⟩:=r;rfl
 | str _=>obtain⟨t,rfl⟩:=r;rfl
 | byt _=>obtain⟨t,rfl⟩:=r;rfl
 | flt _=>obtain⟨t,rfl⟩:=r;rfl
 | ref _=>cases r;rfl
 | ty _=>cases r;rfl
theorem RelV.inj{x y:V}{u:Value}(r:RelV x u)(q:RelV y u):x=y:=Option.some.inj (r.abs.symm.trans q.abs)
theorem Vals.inj:∀{xs ys:List V} {us:xH},Vals xs us->Vals ys us->xs=ys
 | _,_,_,.nil,.nil=>rfl
 | _,_,_,.cons r t,.cons r' t'=>by rw[r.inj r',Vals.inj t t']
section
variable{X:Cx}{xC:xG}{σ:St}{H:Hp}{s:Shared}{a:Addr}{xs ys:List V}
def SqL.of{K:xA}(h:H a=some (.lst xs)):SqL K H a xs:= .inl (.inl h)
def SqT.of{K:xA}(h:H a=some (.tup xs)):SqT K H a xs:= .inl (.inl h)
def Inv.list(I:Inv X xC σ H s)(h:SqL X.K H a xs):∃its:List Value,Vals xs its/\PlainL s.heap a its.toArray/\xs.length<=sizeLine:=by
 rcases h with h | ⟨o,its,n,hk,hc,hd,hs,hz,r⟩
 ·obtain⟨z,its,n,r,e⟩:=h.ok I.hok;exact⟨its,r,⟨_,n,e,zr,zr,zr⟩,z⟩
 ·refine⟨its.toList,r,⟨o,n,I.kIn a o hk,hc,hd,by simpa using hs⟩,?_⟩;have e:=r.length;simp only[z0y]at e
  lia
def Inv.tuple(I:Inv X xC σ H s)(h:SqT X.K H a xs):∃its:List Value,Vals xs its/\IsTup s.heap a its.toArray/\xs.length<=sizeLine:=by
 rcases h with h | ⟨o,its,n,hk,hc,hs,hz,r⟩
 ·obtain⟨z,its,r,p⟩:=h.ok I.hok;exact⟨its,r,p,z⟩
 ·refine⟨its.toList,r,⟨o,I.kIn a o hk,hc,n,by simpa using hs⟩,?_⟩;have e:=r.length;simp only[z0y]at e
  lia
def Inv.qio(I:Inv X xC σ H s)(h:SqL X.K H a xs)(h':SqL X.K H a ys):xs=ys:=by
 obtain⟨its,r,⟨o,n,e,_,_,d⟩,_⟩:=I.list h;obtain⟨its',r',⟨o',n',e',_,_,d'⟩,_⟩:=I.list h';rw[e]at e';cases e';rw[d]at d';injection d' with d1 _;have:its=its':=by simpa using congrArg Array.toList d1
 subst this;exact r.inj r'
def Inv.q90(I:Inv X xC σ H s)(h:SqT X.K H a xs)(h':SqT X.K H a ys):xs=ys:=by
 obtain⟨its,r,⟨o,e,_,n,d⟩,_⟩:=I.tuple h;obtain⟨its',r',⟨o',e',_,n',d'⟩,_⟩:=I.tuple h';rw[e]at e';cases e';rw[d]at d';injection d' with d1 _;have:its=its':=by simpa using congrArg Array.toList d1
 subst this;exact r.inj r'
end
abbrev Cx.wish(X:Cx)(E:xB):Cx:={X with xe:=E}
abbrev Cx.nox(X:Cx):Cx:=X.wish λ_ _=>False
theorem Cx.Ok.wish{X:Cx}(ok:X.Ok)(E:xB):(X.wish E).Ok:=
 ⟨ok.mod,ok.kind,ok.glob,ok.blt,ok.above,ok.inj,ok.has,ok.cab,ok.hd,ok.frames,ok.stk,ok.exf,ok.bs,ok.bsz,ok.noex,ok.exfs,ok.funs,ok.frf⟩
def Cx.Ok.unwish{X:Cx}{E:xB}(ok:(X.wish E).Ok):X.Ok:=
 ⟨ok.mod,ok.kind,ok.glob,ok.blt,ok.above,ok.inj,ok.has,ok.cab,ok.hd,ok.frames,ok.stk,ok.exf,ok.bs,ok.bsz,ok.noex,ok.exfs,ok.funs,ok.frf⟩
section
variable{X:Cx}{xC:xG}{σ:St}{H:Hp}{s:Shared}{E:xB}
theorem Inv.wish(I:Inv X xC σ H s)(E:xB):Inv (X.wish E) xC σ H s:=⟨I.ok.wish E,I.os,I.bare,I.base,I.loc,I.cell,I.free,I.freeC,I.pin,I.hok,I.len⟩
theorem Inv.unwish(I:Inv (X.wish E) xC σ H s):Inv X xC σ H s:=⟨I.ok.unwish,I.os,I.bare,I.base,I.loc,I.cell,I.free,I.freeC,I.pin,I.hok,I.len⟩
theorem SP.unwish{D:Ends}{f:Flow}{s':Shared}(h:SP (X.wish E) xC D f s'):SP X xC D f s':=by
 cases f with
 | next=>obtain⟨σ',H',I,q⟩:=h;exact⟨σ',H',I.unwish,q⟩
 | brk=>obtain⟨σ',H',I,q⟩:=h;exact⟨σ',H',I.unwish,q⟩
 | cont=>obtain⟨σ',H',I,q⟩:=h;exact⟨σ',H',I.unwish,q⟩
 | ret u=>obtain⟨v,σ',H',I,r,q⟩:=h;exact⟨v,σ',H',I.unwish,r,q⟩
theorem PSs.nox{st:List Stmt}{t:TS}(h:PSs X.nox st t):PSs X st t:=λxC s σ H D I hw=>
 z3q (h xC s σ H D (I.wish _) hw) (λ_ _ q=>q.unwish) λ_ _ z=>False.elim z
end
section
variable{X:Cx}{st:Stmt}{rest:List Stmt}{t u:TS}{e:Expr}{te:TE}{pos:Pos}
def qsq:TS:=λD σ H=>D.nx σ H
def tSeq(t u:TS):TS:=λD σ H=>t {D with nx:=u D} σ H
def qx:PSs X [] qsq:=λ_ _ σ H _ I h=>wpAny_execs_nil ⟨σ,H,I,h⟩
def qu(h1:PS X st t)(h2:PSs X rest u):PSs X (st::rest) (tSeq t u):=by
 intro xC s σ H D I h;refine wpAny_execs_cons (thn (h1 xC s σ H {D with nx:=u D} I h) λf s1 q=>?_);cases f with
 | next=>
  obtain⟨σ',H',I',q⟩:=q;exact h2 xC s1 σ' H' D I' q
 | ret v=>exact q
 | brk=>exact q
 | cont=>exact q
def qg(h1:PS X st t):PSs X [st] t:=by
 intro xC s σ H D I h;refine wpAny_execs_cons (thn (h1 xC s σ H D I h) λf s1 q=>?_);cases f with
 | next=>exact wpAny_execs_nil q
 | ret v=>exact q
 | brk=>exact q
 | cont=>exact q
def Inv.quiet{xC:xG}{σ:St}{H:Hp}{s:Shared}(I:Inv X xC σ H s):interactive X.env=false:=by simp[interactive,I.ok.kind]
def qxm(te:TE):TS:=λD σ H=>te σ H λ_ H1=>D.nx σ H1
def q1g(he:PE X e te)(hs:swapsWith e none pos.line X.env=pure false:=by rfl):PS X (.Expr e pos) (qxm te):=by
 intro xC s σ H D I h;exact wpAny_Expr_any (thn (he xC s σ H _ I h) λv s1 ⟨x,H1,I1,r1,q1⟩=>⟨σ,H1,I1,q1⟩) I.quiet hs
def tRet(te:TE):TS:=λD σ H=>te σ H D.rt
def qj(he:PE X e te):PS X (.Return (some e) pos) (tRet te):=by
 intro xC s σ H D I h;exact wpAny_Return_some (thn (he xC s σ H _ I h) λv s1 ⟨x,H1,I1,r1,q1⟩=>⟨x,σ,H1,I1,r1,q1⟩)
def tIfS(c:TT)(t u:TS):TS:=λD σ H=>c σ H λb H1=>if b=true then t D σ H1 else u D σ H1
def q18{c:Expr}{a b:List Stmt}{tc:TT}(hc:PT X c tc)(ha:PSs X a t)(hb:PSs X b u):PS X (.If c a b pos) (tIfS tc t u):=by
 intro xC s σ H D I h;refine wpAny_If (thn (hc xC s σ H _ I h) λd s1 J=>?_);obtain⟨H1,I1,q1⟩:=J;cases d with
 | true=>exact ha xC s1 σ H1 D I1 q1
 | false=>exact hb xC s1 σ H1 D I1 q1
end
abbrev TG:=V->St->Hp->(St->Hp->Prop)->Prop
abbrev TGs:=List V->St->Hp->(St->Hp->Prop)->Prop
def PG(X:Cx)(target:Expr)(t:TG):Prop:=
 ∀(xC:xG) (s:Shared) (σ:St) (H:Hp) (v:V) (u:Value) (Q:St->Hp->Prop),Inv X xC σ H s->RelV v u->t v σ H Q->
  wpAny (model X.prog X.w) X.A (assign target X.env u) (λ_ s'=>∃σ' H',Inv X xC σ' H' s'/\Q σ' H') X.xe s
def PGs(X:Cx)(ts:List Expr)(t:TGs):Prop:=
 ∀(xC:xG) (s:Shared) (σ:St) (H:Hp) (vs:List V) (us:xH) (Q:St->Hp->Prop),Inv X xC σ H s->Vals vs us->t vs σ H Q->
  wpAny (model X.prog X.w) X.A (assignInOrder ((assignEach ts X.env).map (·.2)) us) (λ_ s'=>∃σ' H',Inv X xC σ' H' s'/\Q σ' H') X.xe s
section
variable{X:Cx}{pos:Pos}
def qeg(i:Nat):TG:=λv σ H Q=>Q (σ.set i (some v)) H
def qi{i:Nat}{x:Str}(hN:X.N.Nodup)(hi:X.N[i]? =some x)(hx:Loc X.env.scope x)(hf:X.fn x=true\/ X.env.scope.names.lookup x=some .local:=by first | exact .inl rfl | exact .inr rfl | assumption):PG X (.Name x pos) (qeg i):=by
 intro xC s σ H v u Q I r h;exact wpAny_assign_Name (qaf I hN hi hx r (λs' I'=>⟨_,H,I',h⟩) hf)
def gNil:TGs:=λvs σ H Q=>vs=[]/\Q σ H
def qxn(t:TG)(u:TGs):TGs:=λvs σ H Q=>∃v r,vs=v::r/\t v σ H λσ' H'=>u r σ' H' Q
def q1w:PGs X [] gNil:=by
 intro xC s σ H vs us Q I r h;obtain⟨e,h⟩:=h;subst e;cases r
 exact assignInOrder_nil ⟨σ,H,I,h⟩
def qv{e:Expr}{es:List Expr}{t:TG}{u:TGs}(h1:PG X e t)(h2:PGs X es u)
  (hs:(assignEach (e::es) X.env).map (·.2)=assign e X.env::(assignEach es X.env).map (·.2):=by rfl):PGs X (e::es) (qxn t u):=by
 intro xC s σ H vs us Q I r h;obtain⟨v,vr,e1,h⟩:=h;subst e1;cases r with
 | cons r rr=>
  rw[hs];refine assignInOrder_cons (thn (h1 xC s σ H _ _ _ I r h) λ_ s1 J=>?_);obtain⟨σ1,H1,I1,q1⟩:=J;exact h2 xC s1 σ1 H1 _ _ Q I1 rr q1
def gTup(K:xA)(n:Nat)(t:TGs):TG:=λv σ H Q=>∃a xs,v= .ref a/\SqT K H a xs/\xs.length=n/\t xs σ H Q
def q3g{es:List Expr}{k:Nat}{t:TGs}{n:Nat}(hc:X.calm=true)(h:PGs X es t)
  (hn:(assignEach es X.env).length=n:=by rfl) (J:(assignEach es X.env).findIdx? (·.1)=none:=by rfl):PG X (.Tuple es k pos) (gTup X.K n t):=by
 intro xC s σ H v u Q I r hw;obtain⟨a,xs,e1,hq,hl,hw⟩:=hw;subst e1;cases r
 obtain⟨its,rv,ht,hz⟩:=I.tuple hq;refine assign_Tuple_tuple (I.ok.hd hc) ht (by simp[hn,<- hl,rv.length]) J λh' hx=>?_;have I1:Inv X xC σ H {s with heap:=h'}:=I.kept (t':=s.toks) λb o e=>hx b o (z3c (z3b e)) e;exact h xC _ σ H xs _ Q I1 (by simpa using rv) hw
def tAsg(te:TE)(g:TG):TS:=λD σ H=>te σ H λx H1=>g x σ H1 D.nx
def qvv{tg e:Expr}{te:TE}{g:TG}(he:PE X e te)(hg:PG X tg g)(hs:swapsWithSole [tg] e pos.line X.env=pure false:=by rfl)(hw:swappedStores [tg] e X.env=pure none:=by rfl)
  (h1:(assignEach [tg] X.env).map (·.2)=[assign tg X.env]:=by rfl):PS X (.Assign [tg] e pos) (tAsg te g):=by
 intro xC s σ H D I h;refine wpAny_Assign_stores (thn (he xC s σ H _ I h) λv s1 J=>?_) hs hw;obtain⟨x,H1,I1,r1,q1⟩:=J;rw[h1];exact thn (hg xC s1 σ H1 x v _ I1 r1 q1) λ_ s2 q=>q
def qm{i:Nat}{x:Str}{e:Expr}{te:TE}{pos':Pos}(hN:X.N.Nodup)(hi:X.N[i]? =some x)(hx:Loc X.env.scope x)(he:PE X e te)(hs:swapsWith e (some (.Name x pos')) pos.line X.env=pure false:=by rfl)(hf:X.fn x=true\/ X.env.scope.names.lookup x=some .local:=by first | exact .inl rfl | exact .inr rfl | assumption):
  PS X (.Assign [.Name x pos'] e pos) (tAsg te (qeg i)):=by
 intro xC s σ H D I h;refine wpAny_Assign_Name (thn (he xC s σ H _ I h) λv s1 J=>?_) hs;obtain⟨y,H1,I1,r1,q1⟩:=J;exact qaf I1 hN hi hx r1 (λs2 I2=>⟨_,H1,I2,q1⟩) hf
end
section
variable{X:Cx}{pos:Pos}
def qvw(c:TT)(tb:TS):TS:=λD σ H=>∃W:Nat->St->Hp->Prop,(∃m,W m σ H)/\∀m σ H,W m σ H->
 c σ H λb H1=>if b=true then ∃N:St->Hp->Prop,(∀σ' H',N σ' H'->∃m',m' < m/\W m' σ' H')/\tb {D with nx:=N,ct:=N,bk:=D.nx} σ H1 else D.nx σ H1
def qip{c:Expr}{body:List Stmt}{tc:TT}{tb:TS}(hp:PassesOwn (model X.prog X.w) X.A X.env X.xe)(hc:PT X c tc)(hb:PSs X body tb):PS X (.While c body [] pos) (qvw tc tb):=by
 intro xC s σ H D I h;obtain⟨W,⟨m0,w0⟩,turn⟩:=h;refine wpAny_While (codeAny_whileLoop (λn s'=>∃σ' H',Inv X xC σ' H' s'/\W n σ' H') ?_ m0 ⟨σ,H,I,w0⟩);rintro n s1 ⟨σ1,H1,I1,w1⟩;refine z2f hp (thn (hc xC s1 σ1 H1 _ I1 (turn n σ1 H1 w1)) λb s2 Z=>?_);obtain⟨H2,I2,q2⟩:=Z;cases b with
 | true=>
  obtain⟨N,hN,q2⟩:=q2;rw[if_pos rfl];refine z2f hp (thn (hb xC s2 σ1 H2 _ I2 q2) λf s3 q3=>?_);cases f with
  | next=>
   obtain⟨σ3,H3,I3,O⟩:=q3;obtain⟨J,hm,Y⟩:=hN σ3 H3 O;exact⟨J,hm,σ3,H3,I3,Y⟩
  | cont=>
   obtain⟨σ3,H3,I3,O⟩:=q3;obtain⟨J,hm,Y⟩:=hN σ3 H3 O;exact⟨J,hm,σ3,H3,I3,Y⟩
  | brk=>exact q3
  | ret v=>exact q3
 | false=>
  rw[if_neg z19];exact wpAny_execs_nil ⟨σ1,H2,I2,q2⟩
end
structure It where
 go:Nat->Hp->Prop
 yld:Nat->Hp->V->Hp->Prop
 stop:Nat->Hp->Prop
def FpOk(X:Cx)(xC:xG)(H:Hp)(b:Addr):Prop:=
 H b=none/\b≠X.env.locals/\b∉X.fs/\(b∈X.ex\/ X.s₀.heap.objs.size<=b)/\(∀x c,X.env.cells.lookup x=some c->c≠b)/\∀p∈X.pn++xC,p.1≠b
def Inv.fpOk{X:Cx}{xC:xG}{σ:St}{H H':Hp}{s:Shared}{b:Addr}(I:Inv X xC σ H s)(hb:s.heap.objs.size<=b)(hn:H' b=none):FpOk X xC H' b:=by
 refine⟨hn,z3e (z1e I.lt hb),I.nofs hb,.inr (z3d I.sz hb),λx c e z=>?_,λp hp z=>?_⟩
 ·obtain⟨v,q⟩:=I.cell x c e;exact absurd (z1e q.lt (by rw[z];exact hb)) (z34 _)
 ·exact absurd (z1e (z3b (I.pin p hp).1) (by rw[z];exact hb)) (z34 _)
structure Turn (P:Program) (w:World) (K:xA) (tg:Expr) (J:It) (fp:List Addr) (it:Addr) (tn:Nat->Heap->Prop):Prop where
 mem:it∈fp
 obj:∀i h,tn i h->∀b∈fp,∃o,h.get? b=some o/\∀v,o.data≠ .cell v
 keep:∀i h h',tn i h->(∀b∈fp,∀o,h.get? b=some o->h'.get? b=some o)->tn i h'
 item:∀(X:Cx),X.prog=P->X.w=w->X.K=K->X.calm=true->∀(i:Nat) (xC:xG) (s:Shared) (σ:St) (H:Hp) (E:xB),Inv X xC σ H s->(∀b∈fp,FpOk X xC H b)->tn i s.heap->J.go i H->
  wpAny (model P w) X.A (pyNext (.ref it)) (λr s1=>∃u,r=some u/\
   wpAny (model P w) X.A (letOwnedTupleGo tg (.ref it) u) (λ_ s2=>∃x H',Inv X xC σ H' s2/\RelV x u/\J.yld i H x H'/\tn (i+1) s2.heap/\∀b∈fp,H' b=none) E s1) E s
 done:∀(X:Cx),X.prog=P->X.w=w->X.K=K->X.calm=true->∀(i:Nat) (xC:xG) (s:Shared) (σ:St) (H:Hp) (E:xB),Inv X xC σ H s->(∀b∈fp,FpOk X xC H b)->tn i s.heap->J.stop i H->
  wpAny (model P w) X.A (pyNext (.ref it)) (λr s1=>r=none/\Inv X xC σ H s1) E s
 self:∀(A:Around) (i:Nat) (s:Shared) (Q:xB) (E:xB),tn i s.heap->Q (.ref it) s->wpAny (model P w) A (pyIter (.ref it)) Q E s
abbrev TI:=St->Hp->(It->Hp->Prop)->Prop
def PIE(X:Cx)(xC:xG)(σ:St)(tg:Expr)(R:It->Hp->Prop)(itv:Value)(s2:Shared):Prop:=
 ∃(it:Addr) (fp:List Addr) (tn:Nat->Heap->Prop) (J:It) (H':Hp),itv= .ref it/\Inv X xC σ H' s2/\Turn X.prog X.w X.K tg J fp it tn/\tn 0 s2.heap/\(∀b∈fp,FpOk X xC H' b)/\R J H'
def PI(X:Cx)(tg iter:Expr)(wi:TI):Prop:=
 ∀(xC:xG) (s:Shared) (σ:St) (H:Hp) (R:It->Hp->Prop),Inv X xC σ H s->wi σ H R->
  wpAny (model X.prog X.w) X.A (eval iter X.env) (λv s1=>wpAny (model X.prog X.w) X.A (pyIter v) (PIE X xC σ tg R) X.xe s1) X.xe s
def qmr{M:Model}{A:Around}{E:xB}{s:Shared}{tg:Expr}{it:Addr}{u:Value}{o:Obj}{n:String}{vs:Array Value}{Q:Unit->Shared->Prop}(ho:s.heap.get? it=some o)(hc:o.cls= .type n)(hd:o.data= .fields vs)
    (hn: ["enumerate","zip","dict_itemiterator","dict_reverseitemiterator","odict_iterator","itertools.zip_longest","itertools.pairwise"].contains n=false) (J:Q () s):wpAny M A (letOwnedTupleGo tg (.ref it) u) Q E s:=by
  unfold letOwnedTupleGo;cases tg <;> first
    | exact z3o J
    | (cases u <;> first
        | exact z3o J
        | (refine z3p (wpAny_load ho ?_)
           rw[hc,hd];show wpAny M A (if (["enumerate","zip","dict_itemiterator","dict_reverseitemiterator","odict_iterator","itertools.zip_longest","itertools.pairwise"].contains n&&vs[0]? ==some (rawInt _))=true then _ else _) Q E s;rw[if_neg (by intro h;rw[hn,z2u]at h;cases h)];exact z3o J))
def Itl(K:xA)(a:Addr):It:=
 ⟨λi H=>∃xs x,SqL K H a xs/\xs[i]? =some x,λi H x H'=>H'=H/\∀xs,SqL K H a xs->xs[i]? =some x,λi H=>∃xs,SqL K H a xs/\xs.length<=i⟩
def Itt(K:xA)(a:Addr):It:=
 ⟨λi H=>∃xs x,SqT K H a xs/\xs[i]? =some x,λi H x H'=>H'=H/\∀xs,SqT K H a xs->xs[i]? =some x,λi H=>∃xs,SqT K H a xs/\xs.length<=i⟩
def Itr(lo:Int)(n:Nat):It:=⟨λi _=>i < n,λi H x H'=>H'=H/\x= .int (lo+i),λi _=>n<=i⟩
def qoh{P:Program}{w:World}{K:xA}{tg:Expr}(a it:Addr):Turn P w K tg (Itl K a) [it] it (λi h=>h.IsListIter it a i) where
 mem:=by simp
 obj:=λi h st b hb=>by
  have e:b=it:=by simpa using hb
  subst e;obtain⟨o,e,c,d⟩:=st;exact⟨o,e,λv z=>by rw[d]at z;cases z⟩
 keep:=λi h h' st k=>st.at λo e=>k it (by simp) o e
 item:=by
  intro X hP hw Z hc i xC s σ H E I O st hg;subst hP hw Z;obtain⟨xs,x,hq,hx⟩:=hg;obtain⟨its,rv,p,hz⟩:=I.list hq;obtain⟨u,hu,ru⟩:=rv.get hx;obtain⟨Y,f1,f2,f3,f4,f5⟩:=O it (by simp);refine wpAny_pyNext_list_item st p.isList (x:=u) (by simpa using hu) λh' J sb=>?_;have I1:Inv X xC σ H {s with heap:=h'}:=I.turned (t':=s.toks) (λb o hb e=>(sb.2 b hb).trans e) Y f1 f3 f4 f5;obtain⟨o,e,c,d⟩:=id J;exact⟨u,rfl,qmr (s:={s with heap:=h'}) e c d (by decide) ⟨x,H,I1,ru,⟨rfl,λys hy=>by rw[I.qio hy hq];exact hx⟩,J,λb hb=>(O b hb).1⟩⟩
 done:=by
  intro X hP hw Z hc i xC s σ H E I O st hg;subst hP hw Z;obtain⟨xs,hq,hx⟩:=hg;obtain⟨its,rv,p,hz⟩:=I.list hq;obtain⟨Y,f1,f2,f3,f4,f5⟩:=O it (by simp);have hl:=rv.length;exact wpAny_pyNext_list_end (I.ok.hd hc) st p.isList (by simp;lia) λh' eb=>⟨rfl,I.turned (t':=s.toks) (λb o hb e=>eb b o hb e) Y f1 f3 f4 f5⟩
 self:=λ_ _ _ _ _ st h=>wpAny_pyIter_listiter st h
def qms{P:Program}{w:World}{K:xA}{tg:Expr}(a it:Addr):Turn P w K tg (Itt K a) [it] it (λi h=>h.IsTupleIter it a i) where
 mem:=by simp
 obj:=λi h st b hb=>by
  have e:b=it:=by simpa using hb
  subst e;obtain⟨o,e,c,d⟩:=st;exact⟨o,e,λv z=>by rw[d]at z;cases z⟩
 keep:=λi h h' st k=>st.at λo e=>k it (by simp) o e
 item:=by
  intro X hP hw Z hc i xC s σ H E I O st hg;subst hP hw Z;obtain⟨xs,x,hq,hx⟩:=hg;obtain⟨its,rv,p,hz⟩:=I.tuple hq;obtain⟨u,hu,ru⟩:=rv.get hx;obtain⟨Y,f1,f2,f3,f4,f5⟩:=O it (by simp);refine wpAny_pyNext_tuple_item st (show s.heap.IsTuple a its.toArray from p) (x:=u) (by simpa using hu) λh' J sb=>?_;have I1:Inv X xC σ H {s with heap:=h'}:=I.turned (t':=s.toks) (λb o hb e=>(sb.2 b hb).trans e) Y f1 f3 f4 f5;obtain⟨o,e,c,d⟩:=id J;exact⟨u,rfl,qmr (s:={s with heap:=h'}) e c d (by decide) ⟨x,H,I1,ru,⟨rfl,λys hy=>by rw[I.q90 hy hq];exact hx⟩,J,λb hb=>(O b hb).1⟩⟩
 done:=by
  intro X hP hw Z hc i xC s σ H E I O st hg;subst hP hw Z;obtain⟨xs,hq,hx⟩:=hg;obtain⟨its,rv,p,hz⟩:=I.tuple hq;obtain⟨Y,f1,f2,f3,f4,f5⟩:=O it (by simp);have hl:=rv.length;exact wpAny_pyNext_tuple_end (I.ok.hd hc) st (show s.heap.IsTuple a its.toArray from p) (by simp;lia) λh' eb=>⟨rfl,I.turned (t':=s.toks) (λb o hb e=>eb b o hb e) Y f1 f3 f4 f5⟩
 self:=λ_ _ _ _ _ st h=>wpAny_pyIter_tupleiter st h
def qmt{P:Program}{w:World}{K:xA}{tg:Expr}(it:Addr)(lo:Int)(n:Nat):Turn P w K tg (Itr lo n) [it] it (λi h=>IsRangeIter h it (lo+(i:Nat)*1) ((n:Int) - (i:Nat)) 1) where
 mem:=by simp
 obj:=λi h st b hb=>by
  have e:b=it:=by simpa using hb
  subst e;exact⟨_,st,λv z=>by
   have z':Data.fields _=Data.cell v:=z;cases z'⟩
 keep:=λi h h' st k=>k it (by simp) _ st
 item:=by
  intro X hP hw Z hc i xC s σ H E I O st hg;subst hP hw Z;obtain⟨Y,f1,f2,f3,f4,f5⟩:=O it (by simp);have W:=Walks.range (prog:=X.prog) (w:=X.w) (I.ok.hd hc) it lo 1 n;refine W.item i s _ _ hg st λv h' tk hv J kk=>?_;obtain⟨t,rfl⟩:=hv;have I1:Inv X xC σ H {s with heap:=h',toks:=tk}:=I.turned (λb o hb e=>kk b o (by simpa using hb) e) Y f1 f3 f4 f5;refine⟨_,rfl,qmr (s:={s with heap:=h',toks:=tk}) (n:="range_iterator") J rfl rfl (by decide) ⟨.int (lo+i),H,I1,⟨t,?_⟩,⟨rfl,rfl⟩,J,λb hb=>(O b hb).1⟩⟩;rw[Int.mul_one]
 done:=by
  intro X hP hw Z hc i xC s σ H E I O st hg;subst hP hw Z;obtain⟨Y,f1,f2,f3,f4,f5⟩:=O it (by simp);exact wpAny_pyNext_range_end (I.ok.hd hc) st (by have:n<=i:=hg;lia) λh' eb=>⟨rfl,I.turned (t':=s.toks) (λb o hb e=>eb b o hb e) Y f1 f3 f4 f5⟩
 self:=λ_ _ _ _ _ st h=>wpAny_pyIter_rangeiter st h
section
variable{X:Cx}{tg:Expr}
def qsr(K:xA)(tl:TE):TI:=λσ H R=>tl σ H λx H1=>∃a,x= .ref a/\(∃xs,SqL K H1 a xs)/\R (Itl K a) H1
def iTup(K:xA)(tl:TE):TI:=λσ H R=>tl σ H λx H1=>∃a,x= .ref a/\(∃xs,SqT K H1 a xs)/\R (Itt K a) H1
def qtc{l:Expr}{tl:TE}(hl:PE X l tl):PI X tg l (qsr X.K tl):=by
 intro xC s σ H R I h;refine thn (hl xC s σ H _ I h) λv s1 J=>?_;obtain⟨x,H1,I1,r1,q1⟩:=J;obtain⟨a,e,⟨xs,hq⟩,q⟩:=q1;subst e;cases r1
 obtain⟨its,rv,p,hz⟩:=I1.list hq;refine z1p p.isList ?_;refine⟨s1.heap.objs.size,[s1.heap.objs.size],_,_,H1,zr,I1.kept (t':=s1.toks) λb o e=>z0l _ e,qoh a _,⟨_,z11 _ rfl,zr,zr⟩,λb hb=>?_,q⟩;have e:b=s1.heap.objs.size:=by simpa using hb
 subst e;exact I1.fpOk (z3j _) (I1.hok.fresh (z3j _))
def qvx{l:Expr}{tl:TE}(hl:PE X l tl):PI X tg l (iTup X.K tl):=by
 intro xC s σ H R I h;refine thn (hl xC s σ H _ I h) λv s1 J=>?_;obtain⟨x,H1,I1,r1,q1⟩:=J;obtain⟨a,e,⟨xs,hq⟩,q⟩:=q1;subst e;cases r1
 obtain⟨its,rv,p,hz⟩:=I1.tuple hq;refine wpAny_pyIter_tuple (show s1.heap.IsTuple a its.toArray from p) ?_;refine⟨s1.heap.objs.size,[s1.heap.objs.size],_,_,H1,zr,I1.kept (t':=s1.toks) λb o e=>z0l _ e,qms a _,⟨_,z11 _ rfl,zr,zr⟩,λb hb=>?_,q⟩;have e:b=s1.heap.objs.size:=by simpa using hb
 subst e;exact I1.fpOk (z3j _) (I1.hok.fresh (z3j _))
def qqy{xC:xG}{σ:St}{H:Hp}{s:Shared}{R:It->Hp->Prop}{E:xB}{lo hi:Int}{t u v:Tok}{tk:Nat}(I:Inv X xC σ H s)(h1: -(2^62)<=lo)(h2:lo < 2^62)(h3: -(2^62)<=hi)(h4:hi < 2^62)
  (q:R (Itr lo (hi - lo).toNat) H):wpAny (model X.prog X.w) X.A (pyIter (.ref s.heap.objs.size)) (PIE X xC σ tg R) E {s with heap:=s.heap.push {cls:= .type "range",data:= .fields #[.int lo t,.int hi u,.int 1 v]},toks:=tk}:=by
 refine wpAny_pyIter_range (IsRange.new ..) (small_one h1 h2 h3 h4) ?_;have I1:Inv X xC σ H {s with heap:=s.heap.push {cls:= .type "range",data:= .fields #[.int lo t,.int hi u,.int 1 v]},toks:=tk}:=I.kept λb o e=>z0l _ e;refine⟨(s.heap.push {cls:= .type "range",data:= .fields #[.int lo t,.int hi u,.int 1 v]}).objs.size,[(s.heap.push {cls:= .type "range",data:= .fields #[.int lo t,.int hi u,.int 1 v]}).objs.size],_,_,H,zr,
  I1.kept (t':=tk) λb o e=>z0l _ e,qmt _ lo (hi - lo).toNat,?_,λb hb=>?_,q⟩
 ·have e1:lo+((0:Nat):Int)*1=lo:=by simp
  have e2:(((hi - lo).toNat:Nat):Int) - ((0:Nat):Int)=Builtin.Range.rangeSize lo hi 1:=by rw[rangeSize_one];split <;> lia
  show IsRangeIter _ _ (lo+((0:Nat):Int)*1) ((((hi - lo).toNat:Nat):Int) - ((0:Nat):Int)) 1;rw[e1,e2];exact z11 _ rfl
 ·have e:b=(s.heap.push {cls:= .type "range",data:= .fields #[.int lo t,.int hi u,.int 1 v]}).objs.size:=by simpa using hb
  subst e;exact I1.fpOk (z3j _) (I1.hok.fresh (z3j _))
def qxo(ta:TA):TI:=λσ H R=>ta σ H λvs H1=>∃j:Int,vs=[.int j]/\ -(2^62)<=j/\j < 2^62/\R (Itr 0 j.toNat) H1
def q3v{a:Expr}{ta:TA}{p pos:Pos}(hg:Gl X "range")(hm:X.mg "range"=none)(ha:PA X [a] ta)(hs:starEach [a] X.env=[(false,eval a X.env)]:=by rfl):PI X tg (.Call (.Name "range" p) [a] [] pos) (qxo ta):=by
 intro xC s σ H R I h;refine Call_ (q64 I hg hm boot_range (z02 (thn (ha pos xC s σ H _ I h) λus s1 J=>?_) hs rfl));obtain⟨vs,H1,I1,r1,q1⟩:=J;obtain⟨j,e,q1,q2,q⟩:=q1;subst e;cases r1 with
 | cons r rr=>
  cases rr
  obtain⟨t,rfl⟩:=r;exact call_range_1 (qqy I1 (by lia) (by lia) q1 q2 (by simpa using q))
def tFor(wi:TI)(g:TG)(tb:TS):TS:=λD σ H=>wi σ H λJ H1=>∃W:Nat->Nat->St->Hp->Prop,(∃m,W 0 m σ H1)/\∀i m σ H,W i m σ H->
 (J.stop i H/\D.nx σ H)\/ (J.go i H/\∃N:St->Hp->Prop,(∀σ' H',N σ' H'->∃m',m' < m/\W (i+1) m' σ' H')/\∀x H',J.yld i H x H'->g x σ H' λσ2 H2=>tb {D with nx:=N,ct:=N,bk:=D.nx} σ2 H2)
def qbk(fp:List Addr)(h:Heap):List (Addr×Obj):=fp.filterMap λb=>(h.get? b).map λo=>(b,o)
def q66{fp:List Addr}{h:Heap}{b:Addr}{o:Obj}(hb:b∈fp)(e:h.get? b=some o):(b,o)∈qbk fp h:=List.mem_filterMap.mpr ⟨b,hb,by rw[e];rfl⟩
def qoi{fp:List Addr}{h:Heap}{p:Addr×Obj}(hp:p∈qbk fp h):p.1∈fp/\h.get? p.1=some p.2:=by
 obtain⟨b,hb,e⟩:=List.mem_filterMap.mp hp;cases q:h.get? b with
 | none=>rw[q]at e;cases e
 | some o=>
  rw[q]at e;have e':(b,o)=p:=Option.some.inj e;subst e';exact⟨hb,q⟩
def Inv.pinned{xC:xG}{σ:St}{H:Hp}{s:Shared}{fp:List Addr}(I:Inv X xC σ H s)(hf:∀b∈fp,FpOk X xC H b)(ho:∀b∈fp,∃o,s.heap.get? b=some o/\∀v,o.data≠ .cell v):Inv X (xC++qbk fp s.heap) σ H s:=
 I.qfq λp hp=>(z2c.mp hp).elim (λz=>I.pin p (z0p _ z)) λz=>by
  obtain⟨hb,e⟩:=qoi z;obtain⟨f0,f1,f2,_⟩:=hf p.1 hb;obtain⟨o,e',d⟩:=ho p.1 hb;rw[e]at e';cases e';exact⟨e,f0,f1,f2,d⟩
def Inv.unpinned{xC pl:xG}{σ:St}{H:Hp}{s:Shared}(I:Inv X (xC++pl) σ H s):Inv X xC σ H s:=I.qfq λp hp=>I.pin p (z0p _ (z0w _ hp))
def q1k{iter:Expr}{body:List Stmt}{wi:TI}{g:TG}{tb:TS}{pos:Pos}(hp:PassesOwn (model X.prog X.w) X.A X.env X.xe)(hc:X.calm=true)(hi:PI X tg iter wi)(hg:PG X tg g)(hb:PSs X body tb)
  (hs:∀x,foldedSetIterable iter X.env x=pure x:=by intro _;rfl):PS X (.For tg iter body [] pos) (tFor wi g tb):=by
 intro xC s σ H D I h;refine wpAny_For (thn (hi xC s σ H _ I h) λv s1 h1=>thn h1 λitv s2 h2=>?_) hs;obtain⟨it,fp,tn,J,H2,e,I2,T,a7,f2,W,⟨m0,w0⟩,turn⟩:=h2;subst e;have a1:∀{H':Hp},(∀b∈fp,H' b=none)->∀b∈fp,FpOk X xC H' b:=λhn b hb=>⟨hn b hb,(f2 b hb).2⟩;refine codeAny_forLoop_any (λn s'=>∃i σ' H',Inv X xC σ' H' s'/\tn i s'.heap/\(∀b∈fp,H' b=none)/\W i n σ' H') ?_ m0 ⟨0,σ,H2,I2,a7,λb hb=>(f2 b hb).1,w0⟩;rintro n s3 ⟨i,σ3,H3,I3,a4,a3,w3⟩;rcases turn i n σ3 H3 w3 with ⟨stop,qn⟩ | ⟨go,N,hN,step⟩
 ·refine z2f hp (thn (T.done X rfl rfl rfl hc i xC s3 σ3 H3 X.xe I3 (a1 a3) a4 stop) λr s4 O=>?_);obtain⟨hr,I4⟩:=O;subst hr;exact wpAny_execs_nil ⟨σ3,H3,I4,qn⟩
 ·refine z2f hp (thn (T.item X rfl rfl rfl hc i xC s3 σ3 H3 X.xe I3 (a1 a3) a4 go) λr s4 O=>?_);obtain⟨u,hr,h4⟩:=O;subst hr;refine z2f hp (thn h4 λ_ s5 O=>?_);obtain⟨x,H5,I5,r5,y5,a2,a6⟩:=O;have a5:=I5.pinned (a1 a6) (T.obj _ _ a2);refine z2f hp (thn (hg _ s5 σ3 H5 x u _ a5 r5 (step x H5 y5)) λ_ s6 O=>?_);obtain⟨σ6,H6,I6,q6⟩:=O;refine z2f hp (thn (hb _ s6 σ6 H6 _ I6 q6) λf s7 q7=>?_);have again:∀{σ7:St} {Y:Hp},Inv X (xC++qbk fp s5.heap) σ7 Y s7->N σ7 Y->∃m,m < n/\∃i σ' H',Inv X xC σ' H' s7/\tn i s7.heap/\(∀b∈fp,H' b=none)/\W i m σ' H':=λ{σ7 Y} Z n7=>by
   obtain⟨m',hm,w7⟩:=hN σ7 Y n7;refine⟨m',hm,i+1,σ7,Y,Z.unpinned,T.keep _ _ _ a2 λb hb o e=>(Z.pin (b,o) (z0p _ (z0p _ (q66 hb e)))).1,λb hb=>?_,w7⟩;obtain⟨o,e,d⟩:=T.obj _ _ a2 b hb;exact(Z.pin (b,o) (z0p _ (z0p _ (q66 hb e)))).2.1
  cases f with
  | next=>obtain⟨σ7,Y,Z,n7⟩:=q7;exact again Z n7
  | cont=>obtain⟨σ7,Y,Z,n7⟩:=q7;exact again Z n7
  | brk=>obtain⟨σ7,Y,Z,q7⟩:=q7;exact⟨σ7,Y,Z.unpinned,q7⟩
  | ret v=>obtain⟨x7,σ7,Y,Z,r7,q7⟩:=q7;exact⟨x7,σ7,Y,Z.unpinned,r7,q7⟩
end
def q1t{K:xA}{a:Addr}{xs:List V}{g:TG}{tb:TS}{D:Ends}{σ:St}{H:Hp}(Pv:Nat->St->Hp->Prop)(h0:Pv 0 σ H)(hl:∀i σ H,i<=xs.length->Pv i σ H->SqL K H a xs)
  (hs:∀i x σ H,xs[i]? =some x->Pv i σ H->g x σ H λσ2 H2=>tb {D with nx:=Pv (i+1),ct:=Pv (i+1),bk:=D.nx} σ2 H2) (hd:∀σ H,Pv xs.length σ H->D.nx σ H):
  ∃W:Nat->Nat->St->Hp->Prop,(∃m,W 0 m σ H)/\∀i m σ H,W i m σ H->
   ((Itl K a).stop i H/\D.nx σ H)\/ ((Itl K a).go i H/\∃N:St->Hp->Prop,(∀σ' H',N σ' H'->∃O,O < m/\W (i+1) O σ' H')/\∀x H',(Itl K a).yld i H x H'->g x σ H' λσ2 H2=>tb {D with nx:=N,ct:=N,bk:=D.nx} σ2 H2):=by
 refine⟨λi m σ H=>m=xs.length - i/\i<=xs.length/\Pv i σ H,⟨xs.length,by simp,z3m _,h0⟩,?_⟩;rintro i m σ H ⟨rfl,hi,p⟩;have q:=hl i σ H hi p;by_cases J:i < xs.length
 ·refine .inr ⟨⟨xs,xs[i],q,by simp[J]⟩,Pv (i+1),λσ' H' p'=>⟨xs.length - (i+1),by lia,zr,J,p'⟩,λx H' y=>?_⟩;obtain⟨e,y⟩:=y;subst e;exact hs i x σ _ (y xs q) p
 ·have e:i=xs.length:=by lia
  subst e;exact .inl ⟨⟨xs,q,z3j _⟩,hd σ H p⟩
def qlt{K:xA}{a:Addr}{xs:List V}{g:TG}{tb:TS}{D:Ends}{σ:St}{H:Hp}(Pv:Nat->St->Hp->Prop)(h0:Pv 0 σ H)(hl:∀i σ H,i<=xs.length->Pv i σ H->SqT K H a xs)
  (hs:∀i x σ H,xs[i]? =some x->Pv i σ H->g x σ H λσ2 H2=>tb {D with nx:=Pv (i+1),ct:=Pv (i+1),bk:=D.nx} σ2 H2) (hd:∀σ H,Pv xs.length σ H->D.nx σ H):
  ∃W:Nat->Nat->St->Hp->Prop,(∃m,W 0 m σ H)/\∀i m σ H,W i m σ H->
   ((Itt K a).stop i H/\D.nx σ H)\/ ((Itt K a).go i H/\∃N:St->Hp->Prop,(∀σ' H',N σ' H'->∃O,O < m/\W (i+1) O σ' H')/\∀x H',(Itt K a).yld i H x H'->g x σ H' λσ2 H2=>tb {D with nx:=N,ct:=N,bk:=D.nx} σ2 H2):=by
 refine⟨λi m σ H=>m=xs.length - i/\i<=xs.length/\Pv i σ H,⟨xs.length,by simp,z3m _,h0⟩,?_⟩;rintro i m σ H ⟨rfl,hi,p⟩;have q:=hl i σ H hi p;by_cases J:i < xs.length
 ·refine .inr ⟨⟨xs,xs[i],q,by simp[J]⟩,Pv (i+1),λσ' H' p'=>⟨xs.length - (i+1),by lia,zr,J,p'⟩,λx H' y=>?_⟩;obtain⟨e,y⟩:=y;subst e;exact hs i x σ _ (y xs q) p
 ·have e:i=xs.length:=by lia
  subst e;exact .inl ⟨⟨xs,q,z3j _⟩,hd σ H p⟩
def q5w{lo:Int}{n:Nat}{g:TG}{tb:TS}{D:Ends}{σ:St}{H:Hp}(Pv:Nat->St->Hp->Prop)(h0:Pv 0 σ H)
  (hs:∀i σ H,i < n->Pv i σ H->g (.int (lo+i)) σ H λσ2 H2=>tb {D with nx:=Pv (i+1),ct:=Pv (i+1),bk:=D.nx} σ2 H2) (hd:∀σ H,Pv n σ H->D.nx σ H):
  ∃W:Nat->Nat->St->Hp->Prop,(∃m,W 0 m σ H)/\∀i m σ H,W i m σ H->
   ((Itr lo n).stop i H/\D.nx σ H)\/ ((Itr lo n).go i H/\∃N:St->Hp->Prop,(∀σ' H',N σ' H'->∃O,O < m/\W (i+1) O σ' H')/\∀x H',(Itr lo n).yld i H x H'->g x σ H' λσ2 H2=>tb {D with nx:=N,ct:=N,bk:=D.nx} σ2 H2):=by
 refine⟨λi m σ H=>m=n - i/\i<=n/\Pv i σ H,⟨n,by simp,z3m _,h0⟩,?_⟩;rintro i m σ H ⟨rfl,hi,p⟩;by_cases J:i < n
 ·refine .inr ⟨J,Pv (i+1),λσ' H' p'=>⟨n - (i+1),by lia,zr,J,p'⟩,λx H' y=>?_⟩;obtain⟨e,y⟩:=y;subst e y;exact hs i σ _ J p
 ·have e:i=n:=by lia
  subst e;exact .inl ⟨z3j _,hd σ H p⟩
abbrev R2:=V->V->Hp->VK->Prop
def OpR(X:Cx)(f:Value->Value->Sem Value)(r:R2):Prop:=
 ∀(xC:xG) (s:Shared) (σ:St) (H:Hp) (x y:V) (v u:Value) (Q:VK),Inv X xC σ H s->RelV x v->RelV y u->r x y H Q->
  wpAny (model X.prog X.w) X.A (f v u) (EP X xC σ Q) X.xe s
def q2t(X:Cx)(f:Value)(r:List V->Hp->VK->Prop):Prop:=
 ∀(xC:xG) (s:Shared) (σ:St) (H:Hp) (xs:List V) (us:xH) (Q:VK),Inv X xC σ H s->Vals xs us->r xs H Q->
  wpAny (model X.prog X.w) X.A (call f us) (EP X xC σ Q) X.xe s
def tOp(r:R2)(ta tb:TE):TE:=λσ H Q=>ta σ H λx H1=>tb σ H1 λy H2=>r x y H2 Q
def rI(C:Int->Int->Prop)(g:Int->Int->V):R2:=λx y H Q=>∃i j,x= .int i/\y= .int j/\C i j/\Q (g i j) H
def rI0(g:Int->Int->V):R2:=λx y H Q=>∃i j,x= .int i/\y= .int j/\Q (g i j) H
section
variable{X:Cx}{a b c:Expr}{ta tb tc:TE}{pos:Pos}
def binT(ha:PE X a ta)(hb:PE X b tb){xC:xG}{s:Shared}{σ:St}{H:Hp}{R:V->V->Hp->Prop}(I:Inv X xC σ H s)
  (h:ta σ H λx H1=>tb σ H1 λy H2=>R x y H2) {Q:xB} {f:Value->Value->Sem Value}
  (hf:∀v u O x y H2,Inv X xC σ H2 O->RelV x v->RelV y u->R x y H2->wpAny (model X.prog X.w) X.A (f v u) Q X.xe O):
  wpAny (model X.prog X.w) X.A (eval a X.env) (λv s₁=>wpAny (model X.prog X.w) X.A (eval b X.env) (λu s₂=>wpAny (model X.prog X.w) X.A (f v u) Q X.xe s₂) X.xe s₁) X.xe s:=by
 refine thn (ha xC s σ H _ I h) λv s1 J=>?_;obtain⟨x,H1,I1,r1,q1⟩:=J;refine thn (hb xC s1 σ H1 _ I1 q1) λu O J=>?_;obtain⟨y,H2,I2,r2,q2⟩:=J;exact hf v u O x y H2 I2 r1 r2 q2
def qy{op:Operator}{r:R2}(ho:OpR X (binaryOp op) r)(ha:PE X a ta)(hb:PE X b tb):PE X (.BinOp a op b pos) (tOp r ta tb):=by
 intro xC s σ H Q I h;exact wpAny_BinOp (binT ha hb I h λv u s2 x y H2 I2 rx ry q=>ho xC s2 σ H2 x y v u Q I2 rx ry q)
def opI{f:Value->Value->Sem Value}{C:Int->Int->Prop}{g:Int->Int->Int}
  (rule:∀(i j:Int) (t u:Tok) (s:Shared) (Q:xB) (E:xB),C i j->Q (.int (g i j) s.toks) {s with toks:=s.toks+1}->wpAny (model X.prog X.w) X.A (f (.int i t) (.int j u)) Q E s):
  OpR X f (rI C λi j=> .int (g i j)):=by
 intro xC s σ H x y v u Q I rx ry h;obtain⟨i,j,rfl,rfl,hc,q⟩:=h;obtain⟨t,rfl⟩:=rx;obtain⟨t',rfl⟩:=ry;exact rule i j t t' s _ _ hc ⟨.int (g i j),H,I.tok _,⟨_,zr⟩,q⟩
def opI0{f:Value->Value->Sem Value}{g:Int->Int->Int}
  (rule:∀(i j:Int) (t u:Tok) (s:Shared) (Q:xB) (E:xB),Q (.int (g i j) s.toks) {s with toks:=s.toks+1}->wpAny (model X.prog X.w) X.A (f (.int i t) (.int j u)) Q E s):
  OpR X f (rI0 λi j=> .int (g i j)):=by
 intro xC s σ H x y v u Q I rx ry h;obtain⟨i,j,rfl,rfl,q⟩:=h;obtain⟨t,rfl⟩:=rx;obtain⟨t',rfl⟩:=ry;exact rule i j t t' s _ _ ⟨.int (g i j),H,I.tok _,⟨_,zr⟩,q⟩
def opB0{f:Value->Value->Sem Value}{g:Int->Int->Bool}
  (rule:∀(i j:Int) (t u:Tok) (s:Shared) (Q:xB) (E:xB),Q (.bool (g i j)) s->wpAny (model X.prog X.w) X.A (f (.int i t) (.int j u)) Q E s):
  OpR X f (rI0 λi j=> .bl (g i j)):=by
 intro xC s σ H x y v u Q I rx ry h;obtain⟨i,j,rfl,rfl,q⟩:=h;obtain⟨t,rfl⟩:=rx;obtain⟨t',rfl⟩:=ry;exact rule i j t t' s _ _ ⟨.bl (g i j),H,I,zr,q⟩
def CDiv(i j:Int):Prop:=0 < j/\j < 1073741824
def CPow(i j:Int):Prop:=0<=j/\j<=1000000/\i.natAbs < 2^64
def CMul(i j:Int):Prop:=(-(2^64) < i/\i < 2^64)\/ (-(2^64) < j/\j < 2^64)
def CMul.ok{i j:Int}(h:CMul i j):IntMulOk i j:=by
 rcases h with ⟨h1,h2⟩ | ⟨h1,h2⟩
 ·exact .of_left (intBits_le_64 h1 h2)
 ·exact .of_right (intBits_le_64 h1 h2)
def q2k:OpR X (binaryOp .Add) (rI0 λi j=> .int (i+j)):=opI0 λ_ _ _ _ _ _ _ q=>add_int q
def qa0:OpR X (binaryOp .Sub) (rI0 λi j=> .int (i - j)):=opI0 λ_ _ _ _ _ _ _ q=>sub_int q
def qbl:OpR X (binaryOp .Mult) (rI CMul λi j=> .int (i*j)):=opI λ_ _ _ _ _ _ _ hc q=>mul_int q hc.ok
def qa1:OpR X (binaryOp .FloorDiv) (rI CDiv λi j=> .int (i / j)):=opI λi j _ _ _ _ _ J q=>by
 have h1:(0:Int) < j:=J.1;have h2:j < 1073741824:=J.2;exact floordiv_int (by lia) (by rw[Int.fdiv_eq_ediv_of_nonneg i (by lia)];exact q) (.inl (PyProof.noPylong_small (by lia)))
def q5e:OpR X (binaryOp .Mod) (rI (λ_ j=>0 < j) λi j=> .int (i%j)):=opI λi j _ _ _ _ _ hc q=>by
 have h1:(0:Int) < j:=hc;exact mod_int' (by lia) (by rw[Int.fmod_eq_emod_of_nonneg i (by lia)];exact q)
def qvy:OpR X (binaryOp .Pow) (rI CPow λi j=> .int (i^j.toNat)):=opI λ_ _ _ _ _ _ _ J q=>pow_int_small J.1 J.2.1 J.2.2 q
end
def scal:V->V->Bool
 | .non,.non=>true | .non,.int _=>true | .int _,.non=>true | .non,.bl _=>true | .bl _,.non=>true | .non,.str _=>true | .str _,.non=>true
 | .int _,.int _=>true | .bl _,.bl _=>true | .str _,.str _=>true | .byt _,.byt _=>true
 | .int _,.str _=>true | .str _,.int _=>true | .bl _,.str _=>true | .str _,.bl _=>true
 | _,_=>false
def rEq:R2:=λx y H Q=>scal x y=true/\Q (.bl (decide (x=y))) H
def rNe:R2:=λx y H Q=>scal x y=true/\Q (.bl (!decide (x=y))) H
def qlu{i j:Int}:decide (V.int i=V.int j)=(i==j):=by
 rw[z2g];simp
def qoj{i j:Bool}:decide (V.bl i=V.bl j)=(i==j):=by
 rw[z2g];simp
def qlv{i j:Str}:decide (V.str i=V.str j)=(i==j):=by
 rw[z2g];simp
def qlw{i j:Array UInt8}:decide (V.byt i=V.byt j)=(i.toList==j.toList):=by
 rw[z2g];cases i
 cases j
 simp
section
variable{X:Cx}{a b c:Expr}{ta tb tc:TE}{pos:Pos}
def q1b{xC:xG}{σ:St}{H:Hp}{s:Shared}{Q:VK}{k k':Bool}(I:Inv X xC σ H s)(q:Q (.bl k) H)(e:k=k'):EP X xC σ Q (.bool k') s:=by
 subst e;exact⟨.bl k,H,I,zr,q⟩
def q4z:OpR X (compareOp .Eq) rEq:=by
 intro xC s σ H x y v u Q I rx ry h;obtain⟨J,q⟩:=h;cases x with
 | non=>
  cases rx
  cases y with
  | non=>cases ry;exact PySem.EqNone.eq_none_none (q1b I q (by simp))
  | bl j=>cases ry;exact PySem.EqNone.eq_none_bool (q1b I q (by simp))
  | int j=>obtain⟨t',rfl⟩:=ry;exact PySem.EqNone.eq_none_int (q1b I q (by simp))
  | str j=>obtain⟨t',rfl⟩:=ry;exact PySem.EqNone.eq_none_str (q1b I q (by simp))
  | _=>exact absurd (show false=true from J) z19
 | bl i=>
  cases rx
  cases y with
  | non=>cases ry;exact PySem.EqNone.eq_bool_none (q1b I q (by simp))
  | bl j=>cases ry;exact eq_bool (q1b I q qoj)
  | str j=>obtain⟨t',rfl⟩:=ry;exact PySem.EqMixed.eq_bool_str (q1b I q (by simp))
  | _=>exact absurd (show false=true from J) z19
 | int i=>
  obtain⟨t,rfl⟩:=rx;cases y with
  | non=>cases ry;exact PySem.EqNone.eq_int_none (q1b I q (by simp))
  | int j=>obtain⟨t',rfl⟩:=ry;exact eq_int (q1b I q qlu)
  | str j=>obtain⟨t',rfl⟩:=ry;exact PySem.EqMixed.eq_int_str (q1b I q (by simp))
  | _=>exact absurd (show false=true from J) z19
 | str i=>
  obtain⟨t,rfl⟩:=rx;cases y with
  | non=>cases ry;exact PySem.EqNone.eq_str_none (q1b I q (by simp))
  | bl j=>cases ry;exact PySem.EqMixed.eq_str_bool (q1b I q (by simp))
  | int j=>obtain⟨t',rfl⟩:=ry;exact PySem.EqMixed.eq_str_int (q1b I q (by simp))
  | str j=>obtain⟨t',rfl⟩:=ry;exact eq_str (q1b I q qlv)
  | _=>exact absurd (show false=true from J) z19
 | byt i=>
  obtain⟨t,rfl⟩:=rx;cases y with
  | byt j=>obtain⟨t',rfl⟩:=ry;exact PySem.W.eq_bytes (q1b I q qlw)
  | _=>exact absurd (show false=true from J) z19
 | _=>cases y <;> exact absurd (show false=true from J) z19
def qid:OpR X (compareOp .NotEq) rNe:=by
 intro xC s σ H x y v u Q I rx ry h;obtain⟨J,q⟩:=h;cases x with
 | non=>
  cases rx
  cases y with
  | non=>cases ry;exact PySem.EqNone.ne_none_none (q1b I q (by simp))
  | bl j=>cases ry;exact PySem.EqNone.ne_none_bool (q1b I q (by simp))
  | int j=>obtain⟨t',rfl⟩:=ry;exact PySem.EqNone.ne_none_int (q1b I q (by simp))
  | str j=>obtain⟨t',rfl⟩:=ry;exact PySem.EqNone.ne_none_str (q1b I q (by simp))
  | _=>exact absurd (show false=true from J) z19
 | bl i=>
  cases rx
  cases y with
  | non=>cases ry;exact PySem.EqNone.ne_bool_none (q1b I q (by simp))
  | bl j=>cases ry;exact ne_bool (q1b I q (congrArg not qoj))
  | str j=>obtain⟨t',rfl⟩:=ry;exact PySem.EqMixed.ne_bool_str (q1b I q (by simp))
  | _=>exact absurd (show false=true from J) z19
 | int i=>
  obtain⟨t,rfl⟩:=rx;cases y with
  | non=>cases ry;exact PySem.EqNone.ne_int_none (q1b I q (by simp))
  | int j=>obtain⟨t',rfl⟩:=ry;exact ne_int (q1b I q (congrArg not qlu))
  | str j=>obtain⟨t',rfl⟩:=ry;exact PySem.EqMixed.ne_int_str (q1b I q (by simp))
  | _=>exact absurd (show false=true from J) z19
 | str i=>
  obtain⟨t,rfl⟩:=rx;cases y with
  | non=>cases ry;exact PySem.EqNone.ne_str_none (q1b I q (by simp))
  | bl j=>cases ry;exact PySem.EqMixed.ne_str_bool (q1b I q (by simp))
  | int j=>obtain⟨t',rfl⟩:=ry;exact PySem.EqMixed.ne_str_int (q1b I q (by simp))
  | str j=>obtain⟨t',rfl⟩:=ry;exact ne_str (q1b I q (congrArg not qlv))
  | _=>exact absurd (show false=true from J) z19
 | byt i=>
  obtain⟨t,rfl⟩:=rx;cases y with
  | byt j=>obtain⟨t',rfl⟩:=ry;exact PySem.W.ne_bytes (q1b I q (congrArg not qlw))
  | _=>exact absurd (show false=true from J) z19
 | _=>cases y <;> exact absurd (show false=true from J) z19
def qxp:OpR X (compareOp .Lt) (rI0 λi j=> .bl (decide (i < j))):=opB0 λ_ _ _ _ _ _ _ q=>lt_int q
def qeh:OpR X (compareOp .LtE) (rI0 λi j=> .bl (decide (i<=j))):=opB0 λ_ _ _ _ _ _ _ q=>le_int q
def q7r:OpR X (compareOp .Gt) (rI0 λi j=> .bl (decide (j < i))):=opB0 λ_ _ _ _ _ _ _ q=>gt_int q
def qgt:OpR X (compareOp .In) (λx y H Q=>∃i j,x= .str i/\y= .str j/\Q (.bl (!(Builtin.Str.occurrences j i 0 j.length 1).isEmpty)) H):=by
 intro xC s σ H x y v u Q I rx ry h;obtain⟨i,j,rfl,rfl,q⟩:=h;obtain⟨t,rfl⟩:=rx;obtain⟨t',rfl⟩:=ry;exact in_str (q1b I q rfl)
def qok:OpR X (compareOp .Is) (λx y H Q=>y= .non/\Q (.bl (decide (x= .non))) H):=by
  intro xC s σ H x y v u Q I rx ry h;obtain⟨rfl,q⟩:=h;cases ry
  refine is_none_gen (q1b I q ?_);cases x <;> first
    | (cases rx;rfl)
    | (obtain⟨t,rfl⟩:=rx;rfl)
def qa2:OpR X (compareOp .IsNot) (λx y H Q=>y= .non/\Q (.bl (!decide (x= .non))) H):=by
  intro xC s σ H x y v u Q I rx ry h;obtain⟨rfl,q⟩:=h;cases ry
  refine isnot_none_gen (q1b I q ?_);cases x <;> first
    | (cases rx;rfl)
    | (obtain⟨t,rfl⟩:=rx;rfl)
def q1c(b:Expr){op:CmpOp}(h:op≠ .In:=by decide)(h2:op≠ .NotIn:=by decide):behindInMarks op b=false:=by
 have e1:(op==CmpOp.In)=false:=by cases op <;> first | rfl | exact absurd rfl h
 have e2:(op==CmpOp.NotIn)=false:=by cases op <;> first | rfl | exact absurd rfl h2
 cases b <;> simp[behindInMarks,e1,e2]
def q5x{op:CmpOp}{r:R2}(ho:OpR X (compareOp op) r)(ha:PE X a ta)(hb:PE X b tb)(hm:behindInMarks op b=false):PE X (.Compare a [op] [b] pos) (tOp r ta tb):=by
 intro xC s σ H Q I h;exact wpAny_Compare1 (binT ha hb I h λv u s2 x y H2 I2 rx ry q=>ho xC s2 σ H2 x y v u Q I2 rx ry q) hm
def qie(t:TE):TT:=λσ H Q=>t σ H λx H'=>∃k,x= .bl k/\Q k H'
def q14{op:CmpOp}{r:R2}(ho:OpR X (compareOp op) r)(ha:PE X a ta)(hb:PE X b tb)(hm:behindInMarks op b=false):PT X (.Compare a [op] [b] pos) (qie (tOp r ta tb)):=by
 intro xC s σ H Q I h;refine wpAny_isTrue_Compare1 (thn (ha xC s σ H _ I h) λv s1 ⟨x,H1,I1,r1,q1⟩=>thn (hb xC s1 σ H1 _ I1 q1) λu s2 ⟨y,H2,I2,r2,q2⟩=>
  thn (ho xC s2 σ H2 x y v u _ I2 r1 r2 q2) λc s3 ⟨z,H3,I3,r3,k,e,q3⟩=>?_) hm
 subst e;cases r3
 exact z1o ⟨H3,I3,q3⟩
def qvz(r r':R2)(ta tb tc:TE):TE:=λσ H Q=>ta σ H λx H1=>tb σ H1 λy H2=>r x y H2 λz H3=>∃k,z= .bl k/\
 (if k=true then tc σ H3 λw' H4=>r' y w' H4 Q else Q (.bl false) H3)
def qiq{op J:CmpOp}{r Z:R2}(ho:OpR X (compareOp op) r)(O:OpR X (compareOp J) Z)(ha:PE X a ta)(hb:PE X b tb)(hc:PE X c tc)
  (hm:lastMarks [op,J] [b,c]=false:=by with_unfolding_all rfl):PT X (.Compare a [op,J] [b,c] pos) (qie (qvz r Z ta tb tc)):=by
 intro xC s σ H Q I h;refine isTrue_chain (thn (ha xC s σ H _ I h) λv s1 ⟨x,H1,I1,r1,q1⟩=>test_link (thn (hb xC s1 σ H1 _ I1 q1) λu s2 ⟨y,H2,I2,r2,q2⟩=>
  thn (ho xC s2 σ H2 x y v u _ I2 r1 r2 q2) λd s3 ⟨z,H3,I3,r3,k,e,q3⟩=>?_)) hm
 subst e;cases r3
 refine z1o ?_;cases k with
 | false=>
  obtain⟨k',e',q'⟩:=q3;cases e'
  exact ite_ff ⟨H3,I3,q'⟩
 | true=>
  refine ite_tt (test_last (thn (hc xC s3 σ H3 _ I3 q3) λw' s4 ⟨z',H4,I4,r4,q4⟩=>thn (O xC s4 σ H4 y z' u w' _ I4 r2 r4 q4) λd' s5 Y=>?_));obtain⟨z2,H5,I5,r5,k2,e2,q5⟩:=Y;subst e2;cases r5
  exact z1o ⟨H5,I5,q5⟩
def qei:(sizeLine:Nat) < 2^63:=by rw[sizeLine_eq];decide
def qai:OpR X (binaryOp .Add) (λx y H Q=>∃i j,x= .str i/\y= .str j/\i.length+j.length<=sizeLine/\Q (.str (i++j)) H):=by
 intro xC s σ H x y v u Q I rx ry h;obtain⟨i,j,rfl,rfl,hz,q⟩:=h;obtain⟨t,rfl⟩:=rx;obtain⟨t',rfl⟩:=ry;exact add_str (λt' tk=>⟨.str (i++j),H,I.tok _,⟨_,zr⟩,q⟩) hz
def q3h{x:V}{us:xH}(r:Vals [x] us):∃u,us=[u]/\RelV x u:=by
 cases r with
 | cons r1 r2=>cases r2;exact⟨_,rfl,r1⟩
def qss{x y:V}{us:xH}(r:Vals [x,y] us):∃u J,us=[u,J]/\RelV x u/\RelV y J:=by
 cases r with
 | cons r1 r2=>
  cases r2 with
  | cons r3 r4=>cases r4;exact⟨_,_,rfl,r1,r3⟩
def qgu:q2t X (.type "int") (λxs H Q=>(∃i,xs=[.int i]/\Q (.int i) H)\/ ∃k,xs=[.bl k]/\Q (.int (if k then 1 else 0)) H):=by
 intro xC s σ H xs us Q I r h;rcases h with ⟨i,rfl,q⟩ | ⟨k,rfl,q⟩
 ·obtain⟨u,rfl,t,rfl⟩:=q3h r;exact call_int_int ⟨.int i,H,I,⟨_,zr⟩,q⟩
 ·obtain⟨u,rfl,r1⟩:=q3h r;cases r1
  exact call_int_bool ⟨.int (if k then 1 else 0),H,I.tok _,⟨_,zr⟩,q⟩
def LenV(K:xA)(x:V)(H:Hp)(n:Nat):Prop:=
 match x with
 | .str y=>y.length<=sizeLine/\n=y.length
 | .byt y=>y.size<=sizeLine/\n=y.size
 | .ref p=>(∃xs,SqL K H p xs/\n=xs.length)\/ ∃xs,SqT K H p xs/\n=xs.length
 | _=>False
def qqz:q2t X (.builtin "len") (λxs H Q=>∃x n,xs=[x]/\LenV X.K x H n/\Q (.int n) H):=by
 intro xC s σ H xs us Q I r h;obtain⟨x,n,rfl,e,q⟩:=h;obtain⟨u,rfl,rx⟩:=q3h r;have hl:=qei;have hs:sizeLine=16777216:=sizeLine_eq;cases x with
 | str y=>
  obtain⟨t,rfl⟩:=rx;obtain⟨hy,e'⟩:y.length<=sizeLine/\n=y.length:=e;subst e';exact len_str (by lia) ⟨.int _,H,I.tok _,⟨_,zr⟩,q⟩
 | byt y=>
  obtain⟨t,rfl⟩:=rx;obtain⟨hy,e'⟩:y.size<=sizeLine/\n=y.size:=e;subst e';exact PySem.W.len_bytes (by lia) ⟨.int _,H,I.tok _,⟨_,zr⟩,q⟩
 | ref p=>
  cases rx
  have e':(∃xs,SqL X.K H p xs/\n=xs.length)\/ ∃xs,SqT X.K H p xs/\n=xs.length:=e;rcases e' with ⟨xs,O,e'⟩ | ⟨xs,O,e'⟩
  ·subst e';obtain⟨its,Y,pl,hz⟩:=I.list O;have J:=Y.length;exact Calls.call_len_list pl.isList (by simp only[z1n];lia) ⟨.int xs.length,H,I.tok _,⟨_,by simp only[z1n];rw[J]⟩,q⟩
  ·subst e';obtain⟨its,Y,pl,hz⟩:=I.tuple O;have J:=Y.length;exact len_tuple pl (by simp only[z1n];lia) ⟨.int xs.length,H,I.tok _,⟨_,by simp only[z1n];rw[J]⟩,q⟩
 | _=>exact(show False from e).elim
end
structure ObjM (h:Heap) (x dx C:Addr) (mA:xE):Prop where
 obj:h.get? x=some (PySem.W.instObj C dx)
 ns:h.Ns1 dx mA
 ne:dx≠x
def qol{h:Heap}{dx:Addr}{mA:xE}(n:h.Ns1 dx mA):∃J,h.get? dx=some J/\∀name,PySem.W.lookIn name J=some (mA name):=by
 obtain⟨o,es,ep,ho,hd,hk,_,hm⟩:=n;refine⟨o,ho,λname=>?_⟩;have e:=hm name;unfold nsFind findBy at e;rw[<- Array.find?_toList]at e;unfold PySem.W.lookIn;rw[hd]
 dsimp only
 split
 ·rename_i y q;rw[q]at e;exact congrArg some e
 ·rename_i q;rw[q]at e;have a:es.toList.any (·.refKey)=false:=by
   rw[List.any_eq_false];intro y hy;obtain⟨z,t,hkey⟩:=hk y (Array.mem_toList_iff.mp hy);simp[DictEntry.refKey,hkey]
  have a':¬ es.toList.any (·.refKey)=true:=by rw[a];exact z19
  rw[if_neg a'];exact congrArg some e
def ObjM.look{h:Heap}{x dx C:Addr}{mA:xE}(I:ObjM h x dx C mA):∃J,PySem.W.InstAt h x (PySem.W.instObj C dx) C (some J)/\∀name,PySem.W.lookIn name J=some (mA name):=
 let ⟨J,ho,hl⟩:=qol I.ns
 ⟨J,⟨I.obj,rfl,rfl,ho⟩,hl⟩
section
variable{prog:Program}{w:World}{A:Around}{E:xB}{s:Shared}{K:xA}{x dx C f:Addr}{mA:xE}{name:Str}{v:Value}
def qtd{O:Bool}{Q:xB}(X:K.In s.heap)(I:ObjM s.heap x dx C mA)(hg:PySem.W.plainGet K C name=true)(hh:PySem.W.hasDictIn K C=true)
  (ha:PySem.W.findIn K (.ref C) name=some none) (hv:mA name=some v) (Y:PySem.W.handedIn v=true) (h:Q v {s with toks:=s.toks+1}):
  wpAny (model prog w) A (getAttr (.ref x) name O) Q E s:=by
 obtain⟨od,J,hl⟩:=I.look;exact PySem.W.get_value X J (PySem.W.plainGet_of hg).1 (PySem.W.findObj_own hh ha rfl (by rw[hl,hv])) Y h
def qr0{pl:Sem Bool}{Q:Value×List Value->Shared->Prop}(X:K.In s.heap)(I:ObjM s.heap x dx C mA)(O:PySem.W.plainGet K C name=true)
  (hf:PySem.W.findIn K (.ref C) name=some (some (.ref f))) (ht:PySem.W.isFn K (.ref f)=true) (hv:mA name=none) (h:Q (.ref f,[.ref x]) s):
  wpAny (model prog w) A (getMethod (.ref x) name pl) Q E s:=by
 obtain⟨od,J,hl⟩:=I.look;exact PySem.W.method_fn X J (PySem.W.plainGet_of O).1 (PySem.W.plainGet_of O).2 hf (beq_iff_eq.mp ht) (by show (PySem.W.lookIn name od).map (·.isSome)=some false;rw[hl,hv];rfl) h
def qte{ns:xD}{Q:Unit->Shared->Prop}(X:K.In s.heap)(I:ObjM s.heap x dx C mA)
  (hs:PySem.W.findIn K (.ref C) "__setattr__"=some (some (.builtin "object.__setattr__"))) (hp:PySem.W.plainOver K C=true) (ht:PySem.W.takerIn K C name=some none) (hh:PySem.W.hasDictIn K C=true)
  (hw:PySem.Within mA ns) (hsz:ns.length<=sizeLine)
  (h:∀h',ObjM h' x dx C (λy=>if y=name then some v else mA y)->Heap.SameBut dx s.heap h'->Q () {s with heap:=h',toks:=s.toks+2}):
  wpAny (model prog w) A (setAttr (.ref x) name v) Q E s:=by
 obtain⟨od,J,hl⟩:=I.look;refine PySem.W.set_plain X J hs (PySem.W.osa_open (s:={s with toks:=s.toks+1}) (r:=none) X J hp ht λb=>?_);obtain⟨cd,hc,a1⟩:=PySem.W.any_some hh;have hx:s.heap.get? x=some ⟨.ref C,some dx,.plain,#[]⟩:=I.obj;refine z3p (z3o (z3p (z3p (wpAny_loadPart hx (z3p (PySem.W.Looks.here (s:={s with toks:=s.toks+1}) (PySem.W.looks_clsIn X hc) ?_))))));rw[a1];refine z3o (a:=some dx) (z3p (z3o (z3p ?_)));refine wpAny_nsSet1 (s:={s with toks:=s.toks+1}) I.ns λh' O Y=>?_;obtain⟨oD,esD,epD,a3,a2,Z⟩:=O.count (PySem.Within.cons name v hw);refine z3p (wpAny_lookBehind a3 (by rw[a2];exact pastItsLine_dict (z3d Z (by rw[z20];lia))) ?_);exact z3o (h _ ⟨(Y.2 _ (Ne.symm I.ne)).trans I.obj,O,I.ne⟩ Y)
def qr1{R:Result->Shared->Prop}{vs:xH}{J:List (Str×Value)}(X:K.In s.heap)(hm:PySem.W.makesIn K C=true)
  (hi:PySem.W.findIn K (.ref C) "__init__"=some (some (.ref f))) (hf:PySem.W.typeIn K (.ref f)=some (.type "function"))
  (h:codeAny (model prog w) (A.under (.builtin "type.__call__" ⟨.ref C::vs,J⟩)) (.call (.ref f) ⟨.ref (s.heap.objs.size+1)::vs,J⟩) (PySem.W.InitBack (s.heap.objs.size+1) R)
   {s with heap:=(s.heap.push PySem.W.emptyDict).push (PySem.W.instObj C s.heap.objs.size)}):
  codeAny (model prog w) A (.call (.ref C) ⟨vs,J⟩) R s:=by
 obtain⟨hh,g,d,t,os⟩:=s;exact PySem.W.make_core (PySem.W.makes_of X hm) (PySem.W.looks_findIn X hi) (λself=>PySem.W.bind_fn X self hf) (.inl rfl) h
def qom{R:Result->Shared->Prop}(X:K.In s.heap)(hm:PySem.W.makesIn K C=true)
  (hi:PySem.W.findIn K (.ref C) "__init__"=some (some (.builtin "object.__init__")))
  (hb:∀self,PySem.W.Looks (model prog w) s.heap (bindSpecial (.builtin "object.__init__") self) (.builtin "object.__init__",[self]))
  (h:codeAny (model prog w) (A.under (.builtin "type.__call__" ⟨[.ref C],[]⟩)) (.call (.builtin "object.__init__") ⟨[.ref (s.heap.objs.size+1)],[]⟩) (PySem.W.InitBack (s.heap.objs.size+1) R)
   {s with heap:=(s.heap.push PySem.W.emptyDict).push (PySem.W.instObj C s.heap.objs.size)}):
  codeAny (model prog w) A (.call (.ref C) ⟨[],[]⟩) R s:=by
 obtain⟨hh,g,d,t,os⟩:=s;exact PySem.W.make_core (PySem.W.makes_of X hm) (PySem.W.looks_findIn X hi) hb (.inr ⟨zr,zr⟩) h
end
def putF(f:Str)(v:V):List (Str×V)->List (Str×V)
 | []=>[(f,v)]
 | (g,x)::r=>if g=f then (g,v)::r else (g,x)::putF f v r
theorem qdc(f g:Str)(v:V):∀fs:List (Str×V),(putF f v fs).lookup g=if g=f then some v else fs.lookup g
  | []=>by
    show List.lookup g [(f,v)]=_;by_cases h:g=f
    · have hb:(g==f)=true:=beq_iff_eq.mpr h
      simp only[List.lookup,hb,if_pos h]
    · have hb:(g==f)=false:=beq_eq_false_iff_ne.mpr h
      simp only[List.lookup,hb,if_neg h]
  | (k,x)::r=>by
    have ih:=qdc f g v r;rw[show putF f v ((k,x)::r)=(if k=f then (k,v)::r else (k,x)::putF f v r) from rfl];by_cases hk:k=f
    · rw[if_pos hk]
      by_cases h:g=k
      · have hb:(g==k)=true:=beq_iff_eq.mpr h
        simp only[List.lookup,hb,if_pos (h.trans hk)]
      · have hb:(g==k)=false:=beq_eq_false_iff_ne.mpr h
        simp only[List.lookup,hb,if_neg (λe:g=f=>h (e.trans hk.symm))]
    · rw[if_neg hk]
      by_cases h:g=k
      · have hb:(g==k)=true:=beq_iff_eq.mpr h
        simp only[List.lookup,hb,if_neg (λe:g=f=>hk (h.symm.trans e))]
      · have hb:(g==k)=false:=beq_eq_false_iff_ne.mpr h
        simp only[List.lookup,hb];exact ih
theorem qbm(f:Str)(v:V):∀fs:List (Str×V),f∈(putF f v fs).map (·.1)/\∀g,g∈fs.map (·.1)->g∈(putF f v fs).map (·.1)
  | []=>⟨by simp[putF],λg h=>by simp at h⟩
  | (k,x)::r=>by
    obtain⟨i1,i2⟩:=qbm f v r;rw[show putF f v ((k,x)::r)=(if k=f then (k,v)::r else (k,x)::putF f v r) from rfl];by_cases hk:k=f
    · rw[if_pos hk]
      subst hk;exact⟨by simp,λg h=>by simpa using h⟩
    · rw[if_neg hk]
      refine⟨?_,λg h=>?_⟩
      · rw[z30]
        exact z0v _ i1
      · rw[z30]at h ⊢
        rcases z32.mp h with e | e
        · exact z32.mpr (.inl e)
        · exact z0v _ (i2 g e)
theorem qdd(f:Str)(v:V):∀fs:List (Str×V),(putF f v fs).length<=fs.length+1
  | []=>by simp[putF]
  | (k,x)::r=>by
    have ih:=qdd f v r;rw[show putF f v ((k,x)::r)=(if k=f then (k,v)::r else (k,x)::putF f v r) from rfl];by_cases hk:k=f
    · rw[if_pos hk,z20,z20];lia
    · rw[if_neg hk,z20,z20];lia
def RelO.qcm{v:V}{o:Option Value}(r:RelO (some v) o):∃u,o=some u/\RelV v u:=by
 cases o with
 | none=>exact(show False from r).elim
 | some u=>exact⟨u,rfl,r⟩
def RelO.qtf{o:Option Value}(r:RelO none o):o=none:=by
 cases o with
 | none=>rfl
 | some u=>exact(show False from r).elim
def qon{v:V}{u:Value}(r:RelV v u):PySem.W.handedIn u=true:=by
 cases v with
 | non=>cases (show u=Value.none from r);rfl
 | bl b=>cases (show u=Value.bool b from r);rfl
 | int i=>obtain⟨t,e⟩:=(show ∃t,u=Value.int i t from r);cases e;rfl
 | str x=>obtain⟨t,e⟩:=(show ∃t,u=Value.str x t from r);cases e;rfl
 | byt b=>obtain⟨t,e⟩:=(show ∃t,u=Value.bytes b t from r);cases e;rfl
 | flt b=>obtain⟨t,e⟩:=(show ∃t,u=Value.float b t from r);cases e;rfl
 | ref a=>cases (show u=Value.ref a from r);rfl
 | ty n=>cases (show u=Value.type n from r);rfl
section
variable{P:Program}{w:World}{H H':Hp}{h h':Heap}{a C dx:Addr}{fs fs':List (Str×V)}
def qfs(hok:HOk P w H h)(e:H a=some (.ins C dx fs)):∃mA,ObjM h a dx C mA/\(∀f,RelO (fs.lookup f) (mA f))/\PySem.Within mA (fs.map (·.1))/\fs.length<=1000/\H dx=some (.own a):=by
 obtain⟨d,z,ne,ob,mA,n,r,q⟩:=(show ObjOk P w H h a (.ins C dx fs) from hok a _ e);exact⟨mA,⟨ob,n,ne⟩,r,q,z,d⟩
end
structure Cls (K:xA) (C:Addr):Prop where
 pg:PySem.W.plainGet K C Str.empty=true
 hd:PySem.W.hasDictIn K C=true
 po:PySem.W.plainOver K C=true
 sa:PySem.W.findIn K (.ref C) "__setattr__"=some (some (.builtin "object.__setattr__"))
def Cls.get{K:xA}{C:Addr}(c:Cls K C)(f:Str):PySem.W.plainGet K C f=true:=c.pg
def NoAttr(K:xA)(C:Addr)(f:Str):Prop:=PySem.W.findIn K (.ref C) f=some none
def NoAttr.taker{K:xA}{C:Addr}{f:Str}(n:NoAttr K C f):PySem.W.takerIn K C f=some none:=by
 unfold PySem.W.takerIn;rw[show PySem.W.findIn K (.ref C) f=some none from n];rfl
structure Meth (K:xA) (C:Addr) (m:Str) (f:Addr):Prop where
 at_:PySem.W.findIn K (.ref C) m=some (some (.ref f))
 fn:PySem.W.isFn K (.ref f)=true
 kp:PySem.W.keepIn K (.ref f)=true
section
variable{X:Cx}{xC:xG}{σ:St}{H:Hp}{s:Shared}{a C dx:Addr}{fs:List (Str×V)}{f:Str}{v:V}{A:Around}{E:xB}
def qmu{b:Bool}{Q:xB}(I:Inv X xC σ H s)(e:H a=some (.ins C dx fs))(c:Cls X.K C)(n:NoAttr X.K C f)(l:fs.lookup f=some v)
  (h:∀u s',Inv X xC σ H s'->RelV v u->Q u s'):wpAny (model X.prog X.w) A (getAttr (.ref a) f b) Q E s:=by
 obtain⟨mA,O,r,_,_,_⟩:=qfs I.hok e;obtain⟨u,hu,ru⟩:=RelO.qcm (v:=v) (o:=mA f) (by rw[<- l];exact r f);exact qtd I.kIn O (c.get f) c.hd n hu (qon ru) (h u _ (I.tok _) ru)
def qej{m:Str}{g:Addr}{pl:Sem Bool}{Q:Value×List Value->Shared->Prop}(I:Inv X xC σ H s)(e:H a=some (.ins C dx fs))(c:Cls X.K C)(k:Meth X.K C m g)(l:fs.lookup m=none)
  (h:Q (.ref g,[.ref a]) s):wpAny (model X.prog X.w) A (getMethod (.ref a) m pl) Q E s:=by
 obtain⟨mA,O,r,_,_,_⟩:=qfs I.hok e;have hn:mA m=none:=RelO.qtf (by rw[<- l];exact r m);exact qr0 I.kIn O (c.get m) k.at_ k.fn hn h
def qmv{y:V}{u:Value}{Q:Unit->Shared->Prop}(I:Inv X xC σ H s)(e:H a=some (.ins C dx fs))(c:Cls X.K C)(n:NoAttr X.K C f)(hl:fs.length < 1000)(ry:RelV y u)
  (h:∀s',Inv X xC σ (upd H a (.ins C dx (putF f y fs))) s'->Q () s'):wpAny (model X.prog X.w) A (setAttr (.ref a) f u) Q E s:=by
 obtain⟨mA,O,r,wi,_,ho⟩:=qfs I.hok e;have hz:(fs.map (·.1)).length<=sizeLine:=by rw[z2h,sizeLine_eq];lia
 refine qte I.kIn O c.sa c.po n.taker c.hd wi hz λh' J sb=>h _ ?_;have hd:∃o,h'.get? dx=some o:=let ⟨o,_,_,e',_⟩:=J.ns;⟨o,e'⟩
 refine I.write (x:=a) (e:=dx) (by rw[e];exact True.intro) (.inr ho) (λb q hb z=>(sb.2 b hb).trans z) hd ?_;refine⟨by rw[qk O.ne];exact ho,?_,O.ne,J.obj,_,J.ns,λg=>?_,λg hg=>?_⟩
 ·have:=qdd f y fs;lia
 ·show RelO ((putF f y fs).lookup g) (if g=f then some u else mA g);rw[qdc];by_cases q:g=f
  ·rw[if_pos q,if_pos q];exact ry
  ·rw[if_neg q,if_neg q];exact r g
 ·by_cases q:g=f
  ·rw[q];exact(qbm f y fs).1
  ·refine(qbm f y fs).2 g (wi g λz=>hg ?_);show (if g=f then some u else mA g)=none;rw[if_neg q];exact z
def Inv.made(I:Inv X xC σ H s):Inv X xC σ (upd (upd H s.heap.objs.size (.own (s.heap.objs.size+1))) (s.heap.objs.size+1) (.ins C s.heap.objs.size []))
  {s with heap:=(s.heap.push PySem.W.emptyDict).push (PySem.W.instObj C s.heap.objs.size)}:=by
 have e1:(s.heap.push PySem.W.emptyDict).get? s.heap.objs.size=some PySem.W.emptyDict:=z11 s.heap rfl;have e2:((s.heap.push PySem.W.emptyDict).push (PySem.W.instObj C s.heap.objs.size)).get? (s.heap.objs.size+1)=some (PySem.W.instObj C s.heap.objs.size):=by
  have:=z11 (s.heap.push PySem.W.emptyDict) (o:=PySem.W.instObj C s.heap.objs.size) rfl
  rwa [z2v]at this
 have e3:(s.heap.push PySem.W.emptyDict).Ns s.heap.objs.size (λ_=>none):=⟨PySem.W.emptyDict,#[],_,e1,rfl,(λe he=>absurd he (by simp)),λ_=>rfl⟩;have I1:=I.laid (a:=s.heap.objs.size) (o:= .own (s.heap.objs.size+1)) (h':=s.heap.push PySem.W.emptyDict) (t':=s.toks) (λb u q=>z0l _ q) (z3j _) ⟨_,e1⟩;refine I1.laid (a:=s.heap.objs.size+1) (o:= .ins C s.heap.objs.size []) (t':=s.toks) (λb u q=>z0l _ q) (Nat.le_of_eq (z2v _ _)) ?_;have ne:s.heap.objs.size≠s.heap.objs.size+1:=z3c (z23 _);refine⟨by rw[qk ne,qb],z3m _,ne,e2,λ_=>none,(Heap.Ns1.of_empty e3).at λo q=>z0l _ q,λ_=>True.intro,λy hy=>absurd rfl hy⟩
def qtg{prog:Program}{w:World}{env:Env}{e:Expr}{f:Str}{pos:Pos}{s:Shared}{Q:xB}(hb:attributeBase e f env (eval e env)=eval e env)
  (h:wpAny (model prog w) A (eval e env) (λo s₁=>wpAny (model prog w) A (getAttr o f true) Q E s₁) E s):wpAny (model prog w) A (eval (.Attribute e f pos) env) Q E s:=
 Attribute_any_ h (by rw[arm_eval_Attribute,hb])
end
def tFld(K:xA)(ta:TE)(f:Str):TE:=λσ H Q=>ta σ H λx H1=>∃a C dx fs v,x= .ref a/\H1 a=some (.ins C dx fs)/\Cls K C/\NoAttr K C f/\fs.lookup f=some v/\Q v H1
def sFld(K:xA)(ta tv:TE)(f:Str):TS:=λD σ H=>tv σ H λy H1=>ta σ H1 λx H2=>∃a C dx fs,x= .ref a/\H2 a=some (.ins C dx fs)/\Cls K C/\NoAttr K C f/\fs.length < 1000/\
 D.nx σ (upd H2 a (.ins C dx (putF f y fs)))
section
variable{X:Cx}{o e value:Expr}{f:Str}{pos pos' tpos:Pos}{ta tv:TE}
def qo(he:PE X e ta)(hb:attributeBase e f X.env (eval e X.env)=eval e X.env):PE X (.Attribute e f pos) (tFld X.K ta f):=by
 intro xC s σ H Q I h;refine qtg hb (thn (he xC s σ H _ I h) λu s1 J=>?_);obtain⟨x,H1,I1,rx,a,C,dx,fs,v,ex,ea,c,n,l,q⟩:=J;subst ex;obtain rfl:u=Value.ref a:=rx;exact qmu I1 ea c n l λu' s2 I2 ru=>⟨v,H1,I2,ru,q⟩
def q1h(ha:PE X o ta)(hv:PE X value tv)(hs:swapsWith value (some (.Attribute o f pos')) pos.line X.env=pure false):PS X (.Assign [.Attribute o f pos'] value pos) (sFld X.K ta tv f):=by
 intro xC s σ H D I h;refine plainObj_wpAny_Assign_Attribute (thn (hv xC s σ H _ I h) λu s1 ⟨y,H1,I1,ry,q⟩=>thn (ha xC s1 σ H1 _ I1 q) λov s2 J=>?_) hs;obtain⟨x,H2,I2,rx,a,C,dx,fs,ex,ea,c,n,l,q2⟩:=J;subst ex;obtain rfl:ov=Value.ref a:=rx;exact qmv I2 ea c n l ry λs3 I3=>⟨σ,_,I3,q2⟩
end
section
variable{X:Cx}{xC:xG}{σ:St}{H:Hp}{s:Shared}{A:Around}{E:xB}{Q:xB}{c:Value}{b:Bool}
end
structure Room (k:Nat) (A:Around):Prop where
 hd:A.handled=none
 dp:A.depth+3*k+5 < recursionLimit
 un:A.units+16*k+200 < cLine
def Room.mono{j k:Nat}{A:Around}(r:Room k A)(h:j<=k):Room j A:=⟨r.hd,by have:=r.dp;lia,by have:=r.un;lia⟩
theorem Room.deeper{k:Nat}{A:Around}(r:Room (k+1) A)(env:Env):Room k (A.deeper env):=
 ⟨r.hd,by have:=r.dp;show A.depth+1+3*k+5 < _;lia,by have:=r.un;show A.units+3+16*k+200 < _;lia⟩
theorem Room.in1{k:Nat}{A:Around}(r:Room (k+1) A):Room k A.in1:=
 ⟨r.hd,by have:=r.dp;show A.depth+3*k+5 < _;lia,by have:=r.un;show A.units+1+16*k+200 < _;lia⟩
def qmw{A:Around}{C:Addr}{us:xH}{kw:List (Str×Value)}:(A.under (.builtin "type.__call__" ⟨.ref C::us,kw⟩)).depth=A.depth+1:=by
 first | rfl | simp[Around.under,Code.weight,Code.isCreation,Code.isGuard,Code.isCaller,Code.frames,Code.isFrame,guardIds]
def qmx{A:Around}{C:Addr}{us:xH}{kw:List (Str×Value)}:(A.under (.builtin "type.__call__" ⟨.ref C::us,kw⟩)).units=A.units+1:=by
 first | rfl | simp[Around.under,Code.cUnits,Code.frames,Code.isFrame]
def Room.make{k:Nat}{A:Around}(r:Room (k+1) A)(C:Addr)(us:xH)(kw:List (Str×Value)):Room k (A.under (.builtin "type.__call__" ⟨.ref C::us,kw⟩)):=
 ⟨r.hd,by have:=r.dp;rw[qmw];lia,by have:=r.un;rw[qmx];lia⟩
theorem Room.depth{k:Nat}{A:Around}(r:Room k A):A.depth < recursionLimit:=by have:=r.dp;lia
theorem Room.units{k:Nat}{A:Around}(r:Room k A):A.units+64 < cLine:=by have:=r.un;lia
def tNil:TA:=λ_ H Q=>Q [] H
def q2u(ta:TE)(tr:TA):TA:=λσ H Q=>ta σ H λx H1=>tr σ H1 λxs H2=>Q (x::xs) H2
section
variable{X:Cx}{e:Expr}{es:List Expr}{te:TE}{t:TA}{pos:Pos}
def q1i:PA X [] tNil:=λ_ _ _ _ H Q I h=>Calls.spliced_nil ⟨[],H,I,.nil,h⟩
def qth(ha:PE X e te)(hr:PA X es t)(hs:starEach (e::es) X.env=(false,eval e X.env)::starEach es X.env:=by rfl):PA X (e::es) (q2u te t):=by
 intro pos xC s σ H Q I h;rw[hs];show wpAny _ _ (spliced ((false,eval e X.env)::backTo pos (starEach es X.env))) _ _ s;refine Calls.spliced_cons (thn (ha xC s σ H _ I h) λu s1 J=>?_);obtain⟨x,H1,I1,r1,q1⟩:=J;exact thn (hr pos xC s1 σ H1 _ I1 q1) λus s2 ⟨xs,H2,I2,r2,q2⟩=>⟨x::xs,H2,I2,.cons r1 r2,q2⟩
def tTup(t:TA):TE:=λσ H Q=>t σ H λxs H1=>xs.length<=sizeLine/\∀p,H1 p=none->Q (.ref p) (upd H1 p (.tup xs))
def tLst(t:TA):TE:=λσ H Q=>t σ H λxs H1=>xs.length<=sizeLine/\∀p,H1 p=none->Q (.ref p) (upd H1 p (.lst xs))
def q13{x1}(h:PA X es t):PE X (.Tuple es x1 pos) (tTup t):=by
 intro xC s σ H Q I hq;refine wpAny_Tuple_spliced (thn (h pos xC s σ H _ I hq) λus s1 ⟨xs,H1,I1,r,z,q⟩=>⟨by rw[<- r.length];exact z,?_⟩);have hf:H1 s1.heap.objs.size=none:=I1.hok.fresh (z3j _);refine⟨.ref s1.heap.objs.size,upd H1 s1.heap.objs.size (.tup xs),I1.laid (t':=s1.toks) (λb u e=>z0l _ e) (z3j _) ?_,zr,q _ hf⟩;exact⟨z,us,r,⟨_,z11 _ rfl,zr,_,zr⟩⟩
def q1f(h:PA X es t):PE X (.List es pos) (tLst t):=by
 intro xC s σ H Q I hq;refine wpAny_List_spliced (thn (h pos xC s σ H _ I hq) λus s1 ⟨xs,H1,I1,r,z,q⟩=>⟨by rw[<- r.length];exact z,?_⟩);have hf:H1 s1.heap.objs.size=none:=I1.hok.fresh (z3j _);refine⟨.ref s1.heap.objs.size,upd H1 s1.heap.objs.size (.lst xs),I1.laid (t':=s1.toks) (λb u e=>z0l _ e) (z3j _) ?_,zr,q _ hf⟩;exact⟨z,us,0,r,z11 _ rfl⟩
end
abbrev Sp:=List V->Hp->VK->XK->Prop
abbrev CXT:=List Env->Hp->Shared->XK->Value->Shared->Prop
structure Env0 (P:Program) (w:World) (K:xA) (mg:xE) (base:Heap) (A:Around) (outer:List Env) (s:Shared) (H:Hp):Prop where
 frames:A.frames=some outer
 mod:Mod K mg base
 bs:∀b o,base.get? b=some o->s.heap.get? b=some o/\H b=none
 bsz:base.objs.size<=s.heap.objs.size
 funs:s.heap.FunFrames base outer
 frf:∀b∈frs outer,H b=none
 hok:HOk P w H s.heap
 bare:AllBare s.gens
def CE(outer:List Env)(P:Program)(w:World)(H:Hp)(s:Shared)(Q:VK)(u:Value)(s':Shared):Prop:=
 ∃v H',s'.os=s.os/\AllBare s'.gens/\Un (frs outer) [] H H' s.heap s'.heap/\HOk P w H' s'.heap/\RelV v u/\Q v H'
def CR(CX:CXT)(outer:List Env)(P:Program)(w:World)(H:Hp)(s:Shared)(Q:VK)(E:XK)(r:Result)(s':Shared):Prop:=
 match r with
 | .ok (.ret u)=>CE outer P w H s Q u s'
 | .ok _=>False
 | .error e=>CX outer H s E e s'
structure FnOk (P:Program) (w:World) (K:xA) (mg:xE) (base:Heap) (CX:CXT) (k:Nat) (f:Addr) (fd:FuncData) (ps:xD) (sp:Sp):Prop where
 len:∀vs H Q E,sp vs H Q E->vs.length=ps.length
 run:∀(A:Around) (outer:List Env) (s:Shared) (H:Hp) (args:Args) (us:xH) (vs:List V) (Q:VK) (E:XK),Room k A->Env0 P w K mg base A outer s H->BindsTo s fd args (ps.zip us)->Vals vs us->sp vs H Q E->
  codeAny (model P w) A (.call (.ref f) args) (CR CX outer P w H s Q E) s
theorem FnOk.mono{P:Program}{w:World}{K:xA}{mg:xE}{base:Heap}{CX:CXT}{j k:Nat}{f:Addr}{fd:FuncData}{ps:xD}{sp:Sp}(F:FnOk P w K mg base CX j f fd ps sp)(h:j<=k):
  FnOk P w K mg base CX k f fd ps sp:=⟨F.len,λA outer s H args us vs Q E hr=>F.run A outer s H args us vs Q E (hr.mono h)⟩
def Env0.make{P:Program}{w:World}{K:xA}{mg:xE}{base:Heap}{A:Around}{outer:List Env}{s:Shared}{H:Hp}(e:Env0 P w K mg base A outer s H)(C:Addr)(us:xH)(kw:List (Str×Value)):
  Env0 P w K mg base (A.under (.builtin "type.__call__" ⟨.ref C::us,kw⟩)) outer s H:=⟨by first | exact e.frames | (simpa [Around.under,Code.envs,Code.isFrame,pushEnvs] using e.frames),e.mod,e.bs,e.bsz,e.funs,e.frf,e.hok,e.bare⟩
theorem Env0.in1{P:Program}{w:World}{K:xA}{mg:xE}{base:Heap}{A:Around}{outer:List Env}{s:Shared}{H:Hp}(e:Env0 P w K mg base A outer s H):
  Env0 P w K mg base A.in1 outer s H:=⟨e.frames,e.mod,e.bs,e.bsz,e.funs,e.frf,e.hok,e.bare⟩
section
variable{X:Cx}{xC:xG}{σ:St}{H:Hp}{s s':Shared}
def Inv.env0(I:Inv X xC σ H s):Env0 X.prog X.w X.K X.mg X.base X.A X.stack s H:=
 ⟨I.ok.frames,I.ok.mod,I.bs,z3d I.ok.bsz I.sz,I.stack,I.stkFree,I.hok,I.bare⟩
def Inv.after{Q:VK}{u:Value}(I:Inv X xC σ H s)(h:CE X.stack X.prog X.w H s Q u s'):EP X xC σ Q u s':=by
 obtain⟨v,H',os,bare,un,hok,r,q⟩:=h;obtain⟨hh,g,d,t,J⟩:=s';obtain rfl:J=s.os:=os;exact⟨v,H',I.call (h':=hh) (g':=g) (d':=d) (t':=t) (ch:=[]) un hok bare (λb z=>absurd z (by simp)),r,q⟩
end
def qmy(sp:Sp)(dvs:List V)(E:XK)(t:TA):TE:=λσ H Q=>t σ H λvs H1=>sp (vs++dvs) H1 Q E
def qek(C:Addr)(m:Str)(sp:Sp)(dvs:List V)(E:XK)(ta:TE)(t:TA):TE:=λσ H Q=>ta σ H λx H1=>∃a dx fs,x= .ref a/\H1 a=some (.ins C dx fs)/\fs.lookup m=none/\
 t σ H1 λvs H2=>sp (x::(vs++dvs)) H2 Q E
def qst(C:Addr)(sp:Sp)(dvs:List V)(E:XK)(t:TA):TE:=λσ H Q=>t σ H λvs H1=>∀x dx,H1 x=none->H1 dx=none->dx≠x->
 sp (.ref x::(vs++dvs)) (upd (upd H1 dx (.own x)) x (.ins C dx [])) (λv H2=>v= .non/\Q (.ref x) H2) E
def Binds(K:xA)(fd:FuncData)(ps:xD)(ds:xH):Prop:=
 ∀(s:Shared) (us:xH),K.In s.heap->(us++ds).length=ps.length->BindsTo s fd ⟨us,[]⟩ (ps.zip (us++ds))
def Binds.all{K:xA}{fd:FuncData}{ps:xD}(h:∀us:List Value,us.length=ps.length->bindArgs fd ⟨us,[]⟩=pure (ps.zip us)):Binds K fd ps []:=λs us _ hl=>by
 rw[z2i]at hl ⊢;exact .of_eq (h us hl)
def q5f(CX:CXT)(X:Cx)(E:XK):Prop:=∀(xC:xG) (σ:St) (H:Hp) (s:Shared) (e:Value) (s':Shared),Inv X xC σ H s->CX X.stack H s E e s'->X.xe e s'
section
variable{X:Cx}{CX:CXT}{k:Nat}{f C:Addr}{fd:FuncData}{ps:xD}{sp:Sp}{dvs:List V}{ds:xH}{E:XK}{x m:Str}{p pos apos:Pos}{e o:Expr}{es:List Expr}{ta:TE}{t:TA}
def qir{xC:xG}{σ:St}{H:Hp}{s:Shared}{Q:VK}{us:xH}{vs:List V}(F:FnOk X.prog X.w X.K X.mg X.base CX k f fd ps sp)(hr:Room k X.A)(hb:Binds X.K fd ps ds)(hd:Vals dvs ds)(hx:q5f CX X E)
  (I:Inv X xC σ H s) (r:Vals vs us) (h:sp (vs++dvs) H Q E):wpAny (model X.prog X.w) X.A (call (.ref f) us) (EP X xC σ Q) X.xe s:=by
 have r2:Vals (vs++dvs) (us++ds):=r.append hd;have hl:(us++ds).length=ps.length:=by rw[<- r2.length];exact F.len _ _ _ _ h
 refine wpAny_call (z3f (F.run X.A X.stack s H ⟨us,[]⟩ (us++ds) (vs++dvs) Q E hr I.env0 (hb s us I.kIn hl) r2 h) λr s' hq=>?_);cases r with
 | error e=>exact hx xC σ H s e s' I hq
 | ok fl=>
  cases fl with
  | ret u=>exact I.after hq
  | next=>exact False.elim hq
  | brk=>exact False.elim hq
  | cont=>exact False.elim hq
def qlx(F:FnOk X.prog X.w X.K X.mg X.base CX k f fd ps sp)(hr:Room k X.A)(hg:Gl X x)(hm:X.mg x=some (.ref f))(hk:PySem.W.keepIn X.K (.ref f)=true)(hb:Binds X.K fd ps ds)(hd:Vals dvs ds)(hx:q5f CX X E)
  (ha:PA X (e::es) t) (J:(x==("__debug__":Str))=false:=by decide) (he:starEach (e::es) X.env=(false,eval e X.env)::starEach es X.env:=by rfl) (O:(backTo pos (starEach es X.env)).any (·.1)=false:=by rfl):
  PE X (.Call (.Name x p) (e::es) [] pos) (qmy sp dvs E t):=by
 intro xC s σ H Q I h;refine z1f (q7z I hg hm ?_ J);refine PySem.W.callWith_K (h₀:=X.base) I.ok.mod.kin hk (thn (ha pos xC s σ H _ I h) λus s1 ⟨vs,H1,I1,r,q⟩=>⟨I1.kIn,?_⟩) he O;exact qir F hr hb hd hx I1 r q
def qti{pl:Sem Bool}(he:PE X o ta)(c:Cls X.K C)(hm:Meth X.K C m f)(F:FnOk X.prog X.w X.K X.mg X.base CX k f fd ps sp)(hr:Room k X.A)(hb:Binds X.K fd ps ds)(hd:Vals dvs ds)(hx:q5f CX X E)(ha:PA X (e::es) t)
  (O:starEach (e::es) X.env=(false,eval e X.env)::starEach es X.env:=by rfl) (J:(backTo pos (starEach es X.env)).any (·.1)=false:=by rfl)
  (ht:eval (.Call (.Attribute o m apos) (e::es) [] pos) X.env=(do
   let ov <- eval o X.env
   standAt apos.atName
   let (f,first) <- holding [ov] (getMethod ov m pl)
   callWith pos f first (backTo pos (starEach (e::es) X.env)) (backToKw pos (keywordEach [] X.env))):=by rfl):
  PE X (.Call (.Attribute o m apos) (e::es) [] pos) (qek C m sp dvs E ta t):=by
 intro xC s σ H Q I h;refine PySem.W.methodCall_KW (pl:=pl) (thn (he xC s σ H _ I h) λu s1 Y=>?_) ht;obtain⟨x,H1,I1,rx,a,dx,fs,ex,ea,l,q⟩:=Y;subst ex;obtain rfl:u=Value.ref a:=rx;refine qej I1 ea c hm l ?_;refine PySem.W.callWith_K (first:=[.ref a]) (h₀:=X.base) I.ok.mod.kin hm.kp (thn (ha pos xC s1 σ H1 _ I1 q) λus s2 ⟨vs,H2,I2,r,q2⟩=>⟨I2.kIn,?_⟩) O J;exact qir (us:= .ref a::us) (vs:= .ref a::vs) F hr hb hd hx I2 (.cons rfl r) q2
def qr2{pl:Sem Bool}(he:PE X o ta)(c:Cls X.K C)(hm:Meth X.K C m f)(F:FnOk X.prog X.w X.K X.mg X.base CX k f fd ps sp)(hr:Room k X.A)(hb:Binds X.K fd ps ds)(hd:Vals dvs ds)(hx:q5f CX X E)
  (ht:eval (.Call (.Attribute o m apos) [] [] pos) X.env=(do
   let ov <- eval o X.env
   standAt apos.atName
   let (f,first) <- holding [ov] (getMethod ov m pl)
   callWith pos f first (backTo pos (starEach [] X.env)) (backToKw pos (keywordEach [] X.env))):=by rfl):
  PE X (.Call (.Attribute o m apos) [] [] pos) (qek C m sp dvs E ta tNil):=by
 intro xC s σ H Q I h;refine PySem.W.methodCall_KW (pl:=pl) (thn (he xC s σ H _ I h) λu s1 J=>?_) ht;obtain⟨x,H1,I1,rx,a,dx,fs,ex,ea,l,q⟩:=J;subst ex;obtain rfl:u=Value.ref a:=rx;refine qej I1 ea c hm l ?_;exact PySem.W.callWith_K0 (first:=[.ref a]) I1.kIn hm.kp (qir (us:=[.ref a]) (vs:=[.ref a]) F hr hb hd hx I1 (.cons rfl .nil) q)
structure Mk (K:xA) (C f:Addr):Prop where
 makes:PySem.W.makesIn K C=true
 init:PySem.W.findIn K (.ref C) "__init__"=some (some (.ref f))
 fn:PySem.W.isFn K (.ref f)=true
 kp:PySem.W.keepIn K (.ref C)=true
def qr3{xC:xG}{σ:St}{H:Hp}{s:Shared}{Q:VK}{us:xH}{vs:List V}(M:Mk X.K C f)(F:FnOk X.prog X.w X.K X.mg X.base CX k f fd ps sp)(hr:Room (k+1) X.A)(hb:Binds X.K fd ps ds)(hd:Vals dvs ds)
  (hx:q5f CX X E) (I:Inv X xC σ H s) (r:Vals vs us)
  (h:∀x dx,H x=none->H dx=none->dx≠x->sp (.ref x::(vs++dvs)) (upd (upd H dx (.own x)) x (.ins C dx [])) (λv H2=>v= .non/\Q (.ref x) H2) E):
  wpAny (model X.prog X.w) X.A (call (.ref C) us) (EP X xC σ Q) X.xe s:=by
 have hq:=h (s.heap.objs.size+1) s.heap.objs.size (I.hok.fresh (Nat.le_succ _)) (I.hok.fresh (z3j _)) (z3c (z23 _));have I2:=Inv.made (C:=C) I;have r2:Vals (V.ref (s.heap.objs.size+1)::(vs++dvs)) (Value.ref (s.heap.objs.size+1)::(us++ds)):= .cons rfl (r.append hd);have hl:(Value.ref (s.heap.objs.size+1)::us++ds).length=ps.length:=by
  have e:=r2.length;rw[F.len _ _ _ _ hq]at e;exact e.symm
 refine wpAny_call (qr1 (f:=f) I.kIn M.makes M.init (beq_iff_eq.mp M.fn) (z3f (F.run _ X.stack _ _ ⟨Value.ref (s.heap.objs.size+1)::us,[]⟩ (Value.ref (s.heap.objs.size+1)::(us++ds)) _ _ E (hr.make C us [])
  (I2.env0.make C us []) (hb _ (Value.ref (s.heap.objs.size+1)::us) I2.kIn hl) r2 hq) λr s' J=>?_))
 cases r with
 | error e=>exact hx xC σ _ _ e s' I2 J
 | ok fl=>
  cases fl with
  | ret u=>
   obtain⟨v,H',I3,rv,ev,q3⟩:=I2.after J;subst ev;exact⟨rv,⟨V.ref (s.heap.objs.size+1),H',I3,zr,q3⟩⟩
  | next=>exact False.elim J
  | brk=>exact False.elim J
  | cont=>exact False.elim J
def qtj(M:Mk X.K C f)(F:FnOk X.prog X.w X.K X.mg X.base CX k f fd ps sp)(hr:Room (k+1) X.A)(hg:Gl X x)(hm:X.mg x=some (.ref C))(hb:Binds X.K fd ps ds)(hd:Vals dvs ds)(hx:q5f CX X E)
  (ha:PA X (e::es) t) (J:(x==("__debug__":Str))=false:=by decide) (he:starEach (e::es) X.env=(false,eval e X.env)::starEach es X.env:=by rfl) (O:(backTo pos (starEach es X.env)).any (·.1)=false:=by rfl):
  PE X (.Call (.Name x p) (e::es) [] pos) (qst C sp dvs E t):=by
 intro xC s σ H Q I h;refine z1f (q7z I hg hm ?_ J);refine PySem.W.callWith_K (h₀:=X.base) I.ok.mod.kin M.kp (thn (ha pos xC s σ H _ I h) λus s1 ⟨vs,H1,I1,r,q⟩=>⟨I1.kIn,?_⟩) he O;exact qr3 M F hr hb hd hx I1 r q
end
def PK(X:Cx)(kws:List Keyword)(t:TA):Prop:=
 ∀(pos:Pos) (xC:xG) (s:Shared) (σ:St) (H:Hp) (Q:List V->Hp->Prop),Inv X xC σ H s->t σ H Q->wpAny (model X.prog X.w) X.A (evalAll ((backToKw pos (keywordEach kws X.env)).map (·.2))) (AP X xC σ Q) X.xe s
section
variable{X:Cx}{CX:CXT}{k:Nat}{f C:Addr}{fd:FuncData}{ps ks:xD}{sp:Sp}{E:XK}{x m:Str}{p pos apos kpos:Pos}{e o:Expr}{es:List Expr}{kws:List Keyword}{te ta:TE}{t tk:TA}{nm:Option Str}
def qoo:PK X [] tNil:=λ_ _ _ _ H Q I h=>wpAny_evalAll_nil ⟨[],H,I,.nil,h⟩
def qly(ha:PE X e te)(hr:PK X kws t):PK X (⟨nm,e,kpos⟩::kws) (q2u te t):=by
 intro pos xC s σ H Q I h;show wpAny _ _ (evalAll ((do let v <- eval e X.env;standAt pos;pure v)::(backToKw pos (keywordEach kws X.env)).map (·.2))) _ _ s;refine wpAny_evalAll_cons (z3p (thn (ha xC s σ H _ I h) λu s1 ⟨x,H1,I1,r1,q1⟩=>z3p (wpAny_standAt (z3o ?_))));exact thn (hr pos xC s1 σ H1 _ I1 q1) λus s2 ⟨xs,H2,I2,r2,q2⟩=>⟨x::xs,H2,I2,.cons r1 r2,q2⟩
variable{g:List Value->List Value->List Value}{gV:List V->List V->List V}
end
structure FnScope (N P:xD) (sc:Scope):Prop where
 kind:sc.kind= .function
 co:sc.isCoroutine=false
 gen:sc.isGenerator=false
 nd:N.Nodup
 pre:N.take P.length=P
 par:∀x∈P,sc.names.lookup x=some .local\/ sc.names.lookup x=some .cell
 nofree:∀y∈sc.names,y.2≠ .free
theorem qgv{kindOf:Str->Option NameKind}{x:Str}:∀{J:List (Str×Value)} {m:xE},(∀v,(x,v)∉J)->bindL kindOf J m x=m x
  | [],_,_=>rfl
  | (n,v)::r,m,h=>by
    unfold bindL;rw[qgv λw hw=>h w (z0v _ hw)];split
    · have:x≠n:=by rintro rfl;exact h v z1c
      simp[this]
    · rfl
theorem qgw{kindOf:Str->Option NameKind}{x:Str}:∀{J:List (Str×Value)} {m:xE},(∀v,(x,v)∉J)->bindC kindOf J m x=m x
  | [],_,_=>rfl
  | (n,v)::r,m,h=>by
    unfold bindC;rw[qgw λw hw=>h w (z0v _ hw)];split
    · rfl
    · have:x≠n:=by rintro rfl;exact h v z1c
      simp[this]
theorem qgx{kindOf:Str->Option NameKind}{x:Str}{v:Value}:∀{P:xD} {vs:xH} {i:Nat} {m:xE},P.Nodup->P[i]? =some x->vs[i]? =some v->kindOf x=some .local->
  bindL kindOf (P.zip vs) m x=some v
 | [],_,_,_,_,h,_,_=>by simp at h
 | _::_,[],_,_,_,_,h,_=>by simp at h
 | p::P,w::vs,0,m,nd,h1,h2,hk=>by
  simp at h1 h2;subst h1;subst h2
  show bindL kindOf ((p,w)::P.zip vs) m p=_;unfold bindL;rw[qgv λv hv=>(z2j.mp nd).1 (List.of_mem_zip hv).1,if_pos hk];simp
 | p::P,w::vs,i+1,m,nd,h1,h2,hk=>by
  show bindL kindOf ((p,w)::P.zip vs) m x=_;unfold bindL;exact qgx (i:=i) (z2j.mp nd).2 (by simpa using h1) (by simpa using h2) hk
theorem qgy{kindOf:Str->Option NameKind}{x:Str}{v:Value}:∀{P:xD} {vs:xH} {i:Nat} {m:xE},P.Nodup->P[i]? =some x->vs[i]? =some v->kindOf x≠some .local->
  bindC kindOf (P.zip vs) m x=some v
 | [],_,_,_,_,h,_,_=>by simp at h
 | _::_,[],_,_,_,_,h,_=>by simp at h
 | p::P,w::vs,0,m,nd,h1,h2,hk=>by
  simp at h1 h2;subst h1;subst h2
  show bindC kindOf ((p,w)::P.zip vs) m p=_;unfold bindC;rw[qgw λv hv=>(z2j.mp nd).1 (List.of_mem_zip hv).1,if_neg hk];simp
 | p::P,w::vs,i+1,m,nd,h1,h2,hk=>by
  show bindC kindOf ((p,w)::P.zip vs) m x=_;unfold bindC;exact qgy (i:=i) (z2j.mp nd).2 (by simpa using h1) (by simpa using h2) hk
def q5i(N:xD)(vs:List V):St:=vs.map some++List.replicate (N.length - vs.length) none
def cxOf(CX:CXT)(P:Program)(w:World)(K:xA)(mg:xE)(base:Heap)(N:xD)(qual:Str)(scope:Scope)(f:Addr)(cd:Value)(A:Around)(outer:List Env)(s:Shared)(H:Hp)(E:XK):Cx where
 prog:=P
 w:=w
 K:=K
 mg:=mg
 base:=base
 A:=A.deeper (envOfC qual scope s.heap.objs.size f cd)
 N:=N
 s₀:=s
 H₀:=H
 env:=envOfC qual scope s.heap.objs.size f cd
 outer:=outer
 stack:=envOfC qual scope s.heap.objs.size f cd::outer
 ex:=[]
 calm:=true
 fn:=λ_=>true
 pn:=[]
 xe:=λe s'=>wpAny (model P w) (A.deeper (envOfC qual scope s.heap.objs.size f cd)) (leaving (envOfC qual scope s.heap.objs.size f cd) e) (λ_ s''=>CX outer H s E e s'') (λe' s''=>CX outer H s E e' s'') s'
def qis{sc:Scope}{n:Nat}{x:Str}(h:sc.names.lookup x=some .cell):∃c,(cellsFrom n sc.names []).lookup x=some c:=by
 have q:=PySem.W.cellsFrom_some sc.names n [] (.inl h);exact Option.isSome_iff_exists.mp q
def qop{CX:CXT}{P:Program}{w:World}{K:xA}{mg:xE}{base:Heap}{N ps:xD}{qual:Str}{scope:Scope}{f:Addr}{cd:Value}{A:Around}{outer:List Env}{s s1:Shared}{H:Hp}{E:XK}{us:xH}{vs:List V}
    (S:FnScope N ps scope) (hd:A.handled=none) (J:Env0 P w K mg base A outer s H) (hl:vs.length=ps.length) (r:Vals vs us)
    (x:InCallC s s.heap.objs.size (bindL (envOfC qual scope s.heap.objs.size f cd).kindOf (ps.zip us) λ_=>none) (cellsFrom (s.heap.objs.size+1) scope.names []) (bindC (envOfC qual scope s.heap.objs.size f cd).kindOf (ps.zip us) λ_=>none) s1):
    Inv (cxOf CX P w K mg base N qual scope f cd A outer s H E) [] (q5i N vs) H s1:=by
  have hpl:ps.length<=N.length:=by have:=congrArg List.length S.pre;rw[z1y]at this;lia
  obtain⟨h1,tk,rfl,hk⟩:=x.done;have O:∀b:Addr,b∉(cxOf CX P w K mg base N qual scope f cd A outer s H E).ex:=λb z=>absurd (show b∈([]:List Addr) from z) (by simp);refine⟨⟨J.mod,S.kind,zr,zr,z3j _,λy z c h1 h2=>?_,λy hy=>?_,λy c _ h=>?_,λ_=>hd,Around.frames_deeper J.frames,.inr ⟨zr,zr⟩,λb z=>absurd z (O b),J.bs,J.bsz,λb _ _=>O b,λb z=>absurd z (O b),J.funs,J.frf⟩,
    rfl,J.bare,Un.kept hk,⟨_,x.toInCall.ns,λi y v h1 h2 h3=>?_⟩,λy c h=>⟨_,x.cell y c h⟩,J.hok.fresh (z3j _),λy c h=>?_,λp Y=>absurd (show p∈([]:xG) from Y) (by simp),J.hok.kept hk,?_⟩
  · exact name_of_addr x.apart (z12 h1) (z12 h2)
  · have hy:scope.names.lookup y=some .cell\/ scope.names.lookup y=some .free:=hy
    rcases hy with hy | hy
    · exact qis hy
    · exact absurd rfl (S.nofree _ (z12 hy))
  · exact z3a (x.above y c (z12 h))
  · have hi:i < vs.length:=by
      unfold q5i at h2;by_cases hi:i < vs.length
      · exact hi
      · rw[z04 (by simpa using hi)]at h2
        rw[List.getElem?_replicate]at h2;split at h2 <;> cases h2
    have ha:vs[i]? =some v:=by
      unfold q5i at h2;rw[List.getElem?_append_left (by simpa using hi),z1m]at h2;cases e:vs[i]? with
      | none=>rw[e]at h2;cases h2
      | some a=>rw[e]at h2;cases h2;rfl
    obtain⟨u,hu,rv⟩:=r.get ha;have Y:ps[i]? =some y:=by
      rw[<- S.pre,List.getElem?_take_of_lt (by lia)];exact h1
    have Z:ps.Nodup:=by rw[<- S.pre];exact S.nd.sublist (List.take_sublist _ _)
    refine⟨u,rv,?_⟩;rcases S.par y (z0x Y) with k | k
    · exact .inl ⟨k,qgx Z Y hu k⟩
    · obtain⟨c,e⟩:=qis (n:=s.heap.objs.size+1) k
      refine .inr ⟨.inl k,c,e,?_⟩;have q:=x.cell y c e;rw[qgy Z Y hu (by show scope.names.lookup y≠_;rw[k];decide)]at q;exact q
  · exact J.hok.fresh (z3a (x.above y c (z12 h)))
  · unfold q5i
    show _=N.length;rw[z1b,z2h,List.length_replicate]
    lia
def qsu{CX:CXT}{P:Program}{w:World}{K:xA}{mg:xE}{base:Heap}{k:Nat}{f:Addr}{name qual:Str}{params:Arguments}{body:List Stmt}{scope:Scope}{dV kV a1 pm cdv ct oc:Value}{an od:Option Addr}
  {a5:Array (Option Value)} {N ps:xD} {sp:Sp} (lk:K.lookup f=some ⟨oc,od,.func (PySem.W.fnOf name qual params body scope dV kV a1 pm an cdv ct),a5⟩) (a3:PySem.W.codeIn K cdv qual=true) (S:FnScope N ps scope)
  (len:∀vs H Q E,sp vs H Q E->vs.length=ps.length)
  (O:∀(A:Around) (outer:List Env) (s:Shared) (H:Hp) (vs:List V) (Q:VK) (E:XK),Room k (A.deeper (envOfC qual scope s.heap.objs.size f cdv))->sp vs H Q E->
   ∃t,PSs (cxOf CX P w K mg base N qual scope f cdv A outer s H E) body t/\t {nx:=λ_ H'=>Q .non H',rt:=Q} (q5i N vs) H):
  FnOk P w K mg base CX (k+1) f (PySem.W.fnOf name qual params body scope dV kV a1 pm an cdv ct) ps sp:=by
 refine⟨len,λA outer s H args us vs Q E hr e0 hb r a2=>?_⟩;have hl:=len _ _ _ _ a2;have KX:K.In s.heap:=e0.mod.kin.keeps λb o e=>(e0.bs b o e).1;have a4:s.heap.NoLimit:=e0.mod.nolimit.keeps λb o e=>(e0.bs b o e).1;have Y:∀y∈ps.zip us,scope.names.lookup y.1=some .local\/ (scope.names.lookup y.1=some .cell/\((cellsFrom (s.heap.objs.size+1) scope.names []).lookup y.1).isSome=true):=λ⟨n,v⟩ hy=>by
  rcases S.par n (List.of_mem_zip hy).1 with q | q
  ·exact .inl q
  ·exact .inr ⟨q,PySem.W.cellsFrom_some _ _ _ (.inl q)⟩
 refine codeAny_call_function hr.depth (KX _ _ lk) rfl S.co S.gen rfl (PySem.W.codeRec_of KX a3) (hb _ _ _ _ ?_);refine wpAny_newFunctionEnv_cells S.kind Y λenv he s1 x=>?_;subst he;refine⟨a4.keeps x.toInCall.keep,codeAny_func ?_⟩;obtain⟨t,ht,hq⟩:=O A outer s H vs Q E (hr.deeper _) a2;have I:Inv (cxOf CX P w K mg base N qual scope f cdv A outer s H E) [] (q5i N vs) H s1:=qop S hr.hd e0 hl r x;refine z3q (ht [] s1 (q5i N vs) H _ I hq) (λfl s' Z=>?_) λe s' Z=>Z;have fin:∀{σ':St} {H':Hp} {v:V} {u:Value},Inv (cxOf CX P w K mg base N qual scope f cdv A outer s H E) [] σ' H' s'->RelV v u->Q v H'->CE outer P w H s Q u s':=
  λ{σ' H' v u} J rv q=>⟨v,H',J.os,J.bare,J.base,J.hok,rv,q⟩
 cases fl with
 | ret u=>
  obtain⟨v,σ',H',J,rv,q⟩:=Z;exact fin J rv q
 | next=>
  obtain⟨σ',H',J,q⟩:=Z;exact fin (v:=V.non) (u:=Value.none) J rfl q
 | brk=>
  obtain⟨_,_,_,q⟩:=Z;exact False.elim q
 | cont=>
  obtain⟨_,_,_,q⟩:=Z;exact False.elim q
section
variable{X:Cx}{x:Str}{p pos:Pos}{e:Expr}{es:List Expr}{t:TA}{id T:String}{r:List V->Hp->VK->Prop}
def tCB(r:List V->Hp->VK->Prop)(t:TA):TE:=λσ H Q=>t σ H λvs H1=>r vs H1 Q
def qw(hc:q2t X (.builtin id) r)(hg:Gl X x)(hm:X.mg x=none)(hv:bootBuiltins x=some (.builtin id))(ha:PA X (e::es) t)(hn:x≠"__name__":=by decide)(J:(x==("__debug__":Str))=false:=by decide)
  (he:starEach (e::es) X.env=(false,eval e X.env)::starEach es X.env:=by rfl) (O:(backTo pos (starEach es X.env)).any (·.1)=false:=by rfl):PE X (.Call (.Name x p) (e::es) [] pos) (tCB r t):=by
 intro xC s σ H Q I h;refine z1f (q64 I hg hm hv ?_ hn J);exact PyProof.Rows.callWith_builtin1 (thn (ha pos xC s σ H _ I h) λus s1 ⟨vs,H1,I1,r1,q1⟩=>hc xC s1 σ H1 vs us Q I1 r1 q1) he O
def q1u(hc:q2t X (.type T) r)(hg:Gl X x)(hm:X.mg x=none)(hv:bootBuiltins x=some (.type T))(ha:PA X (e::es) t)(hn:x≠"__name__":=by decide)(J:(x==("__debug__":Str))=false:=by decide)
  (he:starEach (e::es) X.env=(false,eval e X.env)::starEach es X.env:=by rfl) (O:(backTo pos (starEach es X.env)).any (·.1)=false:=by rfl):PE X (.Call (.Name x p) (e::es) [] pos) (tCB r t):=by
 intro xC s σ H Q I h;refine z1f (q64 I hg hm hv ?_ hn J);exact z02 (thn (ha pos xC s σ H _ I h) λus s1 ⟨vs,H1,I1,r1,q1⟩=>hc xC s1 σ H1 vs us Q I1 r1 q1) he O
end
end L2
namespace HT
open PySem PyProof.Rows
section
open PySem.SeqAt
open PySem.AutoSeq1 (wpAny_loadPart')
open PySem.MeetsSeq PySem.MeetsSeq2 PySem.MeetsSeq3
end
section
variable{prog:Program}{w:World}{A:Around}{E:xB}{s:Shared}
def cat_tup{t b:Addr}{vs J:xH}{Q:xB}(ht:IsTup s.heap t vs.toArray)(hb:IsTup s.heap b J.toArray)(hv:vs≠ [])
  (h1:J=[]->Q (.ref t) s) (h2:J≠ []->Q (.ref s.heap.objs.size) {s with heap:=s.heap.push {cls:= .type "tuple",data:= .seq (vs++J).toArray}})
  (hsz:vs.length+J.length<=sizeLine):wpAny (model prog w) A (binaryOp .Add (.ref t) (.ref b)) Q E s:=by
 obtain⟨⟨cls,dd,data,sl⟩,ho,hc,n,hd⟩:=id ht;obtain⟨⟨a4,Y,a3,a2⟩,O,Z,n2,a1⟩:=id hb;simp only at hc hd Z a1;subst hc hd Z a1;have e:vs.toArray++J.toArray=(vs++J).toArray:=by simp
 by_cases hw:J=[]
 ·exact concat_meets ⟨_,ho,zr⟩ ⟨_,O,zr⟩ noFill_tuple_add seq_tuple_add PySem.F.slot_tuple_add PySem.F.entry_tuple_add (PySem.F.args_tuple_add_2 _ _)
   (tuple_addW1 t b vs.toArray J.toArray n n2 dd Y sl a2 (by simpa using hv) (by simp[hw])) ⟨ho,O,h1 hw⟩
 ·refine concat_meets ⟨_,ho,zr⟩ ⟨_,O,zr⟩ noFill_tuple_add seq_tuple_add PySem.F.slot_tuple_add PySem.F.entry_tuple_add (PySem.F.args_tuple_add_2 _ _)
   (tuple_addW2 t b vs.toArray J.toArray n n2 dd Y sl a2 (by simpa using hv) (by simpa using hw) (by rw[z1n,z1n];exact hsz)) ⟨ho,O,?_⟩
  rw[e];exact h2 hw
def sIx(n d:Nat):Option Int->Nat
 | none=>d
 | some v=>if v < 0 then (v+(n:Int)).toNat else min v.toNat n
def sIx_none(n d:Nat):sIx n d none=d:=rfl
def sIx_nat(n d k:Nat):sIx n d (some (k:Int))=min k n:=by
 show (if (k:Int) < 0 then ((k:Int)+(n:Int)).toNat else min (k:Int).toNat n)=min k n;rw[if_neg (by lia),z1q]
def sIx_le(n d:Nat)(hd:d<=n)(o:Option Int):sIx n d o<=n:=by
 cases o with
 | none=>exact hd
 | some v=>
  show (if v < 0 then (v+(n:Int)).toNat else min v.toNat n)<=n;by_cases J:v < 0
  ·rw[if_pos J];lia
  ·rw[if_neg J];exact Nat.min_le_right _ _
def clip_eq(v:Int)(n d:Nat):(if v < 0 then max (v+(n:Int)) 0 else min v (n:Int))=((sIx n d (some v):Nat):Int):=by
 show (if v < 0 then max (v+(n:Int)) 0 else min v (n:Int))=(((if v < 0 then (v+(n:Int)).toNat else min v.toNat n):Nat):Int);by_cases J:v < 0
 ·simp only[if_pos J];lia
 ·simp only[if_neg J];lia
def qmz(lo hi:Option Int)(n:Nat):Builtin.Slice.sliceAdjust lo hi 1 (n:Int)=(((sIx n 0 lo:Nat):Int),((sIx n n hi:Nat):Int)):=by
 have h1:¬ ((1:Int) < 0):=by lia
 unfold Builtin.Slice.sliceAdjust;simp only[h1,if_false];refine Prod.ext ?_ ?_
 ·cases lo with
  | none=>rfl
  | some v=>exact clip_eq v n 0
 ·cases hi with
  | none=>rfl
  | some v=>exact clip_eq v n n
def qn0(i j:Nat):Builtin.Slice.slicePlaces (i:Int) (j:Int) 1=j - i:=by
 unfold Builtin.Slice.slicePlaces;have h1:(1:Int) > 0:=by lia
 simp only[h1,if_true,Int.ediv_one];split <;> lia
def qel{v:Value}{o:Option Int}{Q:Option Int->Shared->Prop}(p:IsPart v o)(h:Q o s):wpAny (model prog w) A (Builtin.Slice.slicePartIndex v) Q E s:=by
 cases p with
 | none=>exact slicePart_none h
 | int i t=>exact slicePart_int h
def sliceApplied_gen{sl:Addr}{Y Z:Value}{lo hi:Option Int}{n:Nat}{Q:Int×Int×Nat->Shared->Prop}(hs:s.heap.IsSliceOf sl Y Z .none)(pl:IsPart Y lo)(pu:IsPart Z hi)
  (h:Q (((sIx n 0 lo:Nat):Int),1,sIx n n hi - sIx n 0 lo) s):wpAny (model prog w) A (Builtin.Slice.sliceApplied (.ref sl) (pure (n:Int))) Q E s:=by
 obtain⟨os,O,hcs,J⟩:=id hs;unfold Builtin.Slice.sliceApplied Builtin.Slice.sliceFields;refine z3p (z3p (wpAny_field O J (x:=Y) rfl (z3p (wpAny_field O J (x:=Z) rfl (z3p (wpAny_field O J (x:= .none) rfl (z3o ?_)))))));refine z3p (slicePart_none ?_);show wpAny _ _ (if ((1:Int)==0)=true then _ else _) _ _ s;rw[if_neg (by decide)];refine z3p (qel pl (z3p (qel pu (z3p (z3o ?_)))));show wpAny _ _ (match Builtin.Slice.sliceAdjust lo hi 1 (n:Int) with | (lo,hi)=>pure (lo,(1:Int),Builtin.Slice.slicePlaces lo hi 1)) _ _ s;rw[qmz lo hi n];show wpAny _ _ (pure (((sIx n 0 lo:Nat):Int),(1:Int),Builtin.Slice.slicePlaces ((sIx n 0 lo:Nat):Int) ((sIx n n hi:Nat):Int) 1)) _ _ s;rw[qn0];exact z3o h
def qr4(xs:Array Value)(i k:Nat):((List.range k).filterMap λ(m:Nat)=>xs[((i:Int)+(m:Int)*1).toNat]?).toArray=((xs.toList.drop i).take k).toArray:=by
 have e:(λ(m:Nat)=>xs[((i:Int)+(m:Int)*1).toNat]?)=λm=>xs[i+m]? :=by
  funext m
  have:((i:Int)+(m:Int)*1).toNat=i+m:=by lia
  rw[this]
 rw[e];have:=pick_run xs i k;rw[List.filterMap_map]at this;have e2:((λx=>xs[x]?)∘λx=>i+x)=λm=>xs[i+m]? :=rfl;rw[e2]at this;rw[this]
def getItem_tuple_cut{t sl:Addr}{J:Array Value}{vl vu:Value}{lo hi:Option Int}{Q:xB}(Y:IsTup s.heap t J)(hs:s.heap.IsSliceOf sl vl vu .none)(pl:IsPart vl lo)(pu:IsPart vu hi)
    (hw:¬ (sIx J.size 0 lo=0/\sIx J.size J.size hi=J.size))
    (h:Q (.ref s.heap.objs.size) {s with heap:=s.heap.push {cls:= .type "tuple",data:= .seq ((J.toList.drop (sIx J.size 0 lo)).take (sIx J.size J.size hi - sIx J.size 0 lo)).toArray}})
    (hsz:J.size<=sizeLine):wpAny (model prog w) A (getItem (.ref t) (.ref sl)) Q E s:=by
  have O:sizeOk (.seq ((J.toList.drop (sIx J.size 0 lo)).take (sIx J.size J.size hi - sIx J.size 0 lo)).toArray):=by
    show ((J.toList.drop (sIx J.size 0 lo)).take (sIx J.size J.size hi - sIx J.size 0 lo)).toArray.size<=sizeLine;rw[z1n,z1y,z1z,z0y]
    lia
  have hj:sIx J.size J.size hi<=J.size:=sIx_le _ _ (z3j _) hi;obtain⟨os,a3,a1,hds⟩:=id hs;have Z:s.TypeIs (.ref sl) "slice":=⟨os,a3,a1⟩;unfold getItem
  try with_reducible refine z33 ?_
  first | refine z3p (z3o ?_) | skip
  refine z3p (wpAny_sequenceKey Y.typeIs (by decide) ?_);refine z3p (wpAny_callSpecial?_slot (name:=Str.ofString "__getitem__") Y.typeIs PyProof.Rows.slot_tuple_getitem
    (z26 PyProof.Rows.slot_tuple_getitem Y.typeIs entry_tuple_getitem ?_ (args_tuple_getitem _ _)))
  show wpAny _ _ (Builtin.Tuple.tupleItemsOf (.ref t) >>=_) _ _ s;refine z3p (tupleItemsOf_ Y ?_);refine z3p (wpAny_typeOf Z ?_);rw[if_pos (by decide)];refine z3p (sliceApplied_gen hs pl pu ?_);have a2:¬ ((((sIx J.size 0 lo:Nat):Int)==0&&(1:Int)==1&&(sIx J.size J.size hi - sIx J.size 0 lo)==J.size)=true):=by
    intro q;rw[z24,z24]at q;have q1:((sIx J.size 0 lo:Nat):Int)=0:=eq_of_beq q.1.1;have q2:sIx J.size J.size hi - sIx J.size 0 lo=J.size:=eq_of_beq q.2;exact hw ⟨by lia,by lia⟩
  show wpAny _ _ (if (((sIx J.size 0 lo:Nat):Int)==0&&(1:Int)==1&&(sIx J.size J.size hi - sIx J.size 0 lo)==J.size)=true then _ else _) _ _ s;rw[if_neg a2,qr4]
  first
    | exact z3p (m:=Builtin.Tuple.tupleExact _) (z1s (z3o ⟨_,rfl,z3o h⟩) O)
    | exact z3p (m:=Builtin.Tuple.tupleExact _) (z1s (z3p (z3o (z3o ⟨_,rfl,z3o h⟩))) O)
    | exact z3p (z3p (m:=Builtin.Tuple.tupleExact _) (z1s (z3o (z3o ⟨_,rfl,z3o h⟩)) O))
    | exact z3p (z3p (m:=Builtin.Tuple.tupleExact _) (z1s (z3o ⟨_,rfl,z3o h⟩) O))
end
end HT
namespace L2
open PySem PySem.Spec PyProof.Rows
abbrev TO:=St->Hp->(Option Int->Hp->Prop)->Prop
def PO(X:Cx)(e:Option Expr)(t:TO):Prop:=
 ∀(xC:xG) (s:Shared) (σ:St) (H:Hp) (Q:Option Int->Hp->Prop),Inv X xC σ H s->t σ H Q->
  wpAny (model X.prog X.w) X.A (evalPart e X.env) (λu s'=>∃o H',Inv X xC σ H' s'/\IsPart u o/\Q o H') X.xe s
def qtk:TO:=λ_ H Q=>Q none H
def qxq(t:TE):TO:=λσ H Q=>t σ H λx H1=>∃i,x= .int i/\Q (some i) H1
section
variable{X:Cx}{e:Expr}{te:TE}{lo hi:Option Expr}{tl th:TO}{pos p2:Pos}
def q3r:PO X none qtk:=by
 intro xC s σ H Q I h;rw[evalPart_none];exact z3o ⟨none,H,I,.none,h⟩
def q3s(h:PE X e te):PO X (some e) (qxq te):=by
 intro xC s σ H Q I hw;rw[evalPart_some];refine thn (h xC s σ H _ I hw) λu s1 J=>?_;obtain⟨x,H1,I1,r1,q1⟩:=J;obtain⟨i,rfl,q⟩:=q1;obtain⟨t,rfl⟩:=r1;exact⟨some i,H1,I1,.int i t,q⟩
def SlR(X:Cx)(r:V->Option Int->Option Int->Hp->VK->Prop):Prop:=
 ∀(xC:xG) (s:Shared) (σ:St) (H:Hp) (x:V) (v vl vu:Value) (lo hi:Option Int) (sl:Addr) (Q:VK),Inv X xC σ H s->RelV x v->s.heap.IsSliceOf sl vl vu .none->IsPart vl lo->IsPart vu hi->r x lo hi H Q->
  ∃T id,typeLookup (.type T) "__getitem__"=pure (some (.builtin id))/\s.TypeIs v T/\wpAny (model X.prog X.w) X.A (getItem v (.ref sl)) (EP X xC σ Q) X.xe s
def tSl(r:V->Option Int->Option Int->Hp->VK->Prop)(te:TE)(tl th:TO):TE:=λσ H Q=>te σ H λx H1=>tl σ H1 λl H2=>th σ H2 λu H3=>r x l u H3 Q
def q34{r:V->Option Int->Option Int->Hp->VK->Prop}(hr:SlR X r)(he:PE X e te)(hl:PO X lo tl)(hu:PO X hi th):PE X (.Subscript e (.Slice lo hi none p2) pos) (tSl r te tl th):=by
 intro xC s σ H Q I h;refine Subscript_ (thn (he xC s σ H _ I h) λv s1 J=>?_);obtain⟨x,H1,I1,r1,q1⟩:=J;refine wpAny_Slice (thn (hl xC s1 σ H1 _ I1 q1) λO s2 ⟨l,H2,I2,pl,q2⟩=>thn (hu xC s2 σ H2 _ I2 q2) λY s3 J=>?_);obtain⟨u,H3,I3,pu,q3⟩:=J;rw[evalPart_none];refine z3o ?_;have I4:Inv X xC σ H3 {s3 with heap:=s3.heap.push {cls:= .type "slice",data:= .fields #[O,Y,.none]}}:=I3.kept (t':=s3.toks) λb ob q=>z0l _ q;obtain⟨T,id,hT,ht,hg⟩:=hr xC {s3 with heap:=s3.heap.push {cls:= .type "slice",data:= .fields #[O,Y,.none]}} σ H3 x v O Y l u s3.heap.objs.size Q I4 r1 (Heap.IsSliceOf.new ..) pl pu q3;show wpAny (model X.prog X.w) X.A (subscriptTail e (.Slice lo hi none p2) v (.ref s3.heap.objs.size)) (EP X xC σ Q) X.xe {s3 with heap:=s3.heap.push {cls:= .type "slice",data:= .fields #[O,Y,.none]}};exact tail_any (ops:=[.ref s3.heap.objs.size,v]) ht hT hg (by with_unfolding_all rfl)
def cutV(xs:List V)(lo hi:Option Int):List V:=(xs.drop (HT.sIx xs.length 0 lo)).take (HT.sIx xs.length xs.length hi - HT.sIx xs.length 0 lo)
def qde(xs:List V)(lo hi:Option Int):(cutV xs lo hi).length<=xs.length:=by
 unfold cutV;rw[z1y,z1z]
 lia
def rSlT(K:xA):V->Option Int->Option Int->Hp->VK->Prop:=λx lo hi H Q=>∃a xs,x= .ref a/\SqT K H a xs/\
 ¬ (HT.sIx xs.length 0 lo=0/\HT.sIx xs.length xs.length hi=xs.length)/\∀p,H p=none->Q (.ref p) (upd H p (.tup (cutV xs lo hi)))
def qw0:SlR X (rSlT X.K):=by
 intro xC s σ H x v vl vu lo hi sl Q I rx hs pl pu h;obtain⟨a,xs,rfl,hx,hw,q⟩:=h;cases rx
 obtain⟨its,r,O,hz⟩:=I.tuple hx;have J:its.toArray.size=xs.length:=by rw[z1n];exact r.length.symm
 refine⟨"tuple",_,PyProof.Rows.slot_tuple_getitem.lookup,O.typeIs,?_⟩;refine HT.getItem_tuple_cut O hs pl pu (by rw[J];exact hw) ?_ (by rw[J];exact hz);rw[J];refine⟨.ref s.heap.objs.size,_,I.laid (t':=s.toks) (o:= .tup (cutV xs lo hi)) (λb ob q=>z0l _ q) (z3j _) ?_,zr,q _ (I.hok.fresh (z3j _))⟩;exact⟨z3d (qde xs lo hi) hz,_,(r.drop (HT.sIx xs.length 0 lo)).take (HT.sIx xs.length xs.length hi - HT.sIx xs.length 0 lo),IsTup.new _ _⟩
def qxr(K:xA):R2:=λx y H Q=>∃a b xs ys,x= .ref a/\y= .ref b/\SqT K H a xs/\SqT K H b ys/\xs≠ []/\xs.length+ys.length<=sizeLine/\
 (ys=[]->Q (.ref a) H)/\(ys≠ []->∀p,H p=none->Q (.ref p) (upd H p (.tup (xs++ys))))
def Vals.qcn{xs:List V}{us:xH}(r:Vals xs us):us=[]↔xs=[]:=by
 cases r with
 | nil=>simp
 | cons _ _=>simp
def qtl:OpR X (binaryOp .Add) (qxr X.K):=by
 intro xC s σ H x y v u Q I rx ry h;obtain⟨a,b,xs,ys,rfl,rfl,ha,hb,hx,hz,q1,q2⟩:=h;cases rx
 cases ry
 obtain⟨its,r1,p1,_⟩:=I.tuple ha;obtain⟨J,r2,p2,_⟩:=I.tuple hb;refine HT.cat_tup p1 p2 (λz=>hx (r1.qcn.mp z)) (λz=>⟨.ref a,H,I,rfl,q1 (r2.qcn.mp z)⟩) (λz=>?_) (by rw[<- r1.length,<- r2.length];exact hz);refine⟨.ref s.heap.objs.size,_,I.laid (t':=s.toks) (o:= .tup (xs++ys)) (λb ob q=>z0l _ q) (z3j _) ?_,zr,q2 (λw=>z (r2.qcn.mpr w)) _ (I.hok.fresh (z3j _))⟩;exact⟨by rw[z1b];exact hz,_,r1.append r2,IsTup.new _ _⟩
end
def ixN(n:Nat)(i:Int):Option Nat:=if 0<=i then (if i < n then some i.toNat else none) else if -(n:Int)<=i then some (i+n).toNat else none
def atI{α:Type}(xs:List α)(i:Int):Option α:=(ixN xs.length i).bind λj=>xs[j]?
def qtm{n:Nat}{i:Int}{j:Nat}(h:ixN n i=some j):seqIndex? i n=some j/\j < n/\ -(n:Int)<=i/\i < n:=by
 unfold ixN at h;by_cases h0:0<=i
 ·rw[if_pos h0]at h;by_cases h1:i < n
  ·rw[if_pos h1]at h;have e:i.toNat=j:=Option.some.inj h;exact⟨by rw[seqIndex_of h0 h1,e],by lia,by lia,h1⟩
  ·rw[if_neg h1]at h;cases h
 ·rw[if_neg h0]at h;by_cases h1: -(n:Int)<=i
  ·rw[if_pos h1]at h;have e:(i+n).toNat=j:=Option.some.inj h;exact⟨by rw[seqIndex_neg (by lia) h1,e],by lia,h1,by lia⟩
  ·rw[if_neg h1]at h;cases h
def qft{α:Type}{xs:List α}{i:Int}{v:α}(h:atI xs i=some v):∃j,seqIndex? i xs.length=some j/\xs[j]? =some v/\j < xs.length/\ -(xs.length:Int)<=i/\i < xs.length:=by
 unfold atI at h;cases e:ixN xs.length i with
 | none=>rw[e]at h;cases h
 | some j=>
  rw[e]at h;obtain⟨h1,h2,h3,h4⟩:=qtm e;exact⟨j,h1,h,h2,h3,h4⟩
def ql{α:Type}{xs:List α}{j:Nat}{v:α}(h:xs[j]? =some v):atI xs (j:Int)=some v:=by
 have hj:j < xs.length:=(z06.mp h).1;have e:ixN xs.length (j:Int)=some j:=by
  unfold ixN;rw[if_pos (by lia),if_pos (by lia)];simp
 unfold atI;rw[e];exact h
def qtn(b:Expr):Prop:=∀o i,subscripted b false o i=operate [o,i] (getItem o i)
def IxR(X:Cx)(r:R2):Prop:=
 ∀(value slice:Expr) (xC:xG) (s:Shared) (σ:St) (H:Hp) (x y:V) (v u:Value) (Q:VK),Inv X xC σ H s->RelV x v->RelV y u->r x y H Q->
  subscripted slice false v u=operate [v,u] (getItem v u)->wpAny (model X.prog X.w) X.A (subscriptTail value slice v u) (EP X xC σ Q) X.xe s
def MtR(X:Cx)(id:String)(r:V->List V->Hp->VK->Prop):Prop:=
 ∀(xC:xG) (s:Shared) (σ:St) (H:Hp) (x:V) (xs:List V) (v:Value) (us:xH) (Q:VK),Inv X xC σ H s->RelV x v->Vals xs us->r x xs H Q->
  wpAny (model X.prog X.w) X.A (call (.builtin id) (v::us)) (EP X xC σ Q) X.xe s
section
variable{X:Cx}{a b:Expr}{ta tb:TE}{pos:Pos}
def qt{r:R2}(hr:IxR X r)(ha:PE X a ta)(hb:PE X b tb)(hs:qtn b):PE X (.Subscript a b pos) (tOp r ta tb):=by
 intro xC s σ H Q I h;exact Subscript_ (binT ha hb I h λv u s2 x y H2 I2 rx ry q=>hr a b xC s2 σ H2 x y v u Q I2 rx ry q (hs _ _))
def rIxL(K:xA):R2:=λx y H Q=>∃p xs i v,x= .ref p/\y= .int i/\SqL K H p xs/\atI xs i=some v/\Q v H
def rIxT(K:xA):R2:=λx y H Q=>∃p xs i v,x= .ref p/\y= .int i/\SqT K H p xs/\atI xs i=some v/\Q v H
def rIxS:R2:=λx y H Q=>∃z i c,x= .str z/\y= .int i/\z.length<=sizeLine/\atI z.cps.toList i=some c/\Q (.str ⟨#[c]⟩) H
def qto:IxR X (rIxL X.K):=by
  intro value O xC s σ H x y v u Q I rx ry h Z;obtain⟨p,xs,i,z,rfl,rfl,hq,he,q⟩:=h;cases rx
  obtain⟨t,rfl⟩:=ry;obtain⟨its,r,pl,hz⟩:=I.list hq;obtain⟨j,h1,h2,h3,h4,h5⟩:=qft he;obtain⟨w,Y,J⟩:=r.get h2;have hl:=r.length;have hn:=qei;have fin:EP X xC σ Q w s:=⟨z,H,I,J,q⟩;by_cases h0:0<=i
  · have hj:i.toNat=j:=by
      rw[seqIndex_of h0 h5]at h1;exact Option.some.inj h1
    exact item_listR pl.isList h0 (by lia) (by rw[hj];simpa using Y) fin Z
  · have hj:(i+(its.toArray.size:Int)).toNat=j:=by
      rw[seqIndex_neg (by lia) h4]at h1;rw[z1n,<- hl];exact Option.some.inj h1
    exact subscriptTail_builtinR (x:=w) pl.isList.typeIs slot_list_getitem.lookup
      (wpAny_getItem_list_neg (Q:=λr s'=>r=w/\EP X xC σ Q r s') pl.isList (by lia) (by rw[z1n] <;> lia) (by lia) (by rw[hj];simpa using Y) ⟨rfl,fin⟩) Z
def qw1:IxR X (rIxT X.K):=by
 intro value O xC s σ H x y v u Q I rx ry h hs;obtain⟨p,xs,i,z,rfl,rfl,hq,he,q⟩:=h;cases rx
 obtain⟨t,rfl⟩:=ry;obtain⟨its,r,pl,hz⟩:=I.tuple hq;obtain⟨j,h1,h2,h3,h4,h5⟩:=qft he;obtain⟨w,ew,J⟩:=r.get h2;have hl:=r.length;have hn:=qei;have fin:EP X xC σ Q w s:=⟨z,H,I,J,q⟩;exact subscriptTail_builtinR (x:=w) pl.typeIs slot_tuple_getitem.lookup
  (getItem_tuple (j:=j) (Q:=λr s'=>r=w/\EP X xC σ Q r s') pl (by lia) (by lia) (by rw[z1n,<- hl];exact h1) (by simpa using ew) ⟨rfl,fin⟩) hs
def qoq:IxR X rIxS:=by
 intro value J xC s σ H x y v u Q I rx ry h hs;obtain⟨z,i,c,rfl,rfl,hz,he,q⟩:=h;obtain⟨t,rfl⟩:=rx;obtain⟨t',rfl⟩:=ry;obtain⟨j,h1,h2,h3,h4,h5⟩:=qft he;have hl:z.cps.toList.length=z.length:=by simp[Str.length]
 rw[hl]at h1 h4 h5;have hn:=qei;exact tail_any (typeIs_str s z t) slot_str_getitem.lookup (getItem_str (c:=c) (by
  have e1:decide (i < -(2^63:Int))=false:=z2d (by lia);have e2:decide (i >=2^63)=false:=z2d (by lia);rw[e1,e2,Bool.or_false]) (by rw[h1];simpa using h2) ⟨.str ⟨#[c]⟩,H,I.tok _,⟨_,rfl⟩,q⟩) hs
def qit(lo hi:Option Int)(n:Nat):(sliceBounds lo hi none n).1=((HT.sIx n 0 lo:Nat):Int)/\(sliceBounds lo hi none n).2.1=((HT.sIx n n hi:Nat):Int)/\(sliceBounds lo hi none n).2.2=1:=by
 refine⟨?_,?_,zr⟩
 ·cases lo with
  | none=>simp[sliceBounds,HT.sIx]
  | some i=>
   simp only[sliceBounds,HT.sIx,Option.getD_none,show (1:Int) > 0 by decide,if_true];by_cases h:i < 0
   ·simp only[h,if_true] <;> lia
   ·simp only[h,if_false] <;> lia
 ·cases hi with
  | none=>simp[sliceBounds,HT.sIx]
  | some i=>
   simp only[sliceBounds,HT.sIx,Option.getD_none,show (1:Int) > 0 by decide,if_true];by_cases h:i < 0
   ·simp only[h,if_true] <;> lia
   ·simp only[h,if_false] <;> lia
def qht(its:xH)(lo hi:Option Int):slicePick its.toArray lo hi none=((its.drop (HT.sIx its.length 0 lo)).take (HT.sIx its.length its.length hi - HT.sIx its.length 0 lo)).toArray:=by
 obtain⟨h1,h2,h3⟩:=qit lo hi its.toArray.size;unfold slicePick;rw[h1,h2,h3];simp only[sliceRange_one,pick_run,z1n] <;> rfl
def rSlL(K:xA):V->Option Int->Option Int->Hp->VK->Prop:=λx lo hi H Q=>∃a xs,x= .ref a/\SqL K H a xs/\∀p,H p=none->Q (.ref p) (upd H p (.lst (cutV xs lo hi)))
def qtp:SlR X (rSlL X.K):=by
 intro xC s σ H x v vl vu lo hi sl Q I rx hs pl pu h;obtain⟨a,xs,rfl,hx,q⟩:=h;cases rx
 obtain⟨its,r,O,hz⟩:=I.list hx;have J:=r.length;refine⟨"list",_,slot_list_getitem.lookup,O.isList.typeIs,?_⟩;refine wpAny_getItem_list_slice O.isList hs pl pu .none (by simp) ?_ (by rw[z1n] <;> lia);rw[qht,<- J];refine⟨.ref s.heap.objs.size,_,I.laid (t':=s.toks) (o:= .lst (cutV xs lo hi)) (λb ob q=>z0l _ q) (z3j _) ?_,zr,q _ (I.hok.fresh (z3j _))⟩;exact⟨z3d (qde xs lo hi) hz,_,0,(r.drop (HT.sIx xs.length 0 lo)).take (HT.sIx xs.length xs.length hi - HT.sIx xs.length 0 lo),z11 _ rfl⟩
def qiu:q2t X (.type "list") (λxs H Q=>∃p ys,xs=[.ref p]/\(SqL X.K H p ys\/ SqT X.K H p ys)/\∀l,H l=none->Q (.ref l) (upd H l (.lst ys))):=by
 intro xC s σ H xs us Q I r h;obtain⟨p,ys,rfl,hq,q⟩:=h;obtain⟨u,rfl,rx⟩:=q3h r;cases rx
 have fin:∀(its:xH),Vals ys its->ys.length<=sizeLine->∀(h':Heap) (J:Nat),(∀b o',s.heap.get? b=some o'->h'.get? b=some o')->
   h'.get? s.heap.objs.size=some {cls:= .type "list",dict:=none,data:= .seq its.toArray J,slots:=#[]}->EP X xC σ Q (.ref s.heap.objs.size) {s with heap:=h'}:=λits O hz h' J kp e=>
  ⟨.ref s.heap.objs.size,_,I.laid (t':=s.toks) kp (z3j _) (show ObjOk X.prog X.w _ h' _ (.lst ys) from⟨hz,its,J,O,e⟩),rfl,q _ (I.hok.fresh (z3j _))⟩
 rcases hq with hq | hq
 ·obtain⟨its,O,pl,hz⟩:=I.list hq;have Y:=O.length;obtain⟨o,ho,Z,n,hd⟩:=pl.isList;exact call_list_seq p (.inl rfl) ho Z hd (λh' J kp e=>fin its O hz h' J kp e) (by simp only[z1n] <;> lia)
 ·obtain⟨its,O,pl,hz⟩:=I.tuple hq;have Y:=O.length;obtain⟨o,ho,Z,n,hd⟩:=pl;exact call_list_seq p (.inr rfl) ho Z hd (λh' J kp e=>fin its O hz h' J kp e) (by simp only[z1n] <;> lia)
def qhu:q2t X (.type "tuple") (λxs H Q=>∃p ys,xs=[.ref p]/\((SqL X.K H p ys/\∀l,H l=none->Q (.ref l) (upd H l (.tup ys)))\/ (SqT X.K H p ys/\Q (.ref p) H))):=by
 intro xC s σ H xs us Q I r h;obtain⟨p,ys,rfl,h⟩:=h;obtain⟨u,rfl,rx⟩:=q3h r;cases rx
 rcases h with ⟨hq,q⟩ | ⟨hq,q⟩
 ·obtain⟨its,J,pl,hz⟩:=I.list hq;have O:=J.length;refine call_tuple_list pl.isList (λh' kp=>?_) (by simp only[z1n] <;> lia);have I1:Inv X xC σ H {s with heap:=h'}:=I.kept (t':=s.toks) kp;have I2:Inv X xC σ (upd H h'.objs.size (.tup ys)) {s with heap:=h'.push {cls:= .type "tuple",data:= .seq its.toArray}}:=
   I1.laid (t':=s.toks) (λb o e=>z0l _ e) (z3j _) (show ObjOk X.prog X.w _ _ _ (.tup ys) from⟨hz,its,J,IsTup.new _ _⟩)
  exact⟨.ref h'.objs.size,_,I2,zr,q _ (I1.hok.fresh (z3j _))⟩
 ·obtain⟨its,J,pl,hz⟩:=I.tuple hq;exact call_tuple_same pl ⟨.ref p,H,I,zr,q⟩
def tyV(K:xA)(T:String)(x:V)(H:Hp):Prop:=match x with
 | .str _=>T="str"
 | .int _=>T="int"
 | .ref p=>(T="list"/\∃xs,SqL K H p xs)\/ (T="tuple"/\∃o,K.lookup p=some o/\o.cls= .type "tuple"/\o.dict=none)\/
   (T="dict"/\((∃kvs,H p=some (.dK kvs))\/ ∃kvs,H p=some (.dT kvs)))\/ (T="set"/\∃S n,H p=some (.set S n))
 | _=>False
def qor{xC:xG}{σ:St}{H:Hp}{s:Shared}{T:String}{x:V}{v:Value}(I:Inv X xC σ H s)(r:RelV x v)(ty:tyV X.K T x H):
    s.TypeIs v T/\∀a,v= .ref a->∃ob,s.heap.get? a=some ob/\ob.dict=none:=by
  cases x with
  | str z=>
    obtain⟨t,rfl⟩:=r;cases (show T="str" from ty)
    exact⟨typeIs_str s z t,λ_ e=>nomatch e⟩
  | int i=>
    obtain⟨t,rfl⟩:=r;cases (show T="int" from ty)
    exact⟨typeIs_int s i t,λ_ e=>nomatch e⟩
  | ref p=>
    cases r
    rcases ty with ⟨rfl,xs,hq⟩ | ⟨rfl,o,hk,hc,hd⟩ | ⟨rfl,hk⟩ | ⟨rfl,S,n,hk⟩
    · obtain⟨its,_,pl,_⟩:=I.list hq
      refine⟨pl.isList.typeIs,λa e=>?_⟩;cases e
      obtain⟨o,n,e,c,hd,_⟩:=pl;exact⟨o,e,hd⟩
    · refine⟨⟨o,I.kIn p o hk,hc⟩,λa e=>?_⟩
      cases e
      exact⟨o,I.kIn _ o hk,hd⟩
    · have z:∃o,s.heap.get? p=some o/\o.ExactDict:=by
        rcases hk with ⟨kvs,hk⟩ | ⟨kvs,hk⟩
        · obtain⟨_,_,_,_,o,_,_,e,ex,_⟩:=I.hok p _ hk
          exact⟨o,e,ex⟩
        · obtain⟨_,_,_,_,o,_,_,e,ex,_⟩:=I.hok p _ hk
          exact⟨o,e,ex⟩
      obtain⟨o,e,ex⟩:=z;refine⟨⟨o,e,ex.1⟩,λa e2=>?_⟩;cases e2
      exact⟨o,e,ex.2.1⟩
    · obtain⟨o,_,_,_,e,ex,_⟩:=I.hok p _ hk
      refine⟨⟨o,e,ex.1⟩,λa e2=>?_⟩;cases e2
      exact⟨o,e,ex.2.1⟩
  | _=>exact False.elim ty
def tBM0(K:xA)(T:String)(r:V->List V->Hp->VK->Prop)(to:TE):TE:=λσ H Q=>to σ H λx H1=>tyV K T x H1/\r x [] H1 Q
def tBM(K:xA)(T:String)(r:V->List V->Hp->VK->Prop)(to:TE)(t:TA):TE:=λσ H Q=>to σ H λx H1=>tyV K T x H1/\t σ H1 λxs H2=>r x xs H2 Q
variable{o e:Expr}{es:List Expr}{to:TE}{t:TA}{name:Str}{apos cpos:Pos}{T id:String}{r:V->List V->Hp->VK->Prop}
def qos(pa:PlainAttrs T)(slot:Slot T name id)(Y:typeOf (.builtin id)=pure (.type "method_descriptor"))(hm:MtR X id r)(ho:PE X o to)
  (J:attributeBase o name X.env (eval o X.env)=eval o X.env:=by rfl) (O:(apos.endLine==cpos.line)=true:=by rfl):PE X (.Call (.Attribute o name apos) [] [] cpos) (tBM0 X.K T r to):=by
 intro xC s σ H Q I h;refine wpAny_Call_method0_late J O (thn (ho xC s σ H _ I h) λv s1 Z=>?_);obtain⟨x,H1,I1,r1,ty,q1⟩:=Z;obtain⟨h1,h2⟩:=qor I1 r1 ty;exact⟨T,id,pa,slot,Y,h1,h2,Calls.callWith_builtin rfl (PySem.evalArgs_none (hm xC s1 σ H1 x [] v [] Q I1 r1 .nil q1))⟩
def q4j(pa:PlainAttrs T)(slot:Slot T name id)(a1:typeOf (.builtin id)=pure (.type "method_descriptor"))(hm:MtR X id r)(ho:PE X o to)(ha:PA X (e::es) t)
  (O:attributeBase o name X.env (eval o X.env)=eval o X.env:=by rfl)
  (Z:((backTo cpos (starEach (e::es) X.env)).all (λx=> !x.1)&&(backToKw cpos (keywordEach [] X.env)).all (λx=>x.1.isSome)
   &&decide ((e::es).length+([]:List Keyword).length+(if ([]:List Keyword).isEmpty then 0 else 1) < 30))=true:=by rfl)
  (Y:(apos.endLine==cpos.line)=true:=by rfl) (hs:starEach (e::es) X.env=(false,eval e X.env)::starEach es X.env:=by rfl) (J:(backTo cpos (starEach es X.env)).any (·.1)=false:=by rfl):
  PE X (.Call (.Attribute o name apos) (e::es) [] cpos) (tBM X.K T r to t):=by
 intro xC s σ H Q I h;refine wpAny_Call_method_late O Z Y rfl (thn (ho xC s σ H _ I h) λv s1 a2=>?_);obtain⟨x,H1,I1,r1,ty,q1⟩:=a2;obtain⟨h1,h2⟩:=qor I1 r1 ty;refine⟨T,id,pa,slot,a1,h1,h2,?_⟩;have hA:=ha cpos xC s1 σ H1 _ I1 q1;rw[hs]at hA ⊢;refine Calls.callWith_builtin (by show (false || (backTo cpos (starEach es X.env)).any (·.1))=false;rw[J] <;> rfl) (Calls.evalArgs_plain ?_);exact thn hA λus s2 ⟨vs,H2,I2,r2,q2⟩=>hm xC s2 σ H2 x vs v us Q I2 r1 r2 q2
end
def MtM(X:Cx)(id:String)(r:V->List V->Hp->VK->Prop):Prop:=
 ∀(xC:xG) (s:Shared) (σ:St) (H:Hp) (x:V) (xs:List V) (v:Value) (us:xH) (Q:VK),Inv X xC σ H s->RelV x v->Vals xs us->r x xs H Q->
  wpAny (model X.prog X.w) X.A (call (.builtin id) (v::us)) (EP X xC σ Q) X.xe s
def Vals.one:∀{x:V} {us:xH},Vals [x] us->∃u,us=[u]/\RelV x u
 | _,_,.cons r .nil=>⟨_,rfl,r⟩
def Vals.zero:∀{us:xH},Vals [] us->us=[]
 | _,.nil=>rfl
theorem Vals.dropLast{xs:List V}{us:xH}(h:Vals xs us):Vals xs.dropLast us.dropLast:=by
 induction h with
 | nil=>exact .nil
 | cons r t ih=>
  cases t with
  | nil=>exact .nil
  | cons q t'=>exact .cons r ih
def qn1{α:Type}(l:List α):l.eraseIdx (l.length - 1)=l.dropLast:=by
 induction l with
 | nil=>rfl
 | cons a r ih=>
  cases r with
  | nil=>rfl
  | cons b r=>
   have e:(a::b::r).length - 1=((b::r).length - 1)+1:=by
    have h1:(a::b::r).length=r.length+2:=rfl;have h2:(b::r).length=r.length+1:=rfl
    lia
   rw[e,List.eraseIdx_cons_succ,ih]
   all_goals rfl
section
variable{X:Cx}{xC:xG}{σ:St}{H:Hp}{s:Shared}{l b:Addr}{xs ys zs:List V}
def Inv.lset{its its':xH}{n:Nat}{f:Array Value->Array Value}{t':Nat}(I:Inv X xC σ H s)(hH:H l=some (.lst xs))
  (e:s.heap.get? l=some {cls:= .type "list",data:= .seq its.toArray n}) (hf:f its.toArray=its'.toArray) (hv:Vals ys its') (hz:ys.length<=sizeLine):
  Inv X xC σ (upd H l (.lst ys)) {s with heap:=s.heap.update l (Obj.mapSeq f),toks:=t'}:=by
 have q:=PySem.IsL.update e f;rw[hf]at q;refine I.write (x:=l) (e:=l) (by rw[hH];exact trivial) (.inl rfl) (λb' u hb hu=>(z0m s.heap (Obj.mapSeq f) (Ne.symm hb)).trans hu) ⟨_,q⟩ ?_;exact⟨hz,its',_,hv,q⟩
def Inv.lnew{its:xH}{t':Nat}(I:Inv X xC σ H s)(hv:Vals ys its)(hz:ys.length<=sizeLine):
  Inv X xC σ (upd H s.heap.objs.size (.lst ys)) {s with heap:=s.heap.push {cls:= .type "list",data:= .seq its.toArray},toks:=t'}:=
 I.laid (λ_ _ q=>z0l _ q) (z3j _) ⟨hz,its,0,hv,z11 _ rfl⟩
theorem Inv.fresh(I:Inv X xC σ H s):H s.heap.objs.size=none:=I.hok.fresh (z3j _)
def Inv.lstM(I:Inv X xC σ H s)(hH:H l=some (.lst xs)):xs.length<=sizeLine/\∃(its:xH) (n:Nat),Vals xs its/\xs.length=its.length/\s.heap.get? l=some {cls:= .type "list",data:= .seq its.toArray n}:=by
 obtain⟨z,its,n,r,e⟩:=I.hok l _ hH;exact⟨z,its,n,r,r.length,e⟩
def qr5{n:Nat}(h:n<=sizeLine):Builtin.List.listTooLong n=false:=by
 unfold Builtin.List.listTooLong;exact z2d (by lia)
end
section
variable{X:Cx}
def qtq:V->List V->Hp->VK->Prop:=λx vs H Q=>∃l xs y,x= .ref l/\vs=[y]/\H l=some (.lst xs)/\xs.length < sizeLine/\Q .non (upd H l (.lst (xs++ [y])))
def q2y:MtM X "list.append" qtq:=by
 intro xC s σ H x vs v us Q I rx rv h;obtain⟨l,xs,y,rfl,rfl,J,hz,q⟩:=h;cases rx
 obtain⟨u,rfl,ru⟩:=rv.one;obtain⟨z,its,n,r,hl,e⟩:=I.lstM J;refine call_meets F.slot_list_append ⟨_,e,rfl⟩ F.entry_list_append (F.args_list_append_2 _ _) (PySem.list_append l its.toArray n u (by rw[z1n];lia)) ⟨e,?_⟩;refine⟨.non,_,I.lset (its':=its++ [u]) J e (by simp) (r.append (.cons ru .nil)) ?_,zr,q⟩;rw[z1b,List.length_singleton]
 lia
def qtr:V->List V->Hp->VK->Prop:=λx vs H Q=>∃l b xs zs,x= .ref l/\vs=[.ref b]/\H l=some (.lst xs)/\H b=some (.lst zs)/\xs.length+zs.length<=sizeLine/\Q .non (upd H l (.lst (xs++zs)))
def q74:MtM X "list.extend" qtr:=by
 intro xC s σ H x vs v us Q I rx rv h;obtain⟨l,b,xs,zs,rfl,rfl,Y,hB,hz,q⟩:=h;cases rx
 obtain⟨u,rfl,ru⟩:=rv.one;cases ru
 obtain⟨z,its,n,r,hl,e⟩:=I.lstM Y;obtain⟨z2,J,n2,r2,hl2,e2⟩:=I.lstM hB;have hsz:its.toArray.size+J.toArray.size<=sizeLine:=by rw[z1n,z1n];lia
 have O:¬ (!its.toArray.isEmpty&&Builtin.List.listTooLong (its.toArray.size+J.toArray.size))=true:=by
  rw[qr5 hsz,Bool.and_false];exact z19
 refine call_meets F.slot_list_extend ⟨_,e,zr⟩ F.entry_list_extend (F.args_list_extend_2 _ _)
  (AutoSeq1.list_extend_list_list_0 l its.toArray n b J.toArray n2 O (by rw[z1n];lia) (by lia)) ⟨e,e2,?_⟩
 refine⟨.non,_,I.lset (its':=its++J) Y e (by simp) (r.append r2) ?_,zr,q⟩;rw[z1b]
 lia
def rPop:V->List V->Hp->VK->Prop:=λx vs H Q=>∃l xs y,x= .ref l/\vs=[]/\H l=some (.lst xs)/\xs[xs.length - 1]? =some y/\Q y (upd H l (.lst xs.dropLast))
def qw2:MtM X "list.pop" rPop:=by
 intro xC s σ H x vs v us Q I rx rv h;obtain⟨l,xs,y,rfl,rfl,Y,hy,q⟩:=h;cases rx
 have J:=rv.zero;subst J;obtain⟨z,its,n,r,hl,e⟩:=I.lstM Y;obtain⟨u,hu,ru⟩:=r.get hy;have O:its.toArray[its.toArray.size - 1]? =some u:=by
  show its.toArray[its.length - 1]? =some u;rw[<- z0q,<- hl];exact hu
 refine call_meets F.slot_list_pop ⟨_,e,rfl⟩ F.entry_list_pop (F.args_list_pop_1 _) (MeetsSeq.list_pop_last l its.toArray n u O (by rw[z1n];lia)) ⟨e,?_⟩;refine⟨y,_,I.lset (its':=its.dropLast) Y e ?_ r.dropLast ?_,ru,q⟩
 ·show its.toArray.eraseIdxIfInBounds (its.toArray.size - 1)=its.dropLast.toArray;rw[z1n,List.eraseIdxIfInBounds_toArray,qn1]
 ·rw[List.length_dropLast]
  lia
def rCat:R2:=λx y H Q=>∃l b xs zs,x= .ref l/\y= .ref b/\H l=some (.lst xs)/\H b=some (.lst zs)/\xs.length+zs.length<=sizeLine/\∀p,H p=none->Q (.ref p) (upd H p (.lst (xs++zs)))
def q85:OpR X (binaryOp .Add) rCat:=by
 intro xC s σ H x y v u Q I rx ry h;obtain⟨l,b,xs,zs,rfl,rfl,hH,hB,hz,q⟩:=h;cases rx
 cases ry
 obtain⟨z,its,n,r,hl,e⟩:=I.lstM hH;obtain⟨z2,J,n2,r2,hl2,e2⟩:=I.lstM hB;refine PySem.P.add_list e e2 ?_ (by rw[z1n,z1n];lia);have ea:its.toArray++J.toArray=(its++J).toArray:=by simp
 rw[ea];exact⟨.ref _,_,I.lnew (t':=s.toks) (r.append r2) (by rw[z1b];lia),rfl,q _ I.fresh⟩
end
section
variable{prog:Program}{w:World}{A:Around}{E:xB}{s:Shared}
end
section
variable{X:Cx}
end
section
variable{κ:Type}[DecidableEq κ]
def valV(kvs:List (κ×V))(k:κ):Option V:=(kvs.find? λkv=>decide (kv.1=k)).map (·.2)
def putK(kvs:List (κ×V))(k:κ)(v:V):List (κ×V):=
 if (kvs.any λkv=>decide (kv.1=k))=true then kvs.map (λkv=>if kv.1=k then (kv.1,v) else kv) else kvs++ [(k,v)]
def q15{p:κ×V}{r:List (κ×V)}{k:κ}(e:p.1=k):valV (p::r) k=some p.2:=by simp[valV,z2k,e]
def q26{p:κ×V}{r:List (κ×V)}{k:κ}(e:¬ p.1=k):valV (p::r) k=valV r k:=by simp[valV,z2k,e]
theorem q2q(k:κ):∀kvs:List (κ×V),(kvs.any λkv=>decide (kv.1=k))=(valV kvs k).isSome
 | []=>rfl
 | p::r=>by
  rw[z35];by_cases e:p.1=k
  ·simp only[q15 e,z2s e,Bool.true_or,Option.isSome_some]
  ·rw[q26 e,z2d e,Bool.false_or];exact q2q k r
theorem qiv(k j:κ)(y:V):∀kvs:List (κ×V),valV (kvs.map λJ=>if J.1=k then (J.1,y) else J) j=(valV kvs j).map λx=>if j=k then y else x
 | []=>rfl
 | p::r=>by
  have O:=qiv k j y r;rw[z30];by_cases h:p.1=k
  ·rw[if_pos h];by_cases e:p.1=j
   ·rw[q15 (p:=(p.1,y)) e,q15 e,Option.map_some,if_pos (e.symm.trans h)]
   ·rw[q26 (p:=(p.1,y)) e,q26 e,O]
  ·rw[if_neg h];by_cases e:p.1=j
   ·rw[q15 (p:=p) e,q15 e,Option.map_some,if_neg (λz=>h (e.trans z))]
   ·rw[q26 (p:=p) e,q26 e,O]
theorem qgz(k j:κ)(y:V):∀kvs:List (κ×V),valV kvs k=none->valV (kvs++ [(k,y)]) j=if j=k then some y else valV kvs j
 | [],_=>by
  by_cases e:k=j
  ·rw[if_pos e.symm];exact q15 (p:=(k,y)) e
  ·rw[if_neg (λz=>e z.symm)];exact q26 (p:=(k,y)) e
 | p::r,hn=>by
  rw[List.cons_append];have hk:¬ p.1=k:=λz=>by rw[q15 z]at hn;cases hn
  rw[q26 hk]at hn;have ih:=qgz k j y r hn;by_cases e:p.1=j
  ·rw[q15 e,q15 e,if_neg (λz=>hk (e.trans z))]
  ·rw[q26 e,q26 e,ih]
def q6p(kvs:List (κ×V))(k j:κ)(y:V):valV (putK kvs k y) j=if j=k then some y else valV kvs j:=by
 unfold putK;by_cases a:(kvs.any λkv=>decide (kv.1=k))=true
 ·rw[if_pos a,qiv];rw[q2q]at a;by_cases e:j=k
  ·obtain⟨x,hx⟩:=Option.isSome_iff_exists.mp a;rw[if_pos e,e,hx,Option.map_some,if_pos rfl]
  ·rw[if_neg e];cases valV kvs j with
   | none=>rfl
   | some x=>rw[Option.map_some,if_neg e]
 ·rw[if_neg a];refine qgz k j y kvs ?_;rw[q2q]at a;cases q:valV kvs k with
  | none=>rfl
  | some x=>rw[q]at a;exact(a rfl).elim
def q2j(kvs:List (κ×V))(k:κ)(v:V):(putK kvs k v).length<=kvs.length+1:=by
 unfold putK;split
 ·rw[z2h];lia
 ·rw[z1b,z20,z2l];lia
def qr6{kvs:List (κ×V)}{k:κ}(v:V)(h:valV kvs k=none):putK kvs k v=kvs++ [(k,v)]:=by
 unfold putK;rw[q2q,h];exact if_neg (by decide)
def RelO.q4m{o:Option V}{u:Option Value}(r:RelO o u):o.isSome=u.isSome:=by
 cases o with
 | none=>cases u with
  | none=>rfl
  | some _=>exact(show False from r).elim
 | some _=>cases u with
  | none=>exact(show False from r).elim
  | some _=>rfl
theorem RelO.getD{o:Option V}{u:Option Value}{d:V}{d':Value}(r:RelO o u)(rd:RelV d d'):RelV (o.getD d) (u.getD d'):=by
 cases o with
 | none=>cases u with
  | none=>exact rd
  | some _=>exact(show False from r).elim
 | some _=>cases u with
  | none=>exact(show False from r).elim
  | some _=>exact r
def KV.val{kvs:List (κ×V)}{vs:List (κ×Value)}(r:KV kvs vs)(k:κ):RelO (valV kvs k) (valueAt vs k):=by
 unfold KV at r
 induction r with
 | nil=>exact True.intro
 | @cons p q ps J h t ih=>
  obtain⟨h1,h2⟩:=h;by_cases e:p.1=k
  ·have e':q.1=k:=h1.symm.trans e;have b:valueAt (q::J) k=some q.2:=by simp[valueAt,z2k,e']
   rw[q15 e,b];exact h2
  ·have e':¬ q.1=k:=λz=>e (h1.trans z);have b:valueAt (q::J) k=valueAt J k:=by simp[valueAt,z2k,e']
   rw[q26 e,b];exact ih
theorem KV.any{kvs:List (κ×V)}{vs:List (κ×Value)}(r:KV kvs vs)(k:κ):(kvs.any λJ=>decide (J.1=k))=vs.any λJ=>decide (J.1=k):=by
 unfold KV at r
 induction r with
 | nil=>rfl
 | cons h t ih=>rw[z35,z35,ih,h.1]
def KV.repl{kvs:List (κ×V)}{vs:List (κ×Value)}(r:KV kvs vs)(k:κ){y:V}{u:Value}(ry:RelV y u):
  KV (kvs.map λJ=>if J.1=k then (J.1,y) else J) (vs.map λJ=>if J.1=k then (J.1,u) else J):=by
 unfold KV at r ⊢
 induction r with
 | nil=>exact .nil
 | @cons p q ps qs h t ih=>
  rw[z30,z30];refine .cons ?_ ih;obtain⟨h1,h2⟩:=h;by_cases e:p.1=k
  ·rw[if_pos e,if_pos (h1.symm.trans e)];exact⟨h1,ry⟩
  ·rw[if_neg e,if_neg (λz=>e (h1.trans z))];exact⟨h1,h2⟩
def KV.put{kvs:List (κ×V)}{vs:List (κ×Value)}(r:KV kvs vs)(k:κ){y:V}{u:Value}(ry:RelV y u):KV (putK kvs k y) (stored vs k u):=by
 unfold putK stored;rw[r.any k];by_cases e:(vs.any λkv=>decide (kv.1=k))=true
 ·rw[if_pos e,if_pos e];exact r.repl k ry
 ·rw[if_neg e,if_neg e];exact Paired.snoc r ⟨rfl,ry⟩
theorem KV.length{kvs:List (κ×V)}{vs:List (κ×Value)}(r:KV kvs vs):kvs.length=vs.length:=Paired.length r
end
def q91{P:Program}{w:World}{k:Key}{u:Value}(r:RelV (kV k) u):(q16 P w).is k u=true:=by
 cases k with
 | inl i=>obtain⟨t,e⟩:=(show ∃t,u=Value.int i t from r);subst e;exact qkl P w i t
 | inr x=>obtain⟨t,e⟩:=(show ∃t,u=Value.str x t from r);subst e;exact qdb P w x t
theorem qh0{P:Program}{w:World}:∀{ks:List Key} {us:xH},Vals (ks.map kV) us->ItemsAre (q16 P w) ks us
 | [],_,r=>by rw[z3g]at r;cases r;exact .nil
 | k::ks,_,r=>by
  rw[z30]at r;cases r with
  | cons h t=>exact .cons (q91 h) (qh0 t)
abbrev KT(H:Hp):List (List Key×V)->List (List Key×Addr×Value)->Prop:=Paired λp q=>p.1=q.1/\H q.2.1=some (.tup (p.1.map kV))/\RelV p.2 q.2.2
def KT.val{H:Hp}{kvs:List (List Key×V)}{xs:List (List Key×Addr×Value)}(r:KT H kvs xs)(k:List Key):RelO (valV kvs k) ((atKey xs k).map (·.2)):=by
 induction r with
 | nil=>exact True.intro
 | @cons p q ps J h t ih=>
  obtain⟨h1,_,h2⟩:=h;by_cases e:p.1=k
  ·have e':q.1=k:=h1.symm.trans e;have b:atKey (q::J) k=some q.2:=by simp[atKey,z2k,e']
   rw[q15 e,b];exact h2
  ·have e':¬ q.1=k:=λz=>e (h1.trans z);have b:atKey (q::J) k=atKey J k:=by simp[atKey,z2k,e']
   rw[q26 e,b];exact ih
def KT.repl{H:Hp}{kvs:List (List Key×V)}{xs:List (List Key×Addr×Value)}(r:KT H kvs xs)(k:List Key){y:V}{u:Value}(ry:RelV y u):
  KT H (kvs.map λJ=>if J.1=k then (J.1,y) else J) (xs.map (putAt k u)):=by
 induction r with
 | nil=>exact .nil
 | @cons p q ps qs h t ih=>
  rw[z30,z30];refine .cons ?_ ih;obtain⟨h1,h2,h3⟩:=h;unfold putAt;by_cases e:p.1=k
  ·rw[if_pos e,if_pos (h1.symm.trans e)];exact⟨h1,h2,ry⟩
  ·rw[if_neg e,if_neg (λz=>e (h1.trans z))];exact⟨h1,h2,h3⟩
def KT.put{H:Hp}{kvs:List (List Key×V)}{xs:List (List Key×Addr×Value)}(r:KT H kvs xs)(k:List Key){b:Addr}{y:V}{u:Value}(hb:H b=some (.tup (k.map kV)))(ry:RelV y u):
  KT H (putK kvs k y) (storedH xs k b u):=by
 have e:(kvs.any λkv=>decide (kv.1=k))=(atKey xs k).isSome:=by
  rw[q2q,(r.val k).q4m,Option.isSome_map]
 unfold putK storedH;rw[e];by_cases q:(atKey xs k).isSome=true
 ·rw[if_pos q,if_pos q];exact r.repl k ry
 ·rw[if_neg q,if_neg q];exact Paired.snoc r ⟨rfl,hb,ry⟩
def KT.keeps{H H':Hp}{kvs:List (List Key×V)}{xs:List (List Key×Addr×Value)}(r:KT H kvs xs)(ht:∀b ys,H b=some (.tup ys)->H' b=some (.tup ys)):KT H' kvs xs:=
 Paired.mapP r λ_ _ z=>⟨z.1,ht _ _ z.2.1,z.2.2⟩
section
variable{P:Program}{w:World}{H:Hp}{h:Heap}{a:Addr}
def qsv{u:HO}(ok:HOk P w H h)(e:Rd H a u):ObjOk P w H h a u:=e.ok ok
def q92{kvs:List (Key×V)}(ok:HOk P w H h)(e:Rd H a (.dK kvs)):kvs.length<=sizeLine/\(a==sysModules)=false/\∃vs,KV kvs vs/\h.DictOf (q16 P w) a vs:=
 show ObjOk P w H h a (.dK kvs) from qsv ok e
def qn2{kvs:List (Key×V)}(ok:HOk P w H h)(e:H a=some (.dK kvs)):kvs.length<=sizeLine/\(a==sysModules)=false/\∃vs,KV kvs vs/\h.DictOf (q16 P w) a vs:=q92 ok (.inl e)
def q86{ks:List Key}(ok:HOk P w H h)(e:H a=some (.tup (ks.map kV))):(tupleKind (q16 P w)).is h ks a:=by
 obtain⟨_,its,r,o,h1,h2,n,h3⟩:=(show ObjOk P w H h a (.tup (ks.map kV)) from ok a _ e);exact⟨o,its.toArray,n,h1,h2,h3,by simpa using qh0 r⟩
def qaj{kvs:List (List Key×V)}(ok:HOk P w H h)(e:Rd H a (.dT kvs)):kvs.length<=sizeLine/\(a==sysModules)=false/\
  ∃xs,KT H kvs xs/\h.DictOfH (tupleKind (q16 P w)) a xs:=by
 obtain⟨z,y,xs,r,o,es,ep,h1,h2,h3,h4,h5⟩:=(show ObjOk P w H h a (.dT kvs) from qsv ok e);refine⟨z,y,xs,r,o,es,ep,h1,h2,h3,h4,λx J=>?_,h5⟩;have all:∀{l:List (List Key×V)} {m:List (List Key×Addr×Value)},KT H l m->∀x∈m,(tupleKind (q16 P w)).is h x.1 x.2.1:=by
  intro l m q
  induction q with
  | nil=>intro x J;exact nomatch J
  | @cons p q ps qs hq t ih=>
   intro x J;rcases z32.mp J with e | J
   ·subst e;exact q86 ok (by rw[<- hq.1];exact hq.2.1)
   ·exact ih x J
 exact all r x J
def qsw{kvs:List (List Key×V)}(ok:HOk P w H h)(e:H a=some (.dT kvs)):kvs.length<=sizeLine/\(a==sysModules)=false/\
  ∃xs,KT H kvs xs/\h.DictOfH (tupleKind (q16 P w)) a xs:=qaj ok (.inl e)
end
def DGet(H:Hp)(a:Addr)(y:V)(r:Option V):Prop:=
 (∃kvs k,Rd H a (.dK kvs)/\y=kV k/\r=valV kvs k)\/ ∃kvs k b,Rd H a (.dT kvs)/\y= .ref b/\H b=some (.tup (k.map kV))/\r=valV kvs k
def DPut(H:Hp)(a:Addr)(y v:V)(H':Hp):Prop:=
 (∃kvs k,H a=some (.dK kvs)/\y=kV k/\kvs.length < sizeLine/\H'=upd H a (.dK (putK kvs k v)))\/
 ∃kvs k b,H a=some (.dT kvs)/\y= .ref b/\H b=some (.tup (k.map kV))/\kvs.length < sizeLine/\H'=upd H a (.dT (putK kvs k v))
theorem DGet.k{H:Hp}{a:Addr}{kvs:List (Key×V)}{k:Key}(e:H a=some (.dK kvs)):DGet H a (kV k) (valV kvs k):= .inl ⟨kvs,k,.inl e,rfl,rfl⟩
def DGet.t{H:Hp}{a b:Addr}{kvs:List (List Key×V)}{k:List Key}(e:H a=some (.dT kvs))(eb:H b=some (.tup (k.map kV))):DGet H a (.ref b) (valV kvs k):= .inr ⟨kvs,k,b,.inl e,rfl,eb,rfl⟩
theorem DPut.k{H:Hp}{a:Addr}{kvs:List (Key×V)}{k:Key}{v:V}(e:H a=some (.dK kvs))(hl:kvs.length < sizeLine):DPut H a (kV k) v (upd H a (.dK (putK kvs k v))):= .inl ⟨kvs,k,e,rfl,hl,rfl⟩
section
variable{X:Cx}{xC:xG}{σ:St}{H:Hp}{s:Shared}{a:Addr}{y v:V}{u r:Value}{o:Option V}{A:Around}{E:xB}
def Inv.big(I:Inv X xC σ H s):sysModules < s.heap.objs.size:=by
 have h:mainGlobals < s.heap.objs.size:=(I.mod.glob.keeps I.bk).lt;exact Nat.lt_trans (by decide) h
def qot{Q:xB}(hu:A.units+1 < cLine)(I:Inv X xC σ H s)(g:DGet H a y (some v))(ry:RelV y u)(h:∀Y s',Inv X xC σ H s'->RelV v Y->Q Y s'):
  wpAny (model X.prog X.w) A (getItem (.ref a) u) Q E s:=by
 rcases g with ⟨kvs,k,e,ey,l⟩ | ⟨kvs,k,b,e,ey,eb,l⟩
 ·subst ey;obtain⟨z,hd,vs,J,dd⟩:=q92 I.hok e;obtain⟨Y,hw,O⟩:=RelO.qcm (v:=v) (o:=valueAt vs k) (by rw[l];exact J.val k);exact wpAny_getItem_of (q91 ry) dd.mapOf hw (h Y _ (I.tok _) O)
 ·subst ey;cases (show u=Value.ref b from ry)
  obtain⟨z,hd,xs,J,dd⟩:=qaj I.hok e;obtain⟨Y,hw,O⟩:=RelO.qcm (v:=v) (o:=(atKey xs k).map (·.2)) (by rw[l];exact J.val k);obtain⟨p,hp,Z⟩:=z0n.mp hw;refine wpAny_getItem_heap (tupleKind_room_in1 hu) (q86 I.hok eb) dd hp ?_;rw[Z];exact h Y _ (I.tok _) O
def d_in{Q:xB}(hu:A.units+1 < cLine)(I:Inv X xC σ H s)(g:DGet H a y o)(ry:RelV y u)(h:∀s',Inv X xC σ H s'->Q (.bool o.isSome) s'):
  wpAny (model X.prog X.w) A (compareOp .In u (.ref a)) Q E s:=by
 rcases g with ⟨kvs,k,e,ey,l⟩ | ⟨kvs,k,b,e,ey,eb,l⟩
 ·subst ey;obtain⟨z,hd,vs,J,dd⟩:=q92 I.hok e;refine wpAny_in_of (q91 ry) hd dd.mapOf ?_;rw[<- (J.val k).q4m,<- l];exact h _ (I.tok _)
 ·subst ey;cases (show u=Value.ref b from ry)
  obtain⟨z,hd,xs,J,dd⟩:=qaj I.hok e;refine wpAny_in_heap (tupleKind_room_in1 hu) (q86 I.hok eb) hd dd ?_;have q:=(J.val k).q4m;rw[Option.isSome_map]at q;rw[<- q,<- l];exact h _ (I.tok _)
def qts{Q:xB}(hu:A.units+1 < cLine)(I:Inv X xC σ H s)(g:DGet H a y o)(ry:RelV y u)(h:∀s',Inv X xC σ H s'->Q (.bool (!o.isSome)) s'):
  wpAny (model X.prog X.w) A (compareOp .NotIn u (.ref a)) Q E s:=by
 rcases g with ⟨kvs,k,e,ey,l⟩ | ⟨kvs,k,b,e,ey,eb,l⟩
 ·subst ey;obtain⟨z,hd,vs,J,dd⟩:=q92 I.hok e;refine wpAny_notIn_of (q91 ry) hd dd.mapOf ?_;rw[<- (J.val k).q4m,<- l];exact h _ (I.tok _)
 ·subst ey;cases (show u=Value.ref b from ry)
  obtain⟨z,hd,xs,J,dd⟩:=qaj I.hok e;refine wpAny_notIn_heap (tupleKind_room_in1 hu) (q86 I.hok eb) hd dd ?_;have q:=(J.val k).q4m;rw[Option.isSome_map]at q;rw[<- q,<- l];exact h _ (I.tok _)
def q6q{h':Heap}{t':Nat}{ob:HO}(I:Inv X xC σ H s)(mu:Mut (H a))(hs:Heap.SameBut a s.heap h')(he:∃q,h'.get? a=some q)(new:ObjOk X.prog X.w (upd H a ob) h' a ob):
  Inv X xC σ (upd H a ob) {s with heap:=h',toks:=t'}:=
 I.write (x:=a) (e:=a) mu (.inl rfl) (λb q hb z=>(hs.2 b hb).trans z) he new
def qiw{P:Program}{w:World}{H':Hp}{h':Heap}{kvs:List (Key×V)}{vs:List (Key×Value)}(z:kvs.length<=sizeLine)(hd:(a==sysModules)=false)(J:KV kvs vs)(dd:h'.DictOf (q16 P w) a vs):
  ObjOk P w H' h' a (.dK kvs):=⟨z,hd,vs,J,dd⟩
def qou{H':Hp}{Q:Unit->Shared->Prop}(hu:A.units+1 < cLine)(I:Inv X xC σ H s)(g:DPut H a y v H')(ry:RelV y u)(rv:RelV v r)(h:∀s',Inv X xC σ H' s'->Q () s'):
  wpAny (model X.prog X.w) A (setItem (.ref a) u r) Q E s:=by
 rcases g with ⟨kvs,k,e,ey,l,eH⟩ | ⟨kvs,k,b,e,ey,eb,l,eH⟩
 ·subst ey eH;obtain⟨z,hd,vs,J,dd⟩:=qn2 I.hok e;have hz:vs.length<=sizeLine:=by rw[<- J.length];exact z
  have hl:(putK kvs k v).length<=sizeLine:=by have:=q2j kvs k v;lia
  refine wpAny_setItem_pairs (hsz:=hz) (q91 ry) dd λh' O Y=>h _ ?_;have he:∃q,h'.get? a=some q:=let ⟨q,_,_,hq,_⟩:=O;⟨q,hq⟩
  exact q6q I (by rw[e];exact True.intro) Y he (qiw hl hd (J.put k rv) O)
 ·subst ey eH;cases (show u=Value.ref b from ry)
  obtain⟨z,hd,xs,J,dd⟩:=qsw I.hok e;have hz:xs.length<=sizeLine:=by rw[<- Paired.length J];exact z
  have hl:(putK kvs k v).length<=sizeLine:=by have:=q2j kvs k v;lia
  refine wpAny_setItem_heap (hsz:=hz) (tupleKind_room_in1 hu) (q86 I.hok eb) dd λh' O Y=>h _ ?_;obtain⟨q,es,ep,hq,h2,h3,h4,_,h5⟩:=O;refine q6q I (by rw[e];exact True.intro) Y ⟨q,hq⟩ ⟨hl,hd,_,(J.put k eb rv).keeps λc ys Z=>?_,q,es,ep,hq,h2,h3,h4,h5⟩;rw[qk (qsp Z e (λz=>nomatch z))];exact Z
end
section
variable{X:Cx}{xC:xG}{σ:St}{H:Hp}{s:Shared}{a:Addr}{kvs:List (Key×V)}{k:Key}{u:Value}{A:Around}{E:xB}
end
def NoSl(i:Expr):Prop:=∀ov iv,subscripted i false ov iv=operate [ov,iv] (getItem ov iv)
def qlz{prog:Program}{w:World}{A:Around}{E:xB}{s:Shared}{env:Env}{value J:Expr}{pos:Pos}{T id:String}{Q:xB}
    (hl:typeLookup (.type T) "__getitem__"=pure (some (.builtin id))) (hs:NoSl J)
    (h:wpAny (model prog w) A (eval value env) (λo s₁=>wpAny (model prog w) A (eval J env) (λi O=>O.TypeIs o T/\wpAny (model prog w) A (getItem o i) Q E O) E s₁) E s):
    wpAny (model prog w) A (eval (.Subscript value J pos) env) Q E s:=by
  refine Subscript_ (z3q h (λo s₁ h₁=>z3q h₁ (λi O Y=>?_) λ_ _ x=>x) λ_ _ x=>x);obtain⟨Z,Y⟩:=Y;unfold subscriptTail;refine z3p ?_;rw[getitemInPython_of_ne Z.not_modules];refine z3p (wpAny_specialOf Z hl ?_);have fin:wpAny (model prog w) A (subscripted J false o i) (λr s₃=>wpAny (model prog w) A (letTemporaryGo value o r >>=λ_=>pure r) Q E s₃) E O:=by
    rw[hs o i];exact wpAny_operating (z3q Y (λr s₃ h₃=>z3p (wpAny_letTemporaryGo (z3o h₃))) λ_ _ x=>x)
  first
    | exact z3o (z3p fin)
    | exact z3p (z3o (z3p fin))
    | exact z3p fin
def qkm{X:Cx}{xC:xG}{σ:St}{H:Hp}{s:Shared}{a:Addr}{y:V}{o:Option V}(I:Inv X xC σ H s)(g:DGet H a y o):s.TypeIs (.ref a) "dict":=by
 rcases g with ⟨kvs,k,e,_,_⟩ | ⟨kvs,k,b,e,_,_,_⟩
 ·obtain⟨_,_,vs,_,dd⟩:=q92 I.hok e;exact dd.typeIs
 ·obtain⟨_,_,xs,_,dd⟩:=qaj I.hok e;exact dd.typeIs
def qxs(td ty:TE):TE:=λσ H Q=>td σ H λx H1=>ty σ H1 λy H2=>∃a v,x= .ref a/\DGet H2 a y (some v)/\Q v H2
def tDIn(ty td:TE):TE:=λσ H Q=>ty σ H λy H1=>td σ H1 λx H2=>∃a o,x= .ref a/\DGet H2 a y o/\Q (.bl o.isSome) H2
def qtt(ty td:TE):TE:=λσ H Q=>ty σ H λy H1=>td σ H1 λx H2=>∃a o,x= .ref a/\DGet H2 a y o/\Q (.bl (!o.isSome)) H2
def qxt(td ty tv:TE):TS:=λD σ H=>tv σ H λv H1=>td σ H1 λx H2=>ty σ H2 λy H3=>∃a H4,x= .ref a/\DPut H3 a y v H4/\D.nx σ H4
section
variable{X:Cx}{o i e value:Expr}{pos pos' tpos:Pos}{td ty tv:TE}
def qfu(hu:X.A.units+1 < cLine)(ho:PE X o td)(hi:PE X i ty)(hs:NoSl i):PE X (.Subscript o i pos) (qxs td ty):=by
 intro xC s σ H Q I h;refine qlz PySem.F.slot_dict_getitem.lookup hs (thn (ho xC s σ H _ I h) λu s1 ⟨x,H1,I1,rx,q1⟩=>thn (hi xC s1 σ H1 _ I1 q1) λiv s2 O=>?_);obtain⟨y,H2,I2,ry,a,v,ex,g,q2⟩:=O;subst ex;obtain rfl:u=Value.ref a:=rx;exact⟨qkm I2 g,qot hu I2 g ry λw' s3 I3 J=>⟨v,H2,I3,J,q2⟩⟩
def qw3(hu:X.A.units+1 < cLine)(hi:PE X i ty)(ho:PE X o td):PC X .In i o (tDIn ty td):=by
 intro xC s σ H Q I h;refine thn (hi xC s σ H _ I h) λiv s1 ⟨y,H1,I1,ry,q1⟩=>thn (ho xC s1 σ H1 _ I1 q1) λu s2 J=>?_;obtain⟨x,H2,I2,rx,a,ov,ex,g,q2⟩:=J;subst ex;obtain rfl:u=Value.ref a:=rx;exact d_in hu I2 g ry λs3 I3=>⟨.bl ov.isSome,H2,I3,zr,q2⟩
def qh1(hu:X.A.units+1 < cLine)(hi:PE X i ty)(ho:PE X o td):PC X .NotIn i o (qtt ty td):=by
 intro xC s σ H Q I h;refine thn (hi xC s σ H _ I h) λiv s1 ⟨y,H1,I1,ry,q1⟩=>thn (ho xC s1 σ H1 _ I1 q1) λu s2 J=>?_;obtain⟨x,H2,I2,rx,a,ov,ex,g,q2⟩:=J;subst ex;obtain rfl:u=Value.ref a:=rx;exact qts hu I2 g ry λs3 I3=>⟨.bl (!ov.isSome),H2,I3,zr,q2⟩
def qfv(hu:X.A.units+1 < cLine)(ho:PE X o td)(hi:PE X i ty)(hv:PE X value tv)(hs:swapsWith value (some (.Subscript o i pos')) pos.line X.env=pure false):
  PS X (.Assign [.Subscript o i pos'] value pos) (qxt td ty tv):=by
 intro xC s σ H D I h;refine wpAny_Assign_Subscript (thn (hv xC s σ H _ I h) λr s1 ⟨v,H1,I1,rv,q1⟩=>thn (ho xC s1 σ H1 _ I1 q1) λu s2 ⟨x,H2,I2,rx,q2⟩=>thn (hi xC s2 σ H2 _ I2 q2) λiv s3 J=>?_) hs;obtain⟨y,H3,I3,ry,a,H4,ex,g,q3⟩:=J;subst ex;obtain rfl:u=Value.ref a:=rx;exact qou hu I3 g ry rv λs4 I4=>⟨σ,H4,I4,q3⟩
end
def qr7{P:Program}{w:World}{H:Hp}(h:Heap)(hb:sysModules < h.objs.size):ObjOk P w H (h.push {cls:= .type "dict",data:= .dict #[]}) h.objs.size (.dK []):=
 ⟨z3m _,beq_eq_false_iff_ne.mpr (Ne.symm (z3c hb)),[],.nil,Heap.DictOf.new h⟩
def qr8{P:Program}{w:World}{H:Hp}(h:Heap)(hb:sysModules < h.objs.size):ObjOk P w H (h.push {cls:= .type "dict",data:= .dict #[]}) h.objs.size (.dT []):=
 ⟨z3m _,beq_eq_false_iff_ne.mpr (Ne.symm (z3c hb)),[],.nil,_,#[],0,z11 _ rfl,⟨rfl,rfl,rfl⟩,rfl,rfl,z2w⟩
def qw4:TE:=λ_ H Q=>∀p,H p=none->Q (.ref p) (upd H p (.dK []))
def qw5:TE:=λ_ H Q=>∀p,H p=none->Q (.ref p) (upd H p (.dT []))
section
variable{X:Cx}{pos:Pos}
def q4n:PE X (.Dict [] [] pos) qw4:=λxC s σ H Q I h=>
 wpAny_Dict_empty ⟨.ref s.heap.objs.size,_,I.laid (a:=s.heap.objs.size) (o:= .dK []) (t':=s.toks) (λ_ _ q=>z0l _ q) (z3j _) (qr7 s.heap I.big),rfl,h _ (I.hok.fresh (z3j _))⟩
def qr9:PE X (.Dict [] [] pos) qw5:=λxC s σ H Q I h=>
 wpAny_Dict_empty ⟨.ref s.heap.objs.size,_,I.laid (a:=s.heap.objs.size) (o:= .dT []) (t':=s.toks) (λ_ _ q=>z0l _ q) (z3j _) (qr8 s.heap I.big),rfl,h _ (I.hok.fresh (z3j _))⟩
end
def q35(kvs more:List (Key×V)):List (Key×V):=more.foldl (λacc kv=>putK acc kv.1 kv.2) kvs
def KV.merge:∀{more:List (Key×V)} {rs:List (Key×Value)} {kvs:List (Key×V)} {vs:List (Key×Value)},KV more rs->KV kvs vs->KV (q35 kvs more) (merged vs rs):=by
 intro more rs kvs vs r;unfold KV at r
 induction r generalizing kvs vs with
 | nil=>intro q;exact q
 | @cons p q ps qs h t ih=>
  intro r0;have e:KV (putK kvs p.1 p.2) (stored vs q.1 q.2):=by
   have:=r0.put p.1 h.2;rw[<- h.1];exact this
  exact ih e
theorem qb0:∀(more kvs:List (Key×V)),(q35 kvs more).length<=kvs.length+more.length
 | [],kvs=>by show kvs.length<=kvs.length+0;lia
 | p::r,kvs=>by
  have h1:=qb0 r (putK kvs p.1 p.2);have h2:=q2j kvs p.1 p.2;show (q35 (putK kvs p.1 p.2) r).length<=_;rw[z20];lia
structure M1 (X:Cx) (o:Expr) (m:Str) (apos:Pos) (e:Expr) (cpos:Pos):Prop where
 base:attributeBase o m X.env (eval o X.env)=eval o X.env
 few:((backTo cpos (starEach [e] X.env)).all (λx=> !x.1)&&(backToKw cpos (keywordEach [] X.env)).all (λx=>x.1.isSome)
  &&decide (([e]:List Expr).length+([]:List Keyword).length+(if ([]:List Keyword).isEmpty then 0 else 1) < 30))=true
 line:(apos.endLine==cpos.line)=true
 trees:backTo cpos (starEach [e] X.env)=[(false,eval e X.env)]
structure M2 (X:Cx) (o:Expr) (m:Str) (apos:Pos) (e f:Expr) (cpos:Pos):Prop where
 base:attributeBase o m X.env (eval o X.env)=eval o X.env
 few:((backTo cpos (starEach [e,f] X.env)).all (λx=> !x.1)&&(backToKw cpos (keywordEach [] X.env)).all (λx=>x.1.isSome)
  &&decide (([e,f]:List Expr).length+([]:List Keyword).length+(if ([]:List Keyword).isEmpty then 0 else 1) < 30))=true
 line:(apos.endLine==cpos.line)=true
 trees:backTo cpos (starEach [e,f] X.env)=[(false,eval e X.env),(false,eval f X.env)]
def IsD(H:Hp)(a:Addr):Prop:=(∃kvs,Rd H a (.dK kvs))\/ ∃kvs,Rd H a (.dT kvs)
def qem{X:Cx}{xC:xG}{σ:St}{H:Hp}{s:Shared}{a:Addr}(I:Inv X xC σ H s)(d:IsD H a):
  s.TypeIs (.ref a) "dict"/\(∀b,Value.ref a= .ref b->∃ob,s.heap.get? b=some ob/\ob.dict=none)/\(a==sysModules)=false:=by
 rcases d with ⟨kvs,e⟩ | ⟨kvs,e⟩
 ·obtain⟨_,hd,vs,_,dd⟩:=q92 I.hok e;refine⟨dd.typeIs,λb q=>?_,hd⟩;cases q
  obtain⟨ob,_,_,h1,h2,_⟩:=dd;exact⟨ob,h1,h2.2.1⟩
 ·obtain⟨_,hd,xs,_,dd⟩:=qaj I.hok e;refine⟨dd.typeIs,λb q=>?_,hd⟩;cases q
  obtain⟨ob,_,_,h1,h2,_⟩:=dd;exact⟨ob,h1,h2.2.1⟩
section
variable{X:Cx}{xC:xG}{σ:St}{H:Hp}{s:Shared}{a:Addr}{y d:V}{u r:Value}{o:Option V}{A:Around}{E:xB}
def qw6{Q:xB}(hu:A.units+1 < cLine)(I:Inv X xC σ H s)(g:DGet H a y o)(ry:RelV y u)(O:RelV d r)(h:∀Y s',Inv X xC σ H s'->RelV (o.getD d) Y->Q Y s'):
  wpAny (model X.prog X.w) A (call (.builtin "dict.get") [.ref a,u,r]) Q E s:=by
 rcases g with ⟨kvs,k,e,ey,l⟩ | ⟨kvs,k,b,e,ey,eb,l⟩
 ·subst ey;obtain⟨z,hd,vs,J,dd⟩:=q92 I.hok e;refine call_meetsIn PySem.F.slot_dict_get dd.typeIs PySem.F.entry_dict_get (PySem.F.args_dict_get_3 _ _ _) (meets_dict_get_default (q16 X.prog X.w) a (q91 ry) hd r) ⟨_,dd.mapOf,h _ _ (I.tok _) ?_⟩;rw[l];exact(J.val k).getD O
 ·subst ey;cases (show u=Value.ref b from ry)
  obtain⟨z,hd,xs,J,dd⟩:=qaj I.hok e;refine call_meetsIn PySem.F.slot_dict_get dd.typeIs PySem.F.entry_dict_get (PySem.F.args_dict_get_3 _ _ _) (meetsH_dict_get_default (tupleKind (q16 X.prog X.w)) a b hd r) ⟨tupleKind_room_in1 hu,k,xs,q86 I.hok eb,dd,h _ _ (I.tok _) ?_⟩;rw[l];exact(J.val k).getD O
end
def qov(td ty tx:TE):TE:=λσ H Q=>td σ H λx H1=>∃a,x= .ref a/\IsD H1 a/\ty σ H1 λy H2=>tx σ H2 λz H3=>∃o,DGet H3 a y o/\Q (o.getD z) H3
section
variable{X:Cx}{o e f:Expr}{apos cpos:Pos}{td ty tx:TE}
def q6r(hu:X.A.units+1 < cLine)(ho:PE X o td)(he:PE X e ty)(hf:PE X f tx)(m:M2 X o "get" apos e f cpos):PE X (.Call (.Attribute o "get" apos) [e,f] [] cpos) (qov td ty tx):=by
 intro xC s σ H Q I h;refine wpAny_Call_method m.base m.few m.line PySem.F.plainAttrs_dict PySem.F.slot_dict_get PySem.F.type_dict_get (thn (ho xC s σ H _ I h) λu s1 O=>?_);obtain⟨x,H1,I1,rx,a,ex,d,q1⟩:=O;subst ex;obtain rfl:u=Value.ref a:=rx;obtain⟨t1,t2,_⟩:=qem I1 d;refine⟨t1,t2,?_⟩;rw[m.trees];refine Calls.callWith_builtin rfl (Calls.evalArgs_plain (Calls.spliced_cons (thn (he xC s1 σ H1 _ I1 q1) λiv s2 ⟨y,H2,I2,ry,q2⟩=>
  Calls.spliced_cons (thn (hf xC s2 σ H2 _ I2 q2) λfv s3 ⟨z,H3,I3,rz,ov,g,q3⟩=>Calls.spliced_nil ?_))))
 exact qw6 hu I3 g ry rz λw' s4 I4 J=>⟨_,H3,I4,J,q3⟩
end
section
variable{X:Cx}{xC:xG}{σ:St}{H:Hp}{s:Shared}{a:Addr}{kvs:List (Key×V)}{A:Around}{E:xB}
end
section
variable{X:Cx}{xC:xG}{σ:St}{H:Hp}{s:Shared}{a:Addr}{y:V}{u:Value}{A:Around}{E:xB}
end
end L2
namespace Att
open PySem PySem.W PySem.Calls PyProof.Rows
def qen{P:Params}{h:Heap}:∀(ns:List Int) (vs:xH),WellAll P h vs (ns.map WData.int)->IntsAre vs ns:=by
 intro ns
 induction ns with
 | nil=>
  intro vs w;rw[z3g]at w;cases w
  exact .nil
 | cons n ns ih=>
  intro vs w;rw[z30]at w;cases w with
  | cons a b=>
   cases a
   exact .cons _ _ (ih _ b)
def qow{l:OpenLaw}{n:Nat}(hn:l.most=some n){P:Params}{h:Heap}{args:List WData}{O:xH}
    (J:l.row.toRowW.claim.pre args=true) (a2:WellAll P h O args):
    ∃a vs ns,O=[Value.ref a]/\args=[WData.list (ns.map WData.int)]/\h.get? a=some {cls:= .type "list",data:= .seq vs.toArray}/\IntsAre vs ns/\ns.length<=n:=by
  have a1:WShape.hasAll [] args [.list .int]=true:=(pre_splitW J).1;have hc:l.pre.holds [] {args:=args}=true:=(pre_splitW J).2;obtain⟨d,r,rfl,h1,h2⟩:=hasAllW_cons a1;obtain rfl:=hasAllW_nil h2;obtain⟨xs,rfl,h3⟩:=hasW_list h1;obtain⟨ns,rfl⟩:=items_int h3;have Z:ns.length<=n:=by
    unfold OpenLaw.pre at hc;have h4:(WTm.not (.lt (.lit (.int (n:Int))) (.len (.arg 0)))).holds [] {args:=[.list (ns.map .int)]}=true:=by
      have h4:=(holds_andW hc).1;rw[hn]at h4;exact h4
    have h5:=condW_of h4 (w_not (w_lt w_lit (w_len_list (w_arg rfl))));rw[z2h]at h5;refine Nat.le_of_not_lt λq=>?_;have q':(n:Int) < ((ns.length:Nat):Int):=by lia
    first
      | (rw[z2s q']at h5;exact absurd h5 (by decide))
      | (simp at h5;lia)
  cases a2 with
  | cons w1 w2=>
    cases w2
    cases w1 with
    | list ho Y=>exact⟨_,_,ns,rfl,rfl,ho,qen ns _ Y,Z⟩
def qox(l:OpenLaw)(args:List WData):l.row.toRowW.claim.post args (.bool true) args=true:=
 postW_of (r:=l.row.toRowW) (X:=(true==true))
  (show WShape.has [] (.bool true) .bool=true by first | rfl | decide | simp[WShape.has,WShape.arms,WShape.armsAll])
  (show (WTm.eq .res (.lit (.bool true))).value [] {args:=args,res:=some (.bool true),after:=args}=some (.bool (true==true)) from w_eq_bool (w_res rfl) w_lit) rfl
def qkn{l:OpenLaw}{n:Nat}{q:Program}{J:xD}{XP:(Str->Option Value)->Heap->Prop}{YP:World->Heap->Prop}{d:DefRec}
  (hn:l.most=some n) (a6:d.params.defaults=[])
  (call:∀(w:World) (s₀ O:Shared) (mg mb:xE) (fa:Addr) (o:Obj) (pm cd Z:Value) (a:Addr) (vs:xH) (ns:List Int),
   Ground q J [] XP w s₀ mg mb O.heap->YP w O.heap->
   O.heap.get? fa=some o->o.data= .func (docDef d.name d.params d.body d.scope pm cd Z)->O.heap.CodeRec cd d.name->mg d.name=some (.ref fa)->
   O.heap.get? a=some {cls:= .type "list",data:= .seq vs.toArray}->IntsAre vs ns->ns.length<=n->O.gens=#[]->
   codeAny (model l.prog w) callerA (.call (.ref fa) ⟨[.ref a],[]⟩) (λr s'=>r= .ok (.ret (.bool true))/\OldK O.heap s'.heap/\s'.os=O.os/\AllBare s'.gens) O):
  WalkO q J XP YP l.row.toRowW d [] (λf vs=>PySem.call f vs):=by
 intro w s₀ O mg mb G Y fa o pm cd Z dV kV ho hd a5 hD a7 hg args b0 as a4 a9 hrd a8 hlo;obtain rfl:dV= .none:=Dflts.none hD a6;obtain rfl:kV= .none:=Dflts.noKw hD;obtain⟨a,vs,ns,rfl,rfl,a3,a1,a2⟩:=qow hn a4 a8;refine enter_call (z3f (call w s₀ O mg mb fa o pm cd Z a vs ns G Y ho (fd_plain hd) a5 a7 a3 a1 a2 hg) λr s' hq=>?_);obtain⟨rfl,h2,h3,h4⟩:=hq;exact⟨.inl ⟨.bool true,.bool true,[],rfl,λ_=>rfl,.bool true,qox l _,λ_=>⟨List.Pairwise.nil,λ_ hm=>(nomatch hm)⟩⟩,h2,h3,h4⟩
section
variable{prog:Program}{w:World}{A:Around}{E:xB}{s:Shared}{K:Frag}
end
end Att
namespace L2
open PySem PySem.Spec PyProof.Rows
theorem qh2:∀{vs:xH} {ns:List Int},IntsAre vs ns->Vals (ns.map V.int) vs
 | _,_,.nil=> .nil
 | _,_,.cons n t h=> .cons ⟨t,rfl⟩ (qh2 h)
def Only(H:Hp):Prop:=∀b,H b=none\/ ∃o xs,H b=some (.frz o (.lst xs))
def qra{P:Program}{w:World}{K:xA}{mg mb:xE}{CX:CXT}{k:Nat}{fa a:Addr}{fd:FuncData}{x:Str}{sp:Sp}{J:Shared}{vs:xH}{ns:List Int}
  (KX:K.In J.heap) (a4:J.heap.Ns mainGlobals mg) (hb:J.heap.Ns builtinsNs mb) (a8:∀x:Str,x≠"__name__" ->mb x=bootBuiltins x) (a3:J.heap.NoLimit) (hg:J.gens=#[])
  (ha:J.heap.get? a=some {cls:= .type "list",data:= .seq vs.toArray}) (hi:IntsAre vs ns) (hl:ns.length<=sizeLine) (hr:Room k callerA)
  (F:∀base:Heap,K.In base->base.Ns mainGlobals mg->FnOk P w K mg base CX k fa fd [x] sp) (a1:∀(s:Shared) (u:Value),BindsTo s fd ⟨[u],[]⟩ [(x,u)])
  (a9:∀H:Hp,Only H->SqL K H a (ns.map V.int)->sp [.ref a] H (λv _=>v= .bl true) λ_ _ _=>False)
  (a7:∀H e s',CX [] H J (λ_ _ _=>False) e s'->False):
  codeAny (model P w) callerA (.call (.ref fa) ⟨[.ref a],[]⟩) (λr s'=>r= .ok (.ret (.bool true))/\OldK J.heap s'.heap/\s'.os=J.os/\AllBare s'.gens) J:=by
 have rv:=qh2 hi;have a6:=hi.length;have Z:∀H:Hp,Only H->SqL K H a (ns.map V.int)->HOk P w H J.heap->(∀b,H b≠none->b=a)->(H a≠none->K.lookup a=none)->
   codeAny (model P w) callerA (.call (.ref fa) ⟨[.ref a],[]⟩) (λr s'=>r= .ok (.ret (.bool true))/\OldK J.heap s'.heap/\s'.os=J.os/\AllBare s'.gens) J:=by
  intro H hO hS hok hA hK;have O:∀{b:Addr} {o:Obj},J.heap.get? b=some o->H b=none->(hidT J.heap H).get? b=some o:=λe n=>qqx e n;have b0:∀{b:Addr} {o:Obj} {es:Array DictEntry} {ep:Nat},J.heap.get? b=some o->o.data= .dict es ep->H b=none:=λ{b o es ep} e d=>by
   cases q:H b with
   | none=>rfl
   | some u=>
    have e':b=a:=hA b (by rw[q];simp);subst e';rw[ha]at e;cases e;have d':Data.seq vs.toArray _=Data.dict es ep:=d;cases d'
  have Y:∀{b:Addr} {m:xE},J.heap.Ns b m->(hidT J.heap H).Ns b m:=λ{b m} ⟨o,es,ep,e,d,r⟩=>⟨o,es,ep,O e (b0 e d),d,r⟩;have a2:K.In (hidT J.heap H):=λb o e=>O (KX b o e) (by
   cases q:H b with
   | none=>rfl
   | some u=>
    have e':b=a:=hA b (by rw[q];simp);subst e';rw[hK (by rw[q];simp)]at e;cases e)
  have hM:Mod K mg (hidT J.heap H):=⟨a2,Y a4,⟨mb,Y hb,a8⟩,let ⟨mc,h1,h2⟩:=a3;⟨mc,Y h1,h2⟩⟩;have e0:Env0 P w K mg (hidT J.heap H) callerA [] J H:=⟨rfl,hM,λb o e=>qta e,Nat.le_of_eq (qoe _ _),trivial,λb hb=>absurd (show b∈([]:List Addr) from hb) (by simp),hok,.of_eq hg⟩;refine z3f ((F _ a2 (Y a4)).run callerA [] J H ⟨[.ref a],[]⟩ [.ref a] [.ref a] _ _ hr e0 (a1 J (.ref a)) (.cons rfl .nil) (a9 H hO hS)) λr s' h=>?_;cases r with
  | error e=>exact(a7 H e s' h).elim
  | ok fl=>
   cases fl with
   | next=>exact False.elim h
   | brk=>exact False.elim h
   | cont=>exact False.elim h
   | ret u=>
    obtain⟨v,H',os,bare,un,a5,r',q⟩:=h;have q':v= .bl true:=q;subst q';obtain rfl:u=Value.bool true:=r';refine⟨zr,OldK.of_keep λb o e=>?_,os,bare⟩;cases q:H b with
    | none=>exact un.keep b o e q (by intro z;exact absurd (show b∈([]:List Addr) from z) (by simp)) (by simp)
    | some u=>
     rcases hO b with z | ⟨ob,xs,z⟩
     ·rw[q]at z;cases z
     ·have z2:=un.frzs b ob _ z;obtain⟨e1,_⟩:=hok b _ z;obtain⟨e2,_⟩:=a5 b _ z2;rw[e]at e1;cases e1;exact e2
 cases hk:K.lookup a with
 | some o=>
  have e:=KX a o hk;rw[ha]at e;cases e
  refine Z (λ_=>none) (λ_=> .inl rfl) (.inr ⟨_,vs.toArray,_,hk,rfl,rfl,rfl,by rw[z1n,a6];exact hl,by simpa using rv⟩) (λb u z=>by have z':(none:Option HO)=some u:=z;cases z') (λb z=>absurd rfl z) λz=>absurd rfl z
 | none=>
  refine Z (λb=>if b=a then some (.frz {cls:= .type "list",data:= .seq vs.toArray} (.lst (ns.map V.int))) else none) (λb=>?_) (.inl (.inr ⟨{cls:= .type "list",data:= .seq vs.toArray},if_pos rfl⟩)) (λb u z=>?_) (λb z=>?_) λ_=>hk
  ·by_cases hb:b=a
   ·exact .inr ⟨_,_,if_pos hb⟩
   ·exact .inl (if_neg hb)
  ·by_cases hb:b=a
   ·have z':=(if_pos hb).symm.trans z;cases z'
    subst hb;exact⟨ha,by rw[z2h];exact hl,vs,_,rv,ha⟩
   ·have z':=(if_neg hb).symm.trans z;cases z'
  ·by_cases hb:b=a
   ·exact hb
   ·exact absurd (if_neg hb) z
abbrev KOf{K:xA}{h:Heap}(_:K.In h):xA:=K
def qm0{l:PySem.W.OpenLaw}{n k:Nat}{q:Program}{Z:xD}{XP:(Str->Option Value)->Heap->Prop}{YP:World->Heap->Prop}{d:DefRec}{K:Params->xA}{CX:World->CXT}{sp:World->Sp}{x:Str}
  (hn:l.most=some n) (a5:n<=sizeLine) (a3:d.params.defaults=[]) (hr:Room k callerA)
  (hY:∀(w:World) (h:Heap),YP w h->(K w.params).In h)
  (F:∀(w:World) (mg:xE) (fa:Addr) (h:Heap),(K w.params).In h->h.Ns mainGlobals mg->mg d.name=some (.ref fa)->
   ∃fd:FuncData,(∀(s:Shared) (u:Value),BindsTo s fd ⟨[u],[]⟩ [(x,u)])/\
    ∀base:Heap,(K w.params).In base->base.Ns mainGlobals mg->FnOk l.prog w (K w.params) mg base (CX w) k fa fd [x] (sp w))
  (a6:∀(w:World) (H:Hp) (a:Addr) (ns:List Int),ns.length<=n->Only H->SqL (K w.params) H a (ns.map V.int)->sp w [.ref a] H (λv _=>v= .bl true) λ_ _ _=>False)
  (a2:∀(w:World) (H:Hp) (s:Shared) (e:Value) (s':Shared),CX w [] H s (λ_ _ _=>False) e s'->False):
  PySem.W.WalkO q Z XP YP l.row.toRowW d [] (λf vs=>PySem.call f vs):=by
 refine Att.qkn hn a3 λw s₀ s₁ mg mb fa o pm cd doc a vs ns G Y ho hd hcd a4 a1 O J hg=>?_;have KX:=hY w _ Y;obtain⟨fd,hb,hF⟩:=F w mg fa _ KX G.T.g a4;exact qra KX G.T.g G.T.b G.T.builtins G.T.nolimit hg a1 O (z3d J a5) hr hF hb (λH hO hS=>a6 w H a ns J hO hS) λH e s'=>a2 w H s₁ e s'
def qrb{l:PySem.W.OpenLaw}{n k:Nat}{q:Program}{J:xD}{XP:(Str->Option Value)->Heap->Prop}{YP:World->Heap->Prop}{d:DefRec}{K:Params->xA}{CX:CXT}{sp:xA->Sp}{x:Str}
  (hn:l.most=some n) (Z:n<=sizeLine) (Y:d.params.defaults=[]) (hr:Room k callerA)
  (hY:∀(w:World) (h:Heap),YP w h->(K w.params).In h)
  (F:∀(w:World) (mg:xE) (fa:Addr) (h:Heap),(K w.params).In h->h.Ns mainGlobals mg->mg d.name=some (.ref fa)->
   ∃fd:FuncData,(∀(s:Shared) (u:Value),BindsTo s fd ⟨[u],[]⟩ [(x,u)])/\
    ∀base:Heap,(K w.params).In base->base.Ns mainGlobals mg->FnOk l.prog w (K w.params) mg base CX k fa fd [x] (sp (K w.params)))
  (a1:∀(K:xA) (H:Hp) (a:Addr) (ns:List Int),ns.length<=n->Only H->SqL K H a (ns.map V.int)->sp K [.ref a] H (λv _=>v= .bl true) λ_ _ _=>False)
  (O:∀(H:Hp) (s:Shared) (e:Value) (s':Shared),CX [] H s (λ_ _ _=>False) e s'->False):
  PySem.W.WalkO q J XP YP l.row.toRowW d [] (λf vs=>PySem.call f vs):=
 qm0 (K:=K) (CX:=λ_=>CX) (sp:=λw=>sp (K w.params)) hn Z Y hr hY F (λw H a ns h1 h2 h3=>a1 (K w.params) H a ns h1 h2 h3) λ_ H s e s'=>O H s e s'
end L2
namespace L2
open PySem PySem.Spec PyProof.Rows
def q1e(s:Stmt)(j:Nat):Stmt:=match s with
 | .ClassDef _ _ _ body _ _ _ _ _ _ _=>body.getD j (.Pass ⟨0,0,0,0⟩)
 | _=> .Pass ⟨0,0,0,0⟩
def q30(s:Stmt):Arguments:=match s with
 | .FunctionDef _ a _ _ _ _ _ _ _ _=>a
 | _=>{posonlyargs:=[],args:=[],vararg:=none,kwonlyargs:=[],kw_defaults:=[],kwarg:=none,defaults:=[]}
def q21(s:Stmt):List Stmt:=match s with
 | .FunctionDef _ _ b _ _ _ _ _ _ _=>b
 | _=>[]
def qd(s:Stmt):Scope:=match s with
 | .FunctionDef _ _ _ _ _ _ sc _ _ _=>sc
 | _=>{kind:= .function,names:=[],isGenerator:=false,isCoroutine:=false}
abbrev CX0:CXT:=λ_ _ _ _ _ _=>False
abbrev E0:XK:=λ_ _ _=>False
def qif{X:Cx}:q5f CX0 X E0:=λ_ _ _ _ _ _ _ h=>h.elim
structure Fun (K:xA) (x qual:Str) (st:Stmt) (f:Addr) (fd:FuncData):Prop where
 ex:∃(oc:Value) (od:Option Addr) (kV doc pm:Value) (an:Option Addr) (cdv ct:Value) (osl:Array (Option Value)),
  fd=PySem.W.fnOf x qual (q30 st) (q21 st) (qd st) .none kV doc pm an cdv ct/\K.lookup f=some ⟨oc,od,.func fd,osl⟩/\PySem.W.codeIn K cdv qual=true
 kp:PySem.W.keepIn K (.ref f)=true
section
variable{P:Program}{w:World}{K:xA}{mg:xE}{base:Heap}
def Fun.ok{x qual:Str}{st:Stmt}{f:Addr}{fd:FuncData}{N ps:xD}{k:Nat}{sp:Sp}(F:Fun K x qual st f fd)(S:FnScope N ps (qd st))(len:∀vs H Q E,sp vs H Q E->vs.length=ps.length)
  (J:∀(cdv:Value) (A:Around) (outer:List Env) (s:Shared) (H:Hp) (vs:List V) (Q:VK) (E:XK),Room k (A.deeper (envOfC qual (qd st) s.heap.objs.size f cdv))->sp vs H Q E->
   ∃t,PSs (cxOf CX0 P w K mg base N qual (qd st) f cdv A outer s H E).nox (q21 st) t/\t {nx:=λ_ H'=>Q .non H',rt:=Q} (q5i N vs) H):FnOk P w K mg base CX0 (k+1) f fd ps sp:=by
 obtain⟨oc,od,kV,doc,pm,an,cdv,ct,osl,rfl,lk,O⟩:=F.ex;refine qsu lk O S len λA outer s H vs Q E hr Y=>?_;obtain⟨t,h,q⟩:=J cdv A outer s H vs Q E hr Y;exact⟨t,h.nox,q⟩
def qoy{x qual:Str}{st:Stmt}{f:Addr}{oc:Value}{od Y:Option Addr}{O:Array (Option Value)}{kV J Z cdv ct:Value}(l:K.lookup f=some ⟨oc,od,.func (PySem.W.fnOf x qual (q30 st) (q21 st) (qd st) .none kV J Z Y cdv ct),O⟩)
  (c:PySem.W.codeIn K cdv qual=true) (k:PySem.W.keepIn K (.ref f)=true):Fun K x qual st f (PySem.W.fnOf x qual (q30 st) (q21 st) (qd st) .none kV J Z Y cdv ct):=⟨⟨oc,od,kV,J,Z,Y,cdv,ct,O,rfl,l,c⟩,k⟩
end
def q3n{A:Around}{k:Nat}(hr:Room k A):A.units+1 < cLine:=Nat.lt_of_le_of_lt (Nat.add_le_add_left (by decide:1<=64) _) hr.units
def small1000{n:Nat}(h:n<=1000):n < sizeLine:=Nat.lt_of_le_of_lt h (by decide)
section
variable{X:Cx}
def pv(i:Nat){x:Str}{pos:Pos}(hN:X.N[i]? =some x:=by rfl)(hv:Vis X.env.scope x:=by first | exact Or.inl rfl | exact Or.inr (Or.inl rfl) | exact Or.inr (Or.inr rfl))(hd:(x==("__debug__":Str))=false:=by decide)
  (J:(x==("__classdict__":Str))=false:=by decide):PE X (.Name x pos) (tVar i):=qvt hN hv hd J
end
def iteF{A B:Prop}(h:B):if false=true then A else B:=by
 rw[if_neg z19];exact h
def iteT{A B:Prop}(h:A):if true=true then A else B:=by
 rw[if_pos rfl];exact h
def ite2{c A B:Prop}[Decidable c](h1:c->A)(h2:¬ c->B):if c then A else B:=by
 by_cases h:c
 ·rw[if_pos h];exact h1 h
 ·rw[if_neg h];exact h2 h
def Same(H H':Hp):Prop:=∀b o,H b=some o->H' b=some o
def Same.refl(H:Hp):Same H H:=λ_ _ h=>h
def Same.trans{H H1 H2:Hp}(a:Same H H1)(b:Same H1 H2):Same H H2:=λc o h=>b c o (a c o h)
def Same.free{H H':Hp}(e:Same H H'){l:Addr}(h:H' l=Option.none):H l=Option.none:=by
 cases q:H l with
 | none=>rfl
 | some o=>
  rw[e l o q]at h;cases h
def Same.seq{K:xA}{H H':Hp}{a:Addr}{xs:List V}(e:Same H H')(h:SqL K H a xs):SqL K H' a xs:=by
 rcases h with (h | ⟨o,h⟩) | h
 ·exact .inl (.inl (e _ _ h))
 ·exact .inl (.inr ⟨o,e _ _ h⟩)
 ·exact .inr h
section
variable{X:Cx}
end
section
variable{κ:Type}[DecidableEq κ]
def qrc{kvs:List (κ×V)}{k:κ}(h:valV kvs k=none):¬ k∈kvs.map (·.1):=by
 intro m;obtain⟨p,hp,e⟩:=z3h.mp m;have q:(kvs.any λkv=>decide (kv.1=k))=true:=z27.mpr ⟨p,hp,z2s e⟩;rw[q2q,h]at q;exact absurd q (by simp)
def qtu{kvs:List (κ×V)}{k:κ}{v:V}(h:valV kvs k=some v):k∈kvs.map (·.1):=by
 have q:(kvs.any λkv=>decide (kv.1=k))=true:=by
  rw[q2q,h]
  all_goals rfl
 obtain⟨p,hp,e⟩:=z27.mp q;exact z3h.mpr ⟨p,hp,of_decide_eq_true e⟩
theorem qm1:∀{l:List κ} {k:κ},l.Nodup->¬ k∈l->(l++ [k]).Nodup
 | [],k,_,_=>by simp
 | a::r,k,h,hk=>by
  obtain⟨h1,h2⟩:=z2j.mp h;show (a::(r++ [k])).Nodup;refine z2j.mpr ⟨λm=>?_,qm1 h2 λm=>hk (z32.mpr (Or.inr m))⟩;rcases z2c.mp m with q | q
  ·exact h1 q
  ·exact hk (z32.mpr (Or.inl (z1a.mp q).symm))
def qm2{kvs:List (κ×V)}{k:κ}(v:V)(hn:(kvs.map (·.1)).Nodup)(h:valV kvs k=none):((putK kvs k v).map (·.1)).Nodup:=by
 rw[qr6 v h,z2n];exact qm1 hn (qrc h)
end
def qfw{β:Type}{x n:Str}{b c:β}{l:List (Str×β)}(h:((n,b)::l).lookup x=some c):(x=n/\b=c)\/ l.lookup x=some c:=by
 rw[List.lookup_cons]at h;cases e:x==n with
 | true=>
  rw[e]at h;exact .inl ⟨eq_of_beq e,Option.some.inj h⟩
 | false=>
  rw[e]at h;exact .inr h
def qdp{β:Type}{x n:Str}{b:β}{l:List (Str×β)}(h:x=n\/ ∃c,l.lookup x=some c):∃c,((n,b)::l).lookup x=some c:=by
 rw[List.lookup_cons];cases e:x==n with
 | true=>exact⟨b,rfl⟩
 | false=>
  rcases h with h | h
  ·subst h;simp at e
  ·exact h
theorem qak{env:Env}:∀(names:List (Str×NameKind)) (J:List (Str×Addr)),(∀y∈names,y.2= .free->∃c,env.cells.lookup y.1=some c)->
    (∀x c,J.lookup x=some c->env.cells.lookup x=some c)->
    ∃cl,(forIn names J (λx r=>if (x.2==NameKind.free)=true then (cellOf env x.1 >>=λc=>pure (ForInStep.yield ((x.1,c)::r))) else pure (ForInStep.yield r)):Sem (List (Str×Addr)))=pure cl/\
      (∀x c,cl.lookup x=some c->env.cells.lookup x=some c)/\(∀y∈names,y.2= .free->∃c,cl.lookup y.1=some c)/\(∀x c,J.lookup x=some c->∃O,cl.lookup x=some O)
  | [],J,_,h=>⟨J,rfl,h,(λ_ z=>nomatch z),λx c e=>⟨c,e⟩⟩
  | (n,k)::r,J,hn,h=>by
    rw[List.forIn_cons];by_cases hk:k= .free
    · subst hk
      obtain⟨c,hc⟩:=hn (n,.free) z1c rfl;have e1:(cellOf env n:Sem Addr)=pure c:=by
        have Z:env.cells.lookup n=some c:=hc;unfold cellOf;rw[Z]
      obtain⟨cl,e,h1,h2,h3⟩:=qak r ((n,c)::J) (λy hy=>hn y (z0v _ hy)) (λx O e=>by
        rcases qfw e with ⟨e1,e2⟩ | e
        · subst e1;subst e2;exact hc
        · exact h x O e)
      refine⟨cl,?_,h1,?_,λx O e=>?_⟩
      · show ((if ((n,NameKind.free).2==NameKind.free)=true then (cellOf env n >>=λc=>pure (ForInStep.yield ((n,c)::J))) else pure (ForInStep.yield J)) >>=_)=_
        rw[if_pos (show ((n,NameKind.free).2==NameKind.free)=true from rfl),e1];exact e
      · intro y hy Y
        rcases z32.mp hy with rfl | hy
        · exact h3 n c (by simp)
        · exact h2 y hy Y
      · obtain⟨c2,e2⟩:=qdp (n:=n) (b:=c) (.inr ⟨O,e⟩)
        exact h3 x c2 e2
    · obtain⟨cl,e,h1,h2,h3⟩:=qak r J (λy hy=>hn y (z0v _ hy)) h
      refine⟨cl,?_,h1,?_,h3⟩
      · show ((if ((n,k).2==NameKind.free)=true then (cellOf env n >>=λc=>pure (ForInStep.yield ((n,c)::J))) else pure (ForInStep.yield J)) >>=_)=_
        rw[if_neg (by simpa using hk)];exact e
      · intro y hy Y
        rcases z32.mp hy with rfl | hy
        · exact absurd Y hk
        · exact h2 y hy Y
def qm3{scope:Scope}{env:Env}(h:∀y∈scope.names,y.2= .free->∃c,env.cells.lookup y.1=some c):
  ∃cl,closureFor scope env=pure cl/\(∀x c,cl.lookup x=some c->env.cells.lookup x=some c)/\(∀y∈scope.names,y.2= .free->∃c,cl.lookup y.1=some c):=by
 obtain⟨cl,e,h1,h2,_⟩:=qak scope.names [] h (λx c e=>by simp at e);refine⟨cl,?_,h1,h2⟩;unfold closureFor;show ((forIn scope.names [] (λx r=>if (x.2==NameKind.free)=true then (cellOf env x.1 >>=λc=>pure (ForInStep.yield ((x.1,c)::r))) else pure (ForInStep.yield r)):Sem (List (Str×Addr))) >>=λr=>pure r)=_;rw[e];rfl
def relK(env:Env)(x:Str)(k:NameKind):NameKind:=if (k== .free&&env.scope.kind== .function&&env.kindOf x==some .cell)=true then .cell else k
theorem qa3{env:Env}{x:Str}:∀(names:List (Str×NameKind)),
    (names.map λ(n,k)=>if (k==NameKind.free&&env.scope.kind== .function&&env.kindOf n==some .cell)=true then (n,NameKind.cell) else (n,k)).lookup x=(names.lookup x).map (relK env x)
  | []=>rfl
  | (n,k)::r=>by
    have ih:=qa3 (env:=env) (x:=x) r;have e:(if (k==NameKind.free&&env.scope.kind== .function&&env.kindOf n==some .cell)=true then (n,NameKind.cell) else (n,k))=(n,relK env n k):=by
      unfold relK;split <;> rfl
    show List.lookup x ((if (k==NameKind.free&&env.scope.kind== .function&&env.kindOf n==some .cell)=true then (n,NameKind.cell) else (n,k))::_)=_;rw[e,List.lookup_cons,List.lookup_cons];cases hx:x==n with
    | true=>
      have:=eq_of_beq hx;subst this;rfl
    | false=>exact ih
def qdf{scope:Scope}{cl:List (Str×Addr)}{C:Addr}{env:Env}{x:Str}:(compEnvC scope cl C env).kindOf x=(scope.names.lookup x).map (relK env x):=qa3 (env:=env) (x:=x) scope.names
def qoz{env:Env}{x:Str}:relK env x .free= .cell\/ relK env x .free= .free:=by
 unfold relK;split
 ·exact .inl rfl
 ·exact .inr rfl
def qtv{env:Env}{x:Str}{k:NameKind}(h:relK env x k= .cell\/ relK env x k= .free):k= .cell\/ k= .free:=by
 unfold relK at h;split at h
 ·rename_i z;simp only[z24,beq_iff_eq]at z;exact .inr z.1.1
 ·exact h
def capt(caps:List (Option Nat))(σ:St):St:=caps.map λo=>match o with
 | none=>none
 | some j=>(σ[j]?).join
def qeo(oN:xD)(osc:Scope)(N:xD)(caps:List (Option Nat))(sc:Scope):Bool:=
 (sc.kind== .function)&&decide N.Nodup&&(N.length==caps.length)&&sc.names.all (λy=> !(y.2== .cell))&&
 sc.names.all (λy=> !(y.2== .local) || sc.names.lookup y.1==some .local)&&
 sc.names.all (λy=> !(y.2== .free) || (osc.names.lookup y.1==some .cell || osc.names.lookup y.1==some .free))&&
 (N.zip caps).all (λp=>match p.2 with
  | none=>true
  | some j=>oN[j]? ==some p.1&&sc.names.lookup p.1==some .free)
structure CompOk (oN:xD) (osc:Scope) (N:xD) (caps:List (Option Nat)) (sc:Scope):Prop where
 kind:sc.kind= .function
 nd:N.Nodup
 len:N.length=caps.length
 nocell:∀y∈sc.names,y.2≠ .cell
 loc:∀y∈sc.names,y.2= .local->sc.names.lookup y.1=some .local
 fr:∀y∈sc.names,y.2= .free->osc.names.lookup y.1=some .cell\/ osc.names.lookup y.1=some .free
 cap:∀(i j:Nat) (x:Str),N[i]? =some x->caps[i]? =some (some j)->oN[j]? =some x/\sc.names.lookup x=some .free
def qh3{O:xD}{J:Scope}{N:xD}{caps:List (Option Nat)}{sc:Scope}(h:qeo O J N caps sc=true):CompOk O J N caps sc:=by
  unfold qeo at h;simp only[z24,z25,decide_eq_true_eq,beq_iff_eq,Bool.or_eq_true,Bool.not_eq_true',beq_eq_false_iff_ne,ne_eq]at h;obtain⟨⟨⟨⟨⟨⟨h1,h2⟩,h3⟩,h4⟩,h5⟩,h6⟩,h7⟩:=h;refine⟨h1,h2,h3,h4,λy hy e=>?_,λy hy e=>?_,λi j x hi hj=>?_⟩
  · rcases h5 y hy with z | z
    · exact absurd e z
    · exact z
  · rcases h6 y hy with z | z
    · exact absurd e z
    · exact z
  · have hm:(x,some j)∈N.zip caps:=by
      refine z0x (i:=i) ?_;rw[List.getElem?_zip_eq_some];exact⟨hi,hj⟩
    have:=h7 _ hm
    simpa using this
def q47(X:Cx)(N:xD)(scope:Scope)(cl:List (Str×Addr))(C:Addr)(fp:List Addr)(s:Shared)(H:Hp):Cx:=
 {X with N:=N,s₀:=s,H₀:=H,env:=compEnvC scope cl C X.env,outer:=X.stack,ex:=fp,fn:=λ_=>false,pn:=[],xe:=λ_ _=>False}
section
variable{X:Cx}{xC:xG}{σ:St}{H:Hp}{s:Shared}{N:xD}{caps:List (Option Nat)}{scope:Scope}{cl:List (Str×Addr)}{fp:List Addr}
def qrd(I:Inv X xC σ H s)(hf:∀b∈fp,FpOk X xC H b)(ho:∀b∈fp,∃o,s.heap.get? b=some o)(S:CompOk X.N X.env.scope N caps scope)
    (c1:∀x c,cl.lookup x=some c->X.env.cells.lookup x=some c) (c2:∀y∈scope.names,y.2= .free->∃c,cl.lookup y.1=some c)
    {h':Heap} {m:xE} {tk:Nat} (hn:h'.Ns s.heap.objs.size m) (hk:∀b u,s.heap.get? b=some u->h'.get? b=some u):
    Inv (q47 X N scope cl s.heap.objs.size fp s H) [] (capt caps σ) H {s with heap:=h',toks:=tk}:=by
  have noS:∀b∈fp,b∉frs X.stack:=λb hb z=>by
    obtain⟨_,f1,f2,_⟩:=hf b hb;rcases z32.mp (I.stkSub b z) with e | e
    · exact f1 e
    · exact f2 e
  have Y:∀x,scope.names.lookup x=some .free->∃c,cl.lookup x=some c:=λx e=>c2 (x,.free) (z12 e) rfl;refine⟨⟨I.ok.mod,S.kind,I.ok.glob,I.ok.blt,z3j _,λx y c e1 e2=>I.ok.inj x y c (c1 x c e1) (c1 y c e2),λx hx=>?_,λx c z _=>absurd (show false=true from z) (by decide),I.ok.hd,I.ok.frames,.inl rfl,
    λb hb=>⟨?_,λx c e=>(hf b hb).2.2.2.2.1 x c (c1 x c e)⟩,I.bs,z3d I.ok.bsz I.sz,λb o e hb=>?_,noS,I.stack,I.stkFree⟩,
    rfl,I.bare,Un.kept hk,⟨m,hn,λi x v e1 e2 e3=>?_⟩,λx c e=>?_,I.hok.fresh (z3j _),λx c e=>I.freeC x c (c1 x c e),λp hp=>absurd (show p∈([]:xG) from hp) (by simp),I.hok.kept hk,?_⟩
  · have J:(scope.names.lookup x).map (relK X.env x)=some .cell\/ (scope.names.lookup x).map (relK X.env x)=some .free:=by
      rw[<- qdf (cl:=cl) (C:=s.heap.objs.size)];exact hx
    cases e:scope.names.lookup x with
    | none=>
      rw[e]at J;rcases J with z | z <;> cases z
    | some k=>
      rw[e]at J;have z:relK X.env x k= .cell\/ relK X.env x k= .free:=by
        rcases J with z | z
        · exact .inl (Option.some.inj z)
        · exact .inr (Option.some.inj z)
      rcases qtv z with z | z
      · subst z
        exact absurd rfl (S.nocell _ (z12 e))
      · subst z
        exact Y x e
  · obtain⟨o,e⟩:=ho b hb
    exact z3c (z3b e)
  · obtain⟨_,_,_,f3,_⟩:=hf b hb
    rcases f3 with z | z
    · exact I.ok.noex b o e z
    · exact absurd (z1e (z3b e) (z3d I.ok.bsz z)) (z34 _)
  · have hi:i < caps.length:=by
      unfold capt at e2;obtain⟨h1,_⟩:=z06.mp e2
      simpa using h1
    have O:(capt caps σ)[i]? =(caps[i]?).map λo=>match o with
        | none=>none
        | some j=>(σ[j]?).join:=by
      unfold capt;rw[z1m]
    rw[e2]at O;cases q:caps[i]? with
    | none=>
      rw[q]at O;cases O
    | some o=>
      rw[q]at O;cases o with
      | none=>
        cases (Option.some.inj O)
      | some j=>
        have ej:σ[j]? =some (some v):=by
          have z:some v=(σ[j]?).join:=Option.some.inj O;cases q2:σ[j]? with
          | none=>rw[q2]at z;cases z
          | some w=>rw[q2]at z;exact congrArg some z.symm
        obtain⟨n1,n2⟩:=S.cap i j x e1 q;have a2:X.env.kindOf x=some .cell\/ X.env.kindOf x=some .free:=S.fr (x,.free) (z12 n2) rfl;obtain⟨m0,_,hl⟩:=I.loc;obtain⟨u,r,l⟩:=hl j x v n1 ej (.inr a2);refine⟨u,r,?_⟩;rcases l with ⟨k,_⟩ | ⟨_,c,O,z⟩
        · rw[k]at a2
          rcases a2 with z | z <;> cases z
        · obtain⟨c',e'⟩:=Y x n2
          have:c'=c:=Option.some.inj ((c1 x c' e').symm.trans O);subst this;refine .inr ⟨?_,c',e',?_⟩
          · have kk:(compEnvC scope cl s.heap.objs.size X.env).kindOf x=some (relK X.env x .free):=by rw[qdf,n2];rfl
            rcases qoz (env:=X.env) (x:=x) with z | z
            · rw[z]at kk;exact .inl kk
            · rw[z]at kk;exact .inr kk
          · obtain⟨o,Z,a1⟩:=z
            exact⟨o,hk _ _ Z,a1⟩
  · obtain⟨v,o,Z,a1⟩:=I.cell x c (c1 x c e)
    exact⟨v,o,hk _ _ Z,a1⟩
  · show (capt caps σ).length=N.length
    unfold capt;rw[z2h];exact S.len.symm
end
def PF(X:Cx)(ifs:List Expr)(t:TT):Prop:=
 ∀(xC:xG) (s:Shared) (σ:St) (H:Hp) (Q:Bool->Hp->Prop),Inv X xC σ H s->t σ H Q->
  wpAny (model X.prog X.w) X.A (forIn ifs true λc r=>if r=true then do let ok <- isTrue c X.env (eval c X.env);pure (ForInStep.yield ok) else pure (ForInStep.yield r)) (TP X xC σ Q) X.xe s
def tYes:TT:=λ_ H Q=>Q true H
section
variable{X:Cx}
def q1r:PF X [] tYes:=λ_ _ _ H _ I h=>z3o ⟨H,I,h⟩
def q87{c:Expr}{t:TT}(hc:PT X c t):PF X [c] t:=by
 intro xC s σ H Q I h;rw[List.forIn_cons];refine z3p ?_;rw[if_pos rfl];refine z3p (thn (hc xC s σ H Q I h) λok s1 q=>z3o ?_);exact z3o q
end
def qix{prog:Program}{w:World}{A:Around}{R:Result->Shared->Prop}{s:Shared}{elt J iter:Expr}{ifs:List Expr}{scope:Scope}{pos:Pos}{it O:Value}{env:Env}(I:Nat->Shared->Prop)
  (turn:∀n s,I n s->wpAny (model prog w) A (pyNext it) (λr s₁=>match r with
   | none=>R (.ok .next) s₁
   | some v=>wpAny (model prog w) A (letOwnedTupleGo J it v) (λ_ Y=>wpAny (model prog w) A (assign J env v) (λ_ s₂=>
     wpAny (model prog w) A (forIn ifs true λc r=>if r=true then do let ok <- isTrue c env (eval c env);pure (ForInStep.yield ok) else pure (ForInStep.yield r)) (λok s₃=>
      if ok=true then wpAny (model prog w) A (eval elt env) (λx s₄=>
       wpAny (model prog w) A (call (.builtin "list.append") [O,x]) (λ_ s₅=>∃m,m < n/\I m s₅) (λ_ _=>False) s₄) (λ_ _=>False) s₃
      else ∃m,m < n/\I m s₃) (λ_ _=>False) s₂) (λ_ _=>False) Y) (λ_ _=>False) s₁) (λ_ _=>False) s)
  (n:Nat) (h:I n s):
  codeAny (model prog w) A (.compLoop (.ListComp elt [⟨J,iter,ifs,0⟩] scope pos) 0 it O env) R s:=by
 refine codeAny_loop rfl I (λn s hI=>?_) n h;show wpAny _ A ((compTurn (.ListComp elt [⟨J,iter,ifs,0⟩] scope pos) 0 it O env).onRaise (λx=>do noteFrame x env;theTreesLotGoes x)) _ _ s;refine wpAny_noted ?_;rw[compTurn_list];refine z3p (wpAny_standAt (z3p (z3q (turn n s hI) (λr s₁ h₁=>?_) λ_ _ z=>False.elim z)));cases r with
 | none=>exact z3o h₁
 | some v=>
  refine z3p (z3q h₁ (λ_ Y Z=>?_) λ_ _ z=>False.elim z);refine z3p (z3q Z (λ_ s₂ h₂=>z3p (z3q h₂ (λok s₃ h₃=>?_) λ_ _ z=>False.elim z)) λ_ _ z=>False.elim z);cases ok with
  | false=>exact z3o ⟨rfl,h₃⟩
  | true=>
   exact z3p (z3p (z3q h₃ (λx s₄ h₄=>z3p (z3q h₄ (λ_ s₅ h₅=>z3o (z3o ⟨zr,h₅⟩)) λ_ _ z=>False.elim z)) λ_ _ z=>False.elim z))
def qsx(J:It)(g:TG)(tf:TT)(te:TE)(D:Addr)(QE:Hp->Prop)(W:Nat->Nat->St->Hp->Prop):Prop:=∀i m σ H,W i m σ H->
 (J.stop i H/\QE H)\/ (J.go i H/\∃N:St->Hp->Prop,(∀σ' H',N σ' H'->∃m',m' < m/\W (i+1) m' σ' H')/\∀x H',J.yld i H x H'->g x σ H' λσ2 H2=>tf σ2 H2 λb H3=>
  if b=true then te σ2 H3 λv H4=>∃xs,H4 D=some (.lst xs)/\xs.length < sizeLine/\N σ2 (upd H4 D (.lst (xs++ [v]))) else N σ2 H3)
def qn3(caps:List (Option Nat))(wi:TI)(g:TG)(tf:TT)(te:TE):TE:=λσ H Q=>wi σ H λJ H1=>∀D,H1 D=none->
 ∃W:Nat->Nat->St->Hp->Prop,(∃m,W 0 m (capt caps σ) (upd H1 D (.lst [])))/\qsx J g tf te D (λH'=>Q (.ref D) H') W
section
variable{X:Cx}{xC:xG}{σ:St}{H:Hp}{s:Shared}{N:xD}{caps:List (Option Nat)}{scope:Scope}{elt tg iter:Expr}{ifs:List Expr}{wi:TI}{g:TG}{tf:TT}{te:TE}{pos:Pos}
def qh4{RR:Value->Addr->Result->Shared->Prop}{cl:List (Str×Addr)}{Q:VK}(hc:X.calm=true)(S:CompOk X.N X.env.scope N caps scope)(hi:PI X tg iter wi)
  (hg:∀cl C fp s H,PG (q47 X N scope cl C fp s H) tg g) (hf:∀cl C fp s H,PF (q47 X N scope cl C fp s H) ifs tf) (he:∀cl C fp s H,PE (q47 X N scope cl C fp s H) elt te)
  (c1:∀x c,cl.lookup x=some c->X.env.cells.lookup x=some c) (c2:∀y∈scope.names,y.2= .free->∃c,cl.lookup y.1=some c)
  (I:Inv X xC σ H s) (h:qn3 caps wi g tf te σ H Q)
  (fin:∀(D C:Addr) (m:xE) (H5:Hp) (s5:Shared),Inv X xC σ H5 s5->s5.heap.Ns C m->FpOk X xC H5 C->Q (.ref D) H5->RR (.ref D) C (.ok .next) s5):
  wpAny (model X.prog X.w) X.A (eval iter X.env) (λx s₁=>wpAny (model X.prog X.w) X.A (pyIter x) (λit s₂=>wpAny (model X.prog X.w) X.A (newList []) (λa5 s₃=>
   wpAny (model X.prog X.w) X.A (newFunctionEnv scope X.env.globals cl [] X.env.qual none .none (some X.env)) (λa2 s₄=>
    codeAny (model X.prog X.w) X.A (.compStart (.ListComp elt [⟨tg,iter,ifs,0⟩] scope pos) 0 it a5 {a2 with scope:=relabel scope X.env}) (RR a5 a2.locals) s₄) X.xe s₃) X.xe s₂) X.xe s₁) X.xe s:=by
 refine thn (hi xC s σ H _ I h) λv s1 h1=>thn h1 λitv Y h2=>?_;obtain⟨it,fp,tn,J,H2,e,I2,T,b0,f2,q⟩:=h2;subst e;have nD:H2 Y.heap.objs.size=none:=I2.hok.fresh (z3j _);obtain⟨W,⟨m0,w0⟩,turn⟩:=q Y.heap.objs.size nD;refine z1s ?_;have I3:Inv X xC σ (upd H2 Y.heap.objs.size (.lst [])) {Y with heap:=Y.heap.push {cls:= .type "list",data:= .seq ([]:xH).toArray}}:=
  I2.laid (t':=Y.toks) (o:= .lst []) (λb ob e=>z0l _ e) (z3j _) ⟨z3m _,[],0,.nil,z11 _ rfl⟩
 have a9:∀b∈fp,∃o,Y.heap.get? b=some o:=λb hb=>let ⟨o,e,_⟩:=T.obj 0 Y.heap b0 b hb;⟨o,e⟩
 have b9:∀b∈fp,b≠Y.heap.objs.size:=λb hb=>let ⟨o,e⟩:=a9 b hb;z3c (z3b e)
 generalize b8:({Y with heap:=Y.heap.push {cls:= .type "list",data:= .seq ([]:xH).toArray}}:Shared)=s3 at I3;have eh:s3.heap=Y.heap.push {cls:= .type "list",data:= .seq ([]:xH).toArray}:=by rw[<- b8]
 generalize hD:Y.heap.objs.size=D at*;generalize b6:upd H2 D (.lst [])=H3 at I3 w0;have f3:∀b∈fp,FpOk X xC H3 b:=λb hb=>⟨by rw[<- b6,qk (b9 b hb)];exact(f2 b hb).1,(f2 b hb).2⟩;have c0:∀b∈fp,∃o,s3.heap.get? b=some o:=λb hb=>let ⟨o,e⟩:=a9 b hb;⟨o,by rw[eh];exact z0l _ e⟩
 have c4:tn 0 s3.heap:=T.keep 0 _ _ b0 λb hb o e=>by rw[eh];exact z0l _ e
 show wpAny (model X.prog X.w) X.A (newFunctionEnv scope X.env.globals cl [] X.env.qual none .none (some X.env)) _ X.xe s3;refine wpAny_newFunctionEnv S.nocell (by intro y hy;simp at hy) (λh₁ a7 a8=>?_) S.kind;have k1:∀b u,s3.heap.get? b=some u->h₁.get? b=some u:=λb u e=>a8.extBut b u (z3c (z3b e)) (z0l _ e);have J0:=qrd (tk:=s3.toks+([]:List (Str×Value)).length) I3 f3 c0 S c1 c2 a7 k1;generalize hC:s3.heap.objs.size=C at*;generalize O:q47 X N scope cl C fp s3 H3=X' at J0;have Z:tn 0 h₁:=T.keep 0 _ _ c4 λb hb o e=>k1 b o e;have a1:∀{H':Hp},(∀b∈fp,H' b=none)->∀b∈fp,FpOk X' [] H' b:=λ{H'} hn b hb=>by
  subst O;exact⟨hn b hb,(J0.ok.exf b hb).1,J0.ok.exfs b hb,.inl hb,(J0.ok.exf b hb).2,λp hp=>absurd (show p∈([]:xG) from hp) (by simp)⟩
 have loop:∀s4:Shared,s4={s3 with heap:=h₁,toks:=s3.toks+([]:List (Str×Value)).length}->
   codeAny (model X.prog X.w) X.A (.compLoop (.ListComp elt [⟨tg,iter,ifs,0⟩] scope pos) 0 (.ref it) (.ref D) (compEnvC scope cl C X.env)) (RR (.ref D) C) s4:=by
  rintro s4 rfl;refine qix (λn s'=>∃i σ' H',Inv X' [] σ' H' s'/\tn i s'.heap/\(∀b∈fp,H' b=none)/\W i n σ' H') ?_ m0 ⟨0,_,H3,J0,Z,λb hb=>(f3 b hb).1,w0⟩;rintro n s4 ⟨i,σ4,H4,J4,Z,a6,w4⟩;rcases turn i n σ4 H4 w4 with ⟨stop,qn⟩ | ⟨go,Nn,b7,step⟩
  ·have d:=T.done X' (by subst O;rfl) (by subst O;rfl) (by subst O;rfl) (by subst O;exact hc) i [] s4 σ4 H4 (λ_ _=>False) J4 (a1 a6) Z stop;have eA:X'.A=X.A:=by subst O;rfl
   rw[eA]at d;refine z3q d (λr s5 hr=>?_) λ_ _ z=>z;obtain⟨hr,J5⟩:=hr;subst hr;have I5:Inv X xC σ H4 s5:=by
    subst O;exact I3.call' J5.os J5.base J5.hok J5.bare λb hb=>⟨(f3 b hb).2.2.2.1,(f3 b hb).2.1,(f3 b hb).2.2.2.2.1,(f3 b hb).2.2.2.2.2⟩
   obtain⟨m,hn,_⟩:=J5.loc;have fr:=J5.free;subst O;exact fin D C m H4 s5 I5 hn (I3.fpOk (b:=C) (Nat.le_of_eq hC) fr) qn
  ·have d:=T.item X' (by subst O;rfl) (by subst O;rfl) (by subst O;rfl) (by subst O;exact hc) i [] s4 σ4 H4 (λ_ _=>False) J4 (a1 a6) Z go;have eA:X'.A=X.A:=by subst O;rfl
   rw[eA]at d;refine z3q d (λr s5 hr=>?_) λ_ _ z=>z;obtain⟨u,hr,h5⟩:=hr;subst hr;refine z3q h5 (λ_ s6 q6=>?_) λ_ _ z=>z;obtain⟨x,H6,J6,r6,y6,a4,b4⟩:=q6;have b3:=J6.pinned (a1 b4) (T.obj _ _ a4);have again:∀{H9:Hp} {s9:Shared} {σ9:St},Inv X' ([]++qbk fp s6.heap) σ9 H9 s9->Nn σ9 H9->∃m,m < n/\∃i σ' H',Inv X' [] σ' H' s9/\tn i s9.heap/\(∀b∈fp,H' b=none)/\W i m σ' H':=λ{H9 s9 σ9} J9 q9=>by
    obtain⟨m',hm,w9⟩:=b7 σ9 H9 q9;refine⟨m',hm,i+1,σ9,H9,J9.unpinned,T.keep _ _ _ a4 λb hb o e=>(J9.pin (b,o) (z0p _ (z0p _ (q66 hb e)))).1,λb hb=>?_,w9⟩;obtain⟨o,e,d⟩:=T.obj _ _ a4 b hb;exact(J9.pin (b,o) (z0p _ (z0p _ (q66 hb e)))).2.1
   subst O;refine z3q (hg cl C fp s3 H3 _ s6 σ4 H6 x u _ b3 r6 (step x H6 y6)) (λ_ s7 q7=>?_) λ_ _ z=>z;obtain⟨σ7,H7,J7,q7⟩:=q7;refine z3q (hf cl C fp s3 H3 _ s7 σ7 H7 _ J7 q7) (λok s8 q8=>?_) λ_ _ z=>z;obtain⟨H8,J8,q8⟩:=q8;cases ok with
   | false=>
    rw[if_neg (by decide)]at q8;rw[if_neg (by decide)];exact again J8 q8
   | true=>
    rw[if_pos rfl]at q8;rw[if_pos rfl];refine z3q (he cl C fp s3 H3 _ s8 σ7 H8 _ J8 q8) (λv9 s9 q9=>?_) λ_ _ z=>z;obtain⟨y,H9,J9,r9,xs,b5,hz,q9⟩:=q9;refine z3q (q2y (X:=q47 X N scope cl C fp s3 H3) _ s9 σ7 H9 (.ref D) [y] (.ref D) [v9] (λ_ H'=>Nn σ7 H') J9 rfl (.cons r9 .nil) ⟨D,xs,y,zr,zr,b5,hz,q9⟩) (λ_ s10 a3=>?_) λ_ _ z=>z;obtain⟨_,H10,b1,_,a3⟩:=a3;exact again b1 a3
 exact codeAny_compStart_list (loop _ rfl) (T.self _ 0 _ _ _ Z (loop _ rfl))
def q1a(hc:X.calm=true)(ho:qeo X.N X.env.scope N caps scope=true)(hi:PI X tg iter wi)
  (hg:∀cl C fp s H,PG (q47 X N scope cl C fp s H) tg g) (hf:∀cl C fp s H,PF (q47 X N scope cl C fp s H) ifs tf) (he:∀cl C fp s H,PE (q47 X N scope cl C fp s H) elt te)
  (hs:∀x,foldedSetIterable iter X.env x=pure x:=by intro _;rfl):PE X (.ListComp elt [⟨tg,iter,ifs,0⟩] scope pos) (qn3 caps wi g tf te):=by
 intro xC s σ H Q I h;have S:=qh3 ho;obtain⟨cl,Y,c1,c2⟩:=qm3 (scope:=scope) (env:=X.env) (λy hy e=>I.ok.has y.1 (S.fr y hy e));rw[eval_ListComp];refine wpAny_comprehension_free (use:=none) rfl hs Y S.kind S.loc (qh4 (RR:=λO C=>compPost (model X.prog X.w) X.A X.xe none (EP X xC σ Q) O C) hc S hi hg hf he c1 c2 I h ?_);intro D C m H5 s5 I5 hn J q;exact⟨m,hn,λh' sb=>⟨.ref D,H5,I5.turned (t':=s5.toks) (λb o hb e=>(sb.2 b hb).trans e) J.1 J.2.1 J.2.2.2.1 J.2.2.2.2.1 J.2.2.2.2.2,zr,q⟩⟩
def qn4{i:Nat}{x:Str}{Z J:Pos}(hN:X.N.Nodup)(a5:X.N[i]? =some x)(hx:X.env.scope.names.lookup x=some .local)(hc:X.calm=true)(ho:qeo X.N X.env.scope N caps scope=true)(hi:PI X tg iter wi)
  (hg:∀cl C fp s H,PG (q47 X N scope cl C fp s H) tg g) (hf:∀cl C fp s H,PF (q47 X N scope cl C fp s H) ifs tf) (he:∀cl C fp s H,PE (q47 X N scope cl C fp s H) elt te)
  (a6:swapsWith (.ListComp elt [⟨tg,iter,ifs,0⟩] scope pos) (some (.Name x Z)) J.line X.env=pure true:=by rfl)
  (hs:∀x,foldedSetIterable iter X.env x=pure x:=by intro _;rfl):PS X (.Assign [.Name x Z] (.ListComp elt [⟨tg,iter,ifs,0⟩] scope pos) J) (tAsg (qn3 caps wi g tf te) (qeg i)):=by
 intro xC s σ H D I h;have S:=qh3 ho;obtain⟨cl,a4,c1,c2⟩:=qm3 (scope:=scope) (env:=X.env) (λy hy e=>I.ok.has y.1 (S.fr y hy e));rw[exec_Assign_Name_used _ _ _ _ a6];refine z3p (wpAny_standAt (z3p ?_));show wpAny _ X.A (do let _ <- comprehension (.ListComp elt [⟨tg,iter,ifs,0⟩] scope pos) scope X.env _ (newList []) false (eval iter X.env) (some (assign (.Name x Z) X.env))) _ _ s;refine z3p (z3q (wpAny_comprehension_free (use:=some (assign (.Name x Z) X.env)) (Q:=λ_ s'=>SP X xC D .next s') rfl hs a4 S.kind S.loc
  (qh4 (RR:=λa3 C=>compPost (model X.prog X.w) X.A X.xe (some (assign (.Name x Z) X.env)) (λ_ s'=>SP X xC D .next s') a3 C) hc S hi hg hf he c1 c2 I h ?_)) (λ_ s' hq=>z3o (z3o hq)) λ_ _ e=>e)
 intro Da C m H5 s5 I5 hn Y q;obtain⟨oC,es,ep,a1,hd,O⟩:=id hn;have a2:=I5.pinned (fp:=[C]) (λb hb=>by
  have e:b=C:=by simpa using hb
  subst e;exact Y) (λb hb=>by
  have e:b=C:=by simpa using hb
  subst e;exact⟨oC,a1,λv z=>by rw[hd]at z;cases z⟩)
 show wpAny _ X.A (assign (.Name x Z) X.env (.ref Da)) _ _ _;refine wpAny_assign_Name (qaf a2 hN a5 (.inl hx) (v:= .ref Da) rfl (λs6 I6=>?_) (.inr hx));have pC:=I6.pin (C,oC) (z0p _ (z0p _ (q66 (by simp) a1)));refine⟨m,⟨oC,es,ep,pC.1,hd,O⟩,λh' sb=>?_⟩;exact⟨_,H5,I6.unpinned.turned (t':=s6.toks) (λb o hb e=>(sb.2 b hb).trans e) Y.1 Y.2.1 Y.2.2.2.1 Y.2.2.2.2.1 Y.2.2.2.2.2,q⟩
end
def q1d{J:It}{g:TG}{tf:TT}{te:TE}{D:Addr}{QE:Hp->Prop}{σ:St}{H:Hp}(n:Nat)(Pv:Nat->St->Hp->Prop)(h0:Pv 0 σ H)(Y:∀i σ H,i < n->Pv i σ H->J.go i H)(Z:∀σ H,Pv n σ H->J.stop n H/\QE H)
  (hs:∀i σ H,i < n->Pv i σ H->∀x H',J.yld i H x H'->g x σ H' λσ2 H2=>tf σ2 H2 λb H3=>if b=true then te σ2 H3 λv H4=>∃xs,H4 D=some (.lst xs)/\xs.length < sizeLine/\Pv (i+1) σ2 (upd H4 D (.lst (xs++ [v]))) else Pv (i+1) σ2 H3):
  ∃W:Nat->Nat->St->Hp->Prop,(∃m,W 0 m σ H)/\qsx J g tf te D QE W:=by
 refine⟨λi m σ H=>m=n - i/\i<=n/\Pv i σ H,⟨n,by simp,z3m _,h0⟩,?_⟩;rintro i m σ H ⟨rfl,hi,p⟩;by_cases O:i < n
 ·exact .inr ⟨Y i σ H O p,Pv (i+1),λσ' H' p'=>⟨n - (i+1),by lia,zr,O,p'⟩,hs i σ H O p⟩
 ·have e:i=n:=by lia
  subst e;exact .inl (Z σ H p)
def qp0{J:It}{g:TG}{tb:TS}{D:Ends}{σ:St}{H:Hp}(n:Nat)(Pv:Nat->St->Hp->Prop)(h0:Pv 0 σ H)(Y:∀i σ H,i < n->Pv i σ H->J.go i H)(Z:∀σ H,Pv n σ H->J.stop n H/\D.nx σ H)
  (hs:∀i σ H,i < n->Pv i σ H->∀x H',J.yld i H x H'->g x σ H' λσ2 H2=>tb {D with nx:=Pv (i+1),ct:=Pv (i+1),bk:=D.nx} σ2 H2):
  ∃W:Nat->Nat->St->Hp->Prop,(∃m,W 0 m σ H)/\∀i m σ H,W i m σ H->
   (J.stop i H/\D.nx σ H)\/ (J.go i H/\∃N:St->Hp->Prop,(∀σ' H',N σ' H'->∃m',m' < m/\W (i+1) m' σ' H')/\∀x H',J.yld i H x H'->g x σ H' λσ2 H2=>tb {D with nx:=N,ct:=N,bk:=D.nx} σ2 H2):=by
 refine⟨λi m σ H=>m=n - i/\i<=n/\Pv i σ H,⟨n,by simp,z3m _,h0⟩,?_⟩;rintro i m σ H ⟨rfl,hi,p⟩;by_cases O:i < n
 ·exact .inr ⟨Y i σ H O p,Pv (i+1),λσ' H' p'=>⟨n - (i+1),by lia,zr,O,p'⟩,hs i σ H O p⟩
 ·have e:i=n:=by lia
  subst e;exact .inl (Z σ H p)
def Its(z:Str):It:=⟨λi _=>i < z.cps.size,λi H x H'=>H'=H/\∃c,z.cps[i]? =some c/\x= .str ⟨#[c]⟩,λi _=>i=z.cps.size⟩
def qw7{M:Model}{A:Around}{E:xB}{s:Shared}{tg:Expr}{it:Addr}{x:Str}{t:Tok}{Q:Unit->Shared->Prop}(hQ:Q () s):wpAny M A (letOwnedTupleGo tg (.ref it) (.str x t)) Q E s:=by
 unfold letOwnedTupleGo;cases tg <;> exact z3o hQ
def qre{P:Program}{w:World}{K:xA}{tg:Expr}(it:Addr)(z:Str)(t:Tok)(ty:String)(J:ty="str_ascii_iterator"\/ ty="str_iterator"):
  Turn P w K tg (Its z) [it] it (λi h=>h.IsStrIter it ty z t i) where
 mem:=by simp
 obj:=λi h st b hb=>by
  have e:b=it:=by simpa using hb
  subst e;obtain⟨o,e,c,d⟩:=st;exact⟨o,e,λv z=>by rw[d]at z;cases z⟩
 keep:=λi h h' st k=>let ⟨o,ho,r⟩:=st;⟨o,k it (by simp) o ho,r⟩
 item:=by
  intro X hP hw hK O i xC s σ H E I Y st hg;subst hP hw hK;obtain⟨Z,f1,f2,f3,f4,f5⟩:=Y it (by simp);have W:Walks X.prog X.w X.A it [it] [it] z.cps.size (SignAt z) (λi h=>h.IsStrIter it ty z t i):=by
   rcases J with rfl | rfl
   ·exact Walks.strAscii (I.ok.hd O) it z t
   ·exact Walks.strWide (I.ok.hd O) it z t
  refine W.item i s _ _ hg st λv h' tk hv a1 kk=>?_;obtain⟨c,u,hx,rfl⟩:=hv;have I1:Inv X xC σ H {s with heap:=h',toks:=tk}:=I.turned (λb o hb e=>kk b o (by simpa using hb) e) Z f1 f3 f4 f5;exact⟨_,zr,qw7 ⟨.str ⟨#[c]⟩,H,I1,⟨u,zr⟩,⟨zr,c,hx,zr⟩,a1,λb hb=>(Y b hb).1⟩⟩
 done:=by
  intro X hP hw hK O i xC s σ H E I Y st hg;subst hP hw hK;obtain⟨Z,f1,f2,f3,f4,f5⟩:=Y it (by simp);have W:Walks X.prog X.w X.A it [it] [it] z.cps.size (SignAt z) (λi h=>h.IsStrIter it ty z t i):=by
   rcases J with rfl | rfl
   ·exact Walks.strAscii (I.ok.hd O) it z t
   ·exact Walks.strWide (I.ok.hd O) it z t
  have e:i=z.cps.size:=hg;subst e;exact W.done s _ _ st λh' tk kk=>⟨zr,I.turned (λb o hb e=>kk b o (by simpa using hb) e) Z f1 f3 f4 f5⟩
 self:=λ_ _ _ _ _ st h=>by
  rcases J with rfl | rfl
  ·exact wpAny_pyIter_striter_ascii st h
  ·exact wpAny_pyIter_striter_wide st h
section
variable{X:Cx}{tg:Expr}
def iStr(tl:TE):TI:=λσ H R=>tl σ H λx H1=>∃z,x= .str z/\R (Its z) H1
def qw8{l:Expr}{tl:TE}(hl:PE X l tl):PI X tg l (iStr tl):=by
 intro xC s σ H R I h;refine thn (hl xC s σ H _ I h) λv s1 O=>?_;obtain⟨x,H1,I1,r1,q1⟩:=O;obtain⟨z,e,q⟩:=q1;subst e;obtain⟨t,rfl⟩:=r1;have fin:∀ty,(ty="str_ascii_iterator"\/ ty="str_iterator")->PIE X xC σ tg R (.ref s1.heap.objs.size) {s1 with heap:=s1.heap.push {cls:= .type ty,data:= .fields #[.str z t,.int 0 0]}}:=λty J=>by
  refine⟨s1.heap.objs.size,[s1.heap.objs.size],_,_,H1,zr,I1.kept (t':=s1.toks) λb o e=>z0l _ e,qre _ z t ty J,⟨_,z11 _ rfl,zr,zr⟩,λb hb=>?_,q⟩;have e:b=s1.heap.objs.size:=by simpa using hb
  subst e;exact I1.fpOk (z3j _) (I1.hok.fresh (z3j _))
 cases ha:z.cps.all (· < 128)
 ·exact wpAny_pyIter_wide ha (fin _ (.inr rfl))
 ·exact wpAny_pyIter_ascii ha (fin _ (.inl rfl))
end
def cutS(z:Str)(lo hi:Option Int):Str:=⟨((z.cps.toList.drop (HT.sIx z.length 0 lo)).take (HT.sIx z.length z.length hi - HT.sIx z.length 0 lo)).toArray⟩
def qhv(lo hi:Option Int)(n:Nat):Builtin.Str.strSliceIndices lo hi 1 n=(List.range (HT.sIx n n hi - HT.sIx n 0 lo)).map (HT.sIx n 0 lo+ ·):=by
 have h:Builtin.Str.strSliceIndices lo hi 1 n=sliceRange ((HT.sIx n 0 lo:Nat):Int) ((HT.sIx n n hi:Nat):Int) 1:=by
  unfold Builtin.Str.strSliceIndices;simp only[show (1:Int) > 0 by decide,if_true]
  congr 1
  ·cases lo with
   | none=>rfl
   | some i=>
    rw[<- HT.clip_eq i n 0];show max 0 (min (if i < 0 then i+(n:Int) else i) (n:Int))=_;split <;> lia
  ·cases hi with
   | none=>rfl
   | some i=>
    rw[<- HT.clip_eq i n n];show max 0 (min (if i < 0 then i+(n:Int) else i) (n:Int))=_;split <;> lia
 rw[h];unfold sliceRange;simp only[show (1:Int) > 0 by decide,if_true];have e2:(if ((HT.sIx n 0 lo:Nat):Int) < ((HT.sIx n n hi:Nat):Int) then (((HT.sIx n n hi:Nat):Int) - ((HT.sIx n 0 lo:Nat):Int)+1 - 1) / 1 else 0).toNat=HT.sIx n n hi - HT.sIx n 0 lo:=by
  split
  ·rw[Int.ediv_one];lia
  ·lia
 rw[e2]
 apply z14
 intro k _
 lia
def qn5(xs:Array Nat)(i k:Nat):(((List.range k).map (i+ ·)).filterMap (xs[·]?))=(xs.toList.drop i).take k:=by
 induction k with
 | zero=>simp
 | succ k ih=>
  rw[z2m,z2n,List.filterMap_append,ih,z2x]
  congr 1
  simp only[z30,z3g,List.getElem?_drop,z0q];cases h:xs[i+k]? <;> simp[h]
def qko(z:Str)(lo hi:Option Int):(cutS z lo hi).length<=z.length:=by
 show ((z.cps.toList.drop _).take _).toArray.size<=z.length;rw[z1n,z1y,z1z];have:z.cps.toList.length=z.length:=by simp[Str.length]
 lia
section
variable{X:Cx}
def rSlS:V->Option Int->Option Int->Hp->VK->Prop:=λx lo hi H Q=>∃z,x= .str z/\z.length<=sizeLine/\Q (.str (cutS z lo hi)) H
def qep:SlR X rSlS:=by
  intro xC s σ H x v vl vu lo hi sl Q I rx hs pl pu h;obtain⟨z,rfl,O,q⟩:=h;obtain⟨t,rfl⟩:=rx;refine⟨"str",_,F.slot_str_getitem.lookup,typeIs_str s z t,?_⟩;obtain⟨l,rfl,el⟩:∃l:Option (Int×Tok),vl=partValue l/\l.map (·.1)=lo:=by
    cases pl with
    | none=>exact⟨none,rfl,rfl⟩
    | int i t=>exact⟨some (i,t),rfl,rfl⟩
  obtain⟨u,rfl,eu⟩:∃u:Option (Int×Tok),vu=partValue u/\u.map (·.1)=hi:=by
    cases pu with
    | none=>exact⟨none,rfl,rfl⟩
    | int i t=>exact⟨some (i,t),rfl,rfl⟩
  refine wpAny_getItem_str_slice (l:=l) (u:=u) (st:=none) hs rfl ?_;have ep:slicePicked z l u none=(List.range (HT.sIx z.length z.length hi - HT.sIx z.length 0 lo)).map (HT.sIx z.length 0 lo+ ·):=by
    unfold slicePicked;rw[el,eu];exact qhv lo hi z.length
  have ec:(slicePicked z l u none).filterMap (z.cps[·]?)=(z.cps.toList.drop (HT.sIx z.length 0 lo)).take (HT.sIx z.length z.length hi - HT.sIx z.length 0 lo):=by
    rw[ep,qn5]
  unfold sliceMade;split
  · rename_i hw
    have J:(slicePicked z l u none).length=z.length:=by simpa using hw
    have e:cutS z lo hi=z:=by
      have hl:z.cps.toList.length=z.length:=by simp[Str.length]
      rw[ep,z2h,z1t]at J;have h1:=HT.sIx_le z.length z.length (z3j _) hi;have a0:HT.sIx z.length 0 lo=0\/ z.length=0:=by lia
      unfold cutS;rcases a0 with a0 | a0
      · rw[J,a0,List.drop_zero,z0k (by lia)]
      · have Y:z.cps.toList=[]:=List.eq_nil_of_length_eq_zero (by lia)
        rw[Y,List.drop_nil,List.take_nil];cases z with
        | mk cps=>
          congr 1
          exact(Array.toList_inj.mp Y).symm
    rw[e]at q;exact⟨.str z,H,I,⟨t,zr⟩,q⟩
  · have e:(⟨((slicePicked z l u none).filterMap (z.cps[·]?)).toArray⟩:Str)=cutS z lo hi:=by
      unfold cutS;rw[ec]
    rw[e];exact⟨z3d (qko z lo hi) O,.str (cutS z lo hi),H,I.tok _,⟨_,zr⟩,q⟩
end
def qp1(bs:List Bool):(List.range bs.length).all (λi=>(bs[i]?).getD true)=bs.all id:=by
 rw[z2g,z25,z25]
 constructor
 ·intro h b hb;obtain⟨i,hi,e⟩:=z0t.mp hb;have:=h i (z2t.mpr hi);rw[z0b hi,e]at this;exact this
 ·intro h i hi;have J:=z2t.mp hi;rw[z0b J];exact h _ (z22 J)
def qtw{bs:List Bool}{us:xH}(r:Vals (bs.map V.bl) us){i:Nat}{v:Value}(h:us[i]? =some v):∃b,bs[i]? =some b/\v= .bool b:=by
 have hl:=r.length;obtain⟨hi,_⟩:=z06.mp h;rw[<- hl,z2h]at hi;have e:(bs.map V.bl)[i]? =some (V.bl bs[i]):=by rw[z1m,z0b hi];rfl
 obtain⟨u,hu,ru⟩:=r.get e;rw[h]at hu;cases hu
 exact⟨bs[i],z0b hi,ru⟩
section
variable{X:Cx}
def q2z(hc:X.calm=true)(K:xA)(hK:X.K=K:=by rfl):q2t X (.builtin "all") (λxs H Q=>∃(p:Addr) (bs:List Bool),xs=[.ref p]/\SqL K H p (bs.map V.bl)/\Q (.bl (bs.all id)) H):=by
 subst hK;intro xC s σ H xs us Q I r h;obtain⟨p,bs,rfl,hp,q⟩:=h;obtain⟨u,rfl,ru⟩:=q3h r;cases ru
 obtain⟨its,rv,pl,hz⟩:=I.list hp;have hl:its.toArray.size=bs.length:=by
  have:=rv.length;rw[z2h]at this;rw[z1n];exact this.symm
 have hh:X.A.in1.handled=none:=I.ok.hd hc;have O:p≠s.heap.objs.size:=λe=>by
  obtain⟨o,n,e1,_⟩:=pl;exact absurd (z3b e1) (by rw[e];exact z34 _)
 refine call_all_walk (z1p pl.isList ?_);refine⟨s.heap.objs.size,_,_,_,_,_,λi=>(bs[i]?).getD true,zr,Walks.list hh _ p O its.toArray,⟨⟨_,z11 _ rfl,zr,zr⟩,pl.isList.at λo e=>z0l _ e⟩,?_,λh' tk kk=>?_⟩
 ·intro i v s' Q' E' hv hq;have Y:its[i]? =some v:=by simpa using hv
  obtain⟨b,e,rfl⟩:=qtw rv Y;have J:Q' ((bs[i]?).getD true) s':=hq;rw[e]at J;exact z1o J
 ·rw[hl,qp1];exact⟨.bl _,H,I.kept λb o e=>kk b o (by simp;exact z3c (z3b e)) (z0l _ e),rfl,q⟩
def tyTs:List String:=["NoneType","bool","int","str","list","tuple","dict"]
def tyNs:List String:=["bool","int","str","list","tuple","dict"]
def tyIs(T n:String):Bool:=T==n || (T=="bool"&&n=="int")
def qtx:∀T∈tyTs,∀n∈tyNs,PySem.W.kitMeta n=true/\(PySem.fastBuiltinMro T).map (·.contains (Value.type n))=some (tyIs T n):=by decide+kernel
def qty{K:xA}{T n:String}(hT:T∈tyTs)(hn:n∈tyNs):PySem.W.kitOne K (.type T) (.type n)=some (tyIs T n):=by
 obtain⟨h1,h2⟩:=qtx T hT n hn;unfold PySem.W.kitOne;split
 ·rename_i e;have e':=eq_of_beq e;injection e' with J;subst J;simp[tyIs]
 ·unfold PySem.W.kitCls;show (if PySem.W.kitMeta n=true then PySem.W.subIn K (.type T) (.type n) else none)=_;rw[if_pos h1];exact h2
def q93{x:Str}{i:Int}{pos:Pos}(hg:Gl X x)(hm:∃t,X.mg x=some (.int i t))(hd:(x==("__debug__":Str))=false:=by decide):PE X (.Name x pos) (tC (.int i)):=by
 obtain⟨t,e⟩:=hm;exact qfr hg e ⟨t,zr⟩ hd
def qn6{x z:Str}{pos:Pos}(hg:Gl X x)(hm:∃t,X.mg x=some (.str z t))(hd:(x==("__debug__":Str))=false:=by decide):PE X (.Name x pos) (tC (.str z)):=by
 obtain⟨t,e⟩:=hm;exact qfr hg e ⟨t,zr⟩ hd
def q7s{x:Str}{n:String}{pos:Pos}(hg:Gl X x)(hm:X.mg x=none)(hv:bootBuiltins x=some (.type n))(hn:x≠"__name__":=by decide)(hd:(x==("__debug__":Str))=false:=by decide):PE X (.Name x pos) (tC (.ty n)):=
 qtb hg hm hv rfl hn hd
end
structure Top (K:xA) (mg:xE) (x:Str) (st:Stmt) (ps:xD):Prop where
 ex:∃f fd,Fun K x x st f fd/\mg x=some (.ref f)/\∀us:List Value,us.length=ps.length->bindArgs fd ⟨us,[]⟩=pure (ps.zip us)
def qw9{K:xA}{h:Heap}{mg:xE}{x:Str}{st:Stmt}{ps:xD}{f:Addr}{oc:Value}{od O:Option Addr}{Z:Array (Option Value)}{kV J Y cdv ct:Value}(X:K.In h)(G:h.Ns mainGlobals mg)
  (b:∀(kV J Y:Value) (O:Option Addr) (cdv ct:Value) (us:xH),us.length=ps.length->bindArgs (PySem.W.fnOf x x (q30 st) (q21 st) (qd st) .none kV J Y O cdv ct) ⟨us,[]⟩=pure (ps.zip us))
  (a:PySem.W.nsIn K mainGlobals x=some (some (.ref f)))
  (l:K.lookup f=some ⟨oc,od,.func (PySem.W.fnOf x x (q30 st) (q21 st) (qd st) .none kV J Y O cdv ct),Z⟩) (c:PySem.W.codeIn K cdv x=true) (k:PySem.W.keepIn K (.ref f)=true):Top K mg x st ps:=by
 have F:=qoy (st:=st) l c k;exact⟨f,_,F,z36 X G a,b kV J Y O cdv ct⟩
structure Def (P:Program) (w:World) (K:xA) (mg:xE) (base:Heap) (k:Nat) (x:Str) (ps:xD) (sp:Sp):Prop where
 ex:∃f fd,FnOk P w K mg base CX0 k f fd ps sp/\mg x=some (.ref f)/\PySem.W.keepIn K (.ref f)=true/\Binds K fd ps []
theorem Top.ok{P:Program}{w:World}{K:xA}{mg:xE}{base:Heap}{x:Str}{st:Stmt}{N ps:xD}{k:Nat}{sp:Sp}(T:Top K mg x st ps)(S:FnScope N ps (qd st))(len:∀vs H Q E,sp vs H Q E->vs.length=ps.length)
  (J:∀(f:Addr) (cdv:Value) (A:Around) (outer:List Env) (s:Shared) (H:Hp) (vs:List V) (Q:VK) (E:XK),Room k (A.deeper (envOfC x (qd st) s.heap.objs.size f cdv))->sp vs H Q E->
   ∃t,PSs (cxOf CX0 P w K mg base N x (qd st) f cdv A outer s H E).nox (q21 st) t/\t {nx:=λ_ H'=>Q .non H',rt:=Q} (q5i N vs) H):Def P w K mg base (k+1) x ps sp:=by
 obtain⟨f,fd,F,hm,hb⟩:=T.ex;exact⟨f,fd,F.ok S len (J f),hm,F.kp,Binds.all hb⟩
def Top.fin{l:PySem.W.OpenLaw}{w:World}{K:xA}{mg:xE}{fa:Addr}{x:Str}{st:Stmt}{N:xD}{k:Nat}{sp:Sp}(T:Top K mg "law" st [x])(O:mg "law"=some (.ref fa))(S:FnScope N [x] (qd st))
  (len:∀vs H Q E,sp vs H Q E->vs.length=[x].length)
  (J:∀(base:Heap) (f:Addr) (cdv:Value) (A:Around) (outer:List Env) (s:Shared) (H:Hp) (vs:List V) (Q:VK) (E:XK),Room k (A.deeper (envOfC "law" (qd st) s.heap.objs.size f cdv))->sp vs H Q E->
   ∃t,PSs (cxOf CX0 l.prog w K mg base N "law" (qd st) f cdv A outer s H E).nox (q21 st) t/\t {nx:=λ_ H'=>Q .non H',rt:=Q} (q5i N vs) H):
  ∃fd:FuncData,(∀(s:Shared) (v:Value),BindsTo s fd ⟨[v],[]⟩ [(x,v)])/\∀base:Heap,K.In base->base.Ns mainGlobals mg->FnOk l.prog w K mg base CX0 (k+1) fa fd [x] sp:=by
 obtain⟨f,fd,F,hm,hb⟩:=T.ex;have e:=O.symm.trans hm;injection e with e;injection e with e;subst e;exact⟨fd,λs v=> .of_eq (hb [v] rfl),λbase _ _=>F.ok S len (J base fa)⟩
section
variable{X:Cx}{k k':Nat}{x:Str}{ps:xD}{sp:Sp}{p pos:Pos}{e:Expr}{es:List Expr}{t:TA}
def qh(D:Def X.prog X.w X.K X.mg X.base k x ps sp)(hr:Room k' X.A)(hg:Gl X x)(ha:PA X (e::es) t)(hkk:k<=k':=by decide)
  (J:(x==("__debug__":Str))=false:=by decide) (he:starEach (e::es) X.env=(false,eval e X.env)::starEach es X.env:=by rfl) (O:(backTo pos (starEach es X.env)).any (·.1)=false:=by rfl):
  PE X (.Call (.Name x p) (e::es) [] pos) (qmy sp [] E0 t):=by
 obtain⟨f,fd,F,hm,hk,hb⟩:=D.ex;exact qlx F (hr.mono hkk) hg hm hk hb .nil qif ha J he O
end
section
variable{X:Cx}{tg:Expr}
def q1o(K:xA)(hK:X.K=K:=by rfl):q2t X (.builtin "len") (λxs H Q=>∃x n,xs=[x]/\LenV K x H n/\Q (.int n) H):=by subst hK;exact qqz
def q27(K:xA)(hK:X.K=K:=by rfl):IxR X (rIxL K):=by subst hK;exact qto
def qq(K:xA)(hK:X.K=K:=by rfl):IxR X (rIxT K):=by subst hK;exact qw1
def qrf(K:xA)(hK:X.K=K:=by rfl):SlR X (rSlL K):=by subst hK;exact qtp
def q11(K:xA){l:Expr}{tl:TE}(hl:PE X l tl)(hK:X.K=K:=by rfl):PI X tg l (qsr K tl):=by subst hK;exact qtc hl
def q31(K:xA){l:Expr}{tl:TE}(hl:PE X l tl)(hK:X.K=K:=by rfl):PI X tg l (iTup K tl):=by subst hK;exact qvx hl
def qn7(K:xA)(hK:X.K=K:=by rfl):q2t X (.type "list") (λxs H Q=>∃p ys,xs=[.ref p]/\(SqL K H p ys\/ SqT K H p ys)/\∀l,H l=none->Q (.ref l) (upd H l (.lst ys))):=by subst hK;exact qiu
def q49(K:xA)(hK:X.K=K:=by rfl):q2t X (.type "tuple") (λxs H Q=>∃p ys,xs=[.ref p]/\((SqL K H p ys/\∀l,H l=none->Q (.ref l) (upd H l (.tup ys)))\/ (SqT K H p ys/\Q (.ref p) H))):=by subst hK;exact qhu
end
def qp2{α:Type}{xs:List α}{i:Int}(h0:0<=i)(h1:i < xs.length):∃v,atI xs i=some v/\v∈xs:=by
 have J:i.toNat < xs.length:=by lia
 refine⟨xs[i.toNat],?_,z22 J⟩;unfold atI ixN;rw[if_pos h0,if_pos h1];show xs[i.toNat]? =_;exact z0b J
def qp3{α:Type}{xs:List α}{i:Int}(h0:0<=i)(h1:i < xs.length):atI xs i=xs[i.toNat]? :=by
 unfold atI ixN;rw[if_pos h0,if_pos h1];rfl
def qc{H:Hp}{a:Addr}{o:HO}(h:H a=none):Same H (upd H a o):=λb u e=>by
 rw[qk (q2s e h)];exact e
def Same.set{H H':Hp}{a:Addr}{o:HO}(h:Same H H')(n:H a=none):Same H (upd H' a o):=λb u e=>by
 rw[qk (q2s e n)];exact h b u e
def Same.seqT{K:xA}{H H':Hp}{a:Addr}{xs:List V}(e:Same H H')(h:SqT K H a xs):SqT K H' a xs:=by
 rcases h with (h | ⟨o,h⟩) | h
 ·exact .inl (.inl (e _ _ h))
 ·exact .inl (.inr ⟨o,e _ _ h⟩)
 ·exact .inr h
def q29:Expr->Bool
 | .Starred _ _=>false
 | _=>true
def qhw{e:Expr}{es:List Expr}{env:Env}(h:q29 e=true):starEach (e::es) env=(false,eval e env)::starEach es env:=by
 cases e <;> first
  | rfl
  | cases h
def q36{X:Cx}{e:Expr}{es:List Expr}{te:TE}{t:TA}(ha:PE X e te)(hr:PA X es t)(hs:q29 e=true:=by rfl):PA X (e::es) (q2u te t):=qth ha hr (qhw hs)
def q2a:bootBuiltins "len"=some (.builtin "len"):=by decide+kernel
def q25:bootBuiltins "isinstance"=some (.builtin "isinstance"):=by decide+kernel
def q5g:bootBuiltins "all"=some (.builtin "all"):=by decide+kernel
def qh5:bootBuiltins "sorted"=some (.builtin "sorted"):=by decide+kernel
def qwa:bootBuiltins "max"=some (.builtin "max"):=by decide+kernel
def qwb:bootBuiltins "zip"=some (.type "zip"):=by decide+kernel
def qp4:bootBuiltins "str"=some (.type "str"):=by decide+kernel
def qiy:bootBuiltins "int"=some (.type "int"):=by decide+kernel
def qtz:bootBuiltins "bool"=some (.type "bool"):=by decide+kernel
def qfx:bootBuiltins "list"=some (.type "list"):=by decide+kernel
def q3z:bootBuiltins "tuple"=some (.type "tuple"):=by decide+kernel
def qco:bootBuiltins "dict"=some (.type "dict"):=by decide+kernel
def qwc:bootBuiltins "set"=some (.type "set"):=by decide+kernel
def qm4{α:Type}{l:List α}{i:Nat}{d:α}(h:i < l.length):l.getD i d=l[i]:=by
 rw[z05,z0b h];rfl
def qu0{α:Type}{l:List α}{i:Nat}{d:α}(h:l.length<=i):l.getD i d=d:=by
 rw[z05,List.getElem?_eq_none_iff.mpr h];rfl
def pa_1{X:Cx}{J:Expr}{t0:TE}(h0:PE X J t0)(O:q29 J=true:=by rfl):PA X [J] (q2u t0 tNil):=(q36 h0 q1i O)
def pa_2{X:Cx}{J e1:Expr}{t0 t1:TE}(h0:PE X J t0)(h1:PE X e1 t1)(O:q29 J=true:=by rfl)(Y:q29 e1=true:=by rfl):PA X [J,e1] (q2u t0 (q2u t1 tNil)):=(q36 h0 (q36 h1 q1i Y) O)
def pa_3{X:Cx}{J e1 e2:Expr}{t0 t1 t2:TE}(h0:PE X J t0)(h1:PE X e1 t1)(h2:PE X e2 t2)(O:q29 J=true:=by rfl)(Y:q29 e1=true:=by rfl)(Z:q29 e2=true:=by rfl):PA X [J,e1,e2] (q2u t0 (q2u t1 (q2u t2 tNil))):=(q36 h0 (q36 h1 (q36 h2 q1i Z) Y) O)
def pa_4{X:Cx}{J e1 e2 e3:Expr}{t0 t1 t2 t3:TE}(h0:PE X J t0)(h1:PE X e1 t1)(h2:PE X e2 t2)(h3:PE X e3 t3)(O:q29 J=true:=by rfl)(Y:q29 e1=true:=by rfl)(Z:q29 e2=true:=by rfl)(a1:q29 e3=true:=by rfl):PA X [J,e1,e2,e3] (q2u t0 (q2u t1 (q2u t2 (q2u t3 tNil)))):=(q36 h0 (q36 h1 (q36 h2 (q36 h3 q1i a1) Z) Y) O)
def pa_5{X:Cx}{J e1 e2 e3 O:Expr}{t0 t1 t2 t3 t4:TE}(h0:PE X J t0)(h1:PE X e1 t1)(h2:PE X e2 t2)(h3:PE X e3 t3)(h4:PE X O t4)(Y:q29 J=true:=by rfl)(Z:q29 e1=true:=by rfl)(a1:q29 e2=true:=by rfl)(a2:q29 e3=true:=by rfl)(a3:q29 O=true:=by rfl):PA X [J,e1,e2,e3,O] (q2u t0 (q2u t1 (q2u t2 (q2u t3 (q2u t4 tNil))))):=(q36 h0 (q36 h1 (q36 h2 (q36 h3 (q36 h4 q1i a3) a2) a1) Z) Y)
def q1x{X:Cx}{J s1:Stmt}{t0 t1:TS}(h0:PS X J t0)(h1:PS X s1 t1):PSs X [J,s1] (tSeq t0 t1):=(qu h0 (qg h1))
def q3a{X:Cx}{J s1 O:Stmt}{t0 t1 t2:TS}(h0:PS X J t0)(h1:PS X s1 t1)(h2:PS X O t2):PSs X [J,s1,O] (tSeq t0 (tSeq t1 t2)):=(qu h0 (qu h1 (qg h2)))
def q4k{X:Cx}{J s1 O s3:Stmt}{t0 t1 t2 t3:TS}(h0:PS X J t0)(h1:PS X s1 t1)(h2:PS X O t2)(h3:PS X s3 t3):PSs X [J,s1,O,s3] (tSeq t0 (tSeq t1 (tSeq t2 t3))):=(qu h0 (qu h1 (qu h2 (qg h3))))
def qsy{X:Cx}{J s1 O s3 Y:Stmt}{t0 t1 t2 t3 Z:TS}(h0:PS X J t0)(h1:PS X s1 t1)(h2:PS X O t2)(h3:PS X s3 t3)(h4:PS X Y Z):PSs X [J,s1,O,s3,Y] (tSeq t0 (tSeq t1 (tSeq t2 (tSeq t3 Z)))):=(qu h0 (qu h1 (qu h2 (qu h3 (qg h4)))))
def qn8{X:Cx}{J s1 O s3 Y Z:Stmt}{t0 t1 t2 t3 t4 t5:TS}(h0:PS X J t0)(h1:PS X s1 t1)(h2:PS X O t2)(h3:PS X s3 t3)(h4:PS X Y t4)(h5:PS X Z t5):PSs X [J,s1,O,s3,Y,Z] (tSeq t0 (tSeq t1 (tSeq t2 (tSeq t3 (tSeq t4 t5))))):=(qu h0 (qu h1 (qu h2 (qu h3 (qu h4 (qg h5))))))
def qxu{X:Cx}{J s1 O s3 Y Z s6:Stmt}{t0 t1 t2 t3 t4 t5 t6:TS}(h0:PS X J t0)(h1:PS X s1 t1)(h2:PS X O t2)(h3:PS X s3 t3)(h4:PS X Y t4)(h5:PS X Z t5)(h6:PS X s6 t6):PSs X [J,s1,O,s3,Y,Z,s6] (tSeq t0 (tSeq t1 (tSeq t2 (tSeq t3 (tSeq t4 (tSeq t5 t6)))))):=(qu h0 (qu h1 (qu h2 (qu h3 (qu h4 (qu h5 (qg h6)))))))
def qxv{X:Cx}{J s1 O s3 Y Z s6 s7 s8:Stmt}{t0 t1 t2 t3 t4 t5 t6 t7 t8:TS}(h0:PS X J t0)(h1:PS X s1 t1)(h2:PS X O t2)(h3:PS X s3 t3)(h4:PS X Y t4)(h5:PS X Z t5)(h6:PS X s6 t6)(h7:PS X s7 t7)(h8:PS X s8 t8):PSs X [J,s1,O,s3,Y,Z,s6,s7,s8] (tSeq t0 (tSeq t1 (tSeq t2 (tSeq t3 (tSeq t4 (tSeq t5 (tSeq t6 (tSeq t7 t8)))))))):=(qu h0 (qu h1 (qu h2 (qu h3 (qu h4 (qu h5 (qu h6 (qu h7 (qg h8)))))))))
def qwd{X:Cx}{s0 s1 s2 s3 s4 s5 s6 s7 s8 s9 J O Y Z:Stmt}{t0 t1 t2 t3 t4 t5 t6 t7 t8 t9 a1 a2 a3 a4:TS}(h0:PS X s0 t0)(h1:PS X s1 t1)(h2:PS X s2 t2)(h3:PS X s3 t3)(h4:PS X s4 t4)(h5:PS X s5 t5)(h6:PS X s6 t6)(h7:PS X s7 t7)(h8:PS X s8 t8)(h9:PS X s9 t9)(a5:PS X J a1)(a6:PS X O a2)(a7:PS X Y a3)(a8:PS X Z a4):PSs X [s0,s1,s2,s3,s4,s5,s6,s7,s8,s9,J,O,Y,Z] (tSeq t0 (tSeq t1 (tSeq t2 (tSeq t3 (tSeq t4 (tSeq t5 (tSeq t6 (tSeq t7 (tSeq t8 (tSeq t9 (tSeq a1 (tSeq a2 (tSeq a3 a4))))))))))))):=(qu h0 (qu h1 (qu h2 (qu h3 (qu h4 (qu h5 (qu h6 (qu h7 (qu h8 (qu h9 (qu a5 (qu a6 (qu a7 (qg a8))))))))))))))
def qig{X:Cx}{J:Stmt}{O:List Stmt}{t0 u:TS}(h0:PS X J t0)(hu:PSs X O u):PSs X (J::O) (tSeq t0 u):=(qu h0 hu)
def qsz{X:Cx}{J s1:Stmt}{O:List Stmt}{t0 t1 u:TS}(h0:PS X J t0)(h1:PS X s1 t1)(hu:PSs X O u):PSs X (J::s1::O) (tSeq t0 (tSeq t1 u)):=(qu h0 (qu h1 hu))
def q80{X:Cx}{body:List Stmt}{D:Ends}{σ:St}{H:Hp}(n:Nat)(C:St->Hp->Prop)(rest:∃u,PSs X (body.drop n) u/\∀σ H,C σ H->u D σ H)
  (first:∀u,PSs X (body.drop n) u->(∀σ H,C σ H->u D σ H)->∃t,PSs X body t/\t D σ H):∃t,PSs X body t/\t D σ H:=
 let ⟨u,h1,h2⟩:=rest
 first u h1 h2
mutual
inductive Dat (K:xA) (H:Hp):PyData->V->Prop
 | non:Dat K H .none .non
 | bl (b:Bool):Dat K H (.bool b) (.bl b)
 | int (i:Int):Dat K H (.int i) (.int i)
 | str (x:Str) (h:PyData.strOk x=true):Dat K H (.str x) (.str x)
 | lst {a:Addr} {xs:List V} {ds:List PyData}:SqL K H a xs->Dats K H ds xs->Dat K H (.list ds) (.ref a)
 | tup {a:Addr} {xs:List V} {ds:List PyData}:SqT K H a xs->Dats K H ds xs->Dat K H (.tuple ds) (.ref a)
inductive Dats (K:xA) (H:Hp):List PyData->List V->Prop
 | nil:Dats K H [] []
 | cons {d:PyData} {x:V} {ds:List PyData} {xs:List V}:Dat K H d x->Dats K H ds xs->Dats K H (d::ds) (x::xs)
end
section
variable{K:xA}{H H':Hp}
mutual
theorem Dat.same(s:Same H H'):∀(d:PyData) (x:V),Dat K H d x->Dat K H' d x
 | _,_,.non=> .non
 | _,_,.bl b=> .bl b
 | _,_,.int i=> .int i
 | _,_,.str x h=> .str x h
 | _,_,.lst h r=> .lst (s.seq h) (Dats.same s _ _ r)
 | _,_,.tup h r=> .tup (s.seqT h) (Dats.same s _ _ r)
theorem Dats.same(s:Same H H'):∀(ds:List PyData) (xs:List V),Dats K H ds xs->Dats K H' ds xs
 | _,_,.nil=> .nil
 | _,_,.cons a b=> .cons (Dat.same s _ _ a) (Dats.same s _ _ b)
end
mutual
theorem Dat.lay:∀(d:PyData) (x:V),Dat K H d x->d.canLay0=true
 | _,_,.non=>rfl
 | _,_,.bl _=>rfl
 | _,_,.int _=>rfl
 | _,_,.str _ h=>h
 | _,_,.lst _ r=>Dats.lay _ _ r
 | _,_,.tup _ r=>Dats.lay _ _ r
theorem Dats.lay:∀(ds:List PyData) (xs:List V),Dats K H ds xs->PyData.canLayAll0 ds=true
 | _,_,.nil=>rfl
 | _,_,.cons a b=>by rw[PyData.canLayAll0,Dat.lay _ _ a,Dats.lay _ _ b];rfl
end
end
section
variable{X:Cx}{xC:xG}{σ:St}{H:Hp}{s:Shared}
mutual
theorem Dat.reads(I:Inv X xC σ H s):∀(d:PyData) (x:V) (u:Value),Dat X.K H d x->RelV x u->∃as,Reads s.heap u d as
 | _,_,_,.non,r=>by cases r;exact⟨_,.none⟩
 | _,_,_,.bl b,r=>by cases r;exact⟨_,.bool b⟩
 | _,_,_,.int i,r=>by obtain⟨t,rfl⟩:=r;exact⟨_,.int i t⟩
 | _,_,_,.str x _,r=>by obtain⟨t,rfl⟩:=r;exact⟨_,.str x t⟩
 | _,_,_,.lst h q,r=>by
  cases r
  obtain⟨its,rv,⟨o,n,e,c,_,d⟩,_⟩:=I.list h;obtain⟨as,J⟩:=Dats.reads I _ _ _ q rv;exact⟨_,.list e c d (by simpa using J)⟩
 | _,_,_,.tup h q,r=>by
  cases r
  obtain⟨its,rv,⟨o,e,c,n,d⟩,_⟩:=I.tuple h;obtain⟨as,J⟩:=Dats.reads I _ _ _ q rv;exact⟨_,.tuple e c d (by simpa using J)⟩
theorem Dats.reads(I:Inv X xC σ H s):∀(ds:List PyData) (xs:List V) (us:xH),Dats X.K H ds xs->Vals xs us->∃as,ReadsAll s.heap us ds as
 | _,_,_,.nil,r=>by cases r;exact⟨_,.nil⟩
 | _,_,_,.cons a b,r=>by
  cases r with
  | cons r1 r2=>
   obtain⟨as,h1⟩:=Dat.reads I _ _ _ a r1;obtain⟨bs,h2⟩:=Dats.reads I _ _ _ b r2;exact⟨_,.cons h1 h2⟩
end
end
section
variable{X:Cx}
def qrg{u d e:Nat}(hu:u+64 < cLine)(hd:d<=60):u+min d e < cLine:=by
 have:min d e<=d:=Nat.min_le_left _ _
 lia
def rEqD(K:xA):R2:=λx y H Q=>∃d e,Dat K H d x/\Dat K H e y/\d.depth<=60/\Q (.bl (PyData.eqv d e)) H
def qwe(hu:X.A.units+64 < cLine)(K:xA)(hK:X.K=K:=by rfl):OpR X (compareOp .Eq) (rEqD K):=by
 subst hK;intro xC s σ H x y v u Q I rx ry h;obtain⟨d,e,hd,J,hz,q⟩:=h;obtain⟨as,ra⟩:=Dat.reads I _ _ _ hd rx;obtain⟨bs,rb⟩:=Dat.reads I _ _ _ J ry;exact SeqAt.rcAt_reads ra rb (Dat.lay _ _ hd) (Dat.lay _ _ J) (qrg hu hz) X.prog X.w X.xe _ (q1b I q rfl)
end
section
open PySem.SeqAt
open PySem.AutoSeq1 (wpAny_loadPart')
open PySem.MeetsSeq PySem.MeetsSeq2 PySem.MeetsSeq3
end
section
variable{X:Cx}
end
def tyD:PyData->String
 | .none=>"NoneType"
 | .bool _=>"bool"
 | .int _=>"int"
 | .str _=>"str"
 | .list _=>"list"
 | .tuple _=>"tuple"
 | .dict _=>"dict"
def qwf(d:PyData):tyD d∈tyTs:=by
 cases d <;> simp[tyD,tyTs]
section
variable{X:Cx}
def q3w(K:xA)(hK:X.K=K:=by rfl):q2t X (.builtin "isinstance") (λxs H Q=>∃x n d,xs=[x,.ty n]/\Dat K H d x/\n∈tyNs/\Q (.bl (tyIs (tyD d) n)) H):=by
 subst hK;intro xC s σ H xs us Q I r h;obtain⟨x,n,d,rfl,hd,hn,q⟩:=h;obtain⟨u,c,rfl,ru,rc⟩:=qss r;cases rc
 have e:=qty (K:=X.K) (qwf d) hn;have fin:∀tk,EP X xC σ Q (.bool (tyIs (tyD d) n)) {s with toks:=tk}:=λtk=>⟨.bl _,H,I.tok tk,rfl,q⟩;cases hd with
 | non=>cases ru;exact z2o PySem.W.kitx_none I.kIn True.intro e (λz=>nomatch z) fin
 | bl b=>cases ru;exact z2o PySem.W.kitx_bool I.kIn True.intro e (λz=>nomatch z) fin
 | int i=>obtain⟨t,rfl⟩:=ru;exact z2o PySem.W.kitx_int I.kIn True.intro e (λz=>nomatch z) fin
 | str z h=>obtain⟨t,rfl⟩:=ru;exact z2o PySem.W.kitx_str I.kIn True.intro e (λz=>nomatch z) fin
 | lst hq _=>
  cases ru
  obtain⟨its,_,⟨o,m,e1,c,_,_⟩,_⟩:=I.list hq;exact z2o PySem.W.kitx_list I.kIn ⟨o,e1,c⟩ e (λz=>nomatch z) fin
 | tup hq _=>
  cases ru
  obtain⟨its,_,⟨o,e1,c,_⟩,_⟩:=I.tuple hq;exact z2o PySem.W.kitx_tuple I.kIn ⟨o,e1,c⟩ e (λz=>nomatch z) fin
def qp5(z:Str):(Txt.upper z).length<=3*z.length:=by
 show (placed z λ_ c=>Unicode.upperOf c).size<=3*z.cps.size;exact StrLaws.placedRaw_le3 z.cps _ λ_ c=>StrLaws.upperOf_le3 c
def qwg:V->List V->Hp->VK->Prop:=λx xs H Q=>∃z,x= .str z/\xs=[]/\z.length<=100/\Q (.str (Txt.upper z)) H
def qrh:MtR X "str.upper" qwg:=by
 intro xC s σ H x xs v us Q I rx rv h;obtain⟨z,rfl,rfl,hz,q⟩:=h;obtain⟨t,rfl⟩:=rx;cases rv.zero
 have hl:(Txt.upper z).length<=300:=z3d (qp5 z) (by lia);have J:Builtin.Str.tooLong (Txt.upper z).length=false:=by
  unfold Builtin.Str.tooLong;simp
  exact z3d hl (by decide)
 exact call_gives F.slot_str_upper (typeIs_str _ _ _) F.entry_str_upper (F.args_str_upper_1 _) (gives_str_upper z t J) ⟨z3d hl (by decide),.str (Txt.upper z),H,I.tok _,⟨_,zr⟩,q⟩
end
end L2
namespace L2
open PySem PySem.Spec PyProof.Rows PySem.W
def RawD(h:Heap)(d:Addr)(es:Array DictEntry)(ep:Nat):Prop:=∃o,h.get? d=some o/\o.ExactDict/\o.data= .dict es ep
def RawD.lt{h:Heap}{d:Addr}{es:Array DictEntry}{ep:Nat}(x:RawD h d es ep):d < h.objs.size:=let ⟨_,e,_⟩:=x;z3b e
def RawD.ty{s:Shared}{d:Addr}{es:Array DictEntry}{ep:Nat}(x:RawD s.heap d es ep):s.TypeIs (.ref d) "dict":=let ⟨o,e,c,_⟩:=x;⟨o,e,c.1⟩
def RawD.at{h h':Heap}{d:Addr}{es:Array DictEntry}{ep:Nat}(x:RawD h d es ep)(k:∀o,h.get? d=some o->h'.get? d=some o):RawD h' d es ep:=let ⟨o,e,r⟩:=x;⟨o,k o e,r⟩
section
variable{prog:Program}{w:World}{A:Around}{E:xB}{s:Shared}{d it:Addr}{es:Array DictEntry}{ep i:Nat}
def qri{Q:xB}(hd:(d==sysModules)=false)(x:RawD s.heap d es ep)
  (q:Q (.ref s.heap.objs.size) {s with heap:=s.heap.push {cls:= .type "dict_keyiterator",data:= .fields #[.ref d,.int 0 0,.int es.size 0,.int ep 0]}}):wpAny (model prog w) A (pyIter (.ref d)) Q E s:=by
 obtain⟨o,ho,hc,J⟩:=id x;refine wpAny_pyIter_slot x.ty PySem.F.slot_dict_iter (z26 PySem.F.slot_dict_iter x.ty PySem.F.entry_dict_iter ?_ (PySem.F.args_dict_iter_1 _));unfold Builtin.«dict.__iter__» Builtin.Dict.dictSlotNone;refine z3p (z3p (wpAny_notOrdered_dict x.ty ?_));show wpAny _ _ (pure (Value.ref d)) _ _ s;refine z3o ?_;show wpAny _ _ (Builtin.Dict.showsAll d >>=_) _ _ s;unfold Builtin.Dict.showsAll;rw[if_neg (by rw[hd];exact z19)];refine z3p (z3o (z3p (z1u ho J (z3p (z2p ho J ?_)))));refine z3p (z1s (z3o ⟨_,zr,"dict_keyiterator",_,⟨_,z11 _ rfl,zr⟩,z00.lookup,?_⟩))
 simpa [rawInt] using q
def qrj{e:DictEntry}{Q:Option Value->Shared->Prop}(J:s.heap.IsKeyIter it d i es.size ep)(x:RawD s.heap d es ep)(hx:es[i]? =some e)
  (q:∀h',h'.IsKeyIter it d (i+1) es.size ep->Heap.SameBut it s.heap h'->Q (some e.key) {s with heap:=h'}):wpAny (model prog w) A (pyNext (.ref it)) Q E s:=by
 obtain⟨o,ho,hc,hd⟩:=id J;obtain⟨od,Z,hcd,Y⟩:=id x;unfold pyNext;refine z3p (z31 (wpAny_callSpecial?_slot (name:=Str.ofString "__next__") J.typeIs z00
  (z26 z00 J.typeIs PySem.F.entry_dict_keyiterator_next ?_ (PySem.F.args_dict_keyiterator_next_1 _))))
 refine z3p (z3o (z3p (z3p ?_)));refine z3p (z01 J.typeIs (z3o ?_));refine z3p (wpAny_fieldsOf ho hd ?_);simp only[show Builtin.Dict_items.ownsTuple "dict_keyiterator"=false by decide,z18,if_false];show wpAny _ _ (if (Value.ref d==Value.none)=true then _ else _) _ _ s;rw[if_neg (show ¬ ((Value.ref d==Value.none)=true) from z19)];refine z3p (z3o (z3p (z1u Z Y ?_)));rw[if_neg (by simp)];refine z3p (z3o (z3p (z2p Z Y ?_)));rw[if_neg (by simp)];refine z3o ?_;simp only[show ¬ ((i:Int) < 0) from by lia,if_false,z1q,hx];refine z3p ?_;refine z3p (z01 J.typeIs (z3o ?_));refine z3p (wpAny_isOneOf_keyiter J.typeIs ?_);show wpAny _ _ (setField (.ref it) 1 (rawInt ((i:Int)+1)) >>=_) _ _ s;refine z3p (z2y ho hd (by simp) ?_);have O:(s.heap.update it (Obj.mapFields (·.setIfInBounds 1 (rawInt ((i:Int)+1))))).IsKeyIter it d (i+1) es.size ep:=
  ⟨_,z0r _ ho (Obj.isFreed_of_fields (Obj.data_mapFields hd _)),(Obj.cls_mapFields ..).trans hc,by rw[Obj.data_mapFields hd];simp[rawInt]⟩
 refine z3p (z33 ?_);refine z3p (wpAny_isOneOf_keyiter (s:={s with heap:=s.heap.update it (Obj.mapFields (·.setIfInBounds 1 (rawInt ((i:Int)+1))))}) O.typeIs ?_);show wpAny _ _ (pure e.key) _ _ _;exact z3o (z3o ⟨_,zr,z3o (q _ O (z10 ..))⟩)
def qu1{Q:Option Value->Shared->Prop}(hh:A.handled=none)(J:s.heap.IsKeyIter it d i es.size ep)(x:RawD s.heap d es ep)(hx:es.size<=i)
  (q:∀h',Heap.ExtBut it s.heap h'->Q none {s with heap:=h'}):wpAny (model prog w) A (pyNext (.ref it)) Q E s:=by
 obtain⟨o,ho,hc,hd⟩:=id J;obtain⟨od,Y,hcd,O⟩:=id x;unfold pyNext;refine z3p (z31 (wpAny_callSpecial?_slot (name:=Str.ofString "__next__") J.typeIs z00
  (z26 z00 J.typeIs PySem.F.entry_dict_keyiterator_next ?_ (PySem.F.args_dict_keyiterator_next_1 _))))
 refine z3p (z3o (z3p (z3p ?_)));refine z3p (z01 J.typeIs (z3o ?_));refine z3p (wpAny_fieldsOf ho hd ?_);simp only[show Builtin.Dict_items.ownsTuple "dict_keyiterator"=false by decide,z18,if_false];show wpAny _ _ (if (Value.ref d==Value.none)=true then _ else _) _ _ s;rw[if_neg (show ¬ ((Value.ref d==Value.none)=true) from z19)];refine z3p (z3o (z3p (z1u Y O ?_)));rw[if_neg (by simp)];refine z3p (z3o (z3p (z2p Y O ?_)));rw[if_neg (by simp)];refine z3o ?_;simp only[show ¬ ((i:Int) < 0) from by lia,if_false,z1q,z0o hx];refine z3p ?_;refine z3p (z01 J.typeIs (z3o ?_));show wpAny _ _ (setField (.ref it) 0 .none >>=_) _ _ s;refine z3p (z2y ho hd (by simp) ?_);show wpAny _ _ (newExc (.type "StopIteration") [] >>=_) _ _ _;refine z3p ?_;simp only[newExc,newTuple];refine z3p (z1s ?_ (by size_fits));refine z3p (m:=firstArgMember _ _) (wpAny_of_eq (a:=Value.none) (by first | rfl | (simp only[firstArgMember];rfl)) ?_);refine z1s ?_ (by size_fits);simp only[raiseNew];refine z3p (wpAny_handled ?_);rw[show A.in1.handled=none from hh];refine z3p (z3o (wpAny_throw ?_));refine z3p (wpAny_isInstance (T:="StopIteration") (b:=true) ⟨_,z11 _ rfl,zr⟩ isSubtype_stop ?_);exact z3o (q _ (((z10 ..).extBut.push _).push _))
def qp6(hh:A.handled=none)(I d:Addr)(a1:d≠I)(es:Array DictEntry)(ep:Nat):
  Walks prog w A I [I,d] [I] es.size (λi v=>∃e,es[i]? =some e/\v=e.key) (λi h=>h.IsKeyIter I d i es.size ep/\RawD h d es ep) where
 sub:=λb hb=>by simp at hb;simp[hb]
 frame:=λ_ _ _ st hk=>⟨st.1.at λo e=>hk I (by simp) o e,st.2.at λo e=>hk d (by simp) o e⟩
 item:=λi s Q E hi st J=>by
  have hx:es[i]? =some es[i]:=z09 hi;refine qrj st.1 st.2 hx λh' O Y=>?_;exact J es[i].key h' s.toks ⟨es[i],hx,zr⟩ ⟨O,st.2.at λo e=>Y.extBut d o a1 e⟩ λb o hb e=>Y.extBut b o (λh=>hb (by simp[h])) e
 done:=λs Q E st J=>qu1 hh st.1 st.2 (z3j _) λh' Z=>J h' s.toks λb o hb e=>Z b o (λh=>hb (by simp[h])) e
 self:=λ_ _ _ _ st J=>wpAny_pyIter_keyiter st.1 J
def qm5(lo:(d==sysModules)=false):KdlSrc prog w "dict" d d es.size (λi v=>∃e,es[i]? =some e/\v=e.key) (λh=>RawD h d es ep) where
 type:=λ_ hm=>hm.ty
 there:=λ_ hm=>⟨hm.lt,hm.lt⟩
 keep:=λ_ _ hm hk=>hm.at λo e=>hk d (.inl rfl) o e
 notList:=by decide
 notTuple:=by decide
 hint:=λ_ _ _ _ hm hq=>kdl_hint_dict hm.ty hq
 iter:=λ_ _ hh hm=>⟨_,_,(λ_ _ hq=>qri lo hm hq),qp6 hh _ d (z3c hm.lt) es ep,⟨⟨_,z11 _ rfl,rfl,rfl⟩,hm.at λo e=>z0l _ e⟩⟩
def qkp{R:List Value->Shared->Prop}(hh:A.handled=none)(lo:(d==sysModules)=false)(x:RawD s.heap d es ep)(hn:es.size<=sizeLine)
  (h:∀(h':Heap) (tk:Nat),(∀b o,s.heap.get? b=some o->h'.get? b=some o)->s.heap.objs.size<=h'.objs.size->R (es.toList.map (·.key)) {s with heap:=h',toks:=tk}):wpAny (model prog w) A (collect (.ref d)) R E s:=by
 have fin:∀(Y:Array Value),ItemsOf (λi v=>∃e,es[i]? =some e/\v=e.key) Y es.size->Y.toList=es.toList.map (·.key):=λY ha=>by
  apply z1l
  intro j;rw[z1m,z0q,z0q];cases e:Y[j]? with
  | some v=>
   obtain⟨e',he,rfl⟩:=ha.2 j v e;rw[he];rfl
  | none=>
   have:Y.size<=j:=by simpa using e
   rw[ha.1]at this;rw[z0o this];rfl
 unfold collect;refine z3p (wpAny_runValue (z2q entry_proto_collect' ?_));rw[Around.under_plainId PySem.F.plain_proto_collect _];show wpAny _ A.in1 (newList [] >>=λl=>again (.builtin "list.__iadd__" ⟨[l,.ref d],[]⟩)) _ _ s;refine z3p (z1s ?_);refine z3o ⟨plainId_quiet z0g _,z2q entry_list_iadd' ?_⟩;rw[Around.under_plainId z0g _];have hS:(s.heap.push {cls:= .type "list",data:= .seq ([]:xH).toArray}).get? s.heap.objs.size=some {cls:= .type "list",data:= .seq #[]}:=z11 _ rfl;show wpAny _ A.in1 (Builtin.List.listExtendWith (.ref s.heap.objs.size) (.ref d) (.ref s.heap.objs.size)) _ _ _;have key:=kdl_extend (A:=A) (s:={s with heap:=s.heap.push {cls:= .type "list",data:= .seq ([]:xH).toArray}}) (qm5 (prog:=prog) (w:=w) (es:=es) (ep:=ep) lo) hh (x.at λo e=>z0l _ e) s.heap.objs.size
  (z3e x.lt) (z3e x.lt) (.ref s.heap.objs.size) 0 hS
  (R:=λ(q:Result) (s':Shared)=>∃(h':Heap) (tk:Nat) (J:Array Value) (Z:Nat),q= .ok (.ret (.ref s.heap.objs.size))/\s'={s with heap:=h',toks:=tk}/\(∀b o,s.heap.get? b=some o->h'.get? b=some o)/\
   h'.get? s.heap.objs.size=some {cls:= .type "list",dict:=none,data:= .seq J Z,slots:=#[]}/\J.toList=es.toList.map (·.key))
  (λh' tk J Z hk O a1=>⟨h',tk,J,Z,rfl,rfl,λb o e=>hk b o (z3c (z3b e)) (z0l _ e),O,fin J a1⟩) hn
 refine z3q key (λf s' y=>?_) λe s' y=>?_
 ·cases f with
  | done f=>
   obtain⟨h',tk,J,Z,e,rfl,hk,O,ha⟩:=y;cases e
   show wpAny _ A (load s.heap.objs.size >>=_) _ _ _;refine z3p (wpAny_load O (z3o ?_));show R J.toList _;rw[ha];exact h h' tk hk (z3a (z3b O))
  | again c=>
   refine⟨y.1,z3f y.2 λq s2 z=>?_⟩;obtain⟨h',tk,J,Z,rfl,rfl,hk,O,ha⟩:=z;show wpAny _ A (load s.heap.objs.size >>=_) _ _ _;refine z3p (wpAny_load O (z3o ?_));show R J.toList _;rw[ha];exact h h' tk hk (z3a (z3b O))
 ·obtain⟨_,_,_,_,e',_⟩:=y;cases e'
end
end L2
namespace Tim
section
variable{α:Type}
def srt(lt:α->α->Bool)(l:List α):List α:=l.mergeSort λa b=> !lt b a
def q88(lt:α->α->Bool)(l:List α):(srt lt l).Perm l:=List.mergeSort_perm _ _
def qm6{lt:α->α->Bool}(h:STO lt)(l:List α):(srt lt l).Pairwise λa b=>lt b a=false:=by
 have:=List.pairwise_mergeSort (le:=λa b=> !lt b a) (λa b c h1 h2=>by
  cases e:lt c a with
  | false=>rfl
  | true=>
   rcases h.nt b e with q | q
   ·rw[q]at h2;cases h2
   ·rw[q]at h1;cases h1) (λa b=>by
  cases e:lt b a with
  | false=>rfl
  | true=>
   rw[h.asym e];rfl) l
 exact List.Pairwise.imp (λ{a b} (z:(!lt b a)=true)=>by simpa using z) this
def qp7{lt:α->α->Bool}(h:STO lt){l k:List α}(p:k.Perm l)(a:k.Pairwise λa b=>lt b a=false):k=srt lt l:=h.uniq (p.trans (q88 lt l).symm) a (qm6 h l)
end
section
open PySem
def qkq{α:Type}{lt:α->α->Bool}(h:STO lt)(J:Value->α){vs out:xH}(O:Sorted (λv=>rank lt (vs.map J) (J v)) vs out):out.map J=srt lt (vs.map J):=by
 refine qp7 h (O.perm.map J) ?_;rw[List.pairwise_map];refine List.Pairwise.imp_of_mem (λ{x y} hx hy hr=>?_) O.asc;have mx:J x∈vs.map J:=z3h.mpr ⟨x,O.perm.mem_iff.mp hx,rfl⟩;have my:J y∈vs.map J:=z3h.mpr ⟨y,O.perm.mem_iff.mp hy,rfl⟩;rw[qlq (λa _=>h.irr a) (λa _ b _ c _=>h.tr a b c) (λa _ b _ c _ z=>h.nt b z) my mx];exact z2d (by lia)
def qrk{α:Type}{lt:α->α->Bool}(h:STO lt)(J:Value->α){vs:xH}{x y:Value}(hx:x∈vs)(hy:y∈vs):lt (J x) (J y)=decide (rank lt (vs.map J) (J x) < rank lt (vs.map J) (J y)):=
 qlq (λa _=>h.irr a) (λa _ b _ c _=>h.tr a b c) (λa _ b _ c _ z=>h.nt b z) (z3h.mpr ⟨x,hx,rfl⟩) (z3h.mpr ⟨y,hy,rfl⟩)
end
end Tim
namespace L2
open PySem PySem.Spec PyProof.Rows PySem.W
def strLt(x y:Str):Bool:=decide (x.cps.toList < y.cps.toList)
def qcp:Tim.STO strLt:=by
 have h:=(Tim.qt8.lex).map (λz:Str=>z.cps.toList) (λa b e=>by
  cases a
  cases b
  congr
  exact Array.toList_inj.mp e)
 have e:strLt=λa b:Str=>Tim.lexB (λx y:Nat=>decide (x < y)) a.cps.toList b.cps.toList:=by
  funext a b
  exact Tim.qlr _ _
 rw[e];exact h
def sOf:Value->Str
 | .str x _=>x
 | _=>""
def qdq{J:xD}:∀{us:xH},Vals (J.map V.str) us->us.map sOf=J/\(∀u∈us,∃x t,u= .str x t)/\StrsAre us J:=by
 induction J with
 | nil=>
  intro us r;cases r
  exact⟨rfl,(λ_ z=>nomatch z),.nil⟩
 | cons x J ih=>
  intro us r;cases r with
  | cons r1 rr=>
   obtain⟨t,rfl⟩:=r1;obtain⟨a,b,c⟩:=ih rr;refine⟨by rw[z30,a];rfl,λu hu=>?_,.cons x t c⟩;rcases z32.mp hu with rfl | hu
   ·exact⟨x,t,zr⟩
   ·exact b u hu
theorem q89:∀{us:xH},(∀u∈us,∃x t,u= .str x t)->Vals ((us.map sOf).map V.str) us
 | [],_=> .nil
 | u::us,h=>by
  obtain⟨x,t,rfl⟩:=h u (z1c ..);exact .cons ⟨t,zr⟩ (q89 λv hv=>h v (z0v _ hv))
section
variable{prog:Program}{w:World}{A:Around}{s:Shared}{a:Addr}
def qp8{ws:xD}{vs:xH}(r:Vals (ws.map V.str) vs):Tim.Keys prog w A s a vs (λv=>Tim.rank strLt (vs.map sOf) (sOf v)):=by
 intro h2 s' _;obtain⟨e1,e2,e3⟩:=qdq r;refine⟨oneType',λE Q q=>?_,λx J y hy E Q q=>?_⟩
 ·match vs,h2,e3 with
  | v1::v2::vr,_,e3=>
   rw[keyKind_strs e3];exact z3o q
 ·rw[<- Tim.qrk qcp sOf J hy]at q;obtain⟨x',t,rfl⟩:=e2 x J;obtain⟨y',u,rfl⟩:=e2 y hy;rw[keyLt'_oneType];exact oneLt_str q
end
section
variable{X:Cx}
def Inv.qkr{xC:xG}{σ:St}{H:Hp}{s:Shared}{xs:List V}{out:Array Value}{l:Addr}{n tk:Nat}{h':Heap}{Q:VK}(I:Inv X xC σ H s)(rv:Vals xs out.toList)(hz:xs.length<=sizeLine)
  (keep:∀b o,s.heap.get? b=some o->h'.get? b=some o) (hl:s.heap.objs.size<=l) (hg:h'.get? l=some (seqObj "list" out n)) (q:Q (.ref l) (upd H l (.lst xs))):EP X xC σ Q (.ref l) {s with heap:=h',toks:=tk}:=by
 refine⟨.ref l,_,I.laid (a:=l) (o:= .lst xs) (t':=tk) keep hl ⟨hz,out.toList,n,rv,?_⟩,zr,q⟩;rw[Array.toArray_toList];exact hg
end
section
variable{prog:Program}{w:World}{A:Around}{E:xB}{s:Shared}{a:Addr}
end
section
variable{X:Cx}
end
end L2
namespace L2
open PySem PySem.Spec PyProof.Rows
section
variable{X:Cx}
def qa4(K:xA){es:List Expr}{k:Nat}{t:TGs}{n:Nat}{pos:Pos}(hc:X.calm=true)(h:PGs X es t)(hK:X.K=K:=by rfl)
  (hn:(assignEach es X.env).length=n:=by rfl) (J:(assignEach es X.env).findIdx? (·.1)=none:=by rfl):PG X (.Tuple es k pos) (gTup K n t):=by
 subst hK;exact q3g hc h hn J
def qu2(K:xA):R2:=λx y H Q=>∃d ds,Dat K H d x/\Dat K H (.list ds) y/\PyData.depthAll ds<=60/\Q (.bl (!ds.any λy=>PyData.eqv y d)) H
def qp9(hu:X.A.units+64 < cLine)(K:xA)(hK:X.K=K:=by rfl):OpR X (compareOp .NotIn) (qu2 K):=by
 subst hK;intro xC s σ H x y v u Q I rx ry h;obtain⟨d,ds,hd,J,hz,q⟩:=h;obtain⟨as,ra⟩:=Dat.reads I _ _ _ hd rx;obtain⟨bs,rb⟩:=Dat.reads I _ _ _ J ry;exact SeqAt.notIn_list_reads rb ra (Dat.lay _ _ J) (Dat.lay _ _ hd) (by have:min (PyData.depthAll ds) d.depth<=PyData.depthAll ds:=Nat.min_le_left _ _;lia) (q1b I q rfl)
end
section
variable{X:Cx}{e:Expr}{lo hi:Option Expr}{se:Expr}{te:TE}{tl th ts:TO}{p2 pos:Pos}
end
def qm7{k:Int}{n:Nat}(h1:0<=k)(h2:k < 2^n):Builtin.Int.intBits k<=n+1:=by
  unfold Builtin.Int.intBits;split
  · exact z3m _
  · have hn:k.natAbs < 2^n:=by
      have:((k.natAbs:Nat):Int) < ((2^n:Nat):Int):=by
        rw[Int.natAbs_of_nonneg h1]
        push_cast
        exact h2
      exact Int.ofNat_lt.mp this
    have:k.natAbs.log2<=n:=by
      rcases Nat.eq_zero_or_pos k.natAbs with h0 | hp
      · rw[h0]
        show 0<=n;exact z3m _
      · exact z3a ((Nat.log2_lt (z3e hp)).mpr hn)
    lia
def qt0(i j:Int):Prop:=(0<=i/\i < 2^600)/\(0<=j/\j < 2^600)
section
variable{X:Cx}
def qu3:OpR X (binaryOp .Mult) (rI qt0 λi j=> .int (i*j)):=opI λ_ _ _ _ _ _ _ J q=>mul_int q (IntMulOk.of_bits (z3d (qm7 J.1.1 J.1.2) (by decide)) (z3d (qm7 J.2.1 J.2.2) (by decide)))
end
section
variable{X:Cx}
end
def q7t(v:Nat->Int):Nat->Option Int
 | 0=>none
 | n+1=>match q7t v n with
  | none=>some (v n)
  | some m=>some (if v n > m then v n else m)
def qeq:(toString "max"++toString ".loop":String)="max.loop":=by decide
def qfy(a v:Value):argsOk "max" ⟨[a],[(Str.ofString "default",v)]⟩:=by unfold argsOk;kernel_rfl
section
variable{prog:Program}{w:World}{A:Around}{R:Result->Shared->Prop}{I:Addr}{fp wr:List Addr}{n:Nat}{P:Nat->Value->Prop}{St:Nat->Heap->Prop}
def Best(v:Nat->Int)(j:Nat)(xs:Array Value):Prop:=(q7t v j=none/\xs=#[])\/ ∃m t,q7t v j=some m/\xs=#[.int m t,.int m t]
theorem q94(W:Walks prog w A.in1 I fp wr n P St)(v:Nat->Int)(hv:∀i x,P i x->∃t,x= .int (v i) t)(S:Addr)(a1:S∉fp)(d:Int)(td:Tok):∀(k j:Nat) (s:Shared) (xs:Array Value) (c:Nat),j+k=n->St j s.heap->Best v j xs->
  s.heap.get? S=some {cls:= .type "list",data:= .seq xs c}->
  (∀t h' tk,(∀b o,b∉wr->b≠S->s.heap.get? b=some o->h'.get? b=some o)->R (.ok (.ret (.int ((q7t v n).getD d) t))) {s with heap:=h',toks:=tk})->
  codeAny (model prog w) A (.builtin "max.loop" ⟨[.ref I,.none,.ref S],[(Str.ofString "default",.int d td)]⟩) R s
 | 0,j,s,xs,c,hk,a6,hb,hS,hR=>by
  have a5:S∉wr:=λh=>a1 (W.sub _ h);have hj:j=n:=by lia
  subst hj;refine z2q PySem.F.entry_max_loop ?_;rw[Around.under_plainId PySem.F.plain_max_loop _];refine z3p (m:=seqItems? (.ref S)) (wpAny_seqItems hS rfl ?_);refine z3p (m:=tryCatch (pyNext (.ref I)) _) (wpAny_tryCatch (W.done s _ _ a6 λh' tk Y=>?_));have Z:=Y S _ a5 hS;rcases hb with ⟨e,rfl⟩ | ⟨m,t,e,rfl⟩
  ·have:=hR td h' tk λb o J _ eb=>Y b o J eb;rw[e]at this;exact z3p (z3n (z3o this))
  ·refine z3p (m:=updateSeq S λ_=>#[]) ?_;refine wpAny_updateSeq Z rfl (z3p (wpAny_letGo (z3o ?_)));have em:(q7t v j).getD d=m:=by rw[e];rfl
   rw[em]at hR;exact hR t _ tk λb o J O eb=>(z0m _ _ (Ne.symm O)).trans (Y b o J eb)
 | k+1,j,s,xs,c,hk,a6,hb,hS,hR=>by
  have a5:S∉wr:=λh=>a1 (W.sub _ h);have a8:j < n:=by lia
  refine z2q PySem.F.entry_max_loop ?_;rw[Around.under_plainId PySem.F.plain_max_loop _];refine z3p (m:=seqItems? (.ref S)) (wpAny_seqItems hS rfl ?_);refine z3p (m:=tryCatch (pyNext (.ref I)) _) (wpAny_tryCatch (W.item j s _ _ a8 a6 λx h' tk hP a4 Y=>?_));have Z:=Y S _ a5 hS;obtain⟨tx,rfl⟩:=hv j x hP;have stay:∀(f:Obj->Obj),St (j+1) (h'.update S f):=λf=>W.frame _ _ _ a4 λb a7 o e=>(z0m _ _ (λh:S=b=>a1 (by rw[h];exact a7))).trans e;rcases hb with ⟨e,rfl⟩ | ⟨m,t,e,rfl⟩
  ·refine z3p (m:=updateSeq S λ_=>#[.int (v j) tx,.int (v j) tx]) ?_;refine wpAny_updateSeq Z rfl ?_;rw[qeq];refine z3o ⟨plainId_quiet PySem.F.plain_max_loop _,q94 W v hv S a1 d td k (j+1) _ _ _ (by lia) (stay _) (.inr ⟨v j,tx,?_,zr⟩) (z0r _ Z rfl) λt' h2 a3 a2=>?_⟩
   ·rw[q7t,e]
   ·exact hR t' h2 a3 λb o J O eb=>a2 b o J O ((z0m _ _ (Ne.symm O)).trans (Y b o J eb))
  ·refine z3p (m:=tryCatch (holding [.int (v j) tx,.int (v j) tx] (richCompare .Gt (.int (v j) tx) (.int m t) >>=_)) _) (wpAny_tryCatch (z33 (z3p (richCompare_gives (op:= .Gt) (typeIs_int _ _ tx) (typeIs_int _ _ t) PySem.F.slot_int_gt PySem.F.entry_int_gt (PySem.F.args_int_gt_2 _ _) (gives_int_gt _ _ tx t) (λx=>nomatch x) ?_))));refine z3p (z33 (z1o ?_));refine z3p (wpAny_letGo (z3o ?_));by_cases hb:v j > m
   ·rw[z2s hb,if_pos rfl];refine z3p ?_;refine wpAny_updateSeq Z rfl (z3p (wpAny_letGo ?_));rw[qeq];refine z3o ⟨plainId_quiet PySem.F.plain_max_loop _,q94 W v hv S a1 d td k (j+1) _ _ _ (by lia) (stay _) (.inr ⟨v j,tx,?_,zr⟩) (z0r _ Z rfl) λt' h2 a3 a2=>?_⟩
    ·rw[q7t,e];show some (if v j > m then v j else m)=_;rw[if_pos hb]
    ·exact hR t' h2 a3 λb o J O eb=>a2 b o J O ((z0m _ _ (Ne.symm O)).trans (Y b o J eb))
   ·rw[z2d hb,if_neg (by decide)];refine z3p (wpAny_letGo ?_);rw[qeq];refine z3o ⟨plainId_quiet PySem.F.plain_max_loop _,q94 W v hv S a1 d td k (j+1) _ _ _ (by lia) a4 (.inr ⟨m,t,?_,zr⟩) Z λt' h2 a3 a2=>?_⟩
    ·rw[q7t,e];show some (if v j > m then v j else m)=_;rw[if_neg hb]
    ·exact hR t' h2 a3 λb o J O eb=>a2 b o J O (Y b o J eb)
end
section
variable{X:Cx}{e d:Expr}{t tk:TA}{p pos kpos:Pos}
def qu4(K:xA)(hc:X.calm=true)(hg:Gl X "max")(hm:X.mg "max"=none)(hv:bootBuiltins "max"=some (.builtin "max"))(ha:PA X [e] t)(a1:PK X [⟨some "default",d,kpos⟩] tk)(hK:X.K=K:=by rfl)
  (a2:(backTo pos (starEach [e] X.env)).any (·.1)=false:=by rfl) (he:backTo pos (starEach [e] X.env)=(false,eval e X.env)::backTo pos (starEach [] X.env):=by rfl):
  PE X (.Call (.Name "max" p) [e] [⟨some "default",d,kpos⟩] pos) (λσ H Q=>t σ H λvs H1=>tk σ H1 λws H2=>∃(l:Addr) (ns:List Int) (n:Int),vs=[.ref l]/\ws=[.int n]/\SqL K H2 l (ns.map V.int)/\Q (.int ((q7t (λi=>ns.getD i 0) ns.length).getD n)) H2):=by
 subst hK;intro xC s σ H Q I h;refine z1f (q64 I hg hm hv ?_);refine callWith_kw (thn (ha pos xC s σ H _ I h) λus s1 ⟨vs,H1,I1,r1,q1⟩=>thn (a1 pos xC s1 σ H1 _ I1 q1) λws J a3=>?_) he a2;obtain⟨zs,H2,I2,rz,q2⟩:=a3;obtain⟨l,ns,n,rfl,rfl,hl,q⟩:=q2;obtain⟨u,rfl,ru⟩:=q3h r1;cases ru
 obtain⟨u,rfl,⟨tn,rfl⟩⟩:=q3h rz;obtain⟨its,rv,pl,hz⟩:=I2.list hl;have hsz:its.toArray.size=ns.length:=by
  have:=rv.length;rw[z2h]at this;rw[z1n];exact this.symm
 have hh:X.A.in1.handled=none:=I2.ok.hd hc;have O:l < J.heap.objs.size:=by
  obtain⟨o,k,e1,_⟩:=pl;exact z3b e1
 show wpAny _ _ (call (.builtin "max") [.ref l] [(Str.ofString "default",.int n tn)]) _ _ J;refine kmk_tree PySem.F.kind_max PySem.F.plain_max PySem.F.entry_max (qfy _ _) ?_;refine z3p (m:=Builtin.Builtins.bindParams "max" ["key","default"] 0 ⟨[],[(Str.ofString "default",.int n tn)]⟩) (wpAny_of_eq (show _=pure [none,some (Value.int n tn)] from rfl) ?_);refine z3p (z3o ?_);refine z3p (z1p pl.isList ?_);refine z3p (wpAny_newList ?_ (z3m _));rw[qeq];have keep:∀b o,J.heap.get? b=some o->((J.heap.push {cls:= .type "list_iterator",data:= .fields #[.ref l,.int 0 0]}).push {cls:= .type "list",data:= .seq #[]}).get? b=some o:=λb o e=>z0l _ (z0l _ e);have Y:(J.heap.push {cls:= .type "list_iterator",data:= .fields #[.ref l,.int 0 0]}).objs.size=J.heap.objs.size+1:=Array.size_push _;refine z3o ⟨plainId_quiet PySem.F.plain_max_loop _,q94 (n:=ns.length) (A:=X.A) (hsz ▸ Walks.list hh J.heap.objs.size l (z3c O) its.toArray) (λi=>ns.getD i 0) ?_ (J.heap.push {cls:= .type "list_iterator",data:= .fields #[.ref l,.int 0 0]}).objs.size ?_ n tn ns.length 0 _ #[] 0 (z39 _) ⟨⟨_,z0l _ (z11 _ rfl),zr,zr⟩,pl.isList.at (keep l)⟩ (.inl ⟨zr,zr⟩) (z11 _ rfl) λt' h' tk' hk=>?_⟩
 ·intro i v hv;have Z:its[i]? =some v:=by simpa using hv
  have hi:i < ns.length:=by
   rw[<- hsz,z1n];exact(z06.mp Z).1
  have e:(ns.map V.int)[i]? =some (V.int ns[i]):=by rw[z1m,z0b hi];rfl
  obtain⟨u,hu,ru⟩:=rv.get e;rw[Z]at hu;cases hu
  obtain⟨t,rfl⟩:=ru;exact⟨t,by show _=Value.int (ns.getD i 0) t;rw[qm4 hi]⟩
 ·rw[Y];intro hb;simp only[z32,z29,or_false]at hb;rcases hb with h | h
  ·exact absurd h (Nat.succ_ne_self _)
  ·exact absurd O (by rw[<- h];exact Nat.not_lt_of_le (Nat.le_succ _))
 ·refine⟨.int _,H2,I2.kept λb o e=>hk b o ?_ ?_ (keep b o e),⟨_,zr⟩,q⟩
  ·simp
   exact z3c (z3b e)
  ·rw[Y];exact z3c (z1x (z3b e))
end
def q95:entryFor table "dict.update.loop"=some Builtin.«dict.update.loop»:=entryFor_of_tree (by kernel_rfl)
def q3x:plainId "dict.update.loop"=true:=by decide+kernel
def qfz:typeLookup (.type "list") "keys"=pure none:=by rw[typeLookup_type,builtinLookup_eq_fast];kernel_rfl
section
variable{prog:Program}{w:World}{A:Around}{E:xB}{s:Shared}
def qm8{a:Addr}{o:Obj}{xs:Array Value}{k:Nat}{Q:Option Value->Shared->Prop}(hx:s.heap.get? a=some o)(hc:o.cls= .type "list")(J:o.data= .seq xs k)(hd:o.dict=none)(hA:A.handled=none)
  (h:∀h' tk,(∀b o,s.heap.get? b=some o->h'.get? b=some o)->Q none {s with heap:=h',toks:=tk}):wpAny (model prog w) A (getAttr? (.ref a) "keys") Q E s:=by
 obtain⟨c,dct,dat,sl⟩:=o;simp only at hc J hd;subst hc J hd;obtain⟨hp,g,d,tk,os⟩:=s;have Z:∀O,(⟨hp,g,d,O,os⟩:Shared).TypeIs (.ref a) "list":=λ_=>⟨_,hx,rfl⟩;have f1:=sub_AttributeError;have f3:=PySem.F.slot_list_getattribute.lookup;have f4:=PySem.F.slot_list_getattribute.bind (.ref a);have f5:=am_list_getattr_none;unfold getAttr? getAttrBy? getAttrBy
 repeat (any_goals (first | assumption | exact Z _ | ((with_reducible show wpAny _ _ (call (Value.builtin "list.__getattribute__") _ _) _ _ _);refine call_meets PySem.F.slot_list_getattribute (Z _) am_entry_list_getattribute (PySem.F.args_list_getattribute_2 _ _) (meets_getattribute_miss_list a xs k sl "keys" _ qfz (by decide+kernel) (by show 4+100<=sizeLine;decide)) ⟨hx,hA,λh' O e Y=>?_⟩) | wp_step))
 obtain⟨t',u',he⟩:=Y.there;show wpAny _ _ (getattributeRaised _ _ _ _ _ _ _) _ _ _;unfold getattributeRaised
 repeat (any_goals (first | assumption | wp_step))
 exact h h' O Y.of.keeps
end
def qer(f:Nat->Str×Value):Nat->Nat->List (Key×Value)->List (Key×Value)
 | 0,_,kvs=>kvs
 | k+1,i,kvs=>qer f k (i+1) (stored kvs (Sum.inr (f i).1) (f i).2)
def qn9{kvs:List (Key×Value)}{k:Key}{v:Value}:(stored kvs k v).length<=kvs.length+1:=by
 unfold stored;split
 ·rw[z2h]
  lia
 ·rw[z1b];exact z3j _
section
variable{prog:Program}{w:World}{A:Around}{R:Result->Shared->Prop}{I:Addr}{fp wr:List Addr}{n:Nat}{P:Nat->Value->Prop}{St:Nat->Heap->Prop}
theorem qiz{h0:Heap}(W:Walks prog w A.in1 I fp wr n P St)(d:Addr)(O:d∉fp)(a2:h0.get? d=none)(a1:∀b∈wr,h0.get? b=none)(hn:n<=sizeLine)(f:Nat->Str×Value)(hf:∀i v,P i v->∃q t,v= .ref q/\IsTup h0 q #[.str (f i).1 t,(f i).2]):
  ∀(k i:Nat) (s:Shared) (kvs:List (Key×Value)) (j:Int) (ti:Tok),i+k=n->St i s.heap->s.heap.DictOf (q16 prog w) d kvs->kvs.length<=i->(∀b o,h0.get? b=some o->s.heap.get? b=some o)->
  (∀h' tk,h'.DictOf (q16 prog w) d (qer f k i kvs)->(∀b o,h0.get? b=some o->h'.get? b=some o)->R (.ok (.ret .none)) {s with heap:=h',toks:=tk})->
  codeAny (model prog w) A (.builtin "dict.update.loop" ⟨[.ref d,.ref I,.int j ti,.none],[]⟩) R s
 | 0,i,s,kvs,j,ti,hk,Z,hm,hl,kp,hR=>by
  have hi:i=n:=by lia
  subst hi;have Y:d∉wr:=λh=>O (W.sub _ h);refine z2q q95 ?_;rw[Around.under_plainId q3x _];refine z3p (m:=pyNext (.ref I)) (W.done s _ _ Z λh' tk J=>?_);show wpAny _ _ (Builtin.Dict.addKeywords d [] >>=λ_=>ret .none) _ _ _;obtain⟨o,es,ep,ho,r⟩:=hm;exact z3p (z3o (z3o (hR h' tk ⟨o,es,ep,J d o Y ho,r⟩ λb o e=>J b o (λhb=>by rw[a1 b hb]at e;cases e) (kp b o e))))
 | k+1,i,s,kvs,j,ti,hk,Z,hm,hl,kp,hR=>by
  have a8:i < n:=by lia
  have Y:d∉wr:=λh=>O (W.sub _ h);refine z2q q95 ?_;rw[Around.under_plainId q3x _];refine z3p (m:=pyNext (.ref I)) (W.item i s _ _ a8 Z λv h' tk hP a5 J=>?_);obtain⟨q,t,rfl,oq,hq,hc,nq,a7⟩:=hf i v hP;have a6:∀b o,h0.get? b=some o->h'.get? b=some o:=λb o e=>J b o (λhb=>by rw[a1 b hb]at e;cases e) (kp b o e);have a9:h'.DictOf (q16 prog w) d kvs:=by
   obtain⟨o,es,ep,ho,r⟩:=hm;exact⟨o,es,ep,J d o Y ho,r⟩
  have a3:=a6 q _ hq;refine z3p (z33 (z3p (wpAny_tryCatch ?_)));unfold Builtin.Dict.pairItems;refine z3p (wpAny_typeOf (T:="tuple") ⟨oq,a3,hc⟩ ?_);rw[if_pos (by decide)];refine z3p (wpAny_seqItems a3 a7 (z3o ?_));show wpAny _ _ (holding [.str (f i).1 t,(f i).2] (dictSet d (.str (f i).1 t) (f i).2)) _ _ _;refine z33 (wpAny_dictSet_pairs (knd:=q16 prog w) (k:=Sum.inr (f i).1) (qdb _ _ _ _) a9 (λh2 b0 a4=>?_) (by lia));have b3:∀b o,h0.get? b=some o->h2.get? b=some o:=λb o e=>(a4.2 b (λz=>by rw[z,a2]at e;cases e)).trans (a6 b o e);refine z3o ⟨plainId_quiet q3x _,qiz W d O a2 a1 hn f hf k (i+1) _ _ (j+1) _ (by lia) (W.frame _ _ _ a5 λb hb o e=>(a4.2 b (λz=>O (z ▸ hb))).trans e) b0 (z3d qn9 (z28 hl)) b3 λh3 b5 b1 b4=>?_⟩;exact hR h3 b5 b1 b4
end
def q7u(ps:List (Str×V))(m:List (Key×V)):List (Key×V):=ps.foldl (λm kv=>putK m (Sum.inr kv.1) kv.2) m
theorem qh6:∀(ps:List (Str×V)) (m:List (Key×V)),(q7u ps m).length<=m.length+ps.length
 | [],m=>z3j _
 | p::ps,m=>by
  have h:(putK m (Sum.inr p.1) p.2).length<=m.length+1:=by
   unfold putK;split
   ·rw[z2h]
    lia
   ·rw[z1b];exact z3j _
  have:=qh6 ps (putK m (Sum.inr p.1) p.2);show (q7u ps (putK m (Sum.inr p.1) p.2)).length<=m.length+(ps.length+1)
  lia
def PRel(p:Str×V)(q:Str×Value):Prop:=p.1=q.1/\RelV p.2 q.2
theorem qm9:∀{ps:List (Str×V)} {us:List (Str×Value)} (_:Paired PRel ps us) (i:Nat) (hi:i < ps.length),PRel ps[i] (us.getD i ("",.none))
 | _,_,.nil,i,hi=>absurd hi (Nat.not_lt_zero _)
 | _,_,.cons a b,0,hi=>a
 | _,_,.cons a b,i+1,hi=>qm9 b i (Nat.lt_of_succ_lt_succ hi)
theorem qes{ps:List (Str×V)}{us:List (Str×Value)}(r:Paired PRel ps us):∀(k i:Nat) (m:List (Key×V)) (vs:List (Key×Value)),i+k=us.length->KV m vs->KV (q7u (ps.drop i) m) (qer (λi=>us.getD i ("",.none)) k i vs)
 | 0,i,m,vs,h,J=>by
  have hl:=Paired.length r;rw[List.drop_eq_nil_of_le (by lia)];exact J
 | k+1,i,m,vs,h,J=>by
  have hl:=Paired.length r;have hi:i < ps.length:=by lia
  rw[z08 hi];show KV (q7u (ps.drop (i+1)) (putK m (Sum.inr ps[i].1) ps[i].2)) (qer _ k (i+1) (stored vs (Sum.inr (us.getD i ("",.none)).1) (us.getD i ("",.none)).2));have O:=qm9 r i hi;rw[<- O.1];exact qes r k (i+1) _ _ (by lia) (J.put _ O.2)
section
variable{X:Cx}
def qt1(K:xA)(H:Hp)(y:V)(kv:Str×V):Prop:=∃q,y=V.ref q/\SqT K H q [.str kv.1,kv.2]
def qpa{xC:xG}{σ:St}{H:Hp}{s:Shared}(I:Inv X xC σ H s){ys:List V}{ps:List (Str×V)}(h:Paired (qt1 X.K H) ys ps):∀{its:xH},Vals ys its->∃us:List (Str×Value),Paired PRel ps us/\∀i v,its[i]? =some v->∃q t,v= .ref q/\IsTup s.heap q #[.str (us.getD i ("",.none)).1 t,(us.getD i ("",.none)).2]:=by
 induction h with
 | nil=>
  intro its r;cases r
  exact⟨[],.nil,λi v e=>by simp at e⟩
 | cons a b ih=>
  intro its r;cases r with
  | cons r1 rr=>
   obtain⟨us,h1,h2⟩:=ih rr;obtain⟨q,rfl,hq⟩:=a;cases r1
   obtain⟨it2,rv,tp,_⟩:=I.tuple hq;cases rv with
   | cons c1 c2=>
    cases c2 with
    | cons c3 c4=>
     cases c4
     obtain⟨t,rfl⟩:=c1;refine⟨(_,_)::us,.cons ⟨zr,c3⟩ h1,λi v e=>?_⟩;cases i with
     | zero=>
      have:v=Value.ref q:=by simpa using e.symm
      subst this;exact⟨q,t,zr,tp⟩
     | succ i=>exact h2 i v (by simpa using e)
def qna(hc:X.calm=true)(K:xA)(hK:X.K=K:=by rfl):q2t X (.type "dict") (λxs H Q=>∃(p:Addr) (ys:List V) (ps:List (Str×V)),xs=[.ref p]/\SqL K H p ys/\Paired (qt1 K H) ys ps/\∀d,H d=none->Q (.ref d) (upd H d (.dK (q7u ps [])))):=by
 subst hK;intro xC s σ H xs vs Q I r h;obtain⟨p,ys,ps,rfl,hp,hy,q⟩:=h;obtain⟨u,rfl,ru⟩:=q3h r;cases ru
 obtain⟨its,rv,⟨ol,nl,a5,Y,a3,O⟩,hz⟩:=I.list hp;obtain⟨us,a6,b4⟩:=qpa I hy rv;have a7:us.length=its.length:=by rw[<- Paired.length a6,<- Paired.length hy,rv.length]
 have a4:p < s.heap.objs.size:=z3b a5;have hh:X.A.in1.in1.handled=none:=I.ok.hd hc;refine callType_codes (Q₁:=λob s1=>ob= .ref s.heap.objs.size/\s1={s with heap:=s.heap.push {cls:= .type "dict",data:= .dict #[]}}) PySem.F.kt_called_dict (PySem.F.kt_typeCall_dict_1 _) PySem.F.entry_dict_init (kt_code_dict_new _ ⟨rfl,rfl⟩) ?_;rintro ob s1 ⟨rfl,rfl⟩;have d0:(s.heap.push {cls:= .type "dict",data:= .dict #[]}).DictOf (q16 X.prog X.w) s.heap.objs.size []:=Heap.DictOf.new s.heap;have l0:(s.heap.push {cls:= .type "dict",data:= .dict #[]}).get? p=some ol:=z0l _ a5;refine⟨d0.typeIs,PySem.F.args_dict_init_2 _ _,?_⟩;unfold Builtin.«dict.__init__»;refine z3p ?_;unfold Builtin.Dict.selfAndRest;refine z3p (wpAny_notOrdered_dict d0.typeIs (z3o ?_));show wpAny _ _ (Builtin.Dict.updateFrom "dict.__init__" s.heap.objs.size (.ref p) [] .none) _ _ _;unfold Builtin.Dict.updateFrom;refine z3p (wpAny_typeOf (T:="list") ⟨ol,l0,Y⟩ ?_);rw[if_pos (by decide)];refine z3p (qm8 l0 Y O a3 hh λh1 tk1 Z=>?_);rw[if_pos (by rfl)];refine z3p (z3n ?_);have a8:PlainL h1 p its.toArray:=⟨ol,nl,Z _ _ l0,Y,a3,O⟩;obtain⟨od,b0,b1,b3,rd⟩:=d0;have a2:=Z _ _ b3;have a1:s.heap.objs.size < h1.objs.size:=z3b a2;refine z3p (z1p a8.isList ?_);have J:∀b,s.heap.objs.size<=b->s.heap.get? b=none:=λb hb=>by
  cases e:s.heap.get? b with
  | none=>rfl
  | some o=>exact absurd (z3b e) (Nat.not_lt_of_le hb)
 have hsz:us.length=its.toArray.size:=by rw[z1n];exact a7
 have W0:Walks X.prog X.w X.A.in1.in1 h1.objs.size [h1.objs.size,p] [h1.objs.size] us.length (λi v=>its.toArray[i]? =some v) (λi h=>h.IsListIter h1.objs.size p i/\h.IsList p its.toArray):=by
  rw[hsz];exact Walks.list hh h1.objs.size p (z3c (Nat.lt_trans a4 a1)) its.toArray
 refine z3o ⟨plainId_quiet q3x _,qiz (h0:=s.heap) (n:=us.length) (A:=X.A.in1) W0 s.heap.objs.size ?_ (J _ (z3j _)) ?_ (by rw[a7,<- rv.length];exact hz) (λi=>us.getD i ("",.none)) ?_ us.length 0 _ [] 0 _ (z39 _) ⟨⟨_,z11 _ rfl,rfl,rfl⟩,a8.isList.at λo e=>z0l _ e⟩ ⟨od,b0,b1,z0l _ a2,rd⟩ (z3j _) (λb o e=>z0l _ (Z _ _ (z0l _ e))) λh' tk hm keep=>?_⟩
 ·intro hb;simp only[z32,z29,or_false]at hb;rcases hb with e | e
  ·exact absurd e (z3c a1)
  ·exact absurd e.symm (z3c a4)
 ·intro b hb;rw[z1a.mp hb];exact J _ (z3a a1)
 ·intro i v hv;exact b4 i v (by simpa using hv)
 ·have a9:=qes a6 us.length 0 [] [] (z39 _) .nil;rw[List.drop_zero]at a9;refine⟨zr,.ref s.heap.objs.size,_,I.laid (a:=s.heap.objs.size) (o:= .dK (q7u ps [])) (t':=tk) keep (z3j _) ⟨?_,beq_eq_false_iff_ne.mpr (Ne.symm (z3c I.big)),_,a9,hm⟩,zr,q _ (I.hok.fresh (z3j _))⟩;have h1:=qh6 ps [];rw[z2l,z39]at h1;rw[<- Paired.length hy]at h1;exact z3d h1 hz
end
section
variable{X:Cx}{tg:Expr}
def qet:q2t X (.type "dict") (λxs H Q=>∃(a:Addr) (kvs:List (Key×V)),xs=[.ref a]/\Rd H a (.dK kvs)/\∀d,H d=none->Q (.ref d) (upd H d (.dK kvs))):=by
 intro xC s σ H xs us Q I r h;obtain⟨a,kvs,rfl,ha,q⟩:=h;obtain⟨u,rfl,ru⟩:=q3h r;cases ru
 obtain⟨hz,Y,vs,J,hd⟩:=ha.ok I.hok;have hl:kvs.length=vs.length:=Paired.length J;refine kt_call_dict Y hd (by lia) λh' O hs=>?_;exact⟨.ref s.heap.objs.size,_,I.laid (a:=s.heap.objs.size) (o:= .dK kvs) (t':=s.toks) (λb o e=>(hs.2 b (z3c (z3b e))).trans (z0l _ e)) (z3j _) ⟨hz,beq_eq_false_iff_ne.mpr (Ne.symm (z3c I.big)),vs,J,O⟩,zr,q _ (I.hok.fresh (z3j _))⟩
end
section
variable{X:Cx}{e:Expr}{lo hi:Option Expr}{se:Expr}{te:TE}{tl th ts:TO}{p2 pos:Pos}
end
section
variable{prog:Program}{w:World}{A:Around}{E:xB}{s:Shared}
end
section
variable{X:Cx}
end
def cA(mg:xE)(x:Str):Addr:=match mg x with
 | some (.ref a)=>a
 | _=>0
def q5j{mg:xE}{x:Str}{C:Addr}(h:mg x=some (.ref C)):cA mg x=C:=by
 unfold cA;rw[h]
structure MTop (K:xA) (C:Addr) (m qual:Str) (st:Stmt) (ps:xD):Prop where
 ex:∃f fd,Fun K m qual st f fd/\Meth K C m f/\∀us:List Value,us.length=ps.length->bindArgs fd ⟨us,[]⟩=pure (ps.zip us)
def qu5{K:xA}{C:Addr}{m qual:Str}{st:Stmt}{ps:xD}{f:Addr}{oc:Value}{od O:Option Addr}{Z:Array (Option Value)}{kV J Y cdv ct:Value}
  (b:∀(kV J Y:Value) (O:Option Addr) (cdv ct:Value) (us:xH),us.length=ps.length->bindArgs (PySem.W.fnOf m qual (q30 st) (q21 st) (qd st) .none kV J Y O cdv ct) ⟨us,[]⟩=pure (ps.zip us))
  (a:PySem.W.findIn K (.ref C) m=some (some (.ref f))) (i:PySem.W.isFn K (.ref f)=true)
  (l:K.lookup f=some ⟨oc,od,.func (PySem.W.fnOf m qual (q30 st) (q21 st) (qd st) .none kV J Y O cdv ct),Z⟩) (c:PySem.W.codeIn K cdv qual=true) (k:PySem.W.keepIn K (.ref f)=true):MTop K C m qual st ps:=
 ⟨f,_,qoy (st:=st) l c k,⟨a,i,k⟩,b kV J Y O cdv ct⟩
structure MDef (P:Program) (w:World) (K:xA) (mg:xE) (base:Heap) (k:Nat) (C:Addr) (m:Str) (ps:xD) (sp:Sp):Prop where
 ex:∃f fd,FnOk P w K mg base CX0 k f fd ps sp/\Meth K C m f/\Binds K fd ps []
theorem MTop.ok{P:Program}{w:World}{K:xA}{mg:xE}{base:Heap}{C:Addr}{m qual:Str}{st:Stmt}{N ps:xD}{k:Nat}{sp:Sp}(T:MTop K C m qual st ps)(S:FnScope N ps (qd st))(len:∀vs H Q E,sp vs H Q E->vs.length=ps.length)
  (J:∀(f:Addr) (cdv:Value) (A:Around) (outer:List Env) (s:Shared) (H:Hp) (vs:List V) (Q:VK) (E:XK),Room k (A.deeper (envOfC qual (qd st) s.heap.objs.size f cdv))->sp vs H Q E->
   ∃t,PSs (cxOf CX0 P w K mg base N qual (qd st) f cdv A outer s H E).nox (q21 st) t/\t {nx:=λ_ H'=>Q .non H',rt:=Q} (q5i N vs) H):MDef P w K mg base (k+1) C m ps sp:=by
 obtain⟨f,fd,F,hm,hb⟩:=T.ex;exact⟨f,fd,F.ok S len (J f),hm,Binds.all hb⟩
section
variable{X:Cx}{k k':Nat}{C:Addr}{ps ks:xD}{sp:Sp}{x m:Str}{p pos apos:Pos}{e o:Expr}{es:List Expr}{ta:TE}{t tk:TA}{kws:List Keyword}
def qz{pl:Sem Bool}(D:MDef X.prog X.w X.K X.mg X.base k C m ps sp)(c:Cls X.K C)(hr:Room k' X.A)(he:PE X o ta)(ha:PA X (e::es) t)(hkk:k<=k':=by decide)
  (O:starEach (e::es) X.env=(false,eval e X.env)::starEach es X.env:=by rfl) (J:(backTo pos (starEach es X.env)).any (·.1)=false:=by rfl)
  (ht:eval (.Call (.Attribute o m apos) (e::es) [] pos) X.env=(do
   let ov <- eval o X.env
   standAt apos.atName
   let (f,first) <- holding [ov] (getMethod ov m pl)
   callWith pos f first (backTo pos (starEach (e::es) X.env)) (backToKw pos (keywordEach [] X.env))):=by rfl):
  PE X (.Call (.Attribute o m apos) (e::es) [] pos) (qek C m sp [] E0 ta t):=by
 obtain⟨f,fd,F,hm,hb⟩:=D.ex;exact qti he c hm F (hr.mono hkk) hb .nil qif ha O J ht
def q8a{pl:Sem Bool}(D:MDef X.prog X.w X.K X.mg X.base k C m ps sp)(c:Cls X.K C)(hr:Room k' X.A)(he:PE X o ta)(hkk:k<=k':=by decide)
  (ht:eval (.Call (.Attribute o m apos) [] [] pos) X.env=(do
   let ov <- eval o X.env
   standAt apos.atName
   let (f,first) <- holding [ov] (getMethod ov m pl)
   callWith pos f first (backTo pos (starEach [] X.env)) (backToKw pos (keywordEach [] X.env))):=by rfl):
  PE X (.Call (.Attribute o m apos) [] [] pos) (qek C m sp [] E0 ta tNil):=by
 obtain⟨f,fd,F,hm,hb⟩:=D.ex;exact qr2 he c hm F (hr.mono hkk) hb .nil qif ht
def qwh(C:Addr):TE:=λ_ H Q=>∀x dx,H x=none->H dx=none->dx≠x->Q (.ref x) (upd (upd H dx (.own x)) x (.ins C dx []))
def qpb{xC:xG}{σ:St}{H:Hp}{s:Shared}{Q:VK}(hm:PySem.W.makesIn X.K C=true)(hi:PySem.W.findIn X.K (.ref C) "__init__"=some (some (.builtin "object.__init__")))(I:Inv X xC σ H s)
  (h:∀x dx,H x=none->H dx=none->dx≠x->Q (.ref x) (upd (upd H dx (.own x)) x (.ins C dx []))):wpAny (model X.prog X.w) X.A (call (.ref C) []) (EP X xC σ Q) X.xe s:=by
 have hq:=h (s.heap.objs.size+1) s.heap.objs.size (I.hok.fresh (Nat.le_succ _)) (I.hok.fresh (z3j _)) (z3c (z23 _));have I2:=Inv.made (C:=C) I;have Y:=PySem.W.makes_of (M:=model X.prog X.w) I.kIn hm;refine wpAny_call (qom I.kIn hm hi (λself=>PySem.W.Looks.of_pure (PySem.W.oi_bind self)) ?_);have g2:((s.heap.push PySem.W.emptyDict).push (PySem.W.instObj C s.heap.objs.size)).get? (s.heap.objs.size+1)=some (PySem.W.instObj C s.heap.objs.size):=by
  have:=z11 (s.heap.push PySem.W.emptyDict) (o:=PySem.W.instObj C s.heap.objs.size) rfl
  rwa [z2v]at this
 have t1:PySem.W.Looks (model X.prog X.w) ((s.heap.push PySem.W.emptyDict).push (PySem.W.instObj C s.heap.objs.size)) (typeOf (.ref (s.heap.objs.size+1))) (.ref C):=(PySem.W.Looks.ld g2).andThen .now;have t2:PySem.W.Looks (model X.prog X.w) ((s.heap.push PySem.W.emptyDict).push (PySem.W.instObj C s.heap.objs.size)) (isInstance (.ref (s.heap.objs.size+1)) (.type "object")) true:=t1.andThen (Y.top.keeps λb o e=>z0l _ (z0l _ e));refine codeAny_call_builtin PySem.W.oi_plain PySem.W.entry_oi (@PySem.W.check_slot (model X.prog X.w) _ _ _ "object.__init__" "object" "__init__" (.ref (s.heap.objs.size+1)) [] [] _ PySem.W.oi_kind PySem.W.oi_split t2 (PySem.W.oi_args _) ?_);rw[PySem.W.oi_run];exact z3o ⟨zr,V.ref (s.heap.objs.size+1),_,I2,zr,hq⟩
def qj0(hk:PySem.W.makesIn X.K C=true)(hi:PySem.W.findIn X.K (.ref C) "__init__"=some (some (.builtin "object.__init__")))(kp:PySem.W.keepIn X.K (.ref C)=true)(hg:Gl X x)(hm:X.mg x=some (.ref C))
  (J:(x==("__debug__":Str))=false:=by decide):PE X (.Call (.Name x p) [] [] pos) (qwh C):=by
 intro xC s σ H Q I h;refine z1f (q7z I hg hm ?_ J);exact PySem.W.callWith_K0 I.kIn kp (qpb hk hi I h)
variable{y:Str}{dv:V}
end
end L2
namespace L2
open PySem PySem.Spec PyProof.Rows PySem.W
section
variable{prog:Program}{w:World}{A:Around}{s:Shared}{a:Addr}
end
section
variable{X:Cx}
end
end L2
namespace L2
open PySem PySem.Spec PyProof.Rows
section
variable{X:Cx}{xC:xG}{σ:St}{H:Hp}{s:Shared}{a:Addr}{kvs:List (Key×V)}{k:Key}{z:V}{u r:Value}{A:Around}{E:xB}
def qwi{Q:xB}(I:Inv X xC σ H s)(e:H a=some (.dK kvs))(hl:kvs.length < sizeLine)(ry:RelV (kV k) u)(rz:RelV z r)
  (h1:∀v Z s',valV kvs k=some v->Inv X xC σ H s'->RelV v Z->Q Z s') (h2:valV kvs k=none->∀s',Inv X xC σ (upd H a (.dK (putK kvs k z))) s'->Q r s'):
  wpAny (model X.prog X.w) A (call (.builtin "dict.setdefault") [.ref a,u,r]) Q E s:=by
 obtain⟨zl,hd,vs,J,dd⟩:=qn2 I.hok e;have rv:=J.val k;refine call_meetsIn PySem.F.slot_dict_setdefault dd.typeIs PySem.F.entry_dict_setdefault (PySem.F.args_dict_setdefault_3 _ _ _) (kt_meets_setdefault (q16 X.prog X.w) a (q91 ry) hd r) ⟨vs,dd,by rw[<- J.length];exact zl,λZ hw=>?_,λhn h' O hs=>?_⟩
 ·cases Y:valV kvs k with
  | none=>
   rw[Y,hw]at rv;exact rv.elim
  | some v=>
   rw[Y,hw]at rv;exact h1 v Z _ Y (I.tok _) rv
 ·have hp:(putK kvs k z).length<=sizeLine:=by have:=q2j kvs k z;lia
  have he:∃q,h'.get? a=some q:=let ⟨q,_,_,hq,_⟩:=O;⟨q,hq⟩
  refine h2 ?_ _ (q6q I (by rw[e];exact True.intro) hs he (qiw hp hd (J.put k rz) O));cases Y:valV kvs k with
  | none=>rfl
  | some v=>
   rw[Y,hn]at rv;exact rv.elim
end
def qwj(td ty tx:TE):TE:=λσ H Q=>td σ H λx H1=>∃a,x= .ref a/\IsD H1 a/\ty σ H1 λy H2=>tx σ H2 λz H3=>∃kvs k,H3 a=some (.dK kvs)/\y=kV k/\kvs.length < sizeLine/\
 (∀v,valV kvs k=some v->Q v H3)/\(valV kvs k=none->Q z (upd H3 a (.dK (putK kvs k z))))
section
variable{X:Cx}{o e f:Expr}{apos cpos:Pos}{td ty tx:TE}
def qj1(ho:PE X o td)(he:PE X e ty)(hf:PE X f tx)(m:M2 X o "setdefault" apos e f cpos):PE X (.Call (.Attribute o "setdefault" apos) [e,f] [] cpos) (qwj td ty tx):=by
 intro xC s σ H Q I h;refine wpAny_Call_method m.base m.few m.line PySem.F.plainAttrs_dict PySem.F.slot_dict_setdefault PySem.F.type_dict_setdefault (thn (ho xC s σ H _ I h) λu s1 O=>?_);obtain⟨x,H1,I1,rx,a,ex,d,q1⟩:=O;subst ex;obtain rfl:u=Value.ref a:=rx;obtain⟨t1,t2,_⟩:=qem I1 d;refine⟨t1,t2,?_⟩;rw[m.trees];refine Calls.callWith_builtin rfl (Calls.evalArgs_plain (Calls.spliced_cons (thn (he xC s1 σ H1 _ I1 q1) λiv s2 ⟨y,H2,I2,ry,q2⟩=>
  Calls.spliced_cons (thn (hf xC s2 σ H2 _ I2 q2) λfv s3 ⟨z,H3,I3,rz,kvs,k,eH,ey,hl,q3,q4⟩=>Calls.spliced_nil ?_))))
 subst ey;exact qwi I3 eH hl ry rz (λv w' s4 ev I4 J=>⟨_,H3,I4,J,q3 v ev⟩) λen s4 I4=>⟨z,_,I4,rz,q4 en⟩
end
end L2
namespace L2
open PySem PySem.Spec PyProof.Rows PySem.W
def q1q(w:World):Bool:=w.params.followText "set-order"
def TxS(P:Program)(w:World)(h:Heap)(a:Addr)(xs:xD):Prop:=
 ∃o es ep t,h.get? a=some o/\o.ExactSet/\o.data= .set es ep t/\ElemsOf (strKind P w) es.toList/\es.toList.map (λe=>sOf e.2)=xs/\xs.Nodup/\es.size < scanBound/\t.fits es.size=true/\t.led= !q1q w/\(0 < es.size->t.plain=false)
def qu6(t:SetTable)(j:Nat):(t.put j).1.led=t.led/\(t.put j).1.plain=t.plain:=⟨rfl,rfl⟩
def qks(t:SetTable)(n:Nat):(t.orStandIn n).led=t.led:=by
 unfold SetTable.orStandIn SetTable.standIn;split <;> rfl
def qnb(t:SetTable)(es:Array (Int×Value))(h:Int)(x:Value):(layNew t es h x).2.1.led=t.led:=by
 unfold layNew;split
 ·dsimp only
  rw[qks];exact(qu6 _ _).1
 ·rfl
def qkt(t:SetTable)(es:Array (Int×Value))(n:Nat):(relayAll t es n).2.1.led=t.led/\(t.plain=false->(relayAll t es n).2.1.plain=false):=by
 unfold relayAll;split
 ·rename_i t' order e;have e2:t'.led=t.led/\t'.plain=t.plain:=by
   unfold SetTable.relaid SetTable.laid at e;cases q:SetTable.layClean (SetTable.sizeAbove n - 1) (es.map (·.1)) with
   | none=>
    rw[q]at e;cases e
   | some ow=>
    rw[q]at e;cases e
    exact⟨zr,zr⟩
  dsimp only
  split
  ·exact⟨e2.1,λz=>e2.2.trans z⟩
  ·exact⟨zr,λ_=>rfl⟩
 ·exact⟨zr,λ_=>rfl⟩
section
variable{P:Program}{w:World}{A:Around}{E:xB}{s:Shared}{a:Addr}{xs:xD}
def qbn{x:Str}{v:Value}(h:(strKind P w).is x v=true):sOf v=x/\∃t,v= .str x t:=by
 obtain⟨t,rfl⟩:=Value.isStrOf_shape (x:=x) (v:=v) h;exact⟨zr,t,zr⟩
def qj2{es:List (Int×Value)}(h:ElemsOf (strKind P w) es)(x:Str):x∈es.map (λe=>sOf e.2)↔∃e∈es,(strKind P w).is x e.2=true:=by
 constructor
 ·intro hx;obtain⟨e,J,rfl⟩:=z3h.mp hx;obtain⟨⟨k,hk,_⟩,_⟩:=h e J;exact⟨e,J,by rw[(qbn hk).1];exact hk⟩
 ·rintro ⟨e,J,hk⟩;exact z3h.mpr ⟨e,J,(qbn hk).1⟩
def qh7{h:Heap}{o:Obj}{es:Array (Int×Value)}{ep:Nat}{t:SetTable}(ho:h.get? a=some o)(Y:o.ExactSet)(hd:o.data= .set es ep t)
  {J:Array (Int×Value)} {t':SetTable} (O:ElemsOf (strKind P w) J.toList) (Z:(J.toList.map λe=>sOf e.2).Nodup) (hb:J.size < scanBound) (hf:t'.fits J.size=true) (hl:t'.led= !q1q w) (hp:t'.plain=false):
  (h.update a (Obj.putSet J t')).get? a=some {o with data:= .set J (ep+1) t'}/\TxS P w (h.update a (Obj.putSet J t')) a (J.toList.map λe=>sOf e.2):=by
 have hg:(h.update a (Obj.putSet J t')).get? a=some {o with data:= .set J (ep+1) t'}:=by
  have:=z0r (Obj.putSet J t') ho (by rw[putSet_of J t' hd];rfl);rw[putSet_of J t' hd]at this;exact this
 exact⟨hg,_,J,ep+1,t',hg,Y,zr,O,zr,Z,hb,hf,hl,λ_=>hp⟩
def qrl{x:Str}{t0:Tok}{Q:Bool->Shared->Prop}(hS:TxS P w s.heap a xs)(b5:xs.length+1 < scanBound)
  (h:∀b h' ys,Heap.SameBut a s.heap h'->TxS P w h' a ys->(if x∈xs then ys=xs else ys.Perm (xs++ [x]))->Q b {s with heap:=h'}):
  wpAny (model P w) A (setAddHashed a (.str x t0) ((strKind P w).hash x)) Q E s:=by
 obtain⟨o,es,ep,t,ho,b9,hd,a2,a4,d2,hb,hf,a8,hpl⟩:=id hS;have hkey:(strKind P w).is x (.str x t0)=true:=strKind_is P w x t0;have b6:(Value.str x t0).scannable=true:=rfl;have hn:es.size=xs.length:=by rw[<- a4,z2h,z0y]
 have d0:es.size+1 < scanBound:=by rw[hn];exact b5
 unfold setAddHashed setAddHashedIn;refine z33 (z3p (z1v ho hd hf ?_))
 dsimp only
 rw[byScan_of b6 hb a2];simp only[↓reduceIte];unfold setAddByScan;refine z3p ?_;refine z3p (z3n ?_);refine z3p (wpAny_setScan_of hkey ho hd hf a2 ?_);cases hr:List.findIdx? (λe=>(strKind P w).is x e.2) es.toList with
 | some j=>
  dsimp only
  obtain⟨hj,d3,_⟩:=List.findIdx?_eq_some_iff_getElem.mp hr;have hm:x∈xs:=by rw[<- a4];exact(qj2 a2 x).mpr ⟨_,z22 hj,d3⟩
  refine z3o (z3o ?_);have e:s={s with heap:=s.heap}:=by cases s;rfl
  have:=h false s.heap xs (Heap.SameBut.refl a s.heap) hS (by rw[if_pos hm]);rw[e];exact this
 | none=>
  dsimp only
  have hm:¬ x∈xs:=λhx=>by
   rw[<- a4]at hx;obtain⟨e,he,hp⟩:=(qj2 a2 x).mp hx;have:=List.findIdx?_eq_none_iff.mp hr e he;rw[hp]at this;cases this
  have c1:∀(b:Bool) {s₁:Shared} {Q':Unit->Shared->Prop},Q' () s₁->wpAny (model P w) A (match b with | true=>rule "set.scan.the-table-gave-way" | false=>pure ()) Q' E s₁:=
   λb s₁ Q' hq=>by cases b <;> first | exact z3o hq | exact z3n hq
  have O:=layNew_perm t es ((strKind P w).hash x) (.str x t0);have Y:=layNew_fits t es ((strKind P w).hash x) (.str x t0);have a6:=qnb t es ((strKind P w).hash x) (.str x t0);generalize hL:layNew t es ((strKind P w).hash x) (.str x t0)=L at O Y a6 ⊢;obtain⟨J,t1,Z,d4⟩:=L
  dsimp only at O Y a6 ⊢
  rw[z1k]at O;have a7:ElemsOf (strKind P w) J.toList:=(a2.push hkey b6).perm O;have b4:(J.toList.map λe=>sOf e.2).Perm (xs++ [x]):=by
   have:=O.map λe:Int×Value=>sOf e.2;rw[z2n,a4]at this;exact this
  have a9:(xs++ [x]).Nodup:=z1w.mpr ⟨d2,by simp,λu hu v hv e=>hm (by rw[z1a.mp hv]at e;exact e ▸ hu)⟩;have a1:J.size < scanBound:=by rw[<- z0y,O.length_eq,z1b,z0y];simpa using d0
  refine z3p (c1 _ ?_);have tail:∀t2:SetTable,t2.fits J.size=true->t2.led=t1.led->t2.plain=false->wpAny (model P w) A (do
    storeSet a J t2
    if (!Z&&t2.tooFull)=true then do
      (match (relayAll t2 J (SetTable.grown J.size)).2.2 with | true=>rule "set.scan.the-table-gave-way" | false=>pure ())
      storeSet a (relayAll t2 J (SetTable.grown J.size)).1 (relayAll t2 J (SetTable.grown J.size)).2.1
      pure (some true)
     else pure (some true)) (λr s'=>∃h' ys,r=some true/\s'={s with heap:=h'}/\Heap.SameBut a s.heap h'/\TxS P w h' a ys/\ys.Perm (xs++ [x])) E s:=λt2 d1 c4 c5=>by
   refine z3p (wpAny_storeSet_of ho hd ?_ (fits_of_scanBound a1));obtain⟨c0,c8⟩:=qh7 (P:=P) (w:=w) ho b9 hd a7 (b4.nodup_iff.mpr a9) a1 d1 (by rw[c4,a6,a8]) c5;have b1:=z10 s.heap a (Obj.putSet J t2);split
   ·have hp:=relayAll_perm t2 J (SetTable.grown J.size);have b3:=relayAll_fits t2 J (SetTable.grown J.size);have a5:=qkt t2 J (SetTable.grown J.size);generalize hRl:relayAll t2 J (SetTable.grown J.size)=Rl at hp b3 a5 ⊢;obtain⟨a3,t3,c7⟩:=Rl
    dsimp only at hp b3 a5 ⊢
    have b8:ElemsOf (strKind P w) a3.toList:=a7.perm hp;have hsz:a3.size=J.size:=by rw[<- z0y,hp.length_eq,z0y]
    have b7:a3.size < scanBound:=by rw[hsz];exact a1
    have c6:(a3.toList.map λe=>sOf e.2).Perm (xs++ [x]):=(hp.map _).trans b4;refine z3p (c1 _ ?_);refine z3p (wpAny_storeSet_of c0 rfl ?_ (fits_of_scanBound b7));obtain⟨_,c9⟩:=qh7 (P:=P) (w:=w) c0 b9 rfl b8 (c6.nodup_iff.mpr a9) b7 b3 (by rw[a5.1,c4,a6,a8]) (a5.2 c5);exact z3o ⟨_,_,zr,zr,b1.trans (z10 _ a _),c9,c6⟩
   ·exact z3o ⟨_,_,zr,zr,b1,c8,b4⟩
  split
  ·rename_i b0;refine z3p ?_;rw[hashByValue_scannable 8 b6];refine z3o ?_;refine z3q (tail _ (SetTable.fits_plain_off Y) rfl rfl) (λr s' z=>?_) λe s' z=>z;obtain⟨h',ys,rfl,rfl,h1,h2,h3⟩:=z;exact z3o (h true h' ys h1 h2 (by rw[if_neg hm];exact h3))
  ·rename_i b0;refine z3p (z3o ?_);simp only[↓reduceIte];refine z3q (tail t1 Y rfl (by simpa using b0)) (λr s' z=>?_) λe s' z=>z;obtain⟨h',ys,rfl,rfl,h1,h2,h3⟩:=z;exact z3o (h true h' ys h1 h2 (by rw[if_neg hm];exact h3))
end
def TxS.keep{P:Program}{w:World}{h h':Heap}{a:Addr}{xs:xD}(x:TxS P w h a xs)(k:∀o,h.get? a=some o->h'.get? a=some o):TxS P w h' a xs:=by
 obtain⟨o,es,ep,t,ho,r⟩:=x;exact⟨o,es,ep,t,k o ho,r⟩
section
variable{prog:Program}{w:World}{A:Around}{R:Result->Shared->Prop}{I:Addr}{fp wr:List Addr}{G:Array GenState->Array GenState->Prop}{n:Nat}{P:Nat->Value->Prop}{St:Nat->Shared->Prop}
def InS(val:Nat->Str)(i:Nat)(ys:xD):Prop:=(∀x,x∈ys↔∃j,j < i/\val j=x)/\ys.length<=i
def InS.next{val:Nat->Str}{i:Nat}{ys zs:xD}(h:InS val i ys)(e:if val i∈ys then zs=ys else zs.Perm (ys++ [val i])):InS val (i+1) zs:=by
 have step:∀x,(∃j,j < i+1/\val j=x)↔(∃j,j < i/\val j=x)\/ x=val i:=λx=>by
  constructor
  ·rintro ⟨j,hj,rfl⟩;rcases Nat.lt_or_ge j i with h1 | h1
   ·exact .inl ⟨j,h1,zr⟩
   ·exact .inr (by rw[show j=i by lia])
  ·rintro (⟨j,hj,rfl⟩ | rfl)
   ·exact⟨j,by lia,zr⟩
   ·exact⟨i,z23 _,zr⟩
 by_cases c:val i∈ys
 ·rw[if_pos c]at e;subst e;refine⟨λx=>?_,Nat.le_succ_of_le h.2⟩;rw[step,<- h.1 x];exact⟨.inl,λz=>z.elim id λq=>q ▸ c⟩
 ·rw[if_neg c]at e;refine⟨λx=>?_,?_⟩
  ·rw[step,e.mem_iff,z2c,z1a,h.1 x]
  ·rw[e.length_eq,z1b];exact z28 h.2
def qj3(W:WalksS prog w A.in1 I fp wr G n P St)(S:Addr)(a1:S∉fp)(val:Nat->Str)(a7:∀i v,P i v->∃t,v= .str (val i) t)(hb:n+1 < scanBound):
  ∀(k i:Nat) (s:Shared) (ys:xD),n - i=k->i<=n->St i s->TxS prog w s.heap S ys->InS val i ys->
   (∀s' zs,Moved (S::wr) G s s'->TxS prog w s'.heap S zs->InS val n zs->R (.ok (.ret .none)) s')->
   codeAny (model prog w) A (.builtin "set.update.loop" ⟨[.ref S,.ref I],[]⟩) R s:=by
 have a2:S∉wr:=λh=>a1 (W.sub _ h);have O:∀b∈wr,b∈S::wr:=λb hb=>z0v _ hb;intro k
 induction k with
 | zero=>
  intro i s ys hk hi Y hS J hR;have e:i=n:=by lia
  subst e;refine z2q F.entry_set_update_loop ?_;rw[Around.under_plainId F.plain_set_update_loop _];show wpAny _ A.in1 (pyNext (.ref I) >>=_) _ _ s;refine z3p (W.done s _ _ Y λs' hm=>?_);show wpAny _ A.in1 (ret Value.none) _ _ s';exact z3o (hR s' ys (hm.mono O) (hS.keep λo e=>hm.heap S o a2 e) J)
 | succ k ih=>
  intro i s ys hk hi Y hS J hR;have a3:i < n:=by lia
  refine z2q F.entry_set_update_loop ?_;rw[Around.under_plainId F.plain_set_update_loop _];show wpAny _ A.in1 (pyNext (.ref I) >>=_) _ _ s;refine z3p (W.item i s _ _ a3 Y λv s' hP a6 hm=>?_);obtain⟨t,rfl⟩:=a7 i v hP;have a8:TxS prog w s'.heap S ys:=hS.keep λo e=>hm.heap S o a2 e;show wpAny _ A.in1 (holding [Value.str (val i) t] (setAdd S (.str (val i) t)) >>=_) _ _ s';refine z3p (z33 ?_);unfold setAdd;refine z33 ?_;refine z3p ((strKind prog w).pyHash (k:=val i) (strKind_is _ _ _ _) ?_);refine qrl (s:={s' with toks:=s'.toks+1}) a8 (by have:=J.2;lia) λb h' zs a5 a9 hz=>?_;refine z3o ⟨plainId_quiet F.plain_set_update_loop _,ih (i+1) _ zs (by lia) a3 (W.frame _ s' _ _ a6 (Nat.le_succ _) λb hb o e=>?_) a9 (J.next hz) λb0 us a4 Z hu=>?_⟩
  ·rw[a5.2 b (λh:b=S=>a1 (by rw[<- h];exact hb))];exact e
  ·refine hR b0 us (Moved.trans W.gtrans ((hm.mono O).then_heap (Nat.le_succ _) λb o hb e=>?_) a4) Z hu;rw[a5.2 b (λh:b=S=>hb (by rw[h];exact z1c))];exact e
end
def qb1{prog:Program}{w:World}{A:Around}{E:xB}{s:Shared}(a:Value){Q₁:xB}
  (h:Q₁ (.ref s.heap.objs.size) {s with heap:=s.heap.push {cls:= .type "set",dict:=none,data:= .set #[] 0 (.fresh 0 0 (!q1q w))}}):
  codeAny (model prog w) A (.call (.builtin "set.__new__") ⟨[.type "set",a],[]⟩) (wants Q₁ E) s:=by
 refine codeAny_of_tree ?_;show wpAny _ A.in1 (do checkBuiltinCall "set.__new__" ⟨[.type "set",a],[]⟩;again (.builtin "set.__new__" ⟨[.type "set",a],[]⟩)) _ _ s;refine z3p (wpAny_of_eq (PySem.F.newCall_set_1 a) (z3o ⟨plainId_quiet F.plain_set_new _,z2q F.entry_set_new ?_⟩));rw[Around.under_plainId F.plain_set_new _];unfold Builtin.«set.__new__» Builtin.Frozenset.newClass;have J:=sub_set_self;obtain⟨hp,g,d,tk,os⟩:=s
 dsimp only
 wp_walk
 refine z2a (z3o ?_)
 dsimp only
 simp only[newObj];refine z3p (wpAny_alloc (z3o ?_));exact z3o h
def qh8{P:Program}{w:World}{h:Heap}{a:Addr}(e:h.get? a=some {cls:= .type "set",dict:=none,data:= .set #[] 0 (.fresh 0 0 (!q1q w))}):TxS P w h a []:=
 ⟨_,#[],0,_,e,⟨rfl,rfl,rfl⟩,rfl,λe he=>by simp at he,rfl,z2w,by decide,by rfl,rfl,λz=>absurd z (by decide)⟩
def qpc{vs:xH}{J:xD}(h:StrsAre vs J)(i:Nat)(v:Value)(e:vs[i]? =some v):∃t,v= .str (J.getD i "") t:=by
 induction h generalizing i with
 | nil=>simp at e
 | cons x t hr ih=>
  cases i with
  | zero=>
   simp at e
   exact⟨t,e.symm⟩
  | succ i=>exact ih i (by simpa using e)
def sub_list_set':isSubtype (.type "list") (.type "set")=pure false:=by rw[isSubtype_type];kernel_rfl
def sub_list_frozenset':isSubtype (.type "list") (.type "frozenset")=pure false:=by rw[isSubtype_type];kernel_rfl
section
variable{prog:Program}{w:World}{A:Around}{E:xB}{s:Shared}
set_option maxHeartbeats 3200000 in
def qpd{l:Addr}{J:Array Value}{ws:xD}{Q:xB}(hh:A.handled=none)(hl:s.heap.IsList l J)(hi:StrsAre J.toList ws)(hb:J.size+1 < scanBound)
  (h:∀(h':Heap) (tk:Nat) (ys:xD),TxS prog w h' s.heap.objs.size ys->InS (λi=>ws.getD i "") J.size ys->(∀b o,b < s.heap.objs.size->s.heap.get? b=some o->h'.get? b=some o)->Q (.ref s.heap.objs.size) {s with heap:=h',toks:=tk}):
  wpAny (model prog w) A (call (.type "set") [.ref l]) Q E s:=by
 obtain⟨c,tl,c4⟩:=PySem.F.called_set.mro;have b8:=PySem.F.called_set.made;have c7:=PySem.F.called_set.sub;refine wpAny_call (codeAny_of_tree ?_);show wpAny _ _ (callAny (.type "set") _) _ _ _;refine z3o ⟨Code.quiet_builtin _ (by decide+kernel),z2q PySem.F.entry_type_call ?_⟩;rw[Around.under_plain (weight_type_call_type "set" [.ref l] []) rfl];have h1:=PySem.F.called_set.notType;have h2:=PySem.F.called_set.canCreate;have hct:=PySem.F.typeCall_set_1 (.ref l)
 repeat (any_goals (first | assumption | wp_step))
 refine z3f (qb1 (.ref l) (E:=E) (Q₁:=λobj s₁=>obj= .ref s.heap.objs.size/\s₁={s with heap:=s.heap.push {cls:= .type "set",dict:=none,data:= .set #[] 0 (.fresh 0 0 (!q1q w))}}) ⟨rfl,rfl⟩) λr s₁ hr=>?_;cases r with
 | error e=>exact hr
 | ok fl=>
  cases fl with
  | ret obj=>
   obtain⟨rfl,rfl⟩:=hr;have hS:(s.heap.push {cls:= .type "set",dict:=none,data:= .set #[] 0 (.fresh 0 0 (!q1q w))}).get? s.heap.objs.size=some {cls:= .type "set",dict:=none,data:= .set #[] 0 (.fresh 0 0 (!q1q w))}:=z11 _ rfl;have hT:Shared.TypeIs {s with heap:=s.heap.push {cls:= .type "set",dict:=none,data:= .set #[] 0 (.fresh 0 0 (!q1q w))}} (.ref s.heap.objs.size) "set":=⟨_,hS,rfl⟩;have hli:=PySem.F.called_set.init.lookup;have hbi:=PySem.F.called_set.init.bind (.ref s.heap.objs.size)
   repeat (any_goals (first | assumption | wp_step))
   refine z3f (codeAny_call_builtin (R:=wants (λr s₂=>r= .none/\∃h' tk ys,s₂={s with heap:=h',toks:=tk}/\TxS prog w h' s.heap.objs.size ys/\InS (λi=>ws.getD i "") J.size ys/\
     (∀b o,b < s.heap.objs.size->s.heap.get? b=some o->h'.get? b=some o)) E) PySem.F.called_set.init.plain PySem.F.entry_set_init (check_set_init_1 hT ?_)) λr₂ s₂ Z=>?_
   ·obtain⟨ol,a7,a2,nl,a3⟩:=hl;obtain⟨c8,a1,b9,O⟩:=ol;simp only at a2 a3;subst a2;subst a3;have a8:(s.heap.push {cls:= .type "set",dict:=none,data:= .set #[] 0 (.fresh 0 0 (!q1q w))}).get? l=some {cls:= .type "list",dict:=a1,data:= .seq J nl,slots:=O}:=z0l _ a7;have c6:=sub_list_set';have c5:=sub_list_frozenset';have hne:(Value.type "list"==Value.type "dict")=false:=by decide
    have a4:(s.heap.push {cls:= .type "set",dict:=none,data:= .set #[] 0 (.fresh 0 0 (!q1q w))}).IsList l J:=⟨_,a8,rfl,nl,rfl⟩;unfold Builtin.«set.__init__» noKeywords Builtin.Frozenset.updateFrom;generalize b1:pyIter=PI
    wp_walk
    subst b1;refine z1p a4 ?_;refine z3p (wpAny_runValue ?_);have a5:l < s.heap.objs.size:=z3b a7;have b6:A.in1.in1.in1.handled=none:=by simp[hh]
    have a6:l≠(s.heap.push {cls:= .type "set",dict:=none,data:= .set #[] 0 (.fresh 0 0 (!q1q w))}).objs.size:=by
     rw[z2v];exact z3c (z1x a5)
    have b3:s.heap.objs.size∉ [(s.heap.push {cls:= .type "set",dict:=none,data:= .set #[] 0 (.fresh 0 0 (!q1q w))}).objs.size,l]:=by
     rw[z2v];simp only[z32,z1a,z29,or_false,not_or];exact⟨z3c (z23 _),z3e a5⟩
    have a9:∀(i:Nat) (v:Value),J[i]? =some v->∃t,v= .str ((λi=>ws.getD i "") i) t:=λi v hv=>qpc hi i v (by rw[z0q];exact hv);refine qj3 ((Walks.list b6 _ l a6 J).toS) s.heap.objs.size b3 (λi=>ws.getD i "") a9 hb (J.size - 0) 0 _ [] (by lia) (z3m _)
     ⟨⟨_,z11 _ rfl,rfl,rfl⟩,(a4.push _)⟩ (qh8 (z0l _ hS)) ⟨λx=>⟨(λz=>nomatch z),λ⟨j,z,_⟩=>absurd z (Nat.not_lt_zero _)⟩,z3j _⟩ ?hR
    case hR=>
     intro s' zs hm Y hz;obtain⟨h',g',d',c1,c0⟩:=s';have eg:g'=s.gens:=hm.gens;have ed:d'=s.drawn:=hm.drawn;have eo:c0=s.os:=hm.os;subst eg;subst ed;subst eo;show wpAny _ _ _ _ _ _;refine z3o ?_;show wpAny _ _ (ret Value.none) _ _ _;refine z3o ⟨zr,h',c1,zs,zr,Y,hz,λb o hb e=>?_⟩;have b4:b≠s.heap.objs.size:=z3c hb;have b5:b≠(s.heap.push {cls:= .type "set",dict:=none,data:= .set #[] 0 (.fresh 0 0 (!q1q w))}).objs.size:=by
      rw[z2v];exact z3c (z1x hb)
     exact hm.heap b o (by simp only[z32,z1a,z29,or_false,not_or];exact⟨b4,b5⟩) (z0l _ (z0l _ e))
   ·cases r₂ with
    | error e=>exact Z
    | ok b0=>
     cases b0 with
     | ret r=>
      obtain⟨rfl,h',tk,ys,rfl,Y,hz,b7⟩:=Z
      repeat (any_goals (first | assumption | wp_step))
      exact h _ _ _ Y hz b7
     | _=>exact Z.elim
  | _=>exact hr.elim
end
def sub_tuple_set':isSubtype (.type "tuple") (.type "set")=pure false:=by rw[isSubtype_type];kernel_rfl
def sub_tuple_frozenset':isSubtype (.type "tuple") (.type "frozenset")=pure false:=by rw[isSubtype_type];kernel_rfl
section
variable{prog:Program}{w:World}{A:Around}{E:xB}{s:Shared}
set_option maxHeartbeats 3200000 in
def qnc{l:Addr}{J:Array Value}{ws:xD}{Q:xB}(hh:A.handled=none)(hl:s.heap.IsTuple l J)(hi:StrsAre J.toList ws)(hb:J.size+1 < scanBound)
  (h:∀(h':Heap) (tk:Nat) (ys:xD),TxS prog w h' s.heap.objs.size ys->InS (λi=>ws.getD i "") J.size ys->(∀b o,b < s.heap.objs.size->s.heap.get? b=some o->h'.get? b=some o)->Q (.ref s.heap.objs.size) {s with heap:=h',toks:=tk}):
  wpAny (model prog w) A (call (.type "set") [.ref l]) Q E s:=by
 obtain⟨c,tl,c4⟩:=PySem.F.called_set.mro;have b8:=PySem.F.called_set.made;have c7:=PySem.F.called_set.sub;refine wpAny_call (codeAny_of_tree ?_);show wpAny _ _ (callAny (.type "set") _) _ _ _;refine z3o ⟨Code.quiet_builtin _ (by decide+kernel),z2q PySem.F.entry_type_call ?_⟩;rw[Around.under_plain (weight_type_call_type "set" [.ref l] []) rfl];have h1:=PySem.F.called_set.notType;have h2:=PySem.F.called_set.canCreate;have hct:=PySem.F.typeCall_set_1 (.ref l)
 repeat (any_goals (first | assumption | wp_step))
 refine z3f (qb1 (.ref l) (E:=E) (Q₁:=λobj s₁=>obj= .ref s.heap.objs.size/\s₁={s with heap:=s.heap.push {cls:= .type "set",dict:=none,data:= .set #[] 0 (.fresh 0 0 (!q1q w))}}) ⟨rfl,rfl⟩) λr s₁ hr=>?_;cases r with
 | error e=>exact hr
 | ok fl=>
  cases fl with
  | ret obj=>
   obtain⟨rfl,rfl⟩:=hr;have hS:(s.heap.push {cls:= .type "set",dict:=none,data:= .set #[] 0 (.fresh 0 0 (!q1q w))}).get? s.heap.objs.size=some {cls:= .type "set",dict:=none,data:= .set #[] 0 (.fresh 0 0 (!q1q w))}:=z11 _ rfl;have hT:Shared.TypeIs {s with heap:=s.heap.push {cls:= .type "set",dict:=none,data:= .set #[] 0 (.fresh 0 0 (!q1q w))}} (.ref s.heap.objs.size) "set":=⟨_,hS,rfl⟩;have hli:=PySem.F.called_set.init.lookup;have hbi:=PySem.F.called_set.init.bind (.ref s.heap.objs.size)
   repeat (any_goals (first | assumption | wp_step))
   refine z3f (codeAny_call_builtin (R:=wants (λr s₂=>r= .none/\∃h' tk ys,s₂={s with heap:=h',toks:=tk}/\TxS prog w h' s.heap.objs.size ys/\InS (λi=>ws.getD i "") J.size ys/\
     (∀b o,b < s.heap.objs.size->s.heap.get? b=some o->h'.get? b=some o)) E) PySem.F.called_set.init.plain PySem.F.entry_set_init (check_set_init_1 hT ?_)) λr₂ s₂ Z=>?_
   ·obtain⟨ol,a7,a2,nl,a3⟩:=hl;obtain⟨c8,a1,b9,O⟩:=ol;simp only at a2 a3;subst a2;subst a3;have a8:(s.heap.push {cls:= .type "set",dict:=none,data:= .set #[] 0 (.fresh 0 0 (!q1q w))}).get? l=some {cls:= .type "tuple",dict:=a1,data:= .seq J nl,slots:=O}:=z0l _ a7;have c6:=sub_tuple_set';have c5:=sub_tuple_frozenset';have hne:(Value.type "tuple"==Value.type "dict")=false:=by decide
    have a4:(s.heap.push {cls:= .type "set",dict:=none,data:= .set #[] 0 (.fresh 0 0 (!q1q w))}).IsTuple l J:=⟨_,a8,rfl,nl,rfl⟩;unfold Builtin.«set.__init__» noKeywords Builtin.Frozenset.updateFrom;generalize b1:pyIter=PI
    wp_walk
    subst b1;refine wpAny_pyIter_tuple a4 ?_;refine z3p (wpAny_runValue ?_);have a5:l < s.heap.objs.size:=z3b a7;have b6:A.in1.in1.in1.handled=none:=by simp[hh]
    have a6:l≠(s.heap.push {cls:= .type "set",dict:=none,data:= .set #[] 0 (.fresh 0 0 (!q1q w))}).objs.size:=by
     rw[z2v];exact z3c (z1x a5)
    have b3:s.heap.objs.size∉ [(s.heap.push {cls:= .type "set",dict:=none,data:= .set #[] 0 (.fresh 0 0 (!q1q w))}).objs.size,l]:=by
     rw[z2v];simp only[z32,z1a,z29,or_false,not_or];exact⟨z3c (z23 _),z3e a5⟩
    have a9:∀(i:Nat) (v:Value),J[i]? =some v->∃t,v= .str ((λi=>ws.getD i "") i) t:=λi v hv=>qpc hi i v (by rw[z0q];exact hv);refine qj3 ((Walks.tuple b6 _ l a6 J).toS) s.heap.objs.size b3 (λi=>ws.getD i "") a9 hb (J.size - 0) 0 _ [] (by lia) (z3m _)
     ⟨⟨_,z11 _ rfl,rfl,rfl⟩,(a4.push _)⟩ (qh8 (z0l _ hS)) ⟨λx=>⟨(λz=>nomatch z),λ⟨j,z,_⟩=>absurd z (Nat.not_lt_zero _)⟩,z3j _⟩ ?hR
    case hR=>
     intro s' zs hm Y hz;obtain⟨h',g',d',c1,c0⟩:=s';have eg:g'=s.gens:=hm.gens;have ed:d'=s.drawn:=hm.drawn;have eo:c0=s.os:=hm.os;subst eg;subst ed;subst eo;show wpAny _ _ _ _ _ _;refine z3o ?_;show wpAny _ _ (ret Value.none) _ _ _;refine z3o ⟨zr,h',c1,zs,zr,Y,hz,λb o hb e=>?_⟩;have b4:b≠s.heap.objs.size:=z3c hb;have b5:b≠(s.heap.push {cls:= .type "set",dict:=none,data:= .set #[] 0 (.fresh 0 0 (!q1q w))}).objs.size:=by
      rw[z2v];exact z3c (z1x hb)
     exact hm.heap b o (by simp only[z32,z1a,z29,or_false,not_or];exact⟨b4,b5⟩) (z0l _ (z0l _ e))
   ·cases r₂ with
    | error e=>exact Z
    | ok b0=>
     cases b0 with
     | ret r=>
      obtain⟨rfl,h',tk,ys,rfl,Y,hz,b7⟩:=Z
      repeat (any_goals (first | assumption | wp_step))
      exact h _ _ _ Y hz b7
     | _=>exact Z.elim
  | _=>exact hr.elim
end
theorem qal{α:Type}:∀(l:List α) (i:Nat) (h:i < l.length),(l[i]::l.eraseIdx i).Perm l
 | x::r,0,_=> .refl _
 | x::r,i+1,h=>(List.Perm.swap x _ _).trans (List.Perm.cons x (qal r i (Nat.lt_of_succ_lt_succ h)))
section
variable{M:Model}{A:Around}{E:xB}
def qnd{s:Shared}{J:Source}{n:Nat}{Q:Nat->Shared->Prop}(hn:n≠0)(h:∀i d,i < n->Q i {s with drawn:=d}):wpAny M A (choose J n) Q E s:=
 λ_ _ _=>⟨hn,h _ _ (Nat.mod_lt _ (Nat.pos_of_ne_zero hn))⟩
theorem qj4{α:Type}:∀(n:Nat) (xs:List α) (s:Shared) (Q:List α->Shared->Prop),n=xs.length->(∀ys d,ys.Perm xs->Q ys {s with drawn:=d})->wpAny M A (drawOrder n xs) Q E s
 | 0,xs,s,Q,e,h=>by
  have:xs=[]:=z0h.mp e.symm;subst this;exact z3o (h [] s.drawn (.refl _))
 | n+1,[],s,Q,e,h=>by cases e
 | n+1,x::r,s,Q,e,h=>by
  unfold drawOrder;refine z3p (qnd (by simp) λi d hi=>?_);have hx:(x::r)[i]? =some (x::r)[i]:=z0b hi;rw[hx]
  dsimp only
  refine z3p (qj4 n _ _ _ (by rw[List.length_eraseIdx,if_pos hi];exact(Nat.succ.inj e)) λys d2 hp=>z3o ?_);exact h _ d2 ((List.Perm.cons _ hp).trans (qal _ _ hi))
end
theorem qma{α:Type}(next:Nat->Nat):∀(n k:Nat) (left:List α) (out:Array α),n=left.length->(pickOrder.go next n k left out).toList.Perm (out.toList++left)
 | 0,k,left,out,e=>by
  have:left=[]:=z0h.mp e.symm;subst this;unfold pickOrder.go;rw[z2i]
 | n+1,k,left,out,e=>by
  unfold pickOrder.go;have hi:next k%left.length < left.length:=Nat.mod_lt _ (by lia);rw[z0b hi]
  dsimp only
  refine(qma next n (k+1) _ _ (by rw[List.length_eraseIdx,if_pos hi];lia)).trans ?_;rw[z1k,z1j];exact List.Perm.append_left _ (qal _ _ hi)
def q96{α:Type}(next:Nat->Nat)(xs:Array α):(pickOrder next xs).toList.Perm xs.toList:=by
 unfold pickOrder;have:=qma next xs.size 0 xs.toList #[] (by simp)
 simpa using this
section
variable{prog:Program}{w:World}{A:Around}{E:xB}{s:Shared}{a:Addr}
def qku{o:Obj}{es:Array (Int×Value)}{ep:Nat}{t:SetTable}{Q:Bool->Shared->Prop}(ho:s.heap.get? a=some o)(hd:o.data= .set es ep t)(hf:t.fits es.size=true)(h:Q (!q1q w&&(!t.plain&&decide (es.size > 1))) s):
  wpAny (model prog w) A (setDrawn a) Q E s:=by
 unfold setDrawn setsByText;refine z3p (z1v ho hd hf ?_);exact z3p (z3p (z2a (z3o (z3o h))))
end
def q2l:Slot "set_iterator" "__next__" "set_iterator.__next__":=
 .of (owner:="set_iterator") (n:="__next__") (by rw[typeLookup_type,builtinLookup_eq_fast];kernel_rfl) (by decide+kernel) (by decide+kernel) (by decide+kernel)
  (by first | exact .inl (by decide+kernel) | exact .inr (by decide+kernel)) (by rw[isSubtype_type];kernel_rfl)
def q7d:entryFor table "set_iterator.__next__"=some Builtin.«set_iterator.__next__»:=entryFor_of_tree (by kernel_rfl)
def qj5:Manifest.owners.lookup (String.ofList ['r','o','t','a','r','e','t','i','_','t','e','s'].reverse)=some Manifest.sig_set_iterator:=by kernel_rfl
def q8b(a:Value):argsOk "set_iterator.__next__" ⟨[a],[]⟩:=by
 unfold argsOk;rw[signature?_of (id:="set_iterator.__next__") (n:=['_','_','t','x','e','n','_','_']) (o:=['r','o','t','a','r','e','t','i','_','t','e','s']) (by kernel_rfl) qj5]
 kernel_rfl
def qg0:entryFor table "set.__iter__"=some Builtin.«frozenset.__iter__»:=entryFor_alias (id':="frozenset.__iter__") (by kernel_rfl) rfl (by decide+kernel) (by kernel_rfl)
section
variable{prog:Program}{w:World}{A:Around}{E:xB}{s:Shared}{a I:Addr}{es:Array (Int×Value)}{ep:Nat}{t:SetTable}
def q2o(first:Value)(i:Nat)(a:Addr)(n ep:Nat):Obj:={cls:= .type "set_iterator",data:= .fields #[first,.int i 0,.ref a,.int n 0,.int ep 0]}
def q72(ps:List Nat):Obj:={cls:= .type "tuple",data:= .seq (ps.map λ(i:Nat)=>rawInt i).toArray}
def qrm{o:Obj}{Q:xB}(ho:s.heap.get? a=some o)(O:o.ExactSet)(hd:o.data= .set es ep t)(Y:t.fits es.size=true)(hsz:es.size<=sizeLine)
  (h1:(!q1q w&&(!t.plain&&decide (es.size > 1)))=true->∀(ps:List Nat) (d:Drawn),ps.Perm (List.range es.size)->Q (.ref (s.heap.objs.size+1)) {s with heap:=(s.heap.push (q72 ps)).push (q2o (.ref s.heap.objs.size) 0 a es.size ep),drawn:=d})
  (h0:(!q1q w&&(!t.plain&&decide (es.size > 1)))=false->Q (.ref s.heap.objs.size) {s with heap:=s.heap.push (q2o (.int 0 0) 0 a es.size ep)}):wpAny (model prog w) A (pyIter (.ref a)) Q E s:=by
 have ty:s.TypeIs (.ref a) "set":=⟨o,ho,O.1⟩;refine wpAny_pyIter_slot ty PySem.F.slot_set_iter (z26 PySem.F.slot_set_iter ty qg0 ?_ (PySem.F.args_set_iter_1 _));unfold Builtin.«frozenset.__iter__» Builtin.Frozenset.slot0 Builtin.Frozenset.sizeOf;refine z3p (z3p ?_);show wpAny _ _ (pure (Value.ref a,([]:xH))) _ _ s;refine z3o ?_;refine z3o ?_;refine z3p (z3p (z16 ho hd Y (z3o ?_)));refine z3p (qku ho hd Y ?_);have fin:∀(first:Value) (J:Shared),(∀Z,s.heap.get? a=some Z->J.heap.get? a=some Z)->Q (.ref J.heap.objs.size) {J with heap:=J.heap.push (q2o first 0 a es.size ep)}->
   wpAny (model prog w) A.in1 (do ret (<- newFields "set_iterator" [first,rawInt 0,.ref a,rawInt es.size,rawInt (<- setEpoch a)])) (λfin s'=>∃v,fin=Fin.done (Flow.ret v)/\∃T' r,s'.TypeIs v T'/\typeLookup (.type T') "__next__"=pure (some r)/\Q v s') E J:=λfirst J hk hq=>by
  refine z3p (wpAny_setEpoch_of (hk _ ho) hd Y ?_);refine z3p (z1s (z3o ⟨_,zr,"set_iterator",_,⟨_,z11 _ rfl,zr⟩,q2l.lookup,?_⟩))
  simpa [rawInt,q2o] using hq
 cases hc:(!q1q w&&(!t.plain&&decide (es.size > 1))) with
 | true=>
  simp only[if_true];refine z3p (qj4 es.size _ _ _ (by simp) λps d hp=>?_);simp only[newTuple];refine z3p (z1s ?_ ?_)
  ·refine fin _ _ (λZ e=>z0l _ e) ?_;have:=h1 hc ps d hp;show Q (.ref (s.heap.push (q72 ps)).objs.size) {s with heap:=(s.heap.push (q72 ps)).push (q2o (.ref s.heap.objs.size) 0 a es.size ep),drawn:=d};rw[z2v];exact this
  ·show (List.map (λ(i:Nat)=>rawInt i) ps).toArray.size<=sizeLine;rw[z1n,z2h,hp.length_eq,z1t];exact hsz
 | false=>
  simp only[z18,if_false];refine z3p (z3o ?_);exact fin _ s (λ_ e=>e) (h0 hc)
end
section
variable{prog:Program}{w:World}{A:Around}{E:xB}{s:Shared}{a I T:Addr}{es:Array (Int×Value)}{ep i:Nat}{t:SetTable}{o:Obj}
def qhx{ps:List Nat}{p:Nat}{h:Int}{x:Value}{Q:Option Value->Shared->Prop}(J:s.heap.get? I=some (q2o (.ref T) i a es.size ep))(hT:s.heap.get? T=some (q72 ps))(ho:s.heap.get? a=some o)(hd:o.data= .set es ep t)(Y:t.fits es.size=true)
  (hp:ps[i]? =some p) (hx:es[p]? =some (h,x))
  (q:∀h',h'.get? I=some (q2o (.ref T) (i+1) a es.size ep)->Heap.SameBut I s.heap h'->Q (some x) {s with heap:=h'}):wpAny (model prog w) A (pyNext (.ref I)) Q E s:=by
 have ty:s.TypeIs (.ref I) "set_iterator":=⟨_,J,rfl⟩;unfold pyNext;refine z3p (z31 (wpAny_callSpecial?_slot (name:=Str.ofString "__next__") ty q2l (z26 q2l ty q7d ?_ (q8b _))));unfold Builtin.«set_iterator.__next__»;refine z3p (z3o ?_);refine z3p (wpAny_fieldsOf J rfl ?_)
 dsimp only[z15]
 refine z3p (z16 ho hd Y ?_);rw[if_neg (by simp)];have O:((ps.map λ(i:Nat)=>rawInt i).toArray)[i]? =some (rawInt p):=by
  rw[List.getElem?_toArray,z1m,hp];rfl
 refine z3p (wpAny_seqItems hT rfl ?_)
 dsimp only
 rw[z1q,O];show wpAny _ _ (setNextDrawn a ((p:Int)).toNat ((ep:Int)).toNat >>=_) _ _ s;rw[z1q,z1q];unfold setNextDrawn;refine z3p (z3p (z1v ho hd Y ?_))
 dsimp only
 rw[if_neg (by simp),hx];refine z3o ?_;refine z3p (z2y J rfl (by simp) ?_);refine z3o ⟨_,zr,z3o (q _ ?_ (z10 ..))⟩;have:=z0r (Obj.mapFields (·.setIfInBounds 1 (rawInt ((i:Int)+1)))) J rfl;exact this
def qeu{Q:Option Value->Shared->Prop}(hh:A.handled=none)(q:∀h',(∀b o,s.heap.get? b=some o->h'.get? b=some o)->Q none {s with heap:=h'}):
  wpAny (model prog w) A.in1 (newExc (.type "StopIteration") [] >>=raiseNew (α:=Fin)) (λfin s'=>∃v,fin=Fin.done (Flow.ret v)/\wpAny (model prog w) A (pure (some v)) Q E s')
   (λe s'=>wpAny (model prog w) A (do let d <- isInstance e (.type "StopIteration");if d=true then pure none else throw e) Q E s') s:=by
 refine z3p ?_;simp only[newExc,newTuple];refine z3p (z1s ?_ (by size_fits));refine z3p (m:=firstArgMember _ _) (wpAny_of_eq (a:=Value.none) (by first | rfl | (simp only[firstArgMember];rfl)) ?_);refine z1s ?_ (by size_fits);simp only[raiseNew];refine z3p (wpAny_handled ?_);rw[show A.in1.handled=none from hh];refine z3p (z3o (wpAny_throw ?_));refine z3p (wpAny_isInstance (T:="StopIteration") (b:=true) ⟨_,z11 _ rfl,zr⟩ isSubtype_stop ?_);exact z3o (q _ λb o e=>z0l _ (z0l _ e))
def qj6{ps:List Nat}{Q:Option Value->Shared->Prop}(hh:A.handled=none)(J:s.heap.get? I=some (q2o (.ref T) i a es.size ep))(hT:s.heap.get? T=some (q72 ps))(ho:s.heap.get? a=some o)(hd:o.data= .set es ep t)(hf:t.fits es.size=true)
  (hp:ps[i]? =none) (q:∀h',(∀b o,b≠I->s.heap.get? b=some o->h'.get? b=some o)->Q none {s with heap:=h'}):wpAny (model prog w) A (pyNext (.ref I)) Q E s:=by
 have ty:s.TypeIs (.ref I) "set_iterator":=⟨_,J,rfl⟩;unfold pyNext;refine z3p (z31 (wpAny_callSpecial?_slot (name:=Str.ofString "__next__") ty q2l (z26 q2l ty q7d ?_ (q8b _))));unfold Builtin.«set_iterator.__next__»;refine z3p (z3o ?_);refine z3p (wpAny_fieldsOf J rfl ?_)
 dsimp only[z15]
 refine z3p (z16 ho hd hf ?_);rw[if_neg (by simp)];have O:((ps.map λ(i:Nat)=>rawInt i).toArray)[i]? =none:=by
  rw[List.getElem?_toArray,z1m,hp];rfl
 refine z3p (wpAny_seqItems hT rfl ?_)
 dsimp only
 rw[z1q,O]
 dsimp only
 have g1:=z0r (Obj.mapFields (·.setIfInBounds 0 (rawInt 0))) J rfl;refine z3p (z2y J rfl (by simp) ?_);refine z3p (z2y g1 rfl (by simp) ?_);refine qeu hh λh' k=>q h' λb o hb e=>k b o ?_;exact(((z10 ..).trans (z10 ..)).2 b hb).trans e
def qwk(w:World)(a:Addr)(es:Array (Int×Value))(ep:Nat)(t:SetTable)(k i:Nat)(nx:Option (Value×Nat)):Prop:=
 (q1q w=true/\nx=((pickOrder (w.params.setOrder a ep) es)[i]?).map λe=>(e.2,k))\/
 (q1q w=false/\(!t.plain&&decide (es.size > 1))=false/\(!t.led&& !es.isEmpty)=false/\nx=match es[SetTable.below t.place k]?,t.place[SetTable.below t.place k]? with
  | some (_,x),some j=>some (x,j+1)
  | _,_=>none)
def qam{k:Nat}{nx:Option (Value×Nat)}{Q:Option Value->Shared->Prop}(hh:A.handled=none)(Z:s.heap.get? I=some (q2o (.int k 0) i a es.size ep))(ho:s.heap.get? a=some o)(hd:o.data= .set es ep t)(hf:t.fits es.size=true)(hn:qwk w a es ep t k i nx)
  (q1:∀x j h',nx=some (x,j)->h'.get? I=some (q2o (.int j 0) (i+1) a es.size ep)->Heap.SameBut I s.heap h'->Q (some x) {s with heap:=h'})
  (q0:nx=none->∀h',(∀b o,b≠I->s.heap.get? b=some o->h'.get? b=some o)->Q none {s with heap:=h'}):wpAny (model prog w) A (pyNext (.ref I)) Q E s:=by
 have ty:s.TypeIs (.ref I) "set_iterator":=⟨_,Z,rfl⟩;unfold pyNext;refine z3p (z31 (wpAny_callSpecial?_slot (name:=Str.ofString "__next__") ty q2l (z26 q2l ty q7d ?_ (q8b _))));unfold Builtin.«set_iterator.__next__»;refine z3p (z3o ?_);refine z3p (wpAny_fieldsOf Z rfl ?_)
 dsimp only[z15]
 refine z3p (z16 ho hd hf ?_);rw[if_neg (by simp)];refine z3p ?_;have Y:∀x (j:Nat),nx=some (x,j)->wpAny (model prog w) A.in1 (do
     setField (Value.ref I) 0 (rawInt j)
     setField (Value.ref I) 1 (rawInt ((i:Int)+1))
     ret x) (λfin s'=>∃v,fin=Fin.done (Flow.ret v)/\wpAny (model prog w) A (pure (some v)) Q E s')
    (λe s'=>wpAny (model prog w) A (do let d <- isInstance e (.type "StopIteration");if d=true then pure none else throw e) Q E s') s:=λx j en=>by
  have g1:=z0r (Obj.mapFields (·.setIfInBounds 0 (rawInt j))) Z rfl;have g2:=z0r (Obj.mapFields (·.setIfInBounds 1 (rawInt ((i:Int)+1)))) g1 rfl;refine z3p (z2y Z rfl (by simp) ?_);refine z3p (z2y g1 rfl (by simp) ?_);exact z3o ⟨_,zr,z3o (q1 x j _ en g2 ((z10 ..).trans (z10 ..)))⟩
 have O:nx=none->wpAny (model prog w) A.in1 (do
     setField (Value.ref I) 2 Value.none
     let d <- newExc (Value.type "StopIteration") []
     raiseNew d) (λfin s'=>∃v,fin=Fin.done (Flow.ret v)/\wpAny (model prog w) A (pure (some v)) Q E s')
    (λe s'=>wpAny (model prog w) A (do let d <- isInstance e (.type "StopIteration");if d=true then pure none else throw e) Q E s') s:=λen=>by
  refine z3p (z2y Z rfl (by simp) ?_);refine qeu hh λh' k=>q0 en h' λb o hb e=>k b o ?_;exact((z10 ..).2 b hb).trans e
 unfold setNext;refine z3p (z1v ho hd hf ?_);unfold setsByText;refine z3p (z3p (z2a (z3o ?_)));rcases hn with ⟨hb,J⟩ | ⟨hb,h1,h2,J⟩
 ·rw[if_pos (show ({program:=(model prog w).prog,params:=(model prog w).w.params}:Setting).params.followText "set-order"=true from hb)]
  dsimp only
  rw[if_neg (by simp)];unfold setWalk;refine z3p (z3p (z1v ho hd hf ?_));unfold setsByText;refine z3p (z3p (z2a (z3o ?_)));rw[if_pos (show ({program:=(model prog w).prog,params:=(model prog w).w.params}:Setting).params.followText "set-order"=true from hb)];refine z3p (z2a (z3o (z3o ?_)))
  dsimp only
  have e':(pickOrder ((model prog w).w.params.setOrder a ep) es)[(i:Int).toNat]? =(pickOrder (w.params.setOrder a ep) es)[i]? :=by
   rw[z1q];rfl
  rw[e'];cases e:(pickOrder (w.params.setOrder a ep) es)[i]? with
  | none=>
   rw[e]at J;exact O J
  | some y=>
   rw[e]at J;exact Y y.2 _ J
 ·rw[if_neg (show ¬ ({program:=(model prog w).prog,params:=(model prog w).w.params}:Setting).params.followText "set-order"=true from by rw[show ({program:=(model prog w).prog,params:=(model prog w).w.params}:Setting).params.followText "set-order"=false from hb];exact z19)]
  dsimp only
  show wpAny _ _ (if (!t.plain&&decide (es.size > 1))=true then _ else _) _ _ s;rw[if_neg (by rw[h1];exact z19)];show wpAny _ _ ((if (!t.led&& !es.isEmpty)=true then unsupported _ else pure ()) >>=_) _ _ s;rw[if_neg (by rw[h2];exact z19)];refine z3p (z3o (z3o ?_));rw[z1q];cases e1:es[SetTable.below t.place k]? with
  | none=>
   rw[e1]at J;exact O J
  | some y=>
   cases e2:t.place[SetTable.below t.place k]? with
   | none=>
    rw[e1,e2]at J;exact O J
   | some j=>
    rw[e1,e2]at J;exact Y y.2 _ J
end
def qbo:Slot "set_iterator" "__iter__" "set_iterator.__iter__":=
 .of (owner:="set_iterator") (n:="__iter__") (by rw[typeLookup_type,builtinLookup_eq_fast];kernel_rfl) (by decide+kernel) (by decide+kernel) (by decide+kernel)
  (by first | exact .inl (by decide+kernel) | exact .inr (by decide+kernel)) (by rw[isSubtype_type];kernel_rfl)
def qhy:entryFor table "set_iterator.__iter__"=some Builtin.«dict_keyiterator.__iter__»:=entryFor_alias (id':="dict_keyiterator.__iter__") (by kernel_rfl) rfl (by decide+kernel) (by kernel_rfl)
def qj7(a:Value):argsOk "set_iterator.__iter__" ⟨[a],[]⟩:=by
 unfold argsOk;rw[signature?_of (id:="set_iterator.__iter__") (n:=['_','_','r','e','t','i','_','_']) (o:=['r','o','t','a','r','e','t','i','_','t','e','s']) (by kernel_rfl) qj5]
 kernel_rfl
section
variable{prog:Program}{w:World}{A:Around}{E:xB}{s:Shared}{a I T:Addr}{es:Array (Int×Value)}{ep:Nat}{t:SetTable}{o:Obj}
def qg1{first:Value}{i n:Nat}{Q:xB}(hI:s.heap.get? I=some (q2o first i a n ep))(h:Q (.ref I) s):wpAny (model prog w) A (pyIter (.ref I)) Q E s:=by
 have ty:s.TypeIs (.ref I) "set_iterator":=⟨_,hI,rfl⟩;refine wpAny_pyIter_slot ty qbo (z26 qbo ty qhy ?_ (qj7 _));show wpAny _ _ (ret (.ref I)) _ _ s;exact z3o ⟨_,zr,"set_iterator",_,ty,q2l.lookup,h⟩
def qkv{ps:List Nat}(hh:A.handled=none)(hT:T≠I)(ha:a≠I)(hd:o.data= .set es ep t)(Z:t.fits es.size=true)(O:ps.Perm (List.range es.size)):
  Walks prog w A I [I,T,a] [I] es.size (λi v=>∃p h,ps[i]? =some p/\es[p]? =some (h,v)) (λi h=>h.get? I=some (q2o (.ref T) i a es.size ep)/\h.get? T=some (q72 ps)/\h.get? a=some o) where
 sub:=λb hb=>by simp at hb;simp[hb]
 frame:=λ_ _ _ st hk=>⟨hk I (by simp) _ st.1,hk T (by simp) _ st.2.1,hk a (by simp) _ st.2.2⟩
 item:=λi s Q E hi st J=>by
  have pl:ps.length=es.size:=by rw[O.length_eq,z1t]
  have h1:ps[i]? =some (ps[i]'(by lia)):=z0b (by lia);have hm:ps[i]'(by lia) < es.size:=z2t.mp (O.mem_iff.mp (z22 (by lia)));generalize ps[i]'(by lia)=p at h1 hm;have h2:es[p]? =some es[p]:=z09 hm;refine qhx (h:=es[p].1) (x:=es[p].2) st.1 st.2.1 st.2.2 hd Z h1 h2 λh' g Y=>?_;exact J _ h' s.toks ⟨p,es[p].1,h1,h2⟩ ⟨g,(Y.2 T hT).trans st.2.1,(Y.2 a ha).trans st.2.2⟩ λb o hb e=>(Y.2 b (λz=>hb (by simp[z]))).trans e
 done:=λs Q E st J=>by
  have pl:ps.length=es.size:=by rw[O.length_eq,z1t]
  exact qj6 hh st.1 st.2.1 st.2.2 hd Z (List.getElem?_eq_none (by lia)) λh' k=>J h' s.toks λb o hb e=>k b o (λz=>hb (by simp[z])) e
 self:=λ_ _ _ _ st J=>qg1 st.1 J
def qne(hh:A.handled=none)(ha:a≠I)(hd:o.data= .set es ep t)(Z:t.fits es.size=true)(hb:q1q w=true):
  Walks prog w A I [I,a] [I] es.size (λi v=>∃e,(pickOrder (w.params.setOrder a ep) es)[i]? =some e/\v=e.2) (λi h=>h.get? I=some (q2o (.int 0 0) i a es.size ep)/\h.get? a=some o) where
 sub:=λb hb=>by simp at hb;simp[hb]
 frame:=λ_ _ _ st hk=>⟨hk I (by simp) _ st.1,hk a (by simp) _ st.2⟩
 item:=λi s Q E hi st O=>by
  have pl:(pickOrder (w.params.setOrder a ep) es).size=es.size:=by rw[<- z0y,(q96 _ _).length_eq,z0y]
  have h1:(pickOrder (w.params.setOrder a ep) es)[i]? =some ((pickOrder (w.params.setOrder a ep) es)[i]'(by lia)):=z09 (by lia);refine qam (k:=0) hh st.1 st.2 hd Z (.inl ⟨hb,zr⟩) (λx j h' J g Y=>?_) λJ=>?_
  ·rw[h1]at J;cases J
   exact O _ h' s.toks ⟨_,h1,zr⟩ ⟨g,(Y.2 a ha).trans st.2⟩ λb o hb e=>(Y.2 b (λz=>hb (by simp[z]))).trans e
  ·rw[h1]at J;cases J
 done:=λs Q E st O=>by
  have pl:(pickOrder (w.params.setOrder a ep) es).size=es.size:=by rw[<- z0y,(q96 _ _).length_eq,z0y]
  have h1:(pickOrder (w.params.setOrder a ep) es)[es.size]? =none:=z0o (by lia);refine qam (k:=0) hh st.1 st.2 hd Z (.inl ⟨hb,zr⟩) (λx j h' J g Y=>?_) λJ h' k=>O h' s.toks λb o hb e=>k b o (λz=>hb (by simp[z])) e;rw[h1]at J;cases J
 self:=λ_ _ _ _ st O=>qg1 st.1 O
def qpe(hh:A.handled=none)(ha:a≠I)(hd:o.data= .set es ep t)(O:t.fits es.size=true)(hb:q1q w=false)(hl:t.led=true)(h1:es.size<=1):
  Walks prog w A I [I,a] [I] es.size (λi v=>∃e,es[i]? =some e/\v=e.2) (λi h=>h.get? I=some (q2o (.int (((if i=0 then 0 else t.place.getD 0 0+1):Nat):Int) 0) i a es.size ep)/\h.get? a=some o) where
 sub:=λb hb=>by simp at hb;simp[hb]
 frame:=λ_ _ _ st hk=>⟨hk I (by simp) _ st.1,hk a (by simp) _ st.2⟩
 item:=λi s Q E hi st Y=>by
  have i0:i=0:=by lia
  subst i0;have ps:t.place.size=es.size:=by
   unfold SetTable.fits at O;simp at O
   exact O.1
  have e1:es[0]? =some (es[0]'(by lia)):=z09 (by lia);have e2:t.place[0]? =some (t.place.getD 0 0):=by
   rw[z09 (by lia)];simp[Array.getD,show 0 < t.place.size by lia]
  have eb:SetTable.below t.place 0=0:=by
   unfold SetTable.below;rw[show t.place.size=1 by lia];simp[SetTable.below.go]
  refine qam (k:=0) hh st.1 st.2 hd O (.inr ⟨hb,by simp;lia,by rw[hl];rfl,rfl⟩) (λx j h' J g Z=>?_) λJ=>?_
  ·rw[eb,e1,e2]at J;cases J
   exact Y _ h' s.toks ⟨_,e1,zr⟩ ⟨g,(Z.2 a ha).trans st.2⟩ λb o hb e=>(Z.2 b (λz=>hb (by simp[z]))).trans e
  ·rw[eb,e1,e2]at J;cases J
 done:=λs Q E st Y=>by
  have ps:t.place.size=es.size:=by
   unfold SetTable.fits at O;simp at O
   exact O.1
  refine qam hh st.1 st.2 hd O (.inr ⟨hb,by simp;lia,by rw[hl];rfl,rfl⟩) (λx j h' J g Z=>?_) λJ h' k=>Y h' s.toks λb o hb e=>k b o (λz=>hb (by simp[z])) e;have e0:es[SetTable.below t.place (if es.size=0 then 0 else t.place.getD 0 0+1)]? =none:=by
   by_cases z:es.size=0
   ·exact z0o (by lia)
   ·rw[if_neg z];have:SetTable.below t.place (t.place.getD 0 0+1)=1:=by
     unfold SetTable.below;rw[show t.place.size=1 by lia];simp[SetTable.below.go,Array.getD,show 0 < t.place.size by lia]
    rw[this];exact z0o (by lia)
  rw[e0]at J;cases J
 self:=λ_ _ _ _ st Y=>qg1 st.1 Y
end
section
variable{prog:Program}{w:World}{A:Around}{E:xB}{s:Shared}{a:Addr}{xs:xD}
def qrn{Q:Bool->Shared->Prop}(Y:s.TypeIs (.ref a) "set")(h:Q false s):wpAny (model prog w) A (Builtin.List.listLengthHint (.ref a)) Q E s:=by
 unfold Builtin.List.listLengthHint;refine z3p (wpAny_specialOf Y PySem.F.slot_set_len.lookup ?_);generalize O:("set.__len__":String)=Z
 wp_delta
 rw[show splitId Z=some ("set","__len__") from by subst O;decide+kernel];subst O;refine z3p (wpAny_isInstance (T:="set") (b:=true) Y (by rw[isSubtype_type];kernel_rfl) ?_);refine wpAny_ite_split (λJ=>absurd J (by decide)) (λ_=>?_);refine wpAny_ite_split (λ_=>?_) (λJ=>absurd (by decide+kernel) J);refine z3p (wpAny_typeOf Y ?_);exact z3o h
def qbp{α:Type}{L:List α}{f:α->Value}{P:Nat->Value->Prop}{J:Array Value}{n:Nat}(hn:n=L.length)(hP:∀i v,P i v->∃e,L[i]? =some e/\v=f e)(ha:ItemsOf P J n):J.toList=L.map f:=by
 apply z1l
 intro j;rw[z1m,z0q];cases e:J[j]? with
 | some v=>
  obtain⟨e',he,rfl⟩:=hP j v (ha.2 j v e);rw[he];rfl
 | none=>
  have:J.size<=j:=by simpa using e
  rw[ha.1]at this;rw[List.getElem?_eq_none (by lia)];rfl
def qxw(prog:Program)(w:World)(A:Around)(s:Shared)(S:Addr)(xs:xD)(it:Value)(s1:Shared):Prop:=
 ∃(J:Addr) (fp:List Addr) (n:Nat) (P:Nat->Value->Prop) (St:Nat->Heap->Prop) (h1:Heap) (d:Drawn),it= .ref J/\s1={s with heap:=h1,drawn:=d}/\(∀b o,s.heap.get? b=some o->h1.get? b=some o)/\
  Walks prog w A J fp [J] n P St/\St 0 h1/\S∉fp/\s.heap.objs.size<=J/\n<=sizeLine/\∀acc,ItemsOf P acc n->(acc.toList.map sOf).Perm xs/\∀v∈acc.toList,∃x t,v= .str x t
def qro(hh:A.handled=none)(x:TxS prog w s.heap a xs){S:Addr}(hS:S < s.heap.objs.size)(a2:S≠a):wpAny (model prog w) A (pyIter (.ref a)) (qxw prog w A s S xs) E s:=by
 obtain⟨o,es,ep,t,ho,a6,hd,a5,a4,hnd,hb,hf,a3,a7⟩:=x;have al:a < s.heap.objs.size:=z3b ho;have hsz:es.size<=sizeLine:=fits_of_scanBound hb;have Z:∀v∈es.toList.map (λe=>e.2),∃x t,v=Value.str x t:=λv hv=>by
  obtain⟨e,he,rfl⟩:=z3h.mp hv;obtain⟨⟨k,hk,_⟩,_⟩:=a5 e he;obtain⟨_,t,ht⟩:=qbn hk;exact⟨k,t,ht⟩
 have J:∀l:List Value,l.Perm (es.toList.map λe=>e.2)->(l.map sOf).Perm xs/\∀v∈l,∃x t,v=Value.str x t:=λl hp=>by
  refine⟨?_,λv hv=>Z v (hp.mem_iff.mp hv)⟩;have:=hp.map sOf;rw[z3i]at this;rw[<- a4];exact this
 refine qrm ho a6 hd hf hsz (λhdr ps d hp=>?_) (λO=>?_)
 ·have hT:((s.heap.push (q72 ps)).push (q2o (.ref s.heap.objs.size) 0 a es.size ep)).get? s.heap.objs.size=some (q72 ps):=z0l _ (z11 _ rfl);have hI:((s.heap.push (q72 ps)).push (q2o (.ref s.heap.objs.size) 0 a es.size ep)).get? (s.heap.objs.size+1)=some (q2o (.ref s.heap.objs.size) 0 a es.size ep):=by
   have:=z11 (s.heap.push (q72 ps)) (o:=q2o (.ref s.heap.objs.size) 0 a es.size ep) rfl
   rwa [z2v]at this
  refine⟨_,_,_,_,_,_,d,zr,zr,λb o e=>z0l _ (z0l _ e),qkv hh (z3c (z23 _)) (z3c (z1x al)) hd hf hp,⟨hI,hT,z0l _ (z0l _ ho)⟩,?_,Nat.le_succ _,hsz,λa1 ha=>?_⟩
  ·simp only[z32,z29,or_false,not_or];exact⟨z3c (z1x hS),z3c hS,a2⟩
  ·have e:=qbp (L:=ps) (f:=λp=>((es[p]?).map (·.2)).getD .none) (by rw[hp.length_eq,z1t]) (λi v ⟨p,h,h1,h2⟩=>⟨p,h1,by rw[h2];rfl⟩) ha;refine J _ ?_;rw[e];refine(hp.map _).trans ?_;refine List.Perm.of_eq ?_
   apply z1l
   intro j;have e2:es.toList[j]? =es[j]? :=z0q;rw[z1m,z1m,e2];by_cases hj:j < es.size
   ·rw[List.getElem?_range hj,z09 hj];simp[hj]
   ·rw[List.getElem?_eq_none (l:=List.range es.size) (by rw[z1t];lia),z0o (by lia)];rfl
 ·have hI:(s.heap.push (q2o (.int 0 0) 0 a es.size ep)).get? s.heap.objs.size=some (q2o (.int 0 0) 0 a es.size ep):=z11 _ rfl;have sf:S∉ [s.heap.objs.size,a]:=by
   simp only[z32,z29,or_false,not_or];exact⟨z3c hS,a2⟩
  cases Y:q1q w with
  | true=>
   refine⟨_,_,_,_,_,_,s.drawn,zr,zr,λb o e=>z0l _ e,qne hh (z3c al) hd hf Y,⟨hI,z0l _ ho⟩,sf,z3j _,hsz,λa1 ha=>?_⟩;have e:=qbp (L:=(pickOrder (w.params.setOrder a ep) es).toList) (f:=λe=>e.2) (by rw[(q96 _ _).length_eq,z0y]) (λi v ⟨e,h1,h2⟩=>⟨e,by rw[z0q];exact h1,h2⟩) ha;refine J _ ?_;rw[e];exact(q96 _ _).map _
  | false=>
   have h1:es.size<=1:=by
    rw[Y]at O;by_cases z:es.size<=1
    ·exact z
    ·have:=a7 (by lia);rw[this]at O;simp at O
     lia
   refine⟨_,_,_,_,_,_,s.drawn,rfl,rfl,λb o e=>z0l _ e,qpe hh (z3c al) hd hf Y (by rw[a3,Y];rfl) h1,⟨hI,z0l _ ho⟩,sf,z3j _,hsz,λa1 ha=>?_⟩;have e:=qbp (L:=es.toList) (f:=λe=>e.2) (by rw[z0y]) (λi v ⟨e,h1,h2⟩=>⟨e,by rw[z0q];exact h1,h2⟩) ha;refine J _ ?_;rw[e]
end
section
variable{prog:Program}{w:World}{A:Around}{E:xB}{s:Shared}{a:Addr}{xs:xD}
def qev(xs:xD)(vs:xH):Prop:=(vs.map sOf).Perm xs/\∀v∈vs,∃x t,v= .str x t
def qnf{R:Result->Shared->Prop}(hh:A.handled=none)(x:TxS prog w s.heap a xs)(S:Addr)(a2:S≠a)(res:Value)(c₀:Nat)(hS:s.heap.get? S=some {cls:= .type "list",data:= .seq #[] c₀})
  (hR:∀h' tk d O c',(∀b o,b≠S->s.heap.get? b=some o->h'.get? b=some o)->h'.get? S=some {cls:= .type "list",dict:=none,data:= .seq O c',slots:=#[]}->qev xs O.toList->R (.ok (.ret res)) {s with heap:=h',toks:=tk,drawn:=d}):
  wpAny (model prog w) A.in1 (Builtin.List.listExtendWith (.ref S) (.ref a) res)
   (λfin s'=>match fin with | .done f=>R (.ok f) s' | .again c'=>c'.quiet=true/\codeAny (model prog w) A c' R s') (λe s'=>R (.error e) s') s:=by
 obtain⟨o,es,ep,t,ho,a7,rest⟩:=id x;have ty:s.TypeIs (.ref a) "set":=⟨o,ho,a7.1⟩;unfold Builtin.List.listExtendWith;refine z3p (wpAny_typeOf (T:="set") ty ?_);have h1:Builtin.List.listSameRef (.ref S) (.ref a)=false:=by simp[Builtin.List.listSameRef,a2]
 simp only[h1,show (Value.type "set"==Value.type "list")=false by decide,show (Value.type "set"==Value.type "tuple")=false by decide,Bool.or_false,z18,if_false];refine z3p (z3q (qro (A:=A.in1) (E:=λe s'=>R (.error e) s') hh x (z3b hS) a2) (λit s1 a1=>?_) λe s' z=>z);obtain⟨J,fp,n,P,St,h2,d,rfl,rfl,keep,W,st,a3,hJ,hn,a5⟩:=a1;have Y:=keep _ _ hS;have hSJ:S≠J:=z3c (z1e (z3b hS) hJ);have key:∀(h:Heap) (c₁ tk:Nat),St 0 h->(∀b o,b≠S->h2.get? b=some o->h.get? b=some o)->
   h.get? S=some {cls:= .type "list",data:= .seq #[] c₁}->codeAny (model prog w) A (.builtin "list.extend.loop" ⟨[.ref S,.ref J,res],[]⟩) R {s with heap:=h,toks:=tk,drawn:=d}:=by
  intro h c₁ tk b0 hk Y;refine codeAny_extend_loopS W.toS hn S a3 res n 0 _ #[] c₁ rfl (z3m _) b0 Y (ItemsOf.nil _) λs' O c' hm a8 ha=>?_;rw[Moved.eq_with hm];refine hR s'.heap s'.toks d O c' (λb o hb e=>hm.heap b o (λZ=>?_) (hk b o hb (keep b o e))) a8 (a5 O ha);rcases z32.mp Z with e' | Z
  ·exact hb e'
  ·have z:=z1a.mp Z;exact absurd (z3b e) (by rw[z];exact Nat.not_lt.mpr hJ)
 refine z3p (z33 (qrn ⟨o,keep _ _ ho,a7.1⟩ ?_));refine wpAny_ite_split (λ_=>?_) (λ_=>z3o ⟨plainId_quiet PySem.F.plain_extend_loop _,key _ c₀ _ st (λb o _ e=>e) Y⟩);refine z3p (z3n ?_);refine z3p ?_;show wpAny _ _ (updateSeq S (·.push .none) >>=λ_=>updateSeq S (·.pop)) _ _ _;refine z3p (wpAny_updateSeq Y rfl ?_);have a4:=z0r (Obj.mapSeq (·.push Value.none)) Y rfl;refine wpAny_updateSeq (hz:=by seq_fits) a4 rfl ?_;have a9:=z0r (Obj.mapSeq (·.pop)) a4 rfl;refine z3o ⟨plainId_quiet PySem.F.plain_extend_loop _,key _ _ _ ?_ (λb o hb e=>?_) a9⟩
 ·refine W.frame 0 _ _ st λb hb o e=>?_;have a6:b≠S:=λh=>a3 (h ▸ hb);exact(z0m _ _ (Ne.symm a6)).trans ((z0m _ _ (Ne.symm a6)).trans e)
 ·exact(z0m _ _ (Ne.symm hb)).trans ((z0m _ _ (Ne.symm hb)).trans e)
def qkw{R:List Value->Shared->Prop}(hh:A.handled=none)(x:TxS prog w s.heap a xs)
  (h:∀(vs:xH) (h':Heap) (tk:Nat) (d:Drawn),qev xs vs->(∀b o,s.heap.get? b=some o->h'.get? b=some o)->s.heap.objs.size<=h'.objs.size->R vs {s with heap:=h',toks:=tk,drawn:=d}):wpAny (model prog w) A (collect (.ref a)) R E s:=by
 have al:a < s.heap.objs.size:=by
  obtain⟨_,_,_,_,e,_⟩:=x;exact z3b e
 unfold collect;refine z3p (wpAny_runValue (z2q entry_proto_collect' ?_));rw[Around.under_plainId PySem.F.plain_proto_collect _];show wpAny _ A.in1 (newList [] >>=λl=>again (.builtin "list.__iadd__" ⟨[l,.ref a],[]⟩)) _ _ s;refine z3p (z1s ?_);refine z3o ⟨plainId_quiet z0g _,z2q entry_list_iadd' ?_⟩;rw[Around.under_plainId z0g _];have hS:(s.heap.push {cls:= .type "list",data:= .seq ([]:xH).toArray}).get? s.heap.objs.size=some {cls:= .type "list",data:= .seq #[]}:=z11 _ rfl;show wpAny _ A.in1 (Builtin.List.listExtendWith (.ref s.heap.objs.size) (.ref a) (.ref s.heap.objs.size)) _ _ _;have key:=qnf (A:=A) (prog:=prog) (w:=w) (xs:=xs) (a:=a) (s:={s with heap:=s.heap.push {cls:= .type "list",data:= .seq ([]:xH).toArray}}) hh (x.keep λo e=>z0l _ e) s.heap.objs.size
  (z3e al) (.ref s.heap.objs.size) 0 hS
  (R:=λ(q:Result) (s':Shared)=>∃(h':Heap) (tk:Nat) (d:Drawn) (J:Array Value) (Y:Nat),q= .ok (.ret (.ref s.heap.objs.size))/\s'={s with heap:=h',toks:=tk,drawn:=d}/\(∀b o,s.heap.get? b=some o->h'.get? b=some o)/\
   h'.get? s.heap.objs.size=some {cls:= .type "list",dict:=none,data:= .seq J Y,slots:=#[]}/\qev xs J.toList)
  (λh' tk d J Y hk O Z=>⟨h',tk,d,J,Y,rfl,rfl,λb o e=>hk b o (z3c (z3b e)) (z0l _ e),O,Z⟩)
 refine z3q key (λf s' y=>?_) λe s' y=>?_
 ·cases f with
  | done f=>
   obtain⟨h',tk,d,J,Y,e,rfl,hk,O,ha⟩:=y;cases e
   show wpAny _ A (load s.heap.objs.size >>=_) _ _ _;refine z3p (wpAny_load O (z3o ?_));exact h J.toList h' tk d ha hk (z3a (z3b O))
  | again c=>
   refine⟨y.1,z3f y.2 λq s2 z=>?_⟩;obtain⟨h',tk,d,J,Y,rfl,rfl,hk,O,ha⟩:=z;show wpAny _ A (load s.heap.objs.size >>=_) _ _ _;refine z3p (wpAny_load O (z3o ?_));exact h J.toList h' tk d ha hk (z3a (z3b O))
 ·obtain⟨_,_,_,_,_,e',_⟩:=y;cases e'
end
def SetH(P:Program)(w:World)(a:Addr)(ys:xD):HO:= .ext λh=>TxS P w h a ys
section
variable{X:Cx}{xC:xG}{σ:St}{H:Hp}{s:Shared}
def Inv.drew{d:Drawn}(I:Inv X xC σ H s):Inv X xC σ H {s with drawn:=d}:=
 I.step (h':=s.heap) (g':=s.gens) (d':=d) (t':=s.toks) (ch:=[]) (λ_ z=>nomatch z) (λ_ _ _ _ _ e _=>e) (λb o _ _ _ e _=>⟨o.slots,e⟩) (λ_ _ _ _ n=>n) (λb o _ e=>⟨o,e⟩) (λ_ _ e=>e) (λ_ _ _ e=>e) (λb ps e=>⟨#[],by rw[e];simp⟩) (λ_ e=>e) I.hok I.bare
def qpf(hc:X.calm=true)(P:Program)(w:World)(K:xA)(hK:X.K=K:=by rfl)(hP:X.prog=P:=by rfl)(hw:X.w=w:=by rfl):q2t X (.type "set") (λxs H Q=>∃(p:Addr) (J:xD),xs=[.ref p]/\(SqL K H p (J.map V.str)\/ SqT K H p (J.map V.str))/\J.length<=4000/\
  ∀(l:Addr) (ys:xD),H l=none->ys.Nodup->(∀x,x∈ys↔x∈J)->Q (.ref l) (upd H l (SetH P w l ys))):=by
 subst hK hP hw;intro xC s σ H xs us Q I r h;obtain⟨p,J,rfl,hp,hl,q⟩:=h;obtain⟨u,rfl,ru⟩:=q3h r;cases ru
 have fin:∀(its:xH),its.length=J.length->∀(h':Heap) (tk:Nat) (ys:xD),TxS X.prog X.w h' s.heap.objs.size ys->InS (λi=>J.getD i "") its.toArray.size ys->(∀b o,b < s.heap.objs.size->s.heap.get? b=some o->h'.get? b=some o)->EP X xC σ Q (.ref s.heap.objs.size) {s with heap:=h',toks:=tk}:=λits Y h' tk ys hS a2 keep=>by
  have Z:∀b o,s.heap.get? b=some o->h'.get? b=some o:=λb o e=>keep b o (z3b e) e;have O:ys.Nodup:=by
   obtain⟨_,_,_,_,_,_,_,_,_,O,_⟩:=hS;exact O
  have a1:∃o,h'.get? s.heap.objs.size=some o:=by
   obtain⟨o,_,_,_,e,_⟩:=hS;exact⟨o,e⟩
  refine⟨.ref _,_,I.laid (a:=s.heap.objs.size) (o:=SetH X.prog X.w s.heap.objs.size ys) (t':=tk) Z (z3j _) ⟨hS,a1,λh1 h2 z k=>z.keep k⟩,zr,q _ ys I.fresh O λx=>?_⟩;rw[a2.1 x,z1n,Y]
  constructor
  ·rintro ⟨j,hj,rfl⟩;show J.getD j ""∈J;rw[z05,z0b hj];exact z22 hj
  ·intro hx;obtain⟨j,hj,e⟩:=List.getElem_of_mem hx;refine⟨j,hj,?_⟩;show J.getD j ""=x;rw[z05,z0b hj];exact e
 have hh:=I.ok.hd hc;rcases hp with hp | hp
 ·obtain⟨its,rv,⟨o,n,e,c,_,d⟩,z⟩:=I.list hp;have Y:its.length=J.length:=by rw[<- rv.length,z2h]
  obtain⟨_,_,e3⟩:=qdq rv;exact qpd hh ⟨o,e,c,n,d⟩ (by rw[z15];exact e3) (by rw[z1n,Y];unfold scanBound;lia) (fin its Y)
 ·obtain⟨its,rv,⟨o,e,c,n,d⟩,z⟩:=I.tuple hp;have Y:its.length=J.length:=by rw[<- rv.length,z2h]
  obtain⟨_,_,e3⟩:=qdq rv;exact qnc hh ⟨o,e,c,n,d⟩ (by rw[z15];exact e3) (by rw[z1n,Y];unfold scanBound;lia) (fin its Y)
end
section
variable{X:Cx}
end
section
variable{X:Cx}
end
section
variable{X:Cx}
end
section
variable{X:Cx}{tg:Expr}
end
end L2
namespace L2
open PySem PySem.Spec PyProof.Rows
section
variable{X:Cx}
end
section
variable{prog:Program}{w:World}{A:Around}{E:xB}{s:Shared}
def qb5{t sl:Addr}{J:Array Value}{vl vu:Value}{lo hi:Option Int}{Q:xB}(O:IsTup s.heap t J)(hs:s.heap.IsSliceOf sl vl vu .none)(pl:IsPart vl lo)(pu:IsPart vu hi)
    (hw:HT.sIx J.size 0 lo=0/\HT.sIx J.size J.size hi=J.size) (h:Q (.ref t) s):wpAny (model prog w) A (getItem (.ref t) (.ref sl)) Q E s:=by
  obtain⟨os,a2,a1,hds⟩:=id hs;have Z:s.TypeIs (.ref sl) "slice":=⟨os,a2,a1⟩;unfold getItem
  try with_reducible refine z33 ?_
  first | refine z3p (z3o ?_) | skip
  refine z3p (wpAny_sequenceKey O.typeIs (by decide) ?_);refine z3p (wpAny_callSpecial?_slot (name:=Str.ofString "__getitem__") O.typeIs PyProof.Rows.slot_tuple_getitem
    (z26 PyProof.Rows.slot_tuple_getitem O.typeIs entry_tuple_getitem ?_ (args_tuple_getitem _ _)))
  show wpAny _ _ (Builtin.Tuple.tupleItemsOf (.ref t) >>=_) _ _ s;refine z3p (tupleItemsOf_ O ?_);refine z3p (wpAny_typeOf Z ?_);rw[if_pos (by decide)];refine z3p (HT.sliceApplied_gen hs pl pu ?_);have Y:(((HT.sIx J.size 0 lo:Nat):Int)==0&&(1:Int)==1&&(HT.sIx J.size J.size hi - HT.sIx J.size 0 lo)==J.size)=true:=by
    rw[hw.1,hw.2];simp
  show wpAny _ _ (if (((HT.sIx J.size 0 lo:Nat):Int)==0&&(1:Int)==1&&(HT.sIx J.size J.size hi - HT.sIx J.size 0 lo)==J.size)=true then _ else _) _ _ s;rw[if_pos Y];refine z3p (m:=Builtin.Tuple.tupleIsExact (.ref t)) (z3p (m:=typeOf (.ref t)) (wpAny_typeOf O.typeIs (z3o ?_)));rw[if_pos (by decide)]
  first
    | exact z3p (z3n (z3o ⟨_,rfl,z3o h⟩))
    | exact z3n (z3o ⟨_,rfl,z3o h⟩)
    | exact z3n (z3p (z3o (z3o ⟨_,rfl,z3o h⟩)))
    | exact z3p (z3n (z3p (z3o (z3o ⟨_,rfl,z3o h⟩))))
    | skip
end
section
variable{X:Cx}
def rSlA(K:xA):V->Option Int->Option Int->Hp->VK->Prop:=λx lo hi H Q=>∃a xs,x= .ref a/\SqT K H a xs/\∀p H',Same H H'->SqT K H' p (cutV xs lo hi)->Q (.ref p) H'
def q81(K:xA)(hK:X.K=K:=by rfl):SlR X (rSlA K):=by
 subst hK;intro xC s σ H x v vl vu lo hi sl Q I rx Y pl pu h;obtain⟨a,xs,rfl,O,q⟩:=h;by_cases hw:HT.sIx xs.length 0 lo=0/\HT.sIx xs.length xs.length hi=xs.length
 ·cases rx
  obtain⟨its,r,Z,hz⟩:=I.tuple O;have J:its.toArray.size=xs.length:=by rw[z1n];exact r.length.symm
  refine⟨"tuple",_,PyProof.Rows.slot_tuple_getitem.lookup,Z.typeIs,?_⟩;refine qb5 Z Y pl pu (by rw[J];exact hw) ⟨.ref a,H,I,rfl,q a H (Same.refl H) ?_⟩;have:cutV xs lo hi=xs:=by
   unfold cutV;rw[hw.1,hw.2,List.drop_zero,Nat.sub_zero,z2b]
  rw[this];exact O
 ·exact qw0 xC s σ H _ v vl vu lo hi sl Q I rx Y pl pu ⟨a,xs,zr,O,hw,λp hp=>q p _ (qc hp) (SqT.of qb)⟩
end
section
variable{X:Cx}
def qxx:R2:=λx y H Q=>∃a b xs ys,x= .ref a/\y= .ref b/\H a=some (.tup xs)/\H b=some (.tup ys)/\xs.length+ys.length<=sizeLine/\∀p H',Same H H'->H' p=some (.tup (xs++ys))->Q (.ref p) H'
def qmb:OpR X (binaryOp .Add) qxx:=by
 intro xC s σ H x y v u Q I rx ry h;obtain⟨a,b,xs,ys,rfl,rfl,ha,hb,hz,q⟩:=h;by_cases hx:xs=[]
 ·subst hx;cases rx
  cases ry
  obtain⟨its,r1,p1,_⟩:=I.tuple (SqT.of (K:=X.K) ha);obtain⟨Z,r2,p2,_⟩:=I.tuple (SqT.of (K:=X.K) hb);have e0:its=[]:=r1.qcn.mpr rfl;subst e0;obtain⟨⟨cls,dd,data,sl⟩,ho,hc,n,hd⟩:=id p1;obtain⟨⟨a4,a2,a1,a3⟩,Y,J,n2,O⟩:=id p2;simp only at hc hd J O;subst hc hd J O;exact concat_meets ⟨_,ho,zr⟩ ⟨_,Y,zr⟩ noFill_tuple_add seq_tuple_add PySem.F.slot_tuple_add PySem.F.entry_tuple_add (PySem.F.args_tuple_add_2 _ _)
   (tuple_addW0 a b #[] Z.toArray n n2 dd a2 sl a3 rfl) ⟨ho,Y,⟨.ref b,H,I,rfl,q b H (Same.refl _) hb⟩⟩
 ·refine qtl xC s σ H _ _ v u Q I rx ry ⟨a,b,xs,ys,zr,zr,SqT.of ha,SqT.of hb,hx,hz,λe=>?_,λ_ p hp=>q p _ (qc hp) qb⟩;subst e;exact q a H (Same.refl _) (by rw[z2i];exact ha)
end
section
variable{prog:Program}{w:World}{A:Around}{E:xB}{s:Shared}
def qct{it t:Addr}{i:Nat}{J:Array Value}{x:Value}{Q:xB}(O:s.heap.IsTupleIter it t i)(ht:s.heap.IsTuple t J)(hx:J[i]? =some x)
  (hQ:∀h',h'.IsTupleIter it t (i+1)->Heap.SameBut it s.heap h'->Q x {s with heap:=h'}):
  wpAny (model prog w) A (Builtin.SmallTypes.nextOf (.ref it)) Q E s:=by
 obtain⟨o,ho,hc,hd⟩:=id O;obtain⟨ol,Z,_,nl,Y⟩:=ht;unfold Builtin.SmallTypes.nextOf;refine z3p (wpAny_callSpecial?_slot (name:=Str.ofString "__next__") O.typeIs F.slot_tuple_iterator_next
  (z26 F.slot_tuple_iterator_next O.typeIs F.entry_tuple_iterator_next ?_ (F.args_tuple_iterator_next_1 _)))
 show wpAny _ _ (field (.ref it) 0 >>=_) _ _ s;refine z3p (wpAny_field ho hd (x:= .ref t) rfl ?_);show wpAny _ _ (if (Value.ref t==Value.none)=true then _ else _) _ _ s;rw[if_neg (show ¬ ((Value.ref t==Value.none)=true) from z19)];show wpAny _ _ (field (.ref it) 1 >>=_) _ _ s;refine z3p (wpAny_field ho hd (x:= .int i 0) rfl ?_);show wpAny _ _ (seqItems? (.ref t) >>=_) _ _ s;refine z3p (wpAny_seqItems Z Y ?_);simp only[z1q,hx];refine z3p (z2y ho hd (by simp) (z3o ⟨x,zr,z3o (hQ _ ?_ (z10 ..))⟩));exact⟨_,z0r _ ho (Obj.isFreed_of_fields (Obj.data_mapFields hd _)),(Obj.cls_mapFields ..).trans hc,by
  rw[Obj.data_mapFields hd];simp[rawInt]⟩
def qdr{it t:Addr}{i:Nat}{J:Array Value}{Q:xB}(hh:A.handled=none)(O:s.heap.IsTupleIter it t i)(ht:s.heap.IsTuple t J)(hx:J[i]? =none)
    (hE:∀h' e,Heap.ExtBut it s.heap h'->(∃o,h'.get? e=some o/\o.cls= .type "StopIteration")->E (.ref e) {s with heap:=h'}):
    wpAny (model prog w) A (Builtin.SmallTypes.nextOf (.ref it)) Q E s:=by
  obtain⟨o,ho,hc,hd⟩:=id O;obtain⟨ol,Z,_,nl,Y⟩:=ht;unfold Builtin.SmallTypes.nextOf;refine z3p (wpAny_callSpecial?_slot (name:=Str.ofString "__next__") O.typeIs F.slot_tuple_iterator_next
    (z26 F.slot_tuple_iterator_next O.typeIs F.entry_tuple_iterator_next ?_ (F.args_tuple_iterator_next_1 _)))
  show wpAny _ _ (field (.ref it) 0 >>=_) _ _ s;refine z3p (wpAny_field ho hd (x:= .ref t) rfl ?_);show wpAny _ _ (if (Value.ref t==Value.none)=true then _ else _) _ _ s;rw[if_neg (show ¬ ((Value.ref t==Value.none)=true) from z19)];show wpAny _ _ (field (.ref it) 1 >>=_) _ _ s;refine z3p (wpAny_field ho hd (x:= .int i 0) rfl ?_);show wpAny _ _ (seqItems? (.ref t) >>=_) _ _ s;refine z3p (wpAny_seqItems Z Y ?_);simp only[z1q,hx];refine z3p (z3n (z3p (z2y ho hd (by simp) ?_)));show wpAny _ _ (newExc (.type "StopIteration") [] >>=_) _ _ _;refine z3p ?_;simp only[newExc,newTuple];refine z3p (z1s ?_ (by size_fits));refine z3p (m:=firstArgMember _ _) (wpAny_of_eq (a:=Value.none) (by first | rfl | (simp only[firstArgMember];rfl)) ?_);refine z1s ?_ (by size_fits);simp only[raiseNew];refine z3p (wpAny_handled ?_)
  first | rw[show A.in1.handled=none from hh] | rw[hh]
  refine z3p (z3o (wpAny_throw ?_));exact hE _ _ (((z10 ..).extBut.push _).push _) ⟨_,z11 _ rfl,zr⟩
def q4a(hh:A.handled=none)(it t:Addr)(Z:t≠it)(J:Array Value):
  Draws prog w A it [it,t] J.size (λi v=>J[i]? =some v) (λi h=>h.IsTupleIter it t i/\h.IsTuple t J) where
 live:=λ_ _ st=>let ⟨o,ho,_⟩:=st.1;⟨o,ho⟩
 frame:=λ_ _ _ st hk=>⟨st.1.at λo e=>hk it (by simp) o e,let ⟨o,e,r⟩:=st.2;⟨o,hk t (by simp) o e,r⟩⟩
 item:=λi s Q E hi st hQ=>by
  refine qct st.1 st.2 (x:=J[i]) (by simp[hi]) λh' O Y=>?_;exact hQ _ h' s.toks (by simp[hi]) ⟨O,st.2.extBut Y.extBut Z⟩ Y
 done:=λs Q E st hE=>qdr hh st.1 st.2 (by simp) hE
structure ZAp (z TI TO i1 i2:Addr) (f1 f2:List Addr):Prop where
 TIz:TI≠z
 TOz:TO≠z
 i1z:i1≠z
 i2z:i2≠z
 TITO:TI≠TO
 TIi1:TI≠i1
 TIi2:TI≠i2
 TOi1:TO≠i1
 TOi2:TO≠i2
 i12:i1≠i2
 z1:z∉f1
 TO1:TO∉f1
 i21:i2∉f1
 z2:z∉f2
 TO2:TO∉f2
 i1f:i1∉f2
def q5k{it:Addr}{h h':Heap}{f:List Addr}(x:Heap.ExtBut it h h')(n:it∉f):∀b∈f,∀o,h.get? b=some o->h'.get? b=some o:=λb hb o e=>x b o (λz=>n (z ▸ hb)) e
def qrp{z TI TO i1 i2:Addr}{f1 f2:List Addr}{n1 n2 k1 k2:Nat}{P1 P2:Nat->Value->Prop}{S1 S2:Nat->Heap->Prop}{a b:Value}{Q:xB}(D:ZAp z TI TO i1 i2 f1 f2)
  (D1:Draws prog w A i1 f1 n1 P1 S1) (D2:Draws prog w A i2 f2 n2 P2 S2)
  (hz:IsZip s.heap z TI TO .none) (c9:IsPair s.heap TI (.ref i1) (.ref i2)) (d0:IsPair s.heap TO a b)
  (h1:S1 k1 s.heap) (h2:S2 k2 s.heap) (hx:k1 < n1) (hy:k2 < n2)
  (hQ:∀x y h' tk,P1 k1 x->P2 k2 y->IsZip h' z TI TO (rawInt s.heap.objs.size)->IsPair h' TO x y->S1 (k1+1) h'->S2 (k2+1) h'->IsPair h' s.heap.objs.size x y->h'.objs.size=s.heap.objs.size+1->
   (∀c o,c≠z->c≠TO->c≠i1->c≠i2->s.heap.get? c=some o->h'.get? c=some o)->Q (.ref s.heap.objs.size) {s with heap:=h',toks:=tk}):
  wpAny (model prog w) A (Builtin.«zip.__next__» ⟨[.ref z],[]⟩) (λfin s'=>∃v,fin= .done (.ret v)/\Q v s') E s:=by
 obtain⟨hp,g,d,tk₀,os⟩:=s;show wpAny _ _ (field (.ref z) 2 >>=_) _ _ _;refine z3p (wpAny_field hz rfl (x:= .bool false) rfl ?_);show wpAny _ _ (field (.ref z) 3 >>=_) _ _ _;refine z3p (wpAny_field hz rfl (x:= .ref TI) rfl ?_);refine z3p (wpAny_seqItems c9 rfl ?_);show wpAny _ _ (Builtin.SmallTypes.ownedTupleIsFree (.ref z) >>=_) _ _ _;refine z3p ?_;unfold Builtin.SmallTypes.ownedTupleIsFree;refine z3p (wpAny_field hz rfl (x:= .none) rfl (z3o ?_));simp only[if_true];refine z3p (z3n ?_);refine z3p (wpAny_field hz rfl (x:= .ref TO) rfl ?_);refine z3p (wpAny_setField_rec hz (by simp) λh₁ b1 Z=>?_)
 replace b1:IsZip h₁ z TI TO .ellipsis:=b1
 refine z3p ?_;simp only[List.zipIdx_cons,List.zipIdx_nil,List.forIn_cons,List.forIn_nil];refine z3p (z3p (wpAny_onRaise ?_));show wpAny _ _ (Builtin.SmallTypes.nextOf (.ref i1) >>=_) _ _ _;have b7:S1 k1 h₁:=D1.frame _ _ _ h1 (q5k Z.extBut D.z1);refine z3p (D1.item k1 _ _ _ hx b7 λx h₂ tk₂ c7 b8 a1=>z3o ?_);have a6:IsPair h₂ TO a b:=a1.extBut _ _ D.TOi1 (Z.extBut _ _ D.TOz d0);refine z3p (wpAny_seqItems a6 rfl ?_);refine z3p (wpAny_updateSeq_pair a6 λh₃ Y a2=>?_)
 replace Y:IsPair h₃ TO x b:=Y
 refine z3p (wpAny_letGo (z3o ?_));refine z3p (z3p (wpAny_onRaise ?_));show wpAny _ _ (Builtin.SmallTypes.nextOf (.ref i2) >>=_) _ _ _;have c0:S2 k2 h₃:=D2.frame _ _ _ (D2.frame _ _ _ (D2.frame _ _ _ h2 (q5k Z.extBut D.z2)) (q5k a1.extBut D.i1f)) (q5k a2.extBut D.TO2);refine z3p (D2.item k2 _ _ _ hy c0 λy h₄ tk₄ c8 c5 a3=>z3o ?_);have a7:IsPair h₄ TO x b:=a3.extBut _ _ D.TOi2 Y;refine z3p (wpAny_seqItems a7 rfl ?_);refine z3p (wpAny_updateSeq_pair a7 λJ O a4=>?_)
 replace O:IsPair J TO x y:=O
 refine z3p (wpAny_letGo (z3o (z3o ?_)));refine z3p (wpAny_seqItems O rfl ?_);refine z3p (wpAny_newTuple ?_);have hsz:J.objs.size=hp.objs.size:=by rw[a4.1,a3.1,a2.1,a1.1,Z.1]
 have b6:IsZip J z TI TO .ellipsis:=a4.extBut _ _ D.TOz.symm (a3.extBut _ _ D.i2z.symm (a2.extBut _ _ D.TOz.symm (a1.extBut _ _ D.i1z.symm b1)));have d1:∀c o,c≠z->c≠TO->c≠i1->c≠i2->hp.get? c=some o->J.get? c=some o:=λc o c1 c2 c3 c4 e=>
  a4.extBut _ _ c2 (a3.extBut _ _ c4 (a2.extBut _ _ c2 (a1.extBut _ _ c3 (Z.extBut _ _ c1 e))))
 have b9:S1 (k1+1) J:=D1.frame _ _ _ (D1.frame _ _ _ (D1.frame _ _ _ b8 (q5k a2.extBut D.TO1)) (q5k a3.extBut D.i21)) (q5k a4.extBut D.TO1);have c6:S2 (k2+1) J:=D2.frame _ _ _ c5 (q5k a4.extBut D.TO2);have a8:z < J.objs.size:=z3b b6;show wpAny _ _ (Builtin.SmallTypes.ownedTupleHandOut (.ref z) (.ref J.objs.size) >>=_) _ _ _;refine z3p ?_;unfold Builtin.SmallTypes.ownedTupleHandOut;have d2:IsZip (J.push {cls:= .type "tuple",data:= .seq #[x,y]}) z TI TO .ellipsis:=z0l _ b6;refine z3p (wpAny_setField_rec d2 (by simp) λh₇ b3 a9=>?_)
 replace b3:IsZip h₇ z TI TO (rawInt J.objs.size):=b3
 refine wpAny_setField_rec b3 (by simp) λh₈ a5 b0=>?_
 replace a5:IsZip h₈ z TI TO (rawInt J.objs.size):=a5
 have up:∀c o,c≠z->J.get? c=some o->h₈.get? c=some o:=λc o c1 e=>b0.extBut _ _ c1 (a9.extBut _ _ c1 (z0l _ e));have b4:IsPair h₈ J.objs.size x y:=b0.extBut _ _ (z3e a8) (a9.extBut _ _ (z3e a8) (z11 _ rfl));have b5:h₈.objs.size=J.objs.size+1:=by rw[b0.1,a9.1,z2v]
 rw[hsz]at a5 b4 b5;refine z3o ⟨_,zr,?_⟩;show Q (.ref J.objs.size) _;rw[hsz];exact hQ x y h₈ _ c7 c8 a5 (up _ _ D.TOz O) (D1.frame _ _ _ b9 λb hb o e=>up b o (λq=>D.z1 (q ▸ hb)) e) (D2.frame _ _ _ c6 λb hb o e=>up b o (λq=>D.z2 (q ▸ hb)) e) b4 b5 λc o c1 c2 c3 c4 e=>up c o c1 (d1 c o c1 c2 c3 c4 e)
def qu7{z TI TO i1 i2:Addr}{f1 f2:List Addr}{n1 n2 k1 k2:Nat}{P1 P2:Nat->Value->Prop}{S1 S2:Nat->Heap->Prop}{a b:Value}{Q:Fin->Shared->Prop}(D:ZAp z TI TO i1 i2 f1 f2)
  (D1:Draws prog w A i1 f1 n1 P1 S1) (D2:Draws prog w A i2 f2 n2 P2 S2)
  (hz:IsZip s.heap z TI TO .none) (b3:IsPair s.heap TI (.ref i1) (.ref i2)) (b4:IsPair s.heap TO a b)
  (h1:S1 k1 s.heap) (h2:S2 k2 s.heap) (a6:k1=n1\/ (k1 < n1/\k2=n2))
  (hE:∀h' tk e,(∀c o,c≠z->c≠TO->c≠i1->c≠i2->s.heap.get? c=some o->h'.get? c=some o)->(∃o,h'.get? e=some o/\o.cls= .type "StopIteration")->E (.ref e) {s with heap:=h',toks:=tk}):
  wpAny (model prog w) A (Builtin.«zip.__next__» ⟨[.ref z],[]⟩) Q E s:=by
 obtain⟨hp,g,d,tk₀,os⟩:=s;show wpAny _ _ (field (.ref z) 2 >>=_) _ _ _;refine z3p (wpAny_field hz rfl (x:= .bool false) rfl ?_);show wpAny _ _ (field (.ref z) 3 >>=_) _ _ _;refine z3p (wpAny_field hz rfl (x:= .ref TI) rfl ?_);refine z3p (wpAny_seqItems b3 rfl ?_);show wpAny _ _ (Builtin.SmallTypes.ownedTupleIsFree (.ref z) >>=_) _ _ _;refine z3p ?_;unfold Builtin.SmallTypes.ownedTupleIsFree;refine z3p (wpAny_field hz rfl (x:= .none) rfl (z3o ?_));simp only[if_true];refine z3p (z3n ?_);refine z3p (wpAny_field hz rfl (x:= .ref TO) rfl ?_);refine z3p (wpAny_setField_rec hz (by simp) λh₁ a2 a1=>?_)
 replace a2:IsZip h₁ z TI TO .ellipsis:=a2
 refine z3p ?_;simp only[List.zipIdx_cons,List.zipIdx_nil,List.forIn_cons,List.forIn_nil];refine z3p (z3p (wpAny_onRaise ?_));show wpAny _ _ (Builtin.SmallTypes.nextOf (.ref i1) >>=_) _ _ _;have a5:S1 k1 h₁:=D1.frame _ _ _ h1 (q5k a1.extBut D.z1);rcases a6 with hx | ⟨hx,hy⟩
 ·subst hx;refine z3p (D1.done _ _ _ a5 λh₂ e O he=>?_);obtain⟨oe,J,Z⟩:=he;have a9:IsZip h₂ z TI TO .ellipsis:=O _ _ D.i1z.symm a2;have a4:e≠z:=λx=>by subst x;rw[a9]at J;cases J;simp at Z
  refine wpAny_setField_rec a9 (by simp) λh₃ _ Y=>hE h₃ _ e (λc o c1 _ c3 _ x=>Y.extBut _ _ c1 (O _ _ c3 (a1.extBut _ _ c1 x))) ⟨oe,Y.extBut _ _ a4 J,Z⟩
 ·subst hy;refine z3p (D1.item k1 _ _ _ hx a5 λx h₂ tk₂ hPx h1₂ O=>z3o ?_);have a3:IsPair h₂ TO a b:=O.extBut _ _ D.TOi1 (a1.extBut _ _ D.TOz b4);refine z3p (wpAny_seqItems a3 rfl ?_);refine z3p (wpAny_updateSeq_pair a3 λh₃ b5 Y=>?_);refine z3p (wpAny_letGo (z3o ?_));refine z3p (z3p (wpAny_onRaise ?_));show wpAny _ _ (Builtin.SmallTypes.nextOf (.ref i2) >>=_) _ _ _;have b1:S2 k2 h₃:=D2.frame _ _ _ (D2.frame _ _ _ (D2.frame _ _ _ h2 (q5k a1.extBut D.z2)) (q5k O.extBut D.i1f)) (q5k Y.extBut D.TO2);refine z3p (D2.done _ _ _ b1 λh₄ e a7 he=>?_);obtain⟨oe,J,Z⟩:=he;have b0:IsZip h₄ z TI TO .ellipsis:=a7 _ _ D.i2z.symm (Y.extBut _ _ D.TOz.symm (O.extBut _ _ D.i1z.symm a2));have a4:e≠z:=λx=>by subst x;rw[b0]at J;cases J;simp at Z
  refine wpAny_setField_rec b0 (by simp) λh₅ _ a8=>hE h₅ _ e (λc o c1 c2 c3 c4 x=>a8.extBut _ _ c1 (a7 _ _ c4 (Y.extBut _ _ c2 (O.extBut _ _ c3 (a1.extBut _ _ c1 x))))) ⟨oe,a8.extBut _ _ a4 J,Z⟩
def qkx{z TI TO J O:Addr}{f1 f2:List Addr}{n1 n2 k1 k2:Nat}{P1 P2:Nat->Value->Prop}{S1 S2:Nat->Heap->Prop}{a b:Value}{Q:Option Value->Shared->Prop}(hh:A.handled=none)(D:ZAp z TI TO J O f1 f2)
  (D1:∀A:Around,A.handled=none->Draws prog w A J f1 n1 P1 S1) (D2:∀A:Around,A.handled=none->Draws prog w A O f2 n2 P2 S2)
  (hz:IsZip s.heap z TI TO .none) (Y:IsPair s.heap TI (.ref J) (.ref O)) (Z:IsPair s.heap TO a b)
  (h1:S1 k1 s.heap) (h2:S2 k2 s.heap) (hx:k1 < n1) (hy:k2 < n2)
  (hQ:∀x y h' tk,P1 k1 x->P2 k2 y->IsZip h' z TI TO (rawInt s.heap.objs.size)->IsPair h' TO x y->S1 (k1+1) h'->S2 (k2+1) h'->IsPair h' s.heap.objs.size x y->h'.objs.size=s.heap.objs.size+1->
   (∀c o,c≠z->c≠TO->c≠J->c≠O->s.heap.get? c=some o->h'.get? c=some o)->Q (some (.ref s.heap.objs.size)) {s with heap:=h',toks:=tk}):
  wpAny (model prog w) A (pyNext (.ref z)) Q E s:=by
 have hT:s.TypeIs (.ref z) "zip":=⟨_,hz,rfl⟩;unfold pyNext;exact z3p (z31 (wpAny_callSpecial?_slot (name:=Str.ofString "__next__") hT F.slot_zip_next
  (z26 F.slot_zip_next hT F.entry_zip_next
   (qrp D (D1 _ hh) (D2 _ hh) hz Y Z h1 h2 hx hy λx y h' tk a1 a2 a3 a4 a5 a6 a7 a8 a9=>z3o (hQ x y h' tk a1 a2 a3 a4 a5 a6 a7 a8 a9)) (F.args_zip_next_1 _))))
def qew{z TI TO O Y:Addr}{f1 f2:List Addr}{n1 n2 k1 k2:Nat}{P1 P2:Nat->Value->Prop}{S1 S2:Nat->Heap->Prop}{a b:Value}{Q:Option Value->Shared->Prop}(hh:A.handled=none)(D:ZAp z TI TO O Y f1 f2)
  (D1:∀A:Around,A.handled=none->Draws prog w A O f1 n1 P1 S1) (D2:∀A:Around,A.handled=none->Draws prog w A Y f2 n2 P2 S2)
  (hz:IsZip s.heap z TI TO .none) (Z:IsPair s.heap TI (.ref O) (.ref Y)) (a1:IsPair s.heap TO a b)
  (h1:S1 k1 s.heap) (h2:S2 k2 s.heap) (J:k1=n1\/ (k1 < n1/\k2=n2))
  (hQ:∀h' tk,(∀c o,c≠z->c≠TO->c≠O->c≠Y->s.heap.get? c=some o->h'.get? c=some o)->Q none {s with heap:=h',toks:=tk}):wpAny (model prog w) A (pyNext (.ref z)) Q E s:=by
 have hT:s.TypeIs (.ref z) "zip":=⟨_,hz,rfl⟩;unfold pyNext;refine z3p (z31 (wpAny_callSpecial?_slot (name:=Str.ofString "__next__") hT F.slot_zip_next
  (z26 F.slot_zip_next hT F.entry_zip_next (qu7 D (D1 _ hh) (D2 _ hh) hz Z a1 h1 h2 J λh' tk e hk he=>?_) (F.args_zip_next_1 _))))
 obtain⟨o,ho,hc⟩:=he;refine z3p (wpAny_isInstance (T:="StopIteration") (b:=true) ⟨o,ho,hc⟩ isSubtype_stop ?_);exact z3o (hQ _ _ hk)
end
section
variable{X:Cx}{xC:xG}{σ:St}{H:Hp}{s:Shared}{h':Heap}
def FpOk.ch{fp:List Addr}(hf:∀b∈fp,FpOk X xC H b):∀b∈fp,(b∈X.ex\/ X.s₀.heap.objs.size<=b)/\b≠X.env.locals/\(∀x c,X.env.cells.lookup x=some c->c≠b)/\∀p∈X.pn++xC,p.1≠b:=λb hb=>
 let ⟨_,f1,_,f3,f4,f5⟩:=hf b hb;⟨f3,f1,f4,f5⟩
def q4b{fp:List Addr}{t':Nat}(I:Inv X xC σ H s)(Y:∀b∈fp,FpOk X xC H b)(k:∀b o,b∉fp->s.heap.get? b=some o->h'.get? b=some o):Inv X xC σ H {s with heap:=h',toks:=t'}:=by
 have O:∀b u,H b=some u->b∉fp:=λb u e z=>by rw[(Y b z).1]at e;cases e
 refine I.step (g':=s.gens) (d':=s.drawn) (ch:=fp) (FpOk.ch Y) (λb o _ _ J e _=>k b o J e) (λb o _ _ J e _=>⟨o.slots,k b o J e⟩) (λ_ _ _ _ n=>n)
  (λb o J e=>⟨o,k b o J e⟩) (λ_ _ e=>e) (λ_ _ _ e=>e) (λb ps e=>⟨#[],by rw[e];simp⟩) (λm hm=>?_) (λb u e=>?_) I.bare
 ·obtain⟨o,es,ep,ho,r⟩:=hm;exact⟨o,es,ep,k _ o (λz=>(Y _ z).2.1 rfl) ho,r⟩
 ·refine(I.hok b u e).stay (λc v J q=>k c v ?_ q) (λ_ q=>q) λ_ _ q=>q;rcases J with z | z
  ·rw[z];exact O b u e
  ·exact O c _ z
def q9f{fp:List Addr}{t':Nat}{a:Addr}{o:HO}(I:Inv X xC σ H s)(Y:∀b∈fp,FpOk X xC H b)(k:∀b o,b∉fp->s.heap.get? b=some o->h'.get? b=some o)(Z:s.heap.objs.size<=a)
  (new:ObjOk X.prog X.w (upd H a o) h' a o):Inv X xC σ (upd H a o) {s with heap:=h',toks:=t'}:=by
 have hn:H a=none:=I.hok.fresh Z;have O:∀b u,H b=some u->b∉fp:=λb u e z=>by rw[(Y b z).1]at e;cases e
 have old:∀{b u},H b=some u->upd H a o b=some u:=λ{b u} q=>by rw[qk (q2s q hn)];exact q
 refine I.step (g':=s.gens) (d':=s.drawn) (ch:=fp) (FpOk.ch Y) (λb o _ _ J e _=>k b o J e) (λb o _ _ J e _=>⟨o.slots,k b o J e⟩)
  (λb u J e n=>by rw[qk (z3c (z1e (z3b e) Z))];exact n)
  (λb o J e=>⟨o,k b o J e⟩) (λb xs e=>old e) (λb o u e=>old e) (λb ps e=>⟨#[],by rw[old e];simp⟩) (λm hm=>?_) (λb u e=>?_) I.bare
 ·obtain⟨o,es,ep,ho,r⟩:=hm;exact⟨o,es,ep,k _ o (λz=>(Y _ z).2.1 rfl) ho,r⟩
 ·by_cases hb:b=a
  ·subst hb;rw[qb]at e;cases e
   exact new
  ·rw[qk hb]at e;refine(I.hok b u e).stay (λc v J q=>k c v ?_ q) (λc q=>old q) λc xs q=>old q;rcases J with z | z
   ·rw[z];exact O b u e
   ·exact O c _ z
end
def Itz(K:xA)(a b:Addr):It:=
  ⟨λi H=>∃xs ys x y,SqT K H a xs/\SqT K H b ys/\xs[i]? =some x/\ys[i]? =some y,
   λi H v H'=>∃p x y,v= .ref p/\H p=none/\H'=upd H p (.tup [x,y])/\∀xs ys,SqT K H a xs->SqT K H b ys->xs[i]? =some x/\ys[i]? =some y,
   λi H=>∃xs ys,SqT K H a xs/\SqT K H b ys/\i=min xs.length ys.length⟩
def qrq{P:Program}{w:World}{K:xA}{elts:List Expr}{kk}{pos:Pos}(z TI TO i1 i2 a b:Addr)(D:ZAp z TI TO i1 i2 [i1,a] [i2,b])(ha:a≠i1)(hb:b≠i2):
  Turn P w K (.Tuple elts kk pos) (Itz K a b) [z,TI,TO,i1,i2] z
   (λi h=>IsZip h z TI TO .none/\IsPair h TI (.ref i1) (.ref i2)/\(∃u v,IsPair h TO u v)/\h.IsTupleIter i1 a i/\h.IsTupleIter i2 b i) where
 mem:=by simp
 obj:=λi h st c J=>by
  obtain⟨hz,O,⟨u,v,Y⟩,⟨o1,e1,_,d1⟩,⟨o2,e2,_,d2⟩⟩:=st;simp only[z32,z29,or_false]at J;rcases J with rfl | rfl | rfl | rfl | rfl
  ·exact⟨_,hz,λ_ q=>by cases q⟩
  ·exact⟨_,O,λ_ q=>by cases q⟩
  ·exact⟨_,Y,λ_ q=>by cases q⟩
  ·exact⟨_,e1,λ_ q=>by rw[d1]at q;cases q⟩
  ·exact⟨_,e2,λ_ q=>by rw[d2]at q;cases q⟩
 keep:=λi h h' st k=>by
  obtain⟨hz,O,⟨u,v,Y⟩,h1,h2⟩:=st;exact⟨k z (by simp) _ hz,k TI (by simp) _ O,⟨u,v,k TO (by simp) _ Y⟩,h1.at λo e=>k i1 (by simp) o e,h2.at λo e=>k i2 (by simp) o e⟩
 item:=by
  intro X hP hw hK J i xC s σ H E I hf st hg;subst hP hw hK;obtain⟨xs,ys,x,y,a2,a3,hx,hy⟩:=hg;obtain⟨its,ra,pa,_⟩:=I.tuple a2;obtain⟨a1,rb,pb,_⟩:=I.tuple a3;obtain⟨u,hu,ru⟩:=ra.get hx;obtain⟨v,hv,rv⟩:=rb.get hy;obtain⟨hz,O,⟨u0,v0,Y⟩,h1,h2⟩:=st;have a8:i < its.toArray.size:=by
   have:=(z06.mp hu).1
   simpa using this
  have a9:i < a1.toArray.size:=by
   have:=(z06.mp hv).1
   simpa using this
  refine qkx (I.ok.hd J) D (λA hA=>q4a hA i1 a ha its.toArray) (λA hA=>q4a hA i2 b hb a1.toArray) hz O Y ⟨h1,pa⟩ ⟨h2,pb⟩ a8 a9 λu' v' h' tk e1 e2 b0 a4 b3 b4 hT hsz hk=>?_;have a5:u'=u:=by simpa [hu] using e1.symm
  have a6:v'=v:=by simpa [hv] using e2.symm
  subst a5 a6;refine⟨_,zr,wpAny_letOwnedTupleGo_zip b0 λh2 b1 Z=>?_⟩;have b5:z < s.heap.objs.size:=z3b hz;have a7:IsPair h2 s.heap.objs.size u' v':=Z.extBut _ _ (z3e b5) hT;have I2:Inv X xC σ (upd H s.heap.objs.size (.tup [x,y])) {s with heap:=h2,toks:=tk}:=by
   refine q9f (s:=s) (fp:=[z,TI,TO,i1,i2]) I hf (λc o J e=>?_) (z3j _) ?_
   ·simp only[z32,z29,or_false,not_or]at J;exact Z.extBut _ _ J.1 (hk c o J.1 J.2.2.1 J.2.2.2.1 J.2.2.2.2 e)
   ·exact⟨by show 2<=sizeLine;decide,[u',v'],.cons ru (.cons rv .nil),_,a7,rfl,_,rfl⟩
  refine⟨.ref s.heap.objs.size,upd H s.heap.objs.size (.tup [x,y]),I2,zr,⟨_,x,y,zr,I.fresh,zr,λxs' ys' q1 q2=>?_⟩,⟨b1,?_,⟨_,_,Z.extBut _ _ D.TOz a4⟩,b3.1.extBut Z.extBut D.i1z,b4.1.extBut Z.extBut D.i2z⟩,λc J=>?_⟩
  ·rw[I.q90 q1 a2,I.q90 q2 a3];exact⟨hx,hy⟩
  ·exact Z.extBut _ _ D.TIz (hk _ _ D.TIz D.TITO D.TIi1 D.TIi2 O)
  ·rw[qk]
   ·exact(hf c J).1
   ·simp only[z32,z29,or_false]at J;obtain⟨o1,g1,_⟩:=h1;obtain⟨o2,g2,_⟩:=‹s.heap.IsTupleIter i2 b i›;rcases J with rfl | rfl | rfl | rfl | rfl
    ·exact z3c (z3b hz)
    ·exact z3c (z3b O)
    ·exact z3c (z3b Y)
    ·exact z3c (z3b g1)
    ·exact z3c (z3b g2)
 done:=by
  intro X hP hw hK J i xC s σ H E I hf st hg;subst hP hw hK;obtain⟨xs,ys,a2,a3,hi⟩:=hg;obtain⟨its,ra,pa,_⟩:=I.tuple a2;obtain⟨a1,rb,pb,_⟩:=I.tuple a3;obtain⟨hz,O,⟨u0,v0,Y⟩,h1,h2⟩:=st;have l1:its.toArray.size=xs.length:=by rw[z1n];exact ra.length.symm
  have l2:a1.toArray.size=ys.length:=by rw[z1n];exact rb.length.symm
  refine qew (I.ok.hd J) D (λA hA=>q4a hA i1 a ha its.toArray) (λA hA=>q4a hA i2 b hb a1.toArray) hz O Y ⟨h1,pa⟩ ⟨h2,pb⟩ ?_ λh' tk hk=>⟨zr,q4b I hf λc o J e=>?_⟩
  ·rw[l1,l2];lia
  ·simp only[z32,z29,or_false,not_or]at J;exact hk c o J.1 J.2.2.1 J.2.2.2.1 J.2.2.2.2 e
 self:=λ_ _ _ _ _ st h=>wpAny_pyIter_zip st.1 h
abbrev zpH1(h:Heap)(l1:Addr):Heap:=h.push {cls:= .type "tuple_iterator",data:= .fields #[.ref l1,.int 0 0]}
abbrev zpH2(h:Heap)(l1 l2:Addr):Heap:=(zpH1 h l1).push {cls:= .type "tuple_iterator",data:= .fields #[.ref l2,.int 0 0]}
abbrev zpH3(h:Heap)(l1 l2:Addr):Heap:=(zpH2 h l1 l2).push {cls:= .type "tuple",data:= .seq #[.ref h.objs.size,.ref (zpH1 h l1).objs.size]}
abbrev zpH4(h:Heap)(l1 l2:Addr):Heap:=(zpH3 h l1 l2).push {cls:= .type "tuple",data:= .seq #[.none,.none]}
abbrev zpH5(h:Heap)(l1 l2:Addr):Heap:=(zpH4 h l1 l2).push {cls:= .type "zip",data:= .fields #[.none,.bool false,.bool false,.ref (zpH2 h l1 l2).objs.size,.ref (zpH3 h l1 l2).objs.size]}
def qng(l1 l2:Addr)(xs ys:Array Value):
  Meets (Builtin.«zip.__new__» ⟨[.type "zip",.ref l1,.ref l2],[]⟩) (λ_ R s=>s.heap.IsTuple l1 xs/\s.heap.IsTuple l2 ys/\
   R (.ok (.ret (.ref (zpH4 s.heap l1 l2).objs.size))) {s with heap:=zpH5 s.heap l1 l2}):=
 .of_wp λprog w A R s h=>by
  obtain⟨hp,g,d,tk,os⟩:=s;obtain⟨Y,Z,h⟩:=h;have a1:=sub_zip;have J:Heap.IsTuple (Shared.heap ⟨hp,g,d,tk,os⟩) l1 xs:=Y;have O:Heap.IsTuple (Shared.heap ⟨hp.push {cls:= .type "tuple_iterator",data:= .fields #[.ref l1,.int 0 0]},g,d,tk,os⟩) l2 ys:=Heap.IsTuple.push Z _
  wp_walk using wpAny_pyIter_tuple J,wpAny_pyIter_tuple O
  exact⟨_,zr,h⟩
section
variable{prog:Program}{w:World}{A:Around}{E:xB}{s:Shared}
def qpg{l1 l2:Addr}{xs ys:Array Value}{Q:xB}(J:s.heap.IsTuple l1 xs)(O:s.heap.IsTuple l2 ys)
  (h:∀h',IsZip h' (s.heap.objs.size+4) (s.heap.objs.size+2) (s.heap.objs.size+3) .none->IsPair h' (s.heap.objs.size+2) (.ref s.heap.objs.size) (.ref (s.heap.objs.size+1))->
   IsPair h' (s.heap.objs.size+3) .none .none->h'.IsTupleIter s.heap.objs.size l1 0->h'.IsTupleIter (s.heap.objs.size+1) l2 0->h'.objs.size=s.heap.objs.size+5->
   (∀c o,s.heap.get? c=some o->h'.get? c=some o)->Q (.ref (s.heap.objs.size+4)) {s with heap:=h'}):
  wpAny (model prog w) A (call (.type "zip") [.ref l1,.ref l2]) Q E s:=by
 refine callType_new F.called_zip (by decide) (F.typeCall_zip_2 _ _) (F.newCall_zip_2 _ _) (λobj=>F.args_object_init_3 obj _ _) F.entry_zip_new
  (qng l1 l2 xs ys) ⟨J,O,?_⟩
 have z1:(zpH1 s.heap l1).objs.size=s.heap.objs.size+1:=z2v ..;have z2:(zpH2 s.heap l1 l2).objs.size=s.heap.objs.size+2:=by rw[z2v,z1]
 have Y:(zpH3 s.heap l1 l2).objs.size=s.heap.objs.size+3:=by rw[z2v,z2]
 have Z:(zpH4 s.heap l1 l2).objs.size=s.heap.objs.size+4:=by rw[z2v,Y]
 have z5:(zpH5 s.heap l1 l2).objs.size=s.heap.objs.size+5:=by rw[z2v,Z]
 have g5:(zpH5 s.heap l1 l2).get? (zpH4 s.heap l1 l2).objs.size=some _:=z11 _ rfl;have g4:(zpH5 s.heap l1 l2).get? (zpH3 s.heap l1 l2).objs.size=some _:=z0l _ (z11 _ rfl);have g3:(zpH5 s.heap l1 l2).get? (zpH2 s.heap l1 l2).objs.size=some _:=z0l _ (z0l _ (z11 _ rfl));have g2:(zpH5 s.heap l1 l2).get? (zpH1 s.heap l1).objs.size=some _:=z0l _ (z0l _ (z0l _ (z11 _ rfl)));have g1:(zpH5 s.heap l1 l2).get? s.heap.objs.size=some _:=z0l _ (z0l _ (z0l _ (z0l _ (z11 _ rfl))));show _/\_;rw[z2,Y,Z]at g5;rw[z1,z2]at g3;rw[Y]at g4;rw[z1]at g2;rw[Z];exact⟨⟨_,g5,zr⟩,h _ g5 g3 g4 ⟨_,g1,zr,zr⟩ ⟨_,g2,zr,zr⟩ z5 λc o x=>
  z0l _ (z0l _ (z0l _ (z0l _ (z0l _ x))))⟩
end
def qu8{n a b:Addr}(h1:a < n)(h2:b < n):ZAp (n+4) (n+2) (n+3) n (n+1) [n,a] [n+1,b]:=by
 have D:=PyProof.Rows.zipApart_new (n:=n) (l1:=a) (l2:=b) h1 h2;have no:∀{x y z:Addr},y≠x->z≠x->x∉ [y,z]:=λ{x y z} p q h=>by
  simp only[z32,z29,or_false]at h;rcases h with h | h
  ·exact p h.symm
  ·exact q h.symm
 exact⟨D.TIz,D.TOz,D.i1z,D.i2z,D.TITO,D.TIi1,D.TIi2,D.TOi1,D.TOi2,D.i12,no D.i1z D.l1z,no D.TOi1.symm D.l1TO,no D.i12 D.l1i2,no D.i2z D.l2z,no D.TOi2.symm D.l2TO,no D.i12.symm D.l2i1⟩
section
variable{X:Cx}{elts:List Expr}{pt:Pos}
def iZip(K:xA)(ta:TA):TI:=λσ H R=>ta σ H λvs H1=>∃a b,vs=[.ref a,.ref b]/\(∃xs,SqT K H1 a xs)/\(∃ys,SqT K H1 b ys)/\R (Itz K a b) H1
def qwl(K:xA){kk}{a b:Expr}{ta:TA}{p pos:Pos}(hg:Gl X "zip")(hm:X.mg "zip"=none)(ha:PA X [a,b] ta)(hs:starEach [a,b] X.env=[(false,eval a X.env),(false,eval b X.env)]:=by rfl)(J:starEach [b] X.env=[(false,eval b X.env)]:=by rfl)(hK:X.K=K:=by rfl):
  PI X (.Tuple elts kk pt) (.Call (.Name "zip" p) [a,b] [] pos) (iZip K ta):=by
 subst hK;intro xC s σ H R I h;refine Call_ (q64 I hg hm qwb (z02 (thn (ha pos xC s σ H _ I h) λus s1 a1=>?_) (by rw[hs,J]) (by rw[J];rfl)));obtain⟨vs,H1,I1,r1,q1⟩:=a1;obtain⟨x,y,e,⟨xs,hx⟩,⟨ys,hy⟩,q⟩:=q1;subst e;cases r1 with
 | cons r Z=>
  cases Z with
  | cons r' Z=>
   cases Z
   cases r
   cases r'
   obtain⟨its,ra,pa,_⟩:=I1.tuple hx;obtain⟨jts,rb,pb,_⟩:=I1.tuple hy;have la:x < s1.heap.objs.size:=by obtain⟨_,e,_⟩:=id pa;exact z3b e
   have lb:y < s1.heap.objs.size:=by obtain⟨_,e,_⟩:=id pb;exact z3b e
   refine qpg pa pb λh' hz O Y g1 g2 hsz hk=>wpAny_pyIter_zip hz ?_;refine⟨_,_,_,_,H1,zr,I1.kept (t':=s1.toks) hk,qrq (s1.heap.objs.size+4) (s1.heap.objs.size+2) (s1.heap.objs.size+3) s1.heap.objs.size (s1.heap.objs.size+1) x y (qu8 la lb) (z3c la) (z3c (z1x lb)),⟨hz,O,⟨_,_,Y⟩,g1,g2⟩,λc hc=>?_,q⟩;have le:s1.heap.objs.size<=c:=by
    simp only[z32,z29,or_false]at hc;rcases hc with rfl | rfl | rfl | rfl | rfl
    ·exact Nat.le_add_right _ 4
    ·exact Nat.le_add_right _ 2
    ·exact Nat.le_add_right _ 3
    ·exact z3j _
    ·exact Nat.le_add_right _ 1
   exact I1.fpOk le (I1.hok.fresh le)
end
def qu9{K:xA}{a b:Addr}{xs ys:List V}{g:TG}{tb:TS}{D:Ends}{σ:St}{H:Hp}(Pv:Nat->St->Hp->Prop)(h0:Pv 0 σ H)(hl:∀i σ H,i<=min xs.length ys.length->Pv i σ H->SqT K H a xs/\SqT K H b ys)
  (hs:∀i x y p σ H,xs[i]? =some x->ys[i]? =some y->H p=none->Pv i σ H->g (.ref p) σ (upd H p (.tup [x,y])) λσ2 H2=>tb {D with nx:=Pv (i+1),ct:=Pv (i+1),bk:=D.nx} σ2 H2) (he:∀σ H,Pv (min xs.length ys.length) σ H->D.nx σ H):
  ∃W:Nat->Nat->St->Hp->Prop,(∃m,W 0 m σ H)/\∀i m σ H,W i m σ H->((Itz K a b).stop i H/\D.nx σ H)\/ ((Itz K a b).go i H/\∃N:St->Hp->Prop,(∀σ' H',N σ' H'->∃J,J < m/\W (i+1) J σ' H')/\∀x H',(Itz K a b).yld i H x H'->g x σ H' λσ2 H2=>tb {D with nx:=N,ct:=N,bk:=D.nx} σ2 H2):=by
 refine qp0 (min xs.length ys.length) Pv h0 (λi σ H hi p=>?_) (λσ H p=>⟨⟨xs,ys,(hl _ σ H (z3j _) p).1,(hl _ σ H (z3j _) p).2,zr⟩,he σ H p⟩) λi σ H hi p x H' y=>?_
 ·obtain⟨q1,q2⟩:=hl i σ H (z3a hi) p;have l1:i < xs.length:=by lia
  have l2:i < ys.length:=by lia
  exact⟨xs,ys,xs[i],ys[i],q1,q2,z0b l1,z0b l2⟩
 ·obtain⟨q1,q2⟩:=hl i σ H (z3a hi) p;obtain⟨c,x',y',rfl,hc,rfl,hq⟩:=y;obtain⟨e1,e2⟩:=hq xs ys q1 q2;exact hs i x' y' c σ H e1 e2 hc p
section
variable{X:Cx}
end
theorem MDef.mono{P:Program}{w:World}{K:xA}{mg:xE}{base:Heap}{j k:Nat}{C:Addr}{m:Str}{ps:xD}{sp:Sp}(D:MDef P w K mg base j C m ps sp)(h:j<=k):MDef P w K mg base k C m ps sp:=by
 obtain⟨f,fd,F,hm,hb⟩:=D.ex;exact⟨f,fd,F.mono h,hm,hb⟩
section
variable{X:Cx}{k k':Nat}{ι:Type}{cls:ι->Addr}{ps:xD}{sp:ι->Sp}{x m:Str}{p pos apos:Pos}{e o:Expr}{es:List Expr}{ta:TE}{t:TA}
def qrr{C:Addr}(hg:Gl X x)(hm:X.mg x=some (.ref C))(hd:(x==("__debug__":Str))=false:=by decide):PE X (.Name x pos) (tC (.ref C)):=qfr hg hm rfl hd
end
section
open PySem.AutoSeq1
end
section
variable{X:Cx}
def repS(x:Str)(n:Int):Str:=if n < 1 then Str.empty else if (n==1 || x.length==0)=true then x else {cps:=List.foldl (λa b=>a++b) #[] (List.replicate n.toNat x.cps)}
theorem qh9(a:Array Nat):∀(k:Nat) (J:Array Nat),(List.foldl (λa b=>a++b) J (List.replicate k a)).size=J.size+k*a.size
 | 0,J=>by simp
 | k+1,J=>by
  rw[z13,List.foldl_cons,qh9 a k,Array.size_append,Nat.succ_mul]
  lia
def qua:OpR X (binaryOp .Mult) (λx y H Q=>∃i n,x= .str i/\y= .int n/\0<=n/\n<=1000/\i.length<=1000/\Q (.str (repS i n)) H):=by
  intro xC s σ H x y v u Q I rx ry h;obtain⟨i,n,rfl,rfl,h0,h1,hl,q⟩:=h;obtain⟨t,rfl⟩:=rx;obtain⟨t',rfl⟩:=ry;have hb:i.length*n.toNat<=1000*1000:=z2z hl (by lia);refine P.mul_str (by simp;lia) (λ_ _=>?_) (λ_ _=>?_) ?_
  · have:(1000:Int)<=(2^63 - 1) / n:=by
      refine Int.le_ediv_of_mul_le (by lia) ?_
      lia
    lia
  · unfold Builtin.Str.tooLong
    exact z2d (Nat.not_lt.mpr (z3d hb (show 1000*1000<=sizeLine by decide)))
  · unfold repS at q
    split
    · rename_i h
      rw[if_pos h]at q;exact⟨z3m _,.str _,H,I.tok _,⟨_,zr⟩,q⟩
    · rename_i h
      rw[if_neg h]at q;split
      · rename_i h2
        rw[if_pos h2]at q;exact⟨.str _,H,I,⟨_,zr⟩,q⟩
      · rename_i h2
        rw[if_neg h2]at q;refine⟨?_,.str _,H,I.tok _,⟨_,zr⟩,q⟩;show (List.foldl (λa b=>a++b) #[] (List.replicate n.toNat i.cps)).size<=sizeLine;rw[qh9];have e:i.length=i.cps.size:=rfl;have:1000*1000<=sizeLine:=by decide
        rw[e,Nat.mul_comm]at hb;simp only[z1n,z2l]
        lia
end
section
variable{prog:Program}{w:World}{A:Around}{E:xB}{s:Shared}
end
section
variable{X:Cx}{elts:List Expr}{pt:Pos}
end
section
variable{X:Cx}
def qub(K:xA){o:Expr}{to:TE}{name:Str}{apos cpos:Pos}{T id:String}{r:V->List V->Hp->VK->Prop}(pa:PlainAttrs T)(slot:Slot T name id)(Y:typeOf (.builtin id)=pure (.type "method_descriptor"))(hm:MtR X id r)(ho:PE X o to)
  (J:attributeBase o name X.env (eval o X.env)=eval o X.env:=by rfl) (O:(apos.endLine==cpos.line)=true:=by rfl) (hK:X.K=K:=by rfl):PE X (.Call (.Attribute o name apos) [] [] cpos) (tBM0 K T r to):=by
 subst hK;exact qos pa slot Y hm ho J O
end
end L2
namespace L2
open PySem PySem.Spec PyProof.Rows PySem.W
section
variable{prog:Program}{w:World}{A:Around}{E:xB}{s:Shared}
end
section
variable{X:Cx}
def quc{k:Nat}{f:Addr}{fd:FuncData}{ps:xD}{sp:Sp}{xC:xG}{σ:St}{H:Hp}{s:Shared}{Q:VK}{us:xH}{vs:List V}(F:FnOk X.prog X.w X.K X.mg X.base CX0 k f fd ps sp)(hr:Room (k+2) X.A)(hb:Binds X.K fd ps [])
  (I:Inv X xC σ H s) (r:Vals vs us) (h:sp vs H Q E0):wpAny (model X.prog X.w) X.A.in1.in1 (call (.ref f) us) (EP X xC σ Q) (λ_ _=>False) s:=by
 have hl:(us++ []).length=ps.length:=by
  rw[z2i,<- r.length];exact F.len _ _ _ _ h
 have J:=hb s us I.kIn hl;rw[z2i]at J;refine wpAny_call (z3f (F.run X.A.in1.in1 X.stack s H ⟨us,[]⟩ us vs Q E0 hr.in1.in1 I.env0.in1.in1 J r h) λr s' hq=>?_);cases r with
 | error e=>exact hq.elim
 | ok fl=>
  cases fl with
  | ret u=>exact I.after hq
  | next=>exact False.elim hq
  | brk=>exact False.elim hq
  | cont=>exact False.elim hq
def Inv.track{xC:xG}{σ:St}{H:Hp}{s:Shared}{a:Addr}{o:HO}(I:Inv X xC σ H s)(fa:FpOk X xC H a)(new:ObjOk X.prog X.w (upd H a o) s.heap a o):Inv X xC σ (upd H a o) s:=by
 have hn:H a=none:=fa.1;have old:∀{b u},H b=some u->upd H a o b=some u:=λ{b u} q=>by rw[qk (q2s q hn)];exact q
 have:=I.step (h':=s.heap) (H':=upd H a o) (t':=s.toks) (g':=s.gens) (d':=s.drawn) (ch:=[a]) (FpOk.ch (λb hb=>by rw[z1a.mp hb];exact fa)) (λb o _ _ J e _=>e) (λb o _ _ J e _=>⟨o.slots,e⟩)
  (λb u J e n=>by rw[qk (λz=>J (by rw[z];exact z1a.mpr rfl))];exact n)
  (λb o J e=>⟨o,e⟩) (λb xs e=>old e) (λb o u e=>old e) (λb ps e=>⟨#[],by rw[old e];simp⟩) (λm hm=>hm) (λb u e=>?_) I.bare
 ·exact this
 ·by_cases hb:b=a
  ·subst hb;rw[qb]at e;cases e
   exact new
  ·rw[qk hb]at e;exact(I.hok b u e).stay (λc v J q=>q) (λ_ q=>old q) λ_ _ q=>old q
section
variable{xC:xG}{σ:St}{H:Hp}{s:Shared}{a kS:Addr}{vs ks:xH}{rk:Value->Int}{e e1:Nat}{P:PySem.Fin->Shared->Prop}{E:xB}{A:Around}
end
end
theorem q2m{α β:Type}{F:α->β->Prop}:∀{l:List α} {k:List β} {i:Nat} {x:α},Paired F l k->l[i]? =some x->∃y,k[i]? =some y/\F x y
 | _,_,0,x,.cons a b,h=>by
  cases h
  exact⟨_,zr,a⟩
 | _,_,i+1,x,.cons a b,h=>by
  obtain⟨d,e,r⟩:=q2m (i:=i) (x:=x) b (by simpa using h);exact⟨d,by simpa using e,r⟩
theorem q40{α β:Type}{F:α->β->Prop}{x:α}{y:β}:∀{xs:List α} {ys:List β},Paired F xs ys->F x y->Paired F (xs++ [x]) (ys++ [y])
 | _,_,.nil,h=> .cons h .nil
 | _,_,.cons a b,h=> .cons a (q40 b h)
section
variable{X:Cx}{k k':Nat}{x p1:Str}{sp:Sp}{e:Expr}{t:TA}{p pos kpos xp:Pos}
end
end L2
namespace L2
open PySem PySem.Spec PyProof.Rows
section
variable{X:Cx}
def qxy(K:xA):R2:=λx y H Q=>∃d ds,Dat K H d x/\Dat K H (.list ds) y/\PyData.depthAll ds<=60/\Q (.bl (ds.any λy=>PyData.eqv y d)) H
def qg2(hu:X.A.units+64 < cLine)(K:xA)(hK:X.K=K:=by rfl):OpR X (compareOp .In) (qxy K):=by
 subst hK;intro xC s σ H x y v u Q I rx ry h;obtain⟨d,ds,hd,J,hz,q⟩:=h;obtain⟨as,ra⟩:=Dat.reads I _ _ _ hd rx;obtain⟨bs,rb⟩:=Dat.reads I _ _ _ J ry;exact SeqAt.in_list_reads rb ra (Dat.lay _ _ J) (Dat.lay _ _ hd) (by have:min (PyData.depthAll ds) d.depth<=PyData.depthAll ds:=Nat.min_le_left _ _;lia) (q1b I q rfl)
end
def TupC(K:xA)(a:Addr)(xs:List V):Prop:=∃(o:Obj) (its:Array Value) (n:Nat),K.lookup a=some o/\o.cls= .type "tuple"/\o.data= .seq its n/\its.size<=sizeLine/\Vals xs its.toList
def qud{K:xA}{a:Addr}{xs:List V}{od:Option Addr}{its:Array Value}{n:Nat}{sl:Array (Option Value)}(l:K.lookup a=some ⟨.type "tuple",od,.seq its n,sl⟩)(z:its.size<=sizeLine)(v:Vals xs its.toList):TupC K a xs:=⟨_,its,n,l,rfl,rfl,z,v⟩
def Itn(K:xA)(a:Addr):It:=
  ⟨λi H=>∃xs x,SqT K H a xs/\xs[i]? =some x,
   λi H v H'=>∃p x,v= .ref p/\H p=none/\H'=upd H p (.tup [.int (i:Nat),x])/\∀xs,SqT K H a xs->xs[i]? =some x,
   λi H=>∃xs,SqT K H a xs/\i=xs.length⟩
def qnh{P:Program}{w:World}{K:xA}{elts:List Expr}{kk}{pos:Pos}(e it a:Addr)(Z:e≠it)(a6:e≠a)(ha:a≠it):
  Turn P w K (.Tuple elts kk pos) (Itn K a) [e,it] e (λi h=>(∃old,IsEnum h e it (i:Nat) old)/\h.IsTupleIter it a i) where
 mem:=by simp
 obj:=λi h st c J=>by
  obtain⟨⟨old,O⟩,⟨o1,e1,_,d1⟩⟩:=st;simp only[z32,z29,or_false]at J;rcases J with rfl | rfl
  ·exact⟨_,O,λ_ q=>by cases q⟩
  ·exact⟨_,e1,λ_ q=>by rw[d1]at q;cases q⟩
 keep:=λi h h' st k=>by
  obtain⟨⟨old,O⟩,h1⟩:=st;exact⟨⟨old,k e (by simp) _ O⟩,h1.at λo z=>k it (by simp) o z⟩
 item:=by
  intro X hP hw hK J i xC s σ H E I hf st hg;subst hP hw hK;obtain⟨xs,x,Y,hx⟩:=hg;obtain⟨its,ra,pa,_⟩:=I.tuple Y;obtain⟨u,hu,ru⟩:=ra.get hx;obtain⟨⟨old,O⟩,h1⟩:=st;have a7:i < its.toArray.size:=by
   have:=(z06.mp hu).1
   simpa using this
  refine wpAny_pyNext_enum_itemD (q4a (show X.A.in1.handled=none from I.ok.hd J) it a ha its.toArray) O ⟨h1,pa⟩ a7 Z (by simp only[z32,z29,or_false,not_or];exact⟨Z,a6⟩) λu' h' tk e1 a4 a8 hT hsz hk=>?_;have a2:u'=u:=by simpa [hu] using e1.symm
  subst a2;refine⟨_,zr,wpAny_letOwnedTupleGo_enum a4 λh2 a5 a1=>?_⟩;have elt:e < s.heap.objs.size:=z3b O;have a3:h2.get? s.heap.objs.size=some {cls:= .type "tuple",data:= .seq #[.int (i:Nat) tk,u']}:=a1.extBut _ _ (z3e elt) hT;have I2:Inv X xC σ (upd H s.heap.objs.size (.tup [.int (i:Nat),x])) {s with heap:=h2,toks:=tk+1}:=by
   refine q9f (s:=s) (fp:=[e,it]) I hf (λc o J z=>?_) (z3j _) ?_
   ·simp only[z32,z29,or_false,not_or]at J;exact a1.extBut _ _ J.1 (hk c o J.1 J.2 z)
   ·exact⟨by show 2<=sizeLine;decide,[.int (i:Nat) tk,u'],.cons ⟨tk,rfl⟩ (.cons ru .nil),_,a3,rfl,_,rfl⟩
  refine⟨.ref s.heap.objs.size,_,I2,zr,⟨_,x,zr,I.fresh,zr,λxs' q1=>?_⟩,⟨⟨u',?_⟩,a8.1.extBut a1.extBut (Ne.symm Z)⟩,λc J=>?_⟩
  ·rw[I.q90 q1 Y];exact hx
  ·have:(((i:Nat):Int)+1)=((i+1:Nat):Int):=by lia
   rw[<- this];exact a5
  ·rw[qk]
   ·exact(hf c J).1
   ·simp only[z32,z29,or_false]at J;obtain⟨o1,g1,_⟩:=h1;rcases J with rfl | rfl
    ·exact z3c elt
    ·exact z3c (z3b g1)
 done:=by
  intro X hP hw hK J i xC s σ H E I hf st hg;subst hP hw hK;obtain⟨xs,Y,hi⟩:=hg;obtain⟨its,ra,pa,_⟩:=I.tuple Y;obtain⟨⟨old,O⟩,h1⟩:=st;have l1:its.toArray.size=xs.length:=by rw[z1n];exact ra.length.symm
  refine wpAny_pyNext_enum_endD (q4a (show X.A.in1.handled=none from I.ok.hd J) it a ha its.toArray) O ⟨by rw[l1,<- hi];exact h1,pa⟩ λh' hk=>⟨rfl,q4b I hf λc o J z=>?_⟩;simp only[z32,z29,or_false,not_or]at J;exact hk c o J.2 z
 self:=λ_ _ _ _ _ st h=>let ⟨⟨_,O⟩,_⟩:=st;wpAny_pyIter_enum O h
def qky(l:Addr)(J:Array Value):
  Meets (Builtin.«enumerate.__new__» ⟨[.type "enumerate",.ref l],[]⟩) (λ_ R s=>s.heap.IsTuple l J/\
   R (.ok (.ret (.ref (s.heap.push {cls:= .type "tuple_iterator",data:= .fields #[.ref l,.int 0 0]}).objs.size)))
    {s with heap:=(s.heap.push {cls:= .type "tuple_iterator",data:= .fields #[.ref l,.int 0 0]}).push {cls:= .type "enumerate",data:= .fields #[.none,.bool false,.ref s.heap.objs.size,rawInt 0,.none,.none]}}):=
 .of_wp λprog w A R s h=>by
  obtain⟨hp,g,d,tk,os⟩:=s;obtain⟨hl,h⟩:=h;have Y:=sub_enumerate;have O:Heap.IsTuple (Shared.heap ⟨hp,g,d,tk,os⟩) l J:=hl
  wp_walk using wpAny_pyIter_tuple O
  refine wpAny_stack_any λst=>z3o ?_;split
  ·rename_i c _ _ _ _ _;cases (c==Value.type "enumerate")
   ·wp_walk using wpAny_pyIter_tuple O
    exact⟨_,zr,h⟩
   ·wp_walk using wpAny_pyIter_tuple O
    exact⟨_,zr,h⟩
  ·wp_walk using wpAny_pyIter_tuple O
   exact⟨_,zr,h⟩
section
variable{prog:Program}{w:World}{A:Around}{E:xB}{s:Shared}
def qni{l:Addr}{J:Array Value}{Q:xB}(hl:s.heap.IsTuple l J)
  (h:∀h',IsEnum h' (s.heap.objs.size+1) s.heap.objs.size 0 .none->h'.IsTupleIter s.heap.objs.size l 0->h'.objs.size=s.heap.objs.size+2->
   (∀b o,s.heap.get? b=some o->h'.get? b=some o)->Q (.ref (s.heap.objs.size+1)) {s with heap:=h'}):
  wpAny (model prog w) A (call (.type "enumerate") [.ref l]) Q E s:=by
 refine callType_new F.called_enumerate (by decide) (F.typeCall_enumerate_1 _) (F.newCall_enumerate_1 _) (λobj=>F.args_object_init_2 obj _) F.entry_enumerate_new
  (qky l J) ⟨hl,?_⟩
 have hz:(s.heap.push {cls:= .type "tuple_iterator",data:= .fields #[.ref l,.int 0 0]}).objs.size=s.heap.objs.size+1:=z2v ..;show _/\_;rw[hz];have O:IsEnum ((s.heap.push {cls:= .type "tuple_iterator",data:= .fields #[.ref l,.int 0 0]}).push
   {cls:= .type "enumerate",data:= .fields #[.none,.bool false,.ref s.heap.objs.size,rawInt 0,.none,.none]}) (s.heap.objs.size+1) s.heap.objs.size 0 .none:=by
  have:=z11 (s.heap.push {cls:= .type "tuple_iterator",data:= .fields #[.ref l,.int 0 0]})
   (o:={cls:= .type "enumerate",data:= .fields #[.none,.bool false,.ref s.heap.objs.size,rawInt 0,.none,.none]}) rfl
  rw[hz]at this;exact this
 refine⟨⟨_,O,zr⟩,h _ O ⟨_,z0l _ (z11 _ rfl),zr,zr⟩ (by rw[z2v,hz]) λb o x=>z0l _ (z0l _ x)⟩
end
def qbq:bootBuiltins "enumerate"=some (.type "enumerate"):=by decide+kernel
section
variable{X:Cx}{elts:List Expr}{pt:Pos}
def qwm(K:xA)(ta:TA):TI:=λσ H R=>ta σ H λvs H1=>∃a,vs=[.ref a]/\(∃xs,SqT K H1 a xs)/\R (Itn K a) H1
def qrs(K:xA){kk}{a:Expr}{ta:TA}{p pos:Pos}(hg:Gl X "enumerate")(hm:X.mg "enumerate"=none)(ha:PA X [a] ta)(hs:starEach [a] X.env=[(false,eval a X.env)]:=by rfl)(hK:X.K=K:=by rfl):
  PI X (.Tuple elts kk pt) (.Call (.Name "enumerate" p) [a] [] pos) (qwm K ta):=by
 subst hK;intro xC s σ H R I h;refine Call_ (q64 I hg hm qbq (z02 (thn (ha pos xC s σ H _ I h) λus s1 J=>?_) hs rfl));obtain⟨vs,H1,I1,r1,q1⟩:=J;obtain⟨x,e,⟨xs,hx⟩,q⟩:=q1;subst e;cases r1 with
 | cons r rr=>
  cases rr
  cases r
  obtain⟨its,ra,pa,_⟩:=I1.tuple hx;have Z:x < s1.heap.objs.size:=by obtain⟨_,e,_⟩:=id pa;exact z3b e
  refine qni pa λh' Y g1 hsz hk=>wpAny_pyIter_enum Y ?_;refine⟨_,_,_,_,H1,zr,I1.kept (t':=s1.toks) hk,qnh (s1.heap.objs.size+1) s1.heap.objs.size x (z3e (z23 _)) (z3e (z1x Z)) (z3c Z),⟨⟨_,Y⟩,g1⟩,λc O=>?_,q⟩;have le:s1.heap.objs.size<=c:=by
   simp only[z32,z29,or_false]at O;rcases O with rfl | rfl
   ·exact Nat.le_add_right _ 1
   ·exact z3j _
  exact I1.fpOk le (I1.hok.fresh le)
end
def qph{K:xA}{a:Addr}{xs:List V}{g:TG}{tb:TS}{D:Ends}{σ:St}{H:Hp}(Pv:Nat->St->Hp->Prop)(h0:Pv 0 σ H)(hl:∀i σ H,i<=xs.length->Pv i σ H->SqT K H a xs)
  (hs:∀i x p σ H,xs[i]? =some x->H p=none->Pv i σ H->g (.ref p) σ (upd H p (.tup [.int (i:Nat),x])) λσ2 H2=>tb {D with nx:=Pv (i+1),ct:=Pv (i+1),bk:=D.nx} σ2 H2) (he:∀σ H,Pv xs.length σ H->D.nx σ H):
  ∃W:Nat->Nat->St->Hp->Prop,(∃m,W 0 m σ H)/\∀i m σ H,W i m σ H->((Itn K a).stop i H/\D.nx σ H)\/ ((Itn K a).go i H/\∃N:St->Hp->Prop,(∀σ' H',N σ' H'->∃J,J < m/\W (i+1) J σ' H')/\∀x H',(Itn K a).yld i H x H'->g x σ H' λσ2 H2=>tb {D with nx:=N,ct:=N,bk:=D.nx} σ2 H2):=by
 refine qp0 xs.length Pv h0 (λi σ H hi p=>?_) (λσ H p=>⟨⟨xs,hl _ σ H (z3j _) p,zr⟩,he σ H p⟩) λi σ H hi p x H' y=>?_
 ·exact⟨xs,xs[i],hl i σ H (z3a hi) p,z0b hi⟩
 ·obtain⟨c,x',rfl,hc,rfl,hq⟩:=y;exact hs i x' c σ H (hq xs (hl i σ H (z3a hi) p)) hc p
def Itnl(K:xA)(a:Addr):It:=
  ⟨λi H=>∃xs x,SqL K H a xs/\xs[i]? =some x,
   λi H v H'=>∃p x,v= .ref p/\H p=none/\H'=upd H p (.tup [.int (i:Nat),x])/\∀xs,SqL K H a xs->xs[i]? =some x,
   λi H=>∃xs,SqL K H a xs/\i=xs.length⟩
def qnj{P:Program}{w:World}{K:xA}{elts:List Expr}{kk}{pos:Pos}(e it a:Addr)(Z:e≠it)(a6:e≠a)(ha:a≠it):
  Turn P w K (.Tuple elts kk pos) (Itnl K a) [e,it] e (λi h=>(∃old,IsEnum h e it (i:Nat) old)/\h.IsListIter it a i) where
 mem:=by simp
 obj:=λi h st c J=>by
  obtain⟨⟨old,O⟩,⟨o1,e1,_,d1⟩⟩:=st;simp only[z32,z29,or_false]at J;rcases J with rfl | rfl
  ·exact⟨_,O,λ_ q=>by cases q⟩
  ·exact⟨_,e1,λ_ q=>by rw[d1]at q;cases q⟩
 keep:=λi h h' st k=>by
  obtain⟨⟨old,O⟩,h1⟩:=st;exact⟨⟨old,k e (by simp) _ O⟩,h1.at λo z=>k it (by simp) o z⟩
 item:=by
  intro X hP hw hK J i xC s σ H E I hf st hg;subst hP hw hK;obtain⟨xs,x,Y,hx⟩:=hg;obtain⟨its,ra,⟨ol,nl,gl,cl,_,dl⟩,_⟩:=I.list Y;have pa:s.heap.IsList a its.toArray:=⟨ol,gl,cl,nl,dl⟩;obtain⟨u,hu,ru⟩:=ra.get hx;obtain⟨⟨old,O⟩,h1⟩:=st;have a7:i < its.toArray.size:=by
   have:=(z06.mp hu).1
   simpa using this
  refine wpAny_pyNext_enum_itemD (Draws.list (show X.A.in1.handled=none from I.ok.hd J) it a ha its.toArray) O ⟨h1,pa⟩ a7 Z (by simp only[z32,z29,or_false,not_or];exact⟨Z,a6⟩) λu' h' tk e1 a4 a8 hT hsz hk=>?_;have a2:u'=u:=by simpa [hu] using e1.symm
  subst a2;refine⟨_,zr,wpAny_letOwnedTupleGo_enum a4 λh2 a5 a1=>?_⟩;have elt:e < s.heap.objs.size:=z3b O;have a3:h2.get? s.heap.objs.size=some {cls:= .type "tuple",data:= .seq #[.int (i:Nat) tk,u']}:=a1.extBut _ _ (z3e elt) hT;have I2:Inv X xC σ (upd H s.heap.objs.size (.tup [.int (i:Nat),x])) {s with heap:=h2,toks:=tk+1}:=by
   refine q9f (s:=s) (fp:=[e,it]) I hf (λc o J z=>?_) (z3j _) ?_
   ·simp only[z32,z29,or_false,not_or]at J;exact a1.extBut _ _ J.1 (hk c o J.1 J.2 z)
   ·exact⟨by show 2<=sizeLine;decide,[.int (i:Nat) tk,u'],.cons ⟨tk,rfl⟩ (.cons ru .nil),_,a3,rfl,_,rfl⟩
  refine⟨.ref s.heap.objs.size,_,I2,zr,⟨_,x,zr,I.fresh,zr,λxs' q1=>?_⟩,⟨⟨u',?_⟩,a8.1.extBut a1.extBut (Ne.symm Z)⟩,λc J=>?_⟩
  ·rw[I.qio q1 Y];exact hx
  ·have:(((i:Nat):Int)+1)=((i+1:Nat):Int):=by lia
   rw[<- this];exact a5
  ·rw[qk]
   ·exact(hf c J).1
   ·simp only[z32,z29,or_false]at J;obtain⟨o1,g1,_⟩:=h1;rcases J with rfl | rfl
    ·exact z3c elt
    ·exact z3c (z3b g1)
 done:=by
  intro X hP hw hK J i xC s σ H E I hf st hg;subst hP hw hK;obtain⟨xs,Y,hi⟩:=hg;obtain⟨its,ra,⟨ol,nl,gl,cl,_,dl⟩,_⟩:=I.list Y;have pa:s.heap.IsList a its.toArray:=⟨ol,gl,cl,nl,dl⟩;obtain⟨⟨old,O⟩,h1⟩:=st;have l1:its.toArray.size=xs.length:=by rw[z1n];exact ra.length.symm
  refine wpAny_pyNext_enum_endD (Draws.list (show X.A.in1.handled=none from I.ok.hd J) it a ha its.toArray) O ⟨by rw[l1,<- hi];exact h1,pa⟩ λh' hk=>⟨rfl,q4b I hf λc o J z=>?_⟩;simp only[z32,z29,or_false,not_or]at J;exact hk c o J.2 z
 self:=λ_ _ _ _ _ st h=>let ⟨⟨_,O⟩,_⟩:=st;wpAny_pyIter_enum O h
def qkz(l:Addr)(J:Array Value):
  Meets (Builtin.«enumerate.__new__» ⟨[.type "enumerate",.ref l],[]⟩) (λ_ R s=>s.heap.IsList l J/\
   R (.ok (.ret (.ref (s.heap.push {cls:= .type "list_iterator",data:= .fields #[.ref l,.int 0 0]}).objs.size)))
    {s with heap:=(s.heap.push {cls:= .type "list_iterator",data:= .fields #[.ref l,.int 0 0]}).push {cls:= .type "enumerate",data:= .fields #[.none,.bool false,.ref s.heap.objs.size,rawInt 0,.none,.none]}}):=
 .of_wp λprog w A R s h=>by
  obtain⟨hp,g,d,tk,os⟩:=s;obtain⟨hl,h⟩:=h;have Y:=sub_enumerate;have O:Heap.IsList (Shared.heap ⟨hp,g,d,tk,os⟩) l J:=hl
  wp_walk using z1p O
  refine wpAny_stack_any λst=>z3o ?_;split
  ·rename_i c _ _ _ _ _;cases (c==Value.type "enumerate")
   ·wp_walk using z1p O
    exact⟨_,zr,h⟩
   ·wp_walk using z1p O
    exact⟨_,zr,h⟩
  ·wp_walk using z1p O
   exact⟨_,zr,h⟩
section
variable{prog:Program}{w:World}{A:Around}{E:xB}{s:Shared}
def qnk{l:Addr}{J:Array Value}{Q:xB}(hl:s.heap.IsList l J)
  (h:∀h',IsEnum h' (s.heap.objs.size+1) s.heap.objs.size 0 .none->h'.IsListIter s.heap.objs.size l 0->h'.objs.size=s.heap.objs.size+2->
   (∀b o,s.heap.get? b=some o->h'.get? b=some o)->Q (.ref (s.heap.objs.size+1)) {s with heap:=h'}):
  wpAny (model prog w) A (call (.type "enumerate") [.ref l]) Q E s:=by
 refine callType_new F.called_enumerate (by decide) (F.typeCall_enumerate_1 _) (F.newCall_enumerate_1 _) (λobj=>F.args_object_init_2 obj _) F.entry_enumerate_new
  (qkz l J) ⟨hl,?_⟩
 have hz:(s.heap.push {cls:= .type "list_iterator",data:= .fields #[.ref l,.int 0 0]}).objs.size=s.heap.objs.size+1:=z2v ..;show _/\_;rw[hz];have O:IsEnum ((s.heap.push {cls:= .type "list_iterator",data:= .fields #[.ref l,.int 0 0]}).push
   {cls:= .type "enumerate",data:= .fields #[.none,.bool false,.ref s.heap.objs.size,rawInt 0,.none,.none]}) (s.heap.objs.size+1) s.heap.objs.size 0 .none:=by
  have:=z11 (s.heap.push {cls:= .type "list_iterator",data:= .fields #[.ref l,.int 0 0]})
   (o:={cls:= .type "enumerate",data:= .fields #[.none,.bool false,.ref s.heap.objs.size,rawInt 0,.none,.none]}) rfl
  rw[hz]at this;exact this
 refine⟨⟨_,O,zr⟩,h _ O ⟨_,z0l _ (z11 _ rfl),zr,zr⟩ (by rw[z2v,hz]) λb o x=>z0l _ (z0l _ x)⟩
end
section
variable{X:Cx}{elts:List Expr}{pt:Pos}
def qwn(K:xA)(ta:TA):TI:=λσ H R=>ta σ H λvs H1=>∃a,vs=[.ref a]/\(∃xs,SqL K H1 a xs)/\R (Itnl K a) H1
def qj8(K:xA){kk}{a:Expr}{ta:TA}{p pos:Pos}(hg:Gl X "enumerate")(hm:X.mg "enumerate"=none)(ha:PA X [a] ta)(hs:starEach [a] X.env=[(false,eval a X.env)]:=by rfl)(hK:X.K=K:=by rfl):
  PI X (.Tuple elts kk pt) (.Call (.Name "enumerate" p) [a] [] pos) (qwn K ta):=by
 subst hK;intro xC s σ H R I h;refine Call_ (q64 I hg hm qbq (z02 (thn (ha pos xC s σ H _ I h) λus s1 J=>?_) hs rfl));obtain⟨vs,H1,I1,r1,q1⟩:=J;obtain⟨x,e,⟨xs,hx⟩,q⟩:=q1;subst e;cases r1 with
 | cons r rr=>
  cases rr
  cases r
  obtain⟨its,ra,⟨ol,nl,gl,cl,_,dl⟩,_⟩:=I1.list hx;have pa:s1.heap.IsList x its.toArray:=⟨ol,gl,cl,nl,dl⟩;have Z:x < s1.heap.objs.size:=by obtain⟨_,e,_⟩:=id pa;exact z3b e
  refine qnk pa λh' Y g1 hsz hk=>wpAny_pyIter_enum Y ?_;refine⟨_,_,_,_,H1,zr,I1.kept (t':=s1.toks) hk,qnj (s1.heap.objs.size+1) s1.heap.objs.size x (z3e (z23 _)) (z3e (z1x Z)) (z3c Z),⟨⟨_,Y⟩,g1⟩,λc O=>?_,q⟩;have le:s1.heap.objs.size<=c:=by
   simp only[z32,z29,or_false]at O;rcases O with rfl | rfl
   ·exact Nat.le_add_right _ 1
   ·exact z3j _
  exact I1.fpOk le (I1.hok.fresh le)
end
section
variable{X:Cx}{k k':Nat}{C:Addr}{ps:xD}{sp:Sp}{x:Str}{p pos:Pos}{e:Expr}{es:List Expr}{t:TA}
def q8c(D:MDef X.prog X.w X.K X.mg X.base k C "__init__" ps sp)(hk:PySem.W.makesIn X.K C=true)(kp:PySem.W.keepIn X.K (.ref C)=true)(hr:Room k' X.A)(hg:Gl X x)(hm:X.mg x=some (.ref C))(ha:PA X (e::es) t)(hkk:k+1<=k':=by decide)
  (J:(x==("__debug__":Str))=false:=by decide) (he:starEach (e::es) X.env=(false,eval e X.env)::starEach es X.env:=by rfl) (O:(backTo pos (starEach es X.env)).any (·.1)=false:=by rfl):PE X (.Call (.Name x p) (e::es) [] pos) (qst C sp [] E0 t):=by
 obtain⟨f,fd,F,h1,h3⟩:=D.ex;exact qtj ⟨hk,h1.at_,h1.fn,kp⟩ F (hr.mono hkk) hg hm h3 .nil qif ha J he O
end
end L2
namespace PySem
section
variable{prog:Program}{w:World}{K:Type}[DecidableEq K]{knd:HeapKind prog w K}{A:Around}{E:xB}{s:Shared}{d a:Addr}{k:K}{xs:List (K×Addr×Value)}
def qex{v:Value}{Q:xB}(hu:knd.room A)(hkey:knd.is s.heap k a)(hm:s.heap.DictOfH knd d xs)
  (h1:∀p,atKey xs k=some p->Q p.2 {s with toks:=s.toks+knd.draws k})
  (h2:atKey xs k=none->∀h',h'.DictOfH knd d (storedH xs k a v)->Heap.SameBut d s.heap h'->Q v {s with heap:=h',toks:=s.toks+knd.draws k})
  (hsz:xs.length<=sizeLine):
  wpAny (model prog w) A (dictSetDefault d (.ref a) v) Q E s:=by
 obtain⟨o,es,ep,ho,hc,hd,he,Y,hn⟩:=hm;unfold dictSetDefault
 try with_reducible refine z33 ?_
 refine z3p (knd.pyHash hu hkey ?_);refine z3p (wpAny_dictFind_heap (s:={s with toks:=s.toks+knd.draws k}) hu hkey ho hd he Y hn ?_ ?_)
 ·intro J;have Z:k∉xs.map (·.1):=not_mem_keys_of_get J;refine z3p (z3n (z3p (wpAny_updateDictKeys (hz:=by have e:=size_of_entries he;lia) (s:={s with toks:=s.toks+knd.draws k}) ho hd (z3o (h2 (atKey_none_of_get J) _ ⟨_,_,ep+1,z0r _ ho (Obj.isFreed_of_dict (Obj.data_mapDictKeys hd _)),
   hc.mapDictKeys _,Obj.data_mapDictKeys hd _,?_,?_,?_⟩ (z10 ..))))))
  ·rw[storedH_new (atKey_none_of_get J)];simp[he,entryOfKey]
  ·rw[storedH_new (atKey_none_of_get J)];intro x O;rcases z2c.mp O with O | O
   ·exact knd.keeps (Y x O) ho hd (z10 ..)
   ·simp only[z1a]at O;subst O;exact knd.keeps hkey ho hd (z10 ..)
  ·rw[storedH_new (atKey_none_of_get J)];rw[z2n,z1w];refine⟨hn,by simp,?_⟩;intro x O y hy;simp only[z30,z3g,z1a]at hy;subst hy;exact λe=>Z (e ▸ O)
 ·intro j p hj;refine z3p (z1u (s:={s with toks:=s.toks+knd.draws k}) ho hd ?_);rw[entry_at he j,hj];exact z3p (z3n (z3o (h1 p (atKey_of_get hn hj))))
def q7m(knd:HeapKind prog w K)(d a:Addr)(hd:(d==sysModules)=false)(J:Value):
  MeetsIn prog w (Builtin.«dict.setdefault» ⟨[.ref d,.ref a,J],[]⟩) (λA R s=>knd.room A.in1/\∃k xs,knd.is s.heap k a/\s.heap.DictOfH knd d xs/\xs.length<=sizeLine/\
   (∀p,atKey xs k=some p->R (.ok (.ret p.2)) {s with toks:=s.toks+knd.draws k})/\
   (atKey xs k=none->∀h',h'.DictOfH knd d (storedH xs k a J)->Heap.SameBut d s.heap h'->R (.ok (.ret J)) {s with heap:=h',toks:=s.toks+knd.draws k})):=
 .of_wp λA R s ⟨hu,k,xs,hkey,hm,hz,h1,h2⟩=>by
  unfold Builtin.«dict.setdefault»;refine z3p ?_;unfold Builtin.Dict.keyAndDefault;refine z3p (wpAny_notOrdered_dict hm.typeIs ?_);show wpAny _ _ (pure (d,Value.ref a,some J)) _ _ s;refine z3o ?_;show wpAny _ _ (if (d==sysModules)=true then _ else (dictSetDefault d (.ref a) J >>=_)) _ _ s;rw[if_neg (by rw[hd];exact z19)];exact z3p (qex hu hkey hm (λp hp=>z3o ⟨p.2,zr,h1 p hp⟩) (λhn h' O Y=>z3o ⟨J,zr,h2 hn h' O Y⟩) hz)
end
end PySem
namespace L2
open PySem PySem.Spec PyProof.Rows
section
variable{X:Cx}{xC:xG}{σ:St}{H:Hp}{s:Shared}{a b:Addr}{kvs:List (List Key×V)}{k:List Key}{z:V}{r:Value}{A:Around}{E:xB}
def que{Q:xB}(hu:A.units+1 < cLine)(I:Inv X xC σ H s)(e:H a=some (.dT kvs))(eb:H b=some (.tup (k.map kV)))(hl:kvs.length < sizeLine)(rz:RelV z r)
  (h1:∀v w' s',valV kvs k=some v->Inv X xC σ H s'->RelV v w'->Q w' s') (h2:valV kvs k=none->∀s',Inv X xC σ (upd H a (.dT (putK kvs k z))) s'->Q r s'):
  wpAny (model X.prog X.w) A (call (.builtin "dict.setdefault") [.ref a,.ref b,r]) Q E s:=by
 obtain⟨zl,hd,xs,J,dd⟩:=qsw I.hok e;have rv:=J.val k;refine call_meetsIn PySem.F.slot_dict_setdefault dd.typeIs PySem.F.entry_dict_setdefault (PySem.F.args_dict_setdefault_3 _ _ _) (q7m (tupleKind (q16 X.prog X.w)) a b hd r) ⟨tupleKind_room_in1 hu,k,xs,q86 I.hok eb,dd,by rw[<- Paired.length J];exact zl,λp Z=>?_,λhn h' Y hs=>?_⟩
 ·rw[Z]at rv;cases O:valV kvs k with
  | none=>
   rw[O]at rv;exact rv.elim
  | some v=>
   rw[O]at rv;exact h1 v p.2 _ O (I.tok _) rv
 ·have Z:(putK kvs k z).length<=sizeLine:=by have:=q2j kvs k z;lia
  obtain⟨q,es,ep,hq,g2,g3,g4,_,g5⟩:=Y;refine h2 ?_ _ (q6q I (by rw[e];exact True.intro) hs ⟨q,hq⟩ ⟨Z,hd,_,(J.put k eb rz).keeps λc ys ec=>?_,q,es,ep,hq,g2,g3,g4,g5⟩)
  ·rw[hn]at rv;cases O:valV kvs k with
   | none=>rfl
   | some v=>
    rw[O]at rv;exact rv.elim
  ·rw[qk (qsp ec e (λz=>nomatch z))];exact ec
end
def quf(td ty tx:TE):TE:=λσ H Q=>td σ H λx H1=>∃a,x= .ref a/\IsD H1 a/\ty σ H1 λy H2=>tx σ H2 λz H3=>∃kvs k b,H3 a=some (.dT kvs)/\y= .ref b/\H3 b=some (.tup (k.map kV))/\kvs.length < sizeLine/\
 (∀v,valV kvs k=some v->Q v H3)/\(valV kvs k=none->Q z (upd H3 a (.dT (putK kvs k z))))
section
variable{X:Cx}{o e f:Expr}{apos cpos:Pos}{td ty tx:TE}
def qpi(hu:X.A.units+1 < cLine)(ho:PE X o td)(he:PE X e ty)(hf:PE X f tx)(m:M2 X o "setdefault" apos e f cpos):PE X (.Call (.Attribute o "setdefault" apos) [e,f] [] cpos) (quf td ty tx):=by
 intro xC s σ H Q I h;refine wpAny_Call_method m.base m.few m.line PySem.F.plainAttrs_dict PySem.F.slot_dict_setdefault PySem.F.type_dict_setdefault (thn (ho xC s σ H _ I h) λu s1 O=>?_);obtain⟨x,H1,I1,rx,a,ex,d,q1⟩:=O;subst ex;obtain rfl:u=Value.ref a:=rx;obtain⟨t1,t2,_⟩:=qem I1 d;refine⟨t1,t2,?_⟩;rw[m.trees];refine Calls.callWith_builtin rfl (Calls.evalArgs_plain (Calls.spliced_cons (thn (he xC s1 σ H1 _ I1 q1) λiv s2 ⟨y,H2,I2,ry,q2⟩=>
  Calls.spliced_cons (thn (hf xC s2 σ H2 _ I2 q2) λfv s3 ⟨z,H3,I3,rz,kvs,k,b,eH,ey,eb,hl,q3,q4⟩=>Calls.spliced_nil ?_))))
 subst ey;obtain rfl:iv=Value.ref b:=ry;exact que hu I3 eH eb hl rz (λv w' s4 ev I4 J=>⟨_,H3,I4,J,q3 v ev⟩) λen s4 I4=>⟨z,_,I4,rz,q4 en⟩
end
end L2
namespace L2
open PySem PySem.Spec PyProof.Rows PySem.W
section
variable{X:Cx}{tg:Expr}
def qey{st:Stmt}:PS X st (λ_ _ _=>False):=λ_ _ _ _ _ _ h=>h.elim
end
end L2
open PySem PySem.W PyProof.Rows
namespace L2
def us0{p:List Value->Prop}(h:p []):∀us:List Value,us.length=0->p us:=λ_ e=>(z0h.mp e).symm ▸ h
def us1{p:List Value->Prop}(h:∀a:Value,p [a]):∀us:List Value,us.length=1->p us
 | [],e=>absurd e (by decide)
 | a::t,e=>us0 (p:=λus=>p (a::us)) (h a) t (Nat.succ.inj e)
def us2{p:List Value->Prop}(h:∀a b:Value,p [a,b]):∀us:List Value,us.length=2->p us
 | [],e=>absurd e (by decide)
 | a::t,e=>us1 (p:=λus=>p (a::us)) (h a) t (Nat.succ.inj e)
def us3{p:List Value->Prop}(h:∀a b c:Value,p [a,b,c]):∀us:List Value,us.length=3->p us
 | [],e=>absurd e (by decide)
 | a::t,e=>us2 (p:=λus=>p (a::us)) (h a) t (Nat.succ.inj e)
def us4{p:List Value->Prop}(h:∀a b c d:Value,p [a,b,c,d]):∀us:List Value,us.length=4->p us
 | [],e=>absurd e (by decide)
 | a::t,e=>us3 (p:=λus=>p (a::us)) (h a) t (Nat.succ.inj e)
def us5{p:List Value->Prop}(h:∀a b c d e:Value,p [a,b,c,d,e]):∀us:List Value,us.length=5->p us
 | [],e=>absurd e (by decide)
 | a::t,e=>us4 (p:=λus=>p (a::us)) (h a) t (Nat.succ.inj e)
def us6{p:List Value->Prop}(h:∀a b c d e f:Value,p [a,b,c,d,e,f]):∀us:List Value,us.length=6->p us
 | [],e=>absurd e (by decide)
 | a::t,e=>us5 (p:=λus=>p (a::us)) (h a) t (Nat.succ.inj e)
structure FiK (K:xA) (x:Str) (st:Stmt):Prop where
 ex:∃(f:Addr) (oc:Value) (od an:Option Addr) (osl:Array (Option Value)) (kV doc pm cdv ct:Value),PySem.W.nsIn K mainGlobals x=some (some (.ref f))/\
  K.lookup f=some ⟨oc,od,.func (PySem.W.fnOf x x (q30 st) (q21 st) (qd st) .none kV doc pm an cdv ct),osl⟩/\PySem.W.codeIn K cdv x=true/\PySem.W.keepIn K (.ref f)=true
def fiK{K:xA}{x:Str}{st:Stmt}{f:Addr}{Z:Value}{od Y:Option Addr}{O:Array (Option Value)}{kV J pm cdv ct:Value}(a:PySem.W.nsIn K mainGlobals x=some (some (.ref f)))
  (l:K.lookup f=some ⟨Z,od,.func (PySem.W.fnOf x x (q30 st) (q21 st) (qd st) .none kV J pm Y cdv ct),O⟩) (c:PySem.W.codeIn K cdv x=true) (k:PySem.W.keepIn K (.ref f)=true):FiK K x st:=
 ⟨f,Z,od,Y,O,kV,J,pm,cdv,ct,a,l,c,k⟩
def FiK.top{K:xA}{h:Heap}{mg:xE}{x:Str}{st:Stmt}{ps:xD}(F:FiK K x st)(X:K.In h)(G:h.Ns mainGlobals mg)
  (b:∀(kV J Y:Value) (O:Option Addr) (cdv ct:Value) (us:xH),us.length=ps.length->bindArgs (PySem.W.fnOf x x (q30 st) (q21 st) (qd st) .none kV J Y O cdv ct) ⟨us,[]⟩=pure (ps.zip us)):Top K mg x st ps:=by
 obtain⟨f,oc,od,O,osl,kV,J,Y,cdv,ct,a,l,c,k⟩:=F.ex;exact qw9 X G b a l c k
structure MiK (K:xA) (x m qual:Str) (st:Stmt):Prop where
 ex:∃(C f:Addr) (oc:Value) (od an:Option Addr) (osl:Array (Option Value)) (kV doc pm cdv ct:Value),PySem.W.nsIn K mainGlobals x=some (some (.ref C))/\PySem.W.findIn K (.ref C) m=some (some (.ref f))/\PySem.W.isFn K (.ref f)=true/\
  K.lookup f=some ⟨oc,od,.func (PySem.W.fnOf m qual (q30 st) (q21 st) (qd st) .none kV doc pm an cdv ct),osl⟩/\PySem.W.codeIn K cdv qual=true/\PySem.W.keepIn K (.ref f)=true
def miK{K:xA}{x m qual:Str}{st:Stmt}{C f:Addr}{Z:Value}{od Y:Option Addr}{O:Array (Option Value)}{kV J pm cdv ct:Value}(n:PySem.W.nsIn K mainGlobals x=some (some (.ref C)))
  (a:PySem.W.findIn K (.ref C) m=some (some (.ref f))) (i:PySem.W.isFn K (.ref f)=true)
  (l:K.lookup f=some ⟨Z,od,.func (PySem.W.fnOf m qual (q30 st) (q21 st) (qd st) .none kV J pm Y cdv ct),O⟩) (c:PySem.W.codeIn K cdv qual=true) (k:PySem.W.keepIn K (.ref f)=true):MiK K x m qual st:=
 ⟨C,f,Z,od,Y,O,kV,J,pm,cdv,ct,n,a,i,l,c,k⟩
def MiK.top{K:xA}{h:Heap}{mg:xE}{x m qual:Str}{st:Stmt}{ps:xD}(F:MiK K x m qual st)(X:K.In h)(G:h.Ns mainGlobals mg)
  (b:∀(kV J Y:Value) (O:Option Addr) (cdv ct:Value) (us:xH),us.length=ps.length->bindArgs (PySem.W.fnOf m qual (q30 st) (q21 st) (qd st) .none kV J Y O cdv ct) ⟨us,[]⟩=pure (ps.zip us)):MTop K (cA mg x) m qual st ps:=by
 obtain⟨C,f,oc,od,O,osl,kV,J,Y,cdv,ct,n,a,i,l,c,k⟩:=F.ex;rw[q5j (z36 X G n)];exact qu5 b a i l c k
structure CiK (K:xA) (x:Str):Prop where
 ex:∃C:Addr,PySem.W.nsIn K mainGlobals x=some (some (.ref C))/\PySem.W.plainGet K C Str.empty=true/\PySem.W.hasDictIn K C=true/\PySem.W.plainOver K C=true/\
  PySem.W.findIn K (.ref C) "__setattr__"=some (some (.builtin "object.__setattr__"))/\PySem.W.makesIn K C=true/\PySem.W.keepIn K (.ref C)=true
def ciK{K:xA}{x:Str}{C:Addr}(n:PySem.W.nsIn K mainGlobals x=some (some (.ref C)))(pg:PySem.W.plainGet K C Str.empty=true)(hd:PySem.W.hasDictIn K C=true)(po:PySem.W.plainOver K C=true)
  (sa:PySem.W.findIn K (.ref C) "__setattr__"=some (some (.builtin "object.__setattr__"))) (mk:PySem.W.makesIn K C=true) (kc:PySem.W.keepIn K (.ref C)=true):CiK K x:=⟨C,n,pg,hd,po,sa,mk,kc⟩
section
variable{K:xA}{h:Heap}{mg:xE}{x a:Str}{v:Option (Option Value)}
def CiK.g(F:CiK K x)(X:K.In h)(G:h.Ns mainGlobals mg):mg x=some (.ref (cA mg x)):=by
 obtain⟨C,n,_⟩:=F.ex;rw[q5j (z36 X G n)];exact z36 X G n
def CiK.cl(F:CiK K x)(X:K.In h)(G:h.Ns mainGlobals mg):Cls K (cA mg x):=by
 obtain⟨C,n,pg,hd,po,sa,_⟩:=F.ex;rw[q5j (z36 X G n)];exact⟨pg,hd,po,sa⟩
def CiK.mk'(F:CiK K x)(X:K.In h)(G:h.Ns mainGlobals mg):PySem.W.makesIn K (cA mg x)=true:=by
 obtain⟨C,n,_,_,_,_,mk,_⟩:=F.ex;rw[q5j (z36 X G n)];exact mk
def CiK.kp(F:CiK K x)(X:K.In h)(G:h.Ns mainGlobals mg):PySem.W.keepIn K (.ref (cA mg x))=true:=by
 obtain⟨C,n,_,_,_,_,_,kc⟩:=F.ex;rw[q5j (z36 X G n)];exact kc
structure AiK (K:xA) (x a:Str) (v:Option (Option Value)):Prop where
 ex:∃C:Addr,PySem.W.nsIn K mainGlobals x=some (some (.ref C))/\PySem.W.findIn K (.ref C) a=v
def aiK{C:Addr}(n:PySem.W.nsIn K mainGlobals x=some (some (.ref C)))(f:PySem.W.findIn K (.ref C) a=v):AiK K x a v:=⟨C,n,f⟩
def AiK.at'(F:AiK K x a v)(X:K.In h)(G:h.Ns mainGlobals mg):PySem.W.findIn K (.ref (cA mg x)) a=v:=by
 obtain⟨C,n,f⟩:=F.ex;rw[q5j (z36 X G n)];exact f
end
end L2
namespace L2
open PySem PySem.Spec PyProof.Rows PySem.Builtin.Str
section
variable{X:Cx}
variable{v1 v2 v3 e:Expr}{t1 t2 t3 te:TE}{pos:Pos}
end
end L2
namespace L2
open PySem PySem.Spec PyProof.Rows PySem.Builtin.Str PySem.StrLaws PySem.NumText
end L2
namespace L2
open PySem PySem.Spec PyProof.Rows
def CXE(P:Program)(w:World):CXT:=λouter H s E e s'=>
 ∃(ea:Addr) (cls:Value) (t:Addr) (H':Hp) (B:Heap),e= .ref ea/\s'.os=s.os/\AllBare s'.gens/\Un (frs outer) [] H H' s.heap s'.heap/\HOk P w H' s'.heap/\
  Heap.FlyingW B outer ea cls (.ref t) s'.heap/\(∀b u,H' b=some u->∃o,B.get? b=some o)/\(∀b o,s.heap.get? b=some o->b∉frs outer->∃o',B.get? b=some o')/\E cls none H'
def ObjOk.there{P:Program}{w:World}{H:Hp}{h:Heap}{a:Addr}{o:HO}(x:ObjOk P w H h a o):∃u,h.get? a=some u:=by
 cases o with
 | lst xs=>obtain⟨_,_,_,_,e⟩:=x;exact⟨_,e⟩
 | tup xs=>obtain⟨_,_,_,u,e,_⟩:=x;exact⟨u,e⟩
 | dK kvs=>obtain⟨_,_,_,_,o,_,_,e,_⟩:=x;exact⟨o,e⟩
 | dT kvs=>obtain⟨_,_,_,_,o,_,_,e,_⟩:=x;exact⟨o,e⟩
 | set S n=>obtain⟨o,_,_,_,e,_⟩:=x;exact⟨o,e⟩
 | ins C dx fs=>obtain⟨_,_,_,e,_⟩:=x;exact⟨_,e⟩
 | own y=>obtain⟨o,e⟩:=x;exact⟨o,e⟩
 | xd fs=>obtain⟨_,⟨o,_,_,e,_⟩,_⟩:=x;exact⟨o,e⟩
 | rng lo hi=>obtain⟨_,_,_,e⟩:=x;exact⟨_,e⟩
 | frz ob u=>obtain⟨e,_⟩:=x;exact⟨_,e⟩
 | tbl ps=>exact⟨_,(show h.get? a=some _ from x)⟩
 | met f y=>exact⟨_,(show h.get? a=some _ from x)⟩
 | ext φ=>obtain⟨_,⟨o,e⟩,_⟩:=x;exact⟨o,e⟩
section
variable{X:Cx}{xC:xG}{σ:St}{H:Hp}{s:Shared}{E:XK}{B h':Heap}{ea t:Addr}{cls:Value}
def qmc{P:Program}{w:World}{h:Heap}(ok:HOk P w H h)(st:B.StaysIn h)(b1:∀b u,H b=some u->∃o,B.get? b=some o)(k:B.StaysIn h'):HOk P w H h':=λa u e=>
 (ok a u e).stay (λb v hb q=>by
  have J:∃O,H b=some O:=by
   rcases hb with rfl | hb
   ·exact⟨_,e⟩
   ·exact⟨_,hb⟩
  obtain⟨O,eu⟩:=J;obtain⟨o,Y⟩:=b1 b O eu;have z:=st b o Y;rw[q]at z;cases z
  exact k b _ Y) (λ_ q=>q) λ_ _ q=>q
def qpj{l:List Env}{H H':Hp}{h h1 h2:Heap}(un:Un (frs l) [] H H' h h1)(st:B.StaysIn h1)(ff:h1.FunFrames B l)(b2:∀b o,h.get? b=some o->b∉frs l->∃o',B.get? b=some o')(k:B.StaysIn h2)(J:h2.FunFrames B l)(up:h1.UpToSlots h2):
  Un (frs l) [] H H' h h2:=by
 refine⟨λb o q n hb O=>?_,λb o q n hb O=>?_,un.free,λb o q _=>?_,un.tups,un.frzs,un.tbls⟩
 ·have e1:=un.keep b o q n hb O;obtain⟨o',e2⟩:=b2 b o q hb;have e3:=st b o' e2;rw[e1]at e3;cases e3
  exact k b _ e2
 ·obtain⟨sl,e1⟩:=un.slot b o q n hb O;obtain⟨_,Z,e3,nf⟩:=ff.mem hb;rw[e1]at e3;cases e3
  obtain⟨Y,e4⟩:=up b _ e1 nf;exact⟨Y,e4⟩
 ·by_cases hb:b∈frs l
  ·obtain⟨_,Z,e3,_⟩:=J.mem hb;exact⟨Z,e3⟩
  ·obtain⟨o',e2⟩:=b2 b o q hb;exact⟨o',k b _ e2⟩
def qxz{base h:Heap}{l:List Env}(f:h.FunFrames base l)(st:B.StaysIn h){h2:Heap}(f2:h2.FunFrames B l):h.FunFrames B l:=by
 induction l with
 | nil=>trivial
 | cons env r ih=>
  obtain⟨a1,⟨L,o,J,a3,a4⟩,a5⟩:=f;obtain⟨c1,⟨L',o',c2,c3,c4⟩,c5⟩:=f2;rw[J]at c2;cases c2
  exact⟨a1,⟨L,o,J,c3,a4⟩,ih a5 c5⟩
def qpk(I:Inv X xC σ H s)(J:X.ex=[])(st:B.StaysIn s.heap)(O:∀b u,H b=some u->∃o,B.get? b=some o)(b2:∀b o,X.s₀.heap.get? b=some o->b∉frs X.outer->∃o',B.get? b=some o')
  (fl:Heap.FlyingW B X.outer ea cls (.ref t) h') (up:s.heap.UpToSlots h') (he:E cls none H):CXE X.prog X.w X.outer X.H₀ X.s₀ E (.ref ea) {s with heap:=h'}:=by
 have Y:=I.base;rw[J]at Y;exact⟨ea,cls,t,H,B,zr,I.os,I.bare,qpj Y st (qxz I.funs st fl.2.2.1) b2 fl.1 fl.2.2.1 up,qmc I.hok st O fl.1,fl,O,b2,he⟩
structure Leav (X:Cx) (E:XK):Prop where
 ex:X.ex=[]
 st:X.stack=X.env::X.outer
 fr:X.env.frame=some X.env.locals
 xe:X.xe=λe s'=>wpAny (model X.prog X.w) X.A (leaving X.env e) (λ_ s''=>CXE X.prog X.w X.outer X.H₀ X.s₀ E e s'') (λe' s''=>CXE X.prog X.w X.outer X.H₀ X.s₀ E e' s'') s'
def qug{P:Program}{w:World}{K:xA}{mg:xE}{base:Heap}{N:xD}{qual:Str}{scope:Scope}{f:Addr}{cd:Value}{A:Around}{outer:List Env}{s:Shared}{H:Hp}:
  Leav (cxOf (CXE P w) P w K mg base N qual scope f cd A outer s H E) E:=⟨rfl,rfl,rfl,rfl⟩
def Inv.old(I:Inv X xC σ H s)(st:X.stack=X.env::X.outer)(fr:X.env.frame=some X.env.locals){b:Addr}{o:Obj}(q:X.s₀.heap.get? b=some o)(hb:b∉frs X.outer):b∉frs X.stack:=λz=>by
 rcases z32.mp (I.stkSub b z) with e | e
 ·exact absurd (z1e (z3b q) I.ok.above) (by rw[e];exact z34 _)
 ·exact hb e
def qnl(L:Leav X E)(I:Inv X xC σ H s){h1:Heap}{args:xH}(Y:Heap.MadeExcOf s.heap h1 ea cls args)(J:E cls none H):X.xe (.ref ea) {s with heap:=h1}:=by
 rw[L.xe];have O:∀env∈X.env::X.outer,∀b,env.frame=some b->b∈frs X.stack:=λenv J b hb=>by rw[L.st];exact List.mem_filterMap.mpr ⟨env,J,hb⟩
 have fs:=I.stack;rw[L.st]at fs;refine wpAny_leaves_madeW (base:=PySem.W.hideAll s.heap (frs X.stack)) (h:=s.heap) (by rw[<- L.st];exact I.ok.frames) L.fr (λb o q=>PySem.W.of_hideAll _ q) (PySem.W.funFrames_hide fs O) Y λh' t x1 _ _ x4=>?_;have up:s.heap.UpToSlots h':=(Heap.UpToSlots.of_keeps Y.keeps).trans x4;show CXE X.prog X.w X.outer X.H₀ X.s₀ E (.ref ea) {s with heap:=h'};refine qpk (s:=s) I L.ex (λb o q=>PySem.W.of_hideAll _ q) (λb u q=>?_) (λb o q hb=>?_) x1 up J
 ·obtain⟨o,e⟩:∃o,s.heap.get? b=some o:=(I.hok b u q).there;exact⟨o,PySem.W.hideAll_get _ e λz=>by rw[I.stkFree b z]at q;cases q⟩
 ·obtain⟨o',q'⟩:=I.base.there b o q (by rw[L.ex];simp);exact⟨o',PySem.W.hideAll_get _ q' (I.old L.st L.fr q hb)⟩
end
abbrev qt2:List Value:=[.type "ValueError",.type "Exception",.type "BaseException",.type "object"]
def quh{K:xA}{h:Heap}{C:Addr}{Y:xH}{J:String}(X:K.In h)(q:PySem.W.excIn K C Y J=true):
  ∃bm N nm qn bs hd sn sub ab col dd k0 k1 k2 k3 k5 mN,h.get? C=some (excClassObj nm qn C N bs bm hd sn sub ab col dd k0 k1 k2 k3 k5 J)/\h.Ns N mN/\mN "__init__"=none/\OwnTail h Y bm:=by
 unfold PySem.W.excIn at q;split at q
 ·rename_i dd cd sl ho;split at q
  ·rename_i C' bm k0 k1 k2 k3 n k5 hm hs;simp only[z24,beq_iff_eq,Bool.not_eq_true']at q;obtain⟨⟨⟨⟨⟨rfl,rfl⟩,O⟩,ht⟩,hok⟩,Z⟩:=q;obtain⟨nm,bs,mro,ns,qn,hd,sn,sub,ab,col,del⟩:=cd
   dsimp only at hm O hok Z
   subst hm O;have a1:sl=#[k0,k1,k2,k3,some (.builtin n),k5]:=by
    obtain⟨l⟩:=sl;simp only at hs;rw[hs]
   subst a1;exact⟨bm,ns,nm,qn,bs,hd,sn,sub,ab,col,dd,k0,k1,k2,k3,k5,_,X _ _ ho,.of_isNs (PySem.W.isNs_of_in X hok),PySem.W.nsMap_none_of_in X hok Z,PySem.W.tail_of_in X ht⟩
  ·cases q
 ·cases q
def qwo(C:Addr)(E:XK)(t:TA):TS:=λ_ σ H=>t σ H λvs H1=>vs.length<=sizeLine/\E (.ref C) none H1
section
variable{X:Cx}{E:XK}{C:Addr}{x:Str}{np cpos pos:Pos}{e:Expr}{es:List Expr}{t:TA}
def qrt(L:Leav X E)(hq:PySem.W.excIn X.K C qt2 "ValueError.__new__"=true)(hm:X.mg x=some (.ref C))(ha:PA X (e::es) t)(hg:Gl X x:=by rfl)(hc:X.calm=true:=by rfl)
  (Y:starEach (e::es) X.env=(false,eval e X.env)::starEach es X.env:=by rfl) (O:(backTo cpos (starEach es X.env)).any (·.1)=false:=by rfl) (hd:(x==("__debug__":Str))=false:=by decide):
  PS X (.Raise (some (.Call (.Name x np) (e::es) [] cpos)) none pos) (qwo C E t):=by
 intro xC s σ H D I h;obtain⟨bm,N,nm,q,bs,hdct,sn,sub,ab,col,dd,k0,k1,k2,k3,k5,mN,hC,hN,J,T⟩:=quh I.mod.kin hq;refine wpAny_Raise_call_subT (C:=C) (nm:=nm) (q:=q) (N:=N) (bs:=bs) (bm:=bm) (hdct:=hdct) (sn:=sn) (sub:=sub) (ab:=ab) (col:=col) (dd:=dd) (k0:=k0) (k1:=k1) (k2:=k2) (k3:=k3) (k5:=k5)
  F.excBase_ValueError (mN:=mN) (T.hasType F.excBase_ValueError.hasBase) (I.ok.hd hc) (by rw[Y];show (false || (backTo cpos (starEach es X.env)).any (·.1))=false;rw[O];rfl) J (q7z I hg hm ⟨rfl,?_⟩ hd)
 have a:=ha cpos xC s σ H _ I h;rw[Y]at a ⊢;refine Calls.evalArgs_plain (thn a λus s2 ⟨vs,H2,I2,r,z,q⟩=>⟨rfl,by rw[<- r.length];exact z,I2.bk _ _ hC,hN.keeps I2.bk,T.keeps I2.bk,λh' ea hx=>?_⟩);exact qnl L I2 hx q
end
abbrev Cx.tried(X:Cx)(xC:xG)(xe:xB):Cx:={X with pn:=X.pn++xC,xe:=xe}
abbrev Cx.hand(X:Cx)(ea:Addr)(oe:Obj):Cx:={X with A:=X.A.mark (some (.ref ea)),calm:=false,pn:=(ea,oe)::X.pn,xe:=λ_ _=>False}
section
variable{X:Cx}{xC pins':xG}{σ:St}{H:Hp}{s:Shared}{xe:xB}{ea:Addr}{oe:Obj}
theorem Inv.tried(I:Inv X xC σ H s):Inv (X.tried xC xe) [] σ H s:=
 ⟨⟨I.ok.mod,I.ok.kind,I.ok.glob,I.ok.blt,I.ok.above,I.ok.inj,I.ok.has,I.ok.cab,I.ok.hd,I.ok.frames,I.ok.stk,I.ok.exf,I.ok.bs,I.ok.bsz,I.ok.noex,I.ok.exfs,I.ok.funs,I.ok.frf⟩,I.os,I.bare,I.base,I.loc,I.cell,I.free,I.freeC,
  λp J=>I.pin p (by rw[z2i]at J;exact J),I.hok,I.len⟩
def Inv.untried(I:Inv (X.tried xC xe) pins' σ H s)(ok:X.Ok):Inv X xC σ H s:=
 ⟨ok,I.os,I.bare,I.base,I.loc,I.cell,I.free,I.freeC,λp hp=>I.pin p (z0w _ hp),I.hok,I.len⟩
theorem Inv.hand(I:Inv X xC σ H s)(h:s.heap.get? ea=some oe/\H ea=none/\ea≠X.env.locals/\ea∉X.fs/\∀v,oe.data≠ .cell v):Inv (X.hand ea oe) xC σ H s:=
 ⟨⟨I.ok.mod,I.ok.kind,I.ok.glob,I.ok.blt,I.ok.above,I.ok.inj,I.ok.has,I.ok.cab,(λz=>by cases z),I.ok.frames,I.ok.stk,I.ok.exf,I.ok.bs,I.ok.bsz,I.ok.noex,I.ok.exfs,I.ok.funs,I.ok.frf⟩,I.os,I.bare,I.base,I.loc,I.cell,I.free,I.freeC,
  λp hp=>by
   rcases z32.mp hp with rfl | z
   ·exact h
   ·exact I.pin p z,I.hok,I.len⟩
def Inv.unhand(I:Inv (X.hand ea oe) xC σ H s)(ok:X.Ok):Inv X xC σ H s:=
 ⟨ok,I.os,I.bare,I.base,I.loc,I.cell,I.free,I.freeC,λp hp=>I.pin p (z0v _ hp),I.hok,I.len⟩
theorem SP.unhand{D:Ends}{f:Flow}(ok:X.Ok)(h:SP (X.hand ea oe) xC D f s):SP X xC D f s:=by
 cases f with
 | next=>obtain⟨σ',H',I,q⟩:=h;exact⟨σ',H',I.unhand ok,q⟩
 | brk=>obtain⟨σ',H',I,q⟩:=h;exact⟨σ',H',I.unhand ok,q⟩
 | cont=>obtain⟨σ',H',I,q⟩:=h;exact⟨σ',H',I.unhand ok,q⟩
 | ret u=>obtain⟨v,σ',H',I,r,q⟩:=h;exact⟨v,σ',H',I.unhand ok,r,q⟩
theorem SP.untried{D:Ends}{f:Flow}(ok:X.Ok)(h:SP (X.tried xC xe) pins' D f s):SP X xC D f s:=by
 cases f with
 | next=>obtain⟨σ',H',I,q⟩:=h;exact⟨σ',H',I.untried ok,q⟩
 | brk=>obtain⟨σ',H',I,q⟩:=h;exact⟨σ',H',I.untried ok,q⟩
 | cont=>obtain⟨σ',H',I,q⟩:=h;exact⟨σ',H',I.untried ok,q⟩
 | ret u=>obtain⟨v,σ',H',I,r,q⟩:=h;exact⟨v,σ',H',I.untried ok,r,q⟩
def q97{M:Model}{A:Around}{E:xB}{i:Nat}{n:Str}{pos:Pos}{Q:Unit->Shared->Prop}(I:Inv X xC σ H s)(hN:X.N.Nodup)(hi:X.N[i]? =some n)(hl:X.env.kindOf n=some .local)
  (h:∀s',Inv X xC (σ.set i none) H s'->Q () s'):wpAny M A (do bindName X.env n .none;unbindBehindTheSuite X.env n pos) Q E s:=by
 obtain⟨m,hn,a2⟩:=id I.loc;have Y:(X.env.scope.kind== .class || (X.env.scope.kind== .module&&X.env.locals !=X.env.globals))=false:=by rw[I.ok.kind];rfl
 have a1:i < σ.length:=by rw[I.len];exact(z06.mp hi).1
 have cne:=I.cne;obtain⟨oL,_,_,hoL,_⟩:=id hn;refine wpAny_nameGoes_keeps hl hn Y λh' v a3 J=>?_;have O:∀b o,X.s₀.heap.get? b=some o->b≠X.env.locals:=λb o e=>z3c (z1e (z3b e) I.ok.above);refine h _ ⟨I.ok,I.os,I.bare,⟨λb o e n hb Z=>(J.2 b (O b o e)).trans (I.base.keep b o e n hb Z),λb o e n hb Z=>?_,I.base.free,λb o e Z=>?_,I.base.tups,I.base.frzs,I.base.tbls⟩,⟨_,a3,λj y v' e1 e2 e3=>?_⟩,λy c e=>?_,I.free,I.freeC,λp hp=>?_,λb ob e=>?_,by simpa using I.len⟩
 ·obtain⟨sl,e1⟩:=I.base.slot b o e n hb Z;exact⟨sl,(J.2 b (O b o e)).trans e1⟩
 ·obtain⟨o',e1⟩:=I.base.there b o e Z;exact⟨o',(J.2 b (O b o e)).trans e1⟩
 ·by_cases hj:j=i
  ·subst hj;rw[List.getElem?_set_self a1]at e2;cases e2
  ·rw[List.getElem?_set_ne (Ne.symm hj)]at e2;obtain⟨u',r',q⟩:=a2 j y v' e1 e2 e3;refine⟨u',r',?_⟩;rcases q with ⟨k,e⟩ | ⟨k,c,e,z⟩
   ·refine .inl ⟨k,?_⟩;have:y≠n:=λe=>hj (qdo hN e1 (e ▸ hi));simp[this,e]
   ·exact .inr ⟨k,c,e,z.sameBut J (cne y c e)⟩
 ·obtain⟨w',z⟩:=I.cell y c e;exact⟨w',z.sameBut J (cne y c e)⟩
 ·obtain⟨e,n,ne,nf,d⟩:=I.pin p hp;exact⟨(J.2 p.1 ne).trans e,n,ne,nf,d⟩
 ·refine(I.hok b ob e).stay (λc w' hc q=>(J.2 c ?_).trans q) (λ_ q=>q) λ_ _ q=>q;rintro rfl;rcases hc with z | hc
  ·rw[<- z,I.free]at e;cases e
  ·rw[I.free]at hc;cases hc
end
def wTry(K:xA)(W:Addr)(n:Nat)(th:Addr->Obj->St->Hp->Prop):XK:=λcls _ H'=>PySem.W.exmOne K cls (.ref W)=some true/\∀ea oe σ',oe.cls=cls->H' ea=none->σ'.length=n->th ea oe σ' H'
def Ends.less(D:Ends)(i:Nat):Ends:={nx:=λσ H=>D.nx (σ.set i none) H,rt:=D.rt,bk:=λσ H=>D.bk (σ.set i none) H,ct:=λσ H=>D.ct (σ.set i none) H}
def qwp(K:xA)(W:Addr)(n i:Nat)(tb:XK->TS)(th:Addr->Obj->TS):TS:=λD σ H=>tb (wTry K W n λea oe σ'=>th ea oe (D.less i) (σ'.set i (some (.ref ea)))) D σ H
section
variable{X:Cx}{W:Addr}{x n:Str}{np hpos pos:Pos}{b₀:Stmt}{body suite:List Stmt}{tb:XK->TS}{th:Addr->Obj->TS}{i:Nat}
def qru{xC:xG}{Q:Flow->Shared->Prop}{th:Addr->Obj->St->Hp->Prop}{hd:ExceptHandler}(ok:X.Ok)(a2:X.stack=X.env::X.outer)(a8:X.env.frame=some X.env.locals)
  (go:∀(ea:Addr) (cls:Value) (t:Addr) (B:Heap) (σ:St) (H:Hp) (s:Shared),PySem.W.exmOne X.K cls (.ref W)=some true->(∃oe,oe.cls=cls/\s.heap.get? ea=some oe/\Inv (X.hand ea oe) xC σ H s)->(∀oe,oe.cls=cls->th ea oe σ H)->Heap.FlyingW B (X.env::X.outer) ea cls (.ref t) s.heap->
   (∀h2,Heap.FlyingW B (X.env::X.outer) ea cls (.ref t) h2->s.heap.UpToSlots h2->∃oe,oe.cls=cls/\Inv (X.hand ea oe) xC σ H {s with heap:=h2})->
   wpAny (model X.prog X.w) X.A (handleBy (.ref ea) X.env [hd]) Q X.xe s):
  q5f (CXE X.prog X.w) (X.tried xC λe s'=>wpAny (model X.prog X.w) X.A (noteFrame e X.env) (λ_ s₂=>wpAny (model X.prog X.w) X.A (setFlight e none) (λ_ s₃=>wpAny (model X.prog X.w) X.A (handleBy e X.env [hd]) Q X.xe s₃) X.xe s₂) X.xe s') (wTry X.K W X.N.length th):=by
 intro pins' σ' H1 s1 e s' I1 hx;obtain⟨ea,cls,t,H',B,rfl,os,bare,un,hok,fl,b1,b2,hE,hw⟩:=hx;have a7:Heap.FlyingW B (X.env::X.outer) ea cls (.ref t) s'.heap:=by rw[<- a2];exact fl
 have hn:H' ea=none:=by
  cases q:H' ea with
  | none=>rfl
  | some u=>
   obtain⟨o,e⟩:=b1 ea u q;rw[fl.2.1]at e;cases e
 have back:∀h2,Heap.FlyingW B (X.env::X.outer) ea cls (.ref t) h2->s'.heap.UpToSlots h2->∃oe,oe.cls=cls/\h2.get? ea=some oe/\Inv (X.hand ea oe) xC σ' H' {s' with heap:=h2}:=λh2 f2 up=>by
  have f3:Heap.FlyingW B X.stack ea cls (.ref t) h2:=by rw[a2];exact f2
  have J:Inv X xC σ' H' {s' with heap:=h2}:=(I1.call' (s':={s' with heap:=h2}) (ch:=[]) os (qpj un fl.1 fl.2.2.1 b2 f3.1 f3.2.2.1 up) (qmc hok fl.1 b1 f3.1) bare (λb z=>nomatch z)).untried ok;obtain⟨oe,ws,Z,a4,Y,_⟩:=f2.first;refine⟨oe,a4,Z,J.hand ⟨Z,hn,λz=>?_,λz=>?_,λv z=>by rw[Y]at z;cases z⟩⟩
  ·obtain⟨m,⟨o,es,ep,ho,hd,_⟩,_⟩:=J.loc;rw[<- z]at ho;have O:h2.get? ea=some o:=ho;rw[Z]at O;cases O
   rw[Y]at hd;cases hd
  ·obtain⟨_,o,ho,nf⟩:=J.funs.mem z;have O:h2.get? ea=some o:=ho;rw[Z]at O;cases O
   exact nf ws Y
 show wpAny (model X.prog X.w) X.A (noteFrame (.ref ea) X.env) _ _ _;refine wpAny_looks_onW (by rw[<- a2];exact ok.frames) a8 a7 λh4 a1 a5=>?_;refine wpAny_landsW a1 λh5 a3 a6=>?_;have J:=back h5 a3 (a5.trans a6);refine go ea cls t B σ' H' {s' with heap:=h5} hE J (λoe hc=>hw ea oe σ' hc hn ?_) a3 λh2 f2 up=>?_
 ·obtain⟨oe,_,_,J⟩:=J;exact J.len
 ·obtain⟨oe,h1,_,J⟩:=back h2 f2 ((a5.trans a6).trans up);exact⟨oe,h1,J⟩
def qj9{M:Model}{h:Heap}{oe:Obj}{ea:Addr}(e:h.get? ea=some oe):PySem.W.Looks M h (typeOf (.ref ea)) oe.cls:=(PySem.W.Looks.ld e).andThen .now
def qrv(hm:X.mg x=some (.ref W))(hb:∀xC xe E,q5f (CXE X.prog X.w) (X.tried xC xe) E->PSs (X.tried xC xe) body (tb E))(hs:∀ea oe,PSs (X.hand ea oe) (b₀::suite) (th ea oe))
  (hi:X.N[i]? =some n) (hl:X.env.kindOf n=some .local) (hN:X.N.Nodup)
  (hg:Gl X x:=by rfl) (a5:X.stack=X.env::X.outer:=by rfl) (a4:X.env.frame=some X.env.locals:=by rfl) (hd:(x==("__debug__":Str))=false:=by decide):
  PS X (.Try body [.ExceptHandler (some (.Name x np)) (some n) (b₀::suite) hpos] [] [] pos) (qwp X.K W X.N.length i tb th):=by
 intro xC s σ H D I h;refine wpAny_Try_except ?_;refine z3q (hb xC _ _ (qru (X:=X) (W:=W) (Q:=SP X xC D) (th:=λea oe σ'=>th ea oe (D.less i) (σ'.set i (some (.ref ea)))) (hd:= .ExceptHandler (some (.Name x np)) (some n) (b₀::suite) hpos) I.ok a5 a4 ?_) [] s σ H D I.tried h) (λf s1 hf=>?_) (λe s1 z=>z)
 ·intro ea cls t B σ' H' s' hE J hw fl back;obtain⟨oe,hc,ho,J⟩:=J;refine wpAny_handleBy_cons (codeAny_handlers_test ?_) (by intro q;cases q);refine q7z (X:=X.hand ea oe) J hg hm ?_ hd;refine(PySem.W.exm_one (M:=model X.prog X.w) J.kIn (hc ▸ qj9 ho) hE).here ?_;show codeAny _ _ _ _ _;refine codeAny_handlers_suite_as ?_;refine lands_againW fl λh6 a2 a6=>?_;obtain⟨a1,a3,J6⟩:=back h6 a2 a6;refine qaf (X:=X.hand ea a1) J6 hN hi (.inl hl) (show RelV (.ref ea) (.ref ea) from rfl) (λs7 J7=>?_) (.inr hl);refine z3q (hs ea a1 xC _ _ H' (D.less i) J7 (hw a1 a3)) (λf s2 hf=>?_) (λ_ _ z=>z.elim);have O:=hf.unhand I.ok;cases f with
  | next=>obtain⟨σ2,H2,Y,q⟩:=O;exact q97 Y hN hi hl λs3 Z=>⟨_,H2,Z,q⟩
  | brk=>obtain⟨σ2,H2,Y,q⟩:=O;exact q97 Y hN hi hl λs3 Z=>⟨_,H2,Z,q⟩
  | cont=>obtain⟨σ2,H2,Y,q⟩:=O;exact q97 Y hN hi hl λs3 Z=>⟨_,H2,Z,q⟩
  | ret u=>obtain⟨v,σ2,H2,Y,r,q⟩:=O;exact q97 Y hN hi hl λs3 Z=>⟨v,_,H2,Z,r,q⟩
 ·have O:=hf.untried I.ok;cases f with
  | next=>exact wpAny_execs_nil O
  | brk=>exact O
  | cont=>exact O
  | ret u=>exact O
end
end L2
namespace L2
open PySem PySem.Spec PyProof.Rows PySem.W Builtin Builtin.ObjectAttr Builtin.Getset_descriptor
structure ExcI (K:xA) (C:Addr):Prop where
 hga:findIn K (.ref C) "__getattribute__"=some (some (.builtin "BaseException.__getattribute__"))
 hgx:findIn K (.ref C) "__getattr__"=some none
 ha:findIn K (.ref C) "__class__"=some (some (.builtin "object.__class__"))
 hm:mroIn K C (.type "object")=some true
 hb:subIn K (.ref C) (.type "BaseException")=some true
section
variable{prog:Program}{w:World}{A:Around}{E:xB}{K:xA}{h:Heap}{g:Array GenState}{d:Drawn}{t:Nat}{os:OsState}{a C:Addr}{o:Obj}
def qbr(F:ExcI K C):(clsIn K C).isSome=true:=by
 have hm:=F.hm;unfold mroIn at hm;cases e:clsIn K C with
 | none=>rw[e]at hm;cases hm
 | some _=>rfl
def qui{R:Result->Shared->Prop}{tp:Value}(X:K.In h)(hx:h.get? a=some o)(hc:o.cls= .ref C)(hm:mroIn K C (.type "object")=some true)(hq:R (.ok (.ret (.ref C))) ⟨h,g,d,t,os⟩):
  codeAny (model prog w) A (.call (.builtin "getset_descriptor.__get__") ⟨[.builtin "object.__class__",.ref a,tp],[]⟩) R ⟨h,g,d,t,os⟩:=by
 have L0:Looks (model prog w) h (typeOf (.ref a)) (.ref C):=hc ▸ qj9 hx;have L1:=looks_mroIn (M:=model prog w) X hm;refine codeAny_call_builtin KF.slot_gs.plain KF.entry_gs (KF.slot_gs.check _ _ _ _ _ _ _ _ KF.type_class (KF.args_gs _ _ _) ?_);unfold Builtin.«getset_descriptor.__get__» descrGet;rw[dga_obj];refine z3p (z3o ?_);unfold descrGetter descrCheckInstance descrNameAndClass isInstance;simp only[KF.owner_class]
 repeat lk
 refine⟨Code.quiet_builtin _ (by decide+kernel),z2q KF.entry_class ?_⟩;unfold Builtin.«object.__class__» shownTypeOf
 repeat lk
 exact hq
def qpl{tk:Tok}{Q:Fin->Shared->Prop}(X:K.In h)(F:ExcI K C)(O:h.get? a=some o)(J:o.cls= .ref C)(hq:Q (.done (.ret (.ref C))) ⟨h,g,d,t,os⟩):
  wpAny (model prog w) A (Builtin.«object.__getattribute__» ⟨[.ref a,.str "__class__" tk],[]⟩) Q E ⟨h,g,d,t,os⟩:=by
 have hT5:(⟨h,g,d,t,os⟩:Shared).TypeIs (.builtin "object.__class__") "getset_descriptor":=PySem.F.typeOf_object_class;have f5:=PySem.F.typeOf_object_class;have f6:=PySem.F.slot_gs_get.lookup;have f7:=PySem.F.slot_gs_set.lookup;have L1:=looks_findIn (M:=model prog w) X F.ha
 repeat (any_goals (first | assumption | (with_reducible refine wpAny_loadPart_at O ?_;rw[J]) | with_reducible refine L1.at ?_ | wp_step))
 refine qui X O J F.hm ?_
 repeat (any_goals (first | assumption | wp_step))
def qpm{M:Model}{J:Value}{Q:Unit->Shared->Prop}(X:K.In h)(F:ExcI K C)(hx:h.get? a=some o)(hc:o.cls= .ref C)(hq:Q () ⟨h,g,d,t,os⟩):
  wpAny M A (checkBuiltinCall "BaseException.__getattribute__" ⟨[.ref a,J],[]⟩) Q E ⟨h,g,d,t,os⟩:=by
 have hk:builtinKind "BaseException.__getattribute__"=some .slot:=by decide+kernel
 have O:splitId "BaseException.__getattribute__"=some ("BaseException","__getattribute__"):=by decide+kernel
 have ha:=PySem.F.args_bexc_ga (.ref a) J;have L1:Looks M h (isSubtype (.ref C) (.type "BaseException")) true:=looks_subIn X F.hb;simp only[checkBuiltinCall,hk,O];refine z3p ?_
 ·unfold isInstance
  repeat (first | (with_reducible refine wpAny_loadPart_at hx ?_;rw[hc]) | with_reducible refine L1.at ?_ | wp_step)
  exact hq
def qrw{tk:Tok}{R:Result->Shared->Prop}(X:K.In h)(F:ExcI K C)(O:h.get? a=some o)(J:o.cls= .ref C)(hq:R (.ok (.ret (.ref C))) ⟨h,g,d,t,os⟩):
  codeAny (model prog w) A (.call (.builtin "BaseException.__getattribute__") ⟨[.ref a,.str "__class__" tk],[]⟩) R ⟨h,g,d,t,os⟩:=
 codeAny_call_builtin (PySem.F.excAttr_ValueError).ga.plain PySem.F.entry_bexc_ga (qpm X F O J (qpl X F O J hq))
def qwq{tk:Tok}{O J:Bool}{Q:xB}(X:K.In h)(F:ExcI K C)(hx:h.get? a=some o)(Z:o.cls= .ref C)(hq:Q (.ref C) ⟨h,g,d,t,os⟩):
  wpAny (model prog w) A (getAttrBy (.ref a) (.str "__class__" tk) O J) Q E ⟨h,g,d,t,os⟩:=by
 have f3:=(PySem.F.excAttr_ValueError).ga.bind (.ref a);have hx0:(J&&onTheHeap (Value.builtin "BaseException.__getattribute__"))=false:=by cases J <;> rfl
 have Y:(Value.builtin "BaseException.__getattribute__"==Value.builtin "object.__getattribute__")=false:=by decide+kernel
 have hx1:(onTheHeap (Value.ref C)&&Value.builtin "BaseException.__getattribute__"==Value.builtin "object.__getattribute__")=false:=by rw[Y];rfl
 have L1:=looks_findIn (M:=model prog w) X F.hga;have L2:=looks_findIn (M:=model prog w) X F.hgx
 repeat (any_goals (first | assumption | (with_reducible refine wpAny_loadPart_at hx ?_;rw[Z]) | with_reducible refine L1.at ?_ | with_reducible refine L2.at ?_ | wp_step))
 refine qrw X F hx Z ?_
 repeat (any_goals (first | assumption | wp_step))
def qrx{Q:Option Value->Shared->Prop}(X:K.In h)(F:ExcI K C)(hx:h.get? a=some o)(hc:o.cls= .ref C)(hq:Q (some (.ref C)) ⟨h,g,d,t+1,os⟩):
  wpAny (model prog w) A (getAttr? (.ref a) "__class__") Q E ⟨h,g,d,t,os⟩:=by
 unfold getAttr? getAttrBy?
 repeat (any_goals (first | assumption | with_reducible apply qwq X F hx hc | wp_step))
def qt3(a C:Addr)(h:Heap):Prop:=∃o,h.get? a=some o/\o.cls= .ref C
def qja(F:ExcI K C):KitX K (.ref a) (.ref C) (qt3 a C) where
 ty:=λM h _ p=>by
  obtain⟨o,h1,h2⟩:=p;exact h2 ▸ qj9 h1
 it:=λ_ _ X _=>by
  obtain⟨cd,J⟩:=Option.isSome_iff_exists.mp (qbr F);unfold clsIn at J;split at J
  ·rename_i c' d' O Z ho;intro A' Q' E' s' k q;unfold isType loadHead;exact z3p (wpAny_loadPart (k _ _ (X _ _ ho)) (z3o q))
  ·cases J
 ne:=λh tp dd its n sl X Y=>by
  obtain⟨cd,J⟩:=Option.isSome_iff_exists.mp (qbr F);refine Bool.eq_false_iff.mpr λq=>?_;have e:C=tp:=Value.ref.inj (beq_iff_eq.mp q);subst e;unfold clsIn at J;split at J
  ·rename_i c' d' O Z ho;have z:=(X _ _ ho).symm.trans Y;cases z
  ·cases J
 ca:=λ{_ _ _ _ _ s} X p k=>by
  obtain⟨h,g,d,t,os⟩:=s;obtain⟨o,h1,h2⟩:=p;exact qrx X F h1 h2 k
end
def qhz:bootBuiltins "ValueError"=some (.type "ValueError"):=by decide+kernel
section
variable{X:Cx}{ea C R:Addr}{oe:Obj}
def Inv.excAt{xC:xG}{σ:St}{H:Hp}{s:Shared}(I:Inv (X.hand ea oe) xC σ H s)(hc:oe.cls= .ref C):qt3 ea C s.heap:=⟨oe,(I.pin (ea,oe) z1c).1,hc⟩
def qpn(K:xA)(hK:X.K=K:=by rfl):q2t (X.hand ea oe) (.builtin "isinstance") (λxs H Q=>∃C c v b,xs=[.ref ea,v]/\oe.cls= .ref C/\ExcI K C/\(v= .ref c/\kitOne K (.ref C) (.ref c)=some b\/ ∃n,v= .ty n/\kitOne K (.ref C) (.type n)=some b)/\Q (.bl b) H):=by
 subst hK;intro xC s σ H xs us Q I r h;obtain⟨C,c,v,b,rfl,J,F,hv,q⟩:=h;obtain⟨u,u2,rfl,ru,O⟩:=qss r;cases ru
 have fin:∀tk,EP (X.hand ea oe) xC σ Q (.bool b) {s with toks:=tk}:=λtk=>⟨.bl _,H,I.tok tk,rfl,q⟩;rcases hv with ⟨rfl,e⟩ | ⟨n,rfl,e⟩
 ·cases O
  exact kia_one (qja F) I.kIn (I.excAt J) e (λz=>nomatch z) fin
 ·cases O
  exact kia_one (qja F) I.kIn (I.excAt J) e (λz=>nomatch z) fin
end
structure DefE (P:Program) (w:World) (K:xA) (mg:xE) (base:Heap) (k:Nat) (x:Str) (ps:xD) (sp:Sp):Prop where
 ex:∃f fd,FnOk P w K mg base (CXE P w) k f fd ps sp/\mg x=some (.ref f)/\PySem.W.keepIn K (.ref f)=true/\Binds K fd ps []
section
variable{P:Program}{w:World}{K:xA}{mg:xE}{base:Heap}
def Top.okE{x:Str}{st:Stmt}{N ps:xD}{k:Nat}{sp:Sp}(T:Top K mg x st ps)(S:FnScope N ps (qd st))(len:∀vs H Q E,sp vs H Q E->vs.length=ps.length)
  (J:∀(f:Addr) (cdv:Value) (A:Around) (outer:List Env) (s:Shared) (H:Hp) (vs:List V) (Q:VK) (E:XK),Room k (A.deeper (envOfC x (qd st) s.heap.objs.size f cdv))->sp vs H Q E->
   ∃t,PSs (cxOf (CXE P w) P w K mg base N x (qd st) f cdv A outer s H E) (q21 st) t/\t {nx:=λ_ H'=>Q .non H',rt:=Q} (q5i N vs) H):DefE P w K mg base (k+1) x ps sp:=by
 obtain⟨f,fd,F,hm,hb⟩:=T.ex;refine⟨f,fd,?_,hm,F.kp,Binds.all hb⟩;obtain⟨oc,od,kV,doc,pm,an,cdv,ct,osl,rfl,lk,O⟩:=F.ex;exact qsu lk O S len (J f cdv)
end
section
variable{X:Cx}{k k':Nat}{ps:xD}{sp:Sp}{E:XK}{x:Str}{p pos:Pos}{e:Expr}{es:List Expr}{t:TA}
def quj(D:DefE X.prog X.w X.K X.mg X.base k x ps sp)(hx:q5f (CXE X.prog X.w) X E)(hr:Room k' X.A)(hg:Gl X x)(ha:PA X (e::es) t)(hkk:k<=k':=by decide)
  (J:(x==("__debug__":Str))=false:=by decide) (he:starEach (e::es) X.env=(false,eval e X.env)::starEach es X.env:=by rfl) (O:(backTo pos (starEach es X.env)).any (·.1)=false:=by rfl):
  PE X (.Call (.Name x p) (e::es) [] pos) (qmy sp [] E t):=by
 obtain⟨f,fd,F,hm,hk,hb⟩:=D.ex;exact qlx F (hr.mono hkk) hg hm hk hb .nil hx ha J he O
end
structure XCls (K:xA) (C:Addr):Prop where
 new:excIn K C qt2 "ValueError.__new__"=true
 isi:ExcI K C
 ve:mroIn K C (.type "ValueError")=some true
 self:mroIn K C (.ref C)=some true
 ty:typeIn K (.ref C)=some (.type "type")
structure XiK (K:xA) (x:Str):Prop where
 ex:∃C:Addr,nsIn K mainGlobals x=some (some (.ref C))/\XCls K C
def xiK{K:xA}{x:Str}{C:Addr}(n:nsIn K mainGlobals x=some (some (.ref C)))(a:excIn K C [.type "ValueError",.type "Exception",.type "BaseException",.type "object"] "ValueError.__new__"=true)(b:findIn K (.ref C) "__getattribute__"=some (some (.builtin "BaseException.__getattribute__")))
  (c:findIn K (.ref C) "__getattr__"=some none) (d:findIn K (.ref C) "__class__"=some (some (.builtin "object.__class__"))) (e:mroIn K C (.type "object")=some true) (f:mroIn K C (.type "BaseException")=some true)
  (g:mroIn K C (.type "ValueError")=some true) (h:mroIn K C (.ref C)=some true) (i:typeIn K (.ref C)=some (.type "type")):XiK K x:=⟨C,n,a,⟨b,c,d,e,f⟩,g,h,i⟩
structure PiK (K:xA) (x y:Str) (b:Bool):Prop where
 ex:∃C D:Addr,nsIn K mainGlobals x=some (some (.ref C))/\nsIn K mainGlobals y=some (some (.ref D))/\mroIn K C (.ref D)=some b
def piK{K:xA}{x y:Str}{b:Bool}{C D:Addr}(n:nsIn K mainGlobals x=some (some (.ref C)))(m:nsIn K mainGlobals y=some (some (.ref D)))(e:mroIn K C (.ref D)=some b):PiK K x y b:=⟨C,D,n,m,e⟩
section
variable{K:xA}{h:Heap}{mg:xE}{x y:Str}{b:Bool}{C D:Addr}
def XiK.g(F:XiK K x)(X:K.In h)(G:h.Ns mainGlobals mg):mg x=some (.ref (cA mg x)):=by
 obtain⟨C,n,_⟩:=F.ex;rw[q5j (mg_of X G n)];exact mg_of X G n
def XiK.at'(F:XiK K x)(X:K.In h)(G:h.Ns mainGlobals mg):XCls K (cA mg x):=by
 obtain⟨C,n,q⟩:=F.ex;rw[q5j (mg_of X G n)];exact q
def PiK.at'(F:PiK K x y b)(X:K.In h)(G:h.Ns mainGlobals mg):mroIn K (cA mg x) (.ref (cA mg y))=some b:=by
 obtain⟨C,D,n,m,q⟩:=F.ex;rw[q5j (mg_of X G n),q5j (mg_of X G m)];exact q
def XCls.cls(F:XCls K C):(clsIn K C).isSome=true:=qbr F.isi
def XCls.kit(F:XCls K C)(G:XCls K D)(e:mroIn K C (.ref D)=some b):kitCls K (.ref C) (.ref D)=some b:=by
 show (if ((clsIn K D).isSome&&typeIn K (.ref D)==some (.type "type"))=true then subIn K (.ref C) (.ref D) else none)=some b;rw[if_pos (by rw[G.cls,G.ty];simp)];exact e
def XCls.veI(F:XCls K C):kitOne K (.ref C) (.type "ValueError")=some true:=by
 unfold kitOne;rw[if_neg (λz=>nomatch (beq_iff_eq.mp z:Value.ref C=Value.type "ValueError"))];show (if kitMeta "ValueError"=true then subIn K (.ref C) (.type "ValueError") else none)=some true;rw[if_pos (by decide+kernel)];exact F.ve
def XCls.caught(F:XCls K C)(G:XCls K D)(e:mroIn K C (.ref D)=some true):exmOne K (.ref C) (.ref D)=some true:=by
 unfold exmOne;rw[if_pos (by rw[show subIn K (.ref D) (.type "BaseException")=some true from G.isi.hb];rfl)];exact F.kit G e
end
end L2
namespace L2
open PySem PySem.Spec PyProof.Rows PySem.W
section
variable{X:Cx}{v1 v2 a:Expr}{t1 t2 ta:TE}{pos:Pos}
end
end L2
namespace L2
open PySem PySem.Spec PyProof.Rows PySem.W Builtin
theorem qha(a:Array Value):∀(k:Nat) (J:Array Value),((List.replicate k a).foldl (· ++ ·) J).toList=J.toList++(List.replicate k a.toList).flatten
 | 0,J=>by simp
 | k+1,J=>by
  rw[z13,List.foldl_cons,qha a k,z0z,z13,z1r,z1j]
section
variable{X:Cx}
theorem qjb{xs:List V}{us:xH}(h:Vals xs us):∀k,Vals (List.replicate k xs).flatten (List.replicate k us).flatten
 | 0=> .nil
 | k+1=>by
  rw[z13,z1r,z13,z1r];exact h.append (qjb h k)
end
section
variable{prog:Program}{w:World}{A:Around}{E:xB}
def IsList.ext{h h':Heap}{it l:Addr}{J:Array Value}(x:h.IsList l J)(k:Heap.ExtBut it h h')(n:l≠it):h'.IsList l J:=
 let ⟨o,e,c,d⟩:=x;⟨o,k l o n e,c,d⟩
theorem qhb{it l:Addr}{J:Array Value}(a2:l≠it):∀(n i:Nat) (s:Shared) (Q:List Value->Shared->Prop),s.heap.IsListIter it l i->s.heap.IsList l J->i+n<=J.size->
  (∀h',h'.IsListIter it l (i+n)->Heap.SameBut it s.heap h'->Q ((J.toList.drop i).take n) {s with heap:=h'})->wpAny (model prog w) A (draw (.ref it) n) Q E s
 | 0,i,s,Q,O,_,_,hQ=>by
  show wpAny _ _ (pure []) Q E s;exact z3o (by simpa using hQ s.heap O (Heap.SameBut.refl ..))
 | n+1,i,s,Q,O,ht,hle,hQ=>by
  have a1:i < J.size:=by lia
  show wpAny _ _ (pyNext (.ref it) >>=_) Q E s;refine z3p (wpAny_pyNext_list_item O ht (x:=J[i]) (by simp[a1]) λh₁ Y a3=>?_);refine z3p (z33 (qhb a2 n (i+1) _ _ Y (IsList.ext ht a3.extBut a2) (by lia) λh₂ Z a4=>z3o ?_));have hd:J.toList.drop i=J[i]::J.toList.drop (i+1):=by simp[z08,a1]
  have:=hQ h₂ (by rw[show i+(n+1)=i+1+n by lia];exact Z) (a3.trans a4);rw[hd,List.take_succ_cons]at this;exact this
def ql0{s:Shared}{l:Addr}{J:Array Value}{O:List (Bool×(Value->Sem Unit))}{Q:Unit->Shared->Prop}(hh:A.handled=none)(ht:s.heap.IsList l J)
  (hn:O.length=J.size) (Y:O.findIdx? (·.1)=none)
  (h:∀h',Heap.ExtBut s.heap.objs.size s.heap h'->wpAny (model prog w) A (assignInOrder (O.map (·.2)) J.toList) Q E {s with heap:=h'}):
  wpAny (model prog w) A (unpack (.ref l) O) Q E s:=by
 unfold unpack;rw[hn,Y];refine z3p (z33 ?_);have a2:l≠s.heap.objs.size:=by obtain⟨o,ho,_⟩:=ht;exact z3c (z3b ho)
 unfold unpackItems;refine z3p ?_;unfold notIterableAtAll;refine z3p (wpAny_specialOf ht.typeIs slot_list_iter.lookup ?_);refine z3o ?_;simp only[z18,if_false];refine z3p (z33 (z1p ht ?_));have hp:(s.heap.push {cls:= .type "list_iterator",data:= .fields #[.ref l,.int 0 0]}).IsList l J:=by
  obtain⟨o,ho,r⟩:=ht;exact⟨o,z0l _ ho,r⟩
 refine z3p (z33 (qhb a2 J.size 0 _ _ ⟨_,z11 _ rfl,zr,zr⟩ hp (by lia) λh₁ a1 a3=>?_));have Z:List.take J.size (List.drop 0 J.toList)=J.toList:=by
  rw[List.drop_zero];exact z0k (by simp)
 rw[Z];rw[if_neg (by simp)];have a5:h₁.IsList l J:=IsList.ext hp a3.extBut a2;refine z3p (z33 (wpAny_pyNext_list_end hh a1 a5 (by simp) λh₂ a4=>?_));simp only[Option.isSome_none,z18,if_false];refine z3o (h h₂ λb o hb e=>a4 b o hb (a3.extBut b o hb (z0l _ e)))
end
section
variable{X:Cx}
def gLst(K:xA)(n:Nat)(t:TGs):TG:=λv σ H Q=>∃a xs,v= .ref a/\SqL K H a xs/\xs.length=n/\t xs σ H Q
def qwr{es:List Expr}{k:Nat}{t:TGs}{n:Nat}{pos:Pos}(hc:X.calm=true)(h:PGs X es t)
  (hn:(assignEach es X.env).length=n:=by rfl) (J:(assignEach es X.env).findIdx? (·.1)=none:=by rfl):PG X (.Tuple es k pos) (gLst X.K n t):=by
 intro xC s σ H v u Q I r hw;obtain⟨a,xs,e1,hq,hl,hw⟩:=hw;subst e1;cases r
 obtain⟨its,rv,ht,hz⟩:=I.list hq;rw[assign_Tuple];refine z3p (wpAny_standAt (ql0 (I.ok.hd hc) ht.isList (by simp[hn,<- hl,rv.length]) J λh' hx=>?_));have I1:Inv X xC σ H {s with heap:=h'}:=I.kept (t':=s.toks) λb o e=>hx b o (z3c (z3b e)) e;exact h xC _ σ H xs _ Q I1 (by simpa using rv) hw
end
end L2
namespace L2
open PySem PySem.Spec PyProof.Rows
section
variable{prog:Program}{w:World}{A:Around}{R:Result->Shared->Prop}{I:Addr}{fp wr:List Addr}{n:Nat}{P:Nat->Value->Prop}{St:Nat->Heap->Prop}
end
section
variable{X:Cx}{e d:Expr}{t tk:TA}{p pos kpos:Pos}
end
section
variable{X:Cx}
end
end L2
namespace L2
open PySem PySem.Spec PyProof.Rows PySem.W
namespace Tab
end Tab
end L2
namespace L2
open PySem PySem.Spec PyProof.Rows PySem.W
namespace Tab
end Tab
end L2
namespace L2
open PySem PySem.Spec PyProof.Rows PySem.W
section
variable{P:Program}{w:World}{A:Around}{E:xB}{s:Shared}
end
section
variable{prog:Program}{w:World}{A:Around}{R:Result->Shared->Prop}{I:Addr}{fp wr:List Addr}{G:Array GenState->Array GenState->Prop}{n:Nat}{P:Nat->Value->Prop}{St:Nat->Shared->Prop}
end
section
variable{prog:Program}{w:World}{A:Around}{E:xB}{s:Shared}
end
section
variable{prog:Program}{w:World}{A:Around}{E:xB}{s:Shared}{a:Addr}{xs:List (Addr×List Str)}
end
section
variable{X:Cx}{xC:xG}{σ:St}{H:Hp}{s:Shared}
end
section
variable{X:Cx}{xC:xG}{σ:St}{H:Hp}{s:Shared}
end
end L2
namespace L2
open PySem PySem.Spec PyProof.Rows PySem.Builtin.Str PySem.StrLaws PySem.NumText
end L2
namespace Tim
open PySem PyProof.Rows
section
variable{M:Model}{A:Around}{E:xB}{s:Shared}{kd:SortKind}{S:Keyed->Prop}{rk:Keyed->Int}{n:Nat}
def Dne(rk:Keyed->Int)(n:Nat)(st st':SortSt):Prop:=(arrOf st').Perm (arrOf st)/\failedOf st'=none/\(pendingOf st').size<=1/\Up rk (arrOf st') 0 n
def ql1(L:LtOk M A E s kd S rk){st:SortSt}(B:Sane kd S n st)(h2:2<=n)(a3:n < 64)(hp:pendingOf st=#[]){Q:Unit->SortSt->Prop}
  (h:∀J,(arrOf J).Perm (arrOf st)->failedOf J=none->Up rk (arrOf J) 0 n->Q () J):wpS M A E s sortRuns' Q st:=by
 rw[sortRuns'_eq];refine wpS_bind (wpS_get ?_)
 dsimp only
 simp only[B.size];have a4:minRun' n n 0=n:=by
  obtain⟨f,hf⟩:∃f,n=f+1:=⟨n - 1,by lia⟩;have:minRun' (f+1) n 0=n:=by rw[minRun'_succ,if_pos a3];rfl
  rwa [<- hf]at this
 refine wpS_bind (wpS_mono (wpS_forRange (I:=λx c J=>(x=0/\c=(none,0)/\J=st)\/ (c=(none,n)/\Dne rk n st J))
  (Q:=λc J=>c=(none,n)/\Dne rk n st J) ?turn ?last (.inl ⟨rfl,rfl,rfl⟩)) ?after)
 case last=>
  rintro c J (⟨h0,_⟩ | z)
  ·lia
  ·exact z
 case turn=>
  rintro x c J _ hx (⟨rfl,rfl,rfl⟩ | ⟨rfl,D⟩)
  ·dsimp only
   rw[if_neg (show ¬ 0 >=n by lia)];refine wpS_bind (qmp L B (by lia) (by lia) λk a2 v2 k1 k2 u2=>?_)
   dsimp only
   rw[a4];have fin:∀O:SortSt,Mv 0 (0+(n - 0)) J O->Up rk (arrOf O) 0 n->Dne rk n J (setPending O ((pendingOf O).push (0,n,0))):=λO v3 u3=>by
    refine⟨v3.perm,(v3.sane B).failed,?_,u3⟩;show ((pendingOf O).push (0,n,0)).size<=1;rw[v3.pend,hp];exact z3j _
   have back:∀O:SortSt,Mv 0 (0+(n - 0)) J O->(pendingOf O).back? =none:=λO v3=>by
    rw[v3.pend,hp];rfl
   by_cases a1:k < n
   ·rw[if_pos a1];refine wpS_bind (wpS_lift (z3n ⟨zr,?_⟩));rw[show min (n - 0) n=n by lia];refine wpS_bind (qil L (v2.sane B) (by lia) (by lia) u2 λO v3 u3=>?_);have v4:Mv 0 (0+(n - 0)) J O:=v2.trans (v3.wide (z3j _) (by lia));simp only[Bool.not_true,z18,if_false];refine wpS_bind (wpS_get ?_);rw[back O v4]
    dsimp only
    rw[show (0+n)=n by lia] at*;exact wpS_bind (wpS_modify (wpS_pure (.inr ⟨zr,fin O v4 u3⟩)))
   ·rw[if_neg a1];have e:k=n:=by lia
    subst e;refine wpS_bind (wpS_get ?_);rw[back a2 v2]
    dsimp only
    rw[show (0+k)=k by lia] at*;exact wpS_bind (wpS_modify (wpS_pure (.inr ⟨zr,fin a2 v2 u2⟩)))
  ·dsimp only
   rw[if_pos (z3j n)];exact wpS_pure ⟨zr,D⟩
 case after=>
  rintro c J ⟨rfl,D⟩
  dsimp only
  refine wpS_bind (wpS_mono (wpS_forRange (I:=λ_ c Y=>c=(none,())/\Dne rk n st Y) (Q:=λc Y=>c=(none,())/\Dne rk n st Y) ?fturn (λ_ _ z=>z) ⟨zr,D⟩) ?fafter)
  case fturn=>
   rintro j c Y _ hj ⟨rfl,Z⟩;refine wpS_bind (wpS_get ?_);rw[if_pos Z.2.2.1];exact wpS_pure ⟨zr,Z⟩
  case fafter=>
   rintro c Y ⟨rfl,Z⟩
   dsimp only
   exact wpS_pure (h Y Z.1 Z.2.1 Z.2.2.2)
end
section
variable{prog:Program}{w:World}{A:Around}{E:xB}{s:Shared}
def qez{a:Addr}{vs:xH}{n:Nat}{rk:Value->Int}{P:PySem.Fin->Shared->Prop}(ho:s.heap.get? a=some (seqObj "list" vs.toArray n))(Z:vs.length < 64)(hk:Keys prog w A s a vs rk)
  (h:∀out:Array Value,Sorted rk vs out.toList->P (.done (.ret .none)) {s with heap:=sortedHeap s.heap a vs out}):wpAny (model prog w) A (Builtin.«list.sort» ⟨[.ref a],[]⟩) P E s:=by
 have hz:vs.length<=sizeLine:=z3d (z3a Z) (by decide);rw[list_sort_plain];have ha:a < s.heap.objs.size:=z3b ho;have a6:vs.toArray.size=vs.length:=z1n;refine z3p (listItems_at ho rfl (z3p (listUpdate_at ho rfl ?_ (by rw[a6];exact hz) (z3m _))));obtain⟨e1,a4⟩:∃e1,(s.heap.update a (Obj.mapSeq λ_=>#[])).get? a=some (seqObj "list" #[] e1):=⟨_,get?_update_seq ho (λ_=>#[])⟩;refine z3p (seqEpoch_at a4 rfl (z3p (wpAny_newTuple (z3p (wpAny_newList (z33 ?_))))));have s1:=z10 s.heap a (Obj.mapSeq λ_=>(#[]:Array Value));have keep:∀b o,(s.heap.update a (Obj.mapSeq λ_=>#[])).get? b=some o->(((s.heap.update a (Obj.mapSeq λ_=>#[])).push (seqObj "tuple" vs.toArray 0)).push (seqObj "list" #[] 0)).get? b=some o:=
  λb o e=>z0l _ (z0l _ e)
 have O:=keep a _ a4;have Y:∀b o,b≠a->s.heap.get? b=some o->(((s.heap.update a (Obj.mapSeq λ_=>#[])).push (seqObj "tuple" vs.toArray 0)).push (seqObj "list" #[] 0)).get? b=some o:=
  λb o hb e=>keep b o ((s1.2 b hb).trans e)
 show wpAny (model prog w) A _ P E {s with heap:=((s.heap.update a (Obj.mapSeq λ_=>#[])).push (seqObj "tuple" vs.toArray 0)).push (seqObj "list" #[] 0)}
 dsimp only
 by_cases h2:vs.toArray.size < 2
 ·rw[if_pos h2,if_pos h2];refine z3p (z3o ?_);rw[StateT.run_pure];refine z3p (z3o ?_)
  dsimp only
  have es:((vs.toArray.zip vs.toArray).map (·.2)).toList=vs:=by
   rw[Array.toList_map];show (pairsOf vs).toList.map _=_;rw[pairsOf_toList,List.map_snd_zip (z3j _)]
  refine z3p (seqEpoch_at O rfl (z3p (listUpdate_at O rfl ?_ (z3m _) (by rw[<- z0y,es];lia))));simp only[bne_self_eq_false,z18,if_false];refine z3o (h _ ?_);rw[es];refine⟨List.Perm.refl _,?_⟩;rw[a6]at h2
  match vs,h2 with
  | [],_=>exact .nil
  | [_],_=>exact List.pairwise_singleton ..
 ·rw[if_neg h2,if_neg h2];obtain⟨kd,kk,kl⟩:=hk (by lia) {s with heap:=((s.heap.update a (Obj.mapSeq λ_=>#[])).push (seqObj "tuple" vs.toArray 0)).push (seqObj "list" #[] 0)} Y;refine z3p (kk _ _ ?_);have hS:∀p∈(vs.toArray.zip vs.toArray).toList,p.1∈vs:=λp hp=>by
   have a5:p∈(pairsOf vs).toList:=hp;rw[pairsOf_toList]at a5;exact(mem_zip_self a5).2
  refine z3p (z3q (ql1 (S:=λp=>p.1∈vs) (rk:=λp=>rk p.1) (n:=vs.length) (st:=SortSt.mk' kd (vs.toArray.zip vs.toArray) #[] 7 none)
   (Q:=λ_ J=>(arrOf J).Perm (pairsOf vs)/\failedOf J=none/\Up (λp=>rk p.1) (arrOf J) 0 vs.length)
   (qt7 λx y hx hy=>kl x.1 hx y.1 hy) ⟨pairsOf_size vs,hS,rfl,rfl⟩ (by lia) Z rfl λJ a1 a2 a3=>⟨a1,a2,a3⟩) ?_ λ_ _ e=>e)
  rintro ⟨⟨⟩,J⟩ s' ⟨rfl,hp,hf,hu⟩
  dsimp only
  have so:=qin hp hu;refine z3p (seqEpoch_at O rfl (z3p (listUpdate_at O rfl ?_ (z3m _) (by rw[<- z0y,so.perm.length_eq];lia))));rw[hf];simp only[bne_self_eq_false,z18,if_false];exact z3o (h _ so)
end
end Tim
namespace L2
open PySem PySem.Spec PyProof.Rows PySem.W
section
variable{prog:Program}{w:World}{A:Around}{E:xB}{s:Shared}{a:Addr}
def qjc{x:Value}{Pv:List Value->Prop}{rk:List Value->Value->Int}{Q:xB}(O:∀vs,Pv vs->vs.length < 64)
  (hc:∀(Z:Around) (E':xB) (R:List Value->Shared->Prop),Z.handled=A.handled->(∀vs h' tk d,Pv vs->(∀b o,s.heap.get? b=some o->h'.get? b=some o)->s.heap.objs.size<=h'.objs.size->R vs {s with heap:=h',toks:=tk,drawn:=d})->wpAny (model prog w) Z (collect x) R E' s)
  (hk:∀(vs:xH) (Z:Around) (s':Shared) (a:Addr),Pv vs->Z.units<=A.units+4->s.heap.objs.size<=a->(∀b o,s.heap.get? b=some o->s'.heap.get? b=some o)->Tim.Keys prog w Z s' a vs (rk vs))
  (h:∀(vs:xH) (out:Array Value) (l:Addr) (n:Nat) (h':Heap) (tk:Nat) (d:Drawn),Pv vs->Tim.Sorted (rk vs) vs out.toList->(∀b o,s.heap.get? b=some o->h'.get? b=some o)->s.heap.objs.size<=l->h'.get? l=some (seqObj "list" out n)->Q (.ref l) {s with heap:=h',toks:=tk,drawn:=d}):
  wpAny (model prog w) A (call (.builtin "sorted") [x]) Q E s:=by
 refine Calls.call_function_entry kind_sorted plain_sorted entry_sorted (args_sorted1 _) ?_;unfold Builtin.«sorted»;refine z3p (m:=checkCount "sorted" 1 1 _) (z3o ?_);refine z3p (hc _ _ _ rfl λvs h1 tk d pv keep hsz=>?_);have O:=O vs pv;have hz:vs.length<=sizeLine:=z3d (z3a O) (by decide);refine z3p (wpAny_newList ?_ hz);have Y:(h1.push (seqObj "list" vs.toArray 0)).get? h1.objs.size=some (seqObj "list" vs.toArray 0):=z11 _ rfl;show wpAny _ _ _ _ _ {s with heap:=h1.push (seqObj "list" vs.toArray 0),toks:=tk,drawn:=d};have J:∀b o,s.heap.get? b=some o->(h1.push (seqObj "list" vs.toArray 0)).get? b=some o:=λb o e=>z0l _ (keep b o e);refine z3p (z33 (z26 slot_list_sort ⟨_,Y,zr⟩ entry_list_sort (Tim.qez Y O (hk vs _ _ _ pv ?_ hsz J) λout so=>⟨_,zr,?_⟩) (args_list_sort _)))
 ·show A.units+2<=A.units+4
  lia
 ·have a1:∀b o,s.heap.get? b=some o->b≠h1.objs.size:=λb o e=>z3c (z1e (z3b e) hsz);have u1:=z10 (h1.push (seqObj "list" vs.toArray 0)) h1.objs.size (Obj.mapSeq λ_=>(#[]:Array Value));obtain⟨e1,g1⟩:∃e1,((h1.push (seqObj "list" vs.toArray 0)).update h1.objs.size (Obj.mapSeq λ_=>(#[]:Array Value))).get? h1.objs.size=some (seqObj "list" #[] e1):=⟨_,get?_update_seq Y λ_=>#[]⟩;have g2:=z0l (seqObj "list" #[] 0) (z0l (seqObj "tuple" vs.toArray 0) g1);have g3:=get?_update_seq g2 λ_=>out;have u4:=z10 (((((h1.push (seqObj "list" vs.toArray 0)).update h1.objs.size (Obj.mapSeq λ_=>(#[]:Array Value))).push (seqObj "tuple" vs.toArray 0)).push (seqObj "list" #[] 0))) h1.objs.size (Obj.mapSeq λ_=>out);refine z3o ⟨_,zr,h vs out h1.objs.size _ _ tk d pv so (λb o e=>?_) hsz g3⟩;refine(u4.2 b (a1 b o e)).trans (z0l _ (z0l _ ((u1.2 b (a1 b o e)).trans (J b o e))))
end
section
variable{X:Cx}{xC:xG}{σ:St}{H:Hp}{s:Shared}
def qi0(hc:X.calm=true)(P:Program)(w:World)(hP:X.prog=P:=by rfl)(hw:X.w=w:=by rfl):q2t X (.builtin "sorted") (λxs H Q=>∃(p:Addr) (ys:xD),xs=[.ref p]/\H p=some (SetH P w p ys)/\ys.length < 64/\∀l,H l=none->Q (.ref l) (upd H l (.lst ((Tim.srt strLt ys).map V.str)))):=by
 subst hP hw;intro xC s σ H xs us Q I r h;obtain⟨p,ys,rfl,hp,Z,q⟩:=h;obtain⟨u,rfl,ru⟩:=q3h r;cases ru
 obtain⟨hS,_,_⟩:ObjOk X.prog X.w H s.heap p (SetH X.prog X.w p ys):=I.hok p _ hp;have yl:ys.length<=sizeLine:=by
  obtain⟨_,es,_,_,_,_,_,_,e,_,hb,_⟩:=id hS;rw[<- e,z2h,z0y];exact fits_of_scanBound hb
 have hh:=I.ok.hd hc;have Y:∀vs,qev ys vs->Vals ((vs.map sOf).map V.str) vs:=λvs z=>q89 z.2;refine qjc (Pv:=qev ys) (rk:=λvs v=>Tim.rank strLt (vs.map sOf) (sOf v)) (λvs z=>by rw[show vs.length=ys.length by rw[<- z.1.length_eq,z2h]];exact Z)
  (λA' E' R e k=>qkw (by rw[e];exact hh) hS λvs h' tk d z=>k vs h' tk d z) (λvs A' s' a z _ _ _=>qp8 (Y vs z)) λvs out l n h' tk d z so keep hl hg=>?_
 have ed:=Tim.qkq qcp sOf so;have O:∀u∈out.toList,∃x t,u= .str x t:=λu hu=>z.2 u (so.perm.mem_iff.mp hu);have J:=q89 O;have es:Tim.srt strLt (vs.map sOf)=Tim.srt strLt ys:=Tim.qp7 qcp ((Tim.q88 strLt _).trans z.1) (Tim.qm6 qcp _);rw[ed,es]at J;exact Inv.qkr (s:={s with drawn:=d}) I.drew J (by rw[z2h,(Tim.q88 strLt ys).length_eq];exact yl) keep hl hg (q l (I.hok.fresh hl))
end
section
variable{prog:Program}{w:World}{A:Around}{E:xB}{s:Shared}{I:Addr}{fp:List Addr}{n:Nat}{P:Nat->Value->Prop}{St:Nat->Heap->Prop}{T:String}
end
section
variable{X:Cx}{e:Expr}{te:TE}{p1 p2 q1 q2:Pos}
end
section
variable{prog:Program}{w:World}{A:Around}{E:xB}{s:Shared}
end
section
variable{prog:Program}{w:World}{A:Around}{E:xB}{s:Shared}{I:Addr}{fp:List Addr}{n:Nat}{P:Nat->Value->Prop}{St:Nat->Heap->Prop}{T:String}
end
section
variable{X:Cx}{e:Expr}{te:TE}{p1 p2 q1 q2:Pos}
end
end L2
namespace L2
open PySem PySem.Spec PyProof.Rows
section
variable{M:Model}{A:Around}{E:xB}{s:Shared}{B:Heap}{env:Env}{outer l:List Env}{L e:Addr}{cls a0 fl:Value}
end
section
variable{X:Cx}{xC pins':xG}{σ σ':St}{H H':Hp}{s s':Shared}{N:xD}{scope:Scope}{cl:List (Str×Addr)}{C:Addr}{fp:List Addr}{xe:xB}{E:XK}
end
section
variable{X:Cx}{xC:xG}{σ:St}{H:Hp}{s:Shared}{N:xD}{caps:List (Option Nat)}{scope:Scope}{elt tg iter:Expr}{ifs:List Expr}{wi:TI}{g:TG}{tf:TT}{te:TE}{pos:Pos}{E:XK}
end
def DefE.toD{P:Program}{w:World}{K:xA}{mg:xE}{base:Heap}{x:Str}{ps:xD}{k:Nat}{sp:Sp}(D:DefE P w K mg base k x ps sp):Def P w K mg base k x ps (λvs H Q _=>sp vs H Q λ_ _ _=>False):=by
 obtain⟨f,fd,F,hm,hk,hb⟩:=D.ex;refine⟨f,fd,⟨λvs H Q E h=>F.len vs H Q _ h,λA outer s H args us vs Q E hr he hb hv hs=>?_⟩,hm,hk,hb⟩;refine z3f (F.run A outer s H args us vs Q _ hr he hb hv hs) λr s' z=>?_;cases r with
 | error e=>
  obtain⟨_,_,_,_,_,_,_,_,_,_,_,_,_,z⟩:=z;exact z
 | ok fl=>cases fl <;> exact z
section
variable{X:Cx}{xC:xG}{σ:St}{H:Hp}{s:Shared}{a b:Addr}{kvs more:List (Key×V)}{A:Around}{E:xB}
def qy0{Q:xB}(I:Inv X xC σ H s)(e:H a=some (.dK kvs))(eb:Rd H b (.dK more))(ne:a≠b)(hl:kvs.length+more.length<=sizeLine)
  (h:∀s',Inv X xC σ (upd H a (.dK (q35 kvs more))) s'->Q .none s'):
  wpAny (model X.prog X.w) A (call (.builtin "dict.update") [.ref a,.ref b]) Q E s:=by
 obtain⟨zl,hd,vs,Y,dd⟩:=qn2 I.hok e;obtain⟨zb,hb,ws,J,db⟩:=q92 I.hok eb;refine call_meetsIn PySem.F.slot_dict_update dd.typeIs PySem.F.entry_dict_update (PySem.F.args_dict_update_2 _ _) (meets_dict_update (q16 X.prog X.w) a b ne hb) ⟨vs,ws,dd,db,by rw[<- Y.length,<- J.length];exact hl,λh' O _ hs=>?_⟩;have hp:(q35 kvs more).length<=sizeLine:=z3d (qb0 more kvs) hl;have he:∃q,h'.get? a=some q:=let ⟨q,_,_,hq,_⟩:=O;⟨q,hq⟩
 exact h _ (q6q I (by rw[e];exact True.intro) hs he (qiw hp hd (J.merge Y) O))
end
def qy1(td ty:TE):TE:=λσ H Q=>td σ H λx H1=>∃a,x= .ref a/\IsD H1 a/\ty σ H1 λy H2=>∃kvs more b,H2 a=some (.dK kvs)/\y= .ref b/\Rd H2 b (.dK more)/\a≠b/\kvs.length+more.length<=sizeLine/\
 Q .non (upd H2 a (.dK (q35 kvs more)))
section
variable{X:Cx}{o e:Expr}{apos cpos:Pos}{td ty:TE}
def quk(ho:PE X o td)(he:PE X e ty)(m:M1 X o "update" apos e cpos):PE X (.Call (.Attribute o "update" apos) [e] [] cpos) (qy1 td ty):=by
 intro xC s σ H Q I h;refine wpAny_Call_method m.base m.few m.line PySem.F.plainAttrs_dict PySem.F.slot_dict_update PySem.F.type_dict_update (thn (ho xC s σ H _ I h) λu s1 J=>?_);obtain⟨x,H1,I1,rx,a,ex,d,q1⟩:=J;subst ex;obtain rfl:u=Value.ref a:=rx;obtain⟨t1,t2,_⟩:=qem I1 d;refine⟨t1,t2,?_⟩;rw[m.trees];refine Calls.callWith_builtin rfl (Calls.evalArgs_plain (Calls.spliced_cons (thn (he xC s1 σ H1 _ I1 q1) λiv s2 ⟨y,H2,I2,ry,kvs,more,b,eH,ey,eb,ne,hl,q2⟩=>Calls.spliced_nil ?_)));subst ey;obtain rfl:iv=Value.ref b:=ry;exact qy0 I2 eH eb ne hl λs3 I3=>⟨.non,_,I3,zr,q2⟩
end
section
variable{X:Cx}
end
inductive NK where
 | leaf (k:Key)
 | tup (xs:List NK)
noncomputable instance : DecidableEq NK := fun a b => Classical.propDecidable _
mutual
def NK.deep:NK->Nat
 | .leaf _=>0
 | .tup xs=>NK.deeps xs+1
def NK.deeps:List NK->Nat
 | []=>0
 | x::r=>max x.deep (NK.deeps r)
end
mutual
def NK.draws:NK->Nat
 | .leaf _=>1
 | .tup xs=>NK.drawss xs+1
def NK.drawss:List NK->Nat
 | []=>0
 | x::r=>x.draws+NK.drawss r
end
theorem NK.qf0:∀xs ys:List NK,NK.drawss (xs++ys)=NK.drawss xs+NK.drawss ys
 | [],ys=>by rw[List.nil_append,NK.drawss,z39]
 | x::r,ys=>by rw[List.cons_append,NK.drawss,NK.drawss,NK.qf0 r ys,Nat.add_assoc]
section
variable{P:Program}{w:World}
def qul{i:Int}{v:Value}(h:(q16 P w).is (.inl i) v=true):∃t,v= .int i t:=by
 have h:q8z (.inl i) v=true:=h;rcases q24 h with ⟨j,t,e,rfl⟩ | ⟨x,t,e,rfl⟩
 ·cases e
  exact⟨t,zr⟩
 ·cases e
def qum{z:Str}{v:Value}(h:(q16 P w).is (.inr z) v=true):∃t,v= .str z t:=by
 have h:q8z (.inr z) v=true:=h;rcases q24 h with ⟨j,t,e,rfl⟩ | ⟨x,t,e,rfl⟩
 ·cases e
 ·cases e
  exact⟨t,zr⟩
mutual
def NK.hash(P:Program)(w:World):NK->Int
 | .leaf k=>(q16 P w).hash k
 | .tup xs=>reduceHash (Builtin.Tuple.tupleHashOf (NK.hashs P w xs))
def NK.hashs(P:Program)(w:World):List NK->List Int
 | []=>[]
 | x::r=>x.hash P w::NK.hashs P w r
end
mutual
def IsN(P:Program)(w:World)(h:Heap):NK->Value->Prop
 | .leaf k,v=>(q16 P w).is k v=true
 | .tup xs,v=>∃a o items n,v= .ref a/\h.get? a=some o/\o.cls= .type "tuple"/\o.data= .seq items n/\IsNs P w h xs items.toList
def IsNs(P:Program)(w:World)(h:Heap):List NK->List Value->Prop
 | [],vs=>vs=[]
 | x::r,vs=>∃v vr,vs=v::vr/\IsN P w h x v/\IsNs P w h r vr
end
mutual
theorem IsN.inj{h:Heap}:∀{x y:NK} {v:Value},IsN P w h x v->IsN P w h y v->x=y
 | .leaf k,.leaf j,v,J,hy=>by
  rw[IsN]at J;rw[IsN]at hy;rw[(q16 P w).inj _ _ _ J hy]
 | .leaf k,.tup ys,v,J,hy=>by
  rw[IsN]at J;rw[IsN]at hy;obtain⟨a,_,_,_,rfl,_⟩:=hy;exact absurd ((q16 P w).byValue _ _ J) (by simp[carriedByValue])
 | .tup xs,.leaf k,v,J,hy=>by
  rw[IsN]at J;rw[IsN]at hy;obtain⟨a,_,_,_,rfl,_⟩:=J;exact absurd ((q16 P w).byValue _ _ hy) (by simp[carriedByValue])
 | .tup xs,.tup ys,v,J,hy=>by
  rw[IsN]at J;rw[IsN]at hy;obtain⟨a,o,a2,n,rfl,ho,_,hd,hi⟩:=J;obtain⟨a',o',Y,n',e,a1,_,O,Z⟩:=hy;injection e with e;subst e;obtain rfl:o=o':=Option.some.inj (ho.symm.trans a1);rw[hd]at O;injection O with h1 _;subst h1;rw[IsNs.inj hi Z]
theorem IsNs.inj{h:Heap}:∀{x y:List NK} {vs:xH},IsNs P w h x vs->IsNs P w h y vs->x=y
 | [],[],_,_,_=>rfl
 | [],y::r,vs,J,hy=>by
  rw[IsNs]at J;rw[IsNs]at hy;obtain⟨v,O,e,_⟩:=hy;rw[J]at e;cases e
 | x::r,[],vs,J,hy=>by
  rw[IsNs]at J;rw[IsNs]at hy;obtain⟨v,O,e,_⟩:=J;rw[hy]at e;cases e
 | x::r,y::t,vs,J,hy=>by
  rw[IsNs]at J;rw[IsNs]at hy;obtain⟨v,O,rfl,h1,h2⟩:=J;obtain⟨v',vr',e,g1,g2⟩:=hy;cases e
  rw[IsN.inj h1 g1,IsNs.inj h2 g2]
end
mutual
theorem IsN.keeps{h h':Heap}{d:Addr}{o:Obj}{es ep}(ho:h.get? d=some o)(hd:o.data= .dict es ep)(hs:Heap.SameBut d h h'):∀{x:NK} {v:Value},IsN P w h x v->IsN P w h' x v
 | .leaf k,v,Z=>by
  rw[IsN]at Z ⊢;exact Z
 | .tup xs,v,Z=>by
  rw[IsN]at Z ⊢;obtain⟨a,o',O,n,rfl,Y,hc,J,hi⟩:=Z;have a1:a≠d:=by
   rintro rfl;obtain rfl:o'=o:=Option.some.inj (Y.symm.trans ho);rw[hd]at J;exact nomatch J
  exact⟨a,o',O,n,zr,(hs.2 a a1).trans Y,hc,J,IsNs.keeps ho hd hs hi⟩
theorem IsNs.keeps{h h':Heap}{d:Addr}{o:Obj}{es ep}(ho:h.get? d=some o)(hd:o.data= .dict es ep)(O:Heap.SameBut d h h'):∀{x:List NK} {vs:xH},IsNs P w h x vs->IsNs P w h' x vs
 | [],vs,J=>by
  rw[IsNs]at J ⊢;exact J
 | x::r,vs,J=>by
  rw[IsNs]at J ⊢;obtain⟨v,vr,rfl,h1,h2⟩:=J;exact⟨v,vr,zr,IsN.keeps ho hd O h1,IsNs.keeps ho hd O h2⟩
end
theorem NK.qhc:∀xs:List NK,NK.hashs P w xs=xs.map (NK.hash P w)
 | []=>by rw[NK.hashs];rfl
 | x::r=>by rw[NK.hashs,NK.qhc r];rfl
theorem qpo:∀(n:Nat) {A:Around} {E:xB} {s:Shared} {x:NK} {v:Value} {Q:Int->Shared->Prop},x.deep<=n->A.units+4*n < cLine->IsN P w s.heap x v->Q (x.hash P w) {s with toks:=s.toks+x.draws}->wpAny (model P w) A (pyHash v) Q E s
  | n,A,E,s,.leaf k,v,Q,_,hu,J,h=>by
    rw[IsN]at J;rw[NK.hash,NK.draws]at h;exact(q16 P w).pyHash J h
  | 0,A,E,s,.tup xs,v,Q,hn,_,_,_=>by
    rw[NK.deep]at hn
    lia
  | n+1,A,E,s,.tup xs,v,Q,hn,hu,J,h=>by
    rw[NK.deep]at hn;rw[IsN]at J;obtain⟨a,o,Y,m,rfl,ho,hc,hd,hi⟩:=J;have O:s.TypeIs (.ref a) "tuple":=⟨o,ho,hc⟩;unfold pyHash
    first | unfold pyHashByItsType | skip
    first | refine z3p (wpAny_cRoomFor_or (.inr (by lia)) ?_) | skip
    refine z3p (wpAny_specialOf O F.slot_tuple_hash.lookup ?_);show wpAny _ _ (if (some (Value.builtin "tuple.__hash__")==some Value.none)=true then _ else _) Q E s;rw[if_neg (by rw[beq_builtin_none];exact z19)];refine z3p (wpAny_specialOf O F.slot_tuple_hash.lookup ?_);show wpAny _ _ (callSpecialIfBoundUnlessNone? (.ref a) "__hash__" _ >>=_) Q E s;refine z3p (wpAny_callSpecialIfBoundUnlessNone?_slot O F.slot_tuple_hash (z26 F.slot_tuple_hash O F.entry_tuple_hash ?_ (F.args_tuple_hash_1 _)));show wpAny _ _ (Builtin.Tuple.tupleItemsOf (.ref a) >>=_) _ _ s;refine z3p (wpAny_tupleItemsOf ho hd ?_);refine z3p ?_;rw[<- Array.forIn_toList];refine wpAny_forIn_list _ (λrest (b:Array Int) s'=>∃done left,xs=done++left/\IsNs P w s.heap left rest/\NK.deeps left<=n/\b.toList=done.map (NK.hash P w)/\s'={s with toks:=s.toks+NK.drawss done}) _ ?_ ?_ _ _ ⟨[],xs,rfl,hi,by lia,rfl,rfl⟩
    · rintro x rest b s' ⟨done,left,rfl,hl,dl,hb,rfl⟩
      cases left with
      | nil=>
        rw[IsNs]at hl;cases hl
      | cons k ks=>
        rw[IsNs]at hl;obtain⟨v,vr,e,h1,h2⟩:=hl;cases e
        rw[NK.deeps]at dl;refine z3p (qpo n (x:=k) (by lia) (by rw[Around.in1_units];lia) h1 ?_);have Z:NK.drawss (done++ [k])=NK.drawss done+k.draws:=by
          rw[NK.qf0,NK.drawss,NK.drawss]
          lia
        first
          | exact z3o ⟨done++ [k],ks,by simp,h2,by lia,by simp[hb],by rw[Z,Nat.add_assoc]⟩
          | exact z3p (z3o (z3o ⟨done++ [k],ks,by simp,h2,by lia,by simp[hb],by rw[Z,Nat.add_assoc]⟩))
    · rintro b s' ⟨done,left,rfl,hl,_,hb,rfl⟩
      cases left with
      | cons k ks=>
        rw[IsNs]at hl;obtain⟨v,vr,e,_⟩:=hl;cases e
      | nil=>
        rw[z2i]at h;rw[NK.hash,NK.draws,NK.qhc]at h;show wpAny _ _ (retInt (Builtin.Tuple.tupleHashOf b.toList)) _ _ _;rw[hb];refine wpAny_ret_mkInt ?_;show wpAny _ _ (if (decide (-(2:Int)^63<=Builtin.Tuple.tupleHashOf (done.map (NK.hash P w)))&&decide (Builtin.Tuple.tupleHashOf (done.map (NK.hash P w)) < 2^63))=true then _ else _) Q E _;unfold reduceHash at h;by_cases hr:(decide (-(2:Int)^63<=Builtin.Tuple.tupleHashOf (done.map (NK.hash P w)))&&decide (Builtin.Tuple.tupleHashOf (done.map (NK.hash P w)) < 2^63))=true
        · rw[if_pos hr]
          rw[if_pos hr]at h;exact z3o (by simpa [Nat.add_assoc] using h)
        · rw[if_neg hr]
          rw[if_neg hr]at h;exact z3p (z3n (z3o (by simpa [Nat.add_assoc] using h)))
mutual
def NK.dat:NK->PyData
 | .leaf (.inl i)=> .int i
 | .leaf (.inr z)=> .str z
 | .tup xs=> .tuple (NK.dats xs)
def NK.dats:List NK->List PyData
 | []=>[]
 | x::r=>x.dat::NK.dats r
end
mutual
theorem IsN.reads{h:Heap}:∀{x:NK} {v:Value},IsN P w h x v->∃as,Reads h v x.dat as
 | .leaf (.inl i),v,J=>by
  rw[IsN]at J;obtain⟨t,rfl⟩:=qul J;exact⟨[],by rw[NK.dat];exact .int i t⟩
 | .leaf (.inr z),v,J=>by
  rw[IsN]at J;obtain⟨t,rfl⟩:=qum J;exact⟨[],by rw[NK.dat];exact .str z t⟩
 | .tup xs,v,J=>by
  rw[IsN]at J;obtain⟨a,o,O,n,rfl,ho,hc,hd,hi⟩:=J;obtain⟨as,ha⟩:=IsNs.reads hi;exact⟨as,by rw[NK.dat];exact .tuple ho hc hd ha⟩
theorem IsNs.reads{h:Heap}:∀{x:List NK} {vs:xH},IsNs P w h x vs->∃as,ReadsAll h vs (NK.dats x) as
 | [],vs,J=>by
  rw[IsNs]at J;subst J;exact⟨[],by rw[NK.dats];exact .nil⟩
 | x::r,vs,J=>by
  rw[IsNs]at J;obtain⟨v,vr,rfl,h1,h2⟩:=J;obtain⟨as,ha⟩:=IsN.reads h1;obtain⟨bs,hb⟩:=IsNs.reads h2;exact⟨as++bs,by rw[NK.dats];exact .cons ha hb⟩
end
mutual
theorem NK.eqv:∀x y:NK,PyData.eqv x.dat y.dat=decide (x=y)
 | .leaf (.inl i),.leaf (.inl j)=>by
  rw[NK.dat,NK.dat];show decide (i=j)=_;exact decide_eq_decide.mpr ⟨λe=>by rw[e],λe=>by injection e with e;injection e⟩
 | .leaf (.inl i),.leaf (.inr z)=>by
  rw[NK.dat,NK.dat];exact(z2d (λe=>by injection e with e;cases e)).symm
 | .leaf (.inr z),.leaf (.inl i)=>by
  rw[NK.dat,NK.dat];exact(z2d (λe=>by injection e with e;cases e)).symm
 | .leaf (.inr z),.leaf (.inr y)=>by
  rw[NK.dat,NK.dat];show (z==y)=_;by_cases e:z=y
  ·subst e;rw[z2s rfl];simp
  ·rw[z2d (λq=>e (by injection q with q;injection q))]
   simpa using e
 | .leaf (.inl i),.tup ys=>by
  rw[NK.dat,NK.dat];exact(z2d (λe=>by cases e)).symm
 | .leaf (.inr z),.tup ys=>by
  rw[NK.dat,NK.dat];exact(z2d (λe=>by cases e)).symm
 | .tup xs,.leaf (.inl i)=>by
  rw[NK.dat,NK.dat];exact(z2d (λe=>by cases e)).symm
 | .tup xs,.leaf (.inr z)=>by
  rw[NK.dat,NK.dat];exact(z2d (λe=>by cases e)).symm
 | .tup xs,.tup ys=>by
  rw[NK.dat,NK.dat,PyData.eqv,NK.eqvs xs ys];exact decide_eq_decide.mpr ⟨λe=>by rw[e],λe=>by injection e⟩
theorem NK.eqvs:∀x y:List NK,PyData.eqvAll (NK.dats x) (NK.dats y)=decide (x=y)
 | [],[]=>by rw[NK.dats,PyData.eqvAll,z2s rfl]
 | [],_::_=>by rw[NK.dats,NK.dats,PyData.eqvAll];exact(z2d (λe=>by cases e)).symm
 | _::_,[]=>by rw[NK.dats,NK.dats,PyData.eqvAll];exact(z2d (λe=>by cases e)).symm
 | x::p,y::q=>by
  rw[NK.dats,NK.dats,PyData.eqvAll,NK.eqv x y,NK.eqvs p q];by_cases h1:x=y
  ·by_cases h2:p=q
   ·rw[z2s h1,z2s h2,z2s (by rw[h1,h2])];rfl
   ·rw[z2s h1,z2d h2,z2d (λe=>h2 (List.cons.inj e).2)];rfl
  ·rw[z2d h1,z2d (λe=>h1 (List.cons.inj e).1)];rfl
end
mutual
theorem NK.depth:∀x:NK,x.dat.depth=x.deep
 | .leaf (.inl i)=>by rw[NK.dat,NK.deep];rfl
 | .leaf (.inr z)=>by rw[NK.dat,NK.deep];rfl
 | .tup xs=>by rw[NK.dat,NK.deep,<- NK.depths xs];rfl
theorem NK.depths:∀x:List NK,PyData.depthAll (NK.dats x)=NK.deeps x
 | []=>by rw[NK.dats,NK.deeps];rfl
 | x::r=>by rw[NK.dats,NK.deeps,<- NK.depth x,<- NK.depths r];rfl
end
theorem qhd:∀{xs:List NK} {n:Nat},NK.deeps xs<=n->∀x∈xs,x.deep<=n
 | [],_,_,x,J=>nomatch J
 | y::r,n,h,x,J=>by
  rw[NK.deeps]at h;rcases z32.mp J with rfl | J
  ·lia
  ·exact qhd (by lia) x J
theorem IsNs.mem{h:Heap}:∀{xs:List NK} {vs:xH},IsNs P w h xs vs->∀v∈vs,∃x∈xs,IsN P w h x v
 | [],vs,O,v,J=>by
  rw[IsNs]at O;subst O;cases J
 | x::r,vs,O,v,J=>by
  rw[IsNs]at O;obtain⟨u,vr,rfl,h1,h2⟩:=O;rcases z32.mp J with rfl | J
  ·exact⟨x,z1c ..,h1⟩
  ·obtain⟨y,hy,h3⟩:=IsNs.mem h2 v J;exact⟨y,z0v _ hy,h3⟩
theorem qmd:∀(n:Nat) {A:Around} {E:xB} {s:Shared} {x:NK} {v:Value} {Q:Bool->Shared->Prop},x.deep<=n->IsN P w s.heap x v->Q true s->wpAny (model P w) A (eqIsQuiet n v) Q E s
 | n,A,E,s,.leaf k,v,Q,_,Y,h=>by
  rw[IsN]at Y;rw[eqIsQuiet_byValue n ((q16 P w).byValue _ _ Y)];exact z3o h
 | 0,A,E,s,.tup xs,v,Q,hn,_,_=>by
  rw[NK.deep]at hn
  lia
 | n+1,A,E,s,.tup xs,v,Q,hn,Y,h=>by
  rw[NK.deep]at hn;rw[IsN]at Y;obtain⟨a,o,J,m,rfl,ho,hc,hd,hi⟩:=Y;have hT:s.TypeIs (.ref a) "tuple":=⟨o,ho,hc⟩;unfold eqIsQuiet;refine z3p (wpAny_specialOf hT F.slot_tuple_eq.lookup ?_);show wpAny _ _ (isInstance (.ref a) (.type "tuple") >>=_) _ _ s;refine z3p (wpAny_isInstance hT isSubtype_tuple_tuple ?_);simp only[Bool.not_true,z18,if_false];refine z3p (wpAny_seqItems ho hd ?_);refine z3p ?_;show wpAny _ _ (forIn J _ _) _ _ s;rw[<- Array.forIn_toList];have all:∀v∈J.toList,∃y,y.deep<=n/\IsN P w s.heap y v:=λv hv=>by
   obtain⟨y,hy,h1⟩:=IsNs.mem hi v hv;exact⟨y,qhd (by lia) y hy,h1⟩
  refine wpAny_forIn_list _ (λrest r s'=>r.1=none/\s'=s/\∀v∈rest,∃y,y.deep<=n/\IsN P w s.heap y v) _ ?_ ?_ _ _ ⟨rfl,rfl,all⟩
  ·rintro v rest r s' ⟨hr,rfl,O⟩;obtain⟨y,h1,h2⟩:=O v z1c;refine z3p (qmd n h1 h2 ?_);simp only[Bool.not_true,z18,if_false];exact z3o ⟨zr,zr,λu Z=>O u (z0v _ Z)⟩
  ·rintro ⟨r1,r2⟩ s' ⟨hr,rfl,_⟩;simp only at hr;subst hr;exact z3o h
end
noncomputable def nestKind (P : Program) (w : World) : HeapKind P w NK where
 is:=λh x a=>IsN P w h x (.ref a)/\x.deep<=7/\x.dat.canLay0=true
 hash:=NK.hash P w
 draws:=NK.draws
 room:=λA=>A.units+40 < cLine
 inj:=λhx hy=>IsN.inj hx.1 hy.1
 keeps:=λx ho hd hs=>⟨x.1.keeps ho hd hs,x.2⟩
 pyHash:=λhu hk h=>qpo 7 hk.2.1 (by lia) hk.1 h
 eqBool:=λ{A E s x y a b Q} hu hx hy h=>by
  obtain⟨as,ra⟩:=hx.1.reads;obtain⟨bs,rb⟩:=hy.1.reads;refine SeqAt.eqAt_reads x.dat y.dat A s _ _ as bs ra rb hx.2.2 hy.2.2 ?_ _ _ _ _ ?_
  ·rw[NK.depth,NK.depth];have:=hx.2.1
   lia
  ·rw[NK.eqv];exact h
 quiet:=λhk h=>qmd 8 (Nat.le_succ_of_le hk.2.1) hk.1 h
mutual
def NAt(H:Hp):NK->V->Prop
 | .leaf k,v=>v=kV k
 | .tup xs,v=>∃a vs,v= .ref a/\H a=some (.tup vs)/\NAts H xs vs
def NAts(H:Hp):List NK->List V->Prop
 | [],vs=>vs=[]
 | x::r,vs=>∃v vr,vs=v::vr/\NAt H x v/\NAts H r vr
end
mutual
theorem NAt.keep{H H':Hp}(J:∀b ys,H b=some (.tup ys)->H' b=some (.tup ys)):∀{x:NK} {v:V},NAt H x v->NAt H' x v
 | .leaf k,v,h=>by
  rw[NAt]at h ⊢;exact h
 | .tup xs,v,h=>by
  rw[NAt]at h ⊢;obtain⟨a,vs,e,h1,h2⟩:=h;exact⟨a,vs,e,J _ _ h1,NAts.keep J h2⟩
theorem NAts.keep{H H':Hp}(J:∀b ys,H b=some (.tup ys)->H' b=some (.tup ys)):∀{x:List NK} {v:List V},NAts H x v->NAts H' x v
 | [],v,h=>by
  rw[NAts]at h ⊢;exact h
 | x::r,v,h=>by
  rw[NAts]at h ⊢;obtain⟨u,ur,e,h1,h2⟩:=h;exact⟨u,ur,e,NAt.keep J h1,NAts.keep J h2⟩
end
def NAt.same{H H':Hp}{x:NK}{v:V}(s:Same H H')(h:NAt H x v):NAt H' x v:=h.keep λ_ _ e=>s _ _ e
mutual
theorem NAt.is{P:Program}{w:World}{H:Hp}{h:Heap}(ok:HOk P w H h):∀{x:NK} {v:V} {u:Value},NAt H x v->RelV v u->IsN P w h x u
 | .leaf k,v,u,J,r=>by
  rw[NAt]at J;subst J;rw[IsN];exact q91 r
 | .tup xs,v,u,J,r=>by
  rw[NAt]at J;obtain⟨a,vs,rfl,h1,h2⟩:=J;cases (show u=Value.ref a from r)
  obtain⟨_,its,rv,o,g1,g2,n,g3⟩:=(show ObjOk P w H h a (.tup vs) from ok a _ h1);rw[IsN];exact⟨a,o,its.toArray,n,zr,g1,g2,g3,by simpa using NAts.is ok h2 rv⟩
theorem NAts.is{P:Program}{w:World}{H:Hp}{h:Heap}(ok:HOk P w H h):∀{x:List NK} {v:List V} {u:xH},NAts H x v->Vals v u->IsNs P w h x u
 | [],v,u,J,r=>by
  rw[NAts]at J;subst J;cases r
  rw[IsNs]
 | x::xs,v,u,J,r=>by
  rw[NAts]at J;obtain⟨v1,vr,rfl,h1,h2⟩:=J;cases r with
  | cons r1 r2=>
   rw[IsNs];exact⟨_,_,zr,NAt.is ok h1 r1,NAts.is ok h2 r2⟩
end
def NOk(x:NK):Prop:=x.deep<=7/\x.dat.canLay0=true
abbrev KN(H:Hp):List (NK×V)->List (NK×Addr×Value)->Prop:=Paired λp q=>p.1=q.1/\(NAt H p.1 (.ref q.2.1)/\NOk p.1)/\RelV p.2 q.2.2
def KN.val{H:Hp}{kvs:List (NK×V)}{xs:List (NK×Addr×Value)}(r:KN H kvs xs)(k:NK):RelO (valV kvs k) ((atKey xs k).map (·.2)):=by
 induction r with
 | nil=>exact True.intro
 | @cons p q ps J h t ih=>
  obtain⟨h1,_,h2⟩:=h;by_cases e:p.1=k
  ·have e':q.1=k:=h1.symm.trans e;have b:atKey (q::J) k=some q.2:=by simp[atKey,z2k,e']
   rw[q15 e,b];exact h2
  ·have e':q.1≠k:=λz=>e (h1.trans z);have b:atKey (q::J) k=atKey J k:=by simp[atKey,z2k,e']
   rw[q26 e,b];exact ih
def KN.repl{H:Hp}{kvs:List (NK×V)}{xs:List (NK×Addr×Value)}(r:KN H kvs xs)(k:NK){y:V}{u:Value}(ry:RelV y u):
  KN H (kvs.map λJ=>if J.1=k then (J.1,y) else J) (xs.map (putAt k u)):=by
 induction r with
 | nil=>exact .nil
 | @cons p q ps qs h t ih=>
  rw[z30,z30];refine .cons ?_ ih;obtain⟨h1,h2,h3⟩:=h;unfold putAt;by_cases e:p.1=k
  ·have e':q.1=k:=h1.symm.trans e;rw[if_pos e,if_pos e'];exact⟨h1,h2,ry⟩
  ·have e':q.1≠k:=λz=>e (h1.trans z);rw[if_neg e,if_neg e'];exact⟨h1,h2,h3⟩
def KN.put{H:Hp}{kvs:List (NK×V)}{xs:List (NK×Addr×Value)}(r:KN H kvs xs)(k:NK){b:Addr}{y:V}{u:Value}(hb:NAt H k (.ref b)/\NOk k)(ry:RelV y u):
  KN H (putK kvs k y) (storedH xs k b u):=by
 have e:(kvs.any λkv=>decide (kv.1=k))=(atKey xs k).isSome:=by
  rw[q2q,(r.val k).q4m,Option.isSome_map]
 unfold putK storedH;rw[e];by_cases q:(atKey xs k).isSome=true
 ·rw[if_pos q,if_pos q];exact r.repl k ry
 ·rw[if_neg q,if_neg q];exact Paired.snoc r ⟨rfl,hb,ry⟩
def KN.keeps{H H':Hp}{kvs:List (NK×V)}{xs:List (NK×Addr×Value)}(r:KN H kvs xs)(ht:∀b ys,H b=some (.tup ys)->H' b=some (.tup ys)):KN H' kvs xs:=
 Paired.mapP r λ_ _ z=>⟨z.1,⟨z.2.1.1.keep ht,z.2.1.2⟩,z.2.2⟩
def dNφ(P:Program)(w:World)(a:Addr)(xs:List (NK×Addr×Value)):Heap->Prop:=λh=>(a==sysModules)=false/\xs.length<=sizeLine/\∃o es ep,h.get? a=some o/\o.ExactDict/\o.data= .dict es ep/\es.toList=xs.map (entryOfKey (nestKind P w))/\(xs.map (·.1)).Nodup
def qih{P:Program}{w:World}{H:Hp}{a:Addr}{xs:List (NK×Addr×Value)}{h:Heap}(x:dNφ P w a xs h):ObjOk P w H h a (.ext (dNφ P w a xs)):=by
 refine⟨x,let ⟨_,_,o,_,_,h1,_⟩:=x;⟨o,h1⟩,λh1 h2 y k=>?_⟩;obtain⟨y1,y2,o,es,ep,g1,g2⟩:=y;exact⟨y1,y2,o,es,ep,k _ g1,g2⟩
def DN(P:Program)(w:World)(H:Hp)(a:Addr)(kvs:List (NK×V)):Prop:=∃xs,H a=some (.ext (dNφ P w a xs))/\KN H kvs xs
def DN.same{P:Program}{w:World}{H H':Hp}{a:Addr}{kvs:List (NK×V)}(s:Same H H')(h:DN P w H a kvs):DN P w H' a kvs:=let ⟨xs,h1,h2⟩:=h;⟨xs,s _ _ h1,h2.keeps λ_ _ e=>s _ _ e⟩
section
variable{P:Program}{w:World}{H:Hp}{h:Heap}{a:Addr}
def q67{kvs:List (NK×V)}(ok:HOk P w H h)(e:DN P w H a kvs):kvs.length<=sizeLine/\(a==sysModules)=false/\∃xs,H a=some (.ext (dNφ P w a xs))/\KN H kvs xs/\h.DictOfH (nestKind P w) a xs:=by
 obtain⟨xs,e,r⟩:=e;obtain⟨⟨y,z,o,es,ep,h1,h2,h3,h4,h5⟩,_⟩:=(show ObjOk P w H h a (.ext (dNφ P w a xs)) from ok a _ e);refine⟨by rw[Paired.length r];exact z,y,xs,e,r,o,es,ep,h1,h2,h3,h4,λx J=>?_,h5⟩;have all:∀{l:List (NK×V)} {m:List (NK×Addr×Value)},KN H l m->∀x∈m,(nestKind P w).is h x.1 x.2.1:=by
  intro l m q
  induction q with
  | nil=>intro x J;exact nomatch J
  | @cons p q ps qs hq t ih=>
   intro x J;rcases z32.mp J with e | J
   ·subst e;obtain⟨g1,⟨g2,g3⟩,_⟩:=hq;rw[<- g1];exact⟨g2.is ok rfl,g3⟩
   ·exact ih x J
 exact all r x J
def qa5{k:NK}{b:Addr}(ok:HOk P w H h)(e:NAt H k (.ref b))(o:NOk k):(nestKind P w).is h k b:=⟨e.is ok rfl,o⟩
end
def q75{P:Program}{w:World}{A:Around}(hu:A.units+64 < cLine):(nestKind P w).room A.in1:=by
 show A.in1.units+40 < cLine;rw[Around.in1_units]
 lia
section
variable{X:Cx}{xC:xG}{σ:St}{H:Hp}{s:Shared}{a b:Addr}{v d:V}{r:Value}{A:Around}{E:xB}{kvs:List (NK×V)}{k:NK}
def qpp{Q:xB}(hu:A.units+64 < cLine)(I:Inv X xC σ H s)(g:DN X.prog X.w H a kvs)(nk:NAt H k (.ref b))(ok:NOk k)(l:valV kvs k=some v)(h:∀J s',Inv X xC σ H s'->RelV v J->Q J s'):
  wpAny (model X.prog X.w) A (getItem (.ref a) (.ref b)) Q E s:=by
 obtain⟨z,hd,xs,_,Y,dd⟩:=q67 I.hok g;obtain⟨J,hw,Z⟩:=RelO.qcm (v:=v) (o:=(atKey xs k).map (·.2)) (by rw[<- l];exact Y.val k);obtain⟨p,hp,O⟩:=z0n.mp hw;refine wpAny_getItem_heap (q75 hu) (qa5 I.hok nk ok) dd hp ?_;rw[O];exact h J _ (I.tok _) Z
def qun{Q:xB}(hu:A.units+64 < cLine)(I:Inv X xC σ H s)(g:DN X.prog X.w H a kvs)(nk:NAt H k (.ref b))(ok:NOk k)(h:∀s',Inv X xC σ H s'->Q (.bool (!(valV kvs k).isSome)) s'):
  wpAny (model X.prog X.w) A (compareOp .NotIn (.ref b) (.ref a)) Q E s:=by
 obtain⟨z,hd,xs,_,J,dd⟩:=q67 I.hok g;refine wpAny_notIn_heap (q75 hu) (qa5 I.hok nk ok) hd dd ?_;have q:=(J.val k).q4m;rw[Option.isSome_map]at q;rw[<- q];exact h _ (I.tok _)
def qws{Q:xB}(hu:A.units+64 < cLine)(I:Inv X xC σ H s)(g:DN X.prog X.w H a kvs)(nk:NAt H k (.ref b))(ok:NOk k)(rd:RelV d r)(h:∀O s',Inv X xC σ H s'->RelV ((valV kvs k).getD d) O->Q O s'):
  wpAny (model X.prog X.w) A (call (.builtin "dict.get") [.ref a,.ref b,r]) Q E s:=by
 obtain⟨z,hd,xs,_,J,dd⟩:=q67 I.hok g;exact call_meetsIn PySem.F.slot_dict_get dd.typeIs PySem.F.entry_dict_get (PySem.F.args_dict_get_3 _ _ _) (meetsH_dict_get_default (nestKind X.prog X.w) a b hd r) ⟨q75 hu,k,xs,qa5 I.hok nk ok,dd,h _ _ (I.tok _) ((J.val k).getD rd)⟩
def qpq{Q:Unit->Shared->Prop}(hu:A.units+64 < cLine)(I:Inv X xC σ H s)(g:DN X.prog X.w H a kvs)(nk:NAt H k (.ref b))(ok:NOk k)(l:kvs.length < sizeLine)(rv:RelV v r)(h:∀o s',DN X.prog X.w (upd H a o) a (putK kvs k v)->Inv X xC σ (upd H a o) s'->Q () s'):
  wpAny (model X.prog X.w) A (setItem (.ref a) (.ref b) r) Q E s:=by
 obtain⟨z,hd,xs,e,O,dd⟩:=q67 I.hok g;have hz:xs.length<=sizeLine:=by rw[<- Paired.length O];exact z
 refine wpAny_setItem_heap (hsz:=hz) (q75 hu) (qa5 I.hok nk ok) dd λh' Z hs=>?_;obtain⟨q,es,ep,hq,h2,h3,h4,_,h5⟩:=Z;have J:=(O.put k ⟨nk,ok⟩ rv);have hl:(storedH xs k b r).length<=sizeLine:=by
  rw[<- Paired.length J];have:=q2j kvs k v
  lia
 have Y:KN (upd H a (.ext (dNφ X.prog X.w a (storedH xs k b r)))) (putK kvs k v) (storedH xs k b r):=J.keeps λc ys ec=>by
  rw[qk (λz=>by rw[z,e]at ec;cases ec)];exact ec
 exact h (.ext (dNφ X.prog X.w a (storedH xs k b r))) _ ⟨_,qb,Y⟩ (q6q I (by rw[e];exact True.intro) hs ⟨q,hq⟩ (qih ⟨hd,hl,q,es,ep,hq,h2,h3,h4,h5⟩))
end
def qy2(P:Program)(w:World):TE:=λσ H Q=>∀p o,H p=none->DN P w (upd H p o) p []->Q (.ref p) (upd H p o)
def qy3(P:Program)(w:World)(td ty:TE):TE:=λσ H Q=>td σ H λx H1=>ty σ H1 λy H2=>∃a b kvs k v,x= .ref a/\y= .ref b/\DN P w H2 a kvs/\NAt H2 k (.ref b)/\NOk k/\valV kvs k=some v/\Q v H2
def quo(P:Program)(w:World)(ty td:TE):TE:=λσ H Q=>ty σ H λy H1=>td σ H1 λx H2=>∃a b kvs k,x= .ref a/\y= .ref b/\DN P w H2 a kvs/\NAt H2 k (.ref b)/\NOk k/\Q (.bl (!(valV kvs k).isSome)) H2
def qwt(P:Program)(w:World)(td ty tx:TE):TE:=λσ H Q=>td σ H λx H1=>∃a,x= .ref a/\(∃kvs,DN P w H1 a kvs)/\ty σ H1 λy H2=>tx σ H2 λz H3=>∃b kvs k,y= .ref b/\DN P w H3 a kvs/\NAt H3 k (.ref b)/\NOk k/\Q ((valV kvs k).getD z) H3
def qy4(P:Program)(w:World)(td ty tv:TE):TS:=λD σ H=>tv σ H λv H1=>td σ H1 λx H2=>ty σ H2 λy H3=>∃a b kvs k,x= .ref a/\y= .ref b/\DN P w H3 a kvs/\NAt H3 k (.ref b)/\NOk k/\kvs.length < sizeLine/\∀o,DN P w (upd H3 a o) a (putK kvs k v)->D.nx σ (upd H3 a o)
section
variable{X:Cx}{P:Program}{w:World}{o i e f value:Expr}{pos pos' tpos apos cpos:Pos}{td ty tv tx:TE}
def qds{xC:xG}{σ:St}{H:Hp}{s:Shared}{a:Addr}{kvs:List (NK×V)}(I:Inv X xC σ H s)(g:DN X.prog X.w H a kvs):s.TypeIs (.ref a) "dict":=by
 obtain⟨_,_,xs,_,_,dd⟩:=q67 I.hok g;exact dd.typeIs
def q6s(hP:X.prog=P:=by rfl)(hw:X.w=w:=by rfl):PE X (.Dict [] [] pos) (qy2 P w):=by
 subst hP hw;intro xC s σ H Q I h;have J:(s.heap.objs.size==sysModules)=false:=beq_eq_false_iff_ne.mpr (Ne.symm (z3c I.big));have new:dNφ X.prog X.w s.heap.objs.size [] (s.heap.push {cls:= .type "dict",data:= .dict #[]}):=⟨J,z3m _,_,#[],0,z11 _ rfl,⟨rfl,rfl,rfl⟩,rfl,rfl,z2w⟩;exact wpAny_Dict_empty ⟨.ref s.heap.objs.size,_,I.laid (a:=s.heap.objs.size) (o:= .ext (dNφ X.prog X.w s.heap.objs.size [])) (t':=s.toks) (λ_ _ q=>z0l _ q) (z3j _) (qih new),zr,h _ _ (I.hok.fresh (z3j _)) ⟨[],qb,.nil⟩⟩
def q82(hu:X.A.units+64 < cLine)(ho:PE X o td)(hi:PE X i ty)(hs:NoSl i)(hP:X.prog=P:=by rfl)(hw:X.w=w:=by rfl):PE X (.Subscript o i pos) (qy3 P w td ty):=by
 subst hP hw;intro xC s σ H Q I h;refine qlz PySem.F.slot_dict_getitem.lookup hs (thn (ho xC s σ H _ I h) λu s1 ⟨x,H1,I1,rx,q1⟩=>thn (hi xC s1 σ H1 _ I1 q1) λiv s2 O=>?_);obtain⟨y,H2,I2,ry,a,b,kvs,k,v,ex,ey,g,nk,ok,l,q2⟩:=O;subst ex ey;obtain rfl:u=Value.ref a:=rx;obtain rfl:iv=Value.ref b:=ry;exact⟨qds I2 g,qpp hu I2 g nk ok l λw' s3 I3 J=>⟨v,H2,I3,J,q2⟩⟩
def q5y(hu:X.A.units+64 < cLine)(hi:PE X i ty)(ho:PE X o td)(hP:X.prog=P:=by rfl)(hw:X.w=w:=by rfl):PC X .NotIn i o (quo P w ty td):=by
 subst hP hw;intro xC s σ H Q I h;refine thn (hi xC s σ H _ I h) λiv s1 ⟨y,H1,I1,ry,q1⟩=>thn (ho xC s1 σ H1 _ I1 q1) λu s2 J=>?_;obtain⟨x,H2,I2,rx,a,b,kvs,k,ex,ey,g,nk,ok,q2⟩:=J;subst ex ey;obtain rfl:u=Value.ref a:=rx;obtain rfl:iv=Value.ref b:=ry;exact qun hu I2 g nk ok λs3 I3=>⟨.bl (!(valV kvs k).isSome),H2,I3,zr,q2⟩
def q6t(hu:X.A.units+64 < cLine)(ho:PE X o td)(hi:PE X i ty)(hv:PE X value tv)(hs:swapsWith value (some (.Subscript o i pos')) pos.line X.env=pure false)(hP:X.prog=P:=by rfl)(hw:X.w=w:=by rfl):
  PS X (.Assign [.Subscript o i pos'] value pos) (qy4 P w td ty tv):=by
 subst hP hw;intro xC s σ H D I h;refine wpAny_Assign_Subscript (thn (hv xC s σ H _ I h) λr s1 ⟨v,H1,I1,rv,q1⟩=>thn (ho xC s1 σ H1 _ I1 q1) λu s2 ⟨x,H2,I2,rx,q2⟩=>thn (hi xC s2 σ H2 _ I2 q2) λiv s3 J=>?_) hs;obtain⟨y,H3,I3,ry,a,b,kvs,k,ex,ey,g,nk,ok,l,q3⟩:=J;subst ex ey;obtain rfl:u=Value.ref a:=rx;obtain rfl:iv=Value.ref b:=ry;exact qpq hu I3 g nk ok l rv λo s4 dn I4=>⟨σ,_,I4,q3 o dn⟩
def qdt(hu:X.A.units+64 < cLine)(ho:PE X o td)(he:PE X e ty)(hf:PE X f tx)(m:M2 X o "get" apos e f cpos)(hP:X.prog=P:=by rfl)(hw:X.w=w:=by rfl):PE X (.Call (.Attribute o "get" apos) [e,f] [] cpos) (qwt P w td ty tx):=by
 subst hP hw;intro xC s σ H Q I h;refine wpAny_Call_method m.base m.few m.line PySem.F.plainAttrs_dict PySem.F.slot_dict_get PySem.F.type_dict_get (thn (ho xC s σ H _ I h) λu s1 O=>?_);obtain⟨x,H1,I1,rx,a,ex,⟨kv0,d⟩,q1⟩:=O;subst ex;obtain rfl:u=Value.ref a:=rx;have t2:∀b,Value.ref a= .ref b->∃ob,s1.heap.get? b=some ob/\ob.dict=none:=λb q=>by
  cases q
  obtain⟨_,_,xs,_,_,ob,_,_,h1,h2,_⟩:=q67 I1.hok d;exact⟨ob,h1,h2.2.1⟩
 refine⟨qds I1 d,t2,?_⟩;rw[m.trees];refine Calls.callWith_builtin rfl (Calls.evalArgs_plain (Calls.spliced_cons (thn (he xC s1 σ H1 _ I1 q1) λiv s2 ⟨y,H2,I2,ry,q2⟩=>
  Calls.spliced_cons (thn (hf xC s2 σ H2 _ I2 q2) λfv s3 ⟨z,H3,I3,rz,b,kvs,k,ey,g,nk,ok,q3⟩=>Calls.spliced_nil ?_))))
 subst ey;obtain rfl:iv=Value.ref b:=ry;exact qws hu I3 g nk ok rz λw' s4 I4 J=>⟨_,H3,I4,J,q3⟩
def qwu{prog:Program}{w:World}{K:Type}[DecidableEq K]{knd:HeapKind prog w K}{A:Around}{E:xB}{s:Shared}{d:Addr}{xs:List (K×Addr×Value)}{Q:xB}(hd:(d==sysModules)=false)(hm:s.heap.DictOfH knd d xs)(Y:(xs.length:Int) < 2^63)
  (h:Q (.int xs.length (s.toks+1)) {s with toks:=s.toks+1+1}):wpAny (model prog w) A (call (.builtin "len") [.ref d]) Q E s:=by
 refine Calls.call_function_entry kind_len plain_len entry_len (args_len1 _) ?_;unfold Builtin.«len»;refine z3p (m:=oneArg "len" _) (z3o ?_);have J:MeetsIn prog w (Builtin.«dict.__len__» ⟨[.ref d],[]⟩) (λ_ R s=>∃xs,s.heap.DictOfH knd d xs/\R (.ok (.ret (.int xs.length s.toks))) {s with toks:=s.toks+1}):= .of_wp λA R s ⟨xs,hm,h⟩=>by
  obtain⟨o,es,ep,ho,hc,O,he,_⟩:=hm;show wpAny _ _ (dictSize d >>=_) _ _ s;unfold dictSize;refine z3p (z3p (z1u ho O (z3o ?_)));show wpAny _ _ (Builtin.Dict.pendingCount d >>=_) _ _ s;refine z3p (wpAny_pendingCount_other hd ?_);refine wpAny_ret_mkInt ?_;have:es.size=xs.length:=size_of_entries he;rw[Nat.add_zero,this];exact h
 refine z3p (m:=callSpecial? (.ref d) (Str.ofString "__len__")) (wpAny_callSpecial?_slot (name:=Str.ofString "__len__") hm.typeIs F.slot_dict_len
  (call_meetsIn F.slot_dict_len hm.typeIs F.entry_dict_len (F.args_dict_len_1 _) J ⟨xs,hm,?_⟩))
 show wpAny _ _ _ _ _ {s with toks:=s.toks+1};refine z3p (z33 (z3o ?_));refine z3p (wpAny_letGo ?_);show wpAny _ _ (if ((xs.length:Nat):Int) < 0 then _ else _) _ _ _;rw[if_neg (by lia)];show wpAny _ _ (if ((xs.length:Nat):Int) >=2^63 then _ else _) _ _ _;rw[if_neg (by lia)];exact z3p (wpAny_mkInt (z3o ⟨_,zr,h⟩))
def qbs(P:Program)(w:World)(hP:X.prog=P:=by rfl)(hw:X.w=w:=by rfl):q2t X (.builtin "len") (λxs H Q=>∃a kvs,xs=[V.ref a]/\DN P w H a kvs/\Q (.int kvs.length) H):=by
 subst hP hw;intro xC s σ H xs us Q I r h;obtain⟨a,kvs,rfl,ha,q⟩:=h;obtain⟨u,rfl,ru⟩:=q3h r;cases ru
 obtain⟨z,hd,xs,_,J,dd⟩:=q67 I.hok ha;have O:kvs.length=xs.length:=Paired.length J;refine qwu hd dd (by rw[<- O];rw[sizeLine_eq]at z;lia) ?_;rw[<- O];exact⟨.int kvs.length,H,I.tok _,⟨_,zr⟩,q⟩
end
end L2
namespace L2
open PySem PySem.Spec PyProof.Rows PySem.W
section
variable{prog:Program}{w:World}{A:Around}{E:xB}{s:Shared}
end
abbrev PR:=Str×List Key
def pN(p:PR):NK:= .tup [.leaf (.inr p.1),.tup (p.2.map NK.leaf)]
theorem qhe:∀{a b:List Key},a.map NK.leaf=b.map NK.leaf->a=b
 | [],[],_=>rfl
 | [],_::_,e=>nomatch e
 | _::_,[],e=>nomatch e
 | x::a,y::b,e=>by
  rw[z30,z30]at e;injection e with e1 e2;injection e1 with e1;rw[e1,qhe e2]
def qjd{p q:PR}(e:pN p=pN q):p=q:=by
 unfold pN at e;injection e with e;injection e with e1 e2;injection e2 with e2 _;injection e1 with e1;injection e1 with e1;injection e2 with e2;exact Prod.ext e1 (qhe e2)
def DP(P:Program)(w:World)(H:Hp)(a:Addr)(kvs:List (PR×V)):Prop:=DN P w H a (kvs.map λkv=>(pN kv.1,kv.2))
section
variable{X:Cx}{P:Program}{w:World}{k k':Nat}{x p1:Str}{sp:Sp}{e:Expr}{t:TA}{p pos kpos xp:Pos}
end
end L2
namespace L2
open PySem PySem.Spec PyProof.Rows
section
variable{X:Cx}
end
section
variable{X:Cx}
def qup(K:xA)(hK:X.K=K:=by rfl):OpR X (binaryOp .Mult) (λx y H Q=>∃a n xs,x= .ref a/\y= .int n/\SqL K H a xs/\xs≠ []/\0<=n/\n<=1000/\xs.length<=1000/\∀p,H p=none->Q (.ref p) (upd H p (.lst (List.replicate n.toNat xs).flatten))):=by
 subst hK;intro xC s σ H x y v u Q I rx ry h;obtain⟨a,n,xs,rfl,rfl,ha,hx,h0,hn,hl,q⟩:=h;cases rx
 obtain⟨t',rfl⟩:=ry;obtain⟨its,r1,⟨⟨cls,dd,data,O⟩,k,ho,J,_,hd⟩,_⟩:=I.list ha;simp only at J hd;subst J hd;have ne:0 < its.length:=by
  rw[<- r1.length];exact List.length_pos_iff.mpr hx
 have hz:its.length<=1000:=by rw[<- r1.length];exact hl
 have ie:its.toArray.isEmpty=false:=Bool.eq_false_iff.mpr λq=>by
  have:=Array.isEmpty_iff.mp q;rw[show its=[] from by simpa using this]at ne;exact absurd ne (by decide)
 have hm:its.toArray.size*n.toNat<=1000*1000:=z2z (by simpa using hz) (by lia);have hf:H s.heap.objs.size=none:=I.hok.fresh (z3j _);refine wpAny_binaryOp_repeat_ref (T:="list") (U:="int") (by decide) ⟨_,ho,zr⟩ (λs'=>typeIs_int s' n t') noFill_list_mul PySem.F.fills_int_mul PySem.F.slot_int_rmul repeat_list PySem.F.slot_int_index.lookup
  (call_meets PySem.F.slot_int_rmul (typeIs_int s n t') PySem.F.entry_int_rmul (PySem.F.args_int_rmul_2 _ _) (lm_int_rmul_list_any n t' a its.toArray k dd O)
   ⟨ho,rfl,⟨_,ho,rfl⟩,call_meets PySem.F.slot_list_mul ⟨_,ho,rfl⟩ PySem.F.entry_list_mul (PySem.F.args_list_mul_2 _ _)
    (lm_list_mul_any a its.toArray k dd O n t' (by simp[Builtin.List.listFitsIndex];lia) (by lia) (λz=>Nat.not_lt.mpr (z3d hm (by decide)) (of_decide_eq_true z)))
    ⟨ho,.ref s.heap.objs.size,upd H s.heap.objs.size (.lst (List.replicate n.toNat xs).flatten),I.laid (t':=s.toks) (λb u e=>z0l _ e) (z3j _) ?_,rfl,q _ hf⟩⟩)
 have hsz:(List.replicate n.toNat xs).flatten.length<=sizeLine:=by
  rw[List.length_flatten,List.map_replicate,List.sum_replicate_nat];have:n.toNat*xs.length<=1000*1000:=z2z (by lia) hl;exact z3d this (by decide)
 refine⟨hsz,(List.replicate n.toNat its).flatten,0,qjb r1 n.toNat,?_⟩;rw[z11 _ rfl,ie]
 congr 3
 apply Array.toList_inj.mp
 rw[if_neg z19,qha,z15];rfl
end
section
variable{X:Cx}
end
section
variable{X:Cx}
end
section
variable{κ:Type}[DecidableEq κ]
end
section
variable{prog:Program}{w:World}{K:Type}[DecidableEq K]{knd:HeapKind prog w K}{A:Around}{E:xB}{s:Shared}{d a:Addr}{k:K}{xs:List (K×Addr×Value)}{p:Addr×Value}
end
section
variable{X:Cx}{xC:xG}{σ:St}{H:Hp}{s:Shared}{a b:Addr}{v:V}{A:Around}{E:xB}{kvs:List (NK×V)}{k:NK}
end
section
variable{X:Cx}{P:Program}{w:World}{o e:Expr}{apos cpos:Pos}{td ty:TE}
end
section
variable{P:Program}{w:World}{K:xA}{mg:xE}{base:Heap}{C:Addr}{m qual:Str}{st:Stmt}{N ps:xD}{k:Nat}{sp:Sp}
end
section
variable{X:Cx}{k k':Nat}{C:Addr}{ps:xD}{sp:Sp}{m:Str}{pos apos:Pos}{e o:Expr}{es:List Expr}{ta:TE}{t:TA}{E:XK}
end
mutual
theorem IsN.more{P:Program}{w:World}{h h':Heap}(k:∀b o,h.get? b=some o->h'.get? b=some o):∀{x:NK} {v:Value},IsN P w h x v->IsN P w h' x v
 | .leaf _,_,J=>by
  rw[IsN]at J ⊢;exact J
 | .tup _,_,J=>by
  rw[IsN]at J ⊢;obtain⟨a,o,its,n,e,h1,h2,h3,h4⟩:=J;exact⟨a,o,its,n,e,k _ _ h1,h2,h3,IsNs.more k h4⟩
theorem IsNs.more{P:Program}{w:World}{h h':Heap}(k:∀b o,h.get? b=some o->h'.get? b=some o):∀{x:List NK} {v:xH},IsNs P w h x v->IsNs P w h' x v
 | [],_,J=>by
  rw[IsNs]at J ⊢;exact J
 | _::_,_,J=>by
  rw[IsNs]at J ⊢;obtain⟨v,vr,e,h1,h2⟩:=J;exact⟨v,vr,e,IsN.more k h1,IsNs.more k h2⟩
end
abbrev NE:=NK×Addr×Value
noncomputable def putAllN (f : Nat -> NE) : Nat -> Nat -> List NE -> List NE
 | 0,_,xs=>xs
 | k+1,i,xs=>putAllN f k (i+1) (storedH xs (f i).1 (f i).2.1 (f i).2.2)
def ql2{xs:List NE}{k:NK}{a:Addr}{v:Value}:(storedH xs k a v).length<=xs.length+1:=by
 unfold storedH;split
 ·rw[z2h]
  lia
 ·rw[z1b];exact z3j _
def RwN(P:Program)(w:World)(h:Heap)(d:Addr)(xs:List NE):Prop:=∃o es ep,h.get? d=some o/\o.ExactDict/\o.data= .dict es ep/\es.toList=xs.map (entryOfKey (nestKind P w))/\(xs.map (·.1)).Nodup
section
variable{prog:Program}{w:World}{A:Around}{R:Result->Shared->Prop}{I:Addr}{fp wr:List Addr}{n:Nat}{P:Nat->Value->Prop}{St:Nat->Heap->Prop}
def qpr{h:Heap}{xs:List NE}{k:NK}{a:Addr}{v:Value}(J:∀x∈xs,(nestKind prog w).is h x.1 x.2.1)(hk:(nestKind prog w).is h k a):∀x∈storedH xs k a v,(nestKind prog w).is h x.1 x.2.1:=λx hm=>by
 unfold storedH at hm;split at hm
 ·obtain⟨y,hy,rfl⟩:=z3h.mp hm;unfold putAt;split
  ·exact J y hy
  ·exact J y hy
 ·rcases z2c.mp hm with hm | hm
  ·exact J x hm
  ·rw[z1a.mp hm];exact hk
theorem qhf{h0:Heap}(W:Walks prog w A.in1 I fp wr n P St)(d:Addr)(O:d∉fp)(a9:h0.get? d=none)(a8:∀b∈wr,h0.get? b=none)(hn:n<=sizeLine)(hu:(nestKind prog w).room A.in1)(f:Nat->NE)(hf:∀i v,P i v->∃q,v= .ref q/\IsTup h0 q #[.ref (f i).2.1,(f i).2.2])(hk:∀i,i < n->(nestKind prog w).is h0 (f i).1 (f i).2.1):
  ∀(k i:Nat) (s:Shared) (xs:List NE) (j:Int) (ti:Tok),i+k=n->St i s.heap->RwN prog w s.heap d xs->(∀x∈xs,(nestKind prog w).is h0 x.1 x.2.1)->xs.length<=i->(∀b o,h0.get? b=some o->s.heap.get? b=some o)->
  (∀h' tk,RwN prog w h' d (putAllN f k i xs)->(∀b o,h0.get? b=some o->h'.get? b=some o)->R (.ok (.ret .none)) {s with heap:=h',toks:=tk})->
  codeAny (model prog w) A (.builtin "dict.update.loop" ⟨[.ref d,.ref I,.int j ti,.none],[]⟩) R s
 | 0,i,s,xs,j,ti,J,a7,hm,hx,hl,kp,hR=>by
  have hi:i=n:=by lia
  subst hi;have Z:d∉wr:=λh=>O (W.sub _ h);refine z2q q95 ?_;rw[Around.under_plainId q3x _];refine z3p (m:=pyNext (.ref I)) (W.done s _ _ a7 λh' tk J=>?_);show wpAny _ _ (Builtin.Dict.addKeywords d [] >>=λ_=>ret .none) _ _ _;obtain⟨o,es,ep,ho,r⟩:=hm;exact z3p (z3o (z3o (hR h' tk ⟨o,es,ep,J d o Z ho,r⟩ λb o e=>J b o (λhb=>by rw[a8 b hb]at e;cases e) (kp b o e))))
 | k+1,i,s,xs,j,ti,J,a7,hm,hx,hl,kp,hR=>by
  have b0:i < n:=by lia
  have Z:d∉wr:=λh=>O (W.sub _ h);refine z2q q95 ?_;rw[Around.under_plainId q3x _];refine z3p (m:=pyNext (.ref I)) (W.item i s _ _ b0 a7 λv h' tk hP b4 J=>?_);obtain⟨q,rfl,oq,hq,hc,nq,b7⟩:=hf i v hP;have Y:∀b o,h0.get? b=some o->h'.get? b=some o:=λb o e=>J b o (λhb=>by rw[a8 b hb]at e;cases e) (kp b o e);have b8:h'.DictOfH (nestKind prog w) d xs:=by
   obtain⟨o,es,ep,ho,r1,r2,r3,r4⟩:=hm;exact⟨o,es,ep,J d o Z ho,r1,r2,r3,λx z=>⟨IsN.more Y (hx x z).1,(hx x z).2⟩,r4⟩
  have b1:=Y q _ hq;refine z3p (z33 (z3p (wpAny_tryCatch ?_)));unfold Builtin.Dict.pairItems;refine z3p (wpAny_typeOf (T:="tuple") ⟨oq,b1,hc⟩ ?_);rw[if_pos (by decide)];refine z3p (wpAny_seqItems b1 b7 (z3o ?_));show wpAny _ _ (holding [.ref (f i).2.1,(f i).2.2] (dictSet d (.ref (f i).2.1) (f i).2.2)) _ _ _;have a6:=hk i b0;refine z33 (wpAny_dictSet_heap (hsz:=by lia) hu (k:=(f i).1) ⟨IsN.more Y a6.1,a6.2⟩ b8 λh2 b9 b3=>?_);have c1:∀b o,h0.get? b=some o->h2.get? b=some o:=λb o e=>(b3.2 b (λz=>by rw[z,a9]at e;cases e)).trans (Y b o e);obtain⟨o2,b6,b5,a1,a2,a3,a4,_,a5⟩:=b9;refine z3o ⟨plainId_quiet q3x _,qhf W d O a9 a8 hn hu f hf hk k (i+1) _ _ (j+1) _ (by lia) (W.frame _ _ _ b4 λb hb o e=>(b3.2 b (λz=>O (z ▸ hb))).trans e) ⟨o2,b6,b5,a1,a2,a3,a4,a5⟩ (qpr hx a6) (z3d ql2 (z28 hl)) c1 λh3 c5 c0 c4=>?_⟩;exact hR h3 c5 c0 c4
end
noncomputable def putNs (ps : List (NK × V)) (m : List (NK × V)) : List (NK × V) := ps.foldl (fun m kv => putK m kv.1 kv.2) m
theorem qhg:∀(ps:List (NK×V)) (m:List (NK×V)),(putNs ps m).length<=m.length+ps.length
 | [],m=>z3j _
 | p::ps,m=>by
  have h:=q2j m p.1 p.2;have:=qhg ps (putK m p.1 p.2);show (putNs ps (putK m p.1 p.2)).length<=m.length+(ps.length+1)
  lia
def q4l:NE:=(.leaf (.inl 0),0,.none)
theorem qnm{H:Hp}:∀{ps:List (NK×V)} {us:List NE} (_:KN H ps us) (i:Nat) (hi:i < ps.length),ps[i].1=(us.getD i q4l).1/\(NAt H ps[i].1 (.ref (us.getD i q4l).2.1)/\NOk ps[i].1)/\RelV ps[i].2 (us.getD i q4l).2.2
 | _,_,.nil,i,hi=>absurd hi (Nat.not_lt_zero _)
 | _,_,.cons a b,0,hi=>a
 | _,_,.cons a b,i+1,hi=>qnm b i (Nat.lt_of_succ_lt_succ hi)
theorem qdg{H:Hp}{ps:List (NK×V)}{us:List NE}(r:KN H ps us):∀(k i:Nat) (m:List (NK×V)) (xs:List NE),i+k=us.length->KN H m xs->KN H (putNs (ps.drop i) m) (putAllN (λi=>us.getD i q4l) k i xs)
 | 0,i,m,vs,h,O=>by
  have hl:=Paired.length r;rw[List.drop_eq_nil_of_le (by lia)];exact O
 | k+1,i,m,vs,h,O=>by
  have hl:=Paired.length r;have hi:i < ps.length:=by lia
  rw[z08 hi];show KN H (putNs (ps.drop (i+1)) (putK m ps[i].1 ps[i].2)) (putAllN _ k (i+1) (storedH vs (us.getD i q4l).1 (us.getD i q4l).2.1 (us.getD i q4l).2.2));have J:=qnm r i hi;rw[<- J.1];exact qdg r k (i+1) _ _ (by lia) (O.put _ J.2.1 J.2.2)
section
variable{X:Cx}
def qje(K:xA)(H:Hp)(y:V)(kv:NK×V):Prop:=∃q b,y=V.ref q/\SqT K H q [.ref b,kv.2]/\NAt H kv.1 (.ref b)/\NOk kv.1
def qnn{xC:xG}{σ:St}{H:Hp}{s:Shared}(I:Inv X xC σ H s){ys:List V}{ps:List (NK×V)}(h:Paired (qje X.K H) ys ps):∀{its:xH},Vals ys its->∃us:List NE,KN H ps us/\∀i v,its[i]? =some v->∃q,v= .ref q/\IsTup s.heap q #[.ref (us.getD i q4l).2.1,(us.getD i q4l).2.2]:=by
 induction h with
 | nil=>
  intro its r;cases r
  exact⟨[],.nil,λi v e=>by simp at e⟩
 | cons a b ih=>
  intro its r;cases r with
  | cons r1 rr=>
   obtain⟨us,h1,h2⟩:=ih rr;obtain⟨q,b',rfl,hq,hb,ok⟩:=a;cases r1
   obtain⟨it2,rv,tp,_⟩:=I.tuple hq;cases rv with
   | cons c1 c2=>
    cases c2 with
    | cons c3 c4=>
     cases c4
     cases c1
     refine⟨(_,b',_)::us,.cons ⟨zr,⟨hb,ok⟩,c3⟩ h1,λi v e=>?_⟩;cases i with
     | zero=>
      have:v=Value.ref q:=by simpa using e.symm
      subst this;exact⟨q,zr,tp⟩
     | succ i=>exact h2 i v (by simpa using e)
def qno(P:Program)(w:World)(hu:X.A.units+64 < cLine)(hc:X.calm=true)(K:xA)(hK:X.K=K:=by rfl)(hP:X.prog=P:=by rfl)(hw:X.w=w:=by rfl):q2t X (.type "dict") (λxs H Q=>∃(p:Addr) (ys:List V) (ps:List (NK×V)),xs=[.ref p]/\SqL K H p ys/\Paired (qje K H) ys ps/\∀d o,H d=none->DN P w (upd H d o) d (putNs ps [])->Q (.ref d) (upd H d o)):=by
 subst hK hP hw;intro xC s σ H xs vs Q I r h;obtain⟨p,ys,ps,rfl,hp,hy,q⟩:=h;obtain⟨u,rfl,ru⟩:=q3h r;cases ru
 obtain⟨its,rv,⟨ol,nl,b3,Z,b0,Y⟩,hz⟩:=I.list hp;obtain⟨us,O,b9⟩:=qnn I hy rv;have b4:us.length=its.length:=by rw[<- Paired.length O,<- Paired.length hy,rv.length]
 have b1:p < s.heap.objs.size:=z3b b3;have hh:X.A.in1.in1.handled=none:=I.ok.hd hc;refine callType_codes (Q₁:=λob s1=>ob= .ref s.heap.objs.size/\s1={s with heap:=s.heap.push {cls:= .type "dict",data:= .dict #[]}}) PySem.F.kt_called_dict (PySem.F.kt_typeCall_dict_1 _) PySem.F.entry_dict_init (kt_code_dict_new _ ⟨rfl,rfl⟩) ?_;rintro ob s1 ⟨rfl,rfl⟩;have d0:(s.heap.push {cls:= .type "dict",data:= .dict #[]}).DictOf (q16 X.prog X.w) s.heap.objs.size []:=Heap.DictOf.new s.heap;have n0:RwN X.prog X.w (s.heap.push {cls:= .type "dict",data:= .dict #[]}) s.heap.objs.size []:=⟨_,#[],0,z11 _ rfl,⟨rfl,rfl,rfl⟩,rfl,rfl,z2w⟩;have l0:(s.heap.push {cls:= .type "dict",data:= .dict #[]}).get? p=some ol:=z0l _ b3;refine⟨d0.typeIs,PySem.F.args_dict_init_2 _ _,?_⟩;unfold Builtin.«dict.__init__»;refine z3p ?_;unfold Builtin.Dict.selfAndRest;refine z3p (wpAny_notOrdered_dict d0.typeIs (z3o ?_));show wpAny _ _ (Builtin.Dict.updateFrom "dict.__init__" s.heap.objs.size (.ref p) [] .none) _ _ _;unfold Builtin.Dict.updateFrom;refine z3p (wpAny_typeOf (T:="list") ⟨ol,l0,Z⟩ ?_);rw[if_pos (by decide)];refine z3p (qm8 l0 Z Y b0 hh λh1 tk1 a6=>?_);rw[if_pos (by rfl)];refine z3p (z3n ?_);have b5:PlainL h1 p its.toArray:=⟨ol,nl,a6 _ _ l0,Z,b0,Y⟩;obtain⟨od,b6,b7,b8,rd⟩:=n0;have a9:=a6 _ _ b8;have a8:s.heap.objs.size < h1.objs.size:=z3b a9;refine z3p (z1p b5.isList ?_);have J:∀b,s.heap.objs.size<=b->s.heap.get? b=none:=λb hb=>by
  cases e:s.heap.get? b with
  | none=>rfl
  | some o=>exact absurd (z3b e) (Nat.not_lt_of_le hb)
 have hsz:us.length=its.toArray.size:=by rw[z1n];exact b4
 have W0:Walks X.prog X.w X.A.in1.in1 h1.objs.size [h1.objs.size,p] [h1.objs.size] us.length (λi v=>its.toArray[i]? =some v) (λi h=>h.IsListIter h1.objs.size p i/\h.IsList p its.toArray):=by
  rw[hsz];exact Walks.list hh h1.objs.size p (z3c (Nat.lt_trans b1 a8)) its.toArray
 have room:(nestKind X.prog X.w).room X.A.in1.in1:=by
  show X.A.in1.in1.units+40 < cLine;rw[Around.in1_units,Around.in1_units]
  lia
 refine z3o ⟨plainId_quiet q3x _,qhf (h0:=s.heap) (n:=us.length) (A:=X.A.in1) W0 s.heap.objs.size ?_ (J _ (z3j _)) ?_ (by rw[b4,<- rv.length];exact hz) room (λi=>us.getD i q4l) ?_ ?_ us.length 0 _ [] 0 _ (z39 _) ⟨⟨_,z11 _ rfl,rfl,rfl⟩,b5.isList.at λo e=>z0l _ e⟩ ⟨od,b6,b7,z0l _ a9,rd⟩ (λ_ z=>nomatch z) (z3j _) (λb o e=>z0l _ (a6 _ _ (z0l _ e))) λh' tk hm keep=>?_⟩
 ·intro hb;simp only[z32,z29,or_false]at hb;rcases hb with e | e
  ·exact absurd e (z3c a8)
  ·exact absurd e.symm (z3c b1)
 ·intro b hb;rw[z1a.mp hb];exact J _ (z3a a8)
 ·intro i v hv;exact b9 i v (by simpa using hv)
 ·intro i hi;have hl:=Paired.length O;have z:=qnm O i (by lia);show (nestKind X.prog X.w).is s.heap (us.getD i q4l).1 (us.getD i q4l).2.1;rw[<- z.1];exact qa5 I.hok z.2.1.1 z.2.1.2
 ·have a7:=qdg O us.length 0 [] [] (z39 _) .nil;rw[List.drop_zero]at a7;obtain⟨o,es,ep,a1,a2,a3,a4,a5⟩:=hm;have hl:(putAllN (λi=>us.getD i q4l) us.length 0 []).length<=sizeLine:=by
   rw[<- Paired.length a7];have h1:=qhg ps [];rw[z2l,z39,<- Paired.length hy]at h1;exact z3d h1 hz
  have fr:=I.hok.fresh (z3j s.heap.objs.size);refine⟨zr,.ref s.heap.objs.size,_,I.laid (a:=s.heap.objs.size) (o:= .ext (dNφ X.prog X.w s.heap.objs.size (putAllN (λi=>us.getD i q4l) us.length 0 []))) (t':=tk) keep (z3j _) (qih ⟨beq_eq_false_iff_ne.mpr (Ne.symm (z3c I.big)),hl,o,es,ep,a1,a2,a3,a4,a5⟩),zr,q _ _ fr ⟨_,qb,a7.keeps λb ys e=>qc fr _ _ e⟩⟩
def qnp(P:Program)(w:World)(hc:X.calm=true)(hP:X.prog=P:=by rfl)(hw:X.w=w:=by rfl):q2t X (.type "list") (λxs H Q=>∃(a:Addr) (kvs:List (NK×V)),xs=[.ref a]/\DN P w H a kvs/\∀l zs,H l=none->Paired (λx k=>∃b,x=V.ref b/\NAt H k (.ref b)) zs (kvs.map (·.1))->Q (.ref l) (upd H l (.lst zs))):=by
 subst hP hw;intro xC s σ H xs us Q I r h;obtain⟨a,kvs,rfl,ha,q⟩:=h;obtain⟨u,rfl,ru⟩:=q3h r;cases ru
 obtain⟨hz,a4,O,hxt,Z,o,es,ep,ho,hx,a2,Y,a5,hnd⟩:=q67 I.hok ha;have hsz:es.size<=sizeLine:=by
  rw[<- z0y,Y,z2h,<- Paired.length Z];exact hz
 refine PySem.W.kdl_call (qm5 (es:=es) (ep:=ep) a4) (I.ok.hd hc) ⟨o,ho,hx,a2⟩ hsz λh' tk J c hk hS a3=>?_;have a1:J.toList=O.map λx=>Value.ref x.2.1:=by
  apply z1l
  intro j;rw[z0q,z1m];cases e:J[j]? with
  | some v=>
   obtain⟨e',he,rfl⟩:=a3.2 j v e;rw[entry_at Y j]at he;obtain⟨x,hx,rfl⟩:=z0n.mp he;rw[hx];rfl
  | none=>
   have h1:J.size<=j:=by simpa using e
   have h2:O.length<=j:=by
    rw[a3.1,<- z0y,Y,z2h]at h1;exact h1
   rw[List.getElem?_eq_none h2];rfl
 have zs:∀{l:List (NK×V)} {m:List NE},KN H l m->Vals (m.map λx=>V.ref x.2.1) (m.map λx=>Value.ref x.2.1)/\Paired (λx k=>∃b,x=V.ref b/\NAt H k (.ref b)) (m.map λx=>V.ref x.2.1) (l.map (·.1)):=by
  intro l m q
  induction q with
  | nil=>exact⟨.nil,.nil⟩
  | @cons p q ps qs hq t ih=>exact⟨.cons rfl ih.1,.cons ⟨_,rfl,hq.2.1.1⟩ ih.2⟩
 obtain⟨z1,z2⟩:=zs Z;have new:ObjOk X.prog X.w (upd H s.heap.objs.size (.lst (O.map λx=>V.ref x.2.1))) h' s.heap.objs.size (.lst (O.map λx=>V.ref x.2.1)):=by
  refine⟨by rw[z2h,<- Paired.length Z];exact hz,J.toList,c,by rw[a1];exact z1,?_⟩;rw[Array.toArray_toList];exact hS
 exact⟨.ref s.heap.objs.size,_,I.laid (a:=s.heap.objs.size) (t':=tk) hk (z3j _) new,zr,q _ _ (I.hok.fresh (z3j _)) z2⟩
end
section
variable{X:Cx}{k k':Nat}{ι:Type}{cls:ι->Addr}{ps:xD}{sp:ι->Sp}{m:Str}{pos apos:Pos}{e o:Expr}{es:List Expr}{ta:TE}{t:TA}{E:XK}
def qme{f:Str}(K:xA)(he:PE X e ta)(hb:attributeBase e f X.env (eval e X.env)=eval e X.env)(hK:X.K=K:=by rfl):PE X (.Attribute e f pos) (tFld K ta f):=by
 subst hK;exact qo he hb
end
end L2
namespace L2
open PySem PySem.Spec PyProof.Rows PySem.W
section
variable{P:Program}{w:World}{K:xA}{mg:xE}{base:Heap}
end
section
variable{X:Cx}
end
section
variable{X:Cx}{k k':Nat}{sp:Sp}{e:Expr}{t:TA}{p pos kpos lp:Pos}{ps:Arguments}{body:Expr}{sc:Scope}{tP:Addr}
end
section
variable{X:Cx}
section
variable{xC:xG}{σ:St}{H:Hp}{s:Shared}{a kS:Addr}{v:Value}{ks:xH}{e e1:Nat}{P:PySem.Fin->Shared->Prop}{E:xB}{A:Around}
def qps{st:SortSt}(I:Inv X (xC++ [(a,seqObj "list" #[] e1),(kS,seqObj "list" ks.toArray e)]) σ H s)(fa:FpOk X xC H a)(fk:FpOk X xC H kS)(Z:kS≠a)(hl:ks.length=1)
  (so:(arrOf st).map (·.2)=#[v]) (Y:failedOf st=none)
  (h:∀s' c,Inv X xC σ H s'->s'.heap.get? a=some (seqObj "list" #[v] c)->P (.done (.ret .none)) s'):wpAny (model X.prog X.w) A (ksk_tail a false e1 (.ref kS) st) P E s:=by
 have na:=(I.pin (a,seqObj "list" #[] e1) (z0p _ (z0p _ (.head _)))).1;have nk:=(I.pin (kS,seqObj "list" ks.toArray e) (z0p _ (z0p _ (.tail _ (.head _))))).1;have s1:=z10 s.heap kS (Obj.mapSeq λ_=>(#[]:Array Value));have J:(s.heap.update kS (Obj.mapSeq λ_=>(#[]:Array Value))).get? a=some (seqObj "list" #[] e1):=(s1.2 a Z.symm).trans na;have s2:=z10 (s.heap.update kS (Obj.mapSeq λ_=>(#[]:Array Value))) a (Obj.mapSeq λ_=>(#[v]:Array Value));obtain⟨c2,O⟩:∃c2,((s.heap.update kS (Obj.mapSeq λ_=>(#[]:Array Value))).update a (Obj.mapSeq λ_=>(#[v]:Array Value))).get? a=some (seqObj "list" #[v] c2):=⟨_,get?_update_seq J λ_=>#[v]⟩;unfold ksk_tail
 try dsimp only
 refine z3p (listUpdate_at nk rfl ?_ (by rw[z1n,hl];decide) (z3m _));refine z3p (wpAny_letGo ?_);refine z3p (seqEpoch_at J rfl ?_);rw[so];refine z3p (listUpdate_at J rfl ?_ (z3m _) (by simp only[z18,if_false];show 1<=_;decide));rw[Y];simp only[bne_self_eq_false,z18,if_false];refine z3o (h _ c2 (q4b (fp:=[a,kS]) I.unpinned (λb hb=>?_) λb o hb g=>?_) O)
 ·simp only[z32,z29,or_false]at hb;rcases hb with rfl | rfl
  ·exact fa
  ·exact fk
 ·simp only[z32,z29,or_false,not_or]at hb;exact(s2.2 b hb.1).trans ((s1.2 b hb.2).trans g)
def qpt{f:Addr}{n:Nat}(I:Inv X xC σ H s)(ha:s.heap.get? a=some (seqObj "list" #[v] n))(fa:FpOk X xC H a)(J:Hp->Prop)
    (turn:∀pins' s',Inv X pins' σ H s'->wpAny (model X.prog X.w) A (call (.ref f) [v]) (λu O=>∃a1,Inv X pins' σ a1 O/\J a1) (λ_ _=>False) s')
    (h:∀H' s' c,J H'->Inv X xC σ H' s'->FpOk X xC H' a->s'.heap.get? a=some (seqObj "list" #[v] c)->P (.done (.ret .none)) s'):
    wpAny (model X.prog X.w) A (ksk_tree a (.ref f) false) P E s:=by
  have a7:a < s.heap.objs.size:=z3b ha;have s1:=z10 s.heap a (Obj.mapSeq λ_=>(#[]:Array Value));obtain⟨e1,a4⟩:∃e1,(s.heap.update a (Obj.mapSeq λ_=>(#[]:Array Value))).get? a=some (seqObj "list" #[] e1):=⟨_,get?_update_seq ha λ_=>#[]⟩;have a2:((s.heap.update a (Obj.mapSeq λ_=>(#[]:Array Value))).push (seqObj "tuple" #[v] 0)).objs.size=s.heap.objs.size+1:=by rw[size_push',Heap.size_update]
  unfold ksk_tree;refine z3p (listItems_at ha rfl ?_);refine z3p (listUpdate_at ha rfl ?_ (by show 1<=_;decide) (z3m _));refine z3p (seqEpoch_at a4 rfl ?_);refine z3p (wpAny_newTuple ?_ (by show 1<=_;decide));refine z3p (wpAny_newList ?_ (z3m _));refine z33 ?_;have keep:∀b o,(s.heap.update a (Obj.mapSeq λ_=>(#[]:Array Value))).get? b=some o->(((s.heap.update a (Obj.mapSeq λ_=>(#[]:Array Value))).push (seqObj "tuple" #[v] 0)).push (seqObj "list" #[] 0)).get? b=some o:=λb o z=>z0l _ (z0l _ z);have I6:Inv X xC σ H {s with heap:=((s.heap.update a (Obj.mapSeq λ_=>(#[]:Array Value))).push (seqObj "tuple" #[v] 0)).push (seqObj "list" #[] 0)}:=
    q4b (t':=s.toks) (fp:=[a]) I (λb hb=>by rw[z1a.mp hb];exact fa) λb o hb z=>keep b o ((s1.2 b λw=>hb (by rw[w];exact z1a.mpr rfl)).trans z)
  have a5:(((s.heap.update a (Obj.mapSeq λ_=>(#[]:Array Value))).push (seqObj "tuple" #[v] 0)).push (seqObj "list" #[] 0)).get? ((s.heap.update a (Obj.mapSeq λ_=>(#[]:Array Value))).push (seqObj "tuple" #[v] 0)).objs.size=some (seqObj "list" #[] 0):=z11 _ rfl;have a8:=keep a _ a4;generalize hk0:((s.heap.update a (Obj.mapSeq λ_=>(#[]:Array Value))).push (seqObj "tuple" #[v] 0)).objs.size=kS at a5 a2;have fk:FpOk X xC H kS:=I.fpOk (by lia) (I.hok.fresh (by lia));have a3:kS≠a:=by rw[a2];exact z3e (z1x a7)
  have nc:∀(xs:Array Value) (m:Nat) (v:Option Value),(seqObj "list" xs m).data≠ .cell v:=λ_ _ _ z=>nomatch z;have Y:∀{s2:Shared} {H2:Hp} {l:Array Value} {m:Nat},Inv X xC σ H2 s2->s2.heap.get? a=some (seqObj "list" #[] e1)->s2.heap.get? kS=some (seqObj "list" l m)->H2 a=none->H2 kS=none->Inv X (xC++ [(a,seqObj "list" #[] e1),(kS,seqObj "list" l m)]) σ H2 s2:=λ{s2 H2 l m} I2 g1 g2 n1 n2=>I2.qfq λp hp=>by
    rcases z2c.mp hp with hp | hp
    · exact I2.pin p (z0p _ hp)
    · simp only[z32,z29,or_false]at hp
      rcases hp with rfl | rfl
      · exact⟨g1,n1,fa.2.1,fa.2.2.1,nc _ _⟩
      · exact⟨g2,n2,fk.2.1,fk.2.2.1,nc _ _⟩
  have I7:=Y I6 a8 a5 fa.1 fk.1;unfold ksk_rest;refine z3p (z3n ?_)
  first
    | rw[List.forIn_toArray]
    | (rw[<- Array.forIn_toList];simp only[z15])
    | rw[<- Array.forIn_toList]
  refine z3p (ksk_fold (λi s'=>(i=0/\s'={s with heap:=((s.heap.update a (Obj.mapSeq λ_=>(#[]:Array Value))).push (seqObj "tuple" #[v] 0)).push (seqObj "list" #[] 0)})\/ (i=1/\∃H' u e,Inv X (xC++ [(a,seqObj "list" #[] e1),(kS,seqObj "list" [u].toArray e)]) σ H' s'/\J H')) [v] 0 _ (.inl ⟨rfl,rfl⟩) ?step ?done)
  case step=>
    rintro j x s' hx (⟨ej,rfl⟩ | ⟨ej,_⟩)
    · simp only[z39]at ej ⊢
      subst ej;cases hx
      refine z3p (z31 (z3q (turn _ _ I7) (λu O he=>?_) λ_ _ hF=>hF.elim));obtain⟨H2,I2,j2⟩:=he
      try dsimp only
      have pa:=I2.pin (a,seqObj "list" #[] e1) (z0p _ (z0p _ (.head _)));have Z:=I2.pin (kS,seqObj "list" #[] 0) (z0p _ (z0p _ (.tail _ (.head _))));have u1:=z10 O.heap kS (Obj.mapSeq (·.push u));obtain⟨c2,a6⟩:∃c2,(O.heap.update kS (Obj.mapSeq (·.push u))).get? kS=some (seqObj "list" #[u] c2):=⟨_,get?_update_seq Z.1 (·.push u)⟩;refine z3p (listUpdate_at Z.1 rfl ?_ (z3m _) (by show 1<=_;decide));have I4:Inv X xC σ H2 {O with heap:=O.heap.update kS (Obj.mapSeq (·.push u))}:=q4b (t':=O.toks) (fp:=[kS]) I2.unpinned (λb hb=>by rw[z1a.mp hb];exact⟨Z.2.1,fk.2⟩) λb o hb z=>(u1.2 b λw=>hb (by rw[w];exact z1a.mpr rfl)).trans z;exact z3o ⟨zr,.inr ⟨zr,H2,u,c2,Y I4 ((u1.2 a a3.symm).trans pa.1) a6 pa.2.1 Z.2.1,j2⟩⟩
    · have:=(z06.mp hx).1
      have:j < 1:=this
      lia
  case done=>
    rintro s' (⟨z,_⟩ | ⟨_,H',u,e,I',hj⟩)
    · cases z
    have pa:=I'.pin (a,seqObj "list" #[] e1) (z0p _ (z0p _ (.head _)));have Z:=I'.pin (kS,seqObj "list" [u].toArray e) (z0p _ (z0p _ (.tail _ (.head _))))
    try dsimp only
    refine z3p (listItems_at Z.1 rfl ?_);unfold ksk_end
    try dsimp only
    simp only[z18,if_false];have h2:(#[v]:Array Value).size < 2:=by show 1 < 2;decide
    rw[if_pos h2,if_pos h2];refine z3p (z3o ?_);rw[StateT.run_pure];refine z3p (z3o ?_)
    try dsimp only
    exact qps (st:=SortSt.mk' general' ([u].toArray.zip #[v]) #[] 7 none) I' ⟨pa.2.1,fa.2⟩ ⟨Z.2.1,fk.2⟩ a3 rfl (show ([u].toArray.zip #[v]).map (·.2)=#[v] by simp) rfl λs2 c I2 g2=>h H' s2 c hj I2 ⟨pa.2.1,fa.2⟩ g2
end
end
def qpu(P:Program)(w:World)(sp:Sp)(t:TA):TE:=λσ H Q=>t σ H λvs H1=>∃(d:Addr) (p:PR) (v:V),vs=[.ref d]/\DP P w H1 d [(p,v)]/\(∀b (R:VK),NAt H1 (pN p) (.ref b)->(∀v H3,Same H1 H3->R v H3)->sp [.ref b] H1 R E0)/\
 ∀l b H2,Same H1 H2->H1 l=none->H2 l=none->NAt H1 (pN p) (.ref b)->Q (.ref l) (upd H2 l (.lst [.ref b]))
section
variable{X:Cx}{P:Program}{w:World}{k k':Nat}{x p1:Str}{sp:Sp}{e:Expr}{t:TA}{p pos kpos xp:Pos}
def qi1(P:Program)(w:World)(D:Def X.prog X.w X.K X.mg X.base k x [p1] sp)(hr:Room k' X.A)(hc:X.calm=true)(hg:Gl X "sorted")(a7:X.mg "sorted"=none)(hv:bootBuiltins "sorted"=some (.builtin "sorted"))(hgx:Gl X x)(ha:PA X [e] t)
  (hkk:k+2<=k':=by decide) (hP:X.prog=P:=by rfl) (hw:X.w=w:=by rfl) (a5:(x==("__debug__":Str))=false:=by decide) (b0:(backTo pos (starEach [e] X.env)).any (·.1)=false:=by rfl) (he:backTo pos (starEach [e] X.env)=(false,eval e X.env)::backTo pos (starEach [] X.env):=by rfl):
  PE X (.Call (.Name "sorted" p) [e] [⟨some "key",.Name x xp,kpos⟩] pos) (qpu P w sp t):=by
 subst hP hw;intro xC s σ H Q I h;obtain⟨f,fd,F,hm,hk,hb⟩:=D.ex;have b1:=hr.mono hkk;have a6:=qly (X:=X) (nm:="key") (kpos:=kpos) (qrr (pos:=xp) hgx hm a5) qoo;refine z1f (q64 I hg a7 hv ?_);refine callWith_kw (thn (ha pos xC s σ H _ I h) λus s1 ⟨vs,H1,I1,r1,q1⟩=>thn (a6 pos xC s1 σ H1 (λws H2=>ws=[.ref f]/\H2=H1) I1 ⟨zr,zr⟩) λws s2 b6=>?_) he b0;obtain⟨zs,H2,I2,rz,q2,q3⟩:=b6;subst q2 q3;obtain⟨d,pr,v0,rfl,hd,b3,q⟩:=q1;obtain⟨u,rfl,ru⟩:=q3h r1;cases ru
 obtain⟨u,rfl,ru⟩:=q3h rz;cases ru
 obtain⟨hz,a9,es0,b4,b5,o,es,ep,ho,hx,J,a1,Z,a8⟩:=q67 I2.hok hd;obtain⟨b,ek,hn⟩:∃b,es.toList.map (·.key)=[Value.ref b]/\NAt H2 (pN pr) (.ref b):=by
  rw[a1,z3i];clear b4 a1 Z a8 J;cases b5 with
  | cons a r=>
   cases r
   exact⟨_,zr,a.2.1.1⟩
 have hl:es.size<=sizeLine:=by
  have:=congrArg List.length ek;rw[z2h,z0y]at this;rw[this];show 1<=_;decide
 show wpAny _ _ (call (.builtin "sorted") [.ref d] [(Str.ofString "key",.ref f)]) _ _ s2;refine call_function_entry_kw kind_sorted plain_sorted entry_sorted (ksk_s1 _ _) ?_;unfold Builtin.«sorted»;refine z3p (m:=checkCount "sorted" 1 1 _) (z3o ?_);refine z3p (qkp (I2.ok.hd hc) a9 ⟨o,ho,hx,J⟩ hl λh1 tk keep hsz=>?_);rw[ek];refine z3p (wpAny_newList ?_ (by show 1<=_;decide));have a3:(h1.push (seqObj "list" #[.ref b] 0)).get? h1.objs.size=some (seqObj "list" #[.ref b] 0):=z11 _ rfl;have O:∀b' o,s2.heap.get? b'=some o->(h1.push (seqObj "list" #[.ref b] 0)).get? b'=some o:=λb o e=>z0l _ (keep b o e);show wpAny _ _ _ _ _ {s2 with heap:=h1.push (seqObj "list" #[.ref b] 0),toks:=tk};have I3:Inv X xC σ H2 {s2 with heap:=h1.push (seqObj "list" #[.ref b] 0),toks:=tk}:=I2.kept O;have a2:H2 h1.objs.size=none:=I2.hok.fresh hsz;have fa:FpOk X xC H2 h1.objs.size:=I2.fpOk hsz a2;refine z3p (z33 (wpAny_call_entry_kw slot_list_sort ⟨_,a3,zr⟩ entry_list_sort ?body (ksk_l1 _ _)))
 case body=>
  show wpAny (model X.prog X.w) X.A.in1.in1 (Builtin.«list.sort» ⟨[.ref h1.objs.size],[(Str.ofString "key",.ref f)]⟩) _ _ _;rw[ksk_t1];refine qpt I3 a3 fa (λH'=>Same H2 H') (λpins' s' I'=>?_) λH' s' c hj I' Y g=>⟨_,zr,?_⟩
  ·refine z3q (quc (Q:=λv H3=>Same H2 H3) (vs:=[V.ref b]) F b1 hb I' (.cons (show RelV (V.ref b) (Value.ref b) from rfl) .nil) (b3 b _ hn λv H3 s3=>s3)) (λu s'' z=>?_) λ_ _ z=>z;obtain⟨y,H3,a4,ry,s3⟩:=z;exact⟨H3,a4,s3⟩
  ·exact z3o ⟨_,rfl,.ref h1.objs.size,upd H' h1.objs.size (.lst [.ref b]),I'.track Y ⟨by show 1<=_;decide,[.ref b],c,.cons rfl .nil,g⟩,rfl,q _ b H' hj a2 Y.1 hn⟩
end
end L2
set_option maxHeartbeats 4000000
namespace Wy
open PySem L2
def top(i:Nat):Stmt:=PySem.Challenge.pw_whyrows_k68_trees_round_and_round.main.body.getD i (.Pass ⟨0,0,0,0⟩)
abbrev qmf:Stmt:=top 0
abbrev qan:Stmt:=top 14
abbrev q4o:Stmt:=top 15
abbrev qbt:Stmt:=top 16
abbrev qdu:Stmt:=top 17
abbrev qao:Stmt:=top 18
abbrev qdv:Stmt:=top 19
abbrev q9g:Stmt:=top 21
abbrev qbu:Stmt:=top 22
abbrev qa6:Stmt:=top 23
abbrev qap:Stmt:=top 24
abbrev q5n:Stmt:=top 25
abbrev qbv:Stmt:=top 27
abbrev qdw:Stmt:=top 28
abbrev qg3:Stmt:=top 29
abbrev q4e:Stmt:=top 35
abbrev q4p:Stmt:=top 36
abbrev qbw:Stmt:=top 37
abbrev qbx:Stmt:=top 38
abbrev q9h:Stmt:=top 39
abbrev qby:Stmt:=top 40
abbrev q9i:Stmt:=top 41
abbrev q9j:Stmt:=top 42
abbrev q7e:Stmt:=top 43
abbrev q6u:Stmt:=top 44
abbrev q4f:Stmt:=top 45
abbrev q9k:Stmt:=top 46
abbrev qbz:Stmt:=top 47
abbrev q9l:Stmt:=top 48
abbrev q9m:Stmt:=top 49
abbrev qnq:Stmt:=top 50
abbrev q5o:Stmt:=top 52
abbrev q68:Stmt:=top 53
abbrev q7f:Stmt:=top 54
abbrev qaq:Stmt:=top 55
abbrev q7g:Stmt:=top 56
abbrev q9n:Stmt:=q1e (top 57) 0
abbrev q5p:Stmt:=q1e (top 57) 1
abbrev qar:Stmt:=top 58
abbrev q8d:Stmt:=q1e (top 60) 0
abbrev q54:Stmt:=q1e (top 60) 1
abbrev q5q:Stmt:=q1e (top 60) 2
abbrev q9o:Stmt:=q1e (top 62) 0
abbrev q4q:Stmt:=q1e (top 62) 1
abbrev q55:Stmt:=q1e (top 62) 2
abbrev q6v:Stmt:=q1e (top 62) 3
abbrev q69:Stmt:=q1e (top 62) 4
abbrev q6a:Stmt:=q1e (top 62) 5
abbrev q56:Stmt:=q1e (top 63) 0
abbrev q41:Stmt:=q1e (top 63) 1
abbrev q3c:Stmt:=q1e (top 63) 2
abbrev q3d:Stmt:=q1e (top 63) 3
abbrev q3l:Stmt:=q1e (top 63) 4
abbrev q6w:Stmt:=top 66
abbrev q9p:Stmt:=top 67
abbrev q6b:Stmt:=top 68
abbrev q57:Stmt:=top 69
abbrev q9q:Stmt:=top 70
abbrev q58:Stmt:=top 71
abbrev q9r:Stmt:=top 72
abbrev q59:Stmt:=top 73
abbrev qas:Stmt:=top 74
abbrev q5a:Stmt:=top 75
abbrev q7h:Stmt:=q1e (top 77) 0
abbrev q5b:Stmt:=q1e (top 77) 1
abbrev q4r:Stmt:=q1e (top 77) 2
abbrev q5c:Stmt:=q1e (top 77) 3
abbrev q6c:Stmt:=q1e (top 80) 1
abbrev q7i:Stmt:=q1e (top 80) 2
abbrev q6d:Stmt:=q1e (top 80) 3
abbrev q7j:Stmt:=q1e (top 80) 4
abbrev q8e:Stmt:=q1e (top 83) 0
abbrev q5r:Stmt:=q1e (top 83) 1
abbrev q4s:Stmt:=q1e (top 83) 2
abbrev q5s:Stmt:=q1e (top 83) 3
abbrev qg4:Stmt:=top 84
abbrev qc0:Stmt:=top 86
abbrev qdx:Stmt:=top 87
abbrev q6x:Stmt:=top 89
abbrev q8f:Stmt:=top 90
abbrev qat:Stmt:=top 91
abbrev q9s:Stmt:=top 92
abbrev q6y:Stmt:=top 93
abbrev qnr:Stmt:=top 94
local macro_rules | `(tactic| k_updF)=>`(tactic| exact⟨rfl,rfl,rfl,by decide+kernel,rfl,by decide+kernel,by decide+kernel⟩)
def ql3:FnScope ["thing"] ["thing"] (qd qan):=by k_updF
def qb6:FnScope ["thing","first_signs"] ["thing","first_signs"] (qd q4o):=by k_updF
def qns:FnScope ["thing"] ["thing"] (qd qbt):=by k_updF
def qpv:FnScope ["thing"] ["thing"] (qd qdu):=by k_updF
def qdh:FnScope ["thing"] ["thing"] (qd qao):=by k_updF
def qpw:FnScope ["thing"] ["thing"] (qd qdv):=by k_updF
def qjf:FnScope ["value"] ["value"] (qd q9g):=by k_updF
def qnt:FnScope ["row"] ["row"] (qd qbu):=by k_updF
def ql4:FnScope ["pair"] ["pair"] (qd qap):=by k_updF
def qcu:FnScope ["pairs"] ["pairs"] (qd q5n):=by k_updF
def q7v:FnScope ["terms","row","binding","bound","term","value"] ["terms","row","binding"] (qd qbv):=by k_updF
def qpx:FnScope ["terms","binding"] ["terms","binding"] (qd qdw):=by k_updF
def qry:FnScope ["choice","binding","sides"] ["choice","binding"] (qd qg3):=by k_updF
def qau:FnScope ["thing","most"] ["thing","most"] (qd q4e):=by k_updF
def qb7:FnScope ["thing","many"] ["thing","many"] (qd q4p):=by k_updF
def qnu:FnScope ["thing"] ["thing"] (qd qbw):=by k_updF
def qnv:FnScope ["thing"] ["thing"] (qd qbx):=by k_updF
def qjg:FnScope ["thing"] ["thing"] (qd q9h):=by k_updF
def qnw:FnScope ["thing"] ["thing"] (qd qby):=by k_updF
def qjh:FnScope ["thing"] ["thing"] (qd q9i):=by k_updF
def qji:FnScope ["thing"] ["thing"] (qd q9j):=by k_updF
def qg5:FnScope ["thing"] ["thing"] (qd q7e):=by k_updF
def qf1:FnScope ["terms"] ["terms"] (qd q6u):=by k_updF
def q2v:FnScope ["body","found","table","terms"] ["body"] (qd q4f):=by k_updF
def qjj:FnScope ["terms","known"] ["terms","known"] (qd q9k):=by k_updF
def qf2:FnScope ["thing","known"] ["thing"] (qd qbz):=by k_updF
def qjk:FnScope ["rules"] ["rules"] (qd q9l):=by k_updF
def q6e:FnScope ["facts","taken","fact","name"] ["facts"] (qd q9m):=by k_updF
def qwv:FnScope ["facts","rules","rounds"] ["facts","rules","rounds"] (qd qnq):=by k_updF
def q3o:FnScope ["terms","rows","shared","by_shared","row","bound"] ["terms","rows","shared"] (qd q5o):=by k_updF
def qdy:FnScope ["choices","known"] ["choices","known"] (qd q68):=by k_updF
def qg6:FnScope ["choices","ahead","known"] ["choices","ahead","known"] (qd q7f):=by k_updF
def ql5:FnScope ["choices","binding"] ["choices","binding"] (qd qaq):=by k_updF
def q50:FnScope ["rule","place","known","wanted","later","choice"] ["rule","place","known","wanted"] (qd q7g):=by k_updF
def q8g:FnScope ["self","rule","place","tables","known","wanted","atom","variables"] ["self","rule","place","tables","known","wanted"] (qd q9n):=by k_updF
def q2r:FnScope ["self","binding","longer","row","bound","together"] ["self","binding"] (qd q5p):=by k_updF
def q4c:FnScope ["rule","tables","known","wanted","steps","ahead","place","atom"] ["rule","tables","known","wanted"] (qd qar):=by k_updF
def qi2:FnScope ["self","rule","tables"] ["self","rule","tables"] (qd q8d):=by k_updF
def q4t:FnScope ["self","standing","top","row"] ["self","standing"] (qd q54):=by k_updF
def q7n:FnScope ["self","place","binding","mark"] ["self","place","binding"] (qd q5q):=by k_updF
def qc1:FnScope ["self","rule","tables","by","ahead","known"] ["self","rule","tables","by","ahead"] (qd q9o):=by k_updF
def q6m:FnScope ["self","row","binding"] ["self","row"] (qd q4q):=by k_updF
def q76:FnScope ["self","place","binding","step"] ["self","place","binding"] (qd q55):=by k_updF
def q98:FnScope ["self","row","binding"] ["self","row"] (qd q6v):=by k_updF
def q42:FnScope ["self","place","binding","mark"] ["self","place","binding"] (qd q69):=by k_updF
def q28:FnScope ["self","place","binding","summed","pair","together","worth"] ["self","place","binding"] (qd q6a):=by k_updF
def qc2:FnScope ["self","tables","by","ahead","earlier"] ["self","tables","by","ahead","earlier"] (qd q56):=by k_updF
def q5z:FnScope ["self","rule"] ["self","rule"] (qd q41):=by k_updF
def q8h:FnScope ["self","rule"] ["self","rule"] (qd q3c):=by k_updF
def q8i:FnScope ["self","table"] ["self","table"] (qd q3d):=by k_updF
def q8s:FnScope ["self","table"] ["self","table"] (qd q3l):=by k_updF
def qf3:FnScope ["standing"] ["standing"] (qd q6w):=by k_updF
def qjl:FnScope ["standing","pair"] ["standing","pair"] (qd q9p):=by k_updF
def q37:FnScope ["facts","standing","name","table","row"] ["facts"] (qd q6b):=by k_updF
def q3i:FnScope ["standing","rule","tables","heads","row"] ["standing","rule","tables"] (qd q57):=by k_updF
def q6f:FnScope ["standing","tables","table","row"] ["standing"] (qd q9q):=by k_updF
def q2b:FnScope ["facts","rules","rounds","standing","told","number","many","rule"] ["facts","rules","rounds"] (qd q58):=by k_updF
def qjm:FnScope ["summed","pair","worth","by"] ["summed","pair","worth","by"] (qd q9r):=by k_updF
def q2n:FnScope ["facts","by","worths","summed","name","table","row"] ["facts","by","worths"] (qd q59):=by k_updF
def qdi:FnScope ["summed","sums","table","rows","row"] ["summed","sums","table","rows"] (qd qas):=by k_updF
def q1p:FnScope ["facts","rules","rounds","by","worths","tables","told","sums","number","summed","rule"] ["facts","rules","rounds","by","worths"] (qd q5a):=by k_updF
def q51:FnScope ["self","facts","rules","by","behind","name","table","row"] ["self","facts","rules","by","behind"] (qd q7h):=by k_updF
def qc3:FnScope ["self","pair"] ["self","pair"] (qd q5b):=by k_updF
def q3b:FnScope ["self","number","ahead","earlier"] ["self","number"] (qd q4r):=by k_updF
def q3j:FnScope ["self","number","table","sums"] ["self","number","table"] (qd q5c):=by k_updF
def qdz:FnScope ["self"] ["self"] (qd q6c):=by k_updF
def qg7:FnScope ["self"] ["self"] (qd q7i):=by k_updF
def qe0:FnScope ["self","one","other"] ["self","one","other"] (qd q6d):=by k_updF
def qg8:FnScope ["self","one","other"] ["self","one","other"] (qd q7j):=by k_updF
def qi3:FnScope ["self","makers"] ["self","makers"] (qd q8e):=by k_updF
def q5d:FnScope ["self","number","pair","mark"] ["self","number","pair"] (qd q5r):=by k_updF
def q2i:FnScope ["self","number","pair","found","place","sums","binding"] ["self","number","pair"] (qd q4s):=by k_updF
def q17:FnScope ["self","number","sums","place","binding","found","pair","together","further","tree"] ["self","number","sums","place","binding"] (qd q5s):=by k_updF
def qe1:FnScope ["facts","rules","rounds","table","row","ones","counts"] ["facts","rules","rounds","table","row"] (qd qg4):=by k_updF
def qnx:FnScope ["tree"] ["tree"] (qd qc0):=by k_updF
def qhh:FnScope ["tree"] ["tree"] (qd qdx):=by k_updF
def qf4:FnScope ["_law_script","_law_k"] ["_law_script","_law_k"] (qd q6x):=by k_updF
def q1v:FnScope ["_law_cell","_law_many","_law_signs","_law_size","_law_at","_law_words_here","_law_k","_law_word","_law_j","_law_place"] ["_law_cell","_law_many"] (qd q8f):=by k_updF
def q5h:FnScope ["_law_script","_law_row_here","_law_k","_law_cell","_law_number"] ["_law_script"] (qd qat):=by k_updF
def q8j:FnScope ["_law_table","_law_row_here","_law_cell","_law_terms"] ["_law_table","_law_row_here","_law_cell"] (qd q9s):=by k_updF
def q99:FnScope ["_law_facts","_law_rules","_law_rounds","_law_table","_law_row_here","e"] ["_law_facts","_law_rules","_law_rounds","_law_table","_law_row_here"] (qd q6y):=by k_updF
def q2d:FnScope ["_law_script","_law_row_here","_law_name","_law_table","_law_rounds","_law_many","_law_rules","_law_layer","_law_due","_law_k","_law_longer","_law_tree","_law_facts","_law_found","_law_high"] ["_law_script"] (qd qnr):=by k_updF
structure Txt (K:xA) (mg:xE):Prop where
 qkh:mg "ValueError"=none
 b_all:mg "all"=none
 qxj:mg "bool"=none
 qfh:mg "dict"=none
 q9v:mg "enumerate"=none
 b_int:mg "int"=none
 q2h:mg "isinstance"=none
 b_len:mg "len"=none
 qka:mg "list"=none
 b_max:mg "max"=none
 q63:mg "range"=none
 b_set:mg "set"=none
 qki:mg "sorted"=none
 b_str:mg "str"=none
 q52:mg "tuple"=none
 b_zip:mg "zip"=none
 qfj:∃t,mg "SMALL_LETTERS"=some (.str "abcdefghijklmnopqrstuvwxyz" t)
 qd8:∃t,mg "CAPITAL_LETTERS"=some (.str "ABCDEFGHIJKLMNOPQRSTUVWXYZ" t)
 qfi:∃t,mg "FURTHER_SIGNS"=some (.str "abcdefghijklmnopqrstuvwxyz0123456789" t)
 qkc:∃t,mg "MOST_SIGNS"=some (.int 12 t)
 qb2:∃t,mg "MOST_VALUES"=some (.int 4 t)
 qkf:∃t,mg "MOST_ATOMS"=some (.int 3 t)
 qgp:∃t,mg "MOST_CHOICES"=some (.int 3 t)
 qia:∃t,mg "MOST_ROUNDS"=some (.int 5 t)
 qlo:∃t,mg "MOST_ROWS"=some (.int 60 t)
 qk9:∃t,mg "MOST_TREES"=some (.int 100 t)
 qyc:mg "SIGNS"=some (.ref (cA mg "SIGNS"))
 qyd:TupC K (cA mg "SIGNS") [.str "=",.str "!=",.str "<"]
 qye:Top K mg "_wall" qmf ["k"]
 qo7:Top K mg "is_whole" qan ["thing"]
 qce:Top K mg "is_text_begun_by" q4o ["thing","first_signs"]
 qqv:Top K mg "is_word" qbt ["thing"]
 qsl:Top K mg "is_var" qdu ["thing"]
 qfl:Top K mg "is_value" qao ["thing"]
 qsm:Top K mg "is_row" qdv ["thing"]
 qlh:Top K mg "value_key" q9g ["value"]
 qqo:Top K mg "row_key" qbu ["row"]
 qvl:Top K mg "value_before" qa6 ["one","other"]
 qoa:Top K mg "pair_key" qap ["pair"]
 qee:Top K mg "pairs_in_order" q5n ["pairs"]
 qqu:Top K mg "matched" qbv ["terms","row","binding"]
 qsh:Top K mg "put_in" qdw ["terms","binding"]
 qvo:Top K mg "holds" qg3 ["choice","binding"]
 qbc:Top K mg "is_tuple_of_up_to" q4e ["thing","most"]
 qcl:Top K mg "is_tuple_of_just" q4p ["thing","many"]
 qqn:Top K mg "is_fact" qbw ["thing"]
 qqt:Top K mg "is_term" qbx ["thing"]
 qlf:Top K mg "are_terms" q9h ["thing"]
 qqq:Top K mg "is_atom" qby ["thing"]
 qle:Top K mg "are_atoms" q9i ["thing"]
 qll:Top K mg "is_choice" q9j ["thing"]
 qic:Top K mg "are_choices" q7e ["thing"]
 qgr:Top K mg "variables_in" q6u ["terms"]
 qbd:Top K mg "variables_of_body" q4f ["body"]
 qlb:Top K mg "are_known" q9k ["terms","known"]
 qqr:Top K mg "is_rule" qbz ["thing"]
 qlk:Top K mg "each_once" q9l ["rules"]
 qld:Top K mg "vet_facts" q9m ["facts"]
 t_vet:Top K mg "vet" qnq ["facts","rules","rounds"]
 qed:Top K mg "rows_by_shared" q5o ["terms","rows","shared"]
 qfg:Top K mg "choices_known" q68 ["choices","known"]
 qi9:Top K mg "choices_due" q7f ["choices","ahead","known"]
 qo9:Top K mg "all_hold" qaq ["choices","binding"]
 qi8:Top K mg "asked_later" q7g ["rule","place","known","wanted"]
 qo6:Top K mg "steps_of" qar ["rule","tables","known","wanted"]
 qgo:Top K mg "ask_few_rows" q6w ["standing"]
 qlc:Top K mg "let_stand" q9p ["standing","pair"]
 qfp:Top K mg "rows_of_facts" q6b ["facts"]
 qd6:Top K mg "let_heads_stand" q57 ["standing","rule","tables"]
 qln:Top K mg "in_tables" q9q ["standing"]
 qd1:Top K mg "tables_by_round" q58 ["facts","rules","rounds"]
 qlg:Top K mg "add_worth" q9r ["summed","pair","worth","by"]
 qd5:Top K mg "worths_of_facts" q59 ["facts","by","worths"]
 qo8:Top K mg "add_sums" qas ["summed","sums","table","rows"]
 qd7:Top K mg "worths_by_round" q5a ["facts","rules","rounds","by","worths"]
 qvh:Top K mg "trees" qg4 ["facts","rules","rounds","table","row"]
 qqm:Top K mg "is_name" qc0 ["tree"]
 qkb:Top K mg "height" qdx ["tree"]
 qgq:Top K mg "_law_cell_at" q6x ["_law_script","_law_k"]
 qke:Top K mg "_law_words" q8f ["_law_cell","_law_many"]
 qob:Top K mg "_law_row" qat ["_law_script"]
 qli:Top K mg "_law_rule" q9s ["_law_table","_law_row_here","_law_cell"]
 qgn:Top K mg "_law_refused" q6y ["_law_facts","_law_rules","_law_rounds","_law_table","_law_row_here"]
 t_law:Top K mg "law" qnr ["_law_script"]
 qxh:mg "Step"=some (.ref (cA mg "Step"))
 q1s:Cls K (cA mg "Step")
 qvn:PySem.W.makesIn K (cA mg "Step")=true
 qvj:PySem.W.keepIn K (.ref (cA mg "Step"))=true
 q9w:NoAttr K (cA mg "Step") "asks"
 q44:NoAttr K (cA mg "Step") "by_shared"
 qfn:NoAttr K (cA mg "Step") "due"
 qdm:NoAttr K (cA mg "Step") "rows"
 q7l:NoAttr K (cA mg "Step") "shared"
 qck:NoAttr K (cA mg "Step") "table"
 qcf:NoAttr K (cA mg "Step") "terms"
 qlm:MTop K (cA mg "Step") "__init__" "Step.__init__" q9n ["self","rule","place","tables","known","wanted"]
 qeb:MTop K (cA mg "Step") "joined_on" "Step.joined_on" q5p ["self","binding"]
 qvk:mg "Heads"=some (.ref (cA mg "Heads"))
 q1n:Cls K (cA mg "Heads")
 qsg:PySem.W.makesIn K (cA mg "Heads")=true
 qsn:PySem.W.keepIn K (.ref (cA mg "Heads"))=true
 q48:NoAttr K (cA mg "Heads") "begun"
 q4x:NoAttr K (cA mg "Heads") "head"
 q8r:NoAttr K (cA mg "Heads") "seen"
 q5m:NoAttr K (cA mg "Heads") "steps"
 qkd:MTop K (cA mg "Heads") "__init__" "Heads.__init__" q8d ["self","rule","tables"]
 qd9:MTop K (cA mg "Heads") "following" "Heads.following" q54 ["self","standing"]
 qec:MTop K (cA mg "Heads") "begin_on" "Heads.begin_on" q5q ["self","place","binding"]
 qxi:mg "Sums"=some (.ref (cA mg "Sums"))
 q12:Cls K (cA mg "Sums")
 qvg:PySem.W.makesIn K (cA mg "Sums")=true
 qvm:PySem.W.keepIn K (.ref (cA mg "Sums"))=true
 qcj:NoAttr K (cA mg "Sums") "ahead"
 q62:NoAttr K (cA mg "Sums") "by"
 qfo:NoAttr K (cA mg "Sums") "due"
 q7p:NoAttr K (cA mg "Sums") "head_terms"
 q4d:NoAttr K (cA mg "Sums") "seen"
 q39:NoAttr K (cA mg "Sums") "steps"
 qlj:MTop K (cA mg "Sums") "__init__" "Sums.__init__" q9o ["self","rule","tables","by","ahead"]
 qch:MTop K (cA mg "Sums") "binding_for" "Sums.binding_for" q4q ["self","row"]
 qda:MTop K (cA mg "Sums") "pairs_from" "Sums.pairs_from" q55 ["self","place","binding"]
 qgm:MTop K (cA mg "Sums") "sum_for" "Sums.sum_for" q6v ["self","row"]
 q9c:MTop K (cA mg "Sums") "sum_from" "Sums.sum_from" q69 ["self","place","binding"]
 q9d:MTop K (cA mg "Sums") "sum_anew" "Sums.sum_anew" q6a ["self","place","binding"]
 qcg:mg "SumsByRule"=some (.ref (cA mg "SumsByRule"))
 qr:Cls K (cA mg "SumsByRule")
 qb3:PySem.W.makesIn K (cA mg "SumsByRule")=true
 qb4:PySem.W.keepIn K (.ref (cA mg "SumsByRule"))=true
 q4y:NoAttr K (cA mg "SumsByRule") "ahead"
 q9b:NoAttr K (cA mg "SumsByRule") "by"
 q2w:NoAttr K (cA mg "SumsByRule") "by_rule"
 q45:NoAttr K (cA mg "SumsByRule") "earlier"
 q23:NoAttr K (cA mg "SumsByRule") "stayed"
 q4h:NoAttr K (cA mg "SumsByRule") "tables"
 qd3:MTop K (cA mg "SumsByRule") "__init__" "SumsByRule.__init__" q56 ["self","tables","by","ahead","earlier"]
 q6k:MTop K (cA mg "SumsByRule") "sums_of" "SumsByRule.sums_of" q41 ["self","rule"]
 q8x:MTop K (cA mg "SumsByRule") "sums_again" "SumsByRule.sums_again" q3c ["self","rule"]
 q8w:MTop K (cA mg "SumsByRule") "has_stayed" "SumsByRule.has_stayed" q3d ["self","table"]
 q9x:MTop K (cA mg "SumsByRule") "worths_in" "SumsByRule.worths_in" q3l ["self","table"]
 qsk:mg "Makers"=some (.ref (cA mg "Makers"))
 q1l:Cls K (cA mg "Makers")
 qqp:PySem.W.makesIn K (cA mg "Makers")=true
 qqs:PySem.W.keepIn K (.ref (cA mg "Makers"))=true
 q9e:NoAttr K (cA mg "Makers") "behind"
 qdl:NoAttr K (cA mg "Makers") "by"
 q70:NoAttr K (cA mg "Makers") "names"
 qae:NoAttr K (cA mg "Makers") "rules"
 q2x:NoAttr K (cA mg "Makers") "sums_behind"
 qib:MTop K (cA mg "Makers") "__init__" "Makers.__init__" q7h ["self","facts","rules","by","behind"]
 qd4:MTop K (cA mg "Makers") "names_at" "Makers.names_at" q5b ["self","pair"]
 q7c:MTop K (cA mg "Makers") "sums_from" "Makers.sums_from" q4r ["self","number"]
 q7q:MTop K (cA mg "Makers") "rules_to" "Makers.rules_to" q5c ["self","number","table"]
 qkj:mg "Counts"=some (.ref (cA mg "Counts"))
 q3y:Cls K (cA mg "Counts")
 qhp:PySem.W.makesIn K (cA mg "Counts")=true
 qhs:PySem.W.keepIn K (.ref (cA mg "Counts"))=true
 qhq:PySem.W.findIn K (.ref (cA mg "Counts")) "__init__"=some (some (.builtin "object.__init__"))
 qfk:MTop K (cA mg "Counts") "nought" "Counts.nought" q6c ["self"]
 qi7:MTop K (cA mg "Counts") "unit" "Counts.unit" q7i ["self"]
 qfm:MTop K (cA mg "Counts") "either" "Counts.either" q6d ["self","one","other"]
 qi6:MTop K (cA mg "Counts") "both" "Counts.both" q7j ["self","one","other"]
 qvi:mg "Grove"=some (.ref (cA mg "Grove"))
 q2g:Cls K (cA mg "Grove")
 qsi:PySem.W.makesIn K (cA mg "Grove")=true
 qsj:PySem.W.keepIn K (.ref (cA mg "Grove"))=true
 q5l:NoAttr K (cA mg "Grove") "found"
 q71:NoAttr K (cA mg "Grove") "makers"
 qkg:MTop K (cA mg "Grove") "__init__" "Grove.__init__" q8e ["self","makers"]
 q8q:MTop K (cA mg "Grove") "trees_at" "Grove.trees_at" q5r ["self","number","pair"]
 qci:MTop K (cA mg "Grove") "trees_anew" "Grove.trees_anew" q4s ["self","number","pair"]
 q5v:MTop K (cA mg "Grove") "all_kids" "Grove.all_kids" q5s ["self","number","sums","place","binding"]
 qhr:mg "TooMuch"=some (.ref (cA mg "TooMuch"))
 q7b:XCls K (cA mg "TooMuch")
 qd2:PySem.W.mroIn K (cA mg "TooMuch") (.ref (cA mg "TooMuch"))=some true
def q1y{b:Bool}{A B:Prop}(e:b=false)(h:B):if b=true then A else B:=by
 subst e;exact iteF h
def q3p{b:Bool}{A B:Prop}(e:b=true)(h:A):if b=true then A else B:=by
 subst e;exact iteT h
def fur:Str:="abcdefghijklmnopqrstuvwxyz0123456789"
def capS:Str:="ABCDEFGHIJKLMNOPQRSTUVWXYZ"
def qa7(fs:Str):List Nat->Bool
 | []=>false
 | c::r=>decide (c∈fs.cps.toList)&&r.all λd=>decide (d∈fur.cps.toList)
def txtB(fs z:Str):Bool:=decide (1<=z.length)&&decide (z.length<=12)&&qa7 fs z.cps.toList
def txtK(fs:Str):Key->Bool
 | .inr z=>txtB fs z
 | .inl _=>false
def TxOk:Key->Prop
 | .inr z=>z.length<=200/\PyData.strOk z=true
 | .inl _=>True
def keyD:Key->PyData
 | .inr z=> .str z
 | .inl i=> .int i
def q38{K:xA}{H:Hp}:∀{t:Key},TxOk t->Dat K H (keyD t) (kV t)
 | .inr z,h=> .str z h.2
 | .inl i,_=> .int i
def qjn{fs z:Str}(h:¬ (1<=z.length/\z.length<=12)):txtB fs z=false:=by
 unfold txtB;by_cases h1:1<=z.length
 ·have h2:¬ z.length<=12:=λq=>h ⟨h1,q⟩;simp[h2]
 ·simp[h1]
def qcq{fs z:Str}(h1:1<=z.length)(h2:z.length<=12):txtB fs z=qa7 fs z.cps.toList:=by
 unfold txtB;simp[h1,h2]
def q20(z:Str):z.cps.toList.length=z.length:=by simp[Str.length]
def qf5{z:Str}(h:1<=z.length):∃c r,z.cps.toList=c::r:=by
 have:=q20 z;cases e:z.cps.toList with
 | nil=>rw[e]at this;simp at this;lia
 | cons c r=>exact⟨c,r,rfl⟩
def qjo{z:Str}(h:1<=z.length):(cutS z (some 1) none).cps.toList=z.cps.toList.tail:=by
 have e1:HT.sIx z.length 0 (some 1)=1:=by
  have:=HT.sIx_nat z.length 0 1;rw[show ((1:Nat):Int)=1 from rfl]at this;rw[this]
  lia
 have hl:=q20 z;unfold cutS;rw[e1,HT.sIx_none];show ((z.cps.toList.drop 1).take (z.length - 1)).toArray.toList=_;rw[z15,z0k (by rw[z1z];lia),List.drop_one]
variable{P:Program}{w:World}{K:xA}{mg:xE}{base:Heap}
inductive sp_cell (K:xA) (vs:List V) (H:Hp) (Q:VK) (_x3:XK):Prop
 | mk:∀(a:Addr) (ns:List Int) (k:Int),(vs=[.ref a,.int k])->(SqL K H a (ns.map V.int))->(0<=k)->(Q (.int (ns.getD k.toNat 0)) H)->sp_cell K vs H Q _x3
def q2p(T:Txt K mg):Def P w K mg base 1 "_law_cell_at" ["_law_script","_law_k"] (sp_cell K):=by
 refine T.qgq.ok qf4 (λvs H Q E h=>?_) λf cdv A outer s H vs Q E hr h=>?_
 ·obtain⟨a,ns,k,rfl,_⟩:=h;rfl
 ·obtain⟨a,ns,k,rfl,O,h0,q⟩:=h;refine⟨_,(q1x
   (q18 (q14 qxp (pv 1) (qw (q1o K) rfl T.b_len q2a (pa_1 (pv 0))) (q1c _)) (qg (qj (qt (q27 K) (pv 0) (pv 1) (λ_ _=>rfl)))) qx)
   (qj qf)),?_⟩
  refine⟨_,zr,_,zr,_,_,zr,.inl ⟨_,O,zr⟩,_,_,zr,zr,_,zr,?_⟩;rw[z2h];refine ite2 (λh1=>?_) (λh1=>?_)
  ·have J:k < ns.length:=by simpa using h1
   have hk:k.toNat < ns.length:=by lia
   refine⟨_,zr,_,zr,_,_,_,V.int (ns.getD k.toNat 0),zr,zr,O,?_,q⟩;rw[qp3 h0 (by rw[z2h];exact J),z1m,z0b hk,qm4 hk];rfl
  ·have J:¬ k < ns.length:=by simpa using h1
   have e:ns.getD k.toNat 0=0:=by
    exact qu0 (by lia)
   rw[e]at q;exact q
inductive sp_begun (K:xA) (vs:List V) (H:Hp) (Q:VK) (_x3:XK):Prop
 | mk:∀(t:Key) (fs:Str),(vs=[kV t,.str fs])->(TxOk t)->(∀H',Same H H'->Q (.bl (txtK fs t)) H')->sp_begun K vs H Q _x3
def q6n(T:Txt K mg):Def P w K mg base 1 "is_text_begun_by" ["thing","first_signs"] (sp_begun K):=by
 refine T.qce.ok qb6 (λvs H Q E h=>?_) λf cdv A outer s H vs Q E hr h=>?_
 ·obtain⟨t,fs,rfl,_⟩:=h;rfl
 ·obtain⟨t,fs,rfl,hz,k⟩:=h;have hd:=q38 (K:=K) (H:=H) hz;refine⟨_,(q1x
   (q18 (PW.pt (qag (q33 (q1z (qw (q3w K) rfl T.q2h q25 (pa_2 (pv 0) (q7s rfl T.b_str qp4))))) (q9z (q33 (qiq qeh qeh qf (qw (q1o K) rfl T.b_len q2a (pa_1 (pv 0))) (q93 rfl T.qkc)))))) (qg (qj q4i)) qx)
   (qj (q46 (q5x qgt (qt qoq (pv 0) qf (λ_ _=>rfl)) (pv 1) (by with_unfolding_all rfl)) (q3q (qw (q2z rfl K) rfl T.b_all q5g (pa_1 (q1a (N:=["sign"]) (caps:=[none]) rfl (by with_unfolding_all rfl) (qw8 (q34 qep (pv 0) (q3s qf) q3r)) (λ_ _ _ _ _=>(qi (i:=0) (show (["sign"]:xD).Nodup by decide+kernel) rfl (Or.inl rfl))) (λ_ _ _ _ _=>q1r) (λ_ _ _ _ _=>(q5x qgt (pv 0) (qn6 rfl T.qfi) (by with_unfolding_all rfl)))))))))),?_⟩
  cases t with
  | inr z=>
   have hz:=hz.1;have O:z.length<=sizeLine:=z3d hz (by decide);have no:¬ (1<=z.length/\z.length<=12)->Q (.bl false) H:=λq=>by
    have:=k H (Same.refl H);rw[show txtK fs (.inr z)=false from qjn q]at this;exact this
   refine⟨_,zr,_,_,_,zr,hd,by decide,_,zr,?_⟩;refine q1y (show (!tyIs "str" "str")=false by decide) ?_;refine⟨_,zr,_,_,zr,⟨O,zr⟩,_,_,zr,zr,_,zr,?_⟩;refine ite2 (λh1=>?_) (λh1=>?_)
   ·refine⟨_,_,zr,zr,_,zr,?_⟩;refine ite2 (λh2=>?_) (λh2=>?_)
    ·exact no λq=>by simp at h2;lia
    ·have l1:1<=z.length:=by simp at h1;lia
     have l2:z.length<=12:=by simp at h2;lia
     obtain⟨c,r,J⟩:=qf5 l1;have et:txtK fs (.inr z)=qa7 fs z.cps.toList:=qcq (fs:=fs) l1 l2;rw[J]at et;refine⟨_,rfl,_,_,c,rfl,rfl,O,(by rw[J];exact ql (j:=0) rfl),_,rfl,_,_,rfl,rfl,_,rfl,?_⟩;rw[StrLaws.found_one];refine ite2 (λh3=>?_) (λh3=>?_)
     ·refine⟨_,zr,_,zr,_,zr,O,_,zr,λD hD=>?_⟩;have Y:(cutS z (some 1) none).cps.toList=r:=by rw[qjo l1,J];rfl
      have hrl:r.length<=12:=by
       have:=q20 z;rw[J,z20]at this
       lia
      have Z:(cutS z (some 1) none).cps.size=r.length:=by rw[<- Y,z0y]
      refine q1d r.length (λi σ' H'=>(∃v,σ'=[v])/\H'=upd H D (.lst ((r.take i).map λc=>V.bl (decide (c∈fur.cps.toList))))) ⟨⟨_,rfl⟩,rfl⟩ (λi σ' H' hi _=>by show i < _;rw[Z];exact hi) (λσ' H' p=>⟨Z.symm,?_⟩) (λi σ' H' hi p x H2 y=>?_)
      ·obtain⟨_,rfl⟩:=p;refine⟨D,r.map λc=>decide (c∈fur.cps.toList),rfl,SqL.of (by rw[qb,z2b,z3i];rfl),?_⟩;have:=k (upd H D (.lst ((r.take r.length).map λc=>V.bl (decide (c∈fur.cps.toList))))) (qc hD);rw[et]at this;have e2:qa7 fs (c::r)=(r.map λc=>decide (c∈fur.cps.toList)).all id:=by
        show (decide (c∈fs.cps.toList)&&_)=_;rw[h3,Bool.true_and,List.all_map];rfl
       rw[e2]at this;exact this
      ·obtain⟨⟨v,rfl⟩,rfl⟩:=p;obtain⟨rfl,c',hc,rfl⟩:=y;have a1:r[i]? =some c':=by rw[<- Y,z0q];exact hc
       refine⟨_,zr,_,_,zr,zr,_,qb,?_,⟨_,zr⟩,?_⟩
       ·rw[z2h,z1y];exact small1000 (by lia)
       ·rw[qt9,StrLaws.found_one,z2x,a1,z2n];rfl
     ·have:=k H (Same.refl H);rw[et]at this;have e2:qa7 fs (c::r)=false:=by
       show (decide (c∈fs.cps.toList)&&_)=_;rw[Bool.eq_false_iff.mpr h3,z2u]
      rw[e2]at this;exact this
   ·refine⟨_,zr,iteT ?_⟩;exact no λq=>by simp at h1;lia
  | inl i=>
   refine⟨_,zr,_,_,_,zr,hd,by decide,_,zr,?_⟩;refine q3p (show (!tyIs "int" "str")=true by decide) (iteT ?_);exact k H (Same.refl H)
def qc4(T:Txt K mg):Def P w K mg base 2 "is_var" ["thing"] (λvs H Q _=>∃t:Key,vs=[kV t]/\TxOk t/\∀H',Same H H'->Q (.bl (txtK capS t)) H'):=by
 refine T.qsl.ok qpv (λvs H Q E h=>?_) λf cdv A outer s H vs Q E hr h=>?_
 ·obtain⟨t,rfl,_⟩:=h;rfl
 ·obtain⟨t,rfl,hz,k⟩:=h;refine⟨_,(qg (qj (qh (q6n T) hr rfl (pa_2 (pv 0) (qn6 rfl T.qd8))))),?_⟩;exact⟨_,zr,t,_,zr,hz,k⟩
def mPut(kvs:List (Key×V))(t v:Key):List (Key×V):=if txtK capS t=true/\valV kvs t=none then putK kvs t (kV v) else kvs
def q1m(kvs:List (Key×V))(t v:Key):Option (List (Key×V)):=if (valV (mPut kvs t v) t).getD (kV t)=kV v then some (mPut kvs t v) else none
def mAll(kvs:List (Key×V)):List (Key×Key)->Option (List (Key×V))
 | []=>some kvs
 | p::r=>(q1m kvs p.1 p.2).bind λk=>mAll k r
def qjp(l r:List (Key×Key)):∀kvs,mAll kvs (l++r)=(mAll kvs l).bind λk=>mAll k r:=by
 induction l with
 | nil=>exact λkvs=>rfl
 | cons p l ih=>
  intro kvs;show (q1m kvs p.1 p.2).bind (λk=>mAll k (l++r))=((q1m kvs p.1 p.2).bind λk=>mAll k l).bind _;cases q1m kvs p.1 p.2 with
  | none=>rfl
  | some k=>exact ih k
def qpy{kvs k:List (Key×V)}{l:List (Key×Key)}{i:Nat}{t v:Key}(h:mAll kvs (l.take i)=some k)(e:l[i]? =some (t,v)):mAll kvs (l.take (i+1))=q1m k t v:=by
 rw[z2x,e,qjp,h];show (q1m k t v).bind (λk=>some k)=_;cases q1m k t v <;> rfl
def qpz{kvs:List (Key×V)}{l:List (Key×Key)}{i:Nat}(h:mAll kvs (l.take i)=none):mAll kvs l=none:=by
 rw[<- List.take_append_drop i l,qjp,h];rfl
def AllK(kvs:List (Key×V)):Prop:=∀kv∈kvs,∃j:Key,kv.2=kV j
def quq{kvs:List (Key×V)}{k:Key}{v:V}{J:Key×V}(h:J∈putK kvs k v):J∈kvs\/ J=(k,v):=by
 unfold putK at h;split at h
 ·obtain⟨p,hp,e⟩:=z3h.mp h;split at e
  ·rename_i z;exact .inr (by rw[<- e,<- z])
  ·exact .inl (by rw[<- e];exact hp)
 ·rcases z2c.mp h with h | h
  ·exact .inl h
  ·exact .inr (z1a.mp h)
def qq0{kvs:List (Key×V)}{k:Key}{v:V}(h:valV kvs k=some v):(k,v)∈kvs:=by
 unfold valV at h;obtain⟨kv,J,rfl⟩:=z0n.mp h;have h1:=List.find?_some J;have h2:=z0a J;have:kv.1=k:=by simpa using h1
 rw[<- this];exact h2
def AllK.put{kvs:List (Key×V)}(h:AllK kvs)(t v:Key):AllK (mPut kvs t v):=by
 unfold mPut;split
 ·intro kv hk;rcases quq hk with hk | rfl
  ·exact h kv hk
  ·exact⟨v,zr⟩
 ·exact h
def AllK.get{kvs:List (Key×V)}(h:AllK kvs)(t:Key):∃j:Key,(valV kvs t).getD (kV t)=kV j:=by
 cases e:valV kvs t with
 | none=>exact⟨t,rfl⟩
 | some v=>exact h _ (qq0 e)
def qdj(kvs:List (Key×V))(t v:Key):(mPut kvs t v).length<=kvs.length+1:=by
 unfold mPut;split
 ·exact q2j ..
 ·exact Nat.le_succ _
def qq1:∀u v:Key,scal (kV u) (kV v)=true
 | .inl _,.inl _=>rfl
 | .inl _,.inr _=>rfl
 | .inr _,.inl _=>rfl
 | .inr _,.inr _=>rfl
inductive sp_matched (K:xA) (vs:List V) (H:Hp) (Q:VK) (_x3:XK):Prop
 | mk:∀(a:Addr) (b:Addr) (d:Addr) (ts:List Key) (us:List Key) (kvs:List (Key×V)),(vs=[.ref a,.ref b,.ref d])->(SqT K H a (ts.map kV))->(SqT K H b (us.map kV))->(H d=some (.dK kvs))->((∀t∈ts,TxOk t))->(AllK kvs)->(ts.length<=100)->(kvs.length<=100)->(((ts.length≠us.length\/ mAll kvs (ts.zip us)=none)->∀H',Same H H'->Q .non H'))->((∀k2 p H',ts.length=us.length->mAll kvs (ts.zip us)=some k2->Same H H'->H p=none->H' p=some (.dK k2)->Q (.ref p) H'))->sp_matched K vs H Q _x3
def qf6(T:Txt K mg):Def P w K mg base 3 "matched" ["terms","row","binding"] (sp_matched K):=by
  refine T.qqu.ok q7v (λvs H Q E h=>?_) λf cdv A outer s H vs Q E hr h=>?_
  · obtain⟨a,b,d,ts,us,kvs,rfl,_⟩:=h
    rfl
  · obtain⟨a,b,d,ts,us,kvs,rfl,ha,hb,hd,a2,Z,lt,lk,kn,ks⟩:=h
    have la:LenV K (.ref a) H ts.length:= .inr ⟨_,ha,by rw[z2h]⟩;have lb:LenV K (.ref b) H us.length:= .inr ⟨_,hb,by rw[z2h]⟩;refine⟨_,(q4k
      (q18 (q14 qid (qw (q1o K) rfl T.b_len q2a (pa_1 (pv 0))) (qw (q1o K) rfl T.b_len q2a (pa_1 (pv 1))) (q1c _)) (qg (qj q3f)) qx)
      (qm (i:=3) q7v.nd rfl (Or.inl rfl) (q1u qet rfl T.qfh qco (pa_1 (pv 2))))
      (q1k PassesOwn.never rfl (qwl K rfl T.b_zip (pa_2 (pv 0) (pv 1))) (q3g rfl (qv (qi (i:=4) q7v.nd rfl (Or.inl rfl)) (qv (qi (i:=5) q7v.nd rfl (Or.inl rfl)) q1w))) (q1x
      (q18 (q1z (qh (qc4 T) hr rfl (pa_1 (pv 4)))) (qg (q1g (qj1 (pv 3) (pv 4) (pv 5) ⟨rfl,rfl,rfl,rfl⟩))) qx)
      (q18 (q14 qid (q6r (q3n hr) (pv 3) (pv 4) (pv 4) ⟨rfl,rfl,rfl,rfl⟩) (pv 5) (q1c _)) (qg (qj q3f)) qx)))
      (qj (pv 3))),?_⟩
    refine⟨_,zr,_,_,zr,la,_,zr,_,_,zr,lb,zr,_,zr,ite2 (λh1=>?_) (λh1=>?_)⟩
    · refine kn (.inl λe=>?_) H (Same.refl H)
      rw[e]at h1;simp at h1
    · have el:ts.length=us.length:=by
        have:decide (V.int ts.length=V.int us.length)=true:=by
          cases q:decide (V.int ts.length=V.int us.length) with
          | true=>rfl
          | false=>exact absurd (by show (!decide (V.int ts.length=V.int us.length))=true;rw[q];rfl) h1
        have:=of_decide_eq_true this;injection this with e
        lia
      refine⟨_,zr,d,kvs,zr,.inl hd,λq hq=>?_⟩;have s1:=qc (o:=HO.dK kvs) hq;refine⟨_,zr,_,zr,a,b,zr,⟨_,s1.seqT ha⟩,⟨_,s1.seqT hb⟩,?_⟩;refine qu9 (xs:=ts.map kV) (ys:=us.map kV) (λi σ H'=>∃(v1 v2:Option V) (J:List (Key×V)),σ=[some (.ref a),some (.ref b),some (.ref d),some (.ref q),v1,v2]/\Same H H'/\H' q=some (.dK J)/\mAll kvs ((ts.zip us).take i)=some J/\AllK J/\J.length<=100+i)
        ⟨none,none,kvs,rfl,s1,qb,rfl,Z,lk⟩ (λi σ H' _ p=>?_) ?_ ?_
      · obtain⟨v1,v2,J,_,O,_⟩:=p
        exact⟨O.seqT ha,O.seqT hb⟩
      · rintro i x y p σ H' hx hy hp ⟨v1,v2,J,rfl,O,hk,hm,Y,hl⟩
        rw[z1m]at hx hy;obtain⟨t,ht,rfl⟩:=z0n.mp hx;obtain⟨v,hv,rfl⟩:=z0n.mp hy;have hil:i < 100:=z1e (z06.mp ht).1 lt;have a1:(ts.zip us)[i]? =some (t,v):=by
          rw[List.getElem?_zip_eq_some];exact⟨ht,hv⟩
        have nx:=qpy hm a1;have s3:=qc (o:=HO.tup [kV t,kV v]) hp;have qp:q≠p:=λe=>by rw[e,hp]at hk;cases hk
        refine⟨p,_,zr,SqT.of qb,zr,_,_,zr,_,_,zr,zr,?_⟩;have fin:∀H4:Hp,Same H H4->H4 q=some (.dK (mPut J t v))->(tIfS (qie (tOp rNe (qov (tVar 3) (tVar 4) (tVar 4)) (tVar 5))) (tRet (tC V.non)) qsq)
            {nx:=(λσ H'=>∃(v1 v2:Option V) (kj:List (Key×V)),σ=[some (.ref a),some (.ref b),some (.ref d),some (.ref q),v1,v2]/\Same H H'/\H' q=some (.dK kj)/\mAll kvs ((ts.zip us).take (i+1))=some kj/\AllK kj/\kj.length<=100+(i+1)),rt:=Q}
            [some (.ref a),some (.ref b),some (.ref d),some (.ref q),some (kV t),some (kV v)] H4:=λH4 s4 h4=>by
          obtain⟨j,ej⟩:=(Y.put t v).get t;have sc:scal ((valV (mPut J t v) t).getD (kV t)) (kV v)=true:=by rw[ej];exact qq1 j v
          refine⟨_,zr,q,zr,.inl ⟨_,.inl h4⟩,_,zr,_,zr,_,DGet.k h4,_,zr,sc,_,zr,ite2 (λh2=>?_) (λh2=>?_)⟩
          · refine kn (.inr (qpz (i:=i+1) ?_)) _ s4
            rw[nx];unfold q1m;rw[if_neg];intro e;rw[z2s e]at h2;cases h2
          · refine⟨_,_,mPut J t v,zr,s4,h4,?_,Y.put t v,?_⟩
            · rw[nx]
              unfold q1m;rw[if_pos];by_cases e:(valV (mPut J t v) t).getD (kV t)=kV v
              · exact e
              · exact absurd (by rw[z2d e];rfl) h2
            · have:=qdj J t v
              lia
        refine⟨_,zr,t,zr,a2 t (z0x ht),λH3 s5=>⟨_,zr,ite2 (λh2=>?_) (λh2=>?_)⟩⟩
        · have h3:=s5 _ _ (s3 _ _ hk)
          refine⟨_,zr,q,zr,.inl ⟨_,.inl h3⟩,_,zr,_,zr,J,t,h3,zr,small1000 (by lia),λu e=>?_,λe=>?_⟩
          · refine fin _ (O.trans (s3.trans s5)) ?_
            unfold mPut;rw[if_neg (λz=>by rw[e]at z;exact nomatch z.2)];exact h3
          · refine fin _ ((O.trans (s3.trans s5)).set hq) ?_
            unfold mPut;rw[if_pos ⟨h2,e⟩];exact qb
        · refine fin _ (O.trans (s3.trans s5)) ?_
          unfold mPut;rw[if_neg (λz=>h2 z.1)];exact s5 _ _ (s3 _ _ hk)
      · rintro σ H' ⟨v1,v2,J,rfl,O,hk,hm,Y,hl⟩
        rw[z2h,z2h,z0k (by rw[List.length_zip];exact z3j _)]at hm;exact⟨_,zr,ks J q H' el hm O hq hk⟩
def qa8:fur.length=36:=by decide+kernel
def q8k(a b:Str):(a++b).cps.toList=a.cps.toList++b.cps.toList:=by
 show (a.cps++b.cps).toList=_;rw[z0z]
def qmg(a b:Str):(a++b).length=a.length+b.length:=by
 show (a.cps++b.cps).size=a.cps.size+b.cps.size;exact Array.size_append
def qrz{z:Str}(h:∀c∈z.cps.toList,c < 0x110000):PyData.strOk z=true:=by
 unfold PyData.strOk;rw[<- Array.all_toList,z25];exact λc hc=>z2s (h c hc)
def qww:∀c∈fur.cps.toList,c < 0x110000:=by decide+kernel
def Wz(n:Nat)(z:Str):Prop:=z.length<=n/\∀c∈z.cps.toList,c∈fur.cps.toList
def qur(a b:Str):PyData.eqv (.str a) (.str b)=decide (a=b):=by
 show (a==b)=_;by_cases h:a=b <;> simp[h]
def tv(kvs:List (Key×V))(t:Key):V:=(valV kvs t).getD (kV t)
inductive sp_putin (K:xA) (vs:List V) (H:Hp) (Q:VK) (_x3:XK):Prop
 | mk:∀(a:Addr) (b:Addr) (ts:List Key) (kvs:List (Key×V)),(vs=[.ref a,.ref b])->(SqT K H a (ts.map kV))->(H b=some (.dK kvs))->(ts.length<=100)->(∀p H',Same H H'->H' p=some (.tup (ts.map (tv kvs)))->Q (.ref p) H')->sp_putin K vs H Q _x3
def q60(T:Txt K mg):Def P w K mg base 1 "put_in" ["terms","binding"] (sp_putin K):=by
 refine T.qsh.ok qpx (λvs H Q E h=>?_) λf cdv A outer s H vs Q E hr h=>?_
 ·obtain⟨a,b,ts,kvs,rfl,_⟩:=h;rfl
 ·obtain⟨a,b,ts,kvs,rfl,Y,hb,hl,k⟩:=h;refine⟨_,(qg (qj (q1u (q49 K) rfl T.q52 q3z (pa_1 (q1a (N:=["term","binding"]) (caps:=[none,some 1]) rfl (by with_unfolding_all rfl) (q31 K (pv 0)) (λ_ _ _ _ _=>(qi (i:=0) (show (["term","binding"]:xD).Nodup by decide+kernel) rfl (Or.inl rfl))) (λ_ _ _ _ _=>q1r) (λ_ _ _ _ _=>(q6r (q3n hr) (pv 1) (pv 0) (pv 0) ⟨zr,zr,zr,zr⟩))))))),?_⟩;refine⟨_,zr,a,zr,⟨_,Y⟩,λD Z=>?_⟩;refine q1d (ts.map kV).length (λi σ' H'=>(∃v,σ'=[v,some (.ref b)])/\Same H H'/\H' D=some (.lst ((ts.take i).map (tv kvs)))) ⟨⟨_,zr⟩,qc Z,qb⟩ (λi σ' H' hi p=>?_) (λσ' H' p=>⟨?_,?_⟩) (λi σ' H' hi p x H2 y=>?_)
  ·obtain⟨_,J,_⟩:=p;exact⟨_,(ts.map kV)[i],J.seqT Y,z0b hi⟩
  ·obtain⟨_,J,_⟩:=p;exact⟨_,J.seqT Y,z3j _⟩
  ·obtain⟨_,J,e⟩:=p;rw[z2h,z2b]at e;refine⟨_,_,zr,.inl ⟨SqL.of e,λq hq=>?_⟩⟩;exact k q _ (J.trans (qc hq)) qb
  ·obtain⟨⟨v,rfl⟩,J,e⟩:=p;obtain⟨rfl,hx⟩:=y;have O:=hx _ (J.seqT Y);rw[z1m]at O;obtain⟨kk,hk,rfl⟩:=z0n.mp O;refine⟨_,zr,b,zr,.inl ⟨kvs,.inl (J _ _ hb)⟩,_,zr,_,zr,_,DGet.k (J _ _ hb),?_⟩;refine⟨_,e,?_,⟨_,zr⟩,J.set Z,?_⟩
   ·rw[z2h,z1y];exact small1000 (by lia)
   ·rw[qb,z2x,hk,z2n];rfl
def smaS:Str:="abcdefghijklmnopqrstuvwxyz"
def qmh{F z:Str}{c:Nat}{r:List Nat}(e:z.cps.toList=c::r)(hl:r.length<=11)(hc:c∈F.cps.toList)(hr:∀d∈r,d∈fur.cps.toList):txtB F z=true:=by
 have hz:=q20 z;rw[e,z20]at hz;rw[qcq (by lia) (by lia),e];show (decide (c∈F.cps.toList)&&r.all λd=>decide (d∈fur.cps.toList))=true;rw[z2s hc,Bool.true_and,z25];exact λd hd=>z2s (hr d hd)
def qwx:∀c∈capS.cps.toList,c < 0x110000:=by decide+kernel
def qwy:∀c∈smaS.cps.toList,c < 0x110000:=by decide+kernel
def qmi:∀c∈smaS.cps.toList,c∉capS.cps.toList:=by decide+kernel
def q2e{F z:Str}(h:txtB F z=true):1<=z.length/\z.length<=12/\∃c r,z.cps.toList=c::r/\c∈F.cps.toList/\∀d∈r,d∈fur.cps.toList:=by
 by_cases hl:1<=z.length/\z.length<=12
 ·obtain⟨c,r,e⟩:=qf5 hl.1;rw[qcq hl.1 hl.2,e]at h;have h':(decide (c∈F.cps.toList)&&r.all λd=>decide (d∈fur.cps.toList))=true:=h;rw[z24,z25]at h';exact⟨hl.1,hl.2,c,r,e,of_decide_eq_true h'.1,λd hd=>of_decide_eq_true (h'.2 d hd)⟩
 ·rw[qjn hl]at h;cases h
def qe2{F z:Str}(hF:∀c∈F.cps.toList,c < 0x110000)(h:txtB F z=true):PyData.strOk z=true:=by
 obtain⟨_,_,c,r,e,hc,hr⟩:=q2e h;refine qrz λd hd=>?_;rw[e]at hd;rcases z32.mp hd with rfl | hd
 ·exact hF _ hc
 ·exact qww d (hr d hd)
def GoodK:Key->Prop
 | .inl _=>True
 | .inr z=>txtB smaS z=true
def GoodK.tx:∀{k:Key},GoodK k->TxOk k
 | .inl _,_=>True.intro
 | .inr z,h=>⟨z3d (q2e h).2.1 (by decide),qe2 qwy h⟩
def TmK(t:Key):Prop:=(∃z,t= .inr z/\txtB capS z=true)\/ (GoodK t/\txtK capS t=false)
def GoodK.tm:∀{k:Key},GoodK k->TmK k
  | .inl _,_=> .inr ⟨True.intro,rfl⟩
  | .inr z,h=> .inr ⟨h,by
      obtain⟨h1,h2,c,r,e,hc,_⟩:=q2e h;show txtB capS z=false;rw[qcq h1 h2,e];show (decide (c∈capS.cps.toList)&&_)=false;rw[z2d (qmi c hc),z2u]⟩
theorem TmK.tx{t:Key}(h:TmK t):TxOk t:=by
 rcases h with ⟨z,rfl,h⟩ | ⟨h,_⟩
 ·exact⟨z3d (q2e h).2.1 (by decide),qe2 qwx h⟩
 ·exact h.tx
def NmI(F z:Str)(i:Nat):Prop:=(i=0/\z="")\/ ∃c r,z.cps.toList=c::r/\r.length+1=i/\c∈F.cps.toList/\∀d∈r,d∈fur.cps.toList
def NmI.one{F:Str}{c:Nat}(h:c∈F.cps.toList):NmI F ⟨#[c]⟩ 1:= .inr ⟨c,[],rfl,rfl,h,λ_ z=>nomatch z⟩
def NmI.more{F z:Str}{i d:Nat}(h:NmI F z i)(hi:i≠0)(hd:d∈fur.cps.toList):NmI F (z++⟨#[d]⟩) (i+1):=by
 rcases h with ⟨e,_⟩ | ⟨c,r,e,hl,hc,hr⟩
 ·exact absurd e hi
 ·refine .inr ⟨c,r++ [d],by rw[q8k,e];rfl,by rw[z1b];show r.length+1+1=_;lia,hc,λx J=>?_⟩;rcases z2c.mp J with J | J
  ·exact hr x J
  ·rw[z1a.mp J];exact hd
def NmI.len{F z:Str}{i:Nat}(h:NmI F z i):z.length=i:=by
 rcases h with ⟨rfl,rfl⟩ | ⟨c,r,e,hl,_⟩
 ·rfl
 ·rw[<- q20,e,z20,hl]
def qus:∀c∈smaS.cps.toList,c∈fur.cps.toList:=by decide+kernel
def GoodK.no{k:Key}(h:GoodK k):txtK capS k=false:=by
 rcases h.tm with ⟨z,rfl,h1⟩ | ⟨_,h1⟩
 ·have h:txtB smaS z=true:=h;obtain⟨_,_,c,r,e,hc,_⟩:=q2e h;obtain⟨_,_,c',r',e',J,_⟩:=q2e h1;rw[e]at e';injection e' with e1 e2;subst e1;exact absurd J (qmi c hc)
 ·exact h1
def qq2{t:Key}(h:txtK capS t=true):TmK t:=by
 cases t with
 | inl i=>cases h
 | inr z=>exact .inl ⟨z,rfl,h⟩
def qwz:PyData->Bool
 | .int _=>true
 | _=>false
inductive sp_whole (K:xA) (vs:List V) (H:Hp) (Q:VK) (_x3:XK):Prop
 | mk:∀x d,(vs=[x])->(Dat K H d x)->(Q (.bl (qwz d)) H)->sp_whole K vs H Q _x3
def q73(T:Txt K mg):Def P w K mg base 1 "is_whole" ["thing"] (sp_whole K):=by
 refine T.qo7.ok ql3 (λvs H Q E h=>?_) λf cdv A outer s H vs Q E hr h=>?_
 ·obtain⟨x,d,rfl,_⟩:=h;rfl
 ·obtain⟨x,d,rfl,hd,k⟩:=h;refine⟨_,(qg (qj (q46 (qw (q3w K) rfl T.q2h q25 (pa_2 (pv 0) (q7s rfl T.b_int qiy))) (q3q (qvu (qw (q3w K) rfl T.q2h q25 (pa_2 (pv 0) (q7s rfl T.qxj qtz)))))))),?_⟩;refine⟨_,zr,_,_,_,zr,hd,by decide,_,zr,ite2 (λh1=>?_) (λh1=>?_)⟩
  ·refine⟨_,zr,_,_,_,zr,hd,by decide,_,zr,?_⟩;cases hd <;> first | exact k | (exact absurd h1 z19)
  ·cases hd <;> first | exact k | (exact absurd rfl h1)
theorem q61{α:Type}{K:xA}{H:Hp}{f:α->PyData}{g:α->V}:∀{l:List α},(∀x∈l,Dat K H (f x) (g x))->Dats K H (l.map f) (l.map g)
 | [],_=> .nil
 | x::l,h=> .cons (h x (z1c ..)) (q61 λy hy=>h y (z0v _ hy))
def qe3(n:Nat):(List.replicate n true).all id=true:=z25.mpr λb hb=>(List.mem_replicate.mp hb).2
abbrev FT:=Str×Str×List Key
structure FGood (f:FT):Prop where
 nm:txtB smaS f.1=true
 tb:txtB smaS f.2.1=true
 ln:f.2.2.length<=4
 vs:∀k∈f.2.2,GoodK k
def FV(H:Hp)(e:V×FT):Prop:=∃p q,e.1= .ref p/\H p=some (.tup [.str e.2.1,.str e.2.2.1,.ref q])/\H q=some (.tup (e.2.2.2.map kV))
def q6g(T:Txt K mg):Def P w K mg base 2 "is_word" ["thing"] (λvs H Q _=>∃t:Key,vs=[kV t]/\TxOk t/\∀H',Same H H'->Q (.bl (txtK smaS t)) H'):=by
 refine T.qqv.ok qns (λvs H Q E h=>?_) λf cdv A outer s H vs Q E hr h=>?_
 ·obtain⟨t,rfl,_⟩:=h;rfl
 ·obtain⟨t,rfl,ht,k⟩:=h;refine⟨_,(qg (qj (qh (q6n T) hr rfl (pa_2 (pv 0) (qn6 rfl T.qfj))))),?_⟩;exact⟨_,zr,t,smaS,zr,ht,λH' s'=>k H' s'⟩
def ql6(T:Txt K mg):Def P w K mg base 3 "is_value" ["thing"] (λvs H Q _=>∃t:Key,vs=[kV t]/\GoodK t/\∀H',Same H H'->Q (.bl true) H'):=by
 refine T.qfl.ok qdh (λvs H Q E h=>?_) λf cdv A outer s H vs Q E hr h=>?_
 ·obtain⟨t,rfl,_⟩:=h;rfl
 ·obtain⟨t,rfl,J,k⟩:=h;refine⟨_,(qg (qj (qmq (qh (q73 T) hr rfl (pa_1 (pv 0))) (q3q (qh (q6g T) hr rfl (pa_1 (pv 0))))))),?_⟩;refine⟨_,zr,_,keyD t,zr,q38 J.tx,?_⟩;cases t with
  | inl i=>exact⟨_,rfl,iteT (k H (Same.refl H))⟩
  | inr z=>
   refine⟨_,zr,iteF ⟨_,zr,.inr z,zr,GoodK.tx J,λH' s'=>?_⟩⟩;have J:txtB smaS z=true:=J;show Q (.bl (txtB smaS z)) H';rw[J];exact k H' s'
inductive sp_isrw (K:xA) (vs:List V) (H:Hp) (Q:VK) (_x3:XK):Prop
 | mk:∀(a:Addr) (us:List Key),(vs=[.ref a])->(H a=some (.tup (us.map kV)))->(us.length<=4)->((∀u∈us,GoodK u))->(∀H',Same H H'->Q (.bl true) H')->sp_isrw K vs H Q _x3
def qq3(T:Txt K mg):Def P w K mg base 4 "is_row" ["thing"] (sp_isrw K):=by
 refine T.qsm.ok qpw (λvs H Q E h=>?_) λf cdv A outer s H vs Q E hr h=>?_
 ·obtain⟨a,us,rfl,_⟩:=h;rfl
 ·obtain⟨a,us,rfl,ha,l4,Z,k⟩:=h;have d0:Dat K H (.tuple (us.map keyD)) (.ref a):= .tup (SqT.of ha) (q61 λu hu=>q38 (Z u hu).tx);refine⟨_,(q1x
   (q18 (PW.pt (qag (q33 (q1z (qw (q3w K) rfl T.q2h q25 (pa_2 (pv 0) (q7s rfl T.q52 q3z))))) (q9z (q14 q7r (qw (q1o K) rfl T.b_len q2a (pa_1 (pv 0))) (q93 rfl T.qb2) (q1c _))))) (qg (qj q4i)) qx)
   (qj (qw (q2z rfl K) rfl T.b_all q5g (pa_1 (q1a (N:=["part"]) (caps:=[none]) rfl (by with_unfolding_all rfl) (q31 K (pv 0)) (λ_ _ _ _ _=>(qi (i:=0) (show (["part"]:xD).Nodup by decide+kernel) rfl (Or.inl rfl))) (λ_ _ _ _ _=>q1r) (λ_ _ _ _ _=>(qh (ql6 T) hr rfl (pa_1 (pv 0))))))))),?_⟩
  refine⟨_,zr,_,_,_,zr,d0,by decide,_,zr,q1y rfl ?_⟩;refine⟨_,rfl,_,_,rfl,.inr ⟨_,SqT.of ha,rfl⟩,_,_,rfl,rfl,_,rfl,q1y (z2d (by rw[z2h];lia)) ?_⟩;refine⟨_,zr,a,zr,⟨_,SqT.of ha⟩,λD hD=>?_⟩;refine q1d (us.map kV).length (λi σ' J=>(∃v,σ'=[v])/\Same H J/\J D=some (.lst ((List.replicate i true).map V.bl))) ⟨⟨_,zr⟩,qc hD,qb⟩ (λi σ' J hi p=>?_) (λσ' J p=>⟨?_,?_⟩) (λi σ' J hi p x E3 y=>?_)
  ·exact⟨_,_,SqT.of (p.2.1 _ _ ha),z0b hi⟩
  ·exact⟨_,SqT.of (p.2.1 _ _ ha),z3j _⟩
  ·obtain⟨_,Y,e⟩:=p;refine⟨D,_,zr,SqL.of e,?_⟩;rw[qe3];exact k J Y
  ·obtain⟨⟨v,rfl⟩,Y,e⟩:=p;obtain⟨rfl,hx⟩:=y;have O:=hx _ (SqT.of (Y _ _ ha));rw[z1m]at O;obtain⟨u,hu,rfl⟩:=z0n.mp O;have ul:=(z06.mp hu).1;refine⟨_,zr,u,zr,Z u (z0x hu),λE4 s4=>?_⟩;refine⟨_,s4 _ _ e,?_,⟨_,zr⟩,(Y.trans s4).set hD,?_⟩
   ·rw[z2h,List.length_replicate];exact small1000 (by lia)
   ·rw[qb,List.replicate_succ',z2n];rfl
def q4g(T:Txt K mg):Def P w K mg base 1 "is_tuple_of_just" ["thing","many"] (λvs H Q _=>∃(a:Addr) (xs:List V) (ds:List PyData),vs=[.ref a,.int xs.length]/\H a=some (.tup xs)/\Dats K H ds xs/\Q (.bl true) H):=by
 refine T.qcl.ok qb7 (λvs H Q E h=>?_) λf cdv A outer s H vs Q E hr h=>?_
 ·obtain⟨a,xs,ds,rfl,_⟩:=h;rfl
 ·obtain⟨a,xs,ds,rfl,ha,hd,k⟩:=h;refine⟨_,(qg (qj (q46 (qw (q3w K) rfl T.q2h q25 (pa_2 (pv 0) (q7s rfl T.q52 q3z))) (q3q (q5x q4z (qw (q1o K) rfl T.b_len q2a (pa_1 (pv 0))) (pv 1) (q1c _)))))),?_⟩;refine⟨_,zr,_,_,_,zr,(.tup (SqT.of ha) hd:Dat K H (.tuple ds) (.ref a)),by decide,_,zr,iteT ?_⟩;refine⟨_,zr,_,_,zr,.inr ⟨_,SqT.of ha,zr⟩,_,zr,zr,?_⟩;show Q (.bl (decide (V.int xs.length=V.int xs.length))) H;rw[z2s rfl];exact k
inductive sp_isfact (K:xA) (vs:List V) (H:Hp) (Q:VK) (_x3:XK):Prop
 | mk:∀(e:V×FT),(vs=[e.1])->(FV H e)->(FGood e.2)->(∀H',Same H H'->Q (.bl true) H')->sp_isfact K vs H Q _x3
def qny(T:Txt K mg):Def P w K mg base 5 "is_fact" ["thing"] (sp_isfact K):=by
 refine T.qqn.ok qnu (λvs H Q E h=>?_) λf cdv A outer s H vs Q E hr h=>?_
 ·obtain⟨e,rfl,_⟩:=h;rfl
 ·obtain⟨⟨x,nm,tb,row⟩,rfl,⟨p,q,ep,O,hq⟩,g,k⟩:=h;have ep:x= .ref p:=ep;subst ep;have O:H p=some (.tup [.str nm,.str tb,.ref q]):=O;have hq:H q=some (.tup (row.map kV)):=hq;have on:TxOk (.inr nm):=GoodK.tx (k:= .inr nm) g.nm;have Z:TxOk (.inr tb):=GoodK.tx (k:= .inr tb) g.tb;have Y:∀u∈row,GoodK u:=g.vs;have hd:Dats K H [.str nm,.str tb,.tuple (row.map keyD)] [.str nm,.str tb,.ref q]:= .cons (.str _ on.2) (.cons (.str _ Z.2) (.cons (.tup (SqT.of hq) (q61 λu hu=>q38 (Y u hu).tx)) .nil));refine⟨_,(q1x
   (q18 (q33 (q1z (qh (q4g T) hr rfl (pa_2 (pv 0) qf)))) (qg (qj q4i)) qx)
   (qj (q46 (qh (q6g T) hr rfl (pa_1 (qt (qq K) (pv 0) qf (λ_ _=>rfl)))) (q46 (qh (q6g T) hr rfl (pa_1 (qt (qq K) (pv 0) qf (λ_ _=>rfl)))) (q3q (qh (qq3 T) hr rfl (pa_1 (qt (qq K) (pv 0) qf (λ_ _=>rfl))))))))),?_⟩
  refine⟨_,zr,p,_,_,zr,O,hd,⟨_,zr,q1y rfl ?_⟩⟩;refine⟨_,zr,_,_,_,_,zr,zr,SqT.of O,ql (j:=0) rfl,.inr nm,zr,on,λH1 s1=>?_⟩;rw[show txtK smaS (.inr nm)=true from g.nm];refine⟨_,zr,iteT ?_⟩;refine⟨_,zr,_,_,_,_,zr,zr,SqT.of (s1 _ _ O),ql (j:=1) rfl,.inr tb,zr,Z,λH2 s2=>?_⟩;rw[show txtK smaS (.inr tb)=true from g.tb];have J:=s1.trans s2;refine⟨_,zr,iteT ?_⟩;exact⟨_,zr,_,_,_,_,zr,zr,SqT.of (J _ _ O),ql (j:=2) rfl,q,row,zr,J _ _ hq,g.ln,Y,λH3 s3=>k H3 (J.trans s3)⟩
def q77(p:PR):Prop:=txtB smaS p.1=true/\p.2.length<=4/\∀k∈p.2,GoodK k
theorem natS{H:Hp}:∀{us:List Key} {vs:List V},NAts H (us.map NK.leaf) vs->vs=us.map kV
 | [],vs,h=>by
  rw[z3g,NAts]at h;exact h
 | u::us,vs,h=>by
  rw[z30,NAts]at h;obtain⟨v,vr,rfl,h1,h2⟩:=h;rw[NAt]at h1;rw[h1,natS h2];rfl
theorem qg9{H:Hp}:∀us:List Key,NAts H (us.map NK.leaf) (us.map kV)
 | []=>by rw[z3g,NAts];rfl
 | u::us=>by
  rw[z30,NAts];exact⟨kV u,us.map kV,zr,by rw[NAt],qg9 us⟩
def pr_at{H:Hp}{p:PR}{b:Addr}:NAt H (pN p) (.ref b)↔∃q,H b=some (.tup [.str p.1,.ref q])/\H q=some (.tup (p.2.map kV)):=by
 unfold pN;rw[NAt]
 constructor
 ·rintro ⟨a,vs,e,h1,h2⟩;injection e with e;subst e;rw[NAts]at h2;obtain⟨v,vr,rfl,g1,g2⟩:=h2;rw[NAt]at g1;rw[NAts]at g2;obtain⟨v2,vr2,rfl,g3,g4⟩:=g2;rw[NAts]at g4;rw[NAt]at g3;obtain⟨q,us,rfl,g5,g6⟩:=g3;rw[natS g6]at g5;subst g1 g4;exact⟨q,h1,g5⟩
 ·rintro ⟨q,h1,h2⟩;refine⟨b,_,zr,h1,?_⟩;rw[NAts];refine⟨_,_,rfl,by rw[NAt];rfl,?_⟩;rw[NAts];refine⟨_,_,zr,?_,by rw[NAts]⟩;rw[NAt];exact⟨q,_,zr,h2,qg9 p.2⟩
def Lay(d:Nat)(x:NK):Prop:=x.deep<=d/\x.dat.canLay0=true
theorem qmj{d:Nat}:∀{l:List NK},(∀x∈l,Lay d x)->NK.deeps l<=d/\PyData.canLayAll0 (NK.dats l)=true
 | [],_=>by
  rw[NK.deeps,NK.dats];exact⟨z3m _,zr⟩
 | x::l,h=>by
  obtain⟨h1,h2⟩:=h x (z1c ..);obtain⟨h3,h4⟩:=qmj (l:=l) λy hy=>h y (z0v _ hy);rw[NK.deeps,NK.dats,PyData.canLayAll0,h2,h4];exact⟨Nat.max_le.mpr ⟨h1,h3⟩,zr⟩
def qa9{d:Nat}{l:List NK}(h:∀x∈l,Lay d x):Lay (d+1) (.tup l):=by
 obtain⟨h1,h2⟩:=qmj h;unfold Lay;rw[NK.deep,NK.dat,PyData.canLay0];exact⟨z28 h1,h2⟩
def qav{d:Nat}{t:Key}(h:TxOk t):Lay d (.leaf t):=by
 unfold Lay;rw[NK.deep];refine⟨z3m _,?_⟩;cases t with
 | inl i=>rw[NK.dat];rfl
 | inr z=>rw[NK.dat];exact h.2
def qga{d:Nat}{x y:NK}(h1:Lay d x)(h2:Lay d y):Lay (d+1) (.tup [x,y]):=qa9 (List.forall_mem_cons.mpr ⟨h1,List.forall_mem_singleton.mpr h2⟩)
def qmk{d:Nat}{us:List Key}(h:∀u∈us,TxOk u):Lay (d+1) (.tup (us.map NK.leaf)):=qa9 λx hx=>by
 obtain⟨u,hu,rfl⟩:=z3h.mp hx;exact qav (h u hu)
def qc5{d:Nat}{p:PR}(ht:txtB smaS p.1=true)(h:∀u∈p.2,TxOk u):Lay (d+2) (pN p):=qga (qav (GoodK.tx (k:= .inr p.1) ht)) (qmk h)
def Lay.nok{d:Nat}{x:NK}(h:Lay d x)(hd:d<=7:=by decide):NOk x:=⟨z3d h.1 hd,h.2⟩
def q6h{p:PR}(g:q77 p):NOk (pN p):=(qc5 (d:=0) g.1 λu hu=>(g.2.2 u hu).tx).nok
def valP(kvs:List (PR×V))(p:PR):valV (kvs.map λJ=>(pN J.1,J.2)) (pN p)=valV kvs p:=by
 induction kvs with
 | nil=>rfl
 | cons a r ih=>
  rw[z30];by_cases e:a.1=p
  ·rw[q15 (p:=(pN a.1,a.2)) (congrArg pN e),q15 e]
  ·rw[q26 (p:=(pN a.1,a.2)) (λz=>e (qjd z)),q26 e,ih]
def putP(kvs:List (PR×V))(p:PR)(v:V):putK (kvs.map λJ=>(pN J.1,J.2)) (pN p) v=(putK kvs p v).map λJ=>(pN J.1,J.2):=by
 unfold putK;rw[q2q,q2q,valP];split
 ·rw[z3i,z3i];refine z14 λa _=>?_;show (if pN a.1=pN p then _ else _)=_;by_cases e:a.1=p
  ·rw[if_pos (congrArg pN e)];show _=(λJ:PR×V=>(pN J.1,J.2)) (if a.1=p then (a.1,v) else a);rw[if_pos e]
  ·rw[if_neg (λz=>e (qjd z))];show _=(λJ:PR×V=>(pN J.1,J.2)) (if a.1=p then (a.1,v) else a);rw[if_neg e]
 ·rw[z2n];rfl
def qjq(T:Txt K mg):Def P w K mg base 2 "value_key" ["value"] (λvs H Q _=>∃k:Key,vs=[kV k]/\TxOk k/\∀p H',Same H H'->Q (.ref p) H'):=by
 refine T.qlh.ok qjf (λvs H Q E h=>?_) λf cdv A outer s H vs Q E hr h=>?_
 ·obtain⟨k,rfl,_⟩:=h;rfl
 ·obtain⟨k,rfl,hk,q⟩:=h;refine⟨_,(q1x
   (q18 (q1z (qh (q73 T) hr rfl (pa_1 (pv 0)))) (qg (qj (q13 (pa_3 qf (pv 0) qbj)))) qx)
   (qj (q13 (pa_3 qf qf (pv 0))))),?_⟩
  refine⟨_,zr,_,keyD k,zr,q38 hk,_,zr,?_⟩;cases k with
  | inl i=>exact iteT ⟨_,rfl,by show 3<=sizeLine;decide,λp J=>q p _ (qc J)⟩
  | inr z=>exact iteF ⟨_,rfl,by show 3<=sizeLine;decide,λp J=>q p _ (qc J)⟩
def qnz(T:Txt K mg):Def P w K mg base 3 "row_key" ["row"] (λvs H Q _=>∃(a:Addr) (R:List Key),vs=[.ref a]/\H a=some (.tup (R.map kV))/\(∀k∈R,GoodK k)/\R.length<=4/\∀p H',Same H H'->Q (.ref p) H'):=by
 refine T.qqo.ok qnt (λvs H Q E h=>?_) λf cdv A outer s H vs Q E hr h=>?_
 ·obtain⟨a,R,rfl,_⟩:=h;rfl
 ·obtain⟨a,R,rfl,ha,gR,l4,k⟩:=h;refine⟨_,(qg (qj (q1u (q49 K) rfl T.q52 q3z (pa_1 (q1a (N:=["value"]) (caps:=[none]) rfl (by with_unfolding_all rfl) (q31 K (pv 0)) (λ_ _ _ _ _=>(qi (i:=0) (show (["value"]:xD).Nodup by decide+kernel) rfl (Or.inl rfl))) (λ_ _ _ _ _=>q1r) (λ_ _ _ _ _=>(qh (qjq T) hr rfl (pa_1 (pv 0))))))))),?_⟩;refine⟨_,zr,a,zr,⟨_,SqT.of ha⟩,λD Y=>?_⟩;refine q1d (R.map kV).length (λi σ' H'=>(∃v,σ'=[v])/\Same H H'/\∃rs,H' D=some (.lst rs)/\rs.length=i) ⟨⟨_,zr⟩,qc Y,[],qb,zr⟩ (λi σ' H' hi p=>⟨_,_,SqT.of (p.2.1 _ _ ha),z0b hi⟩) (λσ' H' p=>⟨⟨_,SqT.of (p.2.1 _ _ ha),z3j _⟩,?_⟩) (λi σ' H' hi p x H2 y=>?_)
  ·obtain⟨_,O,rs,e,_⟩:=p;exact⟨_,_,zr,.inl ⟨SqL.of e,λq hq=>k q _ (O.trans (qc hq))⟩⟩
  ·obtain⟨⟨v,rfl⟩,O,rs,e,lr⟩:=p;obtain⟨rfl,hx⟩:=y;have J:=hx _ (SqT.of (O _ _ ha));rw[z1m]at J;obtain⟨kk,hk,rfl⟩:=z0n.mp J;rw[z2h]at hi;exact⟨_,rfl,kk,rfl,(gR kk (z0x hk)).tx,λq H3 s3=>⟨_,s3 _ _ e,small1000 (by lia),⟨_,rfl⟩,(O.trans s3).set Y,_,qb,by rw[z1b,lr];rfl⟩⟩
def ql7(T:Txt K mg):Def P w K mg base 4 "pair_key" ["pair"] (λvs H Q _=>∃(b:Addr) (p:PR),vs=[.ref b]/\NAt H (pN p) (.ref b)/\q77 p/\∀v H',Same H H'->Q v H'):=by
 refine T.qoa.ok ql4 (λvs H Q E h=>?_) λf cdv A outer s H vs Q E hr h=>?_
 ·obtain⟨b,p,rfl,_⟩:=h;rfl
 ·obtain⟨b,p,rfl,hb,g,k⟩:=h;obtain⟨q,h1,h2⟩:=pr_at.mp hb;refine⟨_,(qg (qj (q13 (pa_2 (qt (qq K) (pv 0) qf (λ_ _=>rfl)) (qh (qnz T) hr rfl (pa_1 (qt (qq K) (pv 0) qf (λ_ _=>rfl)))))))),?_⟩;exact⟨_,rfl,_,_,_,_,rfl,rfl,SqT.of h1,ql (j:=0) rfl,_,rfl,_,_,_,_,rfl,rfl,SqT.of h1,ql (j:=1) rfl,q,p.2,rfl,h2,g.2.2,g.2.1,λr H1 s1=>⟨by show 2<=sizeLine;decide,λx hx=>k _ _ (s1.trans (qc hx))⟩⟩
def q9t(P:Program)(w:World)(vs:List V)(H:Hp)(Q:V->Hp->Prop)(d:Addr)(p:PR)(v:V):Prop:=vs=[.ref d]/\DP P w H d [(p,v)]/\q77 p/\∀l b H',Same H H'->H l=none->H' l=some (.lst [.ref b])->NAt H (pN p) (.ref b)->Q (.ref l) H'
inductive sp0_ok_pairs_in_order (P:Program) (w:World) (vs:List V) (H:Hp) (Q:VK) (_x3:XK):Prop
 | mk:∀(d:Addr) (p:PR) (v:V),(q9t P w vs H Q d p v)->sp0_ok_pairs_in_order P w vs H Q _x3
def qcv(T:Txt K mg):Def P w K mg base 7 "pairs_in_order" ["pairs"] (sp0_ok_pairs_in_order P w):=by
 refine T.qee.ok qcu (λvs H Q E h=>?_) λf cdv A outer s H vs Q E hr h=>?_
 ·obtain⟨d,p,v,rfl,_⟩:=h;rfl
 ·obtain⟨d,p,v,rfl,hd,g,k⟩:=h;refine⟨_,(qg (qj (qi1 P w (ql7 T) hr rfl rfl T.qki qh5 rfl (pa_1 (pv 0))))),?_⟩;exact⟨_,zr,d,p,v,zr,hd,λb R hb kk=>⟨b,p,zr,hb,g,kk⟩,λl b H2 s2 h1 h2 hb=>k l b _ (s2.trans (qc h2)) h1 qb hb⟩
def qcw(P:Program)(w:World)(vs:List V)(H:Hp)(Q:V->Hp->Prop)(d:Addr)(p:PR)(v:V):Prop:=vs=[.ref d]/\DP P w H d [(p,v)]/\q77 p/\∀t L q H',Same H H'->H t=none->H L=none->H' t=some (.dK [(.inr p.1,.ref L)])->H' L=some (.lst [.ref q])->H' q=some (.tup (p.2.map kV))->Q (.ref t) H'
inductive sp0_ok_in_tables (P:Program) (w:World) (vs:List V) (H:Hp) (Q:VK) (_x3:XK):Prop
 | mk:∀(d:Addr) (p:PR) (v:V),(qcw P w vs H Q d p v)->sp0_ok_in_tables P w vs H Q _x3
def q8l(T:Txt K mg):Def P w K mg base 8 "in_tables" ["standing"] (sp0_ok_in_tables P w):=by
 refine T.qln.ok q6f (λvs H Q E h=>?_) λf cdv A outer s H vs Q E hr h=>?_
 ·obtain⟨d,p,v,rfl,_⟩:=h;rfl
 ·obtain⟨d,p,v,rfl,hd,g,k⟩:=h;refine⟨_,(q3a
   (qm (i:=1) q6f.nd rfl (Or.inl rfl) q4n)
   (q1k PassesOwn.never rfl (q11 K (qh (qcv T) hr rfl (pa_1 (pv 0)))) (q3g rfl (qv (qi (i:=2) q6f.nd rfl (Or.inl rfl)) (qv (qi (i:=3) q6f.nd rfl (Or.inl rfl)) q1w))) (qg (q1g (q4j z0i z0e z0f q2y (qj1 (pv 1) (pv 2) (q1f q1i) ⟨rfl,rfl,rfl,rfl⟩) (pa_1 (pv 3))))))
   (qj (pv 1))),?_⟩
  refine λD Y=>?_;have s1:=qc (o:=HO.dK []) Y;refine⟨_,zr,d,p,v,zr,hd.same s1,g,λl b H1 s2 hl0 hl hb=>?_⟩;obtain⟨q,h1,h2⟩:=pr_at.mp (hb.same s2);have S1:=s1.trans s2;have J:H1 D=some (.dK []):=s2 _ _ qb;refine⟨l,zr,⟨_,SqL.of hl⟩,q1t (xs:=[.ref b]) (λi σ G=>∃(v2 v3:Option V),σ=[some (.ref d),some (.ref D),v2,v3]/\Same H G/\((i=0/\G=H1)\/ (i=1/\∃L,H L=none/\G D=some (.dK [(.inr p.1,.ref L)])/\G L=some (.lst [.ref q])/\G q=some (.tup (p.2.map kV))/\G l=some (.lst [.ref b])))) ⟨none,none,zr,S1,.inl ⟨zr,zr⟩⟩ (λi σ G _ z=>?_) ?_ ?_⟩
  ·obtain⟨_,_,_,_,⟨_,rfl⟩ | ⟨_,_,_,_,_,_,e⟩⟩:=z
   ·exact SqL.of hl
   ·exact SqL.of e
  ·rintro i x σ G hx ⟨v2,v3,rfl,sg,⟨rfl,rfl⟩ | ⟨rfl,_⟩⟩
   ·cases hx
    refine⟨b,_,zr,SqT.of h1,zr,_,_,zr,_,_,zr,zr,?_⟩;refine⟨_,zr,D,zr,.inl ⟨_,.inl J⟩,_,zr,by decide,λz hz=>?_⟩;have s5:=qc (o:=HO.lst []) hz;have zD:z≠D:=λe=>by rw[e,J]at hz;cases hz
    refine⟨[],.inr p.1,s5 _ _ J,rfl,by decide,(λv ev=>nomatch ev),λ_=>?_⟩;have eD:upd (upd G z (.lst [])) D (.dK (putK [] (.inr p.1) (.ref z))) z=some (.lst []):=by
     rw[qk zD];exact qb
    have O:=S1.free hz;have st:∀{c o},G c=some o->c≠D->upd (upd (upd G z (.lst [])) D (.dK (putK [] (.inr p.1) (.ref z)))) z (.lst [.ref q]) c=some o:=λ{c o} e n=>by
     rw[qk (λh=>by rw[h,hz]at e;cases e),qk n];exact s5 _ _ e
    refine⟨.inl ⟨rfl,_,SqL.of eD⟩,_,rfl,z,[],_,rfl,rfl,eD,by decide,_,_,rfl,((sg.trans s5).set Y).set O,.inr ⟨rfl,z,O,by rw[qk zD.symm];exact qb,qb,st h2 (λh=>by rw[h,J]at h2;cases h2),st hl (λh=>by rw[h,J]at hl;cases hl)⟩⟩
   ·exact absurd (z06.mp hx).1 (z34 1)
  ·rintro σ G ⟨v2,v3,rfl,sg,⟨z,_⟩ | ⟨_,L,Z,e1,e2,e3,_⟩⟩
   ·cases z
   ·exact⟨_,zr,k D L q G sg Y Z e1 e2 e3⟩
def q19(ts:List Key):List Key:=ts.filter (txtK capS)
def q3k(ts:List Key):(q19 ts).length<=ts.length:=z0s ..
def qf7{ts:List Key}{i:Nat}{t:Key}(h:ts[i]? =some t):q19 (ts.take (i+1))=q19 (ts.take i)++(if txtK capS t=true then [t] else []):=by
 unfold q19;rw[z2x,h,z1g]
 congr 1
 show List.filter (txtK capS) [t]=_;by_cases c:txtK capS t=true
 ·rw[if_pos c,List.filter_cons_of_pos c];rfl
 ·rw[if_neg c,List.filter_cons_of_neg c];rfl
theorem qcr{K:xA}{H:Hp}:∀{us:List Key},(∀u∈us,TxOk u)->Dats K H (us.map keyD) (us.map kV)
 | [],_=> .nil
 | u::us,h=> .cons (q38 (h u (z1c ..))) (qcr λx hx=>h x (z0v _ hx))
def qe4(us:List Key):PyData.depthAll (us.map keyD)<=0:=by
 induction us with
 | nil=>exact z3j _
 | cons u us ih=>exact Nat.max_le.mpr ⟨by cases u <;> exact z3j _,ih⟩
def inK(us:List Key)(t:Key):Bool:=us.any λu=>decide (u=t)
def qml{us:List Key}{t:Key}:inK us t=true↔t∈us:=by
 unfold inK;rw[z27];exact⟨λ⟨u,hu,e⟩=>by rw[<- of_decide_eq_true e];exact hu,λh=>⟨t,h,z2s rfl⟩⟩
def qx0(u t:Key):PyData.eqv (keyD u) (keyD t)=decide (u=t):=by
 cases u with
 | inl i=>
  cases t with
  | inl j=>
   show decide (i=j)=_;exact decide_eq_decide.mpr ⟨λh=>by rw[h],λh=>by injection h⟩
  | inr z=>exact(z2d (λh=>by cases h)).symm
 | inr x=>
  cases t with
  | inl j=>exact(z2d (λh=>by cases h)).symm
  | inr z=>
   show PyData.eqv (.str x) (.str z)=_;rw[qur];exact decide_eq_decide.mpr ⟨λh=>by rw[h],λh=>by injection h⟩
def qq4(us:List Key)(t:Key):((us.map keyD).any λy=>PyData.eqv y (keyD t))=inK us t:=by
 unfold inK;rw[List.any_map]
 congr 1
 funext u
 exact qx0 u t
def qjr(ks ts:List Key):Bool:=(q19 ts).all (inK ks)
inductive sp_vin (K:xA) (vs:List V) (H:Hp) (Q:VK) (_x3:XK):Prop
 | mk:∀(a:Addr) (ts:List Key),(vs=[.ref a])->(SqT K H a (ts.map kV))->((∀t∈ts,TxOk t))->(ts.length<=100)->(∀L H',Same H H'->H L=none->H' L=some (.lst ((q19 ts).map kV))->Q (.ref L) H')->sp_vin K vs H Q _x3
def q2f(T:Txt K mg):Def P w K mg base 3 "variables_in" ["terms"] (sp_vin K):=by
 refine T.qgr.ok qf1 (λvs H Q E h=>?_) λf cdv A outer s H vs Q E hr h=>?_
 ·obtain⟨a,ts,rfl,_⟩:=h;rfl
 ·obtain⟨a,ts,rfl,Z,hok,hl,k⟩:=h;refine⟨_,(qg (qj (q1a (N:=["term"]) (caps:=[none]) rfl (by with_unfolding_all rfl) (q31 K (pv 0)) (λ_ _ _ _ _=>(qi (i:=0) (show (["term"]:xD).Nodup by decide+kernel) rfl (Or.inl rfl))) (λ_ _ _ _ _=>q87 (q1z (qh (qc4 T) hr rfl (pa_1 (pv 0))))) (λ_ _ _ _ _=>(pv 0))))),?_⟩;refine⟨_,zr,a,zr,⟨_,Z⟩,λD hD=>?_⟩;refine q1d (ts.map kV).length (λi σ' H'=>(∃v,σ'=[v])/\Same H H'/\H' D=some (.lst ((q19 (ts.take i)).map kV))) ⟨⟨_,zr⟩,qc hD,qb⟩ (λi σ' H' hi p=>?_) (λσ' H' p=>⟨?_,?_⟩) (λi σ' H' hi p x H2 y=>?_)
  ·obtain⟨_,J,_⟩:=p;exact⟨_,_,J.seqT Z,z0b hi⟩
  ·obtain⟨_,J,_⟩:=p;exact⟨_,J.seqT Z,z3j _⟩
  ·obtain⟨_,J,e⟩:=p;rw[z2h,z2b]at e;exact k D H' J hD e
  ·obtain⟨⟨v,rfl⟩,J,e⟩:=p;obtain⟨rfl,hx⟩:=y;have Y:=hx _ (J.seqT Z);rw[z1m]at Y;obtain⟨t,O,rfl⟩:=z0n.mp Y;refine⟨_,zr,t,zr,hok t (z0x O),λH3 s3=>⟨_,zr,ite2 (λh1=>?_) (λh1=>?_)⟩⟩
   ·refine⟨_,zr,_,s3 _ _ e,?_,⟨_,zr⟩,(J.trans s3).set hD,?_⟩
    ·have:=q3k (ts.take i);rw[z1y]at this;rw[z2h];exact z1e (show _ < 1000 by lia) (by decide)
    ·rw[qb,qf7 O,if_pos h1,z2n];rfl
   ·refine⟨⟨_,zr⟩,J.trans s3,?_⟩;rw[qf7 O,if_neg h1,z2i];exact s3 _ _ e
inductive sp_known (K:xA) (vs:List V) (H:Hp) (Q:VK) (_x3:XK):Prop
 | mk:∀(a:Addr) (L:Addr) (ts:List Key) (ks:List Key),(vs=[.ref a,.ref L])->(SqT K H a (ts.map kV))->((∀t∈ts,TxOk t))->(ts.length<=100)->(H L=some (.lst (ks.map kV)))->((∀t∈ks,TxOk t))->(∀H',Same H H'->Q (.bl (qjr ks ts)) H')->sp_known K vs H Q _x3
def q4u(T:Txt K mg):Def P w K mg base 4 "are_known" ["terms","known"] (sp_known K):=by
 refine T.qlb.ok qjj (λvs H Q E h=>?_) λf cdv A outer s H vs Q E hr h=>?_
 ·obtain⟨a,L,ts,ks,rfl,_⟩:=h;rfl
 ·obtain⟨a,L,ts,ks,rfl,ht,hok,hl,hL,a1,k⟩:=h;refine⟨_,(qg (qj (qw (q2z rfl K) rfl T.b_all q5g (pa_1 (q1a (N:=["variable","known"]) (caps:=[none,some 1]) rfl (by with_unfolding_all rfl) (q11 K (qh (q2f T) hr rfl (pa_1 (pv 0)))) (λ_ _ _ _ _=>(qi (i:=0) (show (["variable","known"]:xD).Nodup by decide+kernel) rfl (Or.inl rfl))) (λ_ _ _ _ _=>q1r) (λ_ _ _ _ _=>(q5x (qg2 hr.units K) (pv 0) (pv 1) (by with_unfolding_all rfl)))))))),?_⟩;refine⟨_,zr,a,ts,zr,ht,hok,hl,λV1 H1 s1 hV0 Z=>?_⟩;have vl:=q3k ts;refine⟨V1,zr,⟨_,SqL.of Z⟩,λD hD=>?_⟩;refine q1d ((q19 ts).map kV).length (λi σ' H'=>(∃v,σ'=[v,some (.ref L)])/\Same H1 H'/\H' D=some (.lst ((((q19 ts).take i).map (inK ks)).map V.bl))) ⟨⟨_,zr⟩,qc hD,qb⟩ (λi σ' H' hi p=>?_) (λσ' H' p=>⟨?_,?_⟩) (λi σ' H' hi p x H2 y=>?_)
  ·obtain⟨_,J,_⟩:=p;exact⟨_,_,SqL.of (J _ _ Z),z0b hi⟩
  ·obtain⟨_,J,_⟩:=p;exact⟨_,SqL.of (J _ _ Z),z3j _⟩
  ·obtain⟨_,J,e⟩:=p;rw[z2h,z2b]at e;refine⟨D,_,zr,SqL.of e,?_⟩;have:=k H' (s1.trans J);rw[List.all_map];exact this
  ·obtain⟨⟨v,rfl⟩,J,e⟩:=p;obtain⟨rfl,hx⟩:=y;have Y:=hx _ (SqL.of (J _ _ Z));rw[z1m]at Y;obtain⟨t,O,rfl⟩:=z0n.mp Y;have ot:TxOk t:=hok t (z2e.mp (z0x O)).1;refine⟨_,zr,_,zr,keyD t,ks.map keyD,q38 ot,.lst (SqL.of (J _ _ (s1 _ _ hL))) (qcr a1),z3d (qe4 ks) (by decide),?_⟩;rw[qq4];refine⟨_,e,?_,⟨_,zr⟩,J.set hD,?_⟩
   ·rw[z2h,z2h,z1y];exact z1e (show _ < 1000 by lia) (by decide)
   ·rw[qb,z2x,O,z2n,z2n];rfl
structure One (t:Str) (R ts:List Key):Prop where
 nm:txtB smaS t=true
 gR:∀k∈R,GoodK k
 lR:R.length<=4
 tm:ts=R\/ (ts.length=R.length/\ts.Nodup/\∀u∈ts,txtK capS u=true)
def vK:V->Key
 | .int i=> .inl i
 | .str z=> .inr z
 | _=> .inl 0
def qt4:∀u:Key,vK (kV u)=u
 | .inl _=>rfl
 | .inr _=>rfl
def mKey(sh:List Key)(bk:List (Key×V)):List Key:=sh.map λt=>vK (tv bk t)
def qx1{bk:List (Key×V)}(h:AllK bk)(t:Key):tv bk t=kV (vK (tv bk t)):=by
 obtain⟨j,e⟩:=h.get t;have e':tv bk t=kV j:=e;rw[e',qt4]
def qgb{bk:List (Key×V)}(h:AllK bk)(J:List Key):J.map (tv bk)=(mKey J bk).map kV:=by
 unfold mKey;rw[z3i];exact z14 λt _=>qx1 h t
def AllK.step{kvs k2:List (Key×V)}{t v:Key}(h:AllK kvs)(e:q1m kvs t v=some k2):AllK k2:=by
 unfold q1m at e;split at e
 ·cases e
  exact h.put t v
 ·cases e
theorem AllK.all:∀{l:List (Key×Key)} {kvs k2:List (Key×V)},AllK kvs->mAll kvs l=some k2->AllK k2
 | [],_,_,h,e=>by cases e;exact h
 | p::l,kvs,k2,h,e=>by
  have e':(q1m kvs p.1 p.2).bind (λk=>mAll k l)=some k2:=e;cases q:q1m kvs p.1 p.2 with
  | none=>rw[q]at e';cases e'
  | some k=>rw[q]at e';exact AllK.all (h.step q) e'
def OnlyV(k:List (Key×V)):Prop:=∀t v,valV k t=some v->txtK capS t=true
def OnlyV.nil:OnlyV []:=λ_ _ e=>nomatch e
def q8m(k:List (Key×V))(t v s:Key):valV (mPut k t v) s=if s=t/\txtK capS t=true/\valV k t=none then some (kV v) else valV k s:=by
 unfold mPut;by_cases h:txtK capS t=true/\valV k t=none
 ·rw[if_pos h,q6p];by_cases e:s=t
  ·rw[if_pos e,if_pos ⟨e,h⟩]
  ·rw[if_neg e,if_neg (λz=>e z.1)]
 ·rw[if_neg h,if_neg (λz=>h z.2)]
def q9a{k k2:List (Key×V)}{t v:Key}(h:q1m k t v=some k2):k2=mPut k t v/\Wy.tv k2 t=kV v:=by
 unfold q1m at h;split at h
 ·rename_i q;cases h
  exact⟨zr,q⟩
 ·cases h
def qs0{k:List (Key×V)}{t v:Key}(h:Wy.tv (mPut k t v) t=kV v):q1m k t v=some (mPut k t v):=if_pos h
def OnlyV.step{k k2:List (Key×V)}{t v:Key}(o:OnlyV k)(h:q1m k t v=some k2):OnlyV k2:=λs x e=>by
 rw[(q9a h).1,q8m]at e;split at e
 ·rename_i q;rw[q.1];exact q.2.1
 ·exact o s x e
theorem OnlyV.all:∀{l:List (Key×Key)} {k k2:List (Key×V)},OnlyV k->mAll k l=some k2->OnlyV k2
 | [],_,_,o,h=>by cases h;exact o
 | p::l,k,k2,o,h=>by
  have e':(q1m k p.1 p.2).bind (λk=>mAll k l)=some k2:=h;cases q:q1m k p.1 p.2 with
  | none=>rw[q]at e';cases e'
  | some k3=>rw[q]at e';exact OnlyV.all (o.step q) e'
theorem qhi:∀{l:List (Key×Key)} {k k2:List (Key×V)} {t:Key} {x:V},mAll k l=some k2->valV k t=some x->valV k2 t=some x
 | [],_,_,_,_,h,e=>by cases h;exact e
 | p::l,k,k2,t,x,h,e=>by
  have e':(q1m k p.1 p.2).bind (λk=>mAll k l)=some k2:=h;cases q:q1m k p.1 p.2 with
  | none=>rw[q]at e';cases e'
  | some k3=>
   rw[q]at e';refine qhi (l:=l) (k:=k3) e' ?_;rw[(q9a q).1,q8m,if_neg]
   ·exact e
   ·rintro ⟨rfl,_,z⟩;rw[e]at z;cases z
def qut{k:List (Key×V)}{t:Key}(o:OnlyV k)(c:¬ txtK capS t=true):Wy.tv k t=kV t:=by
 unfold Wy.tv;cases q:valV k t with
 | none=>rfl
 | some x=>exact absurd (o t x q) c
theorem qgc:∀{l:List (Key×Key)} {k k2:List (Key×V)} {t v:Key},OnlyV k->mAll k l=some k2->(t,v)∈l->txtK capS t=true->valV k2 t=some (kV v)
 | [],_,_,_,_,_,_,m,_=>nomatch m
 | p::l,k,k2,t,v,o,h,m,c=>by
  have e':(q1m k p.1 p.2).bind (λk=>mAll k l)=some k2:=h;cases q:q1m k p.1 p.2 with
  | none=>rw[q]at e';cases e'
  | some k3=>
   rw[q]at e';rcases z32.mp m with rfl | m
   ·refine qhi (l:=l) (k:=k3) e' ?_;obtain⟨e3,J⟩:=q9a q;have J:(valV k3 t).getD (kV t)=kV v:=J;cases z:valV k3 t with
    | some x=>
     rw[z]at J;exact congrArg some J
    | none=>
     rw[e3,q8m]at z;split at z
     ·cases z
     ·rename_i w;exact absurd ⟨zr,c,z⟩ w
   ·exact qgc (l:=l) (o.step q) e' m c
def NdK(k:List (Key×V)):Prop:=(k.map (·.1)).Nodup
theorem NdK.all:∀{l:List (Key×Key)} {k k2:List (Key×V)},NdK k->mAll k l=some k2->NdK k2
 | [],_,_,n,h=>by cases h;exact n
 | p::l,k,k2,n,h=>by
  have e':(q1m k p.1 p.2).bind (λk=>mAll k l)=some k2:=h;cases q:q1m k p.1 p.2 with
  | none=>rw[q]at e';cases e'
  | some k3=>
   rw[q]at e';refine NdK.all (l:=l) (k:=k3) ?_ e';rw[(q9a q).1];unfold mPut;split
   ·rename_i w;exact qm2 _ n w.2
   ·exact n
def qq5(x:Key)(y:V)(r:List (Key×V))(t:Key):valV ((x,y)::r) t=if x=t then some y else valV r t:=by
 unfold valV;by_cases h:x=t
 ·rw[if_pos h,List.find?_cons_of_pos (by simpa using h)];rfl
 ·rw[if_neg h,List.find?_cons_of_neg (by simpa using h)]
def qs1{r:List (Key×V)}{t:Key}(h:t∉r.map (·.1)):valV r t=none:=by
 cases q:valV r t with
 | none=>rfl
 | some x=>exact absurd (z3h.mpr ⟨_,qq0 q,rfl⟩) h
theorem qf8:∀{b:List (Key×V)} {k:List (Key×V)},NdK b->∀t,valV (q35 k b) t=(valV b t).or (valV k t)
  | [],_,_,_=>rfl
  | (x,y)::r,k,n,t=>by
    have n':(x::r.map (·.1)).Nodup:=n;obtain⟨n1,n2⟩:=z2j.mp n';show valV (q35 (putK k x y) r) t=_;rw[qf8 (b:=r) n2 t,q6p,qq5];by_cases h:x=t
    · subst h
      rw[if_pos rfl,if_pos rfl,qs1 n1];rfl
    · rw[if_neg h,if_neg (λz=>h z.symm)]
theorem qjs:∀{l:List (Key×Key)} {kvs k2:List (Key×V)},mAll kvs l=some k2->k2.length<=kvs.length+l.length
 | [],_,_,e=>by cases e;exact z3j _
 | p::l,kvs,k2,e=>by
  have e':(q1m kvs p.1 p.2).bind (λk=>mAll k l)=some k2:=e;cases q:q1m kvs p.1 p.2 with
  | none=>rw[q]at e';cases e'
  | some k=>
   rw[q]at e';have h1:=qjs (l:=l) (kvs:=k) e';have h2:=qdj kvs p.1 p.2;unfold q1m at q;split at q
   ·cases q
    rw[z20]
    lia
   ·cases q
theorem qhj:∀{l:List Key},(∀k∈l,GoodK k)->mAll [] (l.zip l)=some []
 | [],_=>rfl
 | k::l,h=>by
  have hk:=(h k (z1c ..)).no;have ih:=qhj (l:=l) λx hx=>h x (z0v _ hx);show (q1m [] k k).bind (λb=>mAll b (l.zip l))=some [];have e:mPut [] k k=[]:=by
   unfold mPut;rw[hk];exact if_neg (λz=>nomatch z.1)
  have e2:q1m [] k k=some []:=by
   unfold q1m;rw[e];exact if_pos rfl
  rw[e2];exact ih
theorem qhk:∀{l m:List Key} {k:List (Key×V)},l.Nodup->(∀u∈l,txtK capS u=true)->(∀u∈l,valV k u=none)->∃b,mAll k (l.zip m)=some b
 | [],_,k,_,_,_=>⟨k,rfl⟩
 | _::_,[],k,_,_,_=>⟨k,rfl⟩
 | u::l,v::m,k,nd,O,hn=>by
  obtain⟨n1,n2⟩:=z2j.mp nd;have e:valV (mPut k u v) u=some (kV v):=by
   rw[q8m,if_pos ⟨rfl,O u (z1c ..),hn u (z1c ..)⟩]
  have e2:q1m k u v=some (mPut k u v):=qs0 (by unfold Wy.tv;rw[e];rfl);obtain⟨b,hb⟩:=qhk (l:=l) (m:=m) (k:=mPut k u v) n2 (λx J=>O x (z0v _ J)) λx J=>by
   rw[q8m,if_neg (λz=>n1 (by rw[<- z.1];exact J))];exact hn x (z0v _ J)
  refine⟨b,?_⟩;show (q1m k u v).bind (λb=>mAll b (l.zip m))=some b;rw[e2];exact hb
section
variable{t:Str}{R ts:List Key}{b b2:List (Key×V)}
def One.len(h:One t R ts):ts.length=R.length:=h.tm.elim (λe=>by rw[e]) λe=>e.1
def One.l4(h:One t R ts):ts.length<=4:=by rw[h.len];exact h.lR
theorem One.tx(h:One t R ts):∀u∈ts,TxOk u:=λu hu=>h.tm.elim (λe=>(h.gR u (e ▸ hu)).tx) λe=>(qq2 (e.2.2 u hu)).tx
def One.bx(h:One t R ts):∃b,mAll [] (ts.zip R)=some b:=h.tm.elim (λe=>⟨[],by rw[e];exact qhj h.gR⟩) λe=>qhk e.2.1 e.2.2 λ_ _=>rfl
def bdK(R ts:List Key):List (Key×V):=(mAll [] (ts.zip R)).getD []
def One.bd(h:One t R ts):mAll [] (ts.zip R)=some (bdK R ts):=by
 obtain⟨b,e⟩:=h.bx;unfold bdK;rw[e];rfl
theorem One.all(h:One t R ts):AllK (bdK R ts):=AllK.all (kvs:=[]) (λ_ z=>nomatch z) h.bd
def One.bl(h:One t R ts):(bdK R ts).length<=4:=by
 have:=qjs h.bd;have:=h.l4;rw[List.length_zip,z2l] at*
 lia
def One.put(h:One t R ts)(e:∀u,valV b2 u=valV (bdK R ts) u):ts.map (Wy.tv b2)=R.map kV:=by
  have ov:=OnlyV.nil.all h.bd;refine List.ext_getElem (by rw[z2h,z2h,h.len]) λi h1 h2=>?_;rw[z2h]at h1 h2;rw[List.getElem_map,List.getElem_map];have eq:Wy.tv b2 ts[i]=Wy.tv (bdK R ts) ts[i]:=by
    unfold Wy.tv;rw[e]
  rw[eq];rcases h.tm with e1 | ⟨_,_,e3⟩
  · subst e1
    exact qut ov (by rw[(h.gR _ (z22 h1)).no];exact z19)
  · have hz:(ts[i],R[i])∈ts.zip R:=by
      have hl:i < (ts.zip R).length:=by rw[List.length_zip];lia
      have:=z22 hl;rw[List.getElem_zip]at this;exact this
    unfold Wy.tv;rw[qgc OnlyV.nil h.bd hz (e3 _ (z22 h1))];rfl
def One.put2(h:One t R ts):ts.map (Wy.tv (q35 [] (bdK R ts)))=R.map kV:=h.put λu=>by
 rw[qf8 (NdK.all (k:=[]) z2w h.bd)];cases valV (bdK R ts) u <;> rfl
def rK(t:Str)(ts:List Key):NK:= .tup [pN (t,ts),.tup [pN (t,ts)],.tup []]
def ru_at{H:Hp}{r:Addr}:NAt H (rK t ts) (.ref r)↔∃p l c p2,H r=some (.tup [.ref p,.ref l,.ref c])/\NAt H (pN (t,ts)) (.ref p)/\H l=some (.tup [.ref p2])/\NAt H (pN (t,ts)) (.ref p2)/\H c=some (.tup []):=by
 unfold rK;rw[NAt]
 constructor
 ·rintro ⟨a,vs,e,h1,h2⟩;injection e with e;subst e;rw[NAts]at h2;obtain⟨v,vr,rfl,g1,g2⟩:=h2;rw[NAts]at g2;obtain⟨v2,vr2,rfl,g3,g4⟩:=g2;rw[NAts]at g4;obtain⟨v3,vr3,rfl,g5,J⟩:=g4;rw[NAts]at J;subst J;rw[NAt]at g3 g5;obtain⟨l,us,rfl,k1,k2⟩:=g3;rw[NAts]at k2;obtain⟨w,wr,rfl,k3,O⟩:=k2;rw[NAts]at O;subst O;obtain⟨c,us,rfl,k5,Y⟩:=g5;rw[NAts]at Y;subst Y;have q1:=g1;have q2:=k3;unfold pN at q1 q2;rw[NAt]at q1 q2;obtain⟨p,_,rfl,_⟩:=q1;obtain⟨p2,_,rfl,_⟩:=q2;exact⟨p,l,c,p2,h1,g1,k1,k3,k5⟩
 ·rintro ⟨p,l,c,p2,h1,h2,h3,h4,h5⟩;refine⟨r,_,zr,h1,?_⟩;rw[NAts];refine⟨_,_,zr,h2,?_⟩;rw[NAts];refine⟨_,_,zr,?_,?_⟩
  ·rw[NAt];refine⟨l,_,zr,h3,?_⟩;rw[NAts];exact⟨_,_,zr,h4,by rw[NAts]⟩
  ·rw[NAts];refine⟨_,_,zr,?_,by rw[NAts]⟩;rw[NAt];exact⟨c,_,zr,h5,by rw[NAts]⟩
end
theorem qe5{α:Type}[DecidableEq α]:∀{l m:List α},l.Nodup->(∀x∈l,x∈m)->l.length<=m.length
 | [],_,_,_=>z3m _
 | x::l,m,h,J=>by
  obtain⟨h1,h2⟩:=z2j.mp h;have O:=J x (z1c ..);have ih:=qe5 (m:=m.erase x) h2 λy hy=>(List.mem_erase_of_ne (λe:y=x=>h1 (e ▸ hy))).mpr (J y (z0v _ hy));rw[List.length_erase_of_mem O]at ih;have:0 < m.length:=List.length_pos_of_mem O;rw[z20]
  lia
theorem qjt{f:Str}{v:V}:∀{fs:List (Str×V)} (ns:xD),fs.map (·.1)=ns->ns.contains f=false->putF f v fs=fs++ [(f,v)]
  | [],_,_,_=>rfl
  | (g,x)::r,[],e,_=>nomatch e
  | (g,x)::r,n::ns,e,h=>by
    injection e with e1 e2;have e1:g=n:=e1;rw[List.contains_cons,Bool.or_eq_false_iff]at h;have ne:¬ g=f:=λz=>by
      rw[<- e1,z]at h;simp at h
    show (if g=f then (g,v)::r else (g,x)::putF f v r)=_;rw[if_neg ne,qjt ns e2 h.2];rfl
def q1j{K:xA}{J H1:Hp}{p C dx:Addr}{fs:List (Str×V)}{f:Str}{y:V}{N:L2.St->Hp->Prop}{σ:L2.St}(ns:xD)(S1:Same J H1)(O:J p=none)(hp:H1 p=some (.ins C dx fs))(hc:Cls K C)(hn:NoAttr K C f)(hl:fs.length < 1000)(e:fs.map (·.1)=ns)(nw:ns.contains f=false)
  (h:∀H2,Same J H2->H2 p=some (.ins C dx (fs++ [(f,y)]))->(∀a o,a≠p->H1 a=some o->H2 a=some o)->N σ H2):
  ∃a C dx fs,V.ref p= .ref a/\H1 a=some (.ins C dx fs)/\Cls K C/\NoAttr K C f/\fs.length < 1000/\N σ (upd H1 a (.ins C dx (putF f y fs))):=
 ⟨p,C,dx,fs,rfl,hp,hc,hn,hl,h _ (S1.set O) (by rw[qb,qjt ns e nw]) λa o n z=>by rw[qk n];exact z⟩
def q7w(K:xA)(vs:List V)(H:Hp)(Q:V->Hp->Prop)(b p:Addr)(t:Str)(ts:List Key):Prop:=vs=[.ref b]/\SqT K H b [.ref p]/\NAt H (pN (t,ts)) (.ref p)/\(∀u∈ts,TxOk u)/\ts.length<=4/\∀L H',Same H H'->H L=none->H' L=some (.lst ((q19 ts).map kV))->Q (.ref L) H'
inductive sp0_ok_variables_of_body (K:xA) (vs:List V) (H:Hp) (Q:VK) (_x3:XK):Prop
 | mk:∀(b:Addr) (p:Addr) (t:Str) (ts:List Key),(q7w K vs H Q b p t ts)->sp0_ok_variables_of_body K vs H Q _x3
def q6i(T:Txt K mg):Def P w K mg base 4 "variables_of_body" ["body"] (sp0_ok_variables_of_body K):=by
 refine T.qbd.ok q2v (λvs H Q E h=>?_) λf cdv A outer s H vs Q E hr h=>?_
 ·obtain⟨b,p,t,ts,rfl,_⟩:=h;rfl
 ·obtain⟨b,p,t,ts,rfl,hb,hp,ok,l4,k⟩:=h;refine⟨_,(q3a
   (qm (i:=1) q2v.nd rfl (Or.inl rfl) (q1f q1i))
   (q1k PassesOwn.never rfl (q31 K (pv 0)) (q3g rfl (qv (qi (i:=2) q2v.nd rfl (Or.inl rfl)) (qv (qi (i:=3) q2v.nd rfl (Or.inl rfl)) q1w))) (qg (q1g (q4j z0i z0c z0d q74 (pv 1) (pa_1 (qh (q2f T) hr rfl (pa_1 (pv 3))))))))
   (qj (pv 1))),?_⟩
  refine⟨by decide,λL O=>?_⟩;have s1:=qc (o:=HO.lst []) O;refine⟨_,rfl,b,rfl,⟨_,s1.seqT hb⟩,qlt (xs:=[.ref p]) (λi σ G=>∃v2 v3:Option V,σ=[some (.ref b),some (.ref L),v2,v3]/\Same H G/\G L=some (.lst (if i=0 then [] else (q19 ts).map kV))) ⟨none,none,rfl,s1,qb⟩ (λi σ G _ p=>by obtain⟨_,_,_,z,_⟩:=p;exact z.seqT hb) ?_ ?_⟩
  ·rintro i x σ G Y ⟨v2,v3,rfl,J,hl⟩;obtain rfl:i=0:=Nat.lt_one_iff.mp (z06.mp Y).1;cases Y
   obtain⟨q,h1,h2⟩:=pr_at.mp (hp.same J);have vl:=q3k ts;refine⟨p,_,zr,SqT.of h1,zr,_,_,zr,_,_,zr,zr,?_⟩;refine⟨_,zr,.inl ⟨zr,_,SqL.of hl⟩,_,zr,q,ts,zr,SqT.of h2,ok,by lia,λL2 H2 Z _ h2=>?_⟩;exact⟨L,L2,_,_,rfl,rfl,Z _ _ hl,h2,by show 0+_<=_;rw[z2h];exact z3d (show _<=1000 by lia) (by decide),_,_,rfl,(J.trans Z).set O,qb⟩
  ·rintro σ G ⟨v2,v3,rfl,J,hl⟩;exact⟨_,zr,k L G J O hl⟩
def q5t(T:Txt K mg):Def P w K mg base 5 "choices_known" ["choices","known"] (λvs H Q _=>∃(a:Addr) (y:V),vs=[.ref a,y]/\H a=some (.tup [])/\∀D H',Same H H'->H D=none->H' D=some (.lst [])->Q (.ref D) H'):=by
 refine T.qfg.ok qdy (λvs H Q E h=>?_) λf cdv A outer s H vs Q E hr h=>?_
 ·obtain⟨a,y,rfl,_⟩:=h;rfl
 ·obtain⟨a,y,rfl,ha,k⟩:=h;refine⟨_,(qg (qj (q1a (N:=["choice","known"]) (caps:=[none,some 1]) rfl (by with_unfolding_all rfl) (q31 K (pv 0)) (λ_ _ _ _ _=>(qi (i:=0) (show (["choice","known"]:xD).Nodup by decide+kernel) rfl (Or.inl rfl))) (λ_ _ _ _ _=>q87 (q1z (qh (q4u T) hr rfl (pa_2 (q34 (q81 K) (pv 0) (q3s qf) q3r) (pv 1))))) (λ_ _ _ _ _=>(pv 0))))),?_⟩;refine⟨_,zr,a,zr,⟨_,SqT.of ha⟩,λD J=>?_⟩;exact q1d 0 (λi σ' G=>G=upd H D (.lst [])) rfl (λi σ' G hi p=>absurd hi (Nat.not_lt_zero _)) (λσ' G e=>by subst e;exact⟨⟨_,SqT.of (qc J _ _ ha),z3j _⟩,k D _ (qc J) J qb⟩) (λi σ' G hi p x H2 y=>absurd hi (Nat.not_lt_zero _))
def qb8(vs:List V)(H:Hp)(Q:V->Hp->Prop)(a:Addr)(x y:V):Prop:=vs=[.ref a,x,y]/\H a=some (.tup [])/\∀D H',Same H H'->H D=none->H' D=some (.lst [])->Q (.ref D) H'
inductive sp0_ok_choices_due (vs:List V) (H:Hp) (Q:VK) (_x3:XK):Prop
 | mk:∀(a:Addr) (x:V) (y:V),(qb8 vs H Q a x y)->sp0_ok_choices_due vs H Q _x3
def qgd(T:Txt K mg):Def P w K mg base 6 "choices_due" ["choices","ahead","known"] (sp0_ok_choices_due):=by
 refine T.qi9.ok qg6 (λvs H Q E h=>?_) λf cdv A outer s H vs Q E hr h=>?_
 ·obtain⟨a,x,y,rfl,_⟩:=h;rfl
 ·obtain⟨a,x,y,rfl,ha,k⟩:=h;refine⟨_,(qg (qj (q1a (N:=["choice","ahead"]) (caps:=[none,some 1]) rfl (by with_unfolding_all rfl) (q11 K (qh (q5t T) hr rfl (pa_2 (pv 0) (pv 2)))) (λ_ _ _ _ _=>(qi (i:=0) (show (["choice","ahead"]:xD).Nodup by decide+kernel) rfl (Or.inl rfl))) (λ_ _ _ _ _=>q87 (q33 (q1z (qh (q4u T) hr rfl (pa_2 (q34 (q81 K) (pv 0) (q3s qf) q3r) (pv 1)))))) (λ_ _ _ _ _=>(pv 0))))),?_⟩;refine⟨_,zr,_,zr,a,y,zr,ha,λD1 H1 s1 _ h1=>?_⟩;refine⟨D1,zr,⟨_,SqL.of h1⟩,λD J=>?_⟩;exact q1d 0 (λi σ' G=>G=upd H1 D (.lst [])) rfl (λi σ' G hi p=>absurd hi (Nat.not_lt_zero _)) (λσ' G e=>by subst e;exact⟨⟨_,SqL.of (qc J _ _ h1),z3j _⟩,k D _ (s1.trans (qc J)) (s1.free J) qb⟩) (λi σ' G hi p x H2 y=>absurd hi (Nat.not_lt_zero _))
def qs2(T:Txt K mg):Def P w K mg base 1 "holds" ["choice","binding"] (λ_ _ _ _=>False):=
 T.qvo.ok qry (λvs H Q E h=>h.elim) λf cdv A outer s H vs Q E hr h=>h.elim
def q9u(T:Txt K mg):Def P w K mg base 5 "all_hold" ["choices","binding"] (λvs H Q _=>∃(a:Addr) (y:V),vs=[.ref a,y]/\H a=some (.lst [])/\∀H',Same H H'->Q (.bl true) H'):=by
 refine T.qo9.ok ql5 (λvs H Q E h=>?_) λf cdv A outer s H vs Q E hr h=>?_
 ·obtain⟨a,y,rfl,_⟩:=h;rfl
 ·obtain⟨a,y,rfl,ha,k⟩:=h;refine⟨_,(qg (qj (qw (q2z rfl K) rfl T.b_all q5g (pa_1 (q1a (N:=["choice","binding"]) (caps:=[none,some 1]) rfl (by with_unfolding_all rfl) (q11 K (pv 0)) (λ_ _ _ _ _=>(qi (i:=0) (show (["choice","binding"]:xD).Nodup by decide+kernel) rfl (Or.inl rfl))) (λ_ _ _ _ _=>q1r) (λ_ _ _ _ _=>(qh (qs2 T) hr rfl (pa_2 (pv 0) (pv 1))))))))),?_⟩;refine⟨_,zr,a,zr,⟨_,SqL.of ha⟩,λD J=>?_⟩;exact q1d 0 (λi σ' G=>G=upd H D (.lst [])) rfl (λi σ' G hi p=>absurd hi (Nat.not_lt_zero _)) (λσ' G e=>by subst e;exact⟨⟨_,SqL.of (qc J _ _ ha),z3j _⟩,D,[],rfl,SqL.of qb,k _ (qc J)⟩) (λi σ' G hi p x H2 y=>absurd hi (Nat.not_lt_zero _))
structure StIn (K:xA) (H:Hp) (r L W:Addr) (t:Str) (ts:List Key) (zs:xD) (ws:List Key):Prop where
 ru:NAt H (rK t ts) (.ref r)
 tx:∀u∈ts,TxOk u
 l4:ts.length<=4
 at_:H L=some (.lst (zs.map V.str))
 zx:∀z∈zs,TxOk (.inr z)
 zl:zs.length<=4
 wt:H W=some (.lst (ws.map kV))
 wx:∀u∈ws,TxOk u
 wl:ws.length<=4
theorem StIn.same{H H':Hp}{r L W:Addr}{t:Str}{ts J:List Key}{zs:xD}(s:Same H H')(h:StIn K H r L W t ts zs J):StIn K H' r L W t ts zs J:=⟨h.ru.same s,h.tx,h.l4,s _ _ h.at_,h.zx,h.zl,s _ _ h.wt,h.wx,h.wl⟩
def qb9(K:xA)(vs:List V)(H:Hp)(Q:V->Hp->Prop)(r L W:Addr)(t:Str)(ts ws:List Key)(zs:xD):Prop:=vs=[.ref r,.int 0,.ref L,.ref W]/\StIn K H r L W t ts zs ws/\∀q (us:xD) H',Same H H'->H' q=some (.tup (us.map V.str))->(∀u∈us,u∈zs)->us.length<=4->Q (.ref q) H'
inductive sp0_ok_asked_later (K:xA) (vs:List V) (H:Hp) (Q:VK) (_x3:XK):Prop
 | mk:∀(r:Addr) (L:Addr) (W:Addr) (t:Str) (ts:List Key) (ws:List Key) (zs:xD),(qb9 K vs H Q r L W t ts ws zs)->sp0_ok_asked_later K vs H Q _x3
def qge(T:Txt K mg):Def P w K mg base 6 "asked_later" ["rule","place","known","wanted"] (sp0_ok_asked_later K):=by
 refine T.qi8.ok q50 (λvs H Q E h=>?_) λf cdv A outer s H vs Q E hr h=>?_
 ·obtain⟨r,L,W,t,ts,ws,zs,rfl,_⟩:=h;rfl
 ·obtain⟨r,L,W,t,ts,ws,zs,rfl,J,k⟩:=h;refine⟨_,(q3a
   (qm (i:=4) q50.nd rfl (Or.inr rfl) (qy q85 (pv 3) (qh (q6i T) hr rfl (pa_1 (q34 (q81 K) (qt (qq K) (pv 0) qf (λ_ _=>rfl)) (q3s (pv 1)) q3r)))))
   (q1k PassesOwn.never rfl (q31 K (qt (qq K) (pv 0) qf (λ_ _=>rfl))) (qi (i:=5) q50.nd rfl (Or.inl rfl)) (qg (q18 (q33 (q1z (qh (q4u T) hr rfl (pa_2 (q34 (q81 K) (pv 5) (q3s qf) q3r) (pv 2))))) (qg (qm (i:=4) q50.nd rfl (Or.inr rfl) (qy q85 (pv 4) (qh (q2f T) hr rfl (pa_1 (q34 (q81 K) (pv 5) (q3s qf) q3r)))))) qx)))
   (qj (q1u (q49 K) rfl T.q52 q3z (pa_1 (q1a (N:=["variable","later"]) (caps:=[none,some 4]) rfl (by with_unfolding_all rfl) (q11 K (qw (qi0 rfl P w) rfl T.qki qh5 (pa_1 (q1u (qpf rfl P w K) rfl T.b_set qwc (pa_1 (pv 2)))))) (λ_ _ _ _ _=>(qi (i:=0) (show (["variable","later"]:xD).Nodup by decide+kernel) rfl (Or.inl rfl))) (λ_ _ _ _ _=>q87 (q14 (qg2 hr.units K) (pv 0) (pv 1) (by with_unfolding_all rfl))) (λ_ _ _ _ _=>(pv 0))))))),?_⟩
  obtain⟨p,b,c,p2,a1,_,hb,a6,hc⟩:=ru_at.mp J.ru;have l1:=J.l4;have l2:=J.zl;have l3:=J.wl;have vl:=q3k ts;refine⟨_,zr,_,zr,_,_,_,_,zr,zr,SqT.of a1,ql (j:=1) rfl,_,zr,_,zr,b,_,zr,SqT.of hb,λb2 H1 s1 a4=>?_⟩;refine⟨b2,p2,t,ts,zr,a4,a6.same s1,J.tx,J.l4,λV1 H2 s2 _ hV=>?_⟩;have a3:=s1.trans s2;refine⟨_,_,_,_,rfl,rfl,a3 _ _ J.wt,hV,by rw[z2h,z2h];exact z3d (show _<=1000 by lia) (by decide),λl0 a5=>?_⟩;have s3:=qc (o:=HO.lst (ws.map kV++(q19 ts).map kV)) a5;have hl:=qb (H:=H2) (a:=l0) (o:=HO.lst (ws.map kV++(q19 ts).map kV));have S3:=a3.trans s3;generalize upd H2 l0 (.lst (ws.map kV++(q19 ts).map kV))=H3 at*;rw[<- z2n]at hl;have a8:∀u∈ws++q19 ts,TxOk u:=λu hu=>(z2c.mp hu).elim (J.wx u) λh=>J.tx u (z2e.mp h).1;generalize ws++q19 ts=ls at*;refine⟨_,rfl,_,_,_,_,rfl,rfl,SqT.of (S3 _ _ a1),ql (j:=2) rfl,c,rfl,⟨_,SqT.of (S3 _ _ hc)⟩,qlt (xs:=[]) (λi σ G=>σ=[some (.ref r),some (.int 0),some (.ref L),some (.ref W),some (.ref l0),none]/\G=H3) ⟨rfl,rfl⟩ (λi σ G _ p=>by rw[p.2];exact SqT.of (S3 _ _ hc)) (λi x σ G O _=>nomatch O) ?_⟩;rintro σ G ⟨rfl,rfl⟩;refine⟨_,zr,L,zs,zr,.inl (SqL.of (S3 _ _ J.at_)),by lia,λsa ys a7 nd mem=>?_⟩;have sx:=qc (o:=SetH P w sa ys) a7;have ly:=qe5 nd (λx O=>(mem x).mp O);refine⟨sa,ys,zr,qb,by lia,λo ho=>?_⟩;have sy:=qc (o:=HO.lst ((Tim.srt L2.strLt ys).map V.str)) ho;have Y:=qb (H:=upd G sa (SetH P w sa ys)) (a:=o) (o:=HO.lst ((Tim.srt L2.strLt ys).map V.str));have S5:=sx.trans sy;generalize upd (upd G sa (SetH P w sa ys)) o (.lst ((Tim.srt L2.strLt ys).map V.str))=H5 at*;have mm:∀z∈Tim.srt L2.strLt ys,z∈zs:=λz hz=>(mem z).mp ((Tim.q88 L2.strLt ys).mem_iff.mp hz);have len:(Tim.srt L2.strLt ys).length<=4:=by
   rw[(Tim.q88 L2.strLt ys).length_eq]
   lia
  generalize Tim.srt L2.strLt ys=us at*;refine⟨o,zr,⟨_,SqL.of Y⟩,λD hD=>?_⟩;refine q1d (us.map V.str).length (λi σ' H'=>(∃v,σ'=[v,some (.ref l0)])/\Same H5 H'/\∃xs:List Str,H' D=some (.lst (xs.map V.str))/\(∀x∈xs,x∈zs)/\xs.length<=i) ⟨⟨_,rfl⟩,qc hD,[],qb,(λ_ z=>nomatch z),z3j _⟩ (λi σ' H' hi p=>⟨_,_,SqL.of (p.2.1 _ _ Y),z0b hi⟩) (λσ' H' p=>⟨⟨_,SqL.of (p.2.1 _ _ Y),z3j _⟩,?_⟩) (λi σ' H' hi p x H2 y=>?_)
  ·obtain⟨_,Z,xs,e,mx,lx⟩:=p;rw[z2h]at lx;exact⟨_,_,zr,.inl ⟨SqL.of e,λq hq=>k q xs _ (S3.trans (S5.trans (Z.trans (qc hq)))) qb mx (by lia)⟩⟩
  ·obtain⟨⟨v,rfl⟩,Z,xs,e,mx,lx⟩:=p;obtain⟨rfl,O⟩:=y;have a2:=O _ (SqL.of (Z _ _ Y));rw[z1m]at a2;obtain⟨z,hz,rfl⟩:=z0n.mp a2;have mz:=mm z (z0x hz);rw[z2h]at hi;refine⟨_,zr,_,zr,keyD (.inr z),ls.map keyD,q38 (J.zx z mz),.lst (SqL.of ((S5.trans Z) _ _ hl)) (qcr a8),z3d (qe4 ls) (by decide),?_⟩;refine⟨_,zr,ite2 (λ_=>?_) (λ_=>⟨⟨_,zr⟩,Z,xs,e,mx,by lia⟩)⟩;refine⟨_,rfl,_,e,small1000 (by rw[z2h];lia),⟨_,rfl⟩,Z.set hD,xs++ [z],by rw[qb,z2n];rfl,λx O=>?_,by rw[z1b];show _+1<=_;lia⟩;rcases z2c.mp O with O | O
   ·exact mx x O
   ·rw[z1a.mp O];exact mz
def stF(t:Str)(tq rq sq:Addr)(bv:V)(dq aq:Addr):List (Str×V):=[("table",.str t),("terms",.ref tq),("rows",.ref rq),("shared",.ref sq),("by_shared",bv),("due",.ref dq),("asks",.ref aq)]
def shK(ts:List Key)(zs:xD):List Key:=(q19 ts).filter (inK (zs.map Sum.inr))
def qq6(K:xA)(mg:xE)(vs:List V)(H:Hp)(Q:V->Hp->Prop)(H0:Hp)(p dx r tt L W Lr:Addr)(t:Str)(ts ws:List Key)(zs:xD):Prop:=vs=[.ref p,.ref r,.int 0,.ref tt,.ref L,.ref W]/\Same H0 H/\H0 p=none/\H p=some (.ins (cA mg "Step") dx [])/\StIn K H0 r L W t ts zs ws/\H0 tt=some (.dK [(.inr t,.ref Lr)])/\
 ∀tq sq dq aq (us:xD) H',Same H0 H'->H' p=some (.ins (cA mg "Step") dx (stF t tq Lr sq .non dq aq))->H' tq=some (.tup (ts.map kV))->H' sq=some (.tup ((shK ts zs).map kV))->H0 dq=none->H' dq=some (.lst [])->H' aq=some (.tup (us.map V.str))->(∀u∈us,u∈zs)->us.length<=4->Q .non H'
inductive sp_sinit (K:xA) (mg:xE) (vs:List V) (H:Hp) (Q:VK) (_x3:XK):Prop
 | mk:∀(H0:Hp) (p:Addr) (dx:Addr) (r:Addr) (tt:Addr) (L:Addr) (W:Addr) (Lr:Addr) (t:Str) (ts:List Key) (ws:List Key) (zs:xD),(qq6 K mg vs H Q H0 p dx r tt L W Lr t ts ws zs)->sp_sinit K mg vs H Q _x3
def qju(T:Txt K mg):MDef P w K mg base 7 (cA mg "Step") "__init__" ["self","rule","place","tables","known","wanted"] (sp_sinit K mg):=by
 refine T.qlm.ok q8g (λvs H Q E h=>?_) λf cdv A outer s H vs Q E hr h=>?_
 ·obtain⟨H0,p,dx,r,tt,L,W,Lr,t,ts,ws,zs,rfl,_⟩:=h;rfl
 ·obtain⟨H0,p,dx,r,tt,L,W,Lr,t,ts,ws,zs,rfl,s0,J,hp,hI,hT,k⟩:=h;refine⟨_,(qxv
   (qm (i:=6) q8g.nd rfl (Or.inl rfl) (qt (qq K) (qt (qq K) (pv 1) qf (λ_ _=>rfl)) (pv 2) (λ_ _=>rfl)))
   (qm (i:=7) q8g.nd rfl (Or.inl rfl) (qh (q2f T) hr rfl (pa_1 (qt (qq K) (pv 6) qf (λ_ _=>rfl)))))
   (q1h (pv 0) (qt (qq K) (pv 6) qf (λ_ _=>rfl)) rfl)
   (q1h (pv 0) (qt (qq K) (pv 6) qf (λ_ _=>rfl)) rfl)
   (q1h (pv 0) (q6r (q3n hr) (pv 3) (qt (qq K) (pv 6) qf (λ_ _=>rfl)) (q1f q1i) ⟨rfl,rfl,rfl,rfl⟩) rfl)
   (q1h (pv 0) (q1u (q49 K) rfl T.q52 q3z (pa_1 (q1a (N:=["variable","known"]) (caps:=[none,some 4]) rfl (by with_unfolding_all rfl) (q11 K (pv 7)) (λ_ _ _ _ _=>(qi (i:=0) (show (["variable","known"]:xD).Nodup by decide+kernel) rfl (Or.inl rfl))) (λ_ _ _ _ _=>q87 (q14 (qg2 hr.units K) (pv 0) (pv 1) (by with_unfolding_all rfl))) (λ_ _ _ _ _=>(pv 0))))) rfl)
   (q1h (pv 0) q3f rfl)
   (q1h (pv 0) (qh (qgd T) hr rfl (pa_3 (qt (qq K) (pv 1) qf (λ_ _=>rfl)) (pv 4) (qy q85 (pv 4) (pv 7)))) rfl)
   (q1h (pv 0) (qh (qge T) hr rfl (pa_4 (pv 1) (pv 2) (pv 4) (pv 5))) rfl)),?_⟩
  obtain⟨_,b,c,p2,c1,_,hb,a9,hc⟩:=ru_at.mp hI.ru;obtain⟨qe,O,a2⟩:=pr_at.mp a9;have O:H0 p2=some (.tup [.str t,.ref qe]):=O;have a2:H0 qe=some (.tup (ts.map kV)):=a2;have l4:=hI.l4;have l2:=hI.zl;have vl:=q3k ts;refine⟨_,zr,_,_,_,_,zr,zr,SqT.of (s0 _ _ c1),ql (j:=1) rfl,_,zr,_,_,_,_,zr,zr,SqT.of (s0 _ _ hb),ql (j:=0) rfl,?_⟩;refine⟨_,zr,_,_,_,_,zr,zr,SqT.of (s0 _ _ O),ql (j:=1) rfl,qe,ts,zr,SqT.of (s0 _ _ a2),hI.tx,by lia,λV1 H1 s1 hV0 hV=>?_⟩;have S1:=s0.trans s1;have b6:=s1 _ _ hp;have vp:V1≠p:=λz=>by rw[z,b6]at hV;cases hV
  refine⟨_,zr,_,_,_,_,zr,zr,SqT.of (S1 _ _ O),ql (j:=0) rfl,_,zr,?_⟩;refine q1j [] S1 J b6 T.q1s T.qck (by show 0 < 1000;decide) rfl rfl λH2 S2 a9 K2=>?_;have c9:=K2 _ _ vp hV;refine⟨_,zr,_,_,_,_,zr,zr,SqT.of (S2 _ _ O),ql (j:=1) rfl,_,zr,?_⟩;refine q1j ["table"] S2 J a9 T.q1s T.qcf (by show 1 < 1000;decide) rfl (by decide+kernel) λH3 S3 d4 K3=>?_;have d0:=K3 _ _ vp c9;refine⟨_,zr,tt,zr,.inl ⟨_,.inl (S3 _ _ hT)⟩,_,zr,_,_,_,_,zr,zr,SqT.of (S3 _ _ O),ql (j:=0) rfl,by decide,λem d2=>?_⟩;have s4:=qc (o:=HO.lst []) d2;refine⟨_,.inl ⟨_,.inr t,.inl ((S3.trans s4) _ _ hT),zr,zr⟩,_,zr,?_⟩;rw[q15 (p:=((.inr t:Key),V.ref Lr)) rfl];refine q1j ["table","terms"] (S3.trans s4) J (s4 _ _ d4) T.q1s T.qdm (by show 2 < 1000;decide) rfl (by decide+kernel) λH5 S5 d5 K5=>?_;have Y:=K5 _ _ vp (s4 _ _ d0);have hL:∀{H'},Same H0 H'->H' L=some (.lst ((zs.map Sum.inr:List Key).map kV)):=λs=>by
   rw[s _ _ hI.at_,z3i];rfl
  have d9:∀u∈(zs.map Sum.inr:List Key),TxOk u:=λu hu=>by
   obtain⟨z,hz,rfl⟩:=z3h.mp hu;exact hI.zx z hz
  have lz:(zs.map Sum.inr:List Key).length<=4:=by rw[z2h];exact l2
  refine⟨_,zr,V1,zr,⟨_,SqL.of Y⟩,λD hD=>?_⟩;refine q1d ((q19 ts).map kV).length (λi σ' H'=>(∃v,σ'=[v,some (.ref L)])/\Same H5 H'/\H' D=some (.lst ((((q19 ts).take i).filter (inK (zs.map Sum.inr))).map kV))) ⟨⟨_,zr⟩,qc hD,qb⟩ (λi σ' H' hi p=>⟨_,_,SqL.of (p.2.1 _ _ Y),z0b hi⟩) (λσ' H' p=>⟨⟨_,SqL.of (p.2.1 _ _ Y),z3j _⟩,?_⟩) (λi σ' H' hi p x H2 y=>?_)
  ·obtain⟨_,s6,e6⟩:=p;rw[z2h,z2b]at e6;refine⟨_,_,zr,.inl ⟨SqL.of e6,λq hq=>?_⟩⟩;have s7:=s6.trans (qc (o:=HO.tup ((shK ts zs).map kV)) hq);have a7:=qb (H:=H') (a:=q) (o:=HO.tup ((shK ts zs).map kV));have eu:upd H' q (.tup (((q19 ts).filter (inK (zs.map Sum.inr))).map kV))=upd H' q (.tup ((shK ts zs).map kV)):=rfl;rw[eu];generalize upd H' q (.tup ((shK ts zs).map kV))=H7 at*;have b9:=s7 _ _ d5;have qp:q≠p:=λz=>by rw[z,b9]at a7;cases a7
   refine⟨_,zr,?_⟩;refine q1j ["table","terms","rows"] (S5.trans s7) J b9 T.q1s T.q7l (by show 3 < 1000;decide) rfl (by decide+kernel) λH8 S8 d6 K8=>?_;refine⟨_,zr,?_⟩;refine q1j ["table","terms","rows","shared"] S8 J d6 T.q1s T.q44 (by show 4 < 1000;decide) rfl (by decide+kernel) λH9 S9 d7 K9=>?_;have d1:=K9 _ _ vp (K8 _ _ vp (s7 _ _ Y));have d8:=K9 _ _ qp (K8 _ _ qp a7);refine⟨_,rfl,_,_,_,_,rfl,rfl,SqT.of (S9 _ _ c1),ql (j:=2) rfl,_,rfl,_,rfl,_,rfl,_,_,_,_,rfl,rfl,hL S9,d1,by rw[z2h,z2h,z2h];exact z3d (show _<=1000 by lia) (by decide),λkv d3=>?_⟩;have b0:=qc (o:=HO.lst ((zs.map Sum.inr:List Key).map kV++(q19 ts).map kV)) d3;refine⟨c,_,_,zr,(S9.trans b0) _ _ hc,λD2 H11 e0 c8 Z=>?_⟩;have a1:=b0.trans e0;have c6:=S9.trans a1;have a4:=a1 _ _ d7;have dp:D2≠p:=λz=>by rw[z,a4]at Z;cases Z
   refine⟨_,zr,?_⟩;refine q1j ["table","terms","rows","shared","by_shared"] c6 J a4 T.q1s T.qfn (by show 5 < 1000;decide) rfl (by decide+kernel) λH12 b3 b7 b1=>?_;have c0:=b1 _ _ qp (a1 _ _ d8);have b5:=b1 _ _ dp Z;refine⟨_,zr,_,zr,_,zr,_,zr,r,L,W,t,ts,ws,zs,zr,hI.same b3,λaq us H13 a3 a8 mu lu=>?_⟩;have a5:=a3 _ _ b7;have c7:aq≠p:=λz=>by rw[z,a5]at a8;cases a8
   refine⟨_,zr,?_⟩;refine q1j ["table","terms","rows","shared","by_shared","due"] (b3.trans a3) J a5 T.q1s T.q9w (by show 6 < 1000;decide) rfl (by decide+kernel) λc5 b4 b8 a6=>?_;exact k qe q D2 aq us c5 b4 b8 (b4 _ _ a2) (a6 _ _ qp (a3 _ _ c0)) ((S9.trans b0).free c8) (a6 _ _ dp (a3 _ _ b5)) (a6 _ _ c7 a8) mu lu
  ·obtain⟨⟨v,rfl⟩,s6,e6⟩:=p;obtain⟨rfl,hx⟩:=y;have c4:=hx _ (SqL.of (s6 _ _ Y));rw[z1m]at c4;obtain⟨u,hu,rfl⟩:=z0n.mp c4;rw[z2h]at hi;have ou:=hI.tx u (z2e.mp (z0x hu)).1;refine⟨_,zr,_,zr,keyD u,_,q38 ou,.lst (SqL.of (hL (S5.trans s6))) (qcr d9),z3d (qe4 _) (by decide),?_⟩;rw[qq4];have st:((q19 ts).take (i+1)).filter (inK (zs.map Sum.inr))=((q19 ts).take i).filter (inK (zs.map Sum.inr))++(if inK (zs.map Sum.inr) u=true then [u] else []):=by
    rw[z2x,hu,z1g]
    congr 1
    show List.filter _ [u]=_;by_cases c:inK (zs.map Sum.inr) u=true
    ·rw[if_pos c,List.filter_cons_of_pos c];rfl
    ·rw[if_neg c,List.filter_cons_of_neg c];rfl
   refine⟨_,rfl,ite2 (λh1=>?_) (λh1=>⟨⟨_,rfl⟩,s6,by rw[st,if_neg h1,z2i];exact e6⟩)⟩;refine⟨_,rfl,_,e6,?_,⟨_,rfl⟩,s6.set hD,by rw[qb,st,if_pos h1,z2n];rfl⟩;have:=z0s (inK (zs.map Sum.inr)) ((q19 ts).take i);rw[z1y]at this;exact small1000 (by rw[z2h];lia)
def qq7(K:xA)(mg:xE)(vs:List V)(H:Hp)(Q:V->Hp->Prop)(r tt L W Lr:Addr)(t:Str)(ts ws:List Key)(zs:xD):Prop:=vs=[.ref r,.ref tt,.ref L,.ref W]/\StIn K H r L W t ts zs ws/\H tt=some (.dK [(.inr t,.ref Lr)])/\
 ∀A p dx tq sq dq aq (us:xD) H',Same H H'->H A=none->H' A=some (.lst [.ref p])->H p=none->H' p=some (.ins (cA mg "Step") dx (stF t tq Lr sq .non dq aq))->H' tq=some (.tup (ts.map kV))->H' sq=some (.tup ((shK ts zs).map kV))->H dq=none->dq≠A->H' dq=some (.lst [])->H' aq=some (.tup (us.map V.str))->(∀u∈us,u∈zs)->us.length<=4->Q (.ref A) H'
inductive sp_steps (K:xA) (mg:xE) (vs:List V) (H:Hp) (Q:VK) (_x3:XK):Prop
 | mk:∀(r:Addr) (tt:Addr) (L:Addr) (W:Addr) (Lr:Addr) (t:Str) (ts:List Key) (ws:List Key) (zs:xD),(qq7 K mg vs H Q r tt L W Lr t ts ws zs)->sp_steps K mg vs H Q _x3
def qdk(T:Txt K mg):Def P w K mg base 9 "steps_of" ["rule","tables","known","wanted"] (sp_steps K mg):=by
 refine T.qo6.ok q4c (λvs H Q E h=>?_) λf cdv A outer s H vs Q E hr h=>?_
 ·obtain⟨r,tt,L,W,Lr,t,ts,ws,zs,rfl,_⟩:=h;rfl
 ·obtain⟨r,tt,L,W,Lr,t,ts,ws,zs,rfl,hI,hT,k⟩:=h;refine⟨_,(q4k
   (qm (i:=4) q4c.nd rfl (Or.inl rfl) (q1f q1i))
   (qm (i:=5) q4c.nd rfl (Or.inl rfl) (pv 2))
   (q1k PassesOwn.never rfl (qrs K rfl T.q9v (pa_1 (qt (qq K) (pv 0) qf (λ_ _=>rfl)))) (q3g rfl (qv (qi (i:=6) q4c.nd rfl (Or.inl rfl)) (qv (qi (i:=7) q4c.nd rfl (Or.inl rfl)) q1w))) (q1x
   (q1g (q4j z0i z0e z0f q2y (pv 4) (pa_1 (q8c (qju T) T.qvn T.qvj hr rfl T.qxh (pa_5 (pv 0) (pv 6) (pv 1) (pv 5) (pv 3))))))
   (qm (i:=5) q4c.nd rfl (Or.inl rfl) (qy q85 (pv 5) (qh (q2f T) hr rfl (pa_1 (qt (qq K) (pv 7) qf (λ_ _=>rfl))))))))
   (qj (pv 4))),?_⟩
  obtain⟨_,b,c,p2,b0,_,hb,a8,hc⟩:=ru_at.mp hI.ru;obtain⟨qe,Z,a1⟩:=pr_at.mp a8;have Z:H p2=some (.tup [.str t,.ref qe]):=Z;have a1:H qe=some (.tup (ts.map kV)):=a1;have l4:=hI.l4;have l2:=hI.zl;have vl:=q3k ts;refine⟨by decide,λS Y=>?_⟩;have s1:=qc (o:=HO.lst []) Y;have a6:=qb (H:=H) (a:=S) (o:=HO.lst []);generalize upd H S (.lst [])=H1 at*;refine⟨_,zr,?_⟩;refine⟨_,rfl,_,_,_,_,rfl,rfl,SqT.of (s1 _ _ b0),ql (j:=1) rfl,b,rfl,⟨_,SqT.of (s1 _ _ hb)⟩,qph (K:=K) (xs:=[.ref p2]) (λi σ G=>∃(ah:Addr) (v6 v7:Option V),σ=[some (.ref r),some (.ref tt),some (.ref L),some (.ref W),some (.ref S),some (.ref ah),v6,v7]/\Same H G/\((i=0/\ah=L/\G=H1)\/ (i=1/\∃(p dx tq sq J aq:Addr) (us:xD),H p=none/\G S=some (.lst [.ref p])/\G p=some (.ins (cA mg "Step") dx (stF t tq Lr sq .non J aq))/\G tq=some (.tup (ts.map kV))/\G sq=some (.tup ((shK ts zs).map kV))/\H J=none/\J≠S/\G J=some (.lst [])/\G aq=some (.tup (us.map V.str))/\(∀u∈us,u∈zs)/\us.length<=4))) ⟨L,none,none,rfl,s1,.inl ⟨rfl,rfl,rfl⟩⟩ (λi σ G _ z=>?_) ?_ ?_⟩
  ·obtain⟨_,_,_,_,z,_⟩:=z;exact SqT.of (z _ _ hb)
  ·rintro i x pp σ G0 hx a9 ⟨ah,v6,v7,rfl,b1,⟨rfl,rfl,rfl⟩ | ⟨rfl,_⟩⟩
   ·cases hx
    refine⟨_,_,zr,SqT.of qb,zr,_,_,zr,_,_,zr,zr,?_⟩;have a3:=qc (o:=HO.tup [V.int (0:Nat),.ref p2]) a9;have sg:=b1.trans a3;have O:=a3 _ _ a6;generalize upd G0 pp (.tup [V.int (0:Nat),.ref p2])=G at*;refine⟨_,zr,.inl ⟨zr,_,SqL.of O⟩,_,zr,_,zr,_,zr,_,zr,_,zr,λx dx hx a7 _=>?_⟩;refine⟨G,x,dx,r,tt,ah,W,Lr,t,ts,ws,zs,zr,(qc a7).set hx,hx,qb,hI.same sg,sg _ _ hT,λtq sq J aq us H2 s2 g1 g2 g3 g4 g5 g6 g7 g8=>⟨zr,?_⟩⟩;refine⟨S,_,_,zr,zr,s2 _ _ O,by decide,?_⟩;have ne:∀{a o},H2 a=some o->o≠ .lst []->upd H2 S (.lst ([]++ [.ref x])) a=some o:=λ{a o} e n=>by
     rw[qk (λz=>by rw[z,s2 _ _ O]at e;cases e;exact n rfl)];exact e
    have dS:J≠S:=λz=>by rw[z,O]at g4;cases g4
    have S3:Same H (upd H2 S (.lst ([]++ [.ref x]))):=(sg.trans s2).set Y;have e1:=ne g1 nofun;have e2:=ne g2 nofun;have e3:=ne g3 nofun;have e6:=ne g6 nofun;have e5:upd H2 S (.lst ([]++ [.ref x])) J=some (.lst []):=by rw[qk dS];exact g5
    have eS:upd H2 S (.lst ([]++ [.ref x])) S=some (.lst [.ref x]):=qb;generalize upd H2 S (.lst ([]++ [.ref x]))=H3 at*;refine⟨_,zr,_,zr,_,_,_,_,zr,zr,SqT.of (S3 _ _ Z),ql (j:=1) rfl,qe,ts,zr,SqT.of (S3 _ _ a1),hI.tx,by lia,λV1 H4 s4 hV0 hV=>?_⟩;refine⟨_,_,_,_,rfl,rfl,(S3.trans s4) _ _ hI.at_,hV,by rw[z2h,z2h];exact z3d (show _<=1000 by lia) (by decide),λa4 a2=>?_⟩;have s5:=s4.trans (qc (o:=HO.lst (zs.map V.str++(q19 ts).map kV)) a2);exact⟨a4,_,_,zr,S3.trans s5,.inr ⟨zr,x,dx,tq,sq,J,aq,us,sg.free hx,s5 _ _ eS,s5 _ _ e1,s5 _ _ e2,s5 _ _ e3,sg.free g4,dS,s5 _ _ e5,s5 _ _ e6,g7,g8⟩⟩
   ·exact absurd (z06.mp hx).1 (z34 1)
  ·rintro σ G ⟨ah,v6,v7,rfl,sg,⟨z,_⟩ | ⟨_,p,dx,tq,sq,J,aq,us,g0,g1,g2,g3,g4,g5,g6,g7,g8,g9,a5⟩⟩
   ·cases z
   ·exact⟨_,zr,k S p dx tq sq J aq us G sg Y g1 g0 g2 g3 g4 g5 g6 g7 g8 g9 a5⟩
def cnt(m:Nat):Nat->Int
 | 0=>1
 | n+1=>1+m*cnt m n
def trs(m:Nat):Nat->List (List Nat)
 | 0=>[[]]
 | n+1=>[]::(List.range m).flatMap λp=>(trs m n).map (p:: ·)
def TrV(H:Hp)(nm:Str)(R:List Key):List Nat->V->Prop
 | [],x=>x= .str nm
 | p::u,x=>∃(a q kd:Addr) (y:V),x= .ref a/\H a=some (.tup [.int p,.ref q,.ref kd])/\H q=some (.tup (R.map kV))/\H kd=some (.tup [y])/\TrV H nm R u y
theorem TrV.keep{H H':Hp}{nm:Str}{R:List Key}(s:∀b ys,H b=some (.tup ys)->H' b=some (.tup ys)):∀{u:List Nat} {x:V},TrV H nm R u x->TrV H' nm R u x
 | [],_,h=>h
 | _::_,_,⟨a,q,kd,y,e,h1,h2,h3,h4⟩=>⟨a,q,kd,y,e,s _ _ h1,s _ _ h2,s _ _ h3,TrV.keep s h4⟩
inductive Tg
 | cst (o:HO)
 | stp (ts sh:List Key) (us:xD)
 | sen (ts:List Key) (us:xD) (k:Nat)
 | sum (ts:List Key) (k:Nat) (o:HO)
 | std
 | byr (k:Nat)
 | sbr (k:Nat) (o:HO)
 | beh
 | fnd
 | trl (k:Nat)
abbrev Sty:=Addr->Option Tg
structure Gx where
 t:Str
 R:List Key
 nm:Str
 tss:List (List Key)
def mN(j:Nat)(ks:List Key):NK:= .tup [.leaf (.inl j),.tup (ks.map NK.leaf)]
def fN(j:Nat)(p:PR):NK:= .tup [.leaf (.inl j),pN p]
def sumF(hq du st:Addr)(o ah:V)(sn:Addr):List (Str×V):=[("head_terms",.ref hq),("due",.ref du),("steps",.ref st),("by",o),("ahead",ah),("seen",.ref sn)]
def sbrF(tt:Addr)(o ah er:V)(D B:Addr):List (Str×V):=[("tables",.ref tt),("by",o),("ahead",ah),("earlier",er),("stayed",.ref D),("by_rule",.ref B)]
section
variable(P:Program)(w:World)(mg:xE)(g:Gx)
def Ah(S:Sty)(H:Hp)(a:Addr)(k:Nat):Prop:=∃o,S a=some (.cst o)/\DP P w H a [((g.t,g.R),.int (cnt g.tss.length k))]
def Ct(S:Sty)(o:Addr):Prop:=∃dx,S o=some (.cst (.ins (cA mg "Counts") dx []))
def Tb(S:Sty)(H:Hp)(tt:Addr):Prop:=∃L q,S tt=some (.cst (.dK [(.inr g.t,.ref L)]))/\S L=some (.cst (.lst [.ref q]))/\H q=some (.tup (g.R.map kV))
def StpB(S:Sty)(H:Hp)(a:Addr)(ts sh:List Key)(us:xD)(dx tq rq sq dq aq q:Addr)(bv:V):Prop:=H a=some (.ins (cA mg "Step") dx (stF g.t tq rq sq bv dq aq))/\H tq=some (.tup (ts.map kV))/\S rq=some (.cst (.lst [.ref q]))/\H q=some (.tup (g.R.map kV))/\H sq=some (.tup (sh.map kV))/\S dq=some (.cst (.lst []))/\H aq=some (.tup (us.map V.str))/\
   (bv= .non\/ ∃gd L pr bd,bv= .ref gd/\S gd=some (.cst (.dT [(mKey sh (bdK g.R ts),.ref L)]))/\S L=some (.cst (.lst [.ref pr]))/\H pr=some (.tup [.ref q,.ref bd])/\S bd=some (.cst (.dK (bdK g.R ts))))
def SumB(S:Sty)(H:Hp)(a:Addr)(ts:List Key)(k:Nat)(ho:HO)(dx hq du st p o ah sn:Addr)(us:xD):Prop:=ho= .ins (cA mg "Sums") dx (sumF hq du st (.ref o) (.ref ah) sn)/\H a=some ho/\H hq=some (.tup (ts.map kV))/\S du=some (.cst (.lst []))/\S st=some (.cst (.lst [.ref p]))/\S p=some (.stp ts (q19 ts) us)/\S sn=some (.sen ts us k)/\(∀u∈us,.inr u∈q19 ts)/\us.length<=4/\Ah P w g S H ah k/\Ct mg S o/\One g.t g.R ts
def SbrB(S:Sty)(H:Hp)(a:Addr)(k:Nat)(ho:HO)(dx tt o ah:Addr)(er:V)(D B:Addr):Prop:=ho= .ins (cA mg "SumsByRule") dx (sbrF tt (.ref o) (.ref ah) er D B)/\H a=some ho/\Tb g S H tt/\Ct mg S o/\Ah P w g S H ah k/\S D=some .std/\S B=some (.byr k)/\(er= .non\/ ∃b j ho,er= .ref b/\j+1=k/\S b=some (.sbr j ho))
def Ob(S:Sty)(H:Hp)(a:Addr):Tg->Prop
 | .cst o=>H a=some o/\∀ys,o≠ .tup ys
 | .stp ts sh us=>∃dx tq rq sq dq aq q bv,StpB mg g S H a ts sh us dx tq rq sq dq aq q bv
 | .sen ts us k=>DN P w H a []\/ DN P w H a [(mN 0 (mKey (us.map Sum.inr) (bdK g.R ts)),.int (cnt g.tss.length k))]
 | .sum ts k ho=>∃dx hq du st p o ah sn us,SumB P w mg g S H a ts k ho dx hq du st p o ah sn us
 | .std=>H a=some (.dK [])\/ H a=some (.dK [(.inr g.t,.bl false)])
 | .byr k=>∃kvs,DN P w H a kvs/\(kvs.map (·.1)).Nodup/\∀kv∈kvs,∃ts∈g.tss,∃p o,kv=(rK g.t ts,.ref p)/\S p=some (.sum ts k o)
 | .sbr k ho=>∃dx tt o ah er D B,SbrB P w mg g S H a k ho dx tt o ah er D B
 | .beh=>∃kvs:List (Key×V),H a=some (.dK kvs)/\(kvs.map (·.1)).Nodup/\∀kv∈kvs,∃(j:Nat) (p:Addr) (o:HO),j<=5/\kv=(.inl j,.ref p)/\S p=some (.sbr j o)
 | .fnd=>∃kvs,DN P w H a kvs/\(kvs.map (·.1)).Nodup/\∀kv∈kvs,∃(j:Nat) (L:Addr),j<=5/\kv=(fN j (g.t,g.R),.ref L)/\S L=some (.trl j)
 | .trl k=>∃xs,H a=some (.lst xs)/\Paired (λx u=>TrV H g.nm g.R u x) xs (trs g.tss.length k)
def Ty(S:Sty)(H:Hp):Prop:=∀a τ,S a=some τ->Ob P w mg g S H a τ
variable{P w mg g}{S S' S1 S2:Sty}{H H' H1 H2:Hp}{a b:Addr}{τ:Tg}{o:HO}
def q3m{kvs:List (NK×V)}(k:∀b ys,H b=some (.tup ys)->H' b=some (.tup ys))(e:H' a=H a)(h:DN P w H a kvs):DN P w H' a kvs:=let ⟨zs,e1,r⟩:=h;⟨zs,e.trans e1,r.keeps k⟩
def q83{kvs:List (NK×V)}(h:DN P w H a kvs):∃o,H a=some o/\∀ys,o≠ .tup ys:=let ⟨_,e,_⟩:=h;⟨_,e,nofun⟩
def Ob.ob(h:Ob P w mg g S H a τ):∃o,H a=some o/\∀ys,o≠ .tup ys:=by
 cases τ with
 | cst o=>exact⟨o,h⟩
 | stp=>obtain⟨_,_,_,_,_,_,_,_,h,_⟩:=h;exact⟨_,h,nofun⟩
 | sen=>exact h.elim q83 q83
 | sum=>obtain⟨_,_,_,_,_,_,_,_,_,rfl,h,_⟩:=h;exact⟨_,h,nofun⟩
 | std=>exact h.elim (λh=>⟨_,h,nofun⟩) λh=>⟨_,h,nofun⟩
 | byr=>obtain⟨_,h,_⟩:=h;exact q83 h
 | sbr=>obtain⟨_,_,_,_,_,_,_,rfl,h,_⟩:=h;exact⟨_,h,nofun⟩
 | beh=>obtain⟨_,h,_⟩:=h;exact⟨_,h,nofun⟩
 | fnd=>obtain⟨_,h,_⟩:=h;exact q83 h
 | trl=>obtain⟨_,h,_⟩:=h;exact⟨_,h,nofun⟩
def Ty.fresh(T:Ty P w mg g S H)(h:H a=none):S a=none:=by
 cases q:S a with
 | none=>rfl
 | some τ=>
  obtain⟨o,e,_⟩:=(T a τ q).ob;rw[h]at e;cases e
theorem Ty.tup(T:Ty P w mg g S H){ys:List V}(h:H a=some (.tup ys)):S a=none:=by
 cases q:S a with
 | none=>rfl
 | some τ=>
  obtain⟨o,e,n⟩:=(T a τ q).ob;rw[h]at e;cases e
  exact absurd rfl (n ys)
theorem Ty.sum(T:Ty P w mg g S H){ts:List Key}{k:Nat}(h:S a=some (.sum ts k o)):H a=some o:=let ⟨_,_,_,_,_,_,_,_,_,_,e,_⟩:=T a _ h;e
theorem Ty.sbr(T:Ty P w mg g S H){k:Nat}(h:S a=some (.sbr k o)):H a=some o:=let ⟨_,_,_,_,_,_,_,_,e,_⟩:=T a _ h;e
theorem Ty.cst(T:Ty P w mg g S H)(h:S a=some (.cst o)):H a=some o:=(T a _ h).1
def Ah.mono(u:∀b τ,S b=some τ->S' b=some τ)(k:∀b ys,H b=some (.tup ys)->H' b=some (.tup ys))(c:∀b o,S b=some (.cst o)->H' b=H b){n:Nat}(h:Ah P w g S H a n):Ah P w g S' H' a n:=
 let ⟨o,h1,h2⟩:=h;⟨o,u _ _ h1,q3m k (c _ _ h1) h2⟩
def Ct.mono(u:∀b τ,S b=some τ->S' b=some τ)(h:Ct mg S a):Ct mg S' a:=let ⟨dx,h⟩:=h;⟨dx,u _ _ h⟩
def Tb.mono(u:∀b τ,S b=some τ->S' b=some τ)(k:∀b ys,H b=some (.tup ys)->H' b=some (.tup ys))(h:Tb g S H a):Tb g S' H' a:=let ⟨L,q,h1,h2,h3⟩:=h;⟨L,q,u _ _ h1,u _ _ h2,k _ _ h3⟩
theorem Ob.mono(u:∀b τ,S b=some τ->S' b=some τ)(k:∀b ys,H b=some (.tup ys)->H' b=some (.tup ys))(c:∀b o,S b=some (.cst o)->H' b=H b)(e:H' a=H a)(h:Ob P w mg g S H a τ):Ob P w mg g S' H' a τ:=by
 cases τ with
 | cst o=>exact⟨e.trans h.1,h.2⟩
 | stp=>obtain⟨dx,tq,rq,sq,dq,aq,q,bv,h1,h2,h3,h4,h5,J,O,h8⟩:=h;exact⟨dx,tq,rq,sq,dq,aq,q,bv,e.trans h1,k _ _ h2,u _ _ h3,k _ _ h4,k _ _ h5,u _ _ J,k _ _ O,h8.imp_right λ⟨gd,L,pr,bd,g1,g2,g3,g4,g5⟩=>⟨gd,L,pr,bd,g1,u _ _ g2,u _ _ g3,k _ _ g4,u _ _ g5⟩⟩
 | sen=>exact h.imp (q3m k e) (q3m k e)
 | sum=>obtain⟨dx,hq,du,st,p,o,ah,sn,us,h0,h1,h2,h3,h4,h5,J,O,h8,h9,Z,a1⟩:=h;exact⟨dx,hq,du,st,p,o,ah,sn,us,h0,e.trans h1,k _ _ h2,u _ _ h3,u _ _ h4,u _ _ h5,u _ _ J,O,h8,h9.mono u k c,Z.mono u,a1⟩
 | std=>exact h.imp e.trans e.trans
 | byr=>obtain⟨kvs,h1,h2,h3⟩:=h;exact⟨kvs,q3m k e h1,h2,λY hk=>let ⟨ts,m,p,o,e1,e2⟩:=h3 Y hk;⟨ts,m,p,o,e1,u _ _ e2⟩⟩
 | sbr=>obtain⟨dx,tt,o,ah,er,D,B,h0,h1,h2,h3,h4,h5,J,O⟩:=h;exact⟨dx,tt,o,ah,er,D,B,h0,e.trans h1,h2.mono u k,h3.mono u,h4.mono u k c,u _ _ h5,u _ _ J,O.imp_right λ⟨b,j,ho,e1,e2,e3⟩=>⟨b,j,ho,e1,e2,u _ _ e3⟩⟩
 | beh=>obtain⟨kvs,h1,h2,h3⟩:=h;exact⟨kvs,e.trans h1,h2,λY hk=>let ⟨j,p,o,l,e1,e2⟩:=h3 Y hk;⟨j,p,o,l,e1,u _ _ e2⟩⟩
 | fnd=>obtain⟨kvs,h1,h2,h3⟩:=h;exact⟨kvs,q3m k e h1,h2,λY hk=>let ⟨j,p,l,e1,e2⟩:=h3 Y hk;⟨j,p,l,e1,u _ _ e2⟩⟩
 | trl=>obtain⟨xs,h1,h2⟩:=h;exact⟨xs,e.trans h1,L2.Paired.mapP h2 λ_ _ z=>z.keep k⟩
structure Ex (P:Program) (w:World) (mg:xE) (g:Gx) (S:Sty) (H:Hp) (S':Sty) (H':Hp):Prop where
 t0:Ty P w mg g S H
 ty:Ty P w mg g S' H'
 up:∀a τ,S a=some τ->S' a=some τ
 st:∀a o,S a=none->H a=some o->H' a=some o
 nn:∀a o,S a=none->H a=some o->S' a=none
variable(E:Ex P w mg g S H S1 H1)
def Ty.ex(T:Ty P w mg g S H):Ex P w mg g S H S H:=⟨T,T,λ_ _ h=>h,λ_ _ _ h=>h,λ_ _ h _=>h⟩
include E
def Ex.trans(F:Ex P w mg g S1 H1 S2 H2):Ex P w mg g S H S2 H2:=⟨E.t0,F.ty,λa τ h=>F.up a τ (E.up a τ h),λa o n h=>F.st a o (E.nn a o n h) (E.st a o n h),λa o n h=>F.nn a o (E.nn a o n h) (E.st a o n h)⟩
theorem Ex.tup{ys:List V}(h:H a=some (.tup ys)):H1 a=some (.tup ys):=E.st a _ (E.t0.tup h) h
def Ex.free(h:H1 a=none):H a=none:=by
 cases q:H a with
 | none=>rfl
 | some o=>
  cases z:S a with
  | none=>rw[E.st a o z q]at h;cases h
  | some τ=>
   obtain⟨_,e,_⟩:=(E.ty a τ (E.up a τ z)).ob;rw[h]at e;cases e
def Ex.same(s:Same H1 H2):Ex P w mg g S H S1 H2:=⟨E.t0,λa τ h=>by
 obtain⟨o,e,_⟩:=(E.ty a τ h).ob;refine(E.ty a τ h).mono (λ_ _ h=>h) (λb ys e=>s _ _ e) (λb o hb=>?_) (by rw[e];exact s _ _ e);rw[E.ty.cst hb];exact s _ _ (E.ty.cst hb),E.up,λa o n h=>s _ _ (E.st a o n h),E.nn⟩
def Ex.set(h:S1 a=some τ)(nc:∀o,τ≠ .cst o)(ob:Ob P w mg g S1 (upd H1 a o) a τ):Ex P w mg g S H S1 (upd H1 a o):=by
 have ne:∀{b},b≠a->upd H1 a o b=H1 b:=λn=>qk n;refine⟨E.t0,λb σ hb=>?_,E.up,λb o' n e=>?_,E.nn⟩
 ·by_cases z:b=a
  ·subst z;rw[h]at hb;cases hb
   exact ob
  ·refine(E.ty b σ hb).mono (λ_ _ h=>h) (λc ys e=>?_) (λc o' J=>ne λz=>?_) (ne z)
   ·rw[ne λz=>by rw[z]at e;have:=E.ty.tup e;rw[h]at this;cases this];exact e
   ·rw[z,h]at J;cases J
    exact nc _ rfl
 ·rw[ne λz=>by have:=E.nn b o' n e;rw[z,h]at this;cases this];exact E.st b o' n e
def Ex.own(h0:H a=none)(h1:S1 a=none)(hn:∀ys,H1 a≠some (.tup ys)):Ex P w mg g S H S1 (upd H1 a o):=by
 have ne:∀{b},b≠a->upd H1 a o b=H1 b:=λn=>qk n;have nt:∀{b σ},S1 b=some σ->b≠a:=λ{b σ} e z=>by rw[z,h1]at e;cases e
 refine⟨E.t0,λb σ hb=>(E.ty b σ hb).mono (λ_ _ h=>h) (λc ys e=>?_) (λc o' hc=>ne (nt hc)) (ne (nt hb)),E.up,λb o' n e=>?_,E.nn⟩
 ·rw[ne λz=>hn ys (by rw[<- z];exact e)];exact e
 ·rw[ne λz=>by rw[z,h0]at e;cases e];exact E.st b o' n e
def putS(S:Sty)(a:Addr)(τ:Tg):Sty:=λb=>if b=a then some τ else S b
omit E in
def q2c:putS S a τ a=some τ:=if_pos rfl
omit E in
def q32(h:S a=none):∀b σ,S b=some σ->putS S a τ b=some σ:=λb σ e=>by
 unfold putS;rw[if_neg λz=>by rw[z,h]at e;cases e];exact e
omit E in
def q22(h:b≠a):putS S a τ b=S b:=if_neg h
def Ex.new(τ:Tg)(h0:H a=none)(h1:S1 a=none)(ob:Ob P w mg g (putS S1 a τ) H1 a τ):Ex P w mg g S H (putS S1 a τ) H1:=by
 refine⟨E.t0,λb σ hb=>?_,λb σ h=>q32 h1 b σ (E.up b σ h),E.st,λb o n e=>?_⟩
 ·by_cases z:b=a
  ·subst z;rw[q2c]at hb;cases hb
   exact ob
  ·rw[q22 z]at hb;exact(E.ty b σ hb).mono (q32 h1) (λ_ _ e=>e) (λ_ _ _=>rfl) rfl
 ·rw[q22 λz=>by rw[z,h0]at e;cases e];exact E.nn b o n e
def frz(ex:List Addr)(H:Hp)(S1:Sty)(H1:Hp):Sty:=λa=>match S1 a with
 | some τ=>some τ
 | none=>if (H a).isNone&& !ex.contains a then match H1 a with
  | some (.tup _)=>none
  | some o=>some (.cst o)
  | none=>none
  else none
omit E in
def q6j{ex:List Addr}(h:S1 a=some τ):frz ex H S1 H1 a=some τ:=by
 unfold frz;rw[h]
omit E in
def q4v{ex:List Addr}(h0:H a=none)(hS:S1 a=none)(hx:a∉ex)(h:H1 a=some o)(n:∀ys,o≠ .tup ys):frz ex H S1 H1 a=some (.cst o):=by
 unfold frz;rw[hS,h0,h];have:ex.contains a=false:=by simpa using hx
 simp only[this,Option.isNone_none,Bool.not_false,Bool.and_self,if_true]
omit E in
def q3t{ex:List Addr}(hS:S1 a=none)(hx:a∈ex\/ H a≠none):frz ex H S1 H1 a=none:=by
 unfold frz;rw[hS];have:((H a).isNone&& !ex.contains a)=false:=by
  rcases hx with h | h
  ·simp[h]
  ·cases q:H a with
   | none=>exact absurd q h
   | some o=>rfl
 simp only[this,z18,if_false]
theorem Ex.frz(ex:List Addr):Ex P w mg g S H (frz ex H S1 H1) H1:=by
 refine⟨E.t0,λb σ hb=>?_,λb σ h=>q6j (E.up b σ h),E.st,λb o n e=>q3t (E.nn b o n e) (.inr (by rw[e];nofun))⟩;cases q:S1 b with
 | some τ=>
  rw[q6j q]at hb;cases hb
  exact(E.ty b σ q).mono (λ_ _ h=>q6j h) (λ_ _ e=>e) (λ_ _ _=>rfl) rfl
 | none=>
  unfold Wy.frz at hb;rw[q]at hb;simp only at hb;split at hb
  ·split at hb
   ·cases hb
   ·rename_i o n e;cases hb
    exact⟨e,λys z=>n ys z⟩
   ·cases hb
  ·cases hb
end
def quu(vs:List V)(H:Hp)(Q:V->Hp->Prop)(a b c q:Addr)(t:Str)(ts R sh:List Key):Prop:=vs=[.ref a,.ref b,.ref c]/\H a=some (.tup (ts.map kV))/\H b=some (.lst [.ref q])/\H q=some (.tup (R.map kV))/\H c=some (.tup (sh.map kV))/\One t R ts/\sh.length<=4/\
 ∀gd L pr bd H',Same H H'->H gd=none->H L=none->H bd=none->H' gd=some (.dT [(mKey sh (bdK R ts),.ref L)])->H' L=some (.lst [.ref pr])->H' pr=some (.tup [.ref q,.ref bd])->H' bd=some (.dK (bdK R ts))->Q (.ref gd) H'
inductive sp_rbs (vs:List V) (H:Hp) (Q:VK) (_x3:XK):Prop
 | mk:∀(a:Addr) (b:Addr) (c:Addr) (q:Addr) (t:Str) (ts:List Key) (R:List Key) (sh:List Key),(quu vs H Q a b c q t ts R sh)->sp_rbs vs H Q _x3
def JgI(H:Hp)(a b c d q:Addr)(sh R ts:List Key)(i:Nat)(σ:List (Option V))(G:Hp)(v1 v2:Option V):Prop:=σ=[some (.ref a),some (.ref b),some (.ref c),some (.ref d),v1,v2]/\Same H G/\((i=0/\G d=some (.dT []))\/ (i=1/\∃L pr bd,H L=none/\H bd=none/\G d=some (.dT [(mKey sh (bdK R ts),.ref L)])/\G L=some (.lst [.ref pr])/\G pr=some (.tup [.ref q,.ref bd])/\G bd=some (.dK (bdK R ts))))
def qcx(T:Txt K mg):Def P w K mg base 4 "rows_by_shared" ["terms","rows","shared"] sp_rbs:=by
 refine T.qed.ok q3o (λvs H Q E h=>?_) λf cdv A outer s H vs Q E hr h=>?_
 ·obtain⟨a,b,c,q,t,ts,R,sh,rfl,_⟩:=h;rfl
 ·obtain⟨a,b,c,q,t,ts,R,sh,rfl,ha,hb,hq,hc,o,ls,k⟩:=h;refine⟨_,(q3a
   (qm (i:=3) q3o.nd rfl (Or.inl rfl) qr9)
   (q1k PassesOwn.never rfl (q11 K (pv 1)) (qi (i:=4) q3o.nd rfl (Or.inl rfl)) (q1x
   (qm (i:=5) q3o.nd rfl (Or.inl rfl) (qh (qf6 T) hr rfl (pa_3 (pv 0) (pv 4) q4n)))
   (q18 (q14 qa2 (pv 5) q3f (q1c _)) (qg (q1g (q4j z0i z0e z0f q2y (qpi (q3n hr) (pv 3) (qh (q60 T) hr rfl (pa_2 (pv 2) (pv 5))) (q1f q1i) ⟨rfl,rfl,rfl,rfl⟩) (pa_1 (q13 (pa_2 (pv 4) (pv 5))))))) qx)))
   (qj (pv 3))),?_⟩
  refine λd hd=>?_;have s1:=qc (o:=HO.dT []) hd;have l4:=o.l4;refine⟨_,zr,b,zr,⟨_,SqL.of (s1 _ _ hb)⟩,q1t (xs:=[.ref q]) (λi σ G=>∃(v1 v2:Option V),JgI H a b c d q sh R ts i σ G v1 v2) ⟨none,none,zr,s1,.inl ⟨zr,qb⟩⟩ (λi σ G _ z=>?_) ?_ ?_⟩
  ·obtain⟨_,_,_,z,_⟩:=z;exact SqL.of (z _ _ hb)
  ·rintro i x σ H1 hx ⟨v1,v2,rfl,sm,⟨rfl,hD⟩ | ⟨rfl,_⟩⟩
   ·cases hx
    refine⟨_,zr,_,zr,λe he=>?_⟩;have s2:=qc (o:=HO.dK []) he;have S2:=sm.trans s2;refine⟨a,q,e,ts,R,[],rfl,SqT.of (S2 _ _ ha),SqT.of (S2 _ _ hq),qb,o.tx,(λ_ z=>nomatch z),by lia,by decide,(λa2=>absurd a2 (by rw[o.bd];rintro (z | z);exact z o.len;cases z)),λbk r H2 _ em s3 a3 O=>?_⟩;rw[o.bd]at em;cases em
    refine⟨_,zr,zr,_,zr,q3p rfl ?_⟩;have S3:=S2.trans s3;have Y:=(s2.trans s3) _ _ hD;refine⟨_,zr,d,zr,.inr ⟨_,.inl Y⟩,_,zr,_,zr,c,r,sh,_,zr,SqT.of (S3 _ _ hc),O,by lia,λb2 H3 s4 Z=>?_⟩;refine⟨by decide,λz hz=>?_⟩;have s5:=qc (o:=HO.lst []) hz;rw[qgb o.all]at Z;have a1:=(s4.trans s5) _ _ Y;refine⟨[],_,b2,a1,rfl,s5 _ _ Z,by decide,(λv ev=>nomatch ev),λ_=>?_⟩;have zd:z≠d:=λq=>by rw[q,s4 _ _ Y]at hz;cases hz
    have eD:upd (upd H3 z (.lst [])) d (.dT (putK [] (mKey sh (bdK R ts)) (.ref z))) z=some (.lst []):=by
     rw[qk zd];exact qb
    refine⟨.inl ⟨rfl,_,SqL.of eD⟩,_,rfl,_,rfl,by show 2<=sizeLine;decide,λpr J=>?_⟩;have s6:=qc (o:=HO.tup [V.ref q,.ref r]) J;have z0:H z=none:=(S3.trans s4).free hz;have stay:∀n o,H3 n=some o->n≠d->upd (upd (upd (upd H3 z (.lst [])) d (.dT (putK [] (mKey sh (bdK R ts)) (.ref z)))) pr (.tup [.ref q,.ref r])) z (.lst ([]++ [.ref pr])) n=some o:=λn o h nd=>by
     have nz:n≠z:=λq=>by rw[q,hz]at h;cases h
     rw[qk nz];refine s6 _ _ ?_;rw[qk nd,qk nz];exact h
    have zp:pr≠z:=λq=>by rw[q,eD]at J;cases J
    have dp:d≠pr:=λq=>by rw[<- q,qb]at J;cases J
    refine⟨z,[],_,rfl,rfl,s6 _ _ eD,by decide,_,_,rfl,((((S3.trans s4).trans s5).set hd).trans s6).set z0,.inr ⟨rfl,z,pr,r,z0,S2.free a3,?_,qb,?_,stay _ _ (s4 _ _ O) (λz=>by rw[z]at O;rw[Y]at O;cases O)⟩⟩
    ·rw[qk (Ne.symm zd),qk dp];exact qb
    ·rw[qk zp];exact qb
   ·exact absurd (z06.mp hx).1 (z34 1)
  ·rintro σ G ⟨v1,v2,rfl,sm,⟨z,_⟩ | ⟨_,L,pr,bd,g1,g2,g3,g4,g5,g6⟩⟩
   ·cases z
   ·exact⟨_,zr,k d L pr bd G sm hd g1 g2 g3 g4 g5 g6⟩
def qs3(P:Program)(w:World)(mg:xE)(vs:List V)(H:Hp)(Q:V->Hp->Prop)(g:Gx)(S:Sty)(p b:Addr)(ts sh:List Key)(us:xD)(kv:List (Key×V)):Prop:=vs=[.ref p,.ref b]/\Ty P w mg g S H/\S p=some (.stp ts sh us)/\One g.t g.R ts/\sh.length<=4/\H b=some (.dK kv)/\AllK kv/\kv.length<=100/\mKey sh kv=mKey sh (bdK g.R ts)/\
 ∀S' H' D pr q bg,Ex P w mg g S H S' H'->H D=none->S' D=none->H' D=some (.lst [.ref pr])->H' pr=some (.tup [.ref q,.ref bg])->H' q=some (.tup (g.R.map kV))->H' bg=some (.dK (q35 kv (bdK g.R ts)))->Q (.ref D) H'
inductive sp_join (P:Program) (w:World) (mg:xE) (vs:List V) (H:Hp) (Q:VK) (_x3:XK):Prop
 | mk:∀(g:Gx) (S:Sty) (p:Addr) (b:Addr) (ts:List Key) (sh:List Key) (us:xD) (kv:List (Key×V)),(qs3 P w mg vs H Q g S p b ts sh us kv)->sp_join P w mg vs H Q _x3
def JfI(P:Program)(w:World)(mg:xE)(g:Gx)(S:Sty)(H H4:Hp)(S1:Sty)(p b D q:Addr)(kv:List (Key×V))(ts:List Key)(i:Nat)(σ:List (Option V))(G:Hp)(v3 v4 v5:Option V):Prop:=σ=[some (.ref p),some (.ref b),some (.ref D),v3,v4,v5]/\((i=0/\G=H4)\/ (i=1/\∃p3 g2,Ex P w mg g S H S1 G/\G D=some (.lst [.ref p3])/\G p3=some (.tup [.ref q,.ref g2])/\G g2=some (.dK (q35 kv (bdK g.R ts)))))
def q7o(T:Txt K mg):MDef P w K mg base 6 (cA mg "Step") "joined_on" ["self","binding"] (sp_join P w mg):=by
 refine T.qeb.ok q2r (λvs H Q E h=>?_) λf cdv A outer s H vs Q E hr h=>?_
 ·obtain⟨g,S,p,b,ts,sh,us,O,rfl,_⟩:=h;rfl
 ·obtain⟨g,S,p,b,ts,sh,us,O,rfl,ty,hS,o,ls,hb,ak,lk,ek,k⟩:=h;obtain⟨dx,tq,rq,sq,dq,aq,q,bv,hp,a4,b6,hq,Z,b1,a7,b9⟩:=ty p _ hS;have bp:b≠p:=λz=>by rw[z,hp]at hb;cases hb
  have bl:=o.bl;refine q80 1 (λσ H1=>σ=[some (.ref p),some (.ref b),none,none,none,none]/\∃S1 Y L pr bd,Ex P w mg g S H S1 H1/\S1 p=some (.stp ts sh us)/\H1 p=some (.ins (cA mg "Step") dx (stF g.t tq rq sq (.ref Y) dq aq))/\H1 b=some (.dK O)/\S1 Y=some (.cst (.dT [(mKey sh (bdK g.R ts),.ref L)]))/\S1 L=some (.cst (.lst [.ref pr]))/\H1 pr=some (.tup [.ref q,.ref bd])/\S1 bd=some (.cst (.dK (bdK g.R ts)))) ⟨_,(q3a
   (qm (i:=2) q2r.nd rfl (Or.inl rfl) (q1f q1i))
   (q1k PassesOwn.never rfl (q11 K (q6r (q3n hr) (qo (pv 0) rfl) (qh (q60 T) hr rfl (pa_2 (qo (pv 0) rfl) (pv 1))) (q1f q1i) ⟨rfl,rfl,rfl,rfl⟩)) (q3g rfl (qv (qi (i:=3) q2r.nd rfl (Or.inl rfl)) (qv (qi (i:=4) q2r.nd rfl (Or.inl rfl)) q1w))) (q3a
   (qm (i:=5) q2r.nd rfl (Or.inl rfl) (q1u qet rfl T.qfh qco (pa_1 (pv 1))))
   (q1g (quk (pv 5) (pv 4) ⟨rfl,rfl,rfl,rfl⟩))
   (q18 (q1z (qh (q9u T) hr rfl (pa_2 (qo (pv 0) rfl) (pv 5)))) (qg (q1g (q4j z0i z0e z0f q2y (pv 2) (pa_1 (q13 (pa_2 (pv 3) (pv 5))))))) qx)))
   (qj (pv 2))),?_⟩ (λu hu hC=>⟨_,(qig
   (q18 (q14 qok (qo (pv 0) rfl) q3f (q1c _)) (qg (q1h (pv 0) (qh (qcx T) hr rfl (pa_3 (qo (pv 0) rfl) (qo (pv 0) rfl) (qo (pv 0) rfl))) rfl)) qx)
   hu),?_⟩)
  ·rintro σ H1 ⟨rfl,S1,Y,L,pr,bd,E1,a2,hi,a8,b3,hL,c5,a9⟩;refine⟨by decide,λD hD=>?_⟩;have s2:=qc (o:=HO.lst []) hD;have b7:=qb (H:=H1) (a:=D) (o:=HO.lst []);have E2:=E1.same s2;generalize upd H1 D (.lst [])=H2 at*;refine⟨_,zr,p,_,dx,_,_,zr,s2 _ _ hi,T.q1s,T.q44,zr,Y,zr,.inr ⟨_,.inl (E2.ty.cst b3)⟩,_,zr,p,_,dx,_,_,zr,s2 _ _ hi,T.q1s,T.q7l,zr,_,zr,sq,b,sh,O,zr,SqT.of (E2.tup Z),s2 _ _ a8,by lia,λq3 H3 s3 b5=>?_⟩;rw[qgb ak,ek]at b5;refine⟨by decide,λem c0=>?_⟩;have s4:=qc (o:=HO.lst []) c0;have E4:=(E2.same s3).same s4;have a5:=(s3.trans s4) _ _ b7;have D0:H D=none:=E1.free hD;have DS:S1 D=none:=E1.ty.fresh hD;refine⟨_,DGet.t (E4.ty.cst b3) (s4 _ _ b5),?_⟩;rw[q15 (p:=(mKey sh (bdK g.R ts),V.ref L)) rfl];have LD:L≠D:=λz=>by rw[z,DS]at hL;cases hL
   have c4:=(s2.trans (s3.trans s4)) _ _ hi;have b8:=(s2.trans (s3.trans s4)) _ _ a8;have b4:=(s2.trans (s3.trans s4)) _ _ c5;generalize upd H3 em (.lst [])=H4 at*;refine⟨L,zr,⟨_,SqL.of (E4.ty.cst hL)⟩,q1t (xs:=[.ref pr]) (λi σ G=>∃(v3 v4 v5:Option V),JfI P w mg g S H H4 S1 p b D q O ts i σ G v3 v4 v5) ⟨none,none,none,zr,.inl ⟨zr,zr⟩⟩ (λi σ G _ z=>?_) ?_ ?_⟩
   ·obtain⟨_,_,_,_,⟨_,rfl⟩ | ⟨_,_,_,z,_⟩⟩:=z
    ·exact SqL.of (E4.ty.cst hL)
    ·exact SqL.of (z.ty.cst hL)
   ·rintro i x σ G hx ⟨v3,v4,v5,rfl,⟨rfl,rfl⟩ | ⟨rfl,_⟩⟩
    ·cases hx
     refine⟨pr,_,zr,SqT.of b4,zr,_,_,zr,_,_,zr,zr,?_⟩;refine⟨_,zr,b,O,zr,.inl b8,λg2 J=>?_⟩;have s6:=qc (o:=HO.dK O) J;have b0:=(E4.same s6).ty.cst a9;have gb:g2≠bd:=λz=>by rw[z,E4.ty.cst a9]at J;cases J
     refine⟨_,rfl,g2,rfl,.inl ⟨_,.inl qb⟩,_,rfl,O,_,bd,qb,rfl,.inl b0,gb,z3d (show _<=2000 by lia) (by decide),?_⟩;have s7:Same G (upd (upd G g2 (.dK O)) g2 (.dK (q35 O (bdK g.R ts)))):=s6.set J;have c1:=qb (H:=upd G g2 (.dK O)) (a:=g2) (o:=HO.dK (q35 O (bdK g.R ts)));generalize upd (upd G g2 (.dK O)) g2 (.dK (q35 O (bdK g.R ts)))=H7 at*;have E7:=E4.same s7;refine⟨_,zr,p,_,dx,_,_,zr,s7 _ _ c4,T.q1s,T.qfn,zr,_,zr,dq,_,zr,E7.ty.cst (E1.up _ _ b1),λH8 s8=>?_⟩;have E8:=E7.same s8;have a1:=(s7.trans s8) _ _ a5;refine⟨_,zr,iteT ?_⟩;refine⟨_,rfl,.inl ⟨rfl,_,SqL.of a1⟩,_,rfl,_,rfl,by show 2<=sizeLine;decide,λp3 a3=>?_⟩;have s9:=qc (o:=HO.tup [V.ref q,.ref g2]) a3;have pD:p3≠D:=λz=>by rw[z,a1]at a3;cases a3
     have a6:=s9 _ _ a1;refine⟨D,[],_,rfl,rfl,a6,by decide,_,_,_,rfl,.inr ⟨rfl,p3,g2,(E8.same s9).own D0 DS (by rw[a6];nofun),qb,?_,?_⟩⟩
     ·rw[qk pD];exact qb
     ·have gD:g2≠D:=λz=>by rw[z,a5]at J;cases J
      rw[qk gD];exact(s8.trans s9) _ _ c1
    ·exact absurd (z06.mp hx).1 (z34 1)
   ·rintro σ G ⟨v3,v4,v5,rfl,⟨z,_⟩ | ⟨_,p3,g2,E5,e1,e2,e3⟩⟩
    ·cases z
    ·exact⟨_,zr,k S1 G D p3 q g2 E5 D0 DS e1 e2 (E5.tup hq) e3⟩
  ·refine⟨_,zr,p,_,dx,_,_,zr,hp,T.q1s,T.q44,zr,?_⟩;rcases b9 with rfl | ⟨Y,L,pr,bd,rfl,g1,g2,g3,g4⟩
   ·refine⟨zr,_,zr,q3p rfl ?_⟩;refine⟨_,zr,p,_,dx,_,_,zr,hp,T.q1s,T.qcf,zr,_,zr,p,_,dx,_,_,zr,hp,T.q1s,T.qdm,zr,_,zr,p,_,dx,_,_,zr,hp,T.q1s,T.q7l,zr,tq,rq,sq,q,g.t,ts,g.R,sh,zr,a4,ty.cst b6,hq,Z,o,ls,λY L pr bd H1 s1 n1 n2 n3 e1 e2 e3 e4=>?_⟩;have a2:=s1 _ _ hp;have E1:=(ty.ex.same s1).frz [];have f1:=q4v (S1:=S) (ex:=[]) n1 (ty.fresh n1) z29 e1 nofun;have f2:=q4v (S1:=S) (ex:=[]) n2 (ty.fresh n2) z29 e2 nofun;have f3:=q4v (S1:=S) (ex:=[]) n3 (ty.fresh n3) z29 e4 nofun;have fp:=q6j (ex:=[]) (H:=H) (H1:=H1) hS;refine⟨_,rfl,p,_,dx,_,rfl,a2,T.q1s,T.q44,(by show 7 < 1000;decide),?_⟩;have nt:∀{a ys},H1 a=some (.tup ys)->a≠p:=λ{a ys} e z=>by rw[z,a2]at e;cases e
    have ob:Ob P w mg g (frz [] H S H1) (upd H1 p (.ins (cA mg "Step") dx (stF g.t tq rq sq (.ref Y) dq aq))) p (.stp ts sh us):=⟨dx,tq,rq,sq,dq,aq,q,.ref Y,qb,by rw[qk (nt (s1 _ _ a4))];exact s1 _ _ a4,q6j b6,by rw[qk (nt (s1 _ _ hq))];exact s1 _ _ hq,by rw[qk (nt (s1 _ _ Z))];exact s1 _ _ Z,q6j b1,by rw[qk (nt (s1 _ _ a7))];exact s1 _ _ a7,.inr ⟨Y,L,pr,bd,rfl,f1,f2,by rw[qk (nt e3)];exact e3,f3⟩⟩;refine hC _ _ ⟨zr,_,Y,L,pr,bd,E1.set fp nofun ob,fp,qb,?_,f1,f2,?_,f3⟩
    ·rw[qk bp];exact s1 _ _ hb
    ·rw[qk (nt e3)];exact e3
   ·refine⟨zr,_,zr,q1y rfl ?_⟩;exact hC _ _ ⟨zr,S,Y,L,pr,bd,ty.ex,hS,hp,hb,g1,g2,g3,g4⟩
def qaa{P:Program}{w:World}{H H2:Hp}{a p:Addr}(h:DN P w H a [])(ne:a≠p)(k:∀a o,a≠p->H a=some o->H2 a=some o):DN P w H2 a []:=by
 obtain⟨xs,e,r⟩:=h;exact⟨xs,k _ _ ne e,by cases r;exact .nil⟩
def qt5{H:Hp}{j:Nat}{ks:List Key}{b q:Addr}(h1:H b=some (.tup [.int j,.ref q]))(h2:H q=some (.tup (ks.map kV))):NAt H (mN j ks) (.ref b):=by
 unfold mN;rw[NAt];refine⟨b,_,zr,h1,?_⟩;rw[NAts];refine⟨_,_,rfl,by rw[NAt];rfl,?_⟩;rw[NAts];refine⟨_,_,zr,?_,by rw[NAts]⟩;rw[NAt];exact⟨q,_,zr,h2,qg9 ks⟩
def qq8{j:Nat}{ks:List Key}(h:∀u∈ks,TxOk u):NOk (mN j ks):=(qga (d:=1) (qav (t:= .inl j) True.intro) (qmk h)).nok
def qq9{t:Str}{R ts:List Key}(o:One t R ts):NOk (rK t ts):=(qa9 (d:=3) (List.forall_mem_cons.mpr ⟨qc5 (p:=(t,ts)) o.nm o.tx,List.forall_mem_cons.mpr ⟨qa9 (d:=2) (List.forall_mem_singleton.mpr (qc5 (p:=(t,ts)) o.nm o.tx)),List.forall_mem_singleton.mpr (qa9 (l:=[]) (d:=2) λ_ z=>nomatch z)⟩⟩)).nok
def hdF(hp st B Sd:Addr):List (Str×V):=[("head",.ref hp),("steps",.ref st),("begun",.ref B),("seen",.ref Sd)]
structure HdC (mg:xE) (S:Sty) (H0:Hp) (a dx hp st p B Sd:Addr) (ts:List Key):Prop where
 ins:S a=some (.cst (.ins (cA mg "Heads") dx (hdF hp st B Sd)))
 st:S st=some (.cst (.lst [.ref p]))
 p:S p=some (.stp ts [] [])
 B0:H0 B=none
 S0:H0 Sd=none
def HdC.up{S S':Sty}{J:Hp}{a dx Y st p B O:Addr}{ts:List Key}(u:∀b τ,S b=some τ->S' b=some τ)(h:HdC mg S J a dx Y st p B O ts):HdC mg S' J a dx Y st p B O ts:=⟨u _ _ h.ins,u _ _ h.st,u _ _ h.p,h.B0,h.S0⟩
def quv(P:Program)(w:World)(mg:xE)(vs:List V)(H:Hp)(Q:V->Hp->Prop)(g:Gx)(S0:Sty)(H0:Hp)(S:Sty)(a dx hp st p B Sd d0:Addr)(ts:List Key):Prop:=vs=[.ref a,.int 0,.ref d0]/\Ex P w mg g S0 H0 S H/\HdC mg S H0 a dx hp st p B Sd ts/\One g.t g.R ts/\S B=none/\S Sd=none/\H d0=some (.dK [])/\H B=some (.lst [])/\DN P w H Sd []/\
 ∀S' H' x bg,Ex P w mg g S0 H0 S' H'->(∀b τ,S b=some τ->S' b=some τ)->(∀b o,b≠B->b≠Sd->S b=none->H b=some o->H' b=some o)->S' B=none->H' B=some (.lst [.ref x])->H' x=some (.tup [.int 1,.ref bg])->H' bg=some (.dK (q35 [] (bdK g.R ts)))->Q .non H'
inductive sp_beg (P:Program) (w:World) (mg:xE) (vs:List V) (H:Hp) (Q:VK) (_x3:XK):Prop
 | mk:∀(g:Gx) (S0:Sty) (H0:Hp) (S:Sty) (a:Addr) (dx:Addr) (hp:Addr) (st:Addr) (p:Addr) (B:Addr) (Sd:Addr) (d0:Addr) (ts:List Key),(quv P w mg vs H Q g S0 H0 S a dx hp st p B Sd d0 ts)->sp_beg P w mg vs H Q _x3
def qcy(T:Txt K mg):MDef P w K mg base 8 (cA mg "Heads") "begin_on" ["self","place","binding"] (sp_beg P w mg):=by
 refine T.qec.ok q7n (λvs H Q E h=>?_) λf cdv A outer s H vs Q E hr h=>?_
 ·obtain⟨g,S0,H0,S,a,dx,hp,st,p,B,O,d0,ts,rfl,_⟩:=h;rfl
 ·obtain⟨g,S0,H0,S,a,dx,hp,st,p,B,O,d0,ts,rfl,EX,C,o,a5,b1,Y,hB,J,k⟩:=h;obtain⟨b0,tq,rq,sq,dq,aq,q,bv,b6,_,_,_,_,_,b3,_⟩:=EX.ty p _ C.p;have ins:=EX.ty.cst C.ins;have b8:=EX.ty.cst C.st;refine⟨_,(q1x
   (qm (i:=3) q7n.nd rfl (Or.inl rfl) (q13 (pa_2 (pv 1) (qh (q60 T) hr rfl (pa_2 (qo (qt (q27 K) (qo (pv 0) rfl) (pv 1) (λ_ _=>rfl)) rfl) (pv 2))))))
   (q18 (q65 (q5y (P:=P) (w:=w) hr.units (pv 3) (qo (pv 0) rfl))) (q1x
   (q6t (P:=P) (w:=w) hr.units (qo (pv 0) rfl) (pv 3) q4i rfl)
   (q1g (q4j z0i z0c z0d q74 (qo (pv 0) rfl) (pa_1 (q1a (N:=["used","together","place"]) (caps:=[none,none,some 1]) rfl (by with_unfolding_all rfl) (q11 K (qz (q7o T) T.q1s hr (qt (q27 K) (qo (pv 0) rfl) (pv 1) (λ_ _=>rfl)) (pa_1 (pv 2)))) (λ_ _ _ _ _=>(qa4 K (n:=2) rfl (qv (qi (i:=0) (show (["used","together","place"]:xD).Nodup by decide+kernel) rfl (Or.inl rfl)) (qv (qi (i:=1) (show (["used","together","place"]:xD).Nodup by decide+kernel) rfl (Or.inl rfl)) q1w)))) (λ_ _ _ _ _=>q1r) (λ_ _ _ _ _=>(q13 (pa_2 (qy q2k (pv 2) qf) (pv 1))))))))) qx)),?_⟩
  refine⟨_,zr,_,zr,a,_,dx,_,_,zr,ins,T.q1n,T.q5m,zr,_,zr,_,_,_,_,zr,zr,SqL.of b8,ql (j:=0) rfl,p,_,b0,_,_,zr,b6,T.q1s,T.q9w,zr,_,zr,aq,d0,[],[],zr,SqT.of b3,Y,by decide,λqa H1 s1 b7=>?_⟩;refine⟨by show 2<=sizeLine;decide,λmk hmk=>?_⟩;have s2:=qc (o:=HO.tup [V.int 0,.ref qa]) hmk;have e2:=qb (H:=H1) (a:=mk) (o:=HO.tup [V.int 0,.ref qa]);have S2:=s1.trans s2;have a8:NAt (upd H1 mk (.tup [V.int 0,.ref qa])) (mN 0 []) (.ref mk):=qt5 (j:=0) e2 (s2 _ _ b7);have E2:=EX.same S2;generalize upd H1 mk (.tup [V.int 0,.ref qa])=H2 at*;have nok:NOk (mN 0 []):=qq8 λ_ z=>nomatch z;refine⟨_,zr,_,zr,a,_,dx,_,_,zr,S2 _ _ ins,T.q1n,T.q8r,zr,O,mk,_,mN 0 [],zr,zr,J.same S2,a8,nok,_,zr,iteT ?_⟩;refine⟨_,zr,a,_,dx,_,_,zr,S2 _ _ ins,T.q1n,T.q8r,zr,_,zr,O,mk,_,mN 0 [],zr,zr,J.same S2,a8,nok,by decide,λoS dn=>?_⟩;have nS:∀ys,H2 O≠some (.tup ys):=λys e=>by
   obtain⟨_,e1,_⟩:=J.same S2;rw[e1]at e;cases e
  have E3:=E2.own (o:=oS) C.S0 b1 nS;have ne:∀{b o},b≠O->H2 b=some o->upd H2 O oS b=some o:=λn e=>by rw[qk n];exact e
  have nl:∀{b xs},H2 b=some (.lst xs)->b≠O:=λ{b xs} e z=>by
   obtain⟨_,e1,_⟩:=J.same S2;rw[z,e1]at e;cases e
  have a1:=ne (nl (S2 _ _ hB)) (S2 _ _ hB);have b4:=ne (λz=>by obtain⟨_,e1,_⟩:=J;rw[z,e1]at Y;cases Y) (S2 _ _ Y);have c0:∀b o,b≠B->b≠O->S b=none->H b=some o->upd H2 O oS b=some o:=λb o _ n _ e=>ne n (S2 _ _ e);generalize upd H2 O oS=H3 at*;refine⟨_,zr,a,_,dx,_,_,zr,E3.ty.cst C.ins,T.q1n,T.q48,zr,.inl ⟨zr,_,SqL.of a1⟩,?_⟩;obtain⟨a9,_,_,_,_,_,_,_,a7,_⟩:=E3.ty p _ C.p;refine⟨_,rfl,a,_,dx,_,_,rfl,E3.ty.cst C.ins,T.q1n,T.q5m,rfl,_,rfl,_,_,_,_,rfl,rfl,SqL.of (E3.ty.cst C.st),ql (j:=0) rfl,p,a9,_,rfl,a7,rfl,_,rfl,g,S,p,d0,ts,[],[],[],rfl,E3.ty,C.p,o,by decide,b4,(λ_ z=>nomatch z),by decide,rfl,λS4 H4 D pr q4 bg E4 hD0 hDS hD b5 hq4 a3=>?_⟩;have C4:=C.up E4.up;have EE:=E3.trans E4;have a6:=E4.st _ _ a5 a1;have B4:=E4.nn _ _ a5 a1;refine⟨D,zr,⟨_,SqL.of hD⟩,λG hG=>?_⟩;refine q1d 1 (λi σ' H'=>(∃v1 v2,σ'=[v1,v2,some (.int 0)])/\Same H4 H'/\((i=0/\H' G=some (.lst []))\/ (i=1/\∃u,H' G=some (.lst [.ref u])/\H' u=some (.tup [.int 1,.ref bg])))) ⟨⟨_,_,zr⟩,qc hG,.inl ⟨zr,qb⟩⟩ (λi σ' H' hi p=>⟨_,_,SqL.of (p.2.1 _ _ hD),z0b hi⟩) (λσ' H' p=>⟨⟨_,SqL.of (p.2.1 _ _ hD),z3j _⟩,?_⟩) (λi σ' H' hi p x H2 y=>?_)
  ·obtain⟨_,Z,⟨z,_⟩ | ⟨_,u,e1,e2⟩⟩:=p
   ·cases z
   ·have a2:=Z _ _ a6;have BG:u≠B:=λz=>by rw[z,a2]at e2;cases e2
    refine⟨B,G,[],[.ref u],rfl,rfl,a2,e1,by show 0+1<=_;decide,?_⟩;have a4:∀{b o},b≠B->H' b=some o->upd H' B (.lst ([]++ [.ref u])) b=some o:=λn e=>by rw[qk n];exact e
    refine k S4 _ u bg ((EE.same Z).own C.B0 B4 (by rw[a2];nofun)) E4.up (λb o n1 n2 n3 e=>a4 n1 (Z _ _ (E4.st _ _ n3 (c0 b o n1 n2 n3 e)))) B4 qb (a4 BG e2) (a4 (λz=>by rw[z,a6]at a3;cases a3) (Z _ _ a3))
  ·obtain⟨⟨v1,v2,rfl⟩,Z,⟨rfl,e1⟩ | ⟨rfl,_⟩⟩:=p
   ·obtain⟨rfl,hx⟩:=y;have b9:=hx _ (SqL.of (Z _ _ hD));cases b9
    refine⟨_,_,zr,SqT.of (Z _ _ b5),zr,_,_,zr,_,_,zr,zr,?_⟩;refine⟨_,rfl,_,_,rfl,rfl,_,rfl,by show 2<=sizeLine;decide,λu hu=>?_⟩;have s6:=qc (o:=HO.tup [V.int ((0:Int)+1),.ref bg]) hu;have uG:u≠G:=λz=>by rw[z,e1]at hu;cases hu
    exact⟨_,s6 _ _ e1,by decide,⟨_,_,rfl⟩,(Z.trans s6).set hG,.inr ⟨rfl,u,qb,by rw[qk uG];exact qb⟩⟩
   ·exact absurd hi (z34 1)
def quw(P:Program)(w:World)(mg:xE)(vs:List V)(H:Hp)(Q:V->Hp->Prop)(g:Gx)(S0:Sty)(H0:Hp)(S:Sty)(a dx hp hq st p B Sd x0 d0 sd:Addr)(ts:List Key)(v:V):Prop:=vs=[.ref a,.ref sd]/\Ex P w mg g S0 H0 S H/\HdC mg S H0 a dx hp st p B Sd ts/\One g.t g.R ts/\H hp=some (.tup [.str g.t,.ref hq])/\H hq=some (.tup (ts.map kV))/\S B=none/\S Sd=none/\S d0=some (.cst (.dK []))/\H B=some (.lst [.ref x0])/\H x0=some (.tup [.int 0,.ref d0])/\DN P w H Sd []/\(∃oo,S sd=some (.cst oo))/\DP P w H sd [((g.t,g.R),v)]/\
 ∀S' H',Ex P w mg g S0 H0 S' H'->Q .non H'
inductive sp_fol (P:Program) (w:World) (mg:xE) (vs:List V) (H:Hp) (Q:VK) (_x3:XK):Prop
 | mk:∀(g:Gx) (S0:Sty) (H0:Hp) (S:Sty) (a:Addr) (dx:Addr) (hp:Addr) (hq:Addr) (st:Addr) (p:Addr) (B:Addr) (Sd:Addr) (x0:Addr) (d0:Addr) (sd:Addr) (ts:List Key) (v:V),(quw P w mg vs H Q g S0 H0 S a dx hp hq st p B Sd x0 d0 sd ts v)->sp_fol P w mg vs H Q _x3
def FlI(P:Program)(w:World)(mg:xE)(g:Gx)(S0:Sty)(H0:Hp)(S:Sty)(H:Hp)(a sd hp hq B:Addr)(ts:List Key)(v:V)(m:Nat)(σ:List (Option V))(G:Hp)(v2 v3:Option V)(S1:Sty):Prop:=σ=[some (.ref a),some (.ref sd),v2,v3]/\Ex P w mg g S0 H0 S1 G/\(∀b τ,S b=some τ->S1 b=some τ)/\S1 B=none/\G hp=some (.tup [.str g.t,.ref hq])/\G hq=some (.tup (ts.map kV))/\DP P w G sd [((g.t,g.R),v)]/\((m=0/\G B=some (.lst []))\/ (∃x b bd,0 < m/\G B=some (.lst [.ref x])/\G x=some (.tup [.int 1,.ref b])/\G b=some (.dK bd)/\ts.map (Wy.tv bd)=g.R.map kV)\/ (m=2/\S1=S/\G=H))
def q78(T:Txt K mg):MDef P w K mg base 9 (cA mg "Heads") "following" ["self","standing"] (sp_fol P w mg):=by
 refine T.qd9.ok q4t (λvs H Q E h=>?_) λf cdv A outer s H vs Q E hr h=>?_
 ·obtain⟨g,S0,H0,S,a,dx,hp,hq,st,p,B,Sd,x0,d0,sd,ts,v,rfl,_⟩:=h;rfl
 ·obtain⟨g,S0,H0,S,a,dx,hp,hq,st,p,B,Sd,x0,d0,sd,ts,v,rfl,EX,C,o,b3,b4,a5,b0,b1,hB,b6,a6,⟨oo,a1⟩,a8,kk⟩:=h;have l4:=o.l4;have b7:sd≠B:=λz=>by rw[z,a5]at a1;cases a1
  refine⟨_,(q1x
   (qip PassesOwn.never (q14 q7r (qw (q1o K) rfl T.b_len q2a (pa_1 (qo (pv 0) rfl))) qf (q1c _)) (q3a
   (qm (i:=2) q4t.nd rfl (Or.inl rfl) (qos z0i PySem.F.slot_list_pop PySem.F.type_list_pop qw2 (qo (pv 0) rfl)))
   (qm (i:=3) q4t.nd rfl (Or.inl rfl) (qh (q60 T) hr rfl (pa_2 (qt (qq K) (qo (pv 0) rfl) qf (λ_ _=>rfl)) (qt (qq K) (pv 2) qf (λ_ _=>rfl)))))
   (q18 (q65 (q5y (P:=P) (w:=w) hr.units (q13 (pa_2 (qt (qq K) (qo (pv 0) rfl) qf (λ_ _=>rfl)) (pv 3))) (pv 1))) (q1x
   (q18 (q14 q4z (qt (qq K) (pv 2) qf (λ_ _=>rfl)) (qw (q1o K) rfl T.b_len q2a (pa_1 (qo (pv 0) rfl))) (q1c _)) (qg (qj (pv 3))) qx)
   (q1g (qz (qcy T) T.q1n hr (pv 0) (pa_2 (qt (qq K) (pv 2) qf (λ_ _=>rfl)) (qt (qq K) (pv 2) qf (λ_ _=>rfl)))))) qx)))
   (qj q3f)),?_⟩
  refine⟨λm σ G=>∃(v2 v3:Option V) (S1:Sty),FlI P w mg g S0 H0 S H a sd hp hq B ts v m σ G v2 v3 S1,⟨2,none,none,S,zr,EX,λ_ _ h=>h,a5,b3,b4,a8,.inr (.inr ⟨zr,zr,zr⟩)⟩,?_⟩;rintro m σ G ⟨v2,v3,S1,rfl,E1,U,BS,a3,a4,a9,a7⟩;have C1:=C.up U;have ins:=E1.ty.cst C1.ins;obtain⟨xs,O,lx⟩:∃xs,G B=some (.lst xs)/\(m=0\/ xs.length=1):=by
   rcases a7 with ⟨e,h⟩ | ⟨x,b,bd,_,h,_⟩ | ⟨_,_,h⟩
   ·exact⟨_,h,.inl e⟩
   ·exact⟨_,h,.inr rfl⟩
   ·rw[h];exact⟨_,hB,.inr rfl⟩
  refine⟨_,zr,a,_,dx,_,_,zr,ins,T.q1n,T.q48,zr,_,_,zr,.inl ⟨_,SqL.of O,zr⟩,_,_,zr,zr,_,zr,?_⟩;have pop:∀(x b:Addr) (i:Int) (bd:List (Key×V)),xs=[.ref x]->G x=some (.tup [.int i,.ref b])->G b=some (.dK bd)->∀(Z:Hp),Z=upd G B (.lst [])->Ex P w mg g S0 H0 S1 Z/\Z B=some (.lst [])/\Z x=some (.tup [.int i,.ref b])/\Z b=some (.dK bd)/\Z hp=some (.tup [.str g.t,.ref hq])/\Z hq=some (.tup (ts.map kV))/\DP P w Z sd [((g.t,g.R),v)]/\(∀{c o},c≠B->G c=some o->Z c=some o):=λx b i bd ex h1 h2 Z e1=>by
   subst e1;subst ex;have ne:∀{c o},c≠B->G c=some o->upd G B (.lst []) c=some o:=λn e=>by rw[qk n];exact e
   have nt:∀{c ys},G c=some (.tup ys)->c≠B:=λ{c ys} e z=>by rw[z,O]at e;cases e
   exact⟨E1.own C.B0 BS (by rw[O];nofun),qb,ne (nt h1) h1,ne (λz=>by rw[z,O]at h2;cases h2) h2,ne (nt a3) a3,ne (nt a4) a4,(let ⟨zs,e,r⟩:=a9;⟨zs,ne b7 e,r.keeps λb ys e=>ne (nt e) e⟩),ne⟩
  rcases a7 with ⟨rfl,h⟩ | ⟨x,b,bd,m0,h,hx,hb,eR⟩ | ⟨rfl,rfl,rfl⟩
  ·rw[h]at O;cases O
   exact q1y (z2d (Int.lt_irrefl 0)) (kk S1 G E1)
  ·rw[h]at O;cases O
   refine q3p (z2s (show (0:Int) < 1 by decide)) ?_;refine⟨λσ' H'=>∃m',m' < m/\∃(v2 v3:Option V) (S1:Sty),FlI P w mg g S0 H0 S H a sd hp hq B ts v m' σ' H' v2 v3 S1,λ_ _ h=>h,?_⟩;refine⟨_,zr,a,_,dx,_,_,zr,ins,T.q1n,T.q48,zr,.inl ⟨zr,_,SqL.of h⟩,B,_,_,zr,zr,h,zr,?_⟩;obtain⟨F1,F2,F3,F4,F5,F6,F7,F8⟩:=pop x b 1 bd rfl hx hb _ rfl;show qeg 2 _ _ (upd G B (.lst [])) _;generalize upd G B (.lst [])=Z at*;refine⟨_,zr,a,_,dx,_,_,zr,F1.ty.cst C1.ins,T.q1n,T.q4x,zr,_,_,_,_,zr,zr,SqT.of F5,ql (j:=1) rfl,_,zr,_,_,_,_,zr,zr,SqT.of F3,ql (j:=1) rfl,hq,b,ts,bd,zr,SqT.of F6,F4,by lia,λr G2 s2 Y=>?_⟩;rw[eR]at Y;refine⟨_,rfl,a,_,dx,_,_,rfl,(F1.same s2).ty.cst C1.ins,T.q1n,T.q4x,rfl,_,_,_,_,rfl,rfl,SqT.of (s2 _ _ F5),ql (j:=0) rfl,_,rfl,by show 2<=sizeLine;decide,λpr a2=>?_⟩;have s3:=qc (o:=HO.tup [V.str g.t,.ref r]) a2;have J:=s2.trans s3;refine⟨_,zr,sd,pr,_,pN (g.t,g.R),zr,zr,F7.same J,pr_at.mpr ⟨r,qb,s3 _ _ Y⟩,q6h ⟨o.nm,o.lR,o.gR⟩,_,zr,?_⟩;rw[valP,q15 (p:=((g.t,g.R),v)) rfl];exact iteF ⟨0,m0,_,_,S1,zr,F1.same J,U,BS,J _ _ F5,J _ _ F6,F7.same J,.inl ⟨zr,J _ _ F2⟩⟩
  ·rw[hB]at O;cases O
   refine q3p (z2s (show (0:Int) < 1 by decide)) ?_;refine⟨λσ' H'=>∃m',m' < 2/\∃(v2 v3:Option V) (S2:Sty),σ'=[some (.ref a),some (.ref sd),v2,v3]/\Ex P w mg g S0 H0 S2 H'/\(∀b τ,S1 b=some τ->S2 b=some τ)/\S2 B=none/\H' hp=some (.tup [.str g.t,.ref hq])/\H' hq=some (.tup (ts.map kV))/\DP P w H' sd [((g.t,g.R),v)]/\((m'=0/\H' B=some (.lst []))\/ (∃x b bd,0 < m'/\H' B=some (.lst [.ref x])/\H' x=some (.tup [.int 1,.ref b])/\H' b=some (.dK bd)/\ts.map (Wy.tv bd)=g.R.map kV)\/ (m'=2/\S2=S1/\H'=G)),λ_ _ h=>h,?_⟩;refine⟨_,zr,a,_,dx,_,_,zr,ins,T.q1n,T.q48,zr,.inl ⟨zr,_,SqL.of hB⟩,B,_,_,zr,zr,hB,zr,?_⟩;obtain⟨F1,F2,F3,F4,F5,F6,F7,F8⟩:=pop x0 d0 0 [] rfl b6 (EX.ty.cst b1) _ rfl;have dS:DN P w (upd G B (.lst [])) Sd []:=qaa a6 (λz=>by obtain⟨_,e,_⟩:=a6;rw[z,hB]at e;cases e) λb o n e=>F8 n e;show qeg 2 _ _ (upd G B (.lst [])) _;generalize upd G B (.lst [])=Z at*;refine⟨_,zr,a,_,dx,_,_,zr,F1.ty.cst C1.ins,T.q1n,T.q4x,zr,_,_,_,_,zr,zr,SqT.of F5,ql (j:=1) rfl,_,zr,_,_,_,_,zr,zr,SqT.of F3,ql (j:=1) rfl,hq,d0,ts,[],zr,SqT.of F6,F4,by lia,λr G2 s2 Y=>?_⟩;have Y:G2 r=some (.tup (ts.map kV)):=Y;refine⟨_,rfl,a,_,dx,_,_,rfl,(F1.same s2).ty.cst C1.ins,T.q1n,T.q4x,rfl,_,_,_,_,rfl,rfl,SqT.of (s2 _ _ F5),ql (j:=0) rfl,_,rfl,by show 2<=sizeLine;decide,λpr a2=>?_⟩;have s3:=qc (o:=HO.tup [V.str g.t,.ref r]) a2;have e3:=qb (H:=G2) (a:=pr) (o:=HO.tup [V.str g.t,.ref r]);have b5:=s3 _ _ Y;have J:=s2.trans s3;have E3:=F1.same J;have D3:=F7.same J;generalize upd G2 pr (.tup [V.str g.t,.ref r])=G3 at*;refine⟨_,zr,sd,pr,_,pN (g.t,ts),zr,zr,D3,pr_at.mpr ⟨r,e3,b5⟩,(qc5 (d:=0) o.nm o.tx).nok,_,zr,?_⟩;rw[valP];by_cases hs:g.R=ts
   ·rw[q15 (p:=((g.t,g.R),v)) (by rw[hs])];exact iteF ⟨0,by decide,_,_,S1,zr,E3,λ_ _ h=>h,BS,J _ _ F5,J _ _ F6,D3,.inl ⟨zr,J _ _ F2⟩⟩
   ·rw[q26 (p:=((g.t,g.R),v)) (λz=>hs (by injection z))];refine iteT ?_;refine⟨_,rfl,_,_,_,_,rfl,rfl,SqT.of (J _ _ F3),ql (j:=0) rfl,_,rfl,a,_,dx,_,_,rfl,E3.ty.cst C1.ins,T.q1n,T.q5m,rfl,_,_,rfl,.inl ⟨_,SqL.of (E3.ty.cst C1.st),rfl⟩,rfl,_,rfl,q1y (z2d (show ¬ V.int 0=V.int 1 from λz=>nomatch z)) ?_⟩;refine⟨_,zr,a,dx,_,zr,E3.ty.cst C1.ins,zr,_,zr,_,_,_,_,zr,zr,SqT.of (J _ _ F3),ql (j:=0) rfl,_,zr,_,_,_,_,zr,zr,SqT.of (J _ _ F3),ql (j:=1) rfl,g,S0,H0,S1,a,dx,hp,st,p,B,Sd,d0,ts,zr,E3,C1,o,BS,b0,J _ _ F4,J _ _ F2,dS.same J,λS4 G4 x bg E4 U4 kp B4 e1 e2 e4=>?_⟩;have tu:∀{c ys},G3 c=some (.tup ys)->G4 c=some (.tup ys):=λ{c ys} e=>kp c _ (λz=>by rw[z,J _ _ F2]at e;cases e) (λz=>by obtain⟨_,q,_⟩:=dS.same J;rw[z,q]at e;cases e) (E3.ty.tup e) e;have d4:DP P w G4 sd [((g.t,g.R),v)]:=let ⟨zs,e,r⟩:=D3;⟨zs,(E4.ty.cst (U4 _ _ a1)).trans ((E3.ty.cst a1).symm.trans e),r.keeps λb ys e=>tu e⟩
    exact⟨1,by decide,_,_,S4,zr,E4,U4,B4,tu (J _ _ F5),tu (J _ _ F6),d4,.inr (.inl ⟨x,bg,_,by decide,e1,e2,e4,o.put2⟩)⟩
def qux(P:Program)(w:World)(mg:xE)(vs:List V)(H:Hp)(Q:V->Hp->Prop)(H0:Hp)(p dx r tt Lr:Addr)(t:Str)(R ts:List Key):Prop:=vs=[.ref p,.ref r,.ref tt]/\Same H0 H/\H0 p=none/\H p=some (.ins (cA mg "Heads") dx [])/\NAt H0 (rK t ts) (.ref r)/\One t R ts/\H0 tt=some (.dK [(.inr t,.ref Lr)])/\
 ∀hp hq A sp dxs tq sq dq aq x0 d0 B Sd H',Same H0 H'->H' p=some (.ins (cA mg "Heads") dx (hdF hp A B Sd))->H' hp=some (.tup [.str t,.ref hq])->H' hq=some (.tup (ts.map kV))->H0 A=none->H' A=some (.lst [.ref sp])->H0 sp=none->H' sp=some (.ins (cA mg "Step") dxs (stF t tq Lr sq .non dq aq))->H' tq=some (.tup (ts.map kV))->H' sq=some (.tup [])->H0 dq=none->H' dq=some (.lst [])->H' aq=some (.tup [])->
  H0 B=none->H' B=some (.lst [.ref x0])->H' x0=some (.tup [.int 0,.ref d0])->H0 d0=none->H' d0=some (.dK [])->H0 Sd=none->DN P w H' Sd []->Q .non H'
inductive sp_hin (P:Program) (w:World) (mg:xE) (vs:List V) (H:Hp) (Q:VK) (_x3:XK):Prop
 | mk:∀(H0:Hp) (p:Addr) (dx:Addr) (r:Addr) (tt:Addr) (Lr:Addr) (t:Str) (R:List Key) (ts:List Key),(qux P w mg vs H Q H0 p dx r tt Lr t R ts)->sp_hin P w mg vs H Q _x3
def qi4(T:Txt K mg):MDef P w K mg base 10 (cA mg "Heads") "__init__" ["self","rule","tables"] (sp_hin P w mg):=by
 refine T.qkd.ok qi2 (λvs H Q E h=>?_) λf cdv A outer s H vs Q E hr h=>?_
 ·obtain⟨H0,p,dx,r,tt,Lr,t,R,ts,rfl,_⟩:=h;rfl
 ·obtain⟨H0,p,dx,r,tt,Lr,t,R,ts,rfl,s0,Z,d2,b9,o,hT,kk⟩:=h;obtain⟨hp,l,c,p2,b0,d1,_,_,hc⟩:=ru_at.mp b9;obtain⟨hq,h1,h2⟩:=pr_at.mp d1;have h1:H0 hp=some (.tup [.str t,.ref hq]):=h1;have h2:H0 hq=some (.tup (ts.map kV)):=h2;have l4:=o.l4;have vl:=q3k ts;refine⟨_,(q4k
   (q1h (pv 0) (qt (qq K) (pv 1) qf (λ_ _=>rfl)) rfl)
   (q1h (pv 0) (qh (qdk T) hr rfl (pa_4 (pv 1) (pv 2) (q1f q1i) (qh (q2f T) hr rfl (pa_1 (qt (qq K) (qt (qq K) (pv 1) qf (λ_ _=>rfl)) qf (λ_ _=>rfl)))))) rfl)
   (q1h (pv 0) (qah (q1z (qh (q9u T) hr rfl (pa_2 (qh (q5t T) hr rfl (pa_2 (qt (qq K) (pv 1) qf (λ_ _=>rfl)) (q1f q1i))) q4n))) (q1f (pa_1 (q13 (pa_2 qf q4n)))) (q1f q1i)) rfl)
   (q1h (pv 0) (q6s (P:=P) (w:=w)) rfl)),?_⟩
  refine⟨_,zr,_,_,_,_,zr,zr,SqT.of (s0 _ _ b0),ql (j:=0) rfl,_,zr,?_⟩;refine q1j [] s0 Z d2 T.q1n T.q4x (by show 0 < 1000;decide) rfl rfl λH1 S1 a9 _=>?_;refine⟨_,zr,_,zr,by decide,λL hL=>?_⟩;have s2:=qc (o:=HO.lst []) hL;have S2:=S1.trans s2;refine⟨_,zr,_,_,_,_,zr,zr,SqT.of (S2 _ _ b0),ql (j:=0) rfl,_,_,_,_,zr,zr,SqT.of (S2 _ _ h1),ql (j:=1) rfl,hq,ts,zr,SqT.of (S2 _ _ h2),o.tx,by lia,λW H3 s3 hW0 hW=>?_⟩;have S3:=S2.trans s3;refine⟨r,tt,L,W,Lr,t,ts,q19 ts,[],rfl,⟨b9.same S3,o.tx,l4,s3 _ _ qb,(λ_ z=>nomatch z),z3m _,hW,λu hu=>o.tx u (z2e.mp hu).1,by lia⟩,S3 _ _ hT,λA sp c5 tq sq dq aq us H4 s4 c6 hA J d5 d6 a4 b6 dqA c9 c8 mu _=>?_⟩;obtain rfl:us=[]:=List.eq_nil_iff_forall_not_mem.mpr λu hu=>nomatch mu u hu;have a4:H4 sq=some (.tup []):=by
   have:shK ts []=[]:=List.filter_eq_nil_iff.mpr (λu _ (h:false=true)=>nomatch h);rw[this]at a4;exact a4
  have S4:=S3.trans s4;have b8:=(s2.trans (s3.trans s4)) _ _ a9;refine⟨_,zr,?_⟩;refine q1j ["head"] S4 Z b8 T.q1n T.q5m (by show 1 < 1000;decide) rfl (by decide+kernel) λH5 S5 d3 k5=>?_;have ni:∀{x o},H4 x=some o->(∀C dx fs,o≠ .ins C dx fs)->H5 x=some o:=λ{x o} e n=>k5 x o (λz=>by rw[z,b8]at e;cases e;exact n _ _ _ rfl) e;have c0:=k5 _ _ (λz=>by rw[z,(s2.trans s3) _ _ a9]at J;cases J) d5;refine⟨_,zr,_,_,_,_,zr,zr,SqT.of (S5 _ _ b0),ql (j:=2) rfl,by decide,λL9 c7=>?_⟩;have s6:=qc (o:=HO.lst []) c7;refine⟨c,_,zr,(S5.trans s6) _ _ hc,λD H7 s7 _ hD=>?_⟩;refine λem d0=>?_;have s8:=qc (o:=HO.dK []) d0;refine⟨D,_,zr,s8 _ _ hD,λH9 s9=>?_⟩;have t9:=s6.trans (s7.trans (s8.trans s9));refine⟨_,zr,iteT ?_⟩;refine λY b5=>⟨by show 2<=sizeLine;decide,λq d4=>⟨by show 1<=sizeLine;decide,λB hB=>?_⟩⟩;have a1:=qc (o:=HO.dK []) b5;have a2:=qc (o:=HO.tup [V.int 0,.ref Y]) d4;have a3:=qc (o:=HO.lst [V.ref q]) hB;have i1:=a3 _ _ (a2 _ _ (qb (H:=H9) (a:=Y) (o:=HO.dK [])));have i2:=a3 _ _ (qb (H:=upd H9 Y (.dK [])) (a:=q) (o:=HO.tup [V.int 0,.ref Y]));have eB:=qb (H:=upd (upd H9 Y (.dK [])) q (.tup [V.int 0,.ref Y])) (a:=B) (o:=HO.lst [V.ref q]);have O:=t9.trans (a1.trans (a2.trans a3));have c4:=(S5.trans t9).free b5;have B0:=(S5.trans (t9.trans (a1.trans a2))).free hB;generalize upd (upd (upd H9 Y (.dK [])) q (.tup [V.int 0,.ref Y])) B (.lst [V.ref q])=b3 at*;have a5:=O _ _ d3;refine⟨_,zr,?_⟩;refine q1j ["head","steps"] (S5.trans O) Z a5 T.q1n T.q48 (by show 2 < 1000;decide) rfl (by decide+kernel) λH11 b4 a6 d7=>?_;refine λSd oS hS dS=>?_;have b1:=qc (o:=oS) hS;refine⟨_,zr,?_⟩;refine q1j ["head","steps","begun"] (b4.trans b1) Z (b1 _ _ a6) T.q1n T.q8r (by show 3 < 1000;decide) rfl (by decide+kernel) λa7 a8 b7 c1=>?_;have kB:∀{x o},x≠p->b3 x=some o->a7 x=some o:=λn e=>c1 _ _ n (b1 _ _ (d7 _ _ n e));have kN:∀{x o},b3 x=some o->(∀C dx fs,o≠ .ins C dx fs)->a7 x=some o:=λ{x o} e n=>kB (λz=>by rw[z,a5]at e;cases e;exact n _ _ _ rfl) e;have d8:sp≠p:=λz=>by rw[z,(s2.trans s3) _ _ a9]at J;cases J
  exact kk hp hq A sp c5 tq sq dq aq q Y B Sd a7 a8 b7 (a8 _ _ h1) (a8 _ _ h2) (S3.free c6) (kN (O _ _ (ni hA nofun)) nofun) (S3.free J) (kB d8 (O _ _ c0)) (kN (O _ _ (ni d6 nofun)) nofun) (kN (O _ _ (ni a4 nofun)) nofun) (S3.free b6) (kN (O _ _ (ni c9 nofun)) nofun) (kN (O _ _ (ni c8 nofun)) nofun) B0 (kN eB nofun) (kN i2 nofun) c4 (kN i1 nofun) (b4.free hS) (qaa dS (λz=>by rw[z,a6]at hS;cases hS) c1)
inductive sp_few (P:Program) (w:World) (vs:List V) (H:Hp) (Q:VK) (_x3:XK):Prop
 | mk:∀(d:Addr) (kvs:List (PR×V)),(vs=[.ref d])->(DP P w H d kvs)->(kvs.length<=60)->(Q .non H)->sp_few P w vs H Q _x3
def qf9(T:Txt K mg):Def P w K mg base 1 "ask_few_rows" ["standing"] (sp_few P w):=by
 refine T.qgo.ok qf3 (λvs H Q E h=>?_) λf cdv A outer s H vs Q E hr h=>?_
 ·obtain⟨d,kvs,rfl,_⟩:=h;rfl
 ·obtain⟨d,kvs,rfl,hd,hl,k⟩:=h;refine⟨_,(qg (q18 (q14 q7r (qw (qbs P w) rfl T.b_len q2a (pa_1 (pv 0))) (q93 rfl T.qlo) (q1c _)) (qg qey) qx)),?_⟩;refine⟨_,rfl,d,_,rfl,hd,_,_,rfl,rfl,_,rfl,q1y (z2d (by rw[z2h];lia)) ?_⟩;exact k
def quy(P:Program)(w:World)(vs:List V)(H:Hp)(Q:V->Hp->Prop)(d b:Addr)(p:PR):Prop:=vs=[.ref d,.ref b]/\DP P w H d []/\NAt H (pN p) (.ref b)/\q77 p/\∀o,DP P w (upd H d o) d [(p,.bl true)]->Q .non (upd H d o)
inductive sp_let (P:Program) (w:World) (vs:List V) (H:Hp) (Q:VK) (_x3:XK):Prop
 | mk:∀(d:Addr) (b:Addr) (p:PR),(quy P w vs H Q d b p)->sp_let P w vs H Q _x3
def qc6(T:Txt K mg):Def P w K mg base 2 "let_stand" ["standing","pair"] (sp_let P w):=by
 refine T.qlc.ok qjl (λvs H Q E h=>?_) λf cdv A outer s H vs Q E hr h=>?_
 ·obtain⟨d,b,p,rfl,_⟩:=h;rfl
 ·obtain⟨d,b,p,rfl,hd,hb,g,k⟩:=h;refine⟨_,(q1x
   (q6t (P:=P) (w:=w) hr.units (pv 0) (pv 1) q4i rfl)
   (q1g (qh (qf9 T) hr rfl (pa_1 (pv 0))))),?_⟩
  refine⟨_,rfl,_,rfl,d,b,_,pN p,rfl,rfl,hd,hb,q6h g,by show 0 < _;decide,λo J=>?_⟩;rw[putP]at J;exact⟨_,rfl,d,_,rfl,J,by show 1<=60;decide,k o J⟩
def quz(P:Program)(w:World)(mg:xE)(vs:List V)(H:Hp)(Q:V->Hp->Prop)(g:Gx)(S:Sty)(sd b tt:Addr)(ts:List Key)(v:V):Prop:=vs=[.ref sd,.ref b,.ref tt]/\Ty P w mg g S H/\One g.t g.R ts/\NAt H (rK g.t ts) (.ref b)/\Tb g S H tt/\(∃oo,S sd=some (.cst oo))/\DP P w H sd [((g.t,g.R),v)]/\∀S' H',Ex P w mg g S H S' H'->Q .non H'
inductive sp_lhs (P:Program) (w:World) (mg:xE) (vs:List V) (H:Hp) (Q:VK) (_x3:XK):Prop
 | mk:∀(g:Gx) (S:Sty) (sd:Addr) (b:Addr) (tt:Addr) (ts:List Key) (v:V),(quz P w mg vs H Q g S sd b tt ts v)->sp_lhs P w mg vs H Q _x3
def qc7(T:Txt K mg):Def P w K mg base 12 "let_heads_stand" ["standing","rule","tables"] (sp_lhs P w mg):=by
 refine T.qd6.ok q3i (λvs H Q E h=>?_) λf cdv A outer s H vs Q E hr h=>?_
 ·obtain⟨g,S,sd,b,tt,ts,v,rfl,_⟩:=h;rfl
 ·obtain⟨g,S,sd,b,tt,ts,v,rfl,ty,o,hn,⟨Lr,q,ht,hL,hq⟩,⟨oo,a7⟩,hD,kk⟩:=h;refine⟨_,(q3a
   (qm (i:=3) q3i.nd rfl (Or.inl rfl) (q8c (qi4 T) T.qsg T.qsn hr rfl T.qvk (pa_2 (pv 1) (pv 2))))
   (qm (i:=4) q3i.nd rfl (Or.inl rfl) (qz (q78 T) T.q1n hr (pv 3) (pa_1 (pv 0))))
   (qip PassesOwn.never (q14 qa2 (pv 4) q3f (q1c _)) (q1x
   (q1g (qh (qc6 T) hr rfl (pa_2 (pv 0) (q13 (pa_2 (qt (qq K) (qt (qq K) (pv 1) qf (λ_ _=>rfl)) qf (λ_ _=>rfl)) (pv 4))))))
   (qm (i:=4) q3i.nd rfl (Or.inl rfl) (qz (q78 T) T.q1n hr (pv 3) (pa_1 (pv 0))))))),?_⟩
  refine⟨_,zr,_,zr,λx dx nx a9 _=>⟨H,x,dx,b,tt,Lr,g.t,g.R,ts,zr,(qc a9).set nx,nx,qb,hn,o,ty.cst ht,λhp a6 A sp a5 tq sq dq aq x0 d0 B Y H1 S1 e1 e2 e3 n4 e4 n5 J e6 e7 n8 e8 e9 a3 O a1 a8 Z a4 a2=>⟨zr,?_⟩⟩⟩;have ne:∀{c d:Addr} {o o':HO},H1 c=some o->H1 d=some o'->o≠o'->c≠d:=λh1 h2 n z=>n (by rw[z,h2]at h1;injection h1 with h1;exact h1.symm);obtain⟨φ,hφ⟩:∃φ,H1 Y=some (.ext φ):=let ⟨_,e,_⟩:=a2;⟨_,e⟩
  have E1:=(ty.ex.same S1).frz [B,Y,sp];have fz:∀{c o},H c=none->H1 c=some o->c≠B->c≠Y->c≠sp->(∀ys,o≠ .tup ys)->frz [B,Y,sp] H S H1 c=some (.cst o):=λn e b1 b2 b3 nt=>q4v n (ty.fresh n) (by simp[b1,b2,b3]) e nt;have AB:A≠B:=ne e4 O λz=>by
   injection z with z;injection z with z;injection z with z;rw[z,a1]at J;cases J
  have fA:=fz n4 e4 AB (ne e4 hφ nofun) (ne e4 J nofun) nofun;have fd:=fz n8 e8 (ne e8 O nofun) (ne e8 hφ nofun) (ne e8 J nofun) nofun;have f0:=fz a8 Z (ne Z O nofun) (ne Z hφ nofun) (ne Z J nofun) nofun;have xs:x≠sp:=λz=>by rw[<- z,e1]at J;injection J with J;injection J with _ _ J;cases J
  have fx:=fz nx e1 (ne e1 O nofun) (ne e1 hφ nofun) xs nofun;have nB:frz [B,Y,sp] H S H1 B=none:=q3t (ty.fresh a3) (.inl (by simp));have nS:frz [B,Y,sp] H S H1 Y=none:=q3t (ty.fresh a4) (.inl (by simp));have np:frz [B,Y,sp] H S H1 sp=none:=q3t (ty.fresh n5) (.inl (by simp));have up:∀{c σ},S c=some σ->frz [B,Y,sp] H S H1 c=some σ:=λh=>q6j h;generalize frz [B,Y,sp] H S H1=S2 at*;have pu:=q32 (τ:= .stp ts [] []) np;have E2:=E1.new (.stp ts [] []) n5 np ⟨a5,tq,Lr,sq,dq,aq,q,.non,J,e6,pu _ _ (up hL),S1 _ _ hq,e7,pu _ _ fd,e9,.inl rfl⟩;have b0:B≠sp:=ne O J nofun;have b4:Y≠sp:=ne hφ J nofun;refine⟨_,rfl,x,dx,_,rfl,e1,rfl,_,rfl,g,S,H,_,x,dx,hp,a6,A,sp,B,Y,x0,d0,sd,ts,v,rfl,E2,⟨pu _ _ fx,pu _ _ fA,q2c,a3,a4⟩,o,e2,e3,by rw[q22 b0];exact nB,by rw[q22 b4];exact nS,pu _ _ f0,O,a1,a2,⟨oo,pu _ _ (up a7)⟩,hD.same S1,λS3 H3 E3=>?_⟩;refine⟨λm σ G=>σ=[some (.ref sd),some (.ref b),some (.ref tt),some (.ref x),some .non]/\G=H3,⟨0,zr,zr⟩,?_⟩;rintro m σ G ⟨rfl,rfl⟩;exact⟨_,zr,zr,_,zr,iteF (kk S3 G E3)⟩
noncomputable def onceN (ks : List NK) : List NK := (putNs (ks.map fun k => (k, V.bl true)) []).map (·.1)
def qs4{α:Type}[DecidableEq α]{m:List (α×V)}{k x:α}{v:V}:x∈(putK m k v).map (·.1)↔x∈m.map (·.1)\/ x=k:=by
 unfold putK;rw[q2q];split
 ·rename_i h;have e:(m.map λJ=>if J.1=k then (J.1,v) else J).map (·.1)=m.map (·.1):=by
   rw[z3i];refine z14 λy _=>?_;show (if y.1=k then (y.1,v) else y).1=y.1;split <;> rfl
  rw[e];refine⟨.inl,λz=>z.elim id λz=>?_⟩;rw[z];cases q:valV m k with
  | none=>rw[q]at h;cases h
  | some y=>exact qtu q
 ·rw[z2n,z2c];exact⟨λz=>z.elim .inl λz=> .inr (z1a.mp z),λz=>z.elim .inl λz=> .inr (z1a.mpr z)⟩
theorem qhl:∀{ps m:List (NK×V)} {x:NK},x∈(putNs ps m).map (·.1)↔x∈m.map (·.1)\/ x∈ps.map (·.1)
 | [],m,x=>⟨.inl,λz=>z.elim id λz=>nomatch z⟩
 | p::ps,m,x=>by
  show x∈(putNs ps (putK m p.1 p.2)).map (·.1)↔_;rw[qhl,qs4,z30,z32];exact⟨λz=>z.elim (λz=>z.elim .inl λz=> .inr (.inl z)) λz=> .inr (.inr z),λz=>z.elim (λz=> .inl (.inl z)) λz=>z.elim (λz=> .inl (.inr z)) .inr⟩
def qqa{ks:List NK}{x:NK}:x∈onceN ks↔x∈ks:=by
 unfold onceN;rw[qhl,z3i];exact⟨λz=>z.elim (λz=>nomatch z) λz=>by obtain⟨y,hy,rfl⟩:=z3h.mp z;exact hy,λz=> .inr (z3h.mpr ⟨x,z,rfl⟩)⟩
def RuV(H:Hp)(x:V)(k:NK):Prop:=∃b,x=V.ref b/\NAt H k (.ref b)
theorem RuV.same{H H':Hp}{x:V}{k:NK}(s:Same H H')(h:RuV H x k):RuV H' x k:=let ⟨b,e,h⟩:=h;⟨b,e,h.same s⟩
inductive sp_onceN (K:xA) (vs:List V) (H:Hp) (Q:VK) (_x3:XK):Prop
 | mk:∀(a:Addr) (rs:List V) (ks:List NK),(vs=[.ref a])->(SqL K H a rs)->(Paired (RuV H) rs ks)->((∀k∈ks,NOk k))->(rs.length<=100)->(∀l zs H',Same H H'->H l=none->H' l=some (.lst zs)->Paired (RuV H') zs (onceN ks)->Q (.ref l) H')->sp_onceN K vs H Q _x3
def qjv(T:Txt K mg):Def P w K mg base 3 "each_once" ["rules"] (sp_onceN K):=by
 refine T.qlk.ok qjk (λvs H Q E h=>?_) λf cdv A outer s H vs Q E hr h=>?_
 ·obtain⟨a,rs,ks,rfl,_⟩:=h;rfl
 ·obtain⟨a,rs,ks,rfl,ha,pr,ok,lr,k⟩:=h;refine⟨_,(qg (qj (q1u (qnp P w rfl) rfl T.qka qfx (pa_1 (q1u (qno P w hr.units rfl K) rfl T.qfh qco (pa_1 (q1a (N:=["rule"]) (caps:=[none]) rfl (by with_unfolding_all rfl) (q11 K (pv 0)) (λ_ _ _ _ _=>(qi (i:=0) (show (["rule"]:xD).Nodup by decide+kernel) rfl (Or.inl rfl))) (λ_ _ _ _ _=>q1r) (λ_ _ _ _ _=>(q13 (pa_2 (pv 0) q4i)))))))))),?_⟩;refine⟨_,zr,a,zr,⟨_,ha⟩,λD hD=>?_⟩;have pl:=Paired.length pr;have kd:∀{J G:Hp} {xs:List V} {qs:List NK},(∀b ys,J b=some (.tup ys)->G b=some (.tup ys))->Paired (λx k=>∃q b,x=V.ref q/\J q=some (.tup [.ref b,.bl true])/\NAt J k (.ref b)) xs qs->Paired (λx k=>∃q b,x=V.ref q/\G q=some (.tup [.ref b,.bl true])/\NAt G k (.ref b)) xs qs:=λ{J G xs qs} s p=>L2.Paired.mapP p λ_ _ ⟨q,b,e,h1,h2⟩=>⟨q,b,e,s _ _ h1,h2.keep s⟩;refine q1d rs.length (λi σ' J=>(∃v,σ'=[v])/\Same H J/\∃xs,J D=some (.lst xs)/\xs.length=i/\Paired (λx k=>∃q b,x=V.ref q/\J q=some (.tup [.ref b,.bl true])/\NAt J k (.ref b)) xs (ks.take i)) ⟨⟨_,zr⟩,qc hD,[],qb,zr,.nil⟩ (λi σ' J hi p=>?_) (λσ' J p=>⟨?_,?_⟩) (λi σ' J hi p x E3 y=>?_)
  ·exact⟨_,_,p.2.1.seq ha,z0b hi⟩
  ·exact⟨_,p.2.1.seq ha,z3j _⟩
  ·obtain⟨_,Y,xs,hx,lx,px⟩:=p;rw[pl,z2b]at px;have pn:∀{ys:List V} {Z:List NK},(∀k∈Z,NOk k)->Paired (λx k=>∃q b,x=V.ref q/\J q=some (.tup [.ref b,.bl true])/\NAt J k (.ref b)) ys Z->Paired (qje K J) ys (Z.map λk=>(k,V.bl true)):=by
    intro ys Z o p
    induction p with
    | nil=>exact .nil
    | cons a r ih=>
     obtain⟨q,b,e,h1,h2⟩:=a;exact .cons ⟨q,b,e,SqT.of h1,h2,o _ (z1c ..)⟩ (ih λk hk=>o k (z0v _ hk))
   refine⟨D,xs,_,zr,SqL.of hx,pn ok px,λd o hd dn=>?_⟩;refine⟨d,_,zr,dn,λl zs hl pz=>?_⟩;have s2:=qc (o:=o) hd;have s3:=qc (o:=HO.lst zs) hl;exact k l zs _ (Y.trans (s2.trans s3)) (Y.free (s2.free hl)) qb (L2.Paired.mapP pz λ_ _ ⟨b,e,h⟩=>⟨b,e,h.same s3⟩)
  ·obtain⟨⟨v1,rfl⟩,Y,xs,hx,lx,px⟩:=p;obtain⟨rfl,hy⟩:=y;have a2:=hy _ (Y.seq ha);obtain⟨kk,a1,b,rfl,hb⟩:=q2m pr a2;refine⟨_,rfl,by show 2<=sizeLine;decide,λq hq=>?_⟩;have s3:=qc (o:=HO.tup [V.ref b,.bl true]) hq;have S3:=Y.trans s3;have O:=s3 _ _ hx;have e3:=qb (H:=E3) (a:=q) (o:=HO.tup [V.ref b,.bl true]);have a3:=kd (λb ys e=>s3 _ _ e) px;generalize upd E3 q (.tup [V.ref b,.bl true])=G at*;have kt:∀a ys,G a=some (.tup ys)->upd G D (.lst (xs++ [V.ref q])) a=some (.tup ys):=λa ys h=>by
    rw[qk (λz=>by rw[z,O]at h;cases h)];exact h
   refine⟨_,O,by rw[lx];exact z1e (show _ < 2000 by lia) (by decide),⟨_,rfl⟩,S3.set hD,xs++ [.ref q],qb,by rw[z1b,lx];rfl,?_⟩;rw[z2x,a1];exact L2.q40 (kd kt a3) ⟨q,b,zr,kt _ _ e3,(hb.same S3).keep kt⟩
structure Gx.Ok (g:Gx):Prop where
 nm:txtB smaS g.nm=true
 pg:q77 (g.t,g.R)
 one:∀ts∈g.tss,One g.t g.R ts
 m3:g.tss.length<=3
structure Inp (g:Gx) (S:Sty) (H:Hp) (a b:Addr):Prop where
 fs:∃fp q,H a=some (.lst [.ref fp])/\H fp=some (.tup [.str g.nm,.str g.t,.ref q])/\H q=some (.tup (g.R.map kV))
 rl:∃rs,H b=some (.lst rs)/\Paired (RuV H) rs (g.tss.map (rK g.t))
 na:S a=none
 nb:S b=none
section
variable{P:Program}{w:World}{K:xA}{mg:xE}{base:Heap}{g:Gx}{S S':Sty}{H H':Hp}{a b:Addr}
def Inp.ex(h:Inp g S H a b)(E:Ex P w mg g S H S' H'):Inp g S' H' a b:=
 let ⟨fp,q,h1,h2,h3⟩:=h.fs
 let ⟨rs,h4,h5⟩:=h.rl
 ⟨⟨fp,q,E.st _ _ h.na h1,E.tup h2,E.tup h3⟩,⟨rs,E.st _ _ h.nb h4,L2.Paired.mapP h5 λ_ _ ⟨r,e,z⟩=>⟨r,e,z.keep λ_ _ e=>E.tup e⟩⟩,E.nn _ _ h.na h1,E.nn _ _ h.nb h4⟩
def qab(P:Program)(w:World)(vs:List V)(H:Hp)(Q:V->Hp->Prop)(g:Gx)(S:Sty)(a b:Addr):Prop:=vs=[.ref a]/\Inp g S H a b/\g.Ok/\∀d H',Same H H'->H d=none->DP P w H' d [((g.t,g.R),.bl true)]->Q (.ref d) H'
inductive sp0_ok_rows_of_facts (P:Program) (w:World) (vs:List V) (H:Hp) (Q:VK) (_x3:XK):Prop
 | mk:∀(g:Gx) (S:Sty) (a:Addr) (b:Addr),(qab P w vs H Q g S a b)->sp0_ok_rows_of_facts P w vs H Q _x3
def qe6(T:Txt K mg):Def P w K mg base 3 "rows_of_facts" ["facts"] (sp0_ok_rows_of_facts P w):=by
 refine T.qfp.ok q37 (λvs H Q E h=>?_) λf cdv A outer s H vs Q E hr h=>?_
 ·obtain⟨g,S,a,b,rfl,_⟩:=h;rfl
 ·obtain⟨g,S,a,b,rfl,⟨⟨fp,q,ha,hp,hq⟩,_⟩,ok,k⟩:=h;refine⟨_,(q3a
   (qm (i:=1) q37.nd rfl (Or.inl rfl) (q6s (P:=P) (w:=w)))
   (q1k PassesOwn.never rfl (q11 K (pv 0)) (q3g rfl (qv (qi (i:=2) q37.nd rfl (Or.inl rfl)) (qv (qi (i:=3) q37.nd rfl (Or.inl rfl)) (qv (qi (i:=4) q37.nd rfl (Or.inl rfl)) q1w)))) (qg (q1g (qh (qc6 T) hr rfl (pa_2 (pv 1) (q13 (pa_2 (pv 3) (pv 4))))))))
   (qj (pv 1))),?_⟩
  refine λD o O dn=>?_;have s1:=qc (o:=o) O;refine⟨_,zr,a,zr,⟨_,SqL.of (s1 _ _ ha)⟩,q1t (xs:=[.ref fp]) (λi σ G=>∃(v2 v3 Z:Option V),σ=[some (.ref a),some (.ref D),v2,v3,Z]/\Same H G/\DP P w G D (if i=0 then [] else [((g.t,g.R),.bl true)])) ⟨none,none,none,zr,s1,dn⟩ (λi σ G _ z=>?_) ?_ ?_⟩
  ·obtain⟨_,_,_,_,z,_⟩:=z;exact SqL.of (z _ _ ha)
  ·rintro i x σ G hx ⟨v2,v3,Z,rfl,J,Y⟩;obtain rfl:i=0:=Nat.lt_one_iff.mp (z06.mp hx).1;cases hx
   refine⟨fp,_,zr,SqT.of (J _ _ hp),zr,_,_,zr,_,_,zr,_,_,zr,zr,?_⟩;refine⟨_,rfl,⟨_,rfl,_,rfl,by show 2<=sizeLine;decide,λb hb=>?_⟩⟩;have s2:=qc (o:=HO.tup [V.str g.t,.ref q]) hb;have S2:=J.trans s2;exact⟨D,b,(g.t,g.R),zr,Y.same s2,pr_at.mpr ⟨q,qb,S2 _ _ hq⟩,ok.pg,λo2 d2=>⟨_,_,_,zr,S2.set O,d2⟩⟩
  ·rintro σ G ⟨v2,v3,Z,rfl,J,Y⟩;exact⟨_,zr,k D G J O Y⟩
def qv0(P:Program)(w:World)(mg:xE)(vs:List V)(H:Hp)(Q:V->Hp->Prop)(g:Gx)(S:Sty)(a b:Addr)(n:Nat):Prop:=vs=[.ref a,.ref b,.int n]/\Ty P w mg g S H/\Inp g S H a b/\g.Ok/\n<=5/\
 ∀S' l tt H',Ex P w mg g S H S' H'->H l=none->S' l=none->H' l=some (.lst (List.replicate (n+1) (.ref tt)))->Tb g S' H' tt->Q (.ref l) H'
inductive sp_tbr (P:Program) (w:World) (mg:xE) (vs:List V) (H:Hp) (Q:VK) (_x3:XK):Prop
 | mk:∀(g:Gx) (S:Sty) (a:Addr) (b:Addr) (n:Nat),(qv0 P w mg vs H Q g S a b n)->sp_tbr P w mg vs H Q _x3
def qc8(T:Txt K mg):Def P w K mg base 13 "tables_by_round" ["facts","rules","rounds"] (sp_tbr P w mg):=by
 refine T.qd1.ok q2b (λvs H Q E h=>?_) λf cdv A outer s H vs Q E hr h=>?_
 ·obtain⟨g,S,a,b,n,rfl,_⟩:=h;rfl
 ·obtain⟨g,S,a,b,n,rfl,ty,a4,ok,n5,kk⟩:=h;refine⟨_,(q4k
   (qm (i:=3) q2b.nd rfl (Or.inl rfl) (qh (qe6 T) hr rfl (pa_1 (pv 0))))
   (qm (i:=4) q2b.nd rfl (Or.inl rfl) (q1f (pa_1 (qh (q8l T) hr rfl (pa_1 (pv 3))))))
   (q1k PassesOwn.never rfl (q3v rfl T.q63 (pa_1 (pv 2))) (qi (i:=5) q2b.nd rfl (Or.inl rfl)) (q4k
   (qm (i:=6) q2b.nd rfl (Or.inl rfl) (qw (qbs P w) rfl T.b_len q2a (pa_1 (pv 3))))
   (q1k PassesOwn.never rfl (q11 K (qh (qjv T) hr rfl (pa_1 (pv 1)))) (qi (i:=7) q2b.nd rfl (Or.inl rfl)) (qg (q1g (qh (qc7 T) hr rfl (pa_3 (pv 3) (pv 7) (qt (q27 K) (pv 4) (pv 5) (λ_ _=>rfl)))))))
   (q18 (q14 q4z (qw (qbs P w) rfl T.b_len q2a (pa_1 (pv 3))) (pv 6) (q1c _)) (qg (qj (qy q85 (pv 4) (qy (qup K) (q1f (pa_1 (qt (q27 K) (pv 4) (pv 5) (λ_ _=>rfl)))) (qy qa0 (pv 2) (pv 5)))))) qx)
   (q1g (q4j z0i z0e z0f q2y (pv 4) (pa_1 (qh (q8l T) hr rfl (pa_1 (pv 3))))))))
   (qj (pv 4))),?_⟩
  refine⟨_,zr,g,S,a,b,zr,a4,ok,λd H1 s1 b0 hd=>?_⟩;refine⟨_,zr,d,_,_,zr,hd,ok.pg,λJ L q H2 s2 b6 a8 ht hL hq=>?_⟩;refine⟨by show 1<=sizeLine;decide,λl hl=>?_⟩;have s3:=qc (o:=HO.lst [.ref J]) hl;have a6:=s2.trans s3;have S3:=s1.trans a6;have d3:=hd.same a6;have Y:=qb (H:=H2) (a:=l) (o:=HO.lst [.ref J]);have l0:=(s1.trans s2).free hl;have e1:=s3 _ _ ht;have e2:=s3 _ _ hL;have e3:=s3 _ _ hq;have tl:J≠l:=λz=>by rw[z,hl]at ht;cases ht
  have Ll:L≠l:=λz=>by rw[z,hl]at hL;cases hL
  have dl:d≠l:=λz=>by obtain⟨_,e,_⟩:=hd.same s2;rw[z,hl]at e;cases e
  generalize upd H2 l (.lst [.ref J])=H3 at*;have E3:=(ty.ex.same S3).frz [l];have fz:∀{c o},H c=none->H3 c=some o->c≠l->(∀ys,o≠ .tup ys)->frz [l] H S H3 c=some (.cst o):=λn e b1 nt=>q4v n (ty.fresh n) (by simp[b1]) e nt;have ft:=fz (s1.free b6) e1 tl nofun;have fL:=fz (s1.free a8) e2 Ll nofun;obtain⟨φ,hφ⟩:∃φ,H3 d=some (.ext φ):=let ⟨_,e,_⟩:=d3;⟨_,e⟩
  have fd:=fz b0 hφ dl nofun;have nl:frz [l] H S H3 l=none:=q3t (ty.fresh l0) (.inl (by simp));generalize frz [l] H S H3=O at*;have i3:=a4.ex E3;refine⟨_,zr,n,zr,by lia,by lia,q5w (lo:=0) (n:=n) (λi σ G=>i=0/\σ=[some (.ref a),some (.ref b),some (.int n),some (.ref d),some (.ref l),none,none,none]/\G=H3) ⟨zr,zr,zr⟩ ?_ ?_⟩
  ·rintro i σ G hi ⟨rfl,rfl,rfl⟩;obtain⟨rs,hb,a5⟩:=i3.rl;have lr:=Paired.length a5;rw[z2h]at lr;have m3:=ok.m3;refine⟨_,zr,d,_,zr,d3,?_⟩;refine⟨_,zr,b,rs,_,zr,SqL.of hb,a5,?_,by lia,λLz zs G2 s4 b7 hz pz=>?_⟩
   ·intro k hk;obtain⟨ts,a1,rfl⟩:=z3h.mp hk;exact qq9 (ok.one ts a1)
   have E4:=E3.same s4;have a7:O Lz=none:=E3.ty.fresh b7;refine⟨Lz,zr,⟨_,SqL.of hz⟩,q1t (xs:=zs) (λj σ G'=>∃(v7:Option V) (S':Sty),σ=[some (.ref a),some (.ref b),some (.int n),some (.ref d),some (.ref l),some (.int (0+(0:Nat))),some (.int (([((g.t,g.R),V.bl true)]:List (PR×V)).map λkv=>(pN kv.1,kv.2)).length),v7]/\Ex P w mg g O G2 S' G') ⟨_,O,zr,E4.ty.ex⟩ (λj σ G' _ z=>?_) ?_ ?_⟩
   ·obtain⟨_,_,_,z⟩:=z;exact SqL.of (z.st _ _ a7 hz)
   ·rintro j x σ G' hx ⟨b8,S',rfl,F⟩;obtain⟨kx,b3,b',rfl,a9⟩:=q2m pz hx;obtain⟨ts,a1,rfl⟩:=z3h.mp (qqa.mp (z0x b3));have dF:DP P w G' d [((g.t,g.R),.bl true)]:=q3m (λ_ _ e=>F.tup e) ((F.ty.cst (F.up _ _ fd)).trans (E4.ty.cst fd).symm) (d3.same s4);refine⟨_,zr,_,zr,_,zr,_,zr,_,_,_,_,zr,zr,SqL.of (F.st _ _ nl (s4 _ _ Y)),ql (j:=0) rfl,g,S',d,b',J,ts,_,zr,F.ty,ok.one ts a1,a9.keep λ_ _ e=>F.tup e,⟨L,q,F.up _ _ ft,F.up _ _ fL,F.tup (s4 _ _ e3)⟩,⟨_,F.up _ _ fd⟩,dF,λS2 G3 F2=>?_⟩;exact⟨_,S2,zr,F.trans F2⟩
   ·rintro σ G' ⟨b8,S',rfl,F⟩;have dF:DP P w G' d [((g.t,g.R),.bl true)]:=q3m (λ_ _ e=>F.tup e) ((F.ty.cst (F.up _ _ fd)).trans (E4.ty.cst fd).symm) (d3.same s4);have a3:=F.st _ _ nl (s4 _ _ Y);refine⟨_,zr,d,_,zr,dF,_,zr,zr,_,zr,q3p (z2s rfl) ?_⟩;refine⟨_,zr,_,zr,_,zr,_,_,_,_,zr,zr,SqL.of a3,ql (j:=0) rfl,?_⟩;refine⟨by show 1<=sizeLine;decide,λq' b5=>?_⟩;refine⟨_,zr,_,zr,_,_,zr,zr,?_⟩;have s5:=qc (o:=HO.lst [.ref J]) b5;refine⟨q',_,[.ref J],rfl,rfl,SqL.of qb,(λz=>nomatch z),by lia,by lia,by show 1<=1000;decide,λu hu=>?_⟩;have s6:=qc (o:=HO.lst (List.replicate ((n:Int) - (0+(0:Nat))).toNat [V.ref J]).flatten) hu;have b4:((n:Int) - (0+((0:Nat):Int))).toNat=n:=by lia
    have lr:(List.replicate n [V.ref J]).flatten=List.replicate n (V.ref J):=by simp
    rw[b4,lr]at s6 ⊢;refine⟨l,u,_,_,rfl,rfl,(s5.trans s6) _ _ a3,qb,by rw[List.length_replicate];exact z3d (show 1+n<=1000 by lia) (by decide),λr Z=>?_⟩;have a2:=s5.trans s6;have s7:=a2.trans (qc (o:=HO.lst ([V.ref J]++List.replicate n (V.ref J))) Z);have F7:=(E4.trans F).same s7;have r0:=((E4.trans F).same a2).free Z;exact kk S' r J _ F7 r0 (((E4.trans F).same a2).ty.fresh Z) qb ⟨L,q,F.up _ _ ft,F.up _ _ fL,s7 _ _ (F.tup (s4 _ _ e3))⟩
  ·rintro σ G ⟨rfl,rfl,rfl⟩;exact⟨_,zr,kk O l J _ E3 l0 nl Y ⟨L,q,ft,fL,e3⟩⟩
end
theorem qgf(m:Nat):∀n,0 < cnt m n
 | 0=>Int.zero_lt_one
 | n+1=>by
  have:=Int.mul_nonneg (Int.natCast_nonneg m) (z38 (qgf m n));show 0 < 1+m*cnt m n
  lia
def qjw{m n:Nat}(hm:m<=3)(hn:n<=5):cnt m n < 1000:=by
 have h:∀(a:Fin 4) (b:Fin 6),cnt a.1 b.1 < 1000:=by decide
 exact h ⟨m,by lia⟩ ⟨n,by lia⟩
def strK:Key->Str
 | .inr z=>z
 | .inl _=>""
def qaw(ts:List Key):List Str:=(q19 ts).map strK
def qax(ts:List Key):(qaw ts).map Sum.inr=q19 ts:=by
 unfold qaw;rw[z3i];have:∀t∈q19 ts,(Sum.inr∘strK) t=t:=λt ht=>by
  have:=(z2e.mp ht).2;cases t with
  | inl i=>cases this
  | inr z=>rfl
 rw[z14 this,List.map_id']
def qqb(ts:List Key):(qaw ts).map V.str=(q19 ts).map kV:=by
 rw[<- qax,z3i];rfl
def qv1(ts:List Key):shK ts (qaw ts)=q19 ts:=by
 unfold shK;rw[qax];exact List.filter_eq_self.mpr λu hu=>qml.mpr hu
def qs5{t:Str}{R ts:List Key}(o:One t R ts){us:xD}(h:∀u∈us,.inr u∈q19 ts):∀u∈mKey (us.map Sum.inr) (bdK R ts),GoodK u:=λu hu=>by
 obtain⟨x,hx,rfl⟩:=z3h.mp hu;obtain⟨z,hz,rfl⟩:=z3h.mp hx;obtain⟨m1,m2⟩:=z2e.mp (h z hz);obtain⟨i,hi,e⟩:=z0t.mp m1;have hr:i < R.length:=by rw[<- o.len];exact hi
 have hm:(ts[i],R[i])∈ts.zip R:=by
  have hl:i < (ts.zip R).length:=by rw[List.length_zip];lia
  have:=z22 hl;rw[List.getElem_zip]at this;exact this
 rw[e]at hm;unfold Wy.tv;rw[qgc OnlyV.nil o.bd hm m2];show GoodK (vK (kV R[i]));rw[qt4];exact o.gR _ (z22 hr)
inductive sp_k (v:V) (vs:List V) (H:Hp) (Q:VK) (_x3:XK):Prop
 | mk:∀(p:Addr),(vs=[.ref p])->(Q v H)->sp_k v vs H Q _x3
def q5u(T:Txt K mg):MDef P w K mg base 1 (cA mg "Counts") "nought" ["self"] (sp_k (.int 0)):=by
 refine T.qfk.ok qdz (λvs H Q E h=>?_) λf cdv A outer s H vs Q E hr h=>?_
 ·obtain⟨p,rfl,_⟩:=h;rfl
 ·obtain⟨p,rfl,q⟩:=h;exact⟨_,(qg (qj qf)),q⟩
def qac(T:Txt K mg):MDef P w K mg base 1 (cA mg "Counts") "unit" ["self"] (sp_k (.int 1)):=by
 refine T.qi7.ok qg7 (λvs H Q E h=>?_) λf cdv A outer s H vs Q E hr h=>?_
 ·obtain⟨p,rfl,_⟩:=h;rfl
 ·obtain⟨p,rfl,q⟩:=h;exact⟨_,(qg (qj qf)),q⟩
def qad(vs:List V)(H:Hp)(Q:V->Hp->Prop)(p:Addr)(i j:Int):Prop:=vs=[.ref p,.int i,.int j]/\Q (.int (i+j)) H
inductive sp0_ok_Counts_either (vs:List V) (H:Hp) (Q:VK) (_x3:XK):Prop
 | mk:∀(p:Addr) (i:Int) (j:Int),(qad vs H Q p i j)->sp0_ok_Counts_either vs H Q _x3
def q8n(T:Txt K mg):MDef P w K mg base 1 (cA mg "Counts") "either" ["self","one","other"] (sp0_ok_Counts_either):=by
 refine T.qfm.ok qe0 (λvs H Q E h=>?_) λf cdv A outer s H vs Q E hr h=>?_
 ·obtain⟨p,i,j,rfl,_⟩:=h;rfl
 ·obtain⟨p,i,j,rfl,q⟩:=h;exact⟨_,(qg (qj (qy q2k (pv 1) (pv 2)))),⟨_,zr,_,zr,_,_,zr,zr,q⟩⟩
def qba(vs:List V)(H:Hp)(Q:V->Hp->Prop)(p:Addr)(i j:Int):Prop:=vs=[.ref p,.int i,.int j]/\qt0 i j/\Q (.int (i*j)) H
inductive sp0_ok_Counts_both (vs:List V) (H:Hp) (Q:VK) (_x3:XK):Prop
 | mk:∀(p:Addr) (i:Int) (j:Int),(qba vs H Q p i j)->sp0_ok_Counts_both vs H Q _x3
def qgg(T:Txt K mg):MDef P w K mg base 1 (cA mg "Counts") "both" ["self","one","other"] (sp0_ok_Counts_both):=by
 refine T.qi6.ok qg8 (λvs H Q E h=>?_) λf cdv A outer s H vs Q E hr h=>?_
 ·obtain⟨p,i,j,rfl,_⟩:=h;rfl
 ·obtain⟨p,i,j,rfl,b,q⟩:=h;exact⟨_,(qg (qj (qy qu3 (pv 1) (pv 2)))),⟨_,zr,_,zr,_,_,zr,zr,b,q⟩⟩
def qv2(P:Program)(w:World)(mg:xE)(vs:List V)(H:Hp)(Q:V->Hp->Prop)(H0:Hp)(p dx r tt Lr:Addr)(t:Str)(R ts:List Key)(bv ah:V):Prop:=vs=[.ref p,.ref r,.ref tt,bv,ah]/\Same H0 H/\H0 p=none/\H p=some (.ins (cA mg "Sums") dx [])/\NAt H0 (rK t ts) (.ref r)/\One t R ts/\H0 tt=some (.dK [(.inr t,.ref Lr)])/\
 ∀hq du A sp dxs tq sq dq aq (us:xD) sn H',Same H0 H'->H' p=some (.ins (cA mg "Sums") dx (sumF hq du A bv ah sn))->H' hq=some (.tup (ts.map kV))->H0 du=none->H' du=some (.lst [])->H0 A=none->H' A=some (.lst [.ref sp])->H0 sp=none->H' sp=some (.ins (cA mg "Step") dxs (stF t tq Lr sq .non dq aq))->H' tq=some (.tup (ts.map kV))->H' sq=some (.tup ((q19 ts).map kV))->H0 dq=none->H' dq=some (.lst [])->H' aq=some (.tup (us.map V.str))->(∀u∈us,.inr u∈q19 ts)->us.length<=4->H0 sn=none->DN P w H' sn []->Q .non H'
inductive sp_sin (P:Program) (w:World) (mg:xE) (vs:List V) (H:Hp) (Q:VK) (_x3:XK):Prop
 | mk:∀(H0:Hp) (p:Addr) (dx:Addr) (r:Addr) (tt:Addr) (Lr:Addr) (t:Str) (R:List Key) (ts:List Key) (bv:V) (ah:V),(qv2 P w mg vs H Q H0 p dx r tt Lr t R ts bv ah)->sp_sin P w mg vs H Q _x3
def qjx(T:Txt K mg):MDef P w K mg base 10 (cA mg "Sums") "__init__" ["self","rule","tables","by","ahead"] (sp_sin P w mg):=by
 refine T.qlj.ok qc1 (λvs H Q E h=>?_) λf cdv A outer s H vs Q E hr h=>?_
 ·obtain⟨H0,p,dx,r,tt,Lr,t,R,ts,bv,ah,rfl,_⟩:=h;rfl
 ·obtain⟨H0,p,dx,r,tt,Lr,t,R,ts,bv,ah,rfl,s0,J,c8,b7,o,hT,kk⟩:=h;obtain⟨hp,l,c,p2,a3,c7,_,_,hc⟩:=ru_at.mp b7;obtain⟨hq,h1,h2⟩:=pr_at.mp c7;have h1:H0 hp=some (.tup [.str t,.ref hq]):=h1;have h2:H0 hq=some (.tup (ts.map kV)):=h2;have l4:=o.l4;have vl:=q3k ts;have d6:(qaw ts).length<=4:=by unfold qaw;rw[z2h];lia
  refine⟨_,(qxu
   (q1h (pv 0) (qt (qq K) (qt (qq K) (pv 1) qf (λ_ _=>rfl)) qf (λ_ _=>rfl)) rfl)
   (qm (i:=5) qc1.nd rfl (Or.inl rfl) (qh (q2f T) hr rfl (pa_1 (qt (qq K) (qt (qq K) (pv 1) qf (λ_ _=>rfl)) qf (λ_ _=>rfl)))))
   (q1h (pv 0) (qh (q5t T) hr rfl (pa_2 (qt (qq K) (pv 1) qf (λ_ _=>rfl)) (pv 5))) rfl)
   (q1h (pv 0) (qh (qdk T) hr rfl (pa_4 (pv 1) (pv 2) (pv 5) (q1f q1i))) rfl)
   (q1h (pv 0) (pv 3) rfl)
   (q1h (pv 0) (pv 4) rfl)
   (q1h (pv 0) (q6s (P:=P) (w:=w)) rfl)),?_⟩
  refine⟨_,zr,_,_,_,_,zr,zr,SqT.of (s0 _ _ a3),ql (j:=0) rfl,_,_,_,_,zr,zr,SqT.of (s0 _ _ h1),ql (j:=1) rfl,_,zr,?_⟩;refine q1j [] s0 J c8 T.q12 T.q7p (by show 0 < 1000;decide) rfl rfl λH1 S1 c9 _=>?_;refine⟨_,zr,_,_,_,_,zr,zr,SqT.of (S1 _ _ a3),ql (j:=0) rfl,_,_,_,_,zr,zr,SqT.of (S1 _ _ h1),ql (j:=1) rfl,hq,ts,zr,SqT.of (S1 _ _ h2),o.tx,by lia,λL H3 s3 hL0 hL=>?_⟩;have S3:=S1.trans s3;have b3:=s3 _ _ c9;have Lp:L≠p:=λz=>by rw[z,b3]at hL;cases hL
  refine⟨_,zr,_,_,_,_,zr,zr,SqT.of (S3 _ _ a3),ql (j:=2) rfl,_,zr,c,_,zr,S3 _ _ hc,λdu H4 s4 a9 a2=>?_⟩;have S4:=S3.trans s4;have b4:=s4 _ _ b3;refine⟨_,zr,?_⟩;refine q1j ["head_terms"] S4 J b4 T.q12 T.qfo (by show 1 < 1000;decide) rfl (by decide+kernel) λH5 S5 b5 k5=>?_;have b0:=k5 _ _ (λz=>by rw[z,b4]at a2;cases a2) a2;have c4:=k5 _ _ Lp (s4 _ _ hL);refine⟨_,zr,_,zr,_,zr,by decide,λW hW=>?_⟩;have Z:=qc (o:=HO.lst []) hW;refine⟨r,tt,L,W,Lr,t,ts,[],qaw ts,rfl,⟨b7.same (S5.trans Z),o.tx,l4,by rw[qqb];exact Z _ _ c4,λz hz=>?_,d6,qb,(λ_ z=>nomatch z),z3m _⟩,(S5.trans Z) _ _ hT,λA sp c0 tq sq dq aq us H7 s7 c1 hA O d2 d3 b8 a8 dqA c6 c5 mu lu=>?_⟩
  ·have:(.inr z:Key)∈q19 ts:=by rw[<- qax];exact List.mem_map_of_mem hz
   exact o.tx _ (z2e.mp this).1
  rw[qv1]at b8;have mu:∀u∈us,(.inr u:Key)∈q19 ts:=λu hu=>by rw[<- qax];exact List.mem_map_of_mem (mu u hu)
  have a5:=Z.trans s7;have S7:=S5.trans a5;have b6:=a5 _ _ b5;refine⟨_,zr,?_⟩;refine q1j ["head_terms","due"] S7 J b6 T.q12 T.q39 (by show 2 < 1000;decide) rfl (by decide+kernel) λH8 S8 d0 k8=>?_;refine⟨_,zr,_,zr,?_⟩;refine q1j ["head_terms","due","steps"] S8 J d0 T.q12 T.q62 (by show 3 < 1000;decide) rfl (by decide+kernel) λH9 S9 d1 k9=>?_;refine⟨_,zr,_,zr,?_⟩;refine q1j ["head_terms","due","steps","by"] S9 J d1 T.q12 T.qcj (by show 4 < 1000;decide) rfl (by decide+kernel) λH10 a6 Y d4=>?_;refine λsn oS hS dS=>?_;have a4:=qc (o:=oS) hS;refine⟨_,zr,?_⟩;refine q1j ["head_terms","due","steps","by","ahead"] (a6.trans a4) J (a4 _ _ Y) T.q12 T.q4d (by show 5 < 1000;decide) rfl (by decide+kernel) λa1 a7 b1 b9=>?_;have kB:∀{x o},x≠p->H7 x=some o->a1 x=some o:=λn e=>b9 _ _ n (a4 _ _ (d4 _ _ n (k9 _ _ n (k8 _ _ n e))));have kN:∀{x o},H7 x=some o->(∀C dx fs,o≠ .ins C dx fs)->a1 x=some o:=λ{x o} e n=>kB (λz=>by rw[z,b6]at e;cases e;exact n _ _ _ rfl) e;have d5:sp≠p:=λz=>by rw[z,Z _ _ b5]at O;cases O
  exact kk hq du A sp c0 tq sq dq aq us sn a1 a7 b1 (a7 _ _ h2) (S3.free a9) (kN (a5 _ _ b0) nofun) ((S5.trans Z).free c1) (kN hA nofun) ((S5.trans Z).free O) (kB d5 d2) (kN d3 nofun) (kN b8 nofun) ((S5.trans Z).free a8) (kN c6 nofun) (kN c5 nofun) mu lu (a6.free hS) (qaa dS (λz=>by rw[z,Y]at hS;cases hS) b9)
def qs6(P:Program)(w:World)(mg:xE)(vs:List V)(H:Hp)(Q:V->Hp->Prop)(g:Gx)(S:Sty)(a r:Addr)(ts:List Key)(k:Nat)(ho:HO):Prop:=vs=[.ref a,.ref r]/\Ty P w mg g S H/\S a=some (.sum ts k ho)/\H r=some (.tup (g.R.map kV))/\∀b H',Same H H'->H b=none->H' b=some (.dK (bdK g.R ts))->Q (.ref b) H'
inductive sp_bfor (P:Program) (w:World) (mg:xE) (vs:List V) (H:Hp) (Q:VK) (_x3:XK):Prop
 | mk:∀(g:Gx) (S:Sty) (a:Addr) (r:Addr) (ts:List Key) (k:Nat) (ho:HO),(qs6 P w mg vs H Q g S a r ts k ho)->sp_bfor P w mg vs H Q _x3
def q6o(T:Txt K mg):MDef P w K mg base 6 (cA mg "Sums") "binding_for" ["self","row"] (sp_bfor P w mg):=by
 refine T.qch.ok q6m (λvs H Q E h=>?_) λf cdv A outer s H vs Q E hr h=>?_
 ·obtain⟨g,S,a,r,ts,k,ho,rfl,_⟩:=h;rfl
 ·obtain⟨g,S,a,r,ts,k,ho,rfl,ty,ha,hR,kk⟩:=h;obtain⟨dx,hq,du,st,p,ob,ah,sn,us,rfl,ins,h2,J,_,_,_,_,_,_,_,o⟩:=ty a _ ha;have l4:=o.l4;refine⟨_,(q1x
   (qm (i:=2) q6m.nd rfl (Or.inl rfl) (qh (qf6 T) hr rfl (pa_3 (qo (pv 0) rfl) (pv 1) q4n)))
   (qj (qah (PW.pt (qog (q14 qa2 (pv 2) q3f (q1c _)) (qls (q1z (qh (q9u T) hr rfl (pa_2 (qo (pv 0) rfl) (pv 2))))))) (pv 2) q3f))),?_⟩
  refine⟨_,zr,a,_,dx,_,_,zr,ins,T.q12,T.q7p,zr,_,zr,λe he=>?_⟩;have s1:=qc (o:=HO.dK []) he;refine⟨hq,r,e,ts,g.R,[],rfl,SqT.of (s1 _ _ h2),SqT.of (s1 _ _ hR),qb,o.tx,(λ_ z=>nomatch z),by lia,z3m _,(λhn=>absurd hn (by rw[o.bd];rintro (z | z);exact z o.len;cases z)),λb bg H2 hl hm s2 O hg=>?_⟩;rw[o.bd]at hm;cases hm
  have S2:=s1.trans s2;refine⟨_,zr,zr,_,zr,iteT ⟨_,zr,a,_,dx,_,_,zr,S2 _ _ ins,T.q12,T.qfo,zr,_,zr,du,_,zr,S2 _ _ (ty.cst J),λH3 s3=>?_⟩⟩;exact⟨_,zr,iteT ⟨_,zr,kk bg H3 (S2.trans s3) (s1.free O) (s3 _ _ hg)⟩⟩
def qqc(P:Program)(w:World)(mg:xE)(vs:List V)(H:Hp)(Q:V->Hp->Prop)(g:Gx)(S:Sty)(a b:Addr)(ts:List Key)(k:Nat)(ho:HO):Prop:=vs=[.ref a,.int 0,.ref b]/\Ty P w mg g S H/\S a=some (.sum ts k ho)/\H b=some (.dK (bdK g.R ts))/\
 ∀S' D x pp bg H',Ex P w mg g S H S' H'->H D=none->S' D=none->H' D=some (.lst [.ref x])->H' x=some (.tup [.ref pp,.ref bg])->NAt H' (pN (g.t,g.R)) (.ref pp)->Q (.ref D) H'
inductive sp_pfrom (P:Program) (w:World) (mg:xE) (vs:List V) (H:Hp) (Q:VK) (_x3:XK):Prop
 | mk:∀(g:Gx) (S:Sty) (a:Addr) (b:Addr) (ts:List Key) (k:Nat) (ho:HO),(qqc P w mg vs H Q g S a b ts k ho)->sp_pfrom P w mg vs H Q _x3
def q4w(T:Txt K mg):MDef P w K mg base 7 (cA mg "Sums") "pairs_from" ["self","place","binding"] (sp_pfrom P w mg):=by
 refine T.qda.ok q76 (λvs H Q E h=>?_) λf cdv A outer s H vs Q E hr h=>?_
 ·obtain⟨g,S,a,b,ts,k,ho,rfl,_⟩:=h;rfl
 ·obtain⟨g,S,a,b,ts,k,ho,rfl,ty,ha,hb,kk⟩:=h;obtain⟨dx,hq,du,st,p,ob,ah,sn,us,rfl,ins,_,_,a8,hp,_,_,_,_,_,o⟩:=ty a _ ha;obtain⟨a2,_,_,_,_,_,_,_,a5,_⟩:=ty p _ hp;have l4:=o.l4;have bl:=o.bl;have vl:=q3k ts;refine⟨_,(q1x
   (qm (i:=3) q76.nd rfl (Or.inr rfl) (qt (q27 K) (qo (pv 0) rfl) (pv 1) (λ_ _=>rfl)))
   (qj (q1a (N:=["row","together","step"]) (caps:=[none,none,some 3]) rfl (by with_unfolding_all rfl) (q11 K (qz (q7o T) T.q1s hr (pv 3) (pa_1 (pv 2)))) (λ_ _ _ _ _=>(qa4 K (n:=2) rfl (qv (qi (i:=0) (show (["row","together","step"]:xD).Nodup by decide+kernel) rfl (Or.inl rfl)) (qv (qi (i:=1) (show (["row","together","step"]:xD).Nodup by decide+kernel) rfl (Or.inl rfl)) q1w)))) (λ_ _ _ _ _=>q1r) (λ_ _ _ _ _=>(q13 (pa_2 (q13 (pa_2 (qme K (pv 2) rfl) (pv 0))) (pv 1))))))),?_⟩
  refine⟨_,zr,a,_,dx,_,_,zr,ins,T.q12,T.q39,zr,_,zr,_,_,_,_,zr,zr,SqL.of (ty.cst a8),ql (j:=0) rfl,?_⟩;refine⟨_,zr,p,a2,_,zr,a5,zr,_,zr,g,S,p,b,ts,q19 ts,us,_,zr,ty,hp,o,by lia,hb,o.all,by lia,zr,λS1 H1 L pr q bg E1 hL0 hLS hL a6 a7 hbg=>?_⟩;obtain⟨a1,_,_,_,_,_,_,_,a4,_⟩:=E1.ty p _ (E1.up _ _ hp);refine⟨L,zr,⟨_,SqL.of hL⟩,λD hD=>?_⟩;refine q1d 1 (λi σ' J=>(∃v1 v2,σ'=[v1,v2,some (.ref p)])/\Same H1 J/\((i=0/\J D=some (.lst []))\/ (i=1/\∃x pp,J D=some (.lst [.ref x])/\J x=some (.tup [.ref pp,.ref bg])/\J pp=some (.tup [.str g.t,.ref q])))) ⟨⟨_,_,zr⟩,qc hD,.inl ⟨zr,qb⟩⟩ (λi σ' J hi p=>⟨_,_,SqL.of (p.2.1 _ _ hL),z0b hi⟩) (λσ' J p=>⟨⟨_,SqL.of (p.2.1 _ _ hL),z3j _⟩,?_⟩) (λi σ' J hi p x E3 y=>?_)
  ·obtain⟨_,Z,⟨z,_⟩ | ⟨_,x,pp,e1,e2,e3⟩⟩:=p
   ·cases z
   ·exact kk S1 D x pp bg J (E1.same Z) (E1.free hD) (E1.ty.fresh hD) e1 e2 (pr_at.mpr ⟨q,e3,Z _ _ a7⟩)
  ·obtain⟨⟨w1,w2,rfl⟩,Z,⟨rfl,e1⟩ | ⟨rfl,_⟩⟩:=p
   ·obtain⟨rfl,hy⟩:=y;have a9:=hy _ (SqL.of (Z _ _ hL));cases a9
    refine⟨pr,_,zr,SqT.of (Z _ _ a6),zr,_,_,zr,_,_,zr,zr,?_⟩;refine⟨_,rfl,_,_,a1,_,_,rfl,Z _ _ a4,T.q1s,T.qck,rfl,_,rfl,by show 2<=sizeLine;decide,λc1 O=>?_⟩;have s3:=qc (o:=HO.tup [V.str g.t,.ref q]) O;refine⟨_,rfl,by show 2<=sizeLine;decide,λr1 Y=>?_⟩;have s4:=qc (o:=HO.tup [V.ref c1,.ref bg]) Y;have a3:=(s3.trans s4) _ _ e1;have rD:r1≠D:=λz=>by rw[z,s3 _ _ e1]at Y;cases Y
    have cD:c1≠D:=λz=>by rw[z,e1]at O;cases O
    exact⟨_,a3,by decide,⟨_,_,rfl⟩,(Z.trans (s3.trans s4)).set hD,.inr ⟨rfl,r1,c1,qb,by rw[qk rD];exact qb,by rw[qk cD];exact s4 _ _ qb⟩⟩
   ·exact absurd hi (z34 1)
def qy5(T:Txt K mg):MDef P w K mg base 1 (cA mg "Sums") "sum_anew" ["self","place","binding"] (λ_ _ _ _=>False):=
 T.q9d.ok q28 (λvs H Q E h=>h.elim) λf cdv A outer s H vs Q E hr h=>h.elim
def qo0(P:Program)(w:World)(mg:xE)(vs:List V)(H:Hp)(Q:V->Hp->Prop)(g:Gx)(S:Sty)(a:Addr)(b:V)(ts:List Key)(k:Nat)(ho:HO):Prop:=vs=[.ref a,.int 1,b]/\Ty P w mg g S H/\S a=some (.sum ts k ho)/\Q (.int 1) H
inductive sp0_from1 (P:Program) (w:World) (mg:xE) (vs:List V) (H:Hp) (Q:VK) (_x3:XK):Prop
 | mk:∀(g:Gx) (S:Sty) (a:Addr) (b:V) (ts:List Key) (k:Nat) (ho:HO),(qo0 P w mg vs H Q g S a b ts k ho)->sp0_from1 P w mg vs H Q _x3
def qo1(T:Txt K mg):MDef P w K mg base 3 (cA mg "Sums") "sum_from" ["self","place","binding"] (sp0_from1 P w mg):=by
 refine T.q9c.ok q42 (λvs H Q E h=>?_) λf cdv A outer s H vs Q E hr h=>?_
 ·obtain⟨g,S,a,b,ts,k,ho,rfl,_⟩:=h;rfl
 ·obtain⟨g,S,a,b,ts,k,ho,rfl,ty,ha,q⟩:=h;obtain⟨dx,hq,du,st,p,o,ah,sn,us,rfl,ins,_,_,Y,_,_,_,_,_,⟨dc,O⟩,_⟩:=ty a _ ha;have J:=qy5 (P:=P) (w:=w) (base:=base) T;refine⟨_,(q4k
   (q18 (q14 q4z (pv 1) (qw (q1o K) rfl T.b_len q2a (pa_1 (qo (pv 0) rfl))) (q1c _)) (qg (qj (q8a (qac T) T.q3y hr (qo (pv 0) rfl)))) qx)
   (qm (i:=3) q42.nd rfl (Or.inl rfl) (q13 (pa_2 (pv 1) (qh (q60 T) hr rfl (pa_2 (qo (qt (q27 K) (qo (pv 0) rfl) (pv 1) (λ_ _=>rfl)) rfl) (pv 2))))))
   (q18 (q65 (q5y (P:=P) (w:=w) hr.units (pv 3) (qo (pv 0) rfl))) (qg (q6t (P:=P) (w:=w) hr.units (qo (pv 0) rfl) (pv 3) (qz J T.q12 hr (pv 0) (pa_2 (pv 1) (pv 2))) rfl)) qx)
   (qj (q82 (P:=P) (w:=w) hr.units (qo (pv 0) rfl) (pv 3) (λ_ _=>rfl)))),?_⟩
  refine⟨_,zr,_,zr,a,_,dx,_,_,zr,ins,T.q12,T.q39,zr,_,_,zr,.inl ⟨_,SqL.of (ty.cst Y),zr⟩,zr,_,zr,q3p (z2s rfl) ?_⟩;exact⟨_,zr,a,_,dx,_,_,zr,ins,T.q12,T.q62,zr,o,dc,_,zr,ty.cst O,zr,o,zr,q⟩
def qqd(P:Program)(w:World)(mg:xE)(vs:List V)(H:Hp)(Q:V->Hp->Prop)(g:Gx)(S:Sty)(a b:Addr)(ts:List Key)(k:Nat)(ho:HO):Prop:=vs=[.ref a,.int 0,.ref b]/\Ty P w mg g S H/\g.Ok/\k<=5/\S a=some (.sum ts k ho)/\H b=some (.dK (bdK g.R ts))/\∀S' H',Ex P w mg g S H S' H'->Q (.int (cnt g.tss.length k)) H'
inductive sp_from0 (P:Program) (w:World) (mg:xE) (vs:List V) (H:Hp) (Q:VK) (_x3:XK):Prop
 | mk:∀(g:Gx) (S:Sty) (a:Addr) (b:Addr) (ts:List Key) (k:Nat) (ho:HO),(qqd P w mg vs H Q g S a b ts k ho)->sp_from0 P w mg vs H Q _x3
def qy6(T:Txt K mg):MDef P w K mg base 8 (cA mg "Sums") "sum_anew" ["self","place","binding"] (sp_from0 P w mg):=by
 refine T.q9d.ok q28 (λvs H Q E h=>?_) λf cdv A outer s H vs Q E hr h=>?_
 ·obtain⟨g,S,a,b,ts,k,ho,rfl,_⟩:=h;rfl
 ·obtain⟨g,S,a,b,ts,k,ho,rfl,ty,ok,k5,ha,hb,kk⟩:=h;obtain⟨dx,hq,du,st,p,o,ah,sn,us,rfl,ins,_,_,hst,_,_,_,_,a3,⟨dc,a1⟩,_⟩:=ty a _ ha;have c1:=qjw ok.m3 k5;have c0:=qgf g.tss.length k;refine⟨_,(q3a
   (qm (i:=3) q28.nd rfl (Or.inl rfl) (q8a (q5u T) T.q3y hr (qo (pv 0) rfl)))
   (q1k PassesOwn.never rfl (q11 K (qz (q4w T) T.q12 hr (pv 0) (pa_2 (pv 1) (pv 2)))) (q3g rfl (qv (qi (i:=4) q28.nd rfl (Or.inl rfl)) (qv (qi (i:=5) q28.nd rfl (Or.inl rfl)) q1w))) (q1x
   (qm (i:=6) q28.nd rfl (Or.inl rfl) (qz (qgg T) T.q3y hr (qo (pv 0) rfl) (pa_2 (q82 (P:=P) (w:=w) hr.units (qo (pv 0) rfl) (pv 4) (λ_ _=>rfl)) (qz (qo1 T) T.q12 hr (pv 0) (pa_2 (qy q2k (pv 1) qf) (pv 5))))))
   (qm (i:=3) q28.nd rfl (Or.inl rfl) (qz (q8n T) T.q3y hr (qo (pv 0) rfl) (pa_2 (pv 3) (pv 6))))))
   (qj (pv 3))),?_⟩
  refine⟨_,zr,a,_,dx,_,_,zr,ins,T.q12,T.q62,zr,o,dc,_,zr,ty.cst a1,zr,o,zr,?_⟩;refine⟨_,zr,a,dx,_,zr,ins,zr,_,zr,_,zr,g,S,a,b,ts,k,_,zr,ty,ha,hb,λS1 D x pp bg H1 O hD0 hDS hD hx a4=>?_⟩;have Z:=O.up _ _ ha;have J:=O.ty.sum Z;obtain⟨oa,ho1,a2⟩:=a3.mono O.up (λ_ _ e=>O.tup e) λb o h=>(O.ty.cst (O.up _ _ h)).trans (ty.cst h).symm;have Y:=O.up _ _ a1;refine⟨D,rfl,⟨_,SqL.of hD⟩,q1t (xs:=[.ref x]) (λi σ G=>∃(v4 v5 v6:Option V),σ=[some (.ref a),some (.int 0),some (.ref b),some (.int (if i=0 then 0 else cnt g.tss.length k)),v4,v5,v6]/\G=H1) ⟨none,none,none,rfl,rfl⟩ (λi σ G _ z=>by obtain⟨_,_,_,_,rfl⟩:=z;exact SqL.of hD) ?_ ?_⟩
  ·rintro i y σ G hy ⟨v4,v5,v6,rfl,rfl⟩;obtain rfl:i=0:=Nat.lt_one_iff.mp (z06.mp hy).1;cases hy
   refine⟨x,_,zr,SqT.of hx,zr,_,_,zr,_,_,zr,zr,?_⟩;refine⟨_,zr,a,_,dx,_,_,zr,J,T.q12,T.q62,zr,o,dc,_,zr,O.ty.cst Y,zr,_,zr,a,_,dx,_,_,zr,J,T.q12,T.qcj,zr,_,zr,ah,pp,_,pN (g.t,g.R),.int (cnt g.tss.length k),zr,zr,a2,a4,q6h ok.pg,by rw[valP,q15 (p:=((g.t,g.R),V.int (cnt g.tss.length k))) rfl],?_⟩;refine⟨_,zr,a,dx,_,zr,J,zr,_,zr,_,_,zr,zr,_,zr,g,S1,a,_,ts,k,_,zr,O.ty,Z,o,_,1,zr,?_,?_⟩
   ·exact⟨⟨z38 c0,Int.lt_trans c1 (by decide)⟩,by decide,by decide⟩
   ·refine⟨_,zr,a,_,dx,_,_,zr,J,T.q12,T.q62,zr,o,dc,_,zr,O.ty.cst Y,zr,_,zr,_,zr,o,0,_,zr,some (.ref pp),some (.ref bg),some (.int (cnt g.tss.length k*1)),?_,zr⟩;show [_,_,_,some (V.int (0+cnt g.tss.length k*1)),_,_,_]=[_,_,_,some (V.int (cnt g.tss.length k)),_,_,_];rw[Int.zero_add,Int.mul_one]
  ·rintro σ G ⟨v4,v5,v6,rfl,rfl⟩;exact⟨_,zr,kk S1 G O⟩
def qy7(T:Txt K mg):MDef P w K mg base 9 (cA mg "Sums") "sum_from" ["self","place","binding"] (sp_from0 P w mg):=by
 refine T.q9c.ok q42 (λvs H Q E h=>?_) λf cdv A outer s H vs Q E hr h=>?_
 ·obtain⟨g,S,a,b,ts,k,ho,rfl,_⟩:=h;rfl
 ·obtain⟨g,S,a,b,ts,k,ho,rfl,ty,ok,k5,ha,hb,kk⟩:=h;obtain⟨dx,hq,du,st,p,o,ah,sn,us,rfl,ins,_,_,a6,hp,a5,mu,lu,_,_,one⟩:=ty a _ ha;obtain⟨b0,_,_,_,_,aq,_,_,b1,_,_,_,_,_,Y,_⟩:=ty p _ hp;have Y:H aq=some (.tup ((us.map Sum.inr:List Key).map kV)):=by
   rw[Y,z3i];rfl
  have a1:=qy6 (P:=P) (w:=w) (base:=base) T;refine⟨_,(q4k
   (q18 (q14 q4z (pv 1) (qw (q1o K) rfl T.b_len q2a (pa_1 (qo (pv 0) rfl))) (q1c _)) (qg (qj (q8a (qac T) T.q3y hr (qo (pv 0) rfl)))) qx)
   (qm (i:=3) q42.nd rfl (Or.inl rfl) (q13 (pa_2 (pv 1) (qh (q60 T) hr rfl (pa_2 (qo (qt (q27 K) (qo (pv 0) rfl) (pv 1) (λ_ _=>rfl)) rfl) (pv 2))))))
   (q18 (q65 (q5y (P:=P) (w:=w) hr.units (pv 3) (qo (pv 0) rfl))) (qg (q6t (P:=P) (w:=w) hr.units (qo (pv 0) rfl) (pv 3) (qz a1 T.q12 hr (pv 0) (pa_2 (pv 1) (pv 2))) rfl)) qx)
   (qj (q82 (P:=P) (w:=w) hr.units (qo (pv 0) rfl) (pv 3) (λ_ _=>rfl)))),?_⟩
  refine⟨_,rfl,_,rfl,a,_,dx,_,_,rfl,ins,T.q12,T.q39,rfl,_,_,rfl,.inl ⟨_,SqL.of (ty.cst a6),rfl⟩,rfl,_,rfl,q1y (z2d (show ¬ V.int 0=V.int 1 from λz=>nomatch z)) ?_⟩;refine⟨_,rfl,_,rfl,a,_,dx,_,_,rfl,ins,T.q12,T.q39,rfl,_,rfl,_,_,_,_,rfl,rfl,SqL.of (ty.cst a6),ql (j:=0) rfl,p,_,b0,_,_,rfl,b1,T.q1s,T.q9w,rfl,_,rfl,aq,b,us.map Sum.inr,_,rfl,SqT.of Y,hb,by rw[z2h];lia,λq H1 s1 a4=>?_⟩;rw[qgb one.all]at a4;refine⟨by show 2<=sizeLine;decide,λmk hmk=>?_⟩;have s2:=qc (o:=HO.tup [V.int 0,.ref q]) hmk;have S2:=s1.trans s2;have J:NAt (upd H1 mk (.tup [V.int 0,.ref q])) (mN 0 (mKey (us.map Sum.inr) (bdK g.R ts))) (.ref mk):=qt5 (j:=0) qb (s2 _ _ a4);have E2:=ty.ex.same S2;generalize upd H1 mk (.tup [V.int 0,.ref q])=H2 at*;have nok:NOk (mN 0 (mKey (us.map Sum.inr) (bdK g.R ts))):=qq8 λu hu=>(qs5 one mu u hu).tx;rcases E2.ty sn _ a5 with dn | dn
  ·refine⟨_,zr,_,zr,a,_,dx,_,_,zr,S2 _ _ ins,T.q12,T.q4d,zr,sn,mk,_,_,zr,zr,dn,J,nok,_,zr,iteT ?_⟩;refine⟨_,zr,a,dx,_,zr,S2 _ _ ins,zr,_,zr,_,zr,g,S,a,b,ts,k,_,zr,E2.ty,ok,k5,ha,S2 _ _ hb,λS3 H3 Z=>?_⟩;have EE:=E2.trans Z;have a3:=Z.up _ _ ha;have a7:=Z.ty.sum a3;have a9:=Z.up _ _ a5;have O:=J.keep λ_ _ e=>Z.tup e;obtain⟨kvs,a2,hl,ep⟩:∃kvs,DN P w H3 sn kvs/\kvs.length < sizeLine/\putK kvs (mN 0 (mKey (us.map Sum.inr) (bdK g.R ts))) (V.int (cnt g.tss.length k))=[(mN 0 (mKey (us.map Sum.inr) (bdK g.R ts)),.int (cnt g.tss.length k))]:=by
    rcases Z.ty sn _ a9 with d3 | d3
    ·exact⟨_,d3,by decide,zr⟩
    ·exact⟨_,d3,by show 1 < _;decide,by unfold putK;simp⟩
   refine⟨_,zr,a,_,dx,_,_,zr,a7,T.q12,T.q4d,zr,_,zr,sn,mk,kvs,mN 0 (mKey (us.map Sum.inr) (bdK g.R ts)),zr,zr,a2,O,nok,hl,λo4 d4=>?_⟩;rw[ep]at d4;have E4:=EE.set a9 nofun (.inr d4);have a8:NAt (upd H3 sn o4) (mN 0 (mKey (us.map Sum.inr) (bdK g.R ts))) (.ref mk):=O.keep λc ys e=>by
    rw[qk λz=>by obtain⟨_,q,_⟩:=a2;rw[z,q]at e;cases e];exact e
   exact⟨_,zr,a,_,dx,_,_,zr,E4.ty.sum a3,T.q12,T.q4d,zr,_,zr,sn,mk,_,_,_,zr,zr,d4,a8,nok,q15 rfl,kk S3 _ E4⟩
  ·refine⟨_,zr,_,zr,a,_,dx,_,_,zr,S2 _ _ ins,T.q12,T.q4d,zr,sn,mk,_,_,zr,zr,dn,J,nok,_,zr,?_⟩;rw[q15 (p:=(mN 0 (mKey (us.map Sum.inr) (bdK g.R ts)),V.int (cnt g.tss.length k))) rfl];refine iteF ?_;refine⟨_,zr,a,_,dx,_,_,zr,S2 _ _ ins,T.q12,T.q4d,zr,_,zr,sn,mk,_,_,_,zr,zr,dn,J,nok,q15 rfl,?_⟩;exact kk S H2 E2
def qay(P:Program)(w:World)(mg:xE)(vs:List V)(H:Hp)(Q:V->Hp->Prop)(g:Gx)(S:Sty)(a r:Addr)(ts:List Key)(k:Nat)(ho:HO):Prop:=vs=[.ref a,.ref r]/\Ty P w mg g S H/\g.Ok/\k<=5/\S a=some (.sum ts k ho)/\H r=some (.tup (g.R.map kV))/\∀S' H',Ex P w mg g S H S' H'->Q (.int (cnt g.tss.length k)) H'
inductive sp0_ok_Sums_sum_for (P:Program) (w:World) (mg:xE) (vs:List V) (H:Hp) (Q:VK) (_x3:XK):Prop
 | mk:∀(g:Gx) (S:Sty) (a:Addr) (r:Addr) (ts:List Key) (k:Nat) (ho:HO),(qay P w mg vs H Q g S a r ts k ho)->sp0_ok_Sums_sum_for P w mg vs H Q _x3
def qfa(T:Txt K mg):MDef P w K mg base 10 (cA mg "Sums") "sum_for" ["self","row"] (sp0_ok_Sums_sum_for P w mg):=by
 refine T.qgm.ok q98 (λvs H Q E h=>?_) λf cdv A outer s H vs Q E hr h=>?_
 ·obtain⟨g,S,a,r,ts,k,ho,rfl,_⟩:=h;rfl
 ·obtain⟨g,S,a,r,ts,k,ho,rfl,ty,ok,k5,ha,hR,kk⟩:=h;obtain⟨dx,_,_,_,_,_,_,_,_,rfl,ins,_⟩:=ty a _ ha;refine⟨_,(q1x
   (qm (i:=2) q98.nd rfl (Or.inl rfl) (qz (q6o T) T.q12 hr (pv 0) (pa_1 (pv 1))))
   (qj (qah (q14 qok (pv 2) q3f (q1c _)) (q8a (q5u T) T.q3y hr (qo (pv 0) rfl)) (qz (qy7 T) T.q12 hr (pv 0) (pa_2 qf (pv 2)))))),?_⟩
  refine⟨_,zr,a,dx,_,zr,ins,zr,_,zr,g,S,a,r,ts,k,_,zr,ty,ha,hR,λb H1 s1 _ hb=>?_⟩;have J:=ty.ex.same s1;refine⟨_,zr,zr,_,zr,iteF ?_⟩;exact⟨_,zr,a,dx,_,zr,s1 _ _ ins,zr,_,zr,g,S,a,b,ts,k,_,zr,J.ty,ok,k5,ha,hb,λS2 H2 E2=>kk S2 H2 (J.trans E2)⟩
def wi1(R:List Key)(c:Int):PyData:= .list [.tuple [.tuple (R.map keyD),.int c]]
theorem qgh:∀ks:List Key,PyData.depthAll (ks.map keyD)=0
 | []=>rfl
 | .inl _::ks=>by
  have:=qgh ks;show max 0 (PyData.depthAll (ks.map keyD))=0
  lia
 | .inr _::ks=>by
  have:=qgh ks;show max 0 (PyData.depthAll (ks.map keyD))=0
  lia
def qx2{R:List Key}{c d:Int}(h:c≠d):PyData.eqv (wi1 R c) (wi1 R d)=false:=by
 unfold wi1;simp[PyData.eqv,PyData.eqvAll,h]
def qqe(R:List Key)(c:Int):(wi1 R c).depth<=60:=by
 have h1:=qgh R;show max (max (PyData.depthAll (R.map keyD)+1) (max 0 0)+1) 0+1<=60
 lia
def valG{α:Type}[DecidableEq α]{kvs:List (α×V)}{k:α}{v:V}(h:valV kvs k=some v):(k,v)∈kvs:=by
 unfold valV at h;obtain⟨kv,J,rfl⟩:=z0n.mp h;have h1:=List.find?_some J;have:kv.1=k:=by simpa using h1
 rw[<- this];exact z0a J
def qe7{α:Type}[DecidableEq α]{kvs:List (α×V)}{k:α}{v:V}{J:α×V}(h:J∈putK kvs k v):J∈kvs\/ J=(k,v):=by
 unfold putK at h;split at h
 ·obtain⟨p,hp,e⟩:=z3h.mp h;split at e
  ·rename_i z;exact .inr (by rw[<- e,<- z])
  ·exact .inl (by rw[<- e];exact hp)
 ·rcases z2c.mp h with h | h
  ·exact .inl h
  ·exact .inr (z1a.mp h)
def qjy{α:Type}[DecidableEq α]{kvs:List (α×V)}(h:(kvs.map (·.1)).Nodup)(k:α)(v:V):((putK kvs k v).map (·.1)).Nodup:=by
 cases q:valV kvs k with
 | none=>exact qm2 v h q
 | some x=>
  have e:(putK kvs k v).map (·.1)=kvs.map (·.1):=by
   unfold putK;rw[q2q,q,if_pos (show (some x).isSome=true from rfl),z3i];refine z14 λy _=>?_;show (if y.1=k then (y.1,v) else y).1=y.1;split <;> rfl
  rw[e];exact h
def qx3{t:Str}{a b:List Key}(e:rK t a=rK t b):a=b:=by
 unfold rK at e;injection e with e;injection e with e _;have:=qjd e;injection this
def qx4{m k:Nat}(h:1<=m):cnt m (k+1)≠cnt m k:=λe=>by
 have h1:=qgf m k;have h2:(1:Int)*cnt m k<=m*cnt m k:=Int.mul_le_mul_of_nonneg_right (by lia) (by lia);have e:1+m*cnt m k=cnt m k:=e
 lia
def qe8{α:Type}[DecidableEq α]{kvs:List (α×V)}{l:List α}(n:(kvs.map (·.1)).Nodup)(h:∀J∈kvs,J.1∈l):kvs.length<=l.length:=by
 have:=qe5 n λx hx=>by
  obtain⟨J,hk,rfl⟩:=z3h.mp hx;exact h J hk
 rw[z2h]at this;exact this
def q8t(P:Program)(w:World)(mg:xE)(vs:List V)(H:Hp)(Q:V->Hp->Prop)(H0:Hp)(p dx tt:Addr)(bv ah er:V):Prop:=vs=[.ref p,.ref tt,bv,ah,er]/\Same H0 H/\H0 p=none/\H p=some (.ins (cA mg "SumsByRule") dx [])/\
  ∀D B H',Same H0 H'->H' p=some (.ins (cA mg "SumsByRule") dx (sbrF tt bv ah er D B))->H0 D=none->H' D=some (.dK [])->H0 B=none->DN P w H' B []->Q .non H'
inductive sp0_ok_SumsByRule_init (P:Program) (w:World) (mg:xE) (vs:List V) (H:Hp) (Q:VK) (_x3:XK):Prop
 | mk:∀(H0:Hp) (p:Addr) (dx:Addr) (tt:Addr) (bv:V) (ah:V) (er:V),(q8t P w mg vs H Q H0 p dx tt bv ah er)->sp0_ok_SumsByRule_init P w mg vs H Q _x3
def q79(T:Txt K mg):MDef P w K mg base 1 (cA mg "SumsByRule") "__init__" ["self","tables","by","ahead","earlier"] (sp0_ok_SumsByRule_init P w mg):=by
 refine T.qd3.ok qc2 (λvs H Q E h=>?_) λf cdv A outer s H vs Q E hr h=>?_
 ·obtain⟨H0,p,dx,tt,bv,ah,er,rfl,_⟩:=h;rfl
 ·obtain⟨H0,p,dx,tt,bv,ah,er,rfl,s0,J,hp,k⟩:=h;refine⟨_,(qn8
   (q1h (pv 0) (pv 1) rfl)
   (q1h (pv 0) (pv 2) rfl)
   (q1h (pv 0) (pv 3) rfl)
   (q1h (pv 0) (pv 4) rfl)
   (q1h (pv 0) q4n rfl)
   (q1h (pv 0) (q6s (P:=P) (w:=w)) rfl)),?_⟩
  refine⟨_,zr,_,zr,?_⟩;refine q1j [] s0 J hp T.qr T.q4h (by show 0 < 1000;decide) rfl rfl λH1 S1 a2 _=>?_;refine⟨_,zr,_,zr,?_⟩;refine q1j ["tables"] S1 J a2 T.qr T.q9b (by show 1 < 1000;decide) rfl (by decide+kernel) λH2 S2 a3 _=>?_;refine⟨_,zr,_,zr,?_⟩;refine q1j ["tables","by"] S2 J a3 T.qr T.q4y (by show 2 < 1000;decide) rfl (by decide+kernel) λH3 S3 a4 _=>?_;refine⟨_,zr,_,zr,?_⟩;refine q1j ["tables","by","ahead"] S3 J a4 T.qr T.q45 (by show 3 < 1000;decide) rfl (by decide+kernel) λH4 S4 O _=>?_;refine λD hD=>?_;have s5:=qc (o:=HO.dK []) hD;have Dp:D≠p:=λz=>by rw[z,O]at hD;cases hD
  refine⟨_,zr,?_⟩;refine q1j ["tables","by","ahead","earlier"] (S4.trans s5) J (s5 _ _ O) T.qr T.q23 (by show 4 < 1000;decide) rfl (by decide+kernel) λH5 S5 Y k5=>?_;have a1:=k5 _ _ Dp qb;refine λB oB Z dB=>?_;have s6:=qc (o:=oB) Z;have Bp:B≠p:=λz=>by rw[z,Y]at Z;cases Z
  refine⟨_,zr,?_⟩;refine q1j ["tables","by","ahead","earlier","stayed"] (S5.trans s6) J (s6 _ _ Y) T.qr T.q2w (by show 5 < 1000;decide) rfl (by decide+kernel) λH6 S6 a5 k6=>?_;exact k D B H6 S6 a5 (S4.free hD) (k6 _ _ Dp (s6 _ _ a1)) (S5.free Z) (qaa dB Bp k6)
def q6z(P:Program)(w:World)(K:xA)(mg:xE)(vs:List V)(H:Hp)(Q:V->Hp->Prop)(g:Gx)(S:Sty)(a:Addr)(k:Nat)(ho:HO):Prop:=vs=[.ref a,.str g.t]/\Ty P w mg g S H/\g.Ok/\S a=some (.sbr k ho)/\∀D H',Same H H'->Dat K H' (wi1 g.R (cnt g.tss.length k)) (.ref D)->Q (.ref D) H'
inductive sp0_ok_SumsByRule_worths_in (P:Program) (w:World) (K:xA) (mg:xE) (vs:List V) (H:Hp) (Q:VK) (_x3:XK):Prop
 | mk:∀(g:Gx) (S:Sty) (a:Addr) (k:Nat) (ho:HO),(q6z P w K mg vs H Q g S a k ho)->sp0_ok_SumsByRule_worths_in P w K mg vs H Q _x3
def q53(T:Txt K mg):MDef P w K mg base 3 (cA mg "SumsByRule") "worths_in" ["self","table"] (sp0_ok_SumsByRule_worths_in P w K mg):=by
 refine T.q9x.ok q8s (λvs H Q E h=>?_) λf cdv A outer s H vs Q E hr h=>?_
 ·obtain⟨g,S,a,k,ho,rfl,_⟩:=h;rfl
 ·obtain⟨g,S,a,k,ho,rfl,ty,ok,ha,kk⟩:=h;obtain⟨dx,tt,o,ah,er,D0,B,rfl,hp,⟨L,q,ht,Z,hq⟩,_,⟨oa,_,hd⟩,_⟩:=ty a _ ha;refine⟨_,(qg (qj (q1a (N:=["row","self","table"]) (caps:=[none,some 0,some 1]) rfl (by with_unfolding_all rfl) (q11 K (q6r (q3n hr) (qo (pv 0) rfl) (pv 1) (q1f q1i) ⟨zr,zr,zr,zr⟩)) (λ_ _ _ _ _=>(qi (i:=0) (show (["row","self","table"]:xD).Nodup by decide+kernel) rfl (Or.inl rfl))) (λ_ _ _ _ _=>q1r) (λ_ _ _ _ _=>(q13 (pa_2 (pv 0) (q82 (P:=P) (w:=w) hr.units (qme K (pv 1) rfl) (q13 (pa_2 (pv 2) (pv 0))) (λ_ _=>rfl)))))))),?_⟩;refine⟨_,zr,a,_,dx,_,_,zr,hp,T.qr,T.q4h,zr,tt,zr,.inl ⟨_,.inl (ty.cst ht)⟩,_,zr,by decide,λL0 a1=>?_⟩;have s1:=qc (o:=HO.lst []) a1;have E1:=ty.ex.same s1;refine⟨_,.inl ⟨_,.inr g.t,.inl (E1.ty.cst ht),zr,zr⟩,?_⟩;rw[q15 (p:=((.inr g.t:Key),V.ref L)) rfl];have a2:=E1.ty.cst Z;refine⟨L,zr,⟨_,SqL.of a2⟩,λD hD=>?_⟩;refine q1d 1 (λi σ' J=>(∃v,σ'=[v,some (.ref a),some (.str g.t)])/\Same H J/\((i=0/\J D=some (.lst []))\/ (i=1/\∃r,J D=some (.lst [.ref r])/\J r=some (.tup [.ref q,.int (cnt g.tss.length k)])))) ⟨⟨_,zr⟩,s1.trans (qc hD),.inl ⟨zr,qb⟩⟩ (λi σ' J hi p=>⟨_,_,SqL.of (p.2.1 _ _ (ty.cst Z)),z0b hi⟩) (λσ' J p=>⟨⟨_,SqL.of (p.2.1 _ _ (ty.cst Z)),z3j _⟩,?_⟩) (λi σ' J hi p x E3 y=>?_)
  ·obtain⟨_,Y,⟨z,_⟩ | ⟨_,r,e1,e2⟩⟩:=p
   ·cases z
   ·exact kk D J Y (.lst (SqL.of e1) (.cons (.tup (SqT.of e2) (.cons (.tup (SqT.of (Y _ _ hq)) (q61 λu hu=>q38 (ok.pg.2.2 u hu).tx)) (.cons (.int _) .nil))) .nil))
  ·obtain⟨⟨v1,rfl⟩,Y,⟨rfl,e1⟩ | ⟨rfl,_⟩⟩:=p
   ·obtain⟨rfl,hy⟩:=y;have a3:=hy _ (SqL.of (Y _ _ (ty.cst Z)));cases a3
    refine⟨_,rfl,_,rfl,a,_,dx,_,_,rfl,Y _ _ hp,T.qr,T.q4y,rfl,_,rfl,_,rfl,by show 2<=sizeLine;decide,λc hc=>?_⟩;have s3:=qc (o:=HO.tup [V.str g.t,.ref q]) hc;have S3:=Y.trans s3;refine⟨ah,c,_,pN (g.t,g.R),.int (cnt g.tss.length k),rfl,rfl,hd.same S3,pr_at.mpr ⟨q,qb,S3 _ _ hq⟩,q6h ok.pg,by rw[valP,q15 (p:=((g.t,g.R),V.int (cnt g.tss.length k))) rfl],by show 2<=sizeLine;decide,λr O=>?_⟩;have s4:=qc (o:=HO.tup [V.ref q,V.int (cnt g.tss.length k)]) O;have rD:r≠D:=λz=>by rw[z,s3 _ _ e1]at O;cases O
    exact⟨_,(s3.trans s4) _ _ e1,by decide,⟨_,rfl⟩,(S3.trans s4).set (s1.free hD),.inr ⟨rfl,r,qb,by rw[qk rD];exact qb⟩⟩
   ·exact absurd hi (z34 1)
def q6l(P:Program)(w:World)(mg:xE)(vs:List V)(H:Hp)(Q:V->Hp->Prop)(g:Gx)(S:Sty)(a b:Addr)(j:Nat)(ho hb:HO):Prop:=vs=[.ref a,.str g.t]/\Ty P w mg g S H/\g.Ok/\1<=g.tss.length/\S a=some (.sbr (j+1) ho)/\S b=some (.sbr j hb)/\(∃C dx tt o ah D B,ho= .ins C dx (sbrF tt o ah (.ref b) D B))/\∀S' H',Ex P w mg g S H S' H'->Q (.bl false) H'
inductive sp0_ok_SumsByRule_has_stayed (P:Program) (w:World) (mg:xE) (vs:List V) (H:Hp) (Q:VK) (_x3:XK):Prop
 | mk:∀(g:Gx) (S:Sty) (a:Addr) (b:Addr) (j:Nat) (ho:HO) (hb:HO),(q6l P w mg vs H Q g S a b j ho hb)->sp0_ok_SumsByRule_has_stayed P w mg vs H Q _x3
def q8o(T:Txt K mg):MDef P w K mg base 4 (cA mg "SumsByRule") "has_stayed" ["self","table"] (sp0_ok_SumsByRule_has_stayed P w mg):=by
 refine T.q8w.ok q8i (λvs H Q E h=>?_) λf cdv A outer s H vs Q E hr h=>?_
 ·obtain⟨g,S,a,b,j,ho,hb,rfl,_⟩:=h;rfl
 ·obtain⟨g,S,a,b,j,ho,hb,rfl,ty,ok,m1,ha,J,⟨C,dx',tt',o',ah',D',B',e0⟩,kk⟩:=h;obtain⟨dx,tt,o,ah,er,D,B,rfl,ins,_,_,_,hD,_⟩:=ty a _ ha;obtain rfl:er= .ref b:=by
   unfold sbrF at e0;cases e0
   rfl
  obtain⟨Z,_,_,_,_,_,_,rfl,O,_⟩:=ty b _ J;have gt:∀{G:Hp},(G D=some (.dK [(.inr g.t,.bl false)]))->DGet G D (.str g.t) (some (.bl false)):=λ{G} e=>by
   have:=DGet.k (k:= .inr g.t) e;rw[q15 (p:=((.inr g.t:Key),V.bl false)) rfl]at this;exact this
  refine⟨_,(q1x
   (q18 (q65 (qh1 (q3n hr) (pv 1) (qo (pv 0) rfl))) (qg (qfv (q3n hr) (qo (pv 0) rfl) (pv 1) (q5x (qwe hr.units K) (qz (q53 T) T.qr hr (pv 0) (pa_1 (pv 1))) (qz (q53 T) T.qr hr (qo (pv 0) rfl) (pa_1 (pv 1))) (q1c _)) rfl)) qx)
   (qj (qfu (q3n hr) (qo (pv 0) rfl) (pv 1) (λ_ _=>rfl)))),?_⟩
  rcases ty D _ hD with d0 | d1
  ·refine⟨_,zr,_,zr,a,_,dx,_,_,zr,ins,T.qr,T.q23,zr,D,_,zr,DGet.k (k:= .inr g.t) d0,_,zr,iteT ?_⟩;refine⟨_,zr,a,dx,_,zr,ins,zr,_,zr,g,S,a,j+1,_,zr,ty,ok,ha,λD1 H1 s1 w1=>?_⟩;have E1:=ty.ex.same s1;refine⟨_,zr,a,_,dx,_,_,zr,s1 _ _ ins,T.qr,T.q45,zr,b,Z,_,zr,s1 _ _ O,zr,_,zr,g,S,b,j,_,zr,E1.ty,ok,J,λD2 H2 Y w2=>?_⟩;have E2:=E1.same Y;refine⟨_,_,w1.same Y,w2,qqe _ _,_,zr,a,_,dx,_,_,zr,(s1.trans Y) _ _ ins,T.qr,T.q23,zr,_,zr,D,_,zr,DPut.k (k:= .inr g.t) ((s1.trans Y) _ _ d0) (by decide),?_⟩;rw[qx2 (qx4 m1)];have E3:Ex P w mg g S H S (upd H2 D (.dK [(.inr g.t,.bl false)])):=E2.set hD nofun (.inr qb);exact⟨_,zr,a,_,dx,_,_,zr,E3.ty.sbr ha,T.qr,T.q23,zr,_,zr,D,.bl false,zr,gt qb,kk S _ E3⟩
  ·refine⟨_,zr,_,zr,a,_,dx,_,_,zr,ins,T.qr,T.q23,zr,D,_,zr,gt d1,_,zr,iteF ?_⟩;exact⟨_,zr,a,_,dx,_,_,zr,ins,T.qr,T.q23,zr,_,zr,D,.bl false,zr,gt d1,kk S H ty.ex⟩
def sof0(T:Txt K mg):MDef P w K mg base 1 (cA mg "SumsByRule") "sums_of" ["self","rule"] (λ_ _ _ _=>False):=
 T.q6k.ok q5z (λvs H Q E h=>h.elim) λf cdv A outer s H vs Q E hr h=>h.elim
def qv3(P:Program)(w:World)(mg:xE)(vs:List V)(H:Hp)(Q:V->Hp->Prop)(g:Gx)(S:Sty)(a r:Addr)(ts:List Key)(k:Nat)(ho:HO):Prop:=vs=[.ref a,.ref r]/\Ty P w mg g S H/\g.Ok/\S a=some (.sbr k ho)/\ts∈g.tss/\NAt H (rK g.t ts) (.ref r)/\∀S' p o H',Ex P w mg g S H S' H'->S' p=some (.sum ts k o)->Q (.ref p) H'
inductive sp_sof (P:Program) (w:World) (mg:xE) (vs:List V) (H:Hp) (Q:VK) (_x3:XK):Prop
 | mk:∀(g:Gx) (S:Sty) (a:Addr) (r:Addr) (ts:List Key) (k:Nat) (ho:HO),(qv3 P w mg vs H Q g S a r ts k ho)->sp_sof P w mg vs H Q _x3
def q8p(T:Txt K mg):MDef P w K mg base 12 (cA mg "SumsByRule") "sums_again" ["self","rule"] (sp_sof P w mg):=by
 refine T.q8x.ok q8h (λvs H Q E h=>?_) λf cdv A outer s H vs Q E hr h=>?_
 ·obtain⟨g,S,a,r,ts,k,ho,rfl,_⟩:=h;rfl
 ·obtain⟨g,S,a,r,ts,k,ho,rfl,ty,ok,ha,a5,a7,kk⟩:=h;obtain⟨dx,tt,o,ah,er,D,B,rfl,ins,_,_,_,hD,hB,b9⟩:=ty a _ ha;have one:=ok.one ts a5;refine q80 1 (λσ H'=>σ=[some (.ref a),some (.ref r)]/\∃S',Ex P w mg g S H S' H') ⟨_,(qg (qj (q8c (qjx T) T.qvg T.qvm hr rfl T.qxi (pa_4 (pv 1) (qo (pv 0) rfl) (qo (pv 0) rfl) (qo (pv 0) rfl))))),?_⟩ (λu hu hC=>⟨_,(qig
   (q18 (PW.pt (qog (q14 qa2 (qo (pv 0) rfl) q3f (q1c _)) (qls (q1z (qw (q2z rfl K) rfl T.b_all q5g (pa_1 (q1a (N:=["table","terms","self"]) (caps:=[none,none,some 0]) rfl (by with_unfolding_all rfl) (q31 K (qt (qq K) (pv 1) qf (λ_ _=>rfl))) (λ_ _ _ _ _=>(qa4 K (n:=2) rfl (qv (qi (i:=0) (show (["table","terms","self"]:xD).Nodup by decide+kernel) rfl (Or.inl rfl)) (qv (qi (i:=1) (show (["table","terms","self"]:xD).Nodup by decide+kernel) rfl (Or.inl rfl)) q1w)))) (λ_ _ _ _ _=>q1r) (λ_ _ _ _ _=>(qz (q8o (P:=P) (w:=w) T) T.qr hr (pv 2) (pa_1 (pv 0))))))))))) (qg (qj (qz (sof0 T) T.qr hr (qo (pv 0) rfl) (pa_1 (pv 1))))) qx)
   hu),?_⟩)
  ·rintro σ H1 ⟨rfl,S1,J⟩;have a4:=J.up _ _ ha;have O:=J.ty.sbr a4;obtain⟨_,_,_,_,_,_,_,e0,_,⟨Lr,q,ht,hL,hq⟩,b8,b6,_⟩:=J.ty a _ a4;cases e0
   refine⟨_,zr,_,zr,a,_,dx,_,_,zr,O,T.qr,T.q4h,zr,_,zr,a,_,dx,_,_,zr,O,T.qr,T.q9b,zr,_,zr,a,_,dx,_,_,zr,O,T.qr,T.q4y,zr,λx Y nx c5 _=>⟨H1,x,Y,r,tt,Lr,g.t,g.R,ts,.ref o,.ref ah,zr,(qc c5).set nx,nx,qb,a7.keep λ_ _ e=>J.tup e,one,J.ty.cst ht,λa2 du A sp b0 tq sq dq aq us sn H2 s2 e1 e2 n3 e3 n4 e4 n5 e5 e6 e7 n8 e8 e9 mu lu a6 a3=>⟨zr,?_⟩⟩⟩;have ne:∀{c d:Addr} {o o':HO},H2 c=some o->H2 d=some o'->o≠o'->c≠d:=λh1 h2 n z=>n (by rw[z,h2]at h1;injection h1 with h1;exact h1.symm);obtain⟨φ,hφ⟩:∃φ,H2 sn=some (.ext φ):=let ⟨_,e,_⟩:=a3;⟨_,e⟩
   have E2:=(J.ty.ex.same s2).frz [sp,sn,x];have fz:∀{c o},H1 c=none->H2 c=some o->c≠sp->c≠sn->c≠x->(∀ys,o≠ .tup ys)->frz [sp,sn,x] H1 S1 H2 c=some (.cst o):=λn e b1 b2 b3 nt=>q4v n (J.ty.fresh n) (by simp[b1,b2,b3]) e nt;have b5:=fz n3 e3 (ne e3 e5 nofun) (ne e3 hφ nofun) (ne e3 e1 nofun) nofun;have fA:=fz n4 e4 (ne e4 e5 nofun) (ne e4 hφ nofun) (ne e4 e1 nofun) nofun;have b4:=fz n8 e8 (ne e8 e5 nofun) (ne e8 hφ nofun) (ne e8 e1 nofun) nofun;have np:frz [sp,sn,x] H1 S1 H2 sp=none:=q3t (J.ty.fresh n5) (.inl (by simp));have ns:frz [sp,sn,x] H1 S1 H2 sn=none:=q3t (J.ty.fresh a6) (.inl (by simp));have c6:frz [sp,sn,x] H1 S1 H2 x=none:=q3t (J.ty.fresh nx) (.inl (by simp));have up:∀b σ,S1 b=some σ->frz [sp,sn,x] H1 S1 H2 b=some σ:=λb σ h=>q6j h;generalize frz [sp,sn,x] H1 S1 H2=S2 at*;have c9:sp≠x:=ne e5 e1 λz=>by injection z with _ _ z;cases z
   have c7:sn≠sp:=ne hφ e5 nofun;have c8:sn≠x:=ne hφ e1 nofun;have u1:=q32 (τ:= .stp ts (q19 ts) us) np;have E3:=E2.new (.stp ts (q19 ts) us) n5 np ⟨b0,tq,Lr,sq,dq,aq,q,.non,e5,e6,u1 _ _ (up _ _ hL),s2 _ _ hq,e7,u1 _ _ b4,e9,.inl rfl⟩;have a8:putS S2 sp (.stp ts (q19 ts) us) sn=none:=by rw[q22 c7];exact ns
   have u2:=q32 (τ:= .sen ts us k) a8;have E4:=E3.new (.sen ts us k) a6 a8 (.inl a3);have a9:putS (putS S2 sp (.stp ts (q19 ts) us)) sn (.sen ts us k) x=none:=by rw[q22 (Ne.symm c8),q22 (Ne.symm c9)];exact c6
   have u3:=q32 (τ:= .sum ts k (.ins (cA mg "Sums") Y (sumF a2 du A (.ref o) (.ref ah) sn))) a9;have U:∀b σ,S2 b=some σ->_:=λb σ h=>u3 _ _ (u2 _ _ (u1 _ _ h));have U1:∀b σ,S1 b=some σ->_:=λb σ h=>U _ _ (up _ _ h);have E5:=E4.new (.sum ts k (.ins (cA mg "Sums") Y (sumF a2 du A (.ref o) (.ref ah) sn))) nx a9 ⟨Y,a2,du,A,sp,o,ah,sn,us,rfl,e1,e2,U _ _ b5,U _ _ fA,u3 _ _ (u2 _ _ q2c),u3 _ _ q2c,mu,lu,b6.mono U1 (λ_ _ e=>s2 _ _ e) (λb o h=>by rw[J.ty.cst h];exact s2 _ _ (J.ty.cst h)),b8.mono U1,one⟩;exact kk _ x _ H2 (J.trans E5) q2c
  ·refine⟨_,zr,a,_,dx,_,_,zr,ins,T.qr,T.q45,zr,zr,_,zr,?_⟩;rcases b9 with rfl | ⟨b,j,hb,rfl,rfl,b7⟩
   ·exact q1y rfl (iteF (hC _ _ ⟨zr,S,ty.ex⟩))
   ·refine q3p rfl ?_;obtain⟨_,l,c,p2,c1,_,hl,c0,_⟩:=ru_at.mp a7;obtain⟨q2,a1,_⟩:=pr_at.mp c0;have a1:H p2=some (.tup [.str g.t,.ref q2]):=a1;refine⟨_,zr,_,_,_,_,zr,zr,SqT.of c1,ql (j:=1) rfl,l,zr,⟨_,SqT.of hl⟩,λG hG=>?_⟩;have sG:=qc (o:=HO.lst []) hG;refine q1d 1 (λi σ' E'=>(∃v1 v2,σ'=[v1,v2,some (.ref a)])/\∃S',Ex P w mg g S H S' E'/\S' G=none/\E' G=some (.lst ((List.replicate i false).map V.bl))) ⟨⟨_,_,zr⟩,S,ty.ex.same sG,ty.fresh hG,qb⟩ (λi σ' E' hi p=>?_) (λσ' E' p=>?_) (λi σ' E' hi p x E3 y=>?_)
    ·obtain⟨_,_,F,_⟩:=p;exact⟨_,_,SqT.of (F.tup hl),z0b hi⟩
    ·obtain⟨_,S',F,_,e⟩:=p;refine⟨⟨_,SqT.of (F.tup hl),z3j _⟩,⟨_,[false],zr,SqL.of e,_,zr,iteF (hC _ _ ⟨zr,S',F⟩)⟩⟩
    ·obtain⟨⟨v1,v2,rfl⟩,S',F,Z,e⟩:=p;obtain⟨rfl,hy⟩:=y;obtain rfl:i=0:=Nat.lt_one_iff.mp hi;have c4:=hy _ (SqT.of (F.tup hl));cases c4
     refine⟨p2,_,zr,SqT.of (F.tup a1),zr,_,_,zr,_,_,zr,zr,?_⟩;refine⟨_,zr,a,dx,_,zr,F.ty.sbr (F.up _ _ ha),zr,_,zr,g,S',a,b,j,_,hb,zr,F.ty,ok,List.length_pos_of_mem a5,F.up _ _ ha,F.up _ _ b7,⟨_,_,_,_,_,_,_,zr⟩,λS2 H2 F2=>?_⟩;exact⟨_,F2.st _ _ Z e,by decide,⟨_,_,rfl⟩,S2,(F.trans F2).own hG (F2.nn _ _ Z e) (by rw[F2.st _ _ Z e];nofun),F2.nn _ _ Z e,qb⟩
def q3u(T:Txt K mg):MDef P w K mg base 13 (cA mg "SumsByRule") "sums_of" ["self","rule"] (sp_sof P w mg):=by
 refine T.q6k.ok q5z (λvs H Q E h=>?_) λf cdv A outer s H vs Q E hr h=>?_
 ·obtain⟨g,S,a,r,ts,k,ho,rfl,_⟩:=h;rfl
 ·obtain⟨g,S,a,r,ts,k,ho,rfl,ty,ok,ha,Y,O,kk⟩:=h;obtain⟨dx,tt,o,ah,er,D,B,rfl,ins,_,_,_,hD,hB,her⟩:=ty a _ ha;have nok:=qq9 (ok.one ts Y);have m3:=ok.m3;refine q80 1 (λσ H'=>σ=[some (.ref a),some (.ref r)]/\∃S' kvs p o,Ex P w mg g S H S' H'/\DN P w H' B kvs/\valV kvs (rK g.t ts)=some (.ref p)/\S' p=some (.sum ts k o)) ⟨_,(qg (qj (q82 (P:=P) (w:=w) hr.units (qo (pv 0) rfl) (pv 1) (λ_ _=>rfl)))),?_⟩ (λu hu hC=>⟨_,(qig
   (q18 (q65 (q5y (P:=P) (w:=w) hr.units (pv 1) (qo (pv 0) rfl))) (qg (q6t (P:=P) (w:=w) hr.units (qo (pv 0) rfl) (pv 1) (qz (q8p T) T.qr hr (pv 0) (pa_1 (pv 1))) rfl)) qx)
   hu),?_⟩)
  ·rintro σ H1 ⟨rfl,S1,kvs,p,o,J,dn,ev,hp⟩;exact⟨_,zr,a,_,dx,_,_,zr,J.ty.sbr (J.up _ _ ha),T.qr,T.q2w,zr,_,zr,B,r,_,rK g.t ts,.ref p,zr,zr,dn,O.keep λ_ _ e=>J.tup e,nok,ev,kk S1 p o H1 J hp⟩
  ·obtain⟨kvs,dn,nd,hk⟩:=ty B _ hB;refine⟨_,zr,_,zr,a,_,dx,_,_,zr,ins,T.qr,T.q2w,zr,B,r,_,rK g.t ts,zr,zr,dn,O,nok,_,zr,?_⟩;cases ev:valV kvs (rK g.t ts) with
   | some v=>
    obtain⟨a4,_,p,o,e1,e2⟩:=hk _ (valG ev);injection e1 with e1 e3;rw[<- qx3 e1]at e2;rw[e3]at ev;exact iteF (hC _ _ ⟨zr,S,kvs,p,o,ty.ex,dn,ev,e2⟩)
   | none=>
    refine iteT ?_;refine⟨_,zr,a,dx,_,zr,ins,zr,_,zr,g,S,a,r,ts,k,_,zr,ty,ok,ha,Y,O,λS1 p o1 H1 J hp=>?_⟩;obtain⟨kv1,a3,a2,a1⟩:=J.ty B _ (J.up _ _ hB);have few:=qe8 (l:=g.tss.map (rK g.t)) a2 λkv h=>by
     obtain⟨a4,m,p,o,e,_⟩:=a1 kv h;rw[e];exact List.mem_map_of_mem m
    rw[z2h]at few;refine⟨_,zr,a,_,dx,_,_,zr,J.ty.sbr (J.up _ _ ha),T.qr,T.q2w,zr,_,zr,B,r,_,rK g.t ts,zr,zr,a3,O.keep λ_ _ e=>J.tup e,nok,Nat.lt_of_le_of_lt (z3d few m3) (by decide),λo2 Z=>?_⟩;have ob:Ob P w mg g S1 (upd H1 B o2) B (.byr k):=⟨_,Z,qjy a2 _ _,λkv h=>by
     rcases qe7 h with h | rfl
     ·exact a1 kv h
     ·exact⟨ts,Y,p,o1,zr,hp⟩⟩
    exact hC _ _ ⟨zr,S1,_,p,o1,J.set (J.up _ _ hB) nofun ob,Z,by rw[q6p,if_pos rfl],hp⟩
def CtAt(mg:xE)(H:Hp)(o:Addr):Prop:=∃dx,H o=some (.ins (cA mg "Counts") dx [])
def qs7(P:Program)(w:World)(mg:xE)(vs:List V)(H:Hp)(Q:V->Hp->Prop)(d b o:Addr)(kvs:List (PR×V))(p:PR)(x v:Int):Prop:=vs=[.ref d,.ref b,.int v,.ref o]/\DP P w H d kvs/\NAt H (pN p) (.ref b)/\q77 p/\CtAt mg H o/\(valV kvs p).getD (.int 0)= .int x/\kvs.length < 1000/\
 ∀o',DP P w (upd H d o') d (putK kvs p (.int (x+v)))->Q .non (upd H d o')
inductive sp_addw (P:Program) (w:World) (mg:xE) (vs:List V) (H:Hp) (Q:VK) (_x3:XK):Prop
 | mk:∀(d:Addr) (b:Addr) (o:Addr) (kvs:List (PR×V)) (p:PR) (x:Int) (v:Int),(qs7 P w mg vs H Q d b o kvs p x v)->sp_addw P w mg vs H Q _x3
def qc9(T:Txt K mg):Def P w K mg base 3 "add_worth" ["summed","pair","worth","by"] (sp_addw P w mg):=by
 refine T.qlg.ok qjm (λvs H Q E h=>?_) λf cdv A outer s H vs Q E hr h=>?_
 ·obtain⟨d,b,o,kvs,p,x,v,rfl,_⟩:=h;rfl
 ·obtain⟨d,b,o,kvs,p,x,v,rfl,hd,hb,g,⟨dx,O⟩,hx,lk,q⟩:=h;refine⟨_,(qg (q6t (P:=P) (w:=w) hr.units (pv 0) (pv 1) (qz (q8n T) T.q3y hr (pv 3) (pa_2 (qdt (P:=P) (w:=w) hr.units (pv 0) (pv 1) (q8a (q5u T) T.q3y hr (pv 3)) ⟨zr,zr,zr,zr⟩) (pv 2))) rfl)),?_⟩;refine⟨_,zr,o,dx,[],zr,O,zr,?_⟩;refine⟨_,zr,d,zr,⟨_,hd⟩,_,zr,_,zr,o,dx,[],zr,O,zr,o,zr,?_⟩;refine⟨b,_,pN p,zr,hd,hb,q6h g,_,zr,?_⟩;rw[valP,hx];refine⟨o,x,v,zr,?_⟩;refine⟨_,rfl,_,rfl,d,b,_,pN p,rfl,rfl,hd,hb,q6h g,by rw[z2h];exact z1e lk (by decide),λo' J=>?_⟩;rw[putP]at J;exact q o' J
def q8u(P:Program)(w:World)(mg:xE)(vs:List V)(H:Hp)(Q:V->Hp->Prop)(g:Gx)(S:Sty)(a b o wd:Addr)(ws:List (Key×V)):Prop:=vs=[.ref a,.ref o,.ref wd]/\Inp g S H a b/\g.Ok/\CtAt mg H o/\H wd=some (.dK ws)/\valV ws (.inr g.nm)=some (.int 1)/\∀D H',Same H H'->H D=none->DP P w H' D [((g.t,g.R),.int 1)]->Q (.ref D) H'
inductive sp0_ok_worths_of_facts (P:Program) (w:World) (mg:xE) (vs:List V) (H:Hp) (Q:VK) (_x3:XK):Prop
 | mk:∀(g:Gx) (S:Sty) (a:Addr) (b:Addr) (o:Addr) (wd:Addr) (ws:List (Key×V)),(q8u P w mg vs H Q g S a b o wd ws)->sp0_ok_worths_of_facts P w mg vs H Q _x3
def q7a(T:Txt K mg):Def P w K mg base 4 "worths_of_facts" ["facts","by","worths"] (sp0_ok_worths_of_facts P w mg):=by
 refine T.qd5.ok q2n (λvs H Q E h=>?_) λf cdv A outer s H vs Q E hr h=>?_
 ·obtain⟨g,S,a,b,o,wd,ws,rfl,_⟩:=h;rfl
 ·obtain⟨g,S,a,b,o,wd,ws,rfl,⟨⟨fp,q,ha,hp,hq⟩,_⟩,ok,⟨dx,ct⟩,Z,hw,k⟩:=h;refine⟨_,(q3a
   (qm (i:=3) q2n.nd rfl (Or.inl rfl) (q6s (P:=P) (w:=w)))
   (q1k PassesOwn.never rfl (q11 K (pv 0)) (q3g rfl (qv (qi (i:=4) q2n.nd rfl (Or.inl rfl)) (qv (qi (i:=5) q2n.nd rfl (Or.inl rfl)) (qv (qi (i:=6) q2n.nd rfl (Or.inl rfl)) q1w)))) (qg (q1g (qh (qc9 T) hr rfl (pa_4 (pv 3) (q13 (pa_2 (pv 5) (pv 6))) (qfu (q3n hr) (pv 2) (pv 4) (λ_ _=>rfl)) (pv 1))))))
   (qj (pv 3))),?_⟩
  refine λD o1 O dn=>?_;have s1:=qc (o:=o1) O;refine⟨_,zr,a,zr,⟨_,SqL.of (s1 _ _ ha)⟩,q1t (xs:=[.ref fp]) (λi σ G=>∃(v2 v3 v4:Option V),σ=[some (.ref a),some (.ref o),some (.ref wd),some (.ref D),v2,v3,v4]/\Same H G/\DP P w G D (if i=0 then [] else [((g.t,g.R),.int 1)])) ⟨none,none,none,zr,s1,dn⟩ (λi σ G _ z=>?_) ?_ ?_⟩
  ·obtain⟨_,_,_,_,z,_⟩:=z;exact SqL.of (z _ _ ha)
  ·rintro i x σ G hx ⟨v2,v3,v4,rfl,J,Y⟩;obtain rfl:i=0:=Nat.lt_one_iff.mp (z06.mp hx).1;cases hx
   refine⟨fp,_,zr,SqT.of (J _ _ hp),zr,_,_,zr,_,_,zr,_,_,zr,zr,?_⟩;refine⟨_,rfl,⟨_,rfl,_,rfl,by show 2<=sizeLine;decide,λb hb=>?_⟩⟩;have s2:=qc (o:=HO.tup [V.str g.t,.ref q]) hb;have S2:=J.trans s2;refine⟨_,rfl,_,rfl,wd,.int 1,rfl,by rw[<- hw];exact DGet.k (k:= .inr g.nm) (S2 _ _ Z),_,rfl,?_⟩;exact⟨D,b,o,[],(g.t,g.R),0,1,zr,Y.same s2,pr_at.mpr ⟨q,qb,S2 _ _ hq⟩,ok.pg,⟨dx,S2 _ _ ct⟩,zr,by decide,λo' dz=>⟨_,_,_,zr,S2.set O,dz⟩⟩
  ·rintro σ G ⟨v2,v3,v4,rfl,J,Y⟩;exact⟨_,zr,k D G J O Y⟩
structure Ed (P:Program) (w:World) (mg:xE) (g:Gx) (S0:Sty) (H0:Hp) (d:Addr) (S:Sty) (H:Hp) (S':Sty) (H':Hp):Prop where
 e:Ex P w mg g S0 H0 S' H'
 up:∀a τ,S a=some τ->S' a=some τ
 st:∀a o,a≠d->S a=none->H a=some o->H' a=some o
 nn:∀a o,S a=none->H a=some o->S' a=none
def qe9(P:Program)(w:World)(mg:xE)(vs:List V)(H:Hp)(Q:V->Hp->Prop)(g:Gx)(S0:Sty)(H0:Hp)(S:Sty)(d p L q:Addr)(ts:List Key)(k:Nat)(ho:HO)(x:Int):Prop:=vs=[.ref d,.ref p,.str g.t,.ref L]/\Ex P w mg g S0 H0 S H/\g.Ok/\k<=5/\S p=some (.sum ts k ho)/\H0 d=none/\S d=none/\DP P w H d [((g.t,g.R),.int x)]/\S L=some (.cst (.lst [.ref q]))/\H q=some (.tup (g.R.map kV))/\
  ∀S' H',Ed P w mg g S0 H0 d S H S' H'->DP P w H' d [((g.t,g.R),.int (x+cnt g.tss.length k))]->Q .non H'
inductive sp0_ok_add_sums (P:Program) (w:World) (mg:xE) (vs:List V) (H:Hp) (Q:VK) (_x3:XK):Prop
 | mk:∀(g:Gx) (S0:Sty) (H0:Hp) (S:Sty) (d:Addr) (p:Addr) (L:Addr) (q:Addr) (ts:List Key) (k:Nat) (ho:HO) (x:Int),(qe9 P w mg vs H Q g S0 H0 S d p L q ts k ho x)->sp0_ok_add_sums P w mg vs H Q _x3
def ql8(T:Txt K mg):Def P w K mg base 12 "add_sums" ["summed","sums","table","rows"] (sp0_ok_add_sums P w mg):=by
 refine T.qo8.ok qdi (λvs H Q E h=>?_) λf cdv A outer s H vs Q E hr h=>?_
 ·obtain⟨g,S0,H0,S,d,p,L,q,ts,k,ho,x,rfl,_⟩:=h;rfl
 ·obtain⟨g,S0,H0,S,d,p,L,q,ts,k,ho,x,rfl,Z,ok,k5,hp,d0,dS,dd,hL,hq,kk⟩:=h;obtain⟨dx,_,_,_,_,o,_,_,_,rfl,ins,_,_,_,_,_,_,_,_,⟨dc,a1⟩,_⟩:=Z.ty p _ hp;refine⟨_,(qg (q1k PassesOwn.never rfl (q11 K (pv 3)) (qi (i:=4) qdi.nd rfl (Or.inl rfl)) (qg (q1g (qh (qc9 T) hr rfl (pa_4 (pv 0) (q13 (pa_2 (pv 2) (pv 4))) (qz (qfa T) T.q12 hr (pv 1) (pa_1 (pv 4))) (qo (pv 1) rfl))))))),?_⟩;refine⟨_,zr,L,zr,⟨_,SqL.of (Z.ty.cst hL)⟩,q1t (xs:=[.ref q]) (λi σ G=>∃(v5:Option V),σ=[some (.ref d),some (.ref p),some (.str g.t),some (.ref L),v5]/\((i=0/\G=H)\/ (i=1/\∃S',Ed P w mg g S0 H0 d S H S' G/\DP P w G d [((g.t,g.R),.int (x+cnt g.tss.length k))]))) ⟨none,zr,.inl ⟨zr,zr⟩⟩ (λi σ G _ z=>?_) ?_ ?_⟩
  ·obtain⟨_,_,⟨_,rfl⟩ | ⟨_,S',F,_⟩⟩:=z
   ·exact SqL.of (Z.ty.cst hL)
   ·exact SqL.of (F.e.ty.cst (F.up _ _ hL))
  ·rintro i y σ G hy ⟨v5,rfl,⟨rfl,rfl⟩ | ⟨rfl,_⟩⟩
   ·cases hy
    refine⟨_,rfl,⟨_,rfl,_,rfl,by show 2<=sizeLine;decide,λb hb=>?_⟩⟩;have O:=qc (o:=HO.tup [V.str g.t,.ref q]) hb;have e2:=qb (H:=G) (a:=b) (o:=HO.tup [V.str g.t,.ref q]);have E2:=Z.same O;generalize upd G b (.tup [V.str g.t,.ref q])=G2 at*;refine⟨_,zr,p,dx,_,zr,O _ _ ins,zr,_,zr,g,S,p,q,ts,k,_,zr,E2.ty,ok,k5,hp,O _ _ hq,λS3 G3 J=>?_⟩;have Y:DP P w G3 d [((g.t,g.R),.int x)]:=let ⟨zs,e,r⟩:=dd.same O;⟨zs,J.st _ _ dS e,r.keeps λ_ _ e=>J.tup e⟩
    have d3:S3 d=none:=let ⟨_,e,_⟩:=dd.same O;J.nn _ _ dS e
    refine⟨_,zr,p,_,dx,_,_,zr,J.ty.sum (J.up _ _ hp),T.q12,T.q62,zr,?_⟩;refine⟨d,b,o,_,(g.t,g.R),x,cnt g.tss.length k,rfl,Y,pr_at.mpr ⟨q,J.tup e2,J.tup (O _ _ hq)⟩,ok.pg,⟨dc,J.ty.cst (J.up _ _ a1)⟩,by rw[q15 (p:=((g.t,g.R),V.int x)) rfl];rfl,by show 1 < 1000;decide,λo' dz=>?_⟩;have dz:DP P w (upd G3 d o') d [((g.t,g.R),.int (x+cnt g.tss.length k))]:=by
     have e:putK [((g.t,g.R),V.int x)] (g.t,g.R) (.int (x+cnt g.tss.length k))=[((g.t,g.R),.int (x+cnt g.tss.length k))]:=by
      unfold putK;simp
     rw[e]at dz;exact dz
    refine⟨_,rfl,.inr ⟨rfl,S3,⟨(E2.trans J).own d0 d3 (let ⟨_,e,_⟩:=Y;by rw[e];nofun),J.up,λa o n h1 h2=>?_,λa o h1 h2=>J.nn _ _ h1 (O _ _ h2)⟩,dz⟩⟩;rw[qk n];exact J.st _ _ h1 (O _ _ h2)
   ·exact absurd (z06.mp hy).1 (z34 1)
  ·rintro σ G ⟨v5,rfl,⟨z,_⟩ | ⟨_,S',F,d1⟩⟩
   ·cases z
   ·exact kk S' G F d1
def qmm{g:Gx}{S S1:Sty}{H H1:Hp}(E:Ex P w mg g S H S1 H1){k:Nat}{x dx O o d D B:Addr}{J:V}(x0:H x=none)(D0:H D=none)(B0:H B=none)(nx:S1 x=none)(nD:S1 D=none)(nB:S1 B=none)(hp:H1 x=some (.ins (cA mg "SumsByRule") dx (sbrF O (.ref o) (.ref d) J D B)))(eD:H1 D=some (.dK []))(dB:DN P w H1 B [])(tb:Tb g S1 H1 O)(ct:Ct mg S1 o)(ah:Ah P w g S1 H1 d k)(a1:J= .non\/ ∃b j ho,J= .ref b/\j+1=k/\S1 b=some (.sbr j ho)):∃S2,Ex P w mg g S H S2 H1/\(∀b σ,S1 b=some σ->S2 b=some σ)/\S2 x=some (.sbr k (.ins (cA mg "SumsByRule") dx (sbrF O (.ref o) (.ref d) J D B)))/\∀c,c≠x->c≠D->c≠B->S2 c=S1 c:=by
 obtain⟨φ,hφ⟩:∃φ,H1 B=some (.ext φ):=let ⟨_,e,_⟩:=dB;⟨_,e⟩
 have Dx:D≠x:=λz=>by rw[z,hp]at eD;cases eD
 have BD:B≠D:=λz=>by rw[z,eD]at hφ;cases hφ
 have Bx:B≠x:=λz=>by rw[z,hp]at hφ;cases hφ
 have u1:=q32 (τ:= .std) nD;have F1:=E.new .std D0 nD (.inl eD);have Y:putS S1 D .std B=none:=by rw[q22 BD];exact nB
 have u2:=q32 (τ:= .byr k) Y;have F2:=F1.new (.byr k) B0 Y ⟨[],dB,z2w,λ_ z=>nomatch z⟩;have Z:putS (putS S1 D .std) B (.byr k) x=none:=by rw[q22 (Ne.symm Bx),q22 (Ne.symm Dx)];exact nx
 have u3:=q32 (τ:= .sbr k (.ins (cA mg "SumsByRule") dx (sbrF O (.ref o) (.ref d) J D B))) Z;have U:∀b σ,S1 b=some σ->_:=λb σ h=>u3 _ _ (u2 _ _ (u1 _ _ h));exact⟨_,F2.new (.sbr k (.ins (cA mg "SumsByRule") dx (sbrF O (.ref o) (.ref d) J D B))) x0 Z ⟨dx,O,o,d,J,D,B,zr,hp,tb.mono U λ_ _ e=>e,ct.mono U,ah.mono U (λ_ _ e=>e) λ_ _ _=>rfl,u3 _ _ (u2 _ _ q2c),u3 _ _ q2c,a1.imp_right λ⟨b,j,ho,h1,h2,h3⟩=>⟨b,j,ho,h1,h2,U _ _ h3⟩⟩,U,q2c,λc c1 c2 c3=>by rw[q22 c1,q22 c3,q22 c2]⟩
def WbI(P:Program)(w:World)(mg:xE)(g:Gx)(S:Sty)(H:Hp)(a b o wd lt l tt:Addr)(n i:Nat)(σ:List (Option V))(G:Hp)(v8 v9 v10:Option V)(sv:V)(S':Sty)(ds:List Addr):Prop:=σ=[some (.ref a),some (.ref b),some (.int n),some (.ref o),some (.ref wd),some (.ref lt),some (.ref l),some sv,v8,v9,v10]/\Ex P w mg g S H S' G/\S' l=none/\G l=some (.lst (ds.map V.ref))/\ds.length=i+1/\(∀j d,ds[j]? =some d->Ah P w g S' G d j)/\S' lt=none/\G lt=some (.lst (List.replicate (n+1) (.ref tt)))/\Tb g S' G tt/\((i=0/\sv= .non)\/ ∃b j ho,i=j+1/\sv= .ref b/\S' b=some (.sbr j ho))
def qv4(P:Program)(w:World)(mg:xE)(vs:List V)(H:Hp)(Q:V->Hp->Prop)(g:Gx)(S:Sty)(a b o wd:Addr)(n:Nat)(ws:List (Key×V)):Prop:=vs=[.ref a,.ref b,.int n,.ref o,.ref wd]/\Ty P w mg g S H/\Inp g S H a b/\g.Ok/\n<=5/\Ct mg S o/\S wd=some (.cst (.dK ws))/\valV ws (.inr g.nm)=some (.int 1)/\
 ∀S' l (ds:List Addr) H',Ex P w mg g S H S' H'->H l=none->S' l=none->H' l=some (.lst (ds.map V.ref))->ds.length=n+1->(∀i d,ds[i]? =some d->Ah P w g S' H' d i)->Q (.ref l) H'
inductive sp_wbr (P:Program) (w:World) (mg:xE) (vs:List V) (H:Hp) (Q:VK) (_x3:XK):Prop
 | mk:∀(g:Gx) (S:Sty) (a:Addr) (b:Addr) (o:Addr) (wd:Addr) (n:Nat) (ws:List (Key×V)),(qv4 P w mg vs H Q g S a b o wd n ws)->sp_wbr P w mg vs H Q _x3
def WbJ(P:Program)(w:World)(mg:xE)(g:Gx)(S:Sty)(H:Hp)(S8:Sty)(G2:Hp)(a b o wd lt l x d:Addr)(n i:Nat)(j:Nat)(σ:List (Option V))(G':Hp)(v10:Option V)(S':Sty):Prop:=σ=[some (.ref a),some (.ref b),some (.int n),some (.ref o),some (.ref wd),some (.ref lt),some (.ref l),some (.ref x),some (.int (0+(i:Nat))),some (.ref d),v10]/\Ed P w mg g S H d S8 G2 S' G'/\DP P w G' d [((g.t,g.R),.int (1+j*cnt g.tss.length i))]
def qca(T:Txt K mg):Def P w K mg base 15 "worths_by_round" ["facts","rules","rounds","by","worths"] (sp_wbr P w mg):=by
  refine T.qd7.ok q1p (λvs H Q E h=>?_) λf cdv A outer s H vs Q E hr h=>?_
  · obtain⟨g,S,a,b,o,wd,n,ws,rfl,_⟩:=h
    rfl
  · obtain⟨g,S,a,b,o,wd,n,ws,rfl,ty,b0,ok,n5,⟨dc,c4⟩,e0,hw,kk⟩:=h
    refine⟨_,(qsy
      (qm (i:=5) q1p.nd rfl (Or.inl rfl) (qh (qc8 T) hr rfl (pa_3 (pv 0) (pv 1) (pv 2))))
      (qm (i:=6) q1p.nd rfl (Or.inl rfl) (q1f (pa_1 (qh (q7a T) hr rfl (pa_3 (pv 0) (pv 3) (pv 4))))))
      (qm (i:=7) q1p.nd rfl (Or.inl rfl) q3f)
      (q1k PassesOwn.never rfl (q3v rfl T.q63 (pa_1 (pv 2))) (qi (i:=8) q1p.nd rfl (Or.inl rfl)) (q4k
      (qm (i:=9) q1p.nd rfl (Or.inl rfl) (qh (q7a T) hr rfl (pa_3 (pv 0) (pv 3) (pv 4))))
      (qm (i:=7) q1p.nd rfl (Or.inl rfl) (q8c (q79 T) T.qb3 T.qb4 hr rfl T.qcg (pa_4 (qt (q27 K) (pv 5) (pv 8) (λ_ _=>rfl)) (pv 3) (qt (q27 K) (pv 6) (pv 8) (λ_ _=>rfl)) (pv 7))))
      (q1k PassesOwn.never rfl (q11 K (pv 1)) (qi (i:=10) q1p.nd rfl (Or.inl rfl)) (qg (q1g (qh (ql8 T) hr rfl (pa_4 (pv 9) (qz (q3u T) T.qr hr (pv 7) (pa_1 (pv 10))) (qt (qq K) (qt (qq K) (pv 10) qf (λ_ _=>rfl)) qf (λ_ _=>rfl)) (q6r (q3n hr) (qt (q27 K) (pv 5) (qy q2k (pv 8) qf) (λ_ _=>rfl)) (qt (qq K) (qt (qq K) (pv 10) qf (λ_ _=>rfl)) qf (λ_ _=>rfl)) (q1f q1i) ⟨rfl,rfl,rfl,rfl⟩))))))
      (q1g (q4j z0i z0e z0f q2y (pv 6) (pa_1 (pv 9))))))
      (qj (pv 6))),?_⟩
    refine⟨_,zr,_,zr,_,zr,g,S,a,b,n,zr,ty,b0,ok,n5,λS1 lt tt H1 E1 lt0 i7 c7 tb=>?_⟩;have i1:=b0.ex E1;refine⟨_,rfl,_,rfl,_,rfl,g,S1,a,b,o,wd,ws,rfl,i1,ok,⟨dc,E1.ty.cst (E1.up _ _ c4)⟩,E1.ty.cst (E1.up _ _ e0),hw,λD0 H2 s2 b4 g7=>⟨by show 1<=sizeLine;decide,λl hl=>?_⟩⟩;have s3:=qc (o:=HO.lst [.ref D0]) hl;have c6:=qb (H:=H2) (a:=l) (o:=HO.lst [.ref D0]);have c9:=s2.trans s3;have a8:=c9 _ _ c7;have E2:=E1.same s2;have l0:=E2.free hl;have lS:=E2.ty.fresh hl;have i8:lt≠l:=λz=>by rw[<- z,s2 _ _ c7]at hl;cases hl
    have E3:=E1.same c9;have a1:=g7.same s3;generalize upd H2 l (.lst [.ref D0])=H3 at*;obtain⟨oD,c8,j3⟩:=q83 a1;have d1:=E1.ty.fresh b4;have E4:=E3.new (.cst oD) (E1.free b4) d1 ⟨c8,j3⟩;have u4:=q32 (τ:= .cst oD) d1;have l4:putS S1 D0 (.cst oD) l=none:=by
      rw[q22 λz=>by rw[z,c8]at c6;cases c6;obtain⟨_,e,_⟩:=a1;rw[c8]at e;cases e];exact lS
    have i6:putS S1 D0 (.cst oD) lt=none:=by
      rw[q22 λz=>by rw[<- z,c7]at b4;cases b4];exact i7
    have j5:=tb.mono u4 λ_ _ e=>c9 _ _ e;have f9:Ah P w g (putS S1 D0 (.cst oD)) H3 D0 0:=⟨oD,q2c,a1⟩;generalize putS S1 D0 (.cst oD)=S4 at*;refine⟨_,zr,n,zr,by lia,by lia,q5w (lo:=0) (n:=n) (λi σ G=>∃(v8 v9 b3:Option V) (sv:V) (S':Sty) (ds:List Addr),WbI P w mg g S H a b o wd lt l tt n i σ G v8 v9 b3 sv S' ds) ⟨none,none,none,.non,S4,[D0],zr,E4,l4,c6,zr,λj d hj=>?_,i6,a8,j5,.inl ⟨zr,zr⟩⟩ ?_ ?_⟩
    · match j,hj with
      | 0,hj=>
        cases hj
        exact f9
    · rintro i σ G hi ⟨v8,v9,b3,sv,S5,ds,rfl,Y,l5,a6,ld,b5,b8,Z,d0,e7⟩
      have hn:i < n:=hi;have i5:=b0.ex Y;refine⟨_,zr,_,zr,_,zr,g,S5,a,b,o,wd,ws,zr,i5,ok,⟨dc,Y.ty.cst (Y.up _ _ c4)⟩,Y.ty.cst (Y.up _ _ e0),hw,λd G1 s6 c5 d5=>?_⟩;obtain⟨di,d6⟩:∃d,ds[i]? =some d:=⟨_,z0b (by lia)⟩;have d3:∀k,k<=n->atI (List.replicate (n+1) (V.ref tt)) (k:Nat)=some (.ref tt):=λk hk=>ql (by rw[List.getElem?_replicate,if_pos (by lia)]);have g0:atI (ds.map V.ref) (0+(i:Nat))=some (.ref di):=by
        rw[Int.zero_add];exact ql (by rw[z1m,d6];rfl)
      refine⟨_,rfl,_,rfl,_,_,_,_,rfl,rfl,SqL.of (s6 _ _ Z),by rw[Int.zero_add];exact d3 i (by lia),_,rfl,_,rfl,_,rfl,_,_,_,_,rfl,rfl,SqL.of (s6 _ _ a6),g0,_,rfl,λx dx nx j2 _=>⟨G1,x,dx,tt,.ref o,.ref di,sv,rfl,(qc j2).set nx,nx,qb,λD B G2 s7 i0 a5 eD c1 dB=>⟨rfl,?_⟩⟩⟩;have c0:=s6.trans s7;have X6:=Y.ty.ex.same s6;have X7:=Y.ty.ex.same c0;obtain⟨φd,O⟩:∃φ,G1 d=some (.ext φ):=let ⟨_,e,_⟩:=d5;⟨_,e⟩
      have dn:∀{c},G1 c=none->d≠c:=λh z=>by rw[<- z,O]at h;cases h
      have e4:∀b τ,S5 b=some τ->S5 b=some τ:=λ_ _ h=>h;obtain⟨S8,F3,-,f7,j0⟩:=qmm X7 (s6.free nx) (s6.free a5) (s6.free c1) (X6.ty.fresh nx) (X6.ty.fresh a5) (X6.ty.fresh c1) i0 eD dB (d0.mono e4 λ_ _ e=>c0 _ _ e) ⟨dc,Y.up _ _ c4⟩ ((b5 i di d6).mono e4 (λ_ _ e=>c0 _ _ e) λb o h=>by rw[Y.ty.cst h];exact c0 _ _ (Y.ty.cst h)) (e7.imp And.right λ⟨b,j,ho,e1,e2,e3⟩=>⟨b,j,ho,e2,e1.symm,e3⟩);have dS:S8 d=none:=by
        rw[j0 d (dn nx) (dn a5) (dn c1)];exact Y.ty.fresh c5
      have E8:=Y.trans F3;have g8:=d5.same s7;obtain⟨rs,a9,f0⟩:=(b0.ex E8).rl;have j1:=(b0.ex E8).nb;have lr:=Paired.length f0;rw[z2h]at lr;refine⟨_,zr,b,zr,⟨_,SqL.of a9⟩,q1t (xs:=rs) (λj σ G'=>∃(b3:Option V) (S':Sty),WbJ P w mg g S H S8 G2 a b o wd lt l x d n i j σ G' b3 S') ⟨_,S8,zr,⟨E8,λ_ _ h=>h,λ_ _ _ _ h=>h,λ_ _ h _=>h⟩,?_⟩ (λj σ G' _ z=>?_) ?_ ?_⟩
      · have:(1:Int)+(0:Nat)*cnt g.tss.length i=1:=by simp
        rw[this];exact g8
      · obtain⟨_,_,_,F,_⟩:=z
        exact SqL.of (F.st _ _ (λz=>by rw[z]at a9;rw[s7 _ _ O]at a9;cases a9) j1 a9)
      · rintro j y σ G' hy ⟨f2,S',rfl,F,a2⟩
        obtain⟨kx,d7,r,rfl,i3⟩:=q2m f0 hy;rw[z1m]at d7;obtain⟨ts,i4,rfl⟩:=z0n.mp d7;have i9:=z0x i4;have f6:=F.up _ _ f7;have tu:∀{c ys},G2 c=some (.tup ys)->G' c=some (.tup ys):=λ{c ys} e=>F.st _ _ (λz=>by rw[z,s7 _ _ O]at e;cases e) (F3.ty.tup e) e;have e6:NAt G' (rK g.t ts) (.ref r):=i3.keep λ_ _ e=>tu e;refine⟨_,zr,_,zr,x,dx,_,zr,F.e.ty.sbr f6,zr,_,zr,g,S',x,r,ts,i,_,zr,F.e.ty,ok,f6,i9,e6,λS2 p ho G3 X2 hp=>?_⟩;obtain⟨h9,_,_,_,d9,hh,_⟩:=ru_at.mp (e6.keep λ_ _ e=>X2.tup e);obtain⟨i2,h1,_⟩:=pr_at.mp hh;have h1:G3 h9=some (.tup [.str g.t,.ref i2]):=h1;have a4:S' d=none:=F.nn _ _ dS (s7 _ _ O);have d4:S2 d=none:=let ⟨_,e,_⟩:=a2;X2.nn _ _ a4 e
        have a1:DP P w G3 d [((g.t,g.R),.int (1+j*cnt g.tss.length i))]:=let ⟨zs,e,r⟩:=a2;⟨zs,X2.st _ _ a4 e,r.keeps λ_ _ e=>X2.tup e⟩
        have b1:=F3.nn _ _ b8 Z;have J:=F3.st _ _ b8 Z;have b9:lt≠d:=λz=>by rw[z,s7 _ _ O]at J;cases J
        have a8:=X2.st _ _ (F.nn _ _ b1 J) (F.st _ _ b9 b1 J);obtain⟨La,q,t1,t2,t3⟩:=(d0.mono (λb σ h=>X2.up _ _ (F.up _ _ (F3.up b σ h))) λ_ _ e=>X2.tup (tu (F3.tup e)):Tb g S2 G3 tt);refine⟨_,zr,_,_,_,_,zr,zr,SqT.of d9,ql (j:=0) rfl,_,_,_,_,zr,zr,SqT.of h1,ql (j:=0) rfl,?_⟩;refine⟨_,rfl,_,rfl,_,_,rfl,rfl,_,_,_,_,rfl,rfl,SqL.of a8,by have:=d3 (i+1) (by lia);rw[Int.zero_add];exact this,tt,rfl,.inl ⟨_,.inl (X2.ty.cst t1)⟩,_,rfl,_,_,_,_,rfl,rfl,SqT.of d9,ql (j:=0) rfl,_,_,_,_,rfl,rfl,SqT.of h1,ql (j:=0) rfl,by decide,λL0 h6=>?_⟩;have s9:=qc (o:=HO.lst []) h6;have E9:=(F.e.trans X2).same s9;refine⟨_,.inl ⟨_,.inr g.t,.inl (E9.ty.cst t1),zr,zr⟩,?_⟩;rw[q15 (p:=((.inr g.t:Key),V.ref La)) rfl];refine⟨g,S,H,S2,d,p,La,q,ts,i,ho,_,zr,E9,ok,by lia,hp,Y.free c5,d4,a1.same s9,t2,s9 _ _ t3,λf8 G10 a3 g6=>?_⟩;refine⟨_,f8,zr,⟨a3.e,λ_ _ h=>a3.up _ _ (X2.up _ _ (F.up _ _ h)),λc o nd h1 h2=>a3.st _ _ nd (X2.nn _ _ (F.nn _ _ h1 h2) (F.st _ _ nd h1 h2)) (s9 _ _ (X2.st _ _ (F.nn _ _ h1 h2) (F.st _ _ nd h1 h2))),λc o h1 h2=>?_⟩,?_⟩
        · by_cases z:c=d
          · obtain⟨_,e,_⟩:=a1.same s9
            rw[z];exact a3.nn _ _ d4 e
          · exact a3.nn _ _ (X2.nn _ _ (F.nn _ _ h1 h2) (F.st _ _ z h1 h2)) (s9 _ _ (X2.st _ _ (F.nn _ _ h1 h2) (F.st _ _ z h1 h2)))
        · have:(1:Int)+((j+1:Nat):Int)*cnt g.tss.length i=1+j*cnt g.tss.length i+cnt g.tss.length i:=by
            rw[Int.natCast_add,Int.add_mul];show _+(_+1*_)=_;rw[Int.one_mul,Int.add_assoc]
          rw[this];exact g6
      · rintro σ G' ⟨f2,S',rfl,F,a2⟩
        rw[lr]at a2;have a4:S' d=none:=F.nn _ _ dS (s7 _ _ O);obtain⟨od,h8,j4⟩:=q83 a2;have l8:=F3.nn _ _ l5 a6;have b6:=F3.st _ _ l5 a6;have b7:l≠d:=λz=>by rw[z,s7 _ _ O]at b6;cases b6
        have a7:=F.st _ _ b7 l8 b6;have e5:=F.nn _ _ l8 b6;refine⟨_,rfl,.inl ⟨rfl,_,SqL.of a7⟩,_,rfl,l,_,_,rfl,rfl,a7,by rw[z2h];exact z1e (show _ < 1000 by lia) (by decide),?_⟩;have E9:=F.e.own (o:= .lst (ds.map V.ref++ [.ref d])) l0 e5 (by rw[a7];nofun);have ne:∀{c o},c≠l->G' c=some o->upd G' l (.lst (ds.map V.ref++ [.ref d])) c=some o:=λn e=>by rw[qk n];exact e
        have tu:∀{c ys},G c=some (.tup ys)->upd G' l (.lst (ds.map V.ref++ [.ref d])) c=some (.tup ys):=λ{c ys} e=>by
          have e8:=F3.tup e;have e9:=F.st _ _ (λz=>by rw[z,s7 _ _ O]at e8;cases e8) (F3.ty.tup e8) e8;exact ne (λz=>by rw[z,a7]at e9;cases e9) e9
        have g9:DP P w (upd G' l (.lst (ds.map V.ref++ [.ref d]))) d [((g.t,g.R),.int (cnt g.tss.length (i+1)))]:=q3m (λc ys e=>ne (λz=>by rw[z,a7]at e;cases e) e) (qk (Ne.symm b7)) a2;have u9:=q32 (τ:= .cst od) a4;have d2:=E9.new (.cst od) (Y.free c5) a4 ⟨by rw[qk (Ne.symm b7)];exact h8,j4⟩;have up:∀b σ,S5 b=some σ->putS S' d (.cst od) b=some σ:=λb σ h=>u9 _ _ (F.up _ _ (F3.up b σ h));have cs:∀c o,S5 c=some (.cst o)->upd G' l (.lst (ds.map V.ref++ [.ref d])) c=G c:=λc o h=>by rw[Y.ty.cst h,d2.ty.cst (up _ _ h)]
        have b1:=F3.nn _ _ b8 Z;have J:=F3.st _ _ b8 Z;have b9:lt≠d:=λz=>by rw[z,s7 _ _ O]at J;cases J
        have d8:=F.st _ _ b9 b1 J;refine⟨_,_,_,_,putS S' d (.cst od),ds++ [d],rfl,d2,by rw[q22 b7];exact e5,by rw[qb,z2n];rfl,by rw[z1b,ld];rfl,λk c hk=>?_,by rw[q22 b9];exact F.nn _ _ b1 J,ne i8 d8,d0.mono up λ_ _ e=>tu e,.inr ⟨x,i,_,rfl,rfl,u9 _ _ (F.up _ _ f7)⟩⟩;by_cases h7:k < ds.length
        · rw[List.getElem?_append_left h7]at hk
          exact(b5 k c hk).mono up (λ_ _ e=>tu e) cs
        · have:k=i+1:=by
            have:=(z06.mp hk).1;rw[z1b]at this;have:k < ds.length+1:=this
            lia
          subst this;rw[z04 (by lia),ld,Nat.sub_self]at hk;cases hk
          exact⟨od,q2c,g9⟩
    · rintro σ G ⟨v8,v9,b3,sv,S5,ds,rfl,Y,l5,a6,ld,b5,_⟩
      exact⟨_,zr,kk S5 l ds G Y l0 l5 a6 ld b5⟩
end Wy
namespace L2
open PySem PySem.Spec PyProof.Rows PySem.W
section
variable{X:Cx}
def qx5{xC:xG}{σ:St}{H:Hp}{s:Shared}{a b:Addr}{kvs:List (NK×V)}{k:NK}{z:V}{r:Value}{A:Around}{E:xB}{Q:xB}(hu:A.units+64 < cLine)(I:Inv X xC σ H s)(g:DN X.prog X.w H a kvs)(nk:NAt H k (.ref b))(ok:NOk k)(l:kvs.length < sizeLine)(rz:RelV z r)
  (h1:∀v w' s',valV kvs k=some v->Inv X xC σ H s'->RelV v w'->Q w' s') (h2:valV kvs k=none->∀o s',DN X.prog X.w (upd H a o) a (putK kvs k z)->Inv X xC σ (upd H a o) s'->Q r s'):
  wpAny (model X.prog X.w) A (call (.builtin "dict.setdefault") [.ref a,.ref b,r]) Q E s:=by
 obtain⟨zl,hd,xs,e,O,dd⟩:=q67 I.hok g;have rv:=O.val k;refine call_meetsIn PySem.F.slot_dict_setdefault dd.typeIs PySem.F.entry_dict_setdefault (PySem.F.args_dict_setdefault_3 _ _ _) (q7m (nestKind X.prog X.w) a b hd r) ⟨q75 hu,k,xs,qa5 I.hok nk ok,dd,by rw[<- Paired.length O];exact zl,λp hp=>?_,λhn h' a1 hs=>?_⟩
 ·rw[hp]at rv;cases Y:valV kvs k with
  | none=>
   rw[Y]at rv;exact rv.elim
  | some v=>
   rw[Y]at rv;exact h1 v p.2 _ Y (I.tok _) rv
 ·obtain⟨q,es,ep,hq,g2,g3,g4,_,g5⟩:=a1;have J:=(O.put k ⟨nk,ok⟩ rz);have hl:(storedH xs k b r).length<=sizeLine:=by
   rw[<- Paired.length J];have:=q2j kvs k z
   lia
  have Z:KN (upd H a (.ext (dNφ X.prog X.w a (storedH xs k b r)))) (putK kvs k z) (storedH xs k b r):=J.keeps λc ys ec=>by
   rw[qk (λz=>by rw[z,e]at ec;cases ec)];exact ec
  refine h2 ?_ (.ext (dNφ X.prog X.w a (storedH xs k b r))) _ ⟨_,qb,Z⟩ (q6q I (by rw[e];exact True.intro) hs ⟨q,hq⟩ (qih ⟨hd,hl,q,es,ep,hq,g2,g3,g4,g5⟩));rw[hn]at rv;cases Y:valV kvs k with
  | none=>rfl
  | some v=>
   rw[Y]at rv;exact rv.elim
inductive tNSetd_ (P:Program) (w:World) (ty:TE) (tx:TE) (σ:St) (Q:VK) (x:V) (H1:Hp):Prop
 | mk:∀a,(x= .ref a)->((∃kv0,DN P w H1 a kv0))->(ty σ H1 λy H2=>tx σ H2 λz H3=>∃b kvs k,y= .ref b/\DN P w H3 a kvs/\NAt H3 k (.ref b)/\NOk k/\kvs.length < sizeLine/\
 (∀v,valV kvs k=some v->Q v H3)/\(valV kvs k=none->∀o,DN P w (upd H3 a o) a (putK kvs k z)->Q z (upd H3 a o)))->tNSetd_ P w ty tx σ Q x H1
def qx6(P:Program)(w:World)(td ty tx:TE):TE:=λσ H Q=>td σ H λx H1=>tNSetd_ P w ty tx σ Q x H1
def qs8{P:Program}{w:World}{o e f:Expr}{apos cpos:Pos}{td ty tx:TE}(hu:X.A.units+64 < cLine)(ho:PE X o td)(he:PE X e ty)(hf:PE X f tx)(m:M2 X o "setdefault" apos e f cpos)(hP:X.prog=P:=by rfl)(hw:X.w=w:=by rfl):PE X (.Call (.Attribute o "setdefault" apos) [e,f] [] cpos) (qx6 P w td ty tx):=by
 subst hP hw;intro xC s σ H Q I h;refine wpAny_Call_method m.base m.few m.line PySem.F.plainAttrs_dict PySem.F.slot_dict_setdefault PySem.F.type_dict_setdefault (thn (ho xC s σ H _ I h) λu s1 O=>?_);obtain⟨x,H1,I1,rx,a,ex,⟨kv0,d⟩,q1⟩:=O;subst ex;obtain rfl:u=Value.ref a:=rx;have t2:∀b,Value.ref a= .ref b->∃ob,s1.heap.get? b=some ob/\ob.dict=none:=λb q=>by
  cases q
  obtain⟨_,_,xs,_,_,ob,_,_,h1,h2,_⟩:=q67 I1.hok d;exact⟨ob,h1,h2.2.1⟩
 refine⟨qds I1 d,t2,?_⟩;rw[m.trees];refine Calls.callWith_builtin rfl (Calls.evalArgs_plain (Calls.spliced_cons (thn (he xC s1 σ H1 _ I1 q1) λiv s2 ⟨y,H2,I2,ry,q2⟩=>
  Calls.spliced_cons (thn (hf xC s2 σ H2 _ I2 q2) λfv s3 ⟨z,H3,I3,rz,b,kvs,k,ey,g,nk,ok,hl,q3,q4⟩=>Calls.spliced_nil ?_))))
 subst ey;obtain rfl:iv=Value.ref b:=ry;exact qx5 hu I3 g nk ok hl rz (λv w' s4 ev I4 J=>⟨_,H3,I4,J,q3 v ev⟩) λen o s4 dn I4=>⟨z,_,I4,rz,q4 en o dn⟩
end
end L2
namespace Wy
open PySem L2
def makF(rb o bl nd sb:Addr):List (Str×V):=[("rules",.ref rb),("by",.ref o),("behind",.ref bl),("names",.ref nd),("sums_behind",.ref sb)]
structure MkA where
 mp:Addr
 mdx:Addr
 fa:Addr
 rb:Addr
 o:Addr
 bl:Addr
 nd:Addr
 nl:Addr
 sb:Addr
 ds:List Addr
structure Mk (P:Program) (w:World) (mg:xE) (g:Gx) (S:Sty) (H:Hp) (M:MkA):Prop where
 ms:S M.mp=some (.cst (.ins (cA mg "Makers") M.mdx (makF M.rb M.o M.bl M.nd M.sb)))
 ip:Inp g S H M.fa M.rb
 ct:Ct mg S M.o
 bl:S M.bl=some (.cst (.lst (M.ds.map V.ref)))
 nd:∃on,S M.nd=some (.cst on)/\DP P w H M.nd [((g.t,g.R),.ref M.nl)]
 nl:S M.nl=some (.cst (.lst [.str g.nm]))
 sb:S M.sb=some .beh
 ah:∀i d,M.ds[i]? =some d->Ah P w g S H d i
section
variable{P:Program}{w:World}{K:xA}{mg:xE}{base:Heap}{g:Gx}{S S':Sty}{H H':Hp}{M:MkA}
def Ex.cs(E:Ex P w mg g S H S' H'):∀b o,S b=some (.cst o)->H' b=H b:=λb o h=>(E.ty.cst (E.up _ _ h)).trans (E.t0.cst h).symm
def Ex.tu(E:Ex P w mg g S H S' H'):∀b ys,H b=some (.tup ys)->H' b=some (.tup ys):=λ_ _ e=>E.tup e
theorem Mk.ex(h:Mk P w mg g S H M)(E:Ex P w mg g S H S' H'):Mk P w mg g S' H' M:=
 ⟨E.up _ _ h.ms,h.ip.ex E,h.ct.mono E.up,E.up _ _ h.bl,let ⟨on,h1,h2⟩:=h.nd;⟨on,E.up _ _ h1,q3m E.tu (E.cs _ _ h1) h2⟩,E.up _ _ h.nl,E.up _ _ h.sb,λi d hd=>(h.ah i d hd).mono E.up E.tu E.cs⟩
def MkI(P:Program)(w:World)(mg:xE)(g:Gx)(H0:Hp)(p dx fa rb o bl D:Addr)(i:Nat)(σ:List (Option V))(G:Hp)(v5 v6 v7:Option V):Prop:=σ=[some (.ref p),some (.ref fa),some (.ref rb),some (.ref o),some (.ref bl),v5,v6,v7]/\Same H0 G/\G p=some (.ins (cA mg "Makers") dx [("rules",.ref rb),("by",.ref o),("behind",.ref bl),("names",.ref D)])/\((i=0/\DN P w G D [])\/ (i=1/\∃nl,H0 nl=none/\DP P w G D [((g.t,g.R),.ref nl)]/\G nl=some (.lst [.str g.nm])))
def qbb(P:Program)(w:World)(mg:xE)(vs:List V)(H:Hp)(Q:V->Hp->Prop)(g:Gx)(S:Sty)(H0:Hp)(p dx fa rb o bl:Addr):Prop:=vs=[.ref p,.ref fa,.ref rb,.ref o,.ref bl]/\Same H0 H/\H0 p=none/\H p=some (.ins (cA mg "Makers") dx [])/\Inp g S H0 fa rb/\g.Ok/\
  ∀nd nl sb H',Same H0 H'->H' p=some (.ins (cA mg "Makers") dx (makF rb o bl nd sb))->H0 nd=none->DP P w H' nd [((g.t,g.R),.ref nl)]->H0 nl=none->H' nl=some (.lst [.str g.nm])->H0 sb=none->H' sb=some (.dK [])->Q .non H'
inductive sp0_ok_Makers_init (P:Program) (w:World) (mg:xE) (vs:List V) (H:Hp) (Q:VK) (_x3:XK):Prop
 | mk:∀(g:Gx) (S:Sty) (H0:Hp) (p:Addr) (dx:Addr) (fa:Addr) (rb:Addr) (o:Addr) (bl:Addr),(qbb P w mg vs H Q g S H0 p dx fa rb o bl)->sp0_ok_Makers_init P w mg vs H Q _x3
def qgi(T:Txt K mg):MDef P w K mg base 2 (cA mg "Makers") "__init__" ["self","facts","rules","by","behind"] (sp0_ok_Makers_init P w mg):=by
 refine T.qib.ok q51 (λvs H Q E h=>?_) λf cdv A outer s H vs Q E hr h=>?_
 ·obtain⟨g,S,H0,p,dx,fa,rb,o,bl,rfl,_⟩:=h;rfl
 ·obtain⟨g,S,H0,p,dx,fa,rb,o,bl,rfl,s0,O,hp,⟨⟨fp,q,ha,a7,hq⟩,_⟩,ok,k⟩:=h;refine⟨_,(qn8
   (q1h (pv 0) (pv 2) rfl)
   (q1h (pv 0) (pv 3) rfl)
   (q1h (pv 0) (pv 4) rfl)
   (q1h (pv 0) (q6s (P:=P) (w:=w)) rfl)
   (q1k PassesOwn.never rfl (q11 K (pv 1)) (q3g rfl (qv (qi (i:=5) q51.nd rfl (Or.inl rfl)) (qv (qi (i:=6) q51.nd rfl (Or.inl rfl)) (qv (qi (i:=7) q51.nd rfl (Or.inl rfl)) q1w)))) (qg (q1g (q4j z0i z0e z0f q2y (qs8 (P:=P) (w:=w) hr.units (qo (pv 0) rfl) (q13 (pa_2 (pv 6) (pv 7))) (q1f q1i) ⟨rfl,rfl,rfl,rfl⟩) (pa_1 (pv 5))))))
   (q1h (pv 0) q4n rfl)),?_⟩
  refine⟨_,zr,_,zr,?_⟩;refine q1j [] s0 O hp T.q1l T.qae (by show 0 < 1000;decide) rfl rfl λH1 S1 a9 _=>?_;refine⟨_,zr,_,zr,?_⟩;refine q1j ["rules"] S1 O a9 T.q1l T.qdl (by show 1 < 1000;decide) rfl (by decide+kernel) λH2 S2 b0 _=>?_;refine⟨_,zr,_,zr,?_⟩;refine q1j ["rules","by"] S2 O b0 T.q1l T.q9e (by show 2 < 1000;decide) rfl (by decide+kernel) λH3 S3 a4 _=>?_;refine λD oD hD dD=>?_;have s4:=qc (o:=oD) hD;have Dp:D≠p:=λz=>by rw[z,a4]at hD;cases hD
  refine⟨_,zr,?_⟩;refine q1j ["rules","by","behind"] (S3.trans s4) O (s4 _ _ a4) T.q1l T.q70 (by show 3 < 1000;decide) rfl (by decide+kernel) λH4 S4 b1 k4=>?_;have d4:=qaa dD Dp k4;refine⟨_,zr,fa,zr,⟨_,SqL.of (S4 _ _ ha)⟩,q1t (xs:=[.ref fp]) (λi σ G=>∃(v5 v6 v7:Option V),MkI P w mg g H0 p dx fa rb o bl D i σ G v5 v6 v7) ⟨none,none,none,zr,S4,b1,.inl ⟨zr,d4⟩⟩ (λi σ G _ z=>?_) ?_ ?_⟩
  ·obtain⟨_,_,_,_,z,_⟩:=z;exact SqL.of (z _ _ ha)
  ·rintro i x σ G hx ⟨v5,v6,v7,rfl,sg,a2,⟨rfl,dG⟩ | ⟨rfl,_⟩⟩
   ·cases hx
    refine⟨fp,_,zr,SqT.of (sg _ _ a7),zr,_,_,zr,_,_,zr,_,_,zr,zr,?_⟩;refine⟨_,rfl,p,_,dx,_,_,rfl,a2,T.q1l,T.q70,rfl,D,rfl,⟨_,dG⟩,_,rfl,_,rfl,by show 2<=sizeLine;decide,λb hb=>?_⟩;have s5:=qc (o:=HO.tup [V.str g.t,.ref q]) hb;have e5:=qb (H:=G) (a:=b) (o:=HO.tup [V.str g.t,.ref q]);refine⟨by decide,λl hl=>?_⟩;have s6:=qc (o:=HO.lst []) hl;have Z:=s5.trans s6;refine⟨b,_,pN (g.t,g.R),rfl,DN.same Z dG,pr_at.mpr ⟨q,s6 _ _ e5,(sg.trans Z) _ _ hq⟩,q6h ok.pg,by show 0 < _;decide,(λv z=>nomatch z),λ_ o7 d7=>?_⟩;have e6:=qb (H:=upd G b (.tup [V.str g.t,.ref q])) (a:=l) (o:=HO.lst []);have Y:=Z _ _ a2;have l0:H0 l=none:=(sg.trans s5).free hl;have S6:=sg.trans Z;obtain⟨φ,a3⟩:∃φ,upd (upd G b (.tup [V.str g.t,.ref q])) l (.lst []) D=some (.ext φ):=let ⟨_,q,_⟩:=DN.same Z dG;⟨_,q⟩
    generalize upd (upd G b (.tup [V.str g.t,.ref q])) l (.lst [])=G6 at*;have lD:l≠D:=λz=>by rw[z,a3]at e6;cases e6
    have pD:p≠D:=λz=>by rw[z,a3]at Y;cases Y
    have e7:upd G6 D o7 l=some (.lst []):=by rw[qk lD];exact e6
    have pl:p≠l:=λz=>by rw[z,e6]at Y;cases Y
    refine⟨.inl ⟨rfl,_,SqL.of e7⟩,_,rfl,l,_,_,rfl,rfl,e7,by show 0 < _;decide,?_⟩;refine⟨_,_,_,rfl,(S6.set (S3.free hD)).set l0,by rw[qk pl,qk pD];exact Y,.inr ⟨rfl,l,l0,?_,qb⟩⟩;exact q3m (λc ys e=>by rw[qk λz=>by rw[z,e7]at e;cases e];exact e) (qk (Ne.symm lD)) d7
   ·exact absurd (z06.mp hx).1 (z34 1)
  ·rintro σ G ⟨v5,v6,v7,rfl,sg,a2,⟨z,_⟩ | ⟨_,nl,n0,dG,a8⟩⟩
   ·cases z
   refine λsb a5=>?_;have s8:=qc (o:=HO.dK []) a5;have e8:=qb (H:=G) (a:=sb) (o:=HO.dK []);have a6:=dG.same s8;have J:=s8 _ _ a8;have a1:=s8 _ _ a2;generalize upd G sb (.dK [])=G8 at*;refine⟨_,zr,?_⟩;refine q1j ["rules","by","behind","names"] (sg.trans s8) O a1 T.q1l T.q2x (by show 4 < 1000;decide) rfl (by decide+kernel) λH9 S9 b3 k9=>?_;refine k D nl sb H9 S9 b3 (S3.free hD) ?_ n0 (k9 _ _ (λz=>by rw[z,a1]at J;cases J) J) (sg.free a5) (k9 _ _ (λz=>by rw[z,a1]at e8;cases e8) e8);obtain⟨zs,q,r⟩:=a6;exact⟨zs,k9 _ _ Dp q,r.keeps λb ys e=>k9 _ _ (λz=>by rw[z,a1]at e;cases e) e⟩
def q8v(P:Program)(w:World)(mg:xE)(vs:List V)(H:Hp)(Q:V->Hp->Prop)(g:Gx)(S:Sty)(M:MkA)(b:Addr):Prop:=vs=[.ref M.mp,.ref b]/\Ty P w mg g S H/\g.Ok/\Mk P w mg g S H M/\NAt H (pN (g.t,g.R)) (.ref b)/\∀H',Same H H'->Q (.ref M.nl) H'
inductive sp0_ok_Makers_names_at (P:Program) (w:World) (mg:xE) (vs:List V) (H:Hp) (Q:VK) (_x3:XK):Prop
 | mk:∀(g:Gx) (S:Sty) (M:MkA) (b:Addr),(q8v P w mg vs H Q g S M b)->sp0_ok_Makers_names_at P w mg vs H Q _x3
def qcb(T:Txt K mg):MDef P w K mg base 1 (cA mg "Makers") "names_at" ["self","pair"] (sp0_ok_Makers_names_at P w mg):=by
 refine T.qd4.ok qc3 (λvs H Q E h=>?_) λf cdv A outer s H vs Q E hr h=>?_
 ·obtain⟨g,S,M,b,rfl,_⟩:=h;rfl
 ·obtain⟨g,S,M,b,rfl,ty,ok,m,hb,k⟩:=h;obtain⟨on,_,J⟩:=m.nd;refine⟨_,(qg (qj (qdt (P:=P) (w:=w) hr.units (qo (pv 0) rfl) (pv 1) (q1f q1i) ⟨zr,zr,zr,zr⟩))),?_⟩;refine⟨_,zr,M.mp,_,M.mdx,_,_,zr,ty.cst m.ms,T.q1l,T.q70,zr,M.nd,zr,⟨_,J⟩,_,zr,by decide,λl hl=>?_⟩;have s1:=qc (o:=HO.lst []) hl;refine⟨b,_,pN (g.t,g.R),zr,J.same s1,hb.same s1,q6h ok.pg,?_⟩;rw[valP,q15 (p:=((g.t,g.R),V.ref M.nl)) rfl];exact k _ s1
def qv5(P:Program)(w:World)(mg:xE)(k:Nat)(vs:List V)(H:Hp)(Q:V->Hp->Prop)(g:Gx)(S:Sty)(M:MkA):Prop:=vs=[.ref M.mp,.int k]/\Ty P w mg g S H/\g.Ok/\Mk P w mg g S H M/\k < M.ds.length/\k<=5/\∀S' p o H',Ex P w mg g S H S' H'->S' p=some (.sbr k o)->Q (.ref p) H'
inductive sp_sfk (P:Program) (w:World) (mg:xE) (k:Nat) (vs:List V) (H:Hp) (Q:VK) (_x3:XK):Prop
 | mk:∀(g:Gx) (S:Sty) (M:MkA),(qv5 P w mg k vs H Q g S M)->sp_sfk P w mg k vs H Q _x3
def sfk0(T:Txt K mg):MDef P w K mg base 8 (cA mg "Makers") "sums_from" ["self","number"] (λ_ _ _ _=>False):=
 T.q7c.ok q3b (λvs H Q E h=>h.elim) λf cdv A outer s H vs Q E hr h=>h.elim
def qqf(T:Txt K mg)(k:Nat){sp:Sp}(ih:MDef P w K mg base (8+k) (cA mg "Makers") "sums_from" ["self","number"] sp)(b4:∀j,k=j+1->sp=sp_sfk P w mg j):MDef P w K mg base (8+k+1) (cA mg "Makers") "sums_from" ["self","number"] (sp_sfk P w mg k):=by
 refine T.q7c.ok q3b (λvs H Q E h=>?_) λf cdv A outer s H vs Q E hr h=>?_
 ·obtain⟨g,S,M,rfl,_⟩:=h;rfl
 ·obtain⟨g,S,M,rfl,ty,ok,m,kl,k5,kk⟩:=h;obtain⟨d,hd⟩:∃d,M.ds[k]? =some d:=⟨_,z0b kl⟩;have ins:=ty.cst m.ms;refine q80 1 (λσ H'=>(∃v2 v3,σ=[some (.ref M.mp),some (.int k),v2,v3])/\∃S' kvs p o,Ex P w mg g S H S' H'/\H' M.sb=some (.dK kvs)/\valV kvs (.inl (k:Int))=some (.ref p)/\S' p=some (.sbr k o)) ⟨_,(qg (qj (qfu (q3n hr) (qo (pv 0) rfl) (pv 1) (λ_ _=>rfl)))),?_⟩ (λu hu hC=>⟨_,(qig
   (q18 (q65 (qh1 (q3n hr) (pv 1) (qo (pv 0) rfl))) (q3a
   (qm (i:=2) q3b.nd rfl (Or.inl rfl) (qt (q27 K) (qo (pv 0) rfl) (pv 1) (λ_ _=>rfl)))
   (qm (i:=3) q3b.nd rfl (Or.inl rfl) (qah (q14 q7r (pv 1) qf (q1c _)) (qz (hkk:=z3j _) ih T.q1l hr (pv 0) (pa_1 (qy qa0 (pv 1) qf))) q3f))
   (qfv (q3n hr) (qo (pv 0) rfl) (pv 1) (q8c (hkk:=by lia) (q79 T) T.qb3 T.qb4 hr rfl T.qcg (pa_4 (qh (hkk:=by lia) (q8l T) hr rfl (pa_1 (pv 2))) (qo (pv 0) rfl) (pv 2) (pv 3))) rfl)) qx)
   hu),?_⟩)
  ·rintro σ H1 ⟨⟨v2,v3,rfl⟩,S1,kvs,p,o,J,O,Y,hp⟩;exact⟨_,rfl,M.mp,_,M.mdx,_,_,rfl,J.ty.cst (J.up _ _ m.ms),T.q1l,T.q2x,rfl,_,rfl,M.sb,.ref p,rfl,by rw[<- Y];exact DGet.k (k:= .inl k) O,kk S1 p o H1 J hp⟩
  ·obtain⟨kvs,O,nd,hk⟩:=ty _ _ m.sb;refine⟨_,zr,_,zr,M.mp,_,M.mdx,_,_,zr,ins,T.q1l,T.q2x,zr,M.sb,_,zr,DGet.k (k:= .inl k) O,_,zr,?_⟩;cases Y:valV kvs (.inl (k:Int)) with
   | some v=>
    obtain⟨j,p,o,_,e1,e2⟩:=hk _ (valG Y);injection e1 with e1 e3;injection e1 with e1;have:j=k:=by lia
    subst this;rw[e3]at Y;exact iteF (hC _ _ ⟨⟨_,_,zr⟩,S,kvs,p,o,ty.ex,O,Y,e2⟩)
   | none=>
    refine iteT ?_;have a6:atI (M.ds.map V.ref) (k:Int)=some (.ref d):=ql (by rw[z1m,hd];rfl);refine⟨_,zr,M.mp,_,M.mdx,_,_,zr,ins,T.q1l,T.q9e,zr,_,zr,_,_,_,_,zr,zr,SqL.of (ty.cst m.bl),a6,?_⟩;have key:∀(Kq:V->Hp->Prop),(∀x S1 H1,Ex P w mg g S H S1 H1->(x= .non\/ ∃b j ho,x= .ref b/\j+1=k/\S1 b=some (.sbr j ho))->Kq x H1)->tIf (qie (tOp (rI0 λi j=>V.bl (decide (j < i))) (tVar 1) (tC (V.int 0)))) (qek (cA mg "Makers") "sums_from" sp [] E0 (tVar 0) (q2u (tOp (rI0 λi j=>V.int (i - j)) (tVar 1) (tC (V.int 1))) tNil)) (tC V.non) [some (.ref M.mp),some (.int k),some (.ref d),none] H Kq:=λKq hK=>by
     cases k with
     | zero=>exact⟨_,rfl,_,_,rfl,rfl,_,rfl,q1y rfl (hK .non S H ty.ex (.inl rfl))⟩
     | succ j=>
      obtain rfl:=b4 j rfl;refine⟨_,rfl,_,_,rfl,rfl,_,rfl,q3p (z2s (show (0:Int) < ((j+1:Nat):Int) by lia)) ?_⟩;refine⟨_,zr,M.mp,M.mdx,_,zr,ins,zr,_,zr,_,_,zr,zr,g,S,M,?_,ty,ok,m,by lia,by lia,λS1 p o H1 J hp=>hK _ S1 H1 J (.inr ⟨p,j,o,zr,zr,hp⟩)⟩;show [V.ref M.mp,V.int (((j+1:Nat):Int) - 1)]=[V.ref M.mp,V.int (j:Nat)];rw[show (((j+1:Nat):Int) - 1)=(j:Nat) by lia]
    refine key _ λY S1 H1 J b0=>?_;have m1:=m.ex J;obtain⟨od,hod,d1⟩:=m1.ah k d hd;refine⟨_,zr,d,(g.t,g.R),_,zr,d1,ok.pg,λtt L q H2 s2 b5 a9 e1 e2 e3=>?_⟩;refine⟨_,zr,M.mp,_,M.mdx,_,_,zr,s2 _ _ (J.ty.cst m1.ms),T.q1l,T.qdl,zr,_,zr,_,zr,λx dx nx b6 _=>⟨H2,x,dx,tt,.ref M.o,.ref d,Y,zr,(qc b6).set nx,nx,qb,λD B H3 s3 Z a8 eD a7 dB=>⟨zr,?_⟩⟩⟩;have a5:=s2.trans s3;have X3:=(J.ty.ex.same a5).frz [x,D,B];obtain⟨φ,hφ⟩:∃φ,H3 B=some (.ext φ):=let ⟨_,e,_⟩:=dB;⟨_,e⟩
    have ne:∀{c d:Addr} {o o':HO},H3 c=some o->H3 d=some o'->o≠o'->c≠d:=λh1 h2 n z=>n (by rw[z,h2]at h1;injection h1 with h1;exact h1.symm);have t3:=s3 _ _ e1;have L3:=s3 _ _ e2;have fz:∀{c o},H1 c=none->H3 c=some o->c≠x->c≠D->c≠B->(∀ys,o≠ .tup ys)->frz [x,D,B] H1 S1 H3 c=some (.cst o):=λn e b1 b2 b3 nt=>q4v n (J.ty.fresh n) (by simp[b1,b2,b3]) e nt;have ft:=fz b5 t3 (ne t3 Z nofun) (ne t3 eD nofun) (ne t3 hφ nofun) nofun;have fL:=fz a9 L3 (ne L3 Z nofun) (ne L3 eD nofun) (ne L3 hφ nofun) nofun;have x0:=s2.free nx;have D0:=s2.free a8;have B0:=s2.free a7;have b7:frz [x,D,B] H1 S1 H3 x=none:=q3t (J.ty.fresh x0) (.inl (by simp));have nD:frz [x,D,B] H1 S1 H3 D=none:=q3t (J.ty.fresh D0) (.inl (by simp));have nB:frz [x,D,B] H1 S1 H3 B=none:=q3t (J.ty.fresh B0) (.inl (by simp));generalize frz [x,D,B] H1 S1 H3=S3 at*;obtain⟨S4,F3,-,xS,-⟩:=qmm X3 x0 D0 B0 b7 nD nB Z eD dB ⟨L,q,ft,fL,s3 _ _ e3⟩ (m1.ct.mono X3.up) ((m1.ah k d hd).mono X3.up (λ_ _ e=>a5 _ _ e) X3.cs) (b0.imp_right λ⟨b,j,ho,h1,h2,h3⟩=>⟨b,j,ho,h1,h2,X3.up _ _ h3⟩);have E4:=J.trans F3;have m4:=m.ex E4;obtain⟨a3,a2,a4,a1⟩:=E4.ty _ _ m4.sb;have few:=qe8 (l:=(List.range 6).map λj:Nat=>(.inl (j:Int):Key)) a4 λkv h=>by
     obtain⟨j,p,o,l5,e,_⟩:=a1 kv h;rw[e];exact z3h.mpr ⟨j,z2t.mpr (by lia),zr⟩
    have few:a3.length<=6:=few;refine⟨_,zr,M.mp,_,M.mdx,_,_,zr,E4.ty.cst m4.ms,T.q1l,T.q2x,zr,_,zr,M.sb,_,zr,DPut.k (k:= .inl k) a2 (Nat.lt_of_le_of_lt few (by decide)),?_⟩;have ob:Ob P w mg g S4 (upd H3 M.sb (.dK (putK a3 (.inl (k:Int)) (.ref x)))) M.sb .beh:=⟨_,qb,qjy a4 _ _,λkv h=>by
     rcases qe7 h with h | rfl
     ·exact a1 kv h
     ·exact⟨k,x,_,k5,zr,xS⟩⟩
    exact hC _ _ ⟨⟨_,_,zr⟩,S4,_,x,_,E4.set m4.sb nofun ob,qb,by rw[q6p,if_pos rfl],xS⟩
theorem sfk(T:Txt K mg):∀k,MDef P w K mg base (8+k+1) (cA mg "Makers") "sums_from" ["self","number"] (sp_sfk P w mg k)
 | 0=>qqf T 0 (sfk0 T) λ_ z=>nomatch z
 | k+1=>qqf T (k+1) (sfk T k) λj e=>by rw[Nat.succ.inj e]
def PlV(g:Gx)(S:Sty)(H:Hp)(k i:Nat)(x:V):Prop:=∃c p o ts,x= .ref c/\H c=some (.tup [.int i,.ref p])/\g.tss[i]? =some ts/\S p=some (.sum ts k o)
def PlV.mono{k i:Nat}{x:V}(h:PlV g S H k i x)(u:∀b τ,S b=some τ->S' b=some τ)(t:∀b ys,H b=some (.tup ys)->H' b=some (.tup ys)):PlV g S' H' k i x:=let ⟨c,p,o,ts,e,h1,h2,h3⟩:=h;⟨c,p,o,ts,e,t _ _ h1,h2,u _ _ h3⟩
def qv6(P:Program)(w:World)(mg:xE)(k:Nat)(vs:List V)(H:Hp)(Q:V->Hp->Prop)(g:Gx)(S:Sty)(M:MkA):Prop:=vs=[.ref M.mp,.int (k+1:Nat),.str g.t]/\Ty P w mg g S H/\g.Ok/\Mk P w mg g S H M/\k < M.ds.length/\k<=5/\∀S' D xs H',Ex P w mg g S H S' H'->H D=none->S' D=none->H' D=some (.lst xs)->xs.length=g.tss.length->(∀i x,xs[i]? =some x->PlV g S' H' k i x)->Q (.ref D) H'
inductive sp_rto (P:Program) (w:World) (mg:xE) (k:Nat) (vs:List V) (H:Hp) (Q:VK) (_x3:XK):Prop
 | mk:∀(g:Gx) (S:Sty) (M:MkA),(qv6 P w mg k vs H Q g S M)->sp_rto P w mg k vs H Q _x3
def rto(T:Txt K mg)(k:Nat):MDef P w K mg base (8+k+7) (cA mg "Makers") "rules_to" ["self","number","table"] (sp_rto P w mg k):=by
  refine T.q7q.ok q3j (λvs H Q E h=>?_) λf cdv A outer s H vs Q E hr h=>?_
  · obtain⟨g,S,M,rfl,_⟩:=h
    rfl
  · obtain⟨g,S,M,rfl,ty,ok,m,kl,k5,kk⟩:=h
    have m3:=ok.m3;refine⟨_,(q3a
      (q18 (q14 q4z (pv 1) qf (q1c _)) (qg (qj (q1f q1i))) qx)
      (qm (i:=3) q3j.nd rfl (Or.inr rfl) (qz (hkk:=by lia) (sfk T k) T.q1l hr (pv 0) (pa_1 (qy qa0 (pv 1) qf))))
      (qj (q1a (N:=["place","rule","sums","table"]) (caps:=[none,none,some 3,some 2]) rfl (by with_unfolding_all rfl) (qj8 K rfl T.q9v (pa_1 (qo (pv 0) rfl))) (λ_ _ _ _ _=>(qa4 K (n:=2) rfl (qv (qi (i:=0) (show (["place","rule","sums","table"]:xD).Nodup by decide+kernel) rfl (Or.inl rfl)) (qv (qi (i:=1) (show (["place","rule","sums","table"]:xD).Nodup by decide+kernel) rfl (Or.inl rfl)) q1w)))) (λ_ _ _ _ _=>q87 (q14 q4z (qt (qq K) (qt (qq K) (pv 1) qf (λ_ _=>rfl)) qf (λ_ _=>rfl)) (pv 3) (q1c _))) (λ_ _ _ _ _=>(q13 (pa_2 (pv 0) (qz (hkk:=by lia) (q3u (P:=P) (w:=w) T) T.qr hr (pv 2) (pa_1 (pv 1))))))))),?_⟩
    refine⟨_,rfl,rfl,_,rfl,q1y (z2d (show ¬ V.int ((k+1:Nat):Int)=V.int 0 from λz=>by injection z with z;lia)) ?_⟩;refine⟨_,zr,M.mp,M.mdx,_,zr,ty.cst m.ms,zr,_,zr,_,_,zr,zr,g,S,M,?_,ty,ok,m,kl,k5,λS1 p ho H1 Y hp=>?_⟩
    · show [V.ref M.mp,V.int (((k+1:Nat):Int) - 1)]=[V.ref M.mp,V.int (k:Nat)]
      rw[show (((k+1:Nat):Int) - 1)=(k:Nat) by lia]
    have m1:=m.ex Y;obtain⟨a7,_,_,_,_,_,_,rfl,_⟩:=Y.ty p _ hp;obtain⟨rs,J,a6⟩:=m1.ip.rl;have a4:rs.length=g.tss.length:=by rw[Paired.length a6,z2h]
    refine⟨_,zr,M.mp,_,M.mdx,_,_,zr,Y.ty.cst m1.ms,T.q1l,T.qae,zr,M.rb,zr,⟨_,SqL.of J⟩,λD hD=>?_⟩;refine q1d g.tss.length (λi σ' G=>(∃v1 v2,σ'=[v1,v2,some (.ref p),some (.str g.t)])/\∃S' xs,Ex P w mg g S1 H1 S' G/\S' D=none/\G D=some (.lst xs)/\xs.length=i/\∀i x,xs[i]? =some x->PlV g S' G k i x) ⟨⟨_,_,rfl⟩,S1,[],Y.ty.ex.same (qc hD),Y.ty.fresh hD,qb,rfl,λi x z=>nomatch z⟩ (λi σ' G hi p=>?_) (λσ' G p=>⟨?_,?_⟩) (λi σ' G hi p x E3 y=>?_)
    · obtain⟨_,S',xs,F,_⟩:=p
      exact⟨rs,_,SqL.of (F.st _ _ m1.ip.nb J),z0b (by rw[a4];exact hi)⟩
    · obtain⟨_,S',xs,F,_⟩:=p
      exact⟨rs,SqL.of (F.st _ _ m1.ip.nb J),a4.symm⟩
    · obtain⟨_,S',xs,F,DS,hx,lx,px⟩:=p
      exact kk S' D xs G (Y.trans F) (Y.free hD) DS hx lx px
    · obtain⟨⟨v1,v2,rfl⟩,S',xs,F,DS,hx,lx,px⟩:=p
      obtain⟨c,x',rfl,hc,rfl,hy⟩:=y;have hy:=hy rs (SqL.of (F.st _ _ m1.ip.nb J));obtain⟨kx,a1,r,rfl,b1⟩:=q2m a6 hy;rw[z1m]at a1;obtain⟨ts,a2,rfl⟩:=z0n.mp a1;have s2:=qc (o:=HO.tup [V.int (i:Nat),.ref r]) hc;have e2:=qb (H:=G) (a:=c) (o:=HO.tup [V.int (i:Nat),.ref r]);have F2:=F.same s2;have a3:=s2 _ _ hx;have b4:∀j x,xs[j]? =some x->PlV g S' (upd G c (.tup [V.int (i:Nat),.ref r])) k j x:=λj x h=>(px j x h).mono (λ_ _ h=>h) λ_ _ e=>s2 _ _ e;generalize upd G c (.tup [V.int (i:Nat),.ref r])=G2 at*;have a5:NAt G2 (rK g.t ts) (.ref r):=b1.keep λ_ _ e=>F2.tup e;obtain⟨a8,_,_,_,b3,hh,_⟩:=ru_at.mp a5;obtain⟨b0,h1,_⟩:=pr_at.mp hh;have h1:G2 a8=some (.tup [.str g.t,.ref b0]):=h1;refine⟨c,_,zr,SqT.of e2,zr,_,_,zr,_,_,zr,zr,?_⟩;refine⟨_,zr,_,_,_,_,zr,zr,SqT.of b3,ql (j:=0) rfl,_,_,_,_,zr,zr,SqT.of h1,ql (j:=0) rfl,_,zr,zr,_,zr,q3p (z2s rfl) ?_⟩;refine⟨_,rfl,_,rfl,p,a7,_,rfl,F2.ty.sbr (F.up _ _ hp),rfl,_,rfl,g,S',p,r,ts,k,_,rfl,F2.ty,ok,F.up _ _ hp,z0x a2,a5,λS4 p4 o4 G4 X4 a9=>⟨by show 2<=sizeLine;decide,λc2 Z=>?_⟩⟩;have s5:=qc (o:=HO.tup [V.int (i:Nat),.ref p4]) Z;have O:=X4.st _ _ DS a3;have D4:=X4.nn _ _ DS a3;have cD:c2≠D:=λz=>by rw[z,O]at Z;cases Z
      have F5:=((F2.trans X4).same s5).own (o:= .lst (xs++ [.ref c2])) hD D4 (by rw[s5 _ _ O];nofun);have tu:∀b ys,upd G4 c2 (.tup [V.int (i:Nat),.ref p4]) b=some (.tup ys)->upd (upd G4 c2 (.tup [V.int (i:Nat),.ref p4])) D (.lst (xs++ [.ref c2])) b=some (.tup ys):=λb ys e=>by
        rw[qk λz=>by rw[z,s5 _ _ O]at e;cases e];exact e
      refine⟨xs,s5 _ _ O,by rw[lx];exact z1e (show i < 1000 by lia) (by decide),⟨_,_,rfl⟩,S4,xs++ [.ref c2],F5,D4,qb,by rw[z1b,lx];rfl,λj x hj=>?_⟩;by_cases hl:j < xs.length
      · rw[List.getElem?_append_left hl]at hj
        exact(b4 j x hj).mono X4.up λb ys e=>tu _ _ (s5 _ _ (X4.tup e))
      · have:j=i:=by
          have:=(z06.mp hj).1;rw[z1b]at this;have:j < xs.length+1:=this
          lia
        subst this;rw[z04 (by lia),lx,Nat.sub_self]at hj;cases hj
        exact⟨c2,p4,o4,ts,zr,tu _ _ qb,a2,a9⟩
end
theorem qgj(m:Nat):∀n,((trs m n).length:Int)=cnt m n
 | 0=>rfl
 | n+1=>by
  have fl:∀l:List Nat,(l.flatMap λp=>(trs m n).map (p:: ·)).length=l.length*(trs m n).length:=λl=>by
   induction l with
   | nil=>simp
   | cons p l ih=>rw[List.flatMap_cons,z1b,ih,z2h,z20,Nat.succ_mul,Nat.add_comm]
  show (((List.range m).flatMap λp=>(trs m n).map (p:: ·)).length+1:Int)=1+m*cnt m n;rw[fl,z1t,Int.natCast_mul,qgj m n,Int.add_comm]
def qqg{m n:Nat}(hm:m<=3)(hn:n<=5):(trs m n).length < 1000000:=by
 have h1:=qgj m n;have h2:=qjw hm hn
 lia
def qy8{H:Hp}{j:Nat}{p:PR}{b c:Addr}(h1:H c=some (.tup [.int j,.ref b]))(h2:NAt H (pN p) (.ref b)):NAt H (fN j p) (.ref c):=by
 unfold fN;rw[NAt];refine⟨c,_,zr,h1,?_⟩;rw[NAts];refine⟨_,_,rfl,by rw[NAt];rfl,?_⟩;rw[NAts];exact⟨_,_,zr,h2,by rw[NAts]⟩
def qx7{j:Nat}{p:PR}(g:q77 p):NOk (fN j p):=(qga (d:=2) (qav (t:= .inl j) True.intro) (qc5 g.1 λu hu=>(g.2.2 u hu).tx)).nok
def qx8{j k:Nat}{p:PR}(e:fN j p=fN k p):j=k:=by
 unfold fN at e;injection e with e;injection e with e _;injection e with e;injection e with e
 lia
def grvF(mp fd:Addr):List (Str×V):=[("makers",.ref mp),("found",.ref fd)]
def KdV(H:Hp)(nm:Str)(R:List Key)(x:V)(u:List Nat):Prop:=∃kd y,x= .ref kd/\H kd=some (.tup [y])/\TrV H nm R u y
theorem KdV.keep{H H':Hp}{nm:Str}{R:List Key}{x:V}{u:List Nat}(s:∀b ys,H b=some (.tup ys)->H' b=some (.tup ys)):KdV H nm R x u->KdV H' nm R x u:=λ⟨kd,y,e,h1,h2⟩=>⟨kd,y,e,s _ _ h1,h2.keep s⟩
structure GvA where
 m:MkA
 p:Addr
 dx:Addr
 fd:Addr
structure Gv (P:Program) (w:World) (mg:xE) (g:Gx) (S:Sty) (H:Hp) (G:GvA):Prop where
 ty:Ty P w mg g S H
 ok:g.Ok
 mm:Mk P w mg g S H G.m
 gr:S G.p=some (.cst (.ins (cA mg "Grove") G.dx (grvF G.m.mp G.fd)))
 fd:S G.fd=some .fnd
section
variable{P:Program}{w:World}{K:xA}{mg:xE}{base:Heap}{g:Gx}{S S':Sty}{H H':Hp}{G:GvA}
theorem Gv.ex(h:Gv P w mg g S H G)(E:Ex P w mg g S H S' H'):Gv P w mg g S' H' G:=⟨E.ty,h.ok,h.mm.ex E,E.up _ _ h.gr,E.up _ _ h.fd⟩
def Gv.gi(h:Gv P w mg g S H G):H G.p=some (.ins (cA mg "Grove") G.dx (grvF G.m.mp G.fd)):=h.ty.cst h.gr
def Gv.mi(h:Gv P w mg g S H G):H G.m.mp=some (.ins (cA mg "Makers") G.m.mdx (makF G.m.rb G.m.o G.m.bl G.m.nd G.m.sb)):=h.ty.cst h.mm.ms
def qx9(P:Program)(w:World)(mg:xE)(n:Nat)(vs:List V)(H:Hp)(Q:V->Hp->Prop)(g:Gx)(S:Sty)(G:GvA)(b:Addr):Prop:=vs=[.ref G.p,.int n,.ref b]/\Gv P w mg g S H G/\n<=G.m.ds.length/\n<=5/\NAt H (pN (g.t,g.R)) (.ref b)/\∀S' L H',Ex P w mg g S H S' H'->S' L=some (.trl n)->Q (.ref L) H'
inductive sp_at (P:Program) (w:World) (mg:xE) (n:Nat) (vs:List V) (H:Hp) (Q:VK) (_x3:XK):Prop
 | mk:∀(g:Gx) (S:Sty) (G:GvA) (b:Addr),(qx9 P w mg n vs H Q g S G b)->sp_at P w mg n vs H Q _x3
def qv7(P:Program)(w:World)(mg:xE)(n:Nat)(vs:List V)(H:Hp)(Q:V->Hp->Prop)(g:Gx)(S:Sty)(G:GvA)(b:Addr):Prop:=vs=[.ref G.p,.int n,.ref b]/\Gv P w mg g S H G/\n<=G.m.ds.length/\n<=5/\NAt H (pN (g.t,g.R)) (.ref b)/\∀S' L xs H',Ex P w mg g S H S' H'->H L=none->S' L=none->H' L=some (.lst xs)->Paired (λx u=>TrV H' g.nm g.R u x) xs (trs g.tss.length n)->Q (.ref L) H'
inductive sp_anw (P:Program) (w:World) (mg:xE) (n:Nat) (vs:List V) (H:Hp) (Q:VK) (_x3:XK):Prop
 | mk:∀(g:Gx) (S:Sty) (G:GvA) (b:Addr),(qv7 P w mg n vs H Q g S G b)->sp_anw P w mg n vs H Q _x3
def qt6(T:Txt K mg)(n d:Nat)(anw:MDef P w K mg base d (cA mg "Grove") "trees_anew" ["self","number","pair"] (sp_anw P w mg n)):MDef P w K mg base (d+1) (cA mg "Grove") "trees_at" ["self","number","pair"] (sp_at P w mg n):=by
 refine T.q8q.ok q5d (λvs H Q E h=>?_) λf cdv A outer s H vs Q E hr h=>?_
 ·obtain⟨g,S,G,b,rfl,_⟩:=h;rfl
 ·obtain⟨g,S,G,b,rfl,gv,nl,n5,hb,kk⟩:=h;have nok:NOk (fN n (g.t,g.R)):=qx7 gv.ok.pg;refine q80 2 (λσ H'=>∃mk S' kvs L,σ=[some (.ref G.p),some (.int n),some (.ref b),some (.ref mk)]/\Ex P w mg g S H S' H'/\NAt H' (fN n (g.t,g.R)) (.ref mk)/\DN P w H' G.fd kvs/\valV kvs (fN n (g.t,g.R))=some (.ref L)/\S' L=some (.trl n)) ⟨_,(qg (qj (q82 (P:=P) (w:=w) hr.units (qo (pv 0) rfl) (pv 3) (λ_ _=>rfl)))),?_⟩ (λu hu hC=>⟨_,(qsz
   (qm (i:=3) q5d.nd rfl (Or.inl rfl) (q13 (pa_2 (pv 1) (pv 2))))
   (q18 (q65 (q5y (P:=P) (w:=w) hr.units (pv 3) (qo (pv 0) rfl))) (qg (q6t (P:=P) (w:=w) hr.units (qo (pv 0) rfl) (pv 3) (qz (hkk:=z3j _) anw T.q2g hr (pv 0) (pa_2 (pv 1) (pv 2))) rfl)) qx)
   hu),?_⟩)
  ·rintro σ H1 ⟨mk,S1,kvs,L,rfl,O,J,dn,ev,hL⟩;exact⟨_,zr,G.p,_,G.dx,_,_,zr,(gv.ex O).gi,T.q2g,T.q5l,zr,_,zr,G.fd,mk,_,_,.ref L,zr,zr,dn,J,nok,ev,kk S1 L H1 O hL⟩
  ·refine⟨_,rfl,_,rfl,by show 2<=sizeLine;decide,λmk hmk=>?_⟩;have s1:=qc (o:=HO.tup [V.int n,.ref b]) hmk;have J:NAt (upd H mk (.tup [V.int n,.ref b])) (fN n (g.t,g.R)) (.ref mk):=qy8 qb (hb.same s1);have O:=gv.ty.ex.same s1;have a7:=hb.same s1;generalize upd H mk (.tup [V.int n,.ref b])=H1 at*;have g1:=gv.ex O;obtain⟨kvs,dn,nd,hk⟩:=O.ty _ _ g1.fd;refine⟨_,zr,_,zr,G.p,_,G.dx,_,_,zr,g1.gi,T.q2g,T.q5l,zr,G.fd,mk,_,_,zr,zr,dn,J,nok,_,zr,?_⟩;cases ev:valV kvs (fN n (g.t,g.R)) with
   | some v=>
    obtain⟨j,L,_,e1,e2⟩:=hk _ (valG ev);injection e1 with e1 e3;rw[<- qx8 e1]at e2;rw[e3]at ev;exact iteF (hC _ _ ⟨mk,S,kvs,L,zr,O,J,dn,ev,e2⟩)
   | none=>
    refine iteT ?_;refine⟨_,zr,G.p,G.dx,_,zr,g1.gi,zr,_,zr,_,zr,g,S,G,b,zr,g1,nl,n5,a7,λS2 L xs H2 E2 a5 a6 hL px=>?_⟩;have F:=O.trans E2;have F3:=F.new (.trl n) (O.free a5) a6 ⟨xs,hL,px⟩;have a2:=q2c (S:=S2) (a:=L) (τ:= .trl n);generalize putS S2 L (.trl n)=S3 at*;have g3:=gv.ex F3;obtain⟨a8,Z,a4,a3⟩:=F3.ty _ _ g3.fd;have few:=qe8 (l:=(List.range 6).map λj:Nat=>fN j (g.t,g.R)) a4 λkv h=>by
     obtain⟨j,p,l5,e,_⟩:=a3 kv h;rw[e];exact z3h.mpr ⟨j,z2t.mpr (by lia),zr⟩
    have few:a8.length<=6:=few;have Y:=J.keep λ_ _ e=>E2.tup e;refine⟨_,zr,G.p,_,G.dx,_,_,zr,g3.gi,T.q2g,T.q5l,zr,_,zr,G.fd,mk,_,_,zr,zr,Z,Y,nok,Nat.lt_of_le_of_lt few (by decide),λo4 a1=>?_⟩;have ob:Ob P w mg g S3 (upd H2 G.fd o4) G.fd .fnd:=⟨_,a1,qjy a4 _ _,λkv h=>by
     rcases qe7 h with h | rfl
     ·exact a3 kv h
     ·exact⟨n,L,n5,zr,a2⟩⟩
    exact hC _ _ ⟨mk,S3,_,L,rfl,F3.set g3.fd nofun ob,Y.keep (λc ys e=>by rw[qk λz=>by obtain⟨_,q,_⟩:=Z;rw[z,q]at e;cases e];exact e),a1,by rw[q6p,if_pos rfl],a2⟩
def at0(T:Txt K mg):MDef P w K mg base 1 (cA mg "Grove") "trees_at" ["self","number","pair"] (λ_ _ _ _=>False):=
 T.q8q.ok q5d (λvs H Q E h=>h.elim) λf cdv A outer s H vs Q E hr h=>h.elim
def kd0(T:Txt K mg):MDef P w K mg base 1 (cA mg "Grove") "all_kids" ["self","number","sums","place","binding"] (λ_ _ _ _=>False):=
 T.q5v.ok q17 (λvs H Q E h=>h.elim) λf cdv A outer s H vs Q E hr h=>h.elim
def qs9(P:Program)(w:World)(mg:xE)(vs:List V)(H:Hp)(Q:V->Hp->Prop)(g:Gx)(S:Sty)(a:Addr)(p n b:V)(ts:List Key)(k:Nat)(ho:HO):Prop:=vs=[p,n,.ref a,.int 1,b]/\Ty P w mg g S H/\S a=some (.sum ts k ho)/\∀l u H',Same H H'->H l=none->H' l=some (.lst [.ref u])->H' u=some (.tup [])->Q (.ref l) H'
inductive sp0_kd1 (P:Program) (w:World) (mg:xE) (vs:List V) (H:Hp) (Q:VK) (_x3:XK):Prop
 | mk:∀(g:Gx) (S:Sty) (a:Addr) (p:V) (n:V) (b:V) (ts:List Key) (k:Nat) (ho:HO),(qs9 P w mg vs H Q g S a p n b ts k ho)->sp0_kd1 P w mg vs H Q _x3
def kd1(T:Txt K mg):MDef P w K mg base 9 (cA mg "Grove") "all_kids" ["self","number","sums","place","binding"] (sp0_kd1 P w mg):=by
 refine T.q5v.ok q17 (λvs H Q E h=>?_) λf cdv A outer s H vs Q E hr h=>?_
 ·obtain⟨g,S,a,p,n,b,ts,k,ho,rfl,_⟩:=h;rfl
 ·obtain⟨g,S,a,p,n,b,ts,k,ho,rfl,ty,ha,kk⟩:=h;obtain⟨dx,_,_,st,_,_,_,_,_,rfl,ins,_,_,O,_⟩:=ty a _ ha;have J:=at0 (P:=P) (w:=w) (base:=base) T;have Y:=kd0 (P:=P) (w:=w) (base:=base) T;refine⟨_,(q4k
   (q18 (q14 q4z (pv 3) (qw (q1o K) rfl T.b_len q2a (pa_1 (qo (pv 2) rfl))) (q1c _)) (qg (qj (q1f (pa_1 (q13 q1i))))) qx)
   (qm (i:=5) q17.nd rfl (Or.inl rfl) (q1f q1i))
   (q1k PassesOwn.never rfl (q11 K (qz (hkk:=by lia) (q4w T) T.q12 hr (pv 2) (pa_2 (pv 3) (pv 4)))) (q3g rfl (qv (qi (i:=6) q17.nd rfl (Or.inl rfl)) (qv (qi (i:=7) q17.nd rfl (Or.inl rfl)) q1w))) (qg (q18 (q14 q7r (qz (hkk:=by lia) (qo1 T) T.q12 hr (pv 2) (pa_2 (qy q2k (pv 3) qf) (pv 7))) qf (q1c _)) (q1x
   (qm (i:=8) q17.nd rfl (Or.inl rfl) (qz (hkk:=by lia) Y T.q2g hr (pv 0) (pa_4 (pv 1) (pv 2) (qy q2k (pv 3) qf) (pv 7))))
   (q1k PassesOwn.never rfl (q11 K (qz (hkk:=by lia) J T.q2g hr (pv 0) (pa_2 (pv 1) (pv 6)))) (qi (i:=9) q17.nd rfl (Or.inr rfl)) (qg (q1g (q4j z0i z0c z0d q74 (pv 5) (pa_1 (q1a (N:=["kids","tree"]) (caps:=[none,some 9]) rfl (by with_unfolding_all rfl) (q11 K (pv 8)) (λ_ _ _ _ _=>(qi (i:=0) (show (["kids","tree"]:xD).Nodup by decide+kernel) rfl (Or.inl rfl))) (λ_ _ _ _ _=>q1r) (λ_ _ _ _ _=>(qy qmb (q13 (pa_1 (pv 1))) (pv 0)))))))))) qx)))
   (qj (pv 5))),?_⟩
  refine⟨_,zr,_,zr,a,_,dx,_,_,zr,ins,T.q12,T.q39,zr,_,_,zr,.inl ⟨_,SqL.of (ty.cst O),zr⟩,zr,_,zr,q3p (z2s rfl) ?_⟩;exact⟨by decide,λu hu=>⟨by show 1<=sizeLine;decide,λl hl=>kk l u _ ((qc hu).trans (qc hl)) ((qc hu).free hl) qb ((qc hl) _ _ qb)⟩⟩
def qv8(P:Program)(w:World)(mg:xE)(k:Nat)(vs:List V)(H:Hp)(Q:V->Hp->Prop)(g:Gx)(S:Sty)(G:GvA)(p b:Addr)(ts:List Key)(ho:HO):Prop:=vs=[.ref G.p,.int k,.ref p,.int 0,.ref b]/\Gv P w mg g S H G/\k<=G.m.ds.length/\k<=5/\S p=some (.sum ts k ho)/\H b=some (.dK (bdK g.R ts))/\∀S' L xs H',Ex P w mg g S H S' H'->H L=none->S' L=none->H' L=some (.lst xs)->Paired (KdV H' g.nm g.R) xs (trs g.tss.length k)->Q (.ref L) H'
inductive sp_kid (P:Program) (w:World) (mg:xE) (k:Nat) (vs:List V) (H:Hp) (Q:VK) (_x3:XK):Prop
 | mk:∀(g:Gx) (S:Sty) (G:GvA) (p:Addr) (b:Addr) (ts:List Key) (ho:HO),(qv8 P w mg k vs H Q g S G p b ts ho)->sp_kid P w mg k vs H Q _x3
def KdI(P:Program)(w:World)(mg:xE)(g:Gx)(S:Sty)(H H2:Hp)(gp p b L D x:Addr)(k j:Nat)(σ:List (Option V))(G':Hp)(v6 v7 v8 v9:Option V):Prop:=σ=[some (.ref gp),some (.int k),some (.ref p),some (.int 0),some (.ref b),some (.ref L),v6,v7,v8,v9]/\((j=0/\G'=H2)\/ (j=1/\∃S' zs,Ex P w mg g S H S' G'/\S' L=none/\S' D=none/\G' D=some (.lst [.ref x])/\G' L=some (.lst zs)/\Paired (KdV G' g.nm g.R) zs (trs g.tss.length k)))
def qxa(T:Txt K mg)(k d:Nat)(hd:9<=d)(c4:MDef P w K mg base d (cA mg "Grove") "trees_at" ["self","number","pair"] (sp_at P w mg k)):MDef P w K mg base (d+1) (cA mg "Grove") "all_kids" ["self","number","sums","place","binding"] (sp_kid P w mg k):=by
 refine T.q5v.ok q17 (λvs H Q E h=>?_) λf cdv A outer s H vs Q E hr h=>?_
 ·obtain⟨g,S,G,p,b,ts,ho,rfl,_⟩:=h;rfl
 ·obtain⟨g,S,G,p,b,ts,ho,rfl,gv,kl,k5,hp,hb,kk⟩:=h;obtain⟨dx,_,_,st,_,_,_,_,_,rfl,ins,_,_,c8,_⟩:=gv.ty p _ hp;have d2:=kd1 (P:=P) (w:=w) (base:=base) T;have tl:=qqg gv.ok.m3 k5;refine⟨_,(q4k
   (q18 (q14 q4z (pv 3) (qw (q1o K) rfl T.b_len q2a (pa_1 (qo (pv 2) rfl))) (q1c _)) (qg (qj (q1f (pa_1 (q13 q1i))))) qx)
   (qm (i:=5) q17.nd rfl (Or.inl rfl) (q1f q1i))
   (q1k PassesOwn.never rfl (q11 K (qz (hkk:=by lia) (q4w T) T.q12 hr (pv 2) (pa_2 (pv 3) (pv 4)))) (q3g rfl (qv (qi (i:=6) q17.nd rfl (Or.inl rfl)) (qv (qi (i:=7) q17.nd rfl (Or.inl rfl)) q1w))) (qg (q18 (q14 q7r (qz (hkk:=by lia) (qo1 T) T.q12 hr (pv 2) (pa_2 (qy q2k (pv 3) qf) (pv 7))) qf (q1c _)) (q1x
   (qm (i:=8) q17.nd rfl (Or.inl rfl) (qz (hkk:=by lia) d2 T.q2g hr (pv 0) (pa_4 (pv 1) (pv 2) (qy q2k (pv 3) qf) (pv 7))))
   (q1k PassesOwn.never rfl (q11 K (qz (hkk:=by lia) c4 T.q2g hr (pv 0) (pa_2 (pv 1) (pv 6)))) (qi (i:=9) q17.nd rfl (Or.inr rfl)) (qg (q1g (q4j z0i z0c z0d q74 (pv 5) (pa_1 (q1a (N:=["kids","tree"]) (caps:=[none,some 9]) rfl (by with_unfolding_all rfl) (q11 K (pv 8)) (λ_ _ _ _ _=>(qi (i:=0) (show (["kids","tree"]:xD).Nodup by decide+kernel) rfl (Or.inl rfl))) (λ_ _ _ _ _=>q1r) (λ_ _ _ _ _=>(qy qmb (q13 (pa_1 (pv 1))) (pv 0)))))))))) qx)))
   (qj (pv 5))),?_⟩
  refine⟨_,rfl,_,rfl,p,_,dx,_,_,rfl,ins,T.q12,T.q39,rfl,_,_,rfl,.inl ⟨_,SqL.of (gv.ty.cst c8),rfl⟩,rfl,_,rfl,q1y (z2d (show ¬ V.int 0=V.int 1 from λz=>nomatch z)) ?_⟩;refine⟨by decide,λL hL=>?_⟩;have s1:=qc (o:=HO.lst []) hL;have a4:=qb (H:=H) (a:=L) (o:=HO.lst []);have E1:=gv.ty.ex.same s1;have L0:=gv.ty.fresh hL;generalize upd H L (.lst [])=H1 at*;refine⟨_,zr,p,dx,_,zr,s1 _ _ ins,zr,_,zr,_,zr,g,S,p,b,ts,k,_,zr,E1.ty,hp,s1 _ _ hb,λS2 D x pp bg H2 E2 b0 b1 hD hx c7=>?_⟩;have F2:=E1.trans E2;have a5:=E2.st _ _ L0 a4;have a9:=E2.nn _ _ L0 a4;have DL:D≠L:=λz=>by rw[z,a4]at b0;cases b0
  refine⟨D,zr,⟨_,SqL.of hD⟩,q1t (xs:=[.ref x]) (λj σ J=>∃(v6 v7 v8 v9:Option V),KdI P w mg g S H H2 G.p p b L D x k j σ J v6 v7 v8 v9) ⟨none,none,none,none,zr,.inl ⟨zr,zr⟩⟩ (λj σ J _ z=>?_) ?_ ?_⟩
  ·obtain⟨_,_,_,_,_,⟨_,rfl⟩ | ⟨_,_,_,_,_,_,z,_⟩⟩:=z
   ·exact SqL.of hD
   ·exact SqL.of z
  ·rintro j y σ J hy ⟨v6,v7,v8,v9,rfl,⟨rfl,rfl⟩ | ⟨rfl,_⟩⟩
   ·cases hy
    have a7:=F2.up _ _ hp;refine⟨x,_,zr,SqT.of hx,zr,_,_,zr,_,_,zr,zr,?_⟩;refine⟨_,zr,p,dx,_,zr,F2.ty.sum a7,zr,_,zr,_,_,zr,zr,_,zr,g,S2,p,_,ts,k,_,zr,F2.ty,a7,?_⟩;refine⟨_,_,zr,zr,_,zr,q3p rfl ?_⟩;have g2:=gv.ex F2;refine⟨_,zr,G.p,G.dx,_,zr,g2.gi,zr,_,zr,_,zr,_,zr,_,_,zr,zr,_,zr,g,S2,p,_,_,_,ts,k,_,zr,F2.ty,a7,λl1 u G3 s3 O b6 hu=>?_⟩;have F3:=F2.same s3;have g3:=gv.ex F3;refine⟨_,zr,G.p,G.dx,_,zr,g3.gi,zr,_,zr,_,zr,g,S2,G,pp,zr,g3,kl,k5,c7.same s3,λS4 L4 G4 E4 a6=>?_⟩;have F4:=F3.trans E4;obtain⟨ys,c0,c1⟩:=E4.ty _ _ a6;have ly:=Paired.length c1;have b5:=E4.st _ _ a9 (s3 _ _ a5);have a3:=E4.nn _ _ a9 (s3 _ _ a5);have D4:=E4.nn _ _ b1 (s3 _ _ hD);have c5:=E4.st _ _ b1 (s3 _ _ hD);have c6:=E4.st _ _ (F2.ty.fresh O) b6;have l14:=E4.nn _ _ (F2.ty.fresh O) b6;have b8:=E4.tup hu;refine⟨L4,zr,⟨_,SqL.of c0⟩,q1t (xs:=ys) (λi σ J=>∃(v9:Option V),σ=[some (.ref G.p),some (.int k),some (.ref p),some (.int 0),some (.ref b),some (.ref L),some (.ref pp),some (.ref bg),some (.ref l1),v9]/\Ex P w mg g S H S4 J/\(∀c o,c≠L->G4 c=some o->J c=some o)/\∃zs,J L=some (.lst zs)/\zs.length=i/\Paired (KdV J g.nm g.R) zs ((trs g.tss.length k).take i)) ⟨_,zr,F4,λ_ _ _ h=>h,[],b5,zr,.nil⟩ (λi σ J _ z=>?_) ?_ ?_⟩
    ·obtain⟨_,_,_,z,_⟩:=z;exact SqL.of (z _ _ (λe=>by rw[e,a3]at a6;cases a6) c0)
    ·rintro i y σ J hy ⟨d3,rfl,F5,Y,zs,hz,lz,pz⟩;obtain⟨u',b7,d0⟩:=q2m c1 hy;have il:=(z06.mp b7).1;have tL:∀{c ys},G4 c=some (.tup ys)->c≠L:=λ{c ys} e z=>by rw[z,b5]at e;cases e
     have a2:J l1=some (.lst [.ref u]):=Y _ _ (λz=>by rw[z,a5]at O;cases O) c6;have uG:=Y _ _ (tL b8) b8;refine⟨_,zr,.inl ⟨zr,_,SqL.of hz⟩,?_⟩;refine⟨_,zr,l1,zr,⟨_,SqL.of a2⟩,λLc b4=>?_⟩;have s6:=qc (o:=HO.lst []) b4;refine q1d 1 (λi σ' E'=>(∃v,σ'=[v,some y])/\Same J E'/\((i=0/\E' Lc=some (.lst []))\/ (i=1/\∃kd,E' Lc=some (.lst [.ref kd])/\E' kd=some (.tup [y])))) ⟨⟨_,zr⟩,s6,.inl ⟨zr,qb⟩⟩ (λi σ' E' hi p=>⟨_,_,SqL.of (p.2.1 _ _ a2),z0b hi⟩) (λσ' E' p=>⟨⟨_,SqL.of (p.2.1 _ _ a2),z3j _⟩,?_⟩) (λi σ' E' hi p x E3 yy=>?_)
     ·obtain⟨_,sm,⟨z,_⟩ | ⟨_,kd,Z,a1⟩⟩:=p
      ·cases z
      ·have a8:=sm _ _ hz;refine⟨L,Lc,zs,_,rfl,rfl,a8,Z,by rw[lz];exact z3d (show i+1<=1000000 by lia) (by decide),?_⟩;have tu:∀c ys,E' c=some (.tup ys)->upd E' L (.lst (zs++ [.ref kd])) c=some (.tup ys):=λc ys e=>by
        rw[qk λz=>by rw[z,a8]at e;cases e];exact e
       refine⟨_,rfl,(F5.same sm).own hL a3 (by rw[a8];nofun),λc o n e=>by rw[qk n];exact sm _ _ (Y _ _ n e),zs++ [.ref kd],qb,by rw[z1b,lz];rfl,?_⟩;rw[z2x,b7];exact L2.q40 (L2.Paired.mapP pz λ_ _ z=>z.keep λc ys e=>tu _ _ (sm _ _ e)) ⟨kd,y,zr,tu _ _ a1,d0.keep λc ys e=>tu _ _ (sm _ _ (Y _ _ (tL e) e))⟩
     ·obtain⟨⟨v,rfl⟩,sm,⟨rfl,Z⟩ | ⟨rfl,_⟩⟩:=p
      ·obtain⟨rfl,d1⟩:=yy;have b9:=d1 _ (SqL.of (sm _ _ a2));cases b9
       refine⟨_,rfl,by show 1<=sizeLine;decide,λt1 c9=>?_⟩;have s7:=qc (o:=HO.tup [y]) c9;refine⟨_,rfl,t1,u,[y],[],rfl,rfl,qb,s7 _ _ (sm _ _ uG),by show 1+0<=sizeLine;decide,λkd E8 s8 a1=>?_⟩;have b3:=(s7.trans s8) _ _ Z;have kL:kd≠Lc:=λz=>by rw[z,b3]at a1;cases a1
       exact⟨_,b3,by show 0 < _;decide,⟨_,rfl⟩,(sm.trans (s7.trans s8)).set b4,.inr ⟨rfl,kd,qb,by rw[qk kL];exact a1⟩⟩
      ·exact absurd hi (z34 1)
    ·rintro σ J ⟨d3,rfl,F5,Y,zs,hz,lz,pz⟩;rw[ly,z2b]at pz;exact⟨_,_,_,_,zr,.inr ⟨zr,S4,zs,F5,a3,D4,Y _ _ DL c5,hz,pz⟩⟩
   ·exact absurd (z06.mp hy).1 (z34 1)
  ·rintro σ J ⟨v6,v7,v8,v9,rfl,⟨z,_⟩ | ⟨_,S',zs,F,LS,_,_,hz,pz⟩⟩
   ·cases z
   ·exact⟨_,zr,kk S' L zs J F hL LS hz pz⟩
end
theorem q7x{α β:Type}{F:α->β->Prop}:∀{xs:List α} {as:List β} {ys:List α} {bs:List β},Paired F xs as->Paired F ys bs->Paired F (xs++ys) (as++bs)
 | _,_,_,_,.nil,h=>h
 | _,_,_,_,.cons a r,h=> .cons a (q7x r h)
section
variable{P:Program}{w:World}{K:xA}{mg:xE}{base:Heap}{g:Gx}{S S':Sty}{H H':Hp}{G:GvA}
inductive sp_rt0 (vs:List V) (H:Hp) (Q:VK) (_x3:XK):Prop
 | mk:∀(p:Addr) (t:Str),(vs=[.ref p,.int 0,.str t])->(∀l H',Same H H'->H' l=some (.lst [])->Q (.ref l) H')->sp_rt0 vs H Q _x3
def rt0(T:Txt K mg)(k:Nat):MDef P w K mg base (8+k+7) (cA mg "Makers") "rules_to" ["self","number","table"] sp_rt0:=by
 refine T.q7q.ok q3j (λvs H Q E h=>?_) λf cdv A outer s H vs Q E hr h=>?_
 ·obtain⟨p,t,rfl,_⟩:=h;rfl
 ·obtain⟨p,t,rfl,q⟩:=h;refine⟨_,(q3a
   (q18 (q14 q4z (pv 1) qf (q1c _)) (qg (qj (q1f q1i))) qx)
   (qm (i:=3) q3j.nd rfl (Or.inr rfl) (qz (hkk:=by lia) (sfk T k) T.q1l hr (pv 0) (pa_1 (qy qa0 (pv 1) qf))))
   (qj (q1a (N:=["place","rule","sums","table"]) (caps:=[none,none,some 3,some 2]) rfl (by with_unfolding_all rfl) (qj8 K rfl T.q9v (pa_1 (qo (pv 0) rfl))) (λ_ _ _ _ _=>(qa4 K (n:=2) rfl (qv (qi (i:=0) (show (["place","rule","sums","table"]:xD).Nodup by decide+kernel) rfl (Or.inl rfl)) (qv (qi (i:=1) (show (["place","rule","sums","table"]:xD).Nodup by decide+kernel) rfl (Or.inl rfl)) q1w)))) (λ_ _ _ _ _=>q87 (q14 q4z (qt (qq K) (qt (qq K) (pv 1) qf (λ_ _=>rfl)) qf (λ_ _=>rfl)) (pv 3) (q1c _))) (λ_ _ _ _ _=>(q13 (pa_2 (pv 0) (qz (hkk:=by lia) (q3u (P:=P) (w:=w) T) T.qr hr (pv 2) (pa_1 (pv 1))))))))),?_⟩
  exact⟨_,zr,zr,_,zr,q3p rfl ⟨by decide,λl hl=>q l _ (qc hl) qb⟩⟩
def trI(m k i:Nat):List (List Nat):=[]::(List.range i).flatMap λp=>(trs m k).map (p:: ·)
def qjz(m k i:Nat):trI m k (i+1)=trI m k i++(trs m k).map (i:: ·):=by
 unfold trI;rw[z2m,z17];show _=[]::(_++_)
 congr 2
 show _++ []=_;exact z2i _
def qv9(m k i:Nat):(trI m k i).length=1+i*(trs m k).length:=by
 induction i with
 | zero=>simp[trI]
 | succ i ih=>rw[qjz,z1b,ih,z2h,Nat.succ_mul,Nat.add_assoc]
def GwI(P:Program)(w:World)(mg:xE)(g:Gx)(S:Sty)(H:Hp)(S3:Sty)(H3:Hp)(G:GvA)(b L:Addr)(k:Nat)(i:Nat)(σ:List (Option V))(G':Hp)(v4 v5 v6:Option V)(S':Sty)(zs:List V):Prop:=σ=[some (.ref G.p),some (.int (k+1:Nat)),some (.ref b),some (.ref L),v4,v5,v6]/\Ed P w mg g S H L S3 H3 S' G'/\G' L=some (.lst zs)/\Paired (λx u=>TrV G' g.nm g.R u x) zs (trI g.tss.length k i)
def qqh(T:Txt K mg)(n d dr dk:Nat){b8 d0:Sp}(hd:8<=d)(hdr:dr<=d)(hdk:dk<=d)(e5:MDef P w K mg base dr (cA mg "Makers") "rules_to" ["self","number","table"] b8)(e4:MDef P w K mg base dk (cA mg "Grove") "all_kids" ["self","number","sums","place","binding"] d0)(e0:n=0->b8=sp_rt0)(e1:∀k,n=k+1->b8=sp_rto P w mg k/\d0=sp_kid P w mg k):MDef P w K mg base (d+1) (cA mg "Grove") "trees_anew" ["self","number","pair"] (sp_anw P w mg n):=by
 refine T.qci.ok q2i (λvs H Q E h=>?_) λf cdv A outer s H vs Q E hr h=>?_
 ·obtain⟨g,S,G,b,rfl,_⟩:=h;rfl
 ·obtain⟨g,S,G,b,rfl,J,nl,n5,hb,kk⟩:=h;obtain⟨q,a5,b1⟩:=pr_at.mp hb;have a5:H b=some (.tup [.str g.t,.ref q]):=a5;have b1:H q=some (.tup (g.R.map kV)):=b1;refine⟨_,(q3a
   (qm (i:=3) q2i.nd rfl (Or.inl rfl) (q1u (qn7 K) rfl T.qka qfx (pa_1 (qz (hkk:=by lia) (qcb T) T.q1l hr (qo (pv 0) rfl) (pa_1 (pv 2))))))
   (q1k PassesOwn.never rfl (q11 K (qz (hkk:=by lia) e5 T.q1l hr (qo (pv 0) rfl) (pa_2 (pv 1) (qt (qq K) (pv 2) qf (λ_ _=>rfl))))) (q3g rfl (qv (qi (i:=4) q2i.nd rfl (Or.inr rfl)) (qv (qi (i:=5) q2i.nd rfl (Or.inl rfl)) q1w))) (q1x
   (qm (i:=6) q2i.nd rfl (Or.inl rfl) (qz (hkk:=by lia) (q6o T) T.q12 hr (pv 5) (pa_1 (qt (qq K) (pv 2) qf (λ_ _=>rfl)))))
   (q18 (q14 qa2 (pv 6) q3f (q1c _)) (qg (q1g (q4j z0i z0c z0d q74 (pv 3) (pa_1 (q1a (N:=["kids","place","pair"]) (caps:=[none,some 4,some 2]) rfl (by with_unfolding_all rfl) (q11 K (qz (hkk:=by lia) e4 T.q2g hr (pv 0) (pa_4 (qy qa0 (pv 1) qf) (pv 5) qf (pv 6)))) (λ_ _ _ _ _=>(qi (i:=0) (show (["kids","place","pair"]:xD).Nodup by decide+kernel) rfl (Or.inl rfl))) (λ_ _ _ _ _=>q1r) (λ_ _ _ _ _=>(q13 (pa_3 (pv 1) (qt (qq K) (pv 2) qf (λ_ _=>rfl)) (pv 0))))))))) qx)))
   (qj (pv 3))),?_⟩
  refine⟨_,zr,G.p,_,G.dx,_,_,zr,J.gi,T.q2g,T.q71,zr,G.m.mp,G.m.mdx,_,zr,J.mi,zr,_,zr,g,S,G.m,b,zr,J.ty,J.ok,J.mm,hb,λH1 s1=>?_⟩;have E1:=J.ty.ex.same s1;refine⟨G.m.nl,_,zr,.inl (SqL.of (E1.ty.cst J.mm.nl)),λL hL=>?_⟩;have s2:=qc (o:=HO.lst [V.str g.nm]) hL;have a2:=qb (H:=H1) (a:=L) (o:=HO.lst [V.str g.nm]);have c9:=s1.trans s2;have E2:=J.ty.ex.same c9;have L0:=s1.free hL;have LS:=J.ty.fresh L0;generalize upd H1 L (.lst [V.str g.nm])=H2 at*;have g2:=J.ex E2;refine⟨_,zr,G.p,_,G.dx,_,_,zr,g2.gi,T.q2g,T.q71,zr,G.m.mp,G.m.mdx,_,zr,g2.mi,zr,_,zr,_,zr,_,_,_,_,zr,zr,SqT.of (c9 _ _ a5),ql (j:=0) rfl,?_⟩;cases n with
  | zero=>
   obtain rfl:=e0 rfl;refine⟨G.m.mp,g.t,zr,λLa H3 s3 Y=>?_⟩;have E3:=E2.same s3;refine⟨La,rfl,⟨_,SqL.of Y⟩,q1t (xs:=[]) (λi σ O=>σ=[some (.ref G.p),some (.int (0:Nat)),some (.ref b),some (.ref L),none,none,none]/\O=H3) ⟨rfl,rfl⟩ (λi σ O _ z=>by rw[z.2];exact SqL.of Y) (λi x σ O hx=>nomatch hx) ?_⟩;rintro σ O ⟨rfl,rfl⟩;exact⟨_,zr,kk S L _ O E3 L0 LS (s3 _ _ a2) (.cons rfl .nil)⟩
  | succ k=>
   obtain⟨rfl,rfl⟩:=e1 k rfl;have tl:=qqg J.ok.m3 (show k<=5 by lia);have m3:=J.ok.m3;refine⟨g,S,G.m,zr,E2.ty,J.ok,g2.mm,by lia,by lia,λS3 La xs H3 X3 a7 c4 Y lx px=>?_⟩;have E3:=E2.trans X3;have a3:=X3.st _ _ LS a2;have c0:=X3.nn _ _ LS a2;have d1:La≠L:=λz=>by rw[z,a2]at a7;cases a7
   have a8:=E3.tup a5;have a9:=E3.tup b1;have g3:=J.ex E3;have e6:Paired (λx u=>TrV H3 g.nm g.R u x) [V.str g.nm] (trI g.tss.length k 0):= .cons rfl .nil;refine⟨La,zr,⟨_,SqL.of Y⟩,q1t (xs:=xs) (λi σ O=>∃(v4 v5 v6:Option V) (S':Sty) (zs:List V),GwI P w mg g S H S3 H3 G b L k i σ O v4 v5 v6 S' zs) ⟨none,none,none,S3,_,zr,⟨E3,λ_ _ h=>h,λ_ _ _ _ h=>h,λ_ _ h _=>h⟩,a3,e6⟩ (λi σ O _ z=>?_) ?_ ?_⟩
   ·obtain⟨_,_,_,_,_,_,F,_⟩:=z;exact SqL.of (F.st _ _ d1 c4 Y)
   ·rintro i x σ O hx ⟨v4,v5,v6,S',zs,rfl,F,hz,pz⟩;obtain⟨c,p,ho,ts,rfl,hc,hts,hp⟩:=px i x hx;have il:=(z06.mp hx).1;have lz:=Paired.length pz;rw[qv9]at lz;have lb:i*(trs g.tss.length k).length<=3*1000000:=z2z (by lia) (by lia);obtain⟨d2,_,_,_,_,_,_,_,_,rfl,_⟩:=X3.ty p _ hp;have tu:∀{c ys},H3 c=some (.tup ys)->O c=some (.tup ys):=λ{c ys} e=>F.st _ _ (λz=>by rw[z,a3]at e;cases e) (X3.ty.tup e) e;have b3:=F.up _ _ hp;have b9:=F.nn _ _ c0 a3;have d3:Gv P w mg g S' O G:=J.ex F.e;refine⟨c,_,zr,SqT.of (tu hc),zr,_,_,zr,_,_,zr,zr,?_⟩;refine⟨_,zr,p,d2,_,zr,F.e.ty.sum b3,zr,_,zr,_,_,_,_,zr,zr,SqT.of (tu a8),ql (j:=1) rfl,g,S',p,q,ts,k,_,zr,F.e.ty,b3,tu a9,λbb G4 s5 _ d5=>?_⟩;refine⟨_,zr,zr,_,zr,iteT ?_⟩;have F5:=F.e.same s5;have g5:=d3.ex (F.e.ty.ex.same s5);have b5:=s5 _ _ hz;refine⟨_,zr,.inl ⟨zr,_,SqL.of b5⟩,?_⟩;refine⟨_,zr,G.p,G.dx,_,zr,g5.gi,zr,_,zr,_,_,zr,zr,_,zr,_,zr,g,S',G,p,bb,ts,_,?_,g5,by lia,by lia,b3,d5,λS6 Lk ks G6 X6 e7 e8 a4 pk=>?_⟩
    ·show [V.ref G.p,V.int (((k+1:Nat):Int) - 1),_,_,_]=[V.ref G.p,V.int (k:Nat),_,_,_];rw[show (((k+1:Nat):Int) - 1)=(k:Nat) by lia]
    have F6:=F5.trans X6;have lk:=Paired.length pk;have d9:=X6.st _ _ b9 b5;have c1:=X6.nn _ _ b9 b5;have c6:=X6.tup (s5 _ _ (tu a8));have c7:=X6.tup (s5 _ _ (tu a9));refine⟨Lk,zr,⟨_,SqL.of a4⟩,λLc c5=>?_⟩;refine q1d ks.length (λj σ' E'=>(∃v,σ'=[v,some (.int i),some (.ref b)])/\Same G6 E'/\∃ws,E' Lc=some (.lst ws)/\ws.length=j/\Paired (λx u=>TrV E' g.nm g.R u x) ws (((trs g.tss.length k).take j).map (i:: ·))) ⟨⟨_,zr⟩,qc c5,[],qb,zr,.nil⟩ (λj σ' E' hj p=>⟨_,_,SqL.of (p.2.1 _ _ a4),z0b hj⟩) (λσ' E' p=>⟨⟨_,SqL.of (p.2.1 _ _ a4),z3j _⟩,?_⟩) (λj σ' E' hj p x E3 yy=>?_)
    ·obtain⟨_,Z,ws,b4,b7,a6⟩:=p;rw[lk,z2b]at a6;have b6:=Z _ _ d9;have tL:∀c ys,E' c=some (.tup ys)->upd E' L (.lst (zs++ws)) c=some (.tup ys):=λc ys e=>by
      rw[qk λz=>by rw[z,b6]at e;cases e];exact e
     refine⟨L,Lc,zs,ws,rfl,rfl,b6,b4,z3d (show zs.length+ws.length<=5000000 by lia) (by decide),?_⟩;refine⟨_,_,_,S6,zs++ws,rfl,⟨(F6.same Z).own L0 c1 (by rw[b6];nofun),λ_ _ h=>X6.up _ _ (F.up _ _ h),λc o nc h1 h2=>?_,λc o h1 h2=>?_⟩,qb,?_⟩
     ·rw[qk nc];exact Z _ _ (X6.st _ _ (F.nn _ _ h1 h2) (s5 _ _ (F.st _ _ nc h1 h2)))
     ·by_cases z:c=L
      ·rw[z];exact c1
      ·exact X6.nn _ _ (F.nn _ _ h1 h2) (s5 _ _ (F.st _ _ z h1 h2))
     ·rw[qjz];exact q7x (L2.Paired.mapP pz λ_ _ z=>z.keep λc ys e=>tL _ _ (Z _ _ (X6.tup (s5 _ _ e)))) (L2.Paired.mapP a6 λ_ _ z=>z.keep tL)
    ·obtain⟨⟨v,rfl⟩,Z,ws,b4,b7,a6⟩:=p;obtain⟨rfl,d8⟩:=yy;have c8:=d8 _ (SqL.of (Z _ _ a4));obtain⟨u,hu,kd,y,rfl,d6,d7⟩:=q2m pk c8;refine⟨_,rfl,_,rfl,_,_,_,_,rfl,rfl,SqT.of (Z _ _ c6),ql (j:=1) rfl,_,rfl,by show 3<=sizeLine;decide,λa1 d4=>?_⟩;have s7:=qc (o:=HO.tup [V.int i,.ref q,.ref kd]) d4;have b0:=s7 _ _ b4;have tL:∀c ys,upd E3 a1 (.tup [V.int i,.ref q,.ref kd]) c=some (.tup ys)->upd (upd E3 a1 (.tup [V.int i,.ref q,.ref kd])) Lc (.lst (ws++ [.ref a1])) c=some (.tup ys):=λc ys e=>by
      rw[qk λz=>by rw[z,b0]at e;cases e];exact e
     refine⟨_,b0,by rw[b7];exact z1e (show j < 1000000 by lia) (by decide),⟨_,rfl⟩,(Z.trans s7).set c5,ws++ [.ref a1],qb,by rw[z1b,b7];rfl,?_⟩;rw[z2x,hu,z2n];exact L2.q40 (L2.Paired.mapP a6 λ_ _ z=>z.keep λc ys e=>tL _ _ (s7 _ _ e)) ⟨a1,q,kd,y,zr,tL _ _ qb,tL _ _ (s7 _ _ (Z _ _ c7)),tL _ _ (s7 _ _ (Z _ _ d6)),d7.keep λc ys e=>tL _ _ (s7 _ _ (Z _ _ e))⟩
   ·rintro σ O ⟨v4,v5,v6,S',zs,rfl,F,hz,pz⟩;rw[lx]at pz;exact⟨_,zr,kk S' L zs O F.e L0 (F.nn _ _ c0 a3) hz pz⟩
theorem anw(T:Txt K mg):∀n,MDef P w K mg base (17+3*n+1) (cA mg "Grove") "trees_anew" ["self","number","pair"] (sp_anw P w mg n)
 | 0=>qqh T 0 17 (8+0+7) 1 (by lia) (by lia) (by lia) (rt0 T 0) (kd0 T) (λ_=>rfl) λk z=>nomatch z
 | n+1=>qqh T (n+1) (17+3*(n+1)) (8+n+7) (17+3*n+3) (by lia) (by lia) (by lia) (rto T n) (qxa T n (17+3*n+2) (by lia) (qt6 T n (17+3*n+1) (anw T n))) (λz=>nomatch z) λk z=>by rw[Nat.succ.inj z];exact⟨rfl,rfl⟩
def qo2(T:Txt K mg)(n:Nat):MDef P w K mg base (17+3*n+2) (cA mg "Grove") "trees_at" ["self","number","pair"] (sp_at P w mg n):=qt6 T n (17+3*n+1) (anw T n)
end
def valB:Key->Bool
 | .inl _=>true
 | .inr z=>txtB smaS z
def TmG(t:Key):Prop:=txtK capS t=true\/ GoodK t
theorem TmG.tx{t:Key}(h:TmG t):TxOk t:=h.elim (λz=>(qq2 z).tx) GoodK.tx
def One.tg{t:Str}{R ts:List Key}(h:One t R ts):∀u∈ts,TmG u:=λu hu=>h.tm.elim (λe=> .inr (h.gR u (e ▸ hu))) λe=> .inl (e.2.2 u hu)
variable{P:Program}{w:World}{K:xA}{mg:xE}{base:Heap}
def qy9(T:Txt K mg):Def P w K mg base 3 "is_value" ["thing"] (λvs H Q _=>∃t:Key,vs=[kV t]/\TxOk t/\∀H',Same H H'->Q (.bl (valB t)) H'):=by
 refine T.qfl.ok qdh (λvs H Q E h=>?_) λf cdv A outer s H vs Q E hr h=>?_
 ·obtain⟨t,rfl,_⟩:=h;rfl
 ·obtain⟨t,rfl,J,k⟩:=h;refine⟨_,(qg (qj (qmq (qh (q73 T) hr rfl (pa_1 (pv 0))) (q3q (qh (q6g T) hr rfl (pa_1 (pv 0))))))),?_⟩;refine⟨_,zr,_,keyD t,zr,q38 J,?_⟩;cases t with
  | inl i=>exact⟨_,rfl,iteT (k H (Same.refl H))⟩
  | inr z=>exact⟨_,rfl,iteF ⟨_,rfl,.inr z,rfl,J,λH' s'=>k H' s'⟩⟩
def qo3(T:Txt K mg):Def P w K mg base 4 "is_term" ["thing"] (λvs H Q _=>∃t:Key,vs=[kV t]/\TmG t/\∀H',Same H H'->Q (.bl true) H'):=by
 refine T.qqt.ok qnv (λvs H Q E h=>?_) λf cdv A outer s H vs Q E hr h=>?_
 ·obtain⟨t,rfl,_⟩:=h;rfl
 ·obtain⟨t,rfl,J,k⟩:=h;refine⟨_,(qg (qj (qmq (qh (qy9 T) hr rfl (pa_1 (pv 0))) (q3q (qh (qc4 T) hr rfl (pa_1 (pv 0))))))),?_⟩;refine⟨_,zr,t,zr,J.tx,λH1 s1=>?_⟩;cases e:valB t with
  | true=>exact⟨_,rfl,iteT (k H1 s1)⟩
  | false=>
   have hc:txtK capS t=true:=J.resolve_right λg=>by
    cases t with
    | inl i=>cases e
    | inr z=>
     have g:txtB smaS z=true:=g;have e:txtB smaS z=false:=e;rw[g]at e;cases e
   refine⟨_,zr,iteF ⟨_,zr,t,zr,J.tx,λH' s'=>?_⟩⟩;rw[hc];exact k H' (s1.trans s')
def q7y(K:xA)(vs:List V)(H:Hp)(Q:V->Hp->Prop)(a:Addr)(xs:List V)(ds:List PyData)(m:Int):Prop:=vs=[.ref a,.int m]/\H a=some (.tup xs)/\Dats K H ds xs/\(xs.length:Int)<=m/\Q (.bl true) H
inductive sp0_ok_is_tuple_of_up_to (K:xA) (vs:List V) (H:Hp) (Q:VK) (_x3:XK):Prop
 | mk:∀(a:Addr) (xs:List V) (ds:List PyData) (m:Int),(q7y K vs H Q a xs ds m)->sp0_ok_is_tuple_of_up_to K vs H Q _x3
def q43(T:Txt K mg):Def P w K mg base 1 "is_tuple_of_up_to" ["thing","most"] (sp0_ok_is_tuple_of_up_to K):=by
 refine T.qbc.ok qau (λvs H Q E h=>?_) λf cdv A outer s H vs Q E hr h=>?_
 ·obtain⟨a,xs,ds,m,rfl,_⟩:=h;rfl
 ·obtain⟨a,xs,ds,m,rfl,ha,hd,hm,k⟩:=h;refine⟨_,(qg (qj (q46 (qw (q3w K) rfl T.q2h q25 (pa_2 (pv 0) (q7s rfl T.q52 q3z))) (q3q (q5x qeh (qw (q1o K) rfl T.b_len q2a (pa_1 (pv 0))) (pv 1) (q1c _)))))),?_⟩;refine⟨_,zr,_,_,_,zr,(.tup (SqT.of ha) hd:Dat K H (.tuple ds) (.ref a)),by decide,_,zr,iteT ?_⟩;refine⟨_,zr,_,_,zr,.inr ⟨_,SqT.of ha,zr⟩,_,zr,_,_,zr,zr,?_⟩;show Q (.bl (decide ((xs.length:Int)<=m))) H;rw[z2s hm];exact k
def qk0(T:Txt K mg):Def P w K mg base 5 "are_terms" ["thing"] (λvs H Q _=>∃(a:Addr) (us:List Key),vs=[.ref a]/\H a=some (.tup (us.map kV))/\us.length<=4/\(∀u∈us,TmG u)/\∀H',Same H H'->Q (.bl true) H'):=by
 refine T.qlf.ok qjg (λvs H Q E h=>?_) λf cdv A outer s H vs Q E hr h=>?_
 ·obtain⟨a,us,rfl,_⟩:=h;rfl
 ·obtain⟨a,us,rfl,ha,l4,Z,k⟩:=h;refine⟨_,(qg (qj (q46 (qh (q43 T) hr rfl (pa_2 (pv 0) (q93 rfl T.qb2))) (q3q (qw (q2z rfl K) rfl T.b_all q5g (pa_1 (q1a (N:=["part"]) (caps:=[none]) rfl (by with_unfolding_all rfl) (q31 K (pv 0)) (λ_ _ _ _ _=>(qi (i:=0) (show (["part"]:xD).Nodup by decide+kernel) rfl (Or.inl rfl))) (λ_ _ _ _ _=>q1r) (λ_ _ _ _ _=>(qh (qo3 T) hr rfl (pa_1 (pv 0))))))))))),?_⟩;refine⟨_,rfl,a,_,us.map keyD,4,rfl,ha,q61 λu hu=>q38 (Z u hu).tx,by rw[z2h];lia,⟨_,rfl,iteT ?_⟩⟩;refine⟨_,zr,a,zr,⟨_,SqT.of ha⟩,λD hD=>?_⟩;refine q1d (us.map kV).length (λi σ' J=>(∃v,σ'=[v])/\Same H J/\J D=some (.lst ((List.replicate i true).map V.bl))) ⟨⟨_,zr⟩,qc hD,qb⟩ (λi σ' J hi p=>?_) (λσ' J p=>⟨?_,?_⟩) (λi σ' J hi p x E3 y=>?_)
  ·exact⟨_,_,SqT.of (p.2.1 _ _ ha),z0b hi⟩
  ·exact⟨_,SqT.of (p.2.1 _ _ ha),z3j _⟩
  ·obtain⟨_,Y,e⟩:=p;refine⟨D,_,zr,SqL.of e,?_⟩;rw[qe3];exact k J Y
  ·obtain⟨⟨v,rfl⟩,Y,e⟩:=p;obtain⟨rfl,hx⟩:=y;have O:=hx _ (SqT.of (Y _ _ ha));rw[z1m]at O;obtain⟨u,hu,rfl⟩:=z0n.mp O;have ul:=(z06.mp hu).1;refine⟨_,zr,u,zr,Z u (z0x hu),λE4 s4=>?_⟩;refine⟨_,s4 _ _ e,?_,⟨_,zr⟩,(Y.trans s4).set hD,?_⟩
   ·rw[z2h,List.length_replicate];exact z1e (show i < 1000 by lia) (by decide)
   ·rw[qb,List.replicate_succ',z2n];rfl
def qk1{H:Hp}{b:Addr}{t:Str}{R ts:List Key}(h:NAt H (pN (t,ts)) (.ref b))(o:One t R ts):Dat K H (.tuple [.str t,.tuple (ts.map keyD)]) (.ref b):=by
 obtain⟨q,h1,h2⟩:=pr_at.mp h;exact .tup (SqT.of h1) (.cons (.str _ (GoodK.tx (k:= .inr t) o.nm).2) (.cons (.tup (SqT.of h2) (q61 λu hu=>q38 (o.tx u hu))) .nil))
def qfb(vs:List V)(H:Hp)(Q:V->Hp->Prop)(b:Addr)(t:Str)(R ts:List Key):Prop:=vs=[.ref b]/\NAt H (pN (t,ts)) (.ref b)/\One t R ts/\∀H',Same H H'->Q (.bl true) H'
inductive sp0_ok_is_atom (vs:List V) (H:Hp) (Q:VK) (_x3:XK):Prop
 | mk:∀(b:Addr) (t:Str) (R:List Key) (ts:List Key),(qfb vs H Q b t R ts)->sp0_ok_is_atom vs H Q _x3
def qfc(T:Txt K mg):Def P w K mg base 6 "is_atom" ["thing"] (sp0_ok_is_atom):=by
 refine T.qqq.ok qnw (λvs H Q E h=>?_) λf cdv A outer s H vs Q E hr h=>?_
 ·obtain⟨b,t,R,ts,rfl,_⟩:=h;rfl
 ·obtain⟨p,t,R,ts,rfl,hx,o,k⟩:=h;obtain⟨q,h1,h2⟩:=pr_at.mp hx;have h1:H p=some (.tup [.str t,.ref q]):=h1;have h2:H q=some (.tup (ts.map kV)):=h2;have on:TxOk (.inr t):=GoodK.tx (k:= .inr t) o.nm;refine⟨_,(qg (qj (q46 (qh (q4g T) hr rfl (pa_2 (pv 0) qf)) (q46 (qh (q6g T) hr rfl (pa_1 (qt (qq K) (pv 0) qf (λ_ _=>rfl)))) (q3q (qh (qk0 T) hr rfl (pa_1 (qt (qq K) (pv 0) qf (λ_ _=>rfl))))))))),?_⟩;refine⟨_,zr,p,_,_,zr,h1,.cons (.str _ on.2) (.cons (.tup (SqT.of h2) (q61 λu hu=>q38 (o.tx u hu))) .nil),⟨_,zr,iteT ?_⟩⟩;refine⟨_,zr,_,_,_,_,zr,zr,SqT.of h1,ql (j:=0) rfl,.inr t,zr,on,λH1 s1=>?_⟩;rw[show txtK smaS (.inr t)=true from o.nm];refine⟨_,zr,iteT ?_⟩;exact⟨_,zr,_,_,_,_,zr,zr,SqT.of (s1 _ _ h1),ql (j:=1) rfl,q,ts,zr,s1 _ _ h2,o.l4,o.tg,λH2 s2=>k H2 (s1.trans s2)⟩
def qcz(vs:List V)(H:Hp)(Q:V->Hp->Prop)(p b:Addr)(t:Str)(R ts:List Key):Prop:=vs=[.ref p]/\H p=some (.tup [.ref b])/\NAt H (pN (t,ts)) (.ref b)/\One t R ts/\∀H',Same H H'->Q (.bl true) H'
inductive sp0_ok_are_atoms (vs:List V) (H:Hp) (Q:VK) (_x3:XK):Prop
 | mk:∀(p:Addr) (b:Addr) (t:Str) (R:List Key) (ts:List Key),(qcz vs H Q p b t R ts)->sp0_ok_are_atoms vs H Q _x3
def qk2(T:Txt K mg):Def P w K mg base 7 "are_atoms" ["thing"] (sp0_ok_are_atoms):=by
 refine T.qle.ok qjh (λvs H Q E h=>?_) λf cdv A outer s H vs Q E hr h=>?_
 ·obtain⟨p,b,t,R,ts,rfl,_⟩:=h;rfl
 ·obtain⟨p,b,t,R,ts,rfl,O,hx,o,k⟩:=h;refine⟨_,(qg (qj (q46 (qh (q43 T) hr rfl (pa_2 (pv 0) (q93 rfl T.qkf))) (q3q (qw (q2z rfl K) rfl T.b_all q5g (pa_1 (q1a (N:=["part"]) (caps:=[none]) rfl (by with_unfolding_all rfl) (q31 K (pv 0)) (λ_ _ _ _ _=>(qi (i:=0) (show (["part"]:xD).Nodup by decide+kernel) rfl (Or.inl rfl))) (λ_ _ _ _ _=>q1r) (λ_ _ _ _ _=>(qh (qfc T) hr rfl (pa_1 (pv 0))))))))))),?_⟩;refine⟨_,rfl,p,_,_,3,rfl,O,.cons (qk1 hx o) .nil,by show (1:Int)<=3;decide,⟨_,rfl,iteT ?_⟩⟩;refine⟨_,zr,p,zr,⟨_,SqT.of O⟩,λD hD=>?_⟩;refine q1d 1 (λi σ' J=>(∃v,σ'=[v])/\Same H J/\J D=some (.lst ((List.replicate i true).map V.bl))) ⟨⟨_,zr⟩,qc hD,qb⟩ (λi σ' J hi p=>?_) (λσ' J p=>⟨?_,?_⟩) (λi σ' J hi p x E3 y=>?_)
  ·exact⟨_,_,SqT.of (p.2.1 _ _ O),z0b hi⟩
  ·exact⟨_,SqT.of (p.2.1 _ _ O),z3j _⟩
  ·obtain⟨_,Y,e⟩:=p;exact⟨D,_,zr,SqL.of e,k J Y⟩
  ·obtain⟨⟨v,rfl⟩,Y,e⟩:=p;obtain⟨rfl,hy⟩:=y;obtain rfl:i=0:=Nat.lt_one_iff.mp hi;have Z:=hy _ (SqT.of (Y _ _ O));cases Z
   refine⟨_,zr,b,t,R,ts,zr,hx.same Y,o,λE4 s4=>?_⟩;exact⟨_,s4 _ _ e,by show 0 < _;decide,⟨_,rfl⟩,(Y.trans s4).set hD,qb⟩
def qk3(T:Txt K mg):Def P w K mg base 1 "is_choice" ["thing"] (λ_ _ _ _=>False):=T.qll.ok qji (λvs H Q E h=>h.elim) λf cdv A outer s H vs Q E hr h=>h.elim
def qgk(T:Txt K mg):Def P w K mg base 2 "are_choices" ["thing"] (λvs H Q _=>∃p:Addr,vs=[.ref p]/\H p=some (.tup [])/\∀H',Same H H'->Q (.bl true) H'):=by
 refine T.qic.ok qg5 (λvs H Q E h=>?_) λf cdv A outer s H vs Q E hr h=>?_
 ·obtain⟨p,rfl,_⟩:=h;rfl
 ·obtain⟨p,rfl,O,k⟩:=h;refine⟨_,(qg (qj (q46 (qh (q43 T) hr rfl (pa_2 (pv 0) (q93 rfl T.qgp))) (q3q (qw (q2z rfl K) rfl T.b_all q5g (pa_1 (q1a (N:=["part"]) (caps:=[none]) rfl (by with_unfolding_all rfl) (q31 K (pv 0)) (λ_ _ _ _ _=>(qi (i:=0) (show (["part"]:xD).Nodup by decide+kernel) rfl (Or.inl rfl))) (λ_ _ _ _ _=>q1r) (λ_ _ _ _ _=>(qh (qk3 T) hr rfl (pa_1 (pv 0))))))))))),?_⟩;refine⟨_,zr,p,_,_,3,zr,O,.nil,by decide,⟨_,zr,iteT ?_⟩⟩;refine⟨_,zr,p,zr,⟨_,SqT.of O⟩,λD hD=>?_⟩;refine q1d 0 (λi σ' J=>Same H J/\J D=some (.lst (([]:List Bool).map V.bl))) ⟨qc hD,qb⟩ (λi σ' J hi p=>absurd hi (Nat.not_lt_zero _)) (λσ' J p=>⟨⟨_,SqT.of (p.1 _ _ O),z3j _⟩,D,_,zr,SqL.of p.2,k J p.1⟩) (λi σ' J hi p x E3 y=>absurd hi (Nat.not_lt_zero _))
def qfd(vs:List V)(H:Hp)(Q:V->Hp->Prop)(b:Addr)(t:Str)(R ts:List Key):Prop:=vs=[.ref b]/\NAt H (rK t ts) (.ref b)/\One t R ts/\∀H',Same H H'->Q (.bl true) H'
inductive sp0_ok_is_rule (vs:List V) (H:Hp) (Q:VK) (_x3:XK):Prop
 | mk:∀(b:Addr) (t:Str) (R:List Key) (ts:List Key),(qfd vs H Q b t R ts)->sp0_ok_is_rule vs H Q _x3
def qo4(T:Txt K mg):Def P w K mg base 8 "is_rule" ["thing"] (sp0_ok_is_rule):=by
 refine T.qqr.ok qf2 (λvs H Q E h=>?_) λf cdv A outer s H vs Q E hr h=>?_
 ·obtain⟨b,t,R,ts,rfl,_⟩:=h;rfl
 ·obtain⟨b,t,R,ts,rfl,a3,o,k⟩:=h;refine⟨_,(q4k
   (q18 (q33 (q1z (qh (q4g T) hr rfl (pa_2 (pv 0) qf)))) (qg (qj q4i)) qx)
   (q18 (PW.pt (qag (q33 (q1z (qh (qfc T) hr rfl (pa_1 (qt (qq K) (pv 0) qf (λ_ _=>rfl)))))) (qag (q33 (q1z (qh (qk2 T) hr rfl (pa_1 (qt (qq K) (pv 0) qf (λ_ _=>rfl)))))) (q9z (q33 (q1z (qh (qgk T) hr rfl (pa_1 (qt (qq K) (pv 0) qf (λ_ _=>rfl)))))))))) (qg (qj q4i)) qx)
   (qm (i:=1) qf2.nd rfl (Or.inr rfl) (qh (q6i T) hr rfl (pa_1 (qt (qq K) (pv 0) qf (λ_ _=>rfl)))))
   (qj (q46 (qh (q4u T) hr rfl (pa_2 (qt (qq K) (qt (qq K) (pv 0) qf (λ_ _=>rfl)) qf (λ_ _=>rfl)) (pv 1))) (q3q (qw (q2z rfl K) rfl T.b_all q5g (pa_1 (q1a (N:=["choice","known"]) (caps:=[none,some 1]) rfl (by with_unfolding_all rfl) (q31 K (qt (qq K) (pv 0) qf (λ_ _=>rfl))) (λ_ _ _ _ _=>(qi (i:=0) (show (["choice","known"]:xD).Nodup by decide+kernel) rfl (Or.inl rfl))) (λ_ _ _ _ _=>q1r) (λ_ _ _ _ _=>(qh (q4u T) hr rfl (pa_2 (q34 (q81 K) (pv 0) (q3s qf) q3r) (pv 1))))))))))),?_⟩
  obtain⟨p,l,c,p2,h1,a1,c1,a2,c3⟩:=ru_at.mp a3;obtain⟨q1,e1,e2⟩:=pr_at.mp a1;have e1:H p=some (.tup [.str t,.ref q1]):=e1;have e2:H q1=some (.tup (ts.map kV)):=e2;have l4:=o.l4;refine⟨_,zr,b,_,_,zr,h1,.cons (qk1 a1 o) (.cons (.tup (SqT.of c1) (.cons (qk1 a2 o) .nil)) (.cons (.tup (SqT.of c3) .nil) .nil)),⟨_,zr,q1y rfl ?_⟩⟩;refine⟨_,zr,_,_,_,_,zr,zr,SqT.of h1,ql (j:=0) rfl,p,t,R,ts,zr,a1,o,λH1 s1=>⟨_,zr,q1y rfl ?_⟩⟩;refine⟨_,zr,_,_,_,_,zr,zr,SqT.of (s1 _ _ h1),ql (j:=1) rfl,l,p2,t,R,ts,zr,s1 _ _ c1,a2.same s1,o,λH2 s2=>⟨_,zr,q1y rfl ?_⟩⟩;have S2:=s1.trans s2;refine⟨_,zr,_,_,_,_,zr,zr,SqT.of (S2 _ _ h1),ql (j:=2) rfl,c,zr,S2 _ _ c3,λH3 s3=>⟨_,zr,q1y rfl ?_⟩⟩;have O:=S2.trans s3;refine⟨_,zr,_,_,_,_,zr,zr,SqT.of (O _ _ h1),ql (j:=1) rfl,l,p2,t,ts,zr,SqT.of (O _ _ c1),a2.same O,o.tx,l4,λV1 H4 s4 hV0 hV=>?_⟩;have Y:=O.trans s4;refine⟨_,zr,_,_,_,_,zr,zr,SqT.of (Y _ _ h1),ql (j:=0) rfl,_,_,_,_,zr,zr,SqT.of (Y _ _ e1),ql (j:=1) rfl,_,zr,q1,V1,ts,q19 ts,zr,SqT.of (Y _ _ e2),o.tx,by lia,hV,(λu hu=>o.tx u (z2e.mp hu).1),λH5 s5=>?_⟩;have ek:qjr (q19 ts) ts=true:=by
   unfold qjr;exact z25.mpr λu hu=>qml.mpr hu
  rw[ek];have Z:=Y.trans s5;refine⟨_,zr,iteT ?_⟩;refine⟨_,zr,_,_,_,_,zr,zr,SqT.of (Z _ _ h1),ql (j:=2) rfl,c,zr,⟨_,SqT.of (Z _ _ c3)⟩,λD hD=>?_⟩;refine q1d 0 (λi σ' J=>Same H5 J/\J D=some (.lst (([]:List Bool).map V.bl))) ⟨qc hD,qb⟩ (λi σ' J hi p=>absurd hi (Nat.not_lt_zero _)) (λσ' J p=>⟨⟨_,SqT.of ((Z.trans p.1) _ _ c3),z3j _⟩,D,_,zr,SqL.of p.2,k J (Z.trans p.1)⟩) (λi σ' J hi p x E3 y=>absurd hi (Nat.not_lt_zero _))
def qd0(vs:List V)(H:Hp)(Q:V->Hp->Prop)(g:Gx)(S:Sty)(a b:Addr):Prop:=vs=[.ref a]/\Inp g S H a b/\g.Ok/\∀H',Same H H'->Q .non H'
inductive sp0_ok_vet_facts (vs:List V) (H:Hp) (Q:VK) (_x3:XK):Prop
 | mk:∀(g:Gx) (S:Sty) (a:Addr) (b:Addr),(qd0 vs H Q g S a b)->sp0_ok_vet_facts vs H Q _x3
def qk4(T:Txt K mg):Def P w K mg base 6 "vet_facts" ["facts"] (sp0_ok_vet_facts):=by
 refine T.qld.ok q6e (λvs H Q E h=>?_) λf cdv A outer s H vs Q E hr h=>?_
 ·obtain⟨g,S,a,b,rfl,_⟩:=h;rfl
 ·obtain⟨g,S,a,b,rfl,⟨⟨fp,q,ha,hp,hq⟩,_⟩,ok,k⟩:=h;refine⟨_,(q1x
   (qm (i:=1) q6e.nd rfl (Or.inl rfl) q4n)
   (q1k PassesOwn.never rfl (q11 K (pv 0)) (qi (i:=2) q6e.nd rfl (Or.inl rfl)) (q4k
   (q18 (q33 (q1z (qh (qny T) hr rfl (pa_1 (pv 2))))) (qg qey) qx)
   (qm (i:=3) q6e.nd rfl (Or.inl rfl) (qt (qq K) (pv 2) qf (λ_ _=>rfl)))
   (q18 (q65 (qw3 (q3n hr) (pv 3) (pv 1))) (qg qey) qx)
   (qfv (q3n hr) (pv 1) (pv 3) q4i rfl)))),?_⟩
  refine λD Z=>?_;have s1:=qc (o:=HO.dK []) Z;refine⟨_,zr,a,zr,⟨_,SqL.of (s1 _ _ ha)⟩,q1t (xs:=[.ref fp]) (λi σ G=>∃(v2 v3:Option V),σ=[some (.ref a),some (.ref D),v2,v3]/\Same H G/\(i=0->G D=some (.dK []))) ⟨none,none,zr,s1,λ_=>qb⟩ (λi σ G _ z=>?_) ?_ ?_⟩
  ·obtain⟨_,_,_,z,_⟩:=z;exact SqL.of (z _ _ ha)
  ·rintro i x σ G hx ⟨v2,v3,rfl,O,Y⟩;obtain rfl:i=0:=Nat.lt_one_iff.mp (z06.mp hx).1;cases hx
   have Y:=Y rfl;refine⟨_,zr,(.ref fp,g.nm,g.t,g.R),zr,⟨fp,q,zr,O _ _ hp,O _ _ hq⟩,⟨ok.nm,ok.pg.1,ok.pg.2.1,ok.pg.2.2⟩,λG1 s2=>⟨_,zr,q1y rfl ?_⟩⟩;have S2:=O.trans s2;have J:=s2 _ _ Y;refine⟨_,zr,_,_,_,_,zr,zr,SqT.of (S2 _ _ hp),ql (j:=0) rfl,?_⟩;refine⟨_,zr,_,zr,D,none,zr,DGet.k (k:= .inr g.nm) J,_,zr,q1y rfl ?_⟩;exact⟨_,rfl,_,rfl,D,_,rfl,DPut.k (k:= .inr g.nm) J (by decide),⟨_,_,rfl,S2.set Z,λz=>nomatch z⟩⟩
  ·rintro σ G ⟨v2,v3,rfl,O,_⟩;exact k G O
theorem Inp.same{g:Gx}{S:Sty}{H H':Hp}{a b:Addr}(h:Inp g S H a b)(s:Same H H'):Inp g S H' a b:=
 let ⟨fp,q,h1,h2,h3⟩:=h.fs
 let ⟨rs,h4,h5⟩:=h.rl
 ⟨⟨fp,q,s _ _ h1,s _ _ h2,s _ _ h3⟩,⟨rs,s _ _ h4,L2.Paired.mapP h5 λ_ _ ⟨r,e,z⟩=>⟨r,e,z.same s⟩⟩,h.na,h.nb⟩
def ql9(vs:List V)(H:Hp)(Q:V->Hp->Prop)(g:Gx)(S:Sty)(a b:Addr)(n:Nat):Prop:=vs=[.ref a,.ref b,.int n]/\Inp g S H a b/\g.Ok/\n<=5/\∀H',Same H H'->Q (.bl true) H'
inductive sp0_ok_vet (vs:List V) (H:Hp) (Q:VK) (_x3:XK):Prop
 | mk:∀(g:Gx) (S:Sty) (a:Addr) (b:Addr) (n:Nat),(ql9 vs H Q g S a b n)->sp0_ok_vet vs H Q _x3
def qxb(T:Txt K mg):Def P w K mg base 9 "vet" ["facts","rules","rounds"] (sp0_ok_vet):=by
 refine T.t_vet.ok qwv (λvs H Q E h=>?_) λf cdv A outer s H vs Q E hr h=>?_
 ·obtain⟨g,S,a,b,n,rfl,_⟩:=h;rfl
 ·obtain⟨g,S,a,b,n,rfl,Y,ok,n5,k⟩:=h;refine⟨_,(q4k
   (q1g (qh (qk4 T) hr rfl (pa_1 (pv 0))))
   (q18 (q33 (q1z (qw (q2z rfl K) rfl T.b_all q5g (pa_1 (q1a (N:=["rule"]) (caps:=[none]) rfl (by with_unfolding_all rfl) (q11 K (pv 1)) (λ_ _ _ _ _=>(qi (i:=0) (show (["rule"]:xD).Nodup by decide+kernel) rfl (Or.inl rfl))) (λ_ _ _ _ _=>q1r) (λ_ _ _ _ _=>(qh (qo4 T) hr rfl (pa_1 (pv 0))))))))) (qg qey) qx)
   (q18 (PW.pt (qag (q33 (q1z (qh (q73 T) hr rfl (pa_1 (pv 2))))) (q9z (q33 (qiq qeh qeh qf (pv 2) (q93 rfl T.qia)))))) (qg qey) qx)
   (qj q4i)),?_⟩
  refine⟨_,zr,g,S,a,b,zr,Y,ok,λH1 s1=>?_⟩;have m3:=ok.m3;obtain⟨rs,hb,Z⟩:=(Y.same s1).rl;have lrs:rs.length=g.tss.length:=by rw[Paired.length Z,z2h]
  refine⟨_,zr,b,zr,⟨_,SqL.of hb⟩,λD hD=>?_⟩;refine q1d rs.length (λi σ' J=>(∃v,σ'=[v])/\Same H1 J/\J D=some (.lst ((List.replicate i true).map V.bl))) ⟨⟨_,zr⟩,qc hD,qb⟩ (λi σ' J hi p=>?_) (λσ' J p=>⟨?_,?_⟩) (λi σ' J hi p x E3 y=>?_)
  ·exact⟨_,_,SqL.of (p.2.1 _ _ hb),z0b hi⟩
  ·exact⟨_,SqL.of (p.2.1 _ _ hb),z3j _⟩
  ·obtain⟨_,sm,e⟩:=p;refine⟨D,_,rfl,SqL.of e,_,rfl,q1y (by rw[qe3];rfl) ?_⟩;refine⟨_,zr,_,.int n,zr,.int n,_,zr,q1y rfl ?_⟩;refine⟨_,rfl,_,_,rfl,rfl,_,rfl,q3p (z2s (show (0:Int)<=(n:Int) by lia)) ?_⟩;exact⟨_,_,rfl,rfl,_,rfl,q1y (by rw[z2s (show (n:Int)<=5 by lia)];rfl) (k J (s1.trans sm))⟩
  ·obtain⟨⟨v,rfl⟩,sm,e⟩:=p;obtain⟨rfl,hy⟩:=y;have a3:=hy _ (SqL.of (sm _ _ hb));obtain⟨kx,O,b',rfl,a1⟩:=q2m Z a3;rw[z1m]at O;obtain⟨ts,a2,rfl⟩:=z0n.mp O;refine⟨_,zr,b',_,_,ts,zr,a1.same sm,ok.one ts (z0x a2),λE4 s4=>?_⟩;refine⟨_,s4 _ _ e,?_,⟨_,zr⟩,(sm.trans s4).set hD,?_⟩
   ·rw[z2h,List.length_replicate];exact z1e (show i < 1000 by lia) (by decide)
   ·rw[qb,List.replicate_succ',z2n];rfl
def qcc(P:Program)(w:World)(mg:xE)(vs:List V)(H:Hp)(Q:V->Hp->Prop)(H0:Hp)(p dx m:Addr):Prop:=vs=[.ref p,.ref m]/\Same H0 H/\H0 p=none/\H p=some (.ins (cA mg "Grove") dx [])/\∀fd H',Same H0 H'->H' p=some (.ins (cA mg "Grove") dx (grvF m fd))->H0 fd=none->DN P w H' fd []->Q .non H'
inductive sp0_ok_Grove_init (P:Program) (w:World) (mg:xE) (vs:List V) (H:Hp) (Q:VK) (_x3:XK):Prop
 | mk:∀(H0:Hp) (p:Addr) (dx:Addr) (m:Addr),(qcc P w mg vs H Q H0 p dx m)->sp0_ok_Grove_init P w mg vs H Q _x3
def qi5(T:Txt K mg):MDef P w K mg base 1 (cA mg "Grove") "__init__" ["self","makers"] (sp0_ok_Grove_init P w mg):=by
 refine T.qkg.ok qi3 (λvs H Q E h=>?_) λf cdv A outer s H vs Q E hr h=>?_
 ·obtain⟨H0,p,dx,m,rfl,_⟩:=h;rfl
 ·obtain⟨H0,p,dx,m,rfl,s0,J,hp,k⟩:=h;refine⟨_,(q1x
   (q1h (pv 0) (pv 1) rfl)
   (q1h (pv 0) (q6s (P:=P) (w:=w)) rfl)),?_⟩
  refine⟨_,zr,_,zr,?_⟩;refine q1j [] s0 J hp T.q2g T.q71 (by show 0 < 1000;decide) rfl rfl λH1 S1 O _=>?_;refine λD oD Y dD=>?_;have s2:=qc (o:=oD) Y;have Dp:D≠p:=λz=>by rw[z,O]at Y;cases Y
  refine⟨_,zr,?_⟩;refine q1j ["makers"] (S1.trans s2) J (s2 _ _ O) T.q2g T.q5l (by show 1 < 1000;decide) rfl (by decide+kernel) λH3 S3 Z k3=>?_;exact k D H3 S3 Z (S1.free Y) (qaa dD Dp k3)
def noS:Sty:=λ_=>none
def qqi(mg:xE)(vs:List V)(H:Hp)(Q:V->Hp->Prop)(E:XK)(g:Gx)(fa rb q:Addr)(n:Nat):Prop:=vs=[.ref fa,.ref rb,.int n,.str g.t,.ref q]/\Inp g noS H fa rb/\g.Ok/\n<=5/\H q=some (.tup (g.R.map kV))/\
 (cnt g.tss.length n<=100->∀L xs H',Same H H'->H' L=some (.lst xs)->Paired (λx u=>TrV H' g.nm g.R u x) xs (trs g.tss.length n)->Q (.ref L) H')/\(100 < cnt g.tss.length n->∀H',Same H H'->E (.ref (cA mg "TooMuch")) none H')
inductive sp_trees (mg:xE) (vs:List V) (H:Hp) (Q:VK) (E:XK):Prop
 | mk:∀(g:Gx) (fa:Addr) (rb:Addr) (q:Addr) (n:Nat),(qqi mg vs H Q E g fa rb q n)->sp_trees mg vs H Q E
def qhm(T:Txt K mg):DefE P w K mg base 36 "trees" ["facts","rules","rounds","table","row"] (sp_trees mg):=by
 refine T.qvh.okE qe1 (λvs H Q E h=>?_) λf cdv A outer s H vs Q E hr h=>?_
 ·obtain⟨g,fa,rb,q,n,rfl,_⟩:=h;rfl
 ·obtain⟨g,fa,rb,q,n,rfl,a2,ok,n5,hq,kq,ke⟩:=h;have e4:MDef P w K mg base 34 (cA mg "Grove") "trees_at" ["self","number","pair"] (sp_at P w mg n):=MDef.mono (qo2 T n) (by lia);have E0:Ex P w mg g noS H noS H:=Ty.ex λ_ _ h=>nomatch h;refine⟨_,(qsy
   (q1g (qh (qxb T) hr rfl (pa_3 (pv 0) (pv 1) (pv 2))))
   (qm (i:=5) qe1.nd rfl (Or.inl rfl) (q1u (qna rfl K) rfl T.qfh qco (pa_1 (q1a (N:=["fact"]) (caps:=[none]) rfl (by with_unfolding_all rfl) (q11 K (pv 0)) (λ_ _ _ _ _=>(qi (i:=0) (show (["fact"]:xD).Nodup by decide+kernel) rfl (Or.inl rfl))) (λ_ _ _ _ _=>q1r) (λ_ _ _ _ _=>(q13 (pa_2 (qt (qq K) (pv 0) qf (λ_ _=>rfl)) qf)))))))
   (qm (i:=6) qe1.nd rfl (Or.inl rfl) (qh (qca T) hr rfl (pa_5 (pv 0) (pv 1) (pv 2) (qj0 T.qhp T.qhq T.qhs rfl T.qkj) (pv 5))))
   (q18 (q14 q7r (qdt (P:=P) (w:=w) hr.units (qt (q27 K) (pv 6) (pv 2) (λ_ _=>rfl)) (q13 (pa_2 (pv 3) (pv 4))) qf ⟨rfl,rfl,rfl,rfl⟩) (q93 rfl T.qk9) (q1c _)) (qg (qrt qug T.q7b.new T.qhr (pa_1 qbj))) qx)
   (qj (qz e4 T.q2g hr (q8c (qi5 T) T.qsi T.qsj hr rfl T.qvi (pa_1 (q8c (qgi T) T.qqp T.qqs hr rfl T.qsk (pa_4 (pv 0) (pv 1) (qj0 T.qhp T.qhq T.qhs rfl T.qkj) (pv 6))))) (pa_2 (pv 2) (q13 (pa_2 (pv 3) (pv 4))))))),?_⟩
  refine⟨_,zr,_,zr,_,zr,g,noS,fa,rb,n,zr,a2,ok,n5,λH1 s1=>?_⟩;obtain⟨fp,fq,ha,hp,_⟩:=(a2.same s1).fs;refine⟨_,zr,fa,zr,⟨_,SqL.of ha⟩,λD hD=>?_⟩;have sD:=qc (o:=HO.lst []) hD;refine q1d 1 (λi σ' E'=>(∃v,σ'=[v])/\Same H1 E'/\((i=0/\E' D=some (.lst []))\/ (i=1/\∃u,E' D=some (.lst [.ref u])/\E' u=some (.tup [.str g.nm,.int 1])))) ⟨⟨_,zr⟩,sD,.inl ⟨zr,qb⟩⟩ (λi σ' E' hi p=>?_) (λσ' E' p=>⟨?_,?_⟩) (λi σ' E' hi p x E3 y=>?_)
  ·exact⟨_,_,SqL.of (p.2.1 _ _ ha),z0b hi⟩
  ·exact⟨_,SqL.of (p.2.1 _ _ ha),z3j _⟩
  ·obtain⟨_,sm,⟨z,_⟩ | ⟨_,u,f0,hu⟩⟩:=p
   ·cases z
   ·refine⟨D,[.ref u],[(g.nm,.int 1)],zr,SqL.of f0,.cons ⟨u,zr,SqT.of hu⟩ .nil,λwd d0=>?_⟩;have s3:=qc (o:=HO.dK (q7u [(g.nm,V.int 1)] [])) d0;have e9:=qb (H:=E') (a:=wd) (o:=HO.dK (q7u [(g.nm,V.int 1)] []));have S3:=s1.trans (sm.trans s3);have g6:=(s1.trans sm).free d0;generalize upd E' wd (.dK (q7u [(g.nm,V.int 1)] []))=H3 at*;refine⟨_,zr,_,zr,_,zr,λo O no d2 _=>?_⟩;have s4:Same H3 (upd (upd H3 O (.own o)) o (.ins (cA mg "Counts") O [])):=(qc d2).set no;have f6:=qb (H:=upd H3 O (.own o)) (a:=o) (o:=HO.ins (cA mg "Counts") O []);have c4:=s4 _ _ e9;have E4:=(E0.same (S3.trans s4)).frz [];have f1:=q4v (S1:=noS) (ex:=[]) g6 rfl (λz=>nomatch z) c4 nofun;have f2:=q4v (S1:=noS) (ex:=[]) (S3.free no) rfl (λz=>nomatch z) f6 nofun;generalize upd (upd H3 O (.own o)) o (.ins (cA mg "Counts") O [])=H4 at*;generalize frz [] H noS H4=S4 at*;refine⟨_,zr,g,S4,fa,rb,o,wd,n,_,zr,E4.ty,a2.ex E4,ok,n5,⟨O,f2⟩,f1,?_,λS5 bl ds H5 d7 e5 e7 a5 lds c7=>?_⟩
    ·show valV (putK [] (Sum.inr g.nm) (V.int 1)) (.inr g.nm)=some (.int 1);rw[q6p,if_pos rfl]
    have E5:=E4.trans d7;obtain⟨dn,c6⟩:∃d,ds[n]? =some d:=⟨_,z0b (by lia)⟩;obtain⟨_,_,c1⟩:=c7 n dn c6;refine⟨_,rfl,_,rfl,_,_,_,_,rfl,rfl,SqL.of a5,ql (j:=n) (by rw[z1m,c6];rfl),dn,rfl,⟨_,c1⟩,_,rfl,_,rfl,by show 2<=sizeLine;decide,λb hb=>?_⟩;have s6:=qc (o:=HO.tup [V.str g.t,.ref q]) hb;have e6:=qb (H:=H5) (a:=b) (o:=HO.tup [V.str g.t,.ref q]);generalize upd H5 b (.tup [V.str g.t,.ref q])=H6 at*;have E6:=E5.same s6;refine⟨b,_,pN (g.t,g.R),zr,c1.same s6,pr_at.mpr ⟨q,e6,E6.tup hq⟩,q6h ok.pg,?_⟩;rw[valP,q15 (p:=((g.t,g.R),V.int (cnt g.tss.length n))) rfl];refine⟨_,_,zr,zr,_,zr,?_⟩;by_cases l:100 < cnt g.tss.length n
    ·exact q3p (z2s l) ⟨by show 1<=sizeLine;decide,ke l _ λa o h=>E6.st a o rfl h⟩
    ·refine q1y (z2d l) ?_;refine⟨_,zr,_,zr,λo2 J d6 d1 _=>?_⟩;have s7:Same H6 (upd (upd H6 J (.own o2)) o2 (.ins (cA mg "Counts") J [])):=(qc d1).set d6;have b5:=qb (H:=upd H6 J (.own o2)) (a:=o2) (o:=HO.ins (cA mg "Counts") J []);have E7:=E6.same s7;generalize upd (upd H6 J (.own o2)) o2 (.ins (cA mg "Counts") J [])=H7 at*;refine⟨_,zr,λmp mdx b7 d5 _=>⟨g,S5,H7,mp,mdx,fa,rb,o2,bl,zr,(qc d5).set b7,b7,qb,a2.ex E7,ok,λnd nl sb H8 s8 b3 c8 c0 c9 b4 a9 f8=>⟨zr,?_⟩⟩⟩;refine λgp b0 b6 d4 _=>⟨H8,gp,b0,mp,zr,(qc d4).set b6,b6,qb,λfd Z Y a6 a1 b9=>⟨zr,?_⟩⟩;have E8:=E7.same s8;have E9:=E8.same Y;have a3:=s6.trans (s7.trans (s8.trans Y));refine⟨gp,b0,_,rfl,a6,rfl,_,rfl,_,rfl,_,rfl,by show 2<=sizeLine;decide,λpr f7=>?_⟩;obtain⟨φ,hφ⟩:∃φ,Z fd=some (.ext φ):=let ⟨_,e,_⟩:=b9;⟨_,e⟩
     obtain⟨ψ,hψ⟩:∃φ,H8 nd=some (.ext φ):=let ⟨_,e,_⟩:=c0;⟨_,e⟩
     have ne:∀{c d:Addr} {o o':HO},Z c=some o->Z d=some o'->o≠o'->c≠d:=λh1 h2 n z=>n (by rw[z,h2]at h1;injection h1 with h1;exact h1.symm);have fs:=Y _ _ f8;have fz:∀{c o},H5 c=none->Z c=some o->c≠sb->c≠fd->(∀ys,o≠ .tup ys)->frz [sb,fd] H S5 Z c=some (.cst o):=λn e b1 b2 nt=>q4v (E5.free n) (E5.ty.fresh n) (by simp[b1,b2]) e nt;have a8:=s6.trans s7;have nD:=Y _ _ hψ;have F1:=fz (a8.free b7) (Y _ _ b3) (ne (Y _ _ b3) fs nofun) (ne (Y _ _ b3) hφ nofun) nofun;have F2:=fz (s6.free d6) ((s8.trans Y) _ _ b5) (ne ((s8.trans Y) _ _ b5) fs nofun) (ne ((s8.trans Y) _ _ b5) hφ nofun) nofun;have F3:frz [sb,fd] H S5 Z bl=some (.cst (.lst (ds.map V.ref))):=q4v (E4.free e5) e7 (by simp[ne (a3 _ _ a5) fs nofun,ne (a3 _ _ a5) hφ nofun]) (a3 _ _ a5) nofun;have F4:=fz (a8.free c8) nD (ne nD fs nofun) (λz=>by rw[z,a1]at hψ;cases hψ) nofun;have F5:=fz (a8.free c9) (Y _ _ b4) (ne (Y _ _ b4) fs nofun) (ne (Y _ _ b4) hφ nofun) nofun;have F6:=fz ((a8.trans s8).free b6) a6 (ne a6 fs nofun) (ne a6 hφ nofun) nofun;have ns:frz [sb,fd] H S5 Z sb=none:=q3t (E7.ty.fresh a9) (.inl (by simp));have nf:frz [sb,fd] H S5 Z fd=none:=q3t (E8.ty.fresh a1) (.inl (by simp));have X9:=E9.frz [sb,fd];have U9:∀c σ,S5 c=some σ->frz [sb,fd] H S5 Z c=some σ:=λc σ h=>q6j h;generalize frz [sb,fd] H S5 Z=S9 at*;have u1:=q32 (τ:= .beh) ns;have d9:=X9.new .beh (E7.free a9) ns ⟨[],fs,z2w,λ_ z=>nomatch z⟩;have d3:putS S9 sb .beh fd=none:=by rw[q22 (ne hφ fs nofun)];exact nf
     have u2:=q32 (τ:= .fnd) d3;have e0:=d9.new .fnd (E8.free a1) d3 ⟨[],b9,z2w,λ_ z=>nomatch z⟩;have ts:=u2 _ _ (q2c (S:=S9) (a:=sb) (τ:= .beh));have tf:=q2c (S:=putS S9 sb .beh) (a:=fd) (τ:= .fnd);have U:∀c σ,S9 c=some σ->_:=λc σ h=>u2 _ _ (u1 _ _ h);generalize putS (putS S9 sb .beh) fd .fnd=b8 at*;have a7:=qc (o:=HO.tup [V.str g.t,.ref q]) f7;have e8:=qb (H:=Z) (a:=pr) (o:=HO.tup [V.str g.t,.ref q]);generalize upd Z pr (.tup [V.str g.t,.ref q])=d8 at*;have a4:=e0.same a7;have m:Mk P w mg g b8 d8 ⟨mp,mdx,fa,rb,o2,bl,nd,nl,sb,ds⟩:=⟨U _ _ F1,a2.ex a4,⟨J,U _ _ F2⟩,U _ _ F3,⟨_,U _ _ F4,c0.same (Y.trans a7)⟩,U _ _ F5,ts,λi d hd=>(c7 i d hd).mono (λc σ h=>U _ _ (U9 _ _ h)) (λ_ _ e=>(a3.trans a7) _ _ e) λc o h=>by rw[E5.ty.cst h];exact(a3.trans a7) _ _ (E5.ty.cst h)⟩;refine⟨g,b8,⟨⟨mp,mdx,fa,rb,o2,bl,nd,nl,sb,ds⟩,gp,b0,fd⟩,pr,rfl,⟨a4.ty,ok,m,U _ _ F6,tf⟩,by show n<=ds.length;lia,n5,pr_at.mpr ⟨q,e8,a4.tup hq⟩,λS' L H' X hL=>?_⟩;obtain⟨xs,f9,px⟩:=X.ty L _ hL;exact kq (by lia) L xs H' (λa o h=>(a4.trans X).st a o rfl h) f9 px
  ·obtain⟨⟨v,rfl⟩,sm,⟨rfl,c5⟩ | ⟨rfl,_⟩⟩:=p
   ·obtain⟨rfl,hy⟩:=y;have g0:=hy _ (SqL.of (sm _ _ ha));cases g0
    refine⟨_,rfl,_,_,_,_,rfl,rfl,SqT.of (sm _ _ hp),ql (j:=0) rfl,by show 2<=sizeLine;decide,λu hu=>?_⟩;have s4:=qc (o:=HO.tup [V.str g.nm,.int 1]) hu;have uD:u≠D:=λz=>by rw[z,c5]at hu;cases hu
    refine⟨_,s4 _ _ c5,by show 0 < _;decide,⟨_,rfl⟩,(sm.trans s4).set hD,.inr ⟨rfl,u,qb,?_⟩⟩;rw[qk uD];exact qb
   ·exact absurd hi (z34 1)
def small1000{n:Nat}(h:n < 1000):n < sizeLine:=z1e h (by decide)
def sev:Str:="7"
def qva{n:Int}(h0:0<=n)(h8:n<=8):Wz 8 (repS sev n):=by
 have:∀k:Nat,k<=8->(repS sev (k:Int)).length<=8/\∀c∈(repS sev (k:Int)).cps.toList,c∈fur.cps.toList:=by decide+kernel
 obtain⟨k,rfl⟩:=z0j h0;exact this k (by lia)
def qvb(d:Nat):(⟨#[d]⟩:Str).length<=1:=z3j _
def qxc(c:Int){m:Int}(h0:0 < m)(h1:m<=36):∃d,atI fur.cps.toList (c%m)=some d/\d∈fur.cps.toList:=
 qp2 (z2r _ (by lia)) (by rw[q20,qa8];have:=z1h c h0;lia)
def qsa:fur.length<=sizeLine:=by rw[qa8];decide
def qya(x:Int):∃d,atI fur.cps.toList (x%26)=some d/\d∈smaS.cps.toList:=by
 have all:∀k:Nat,k < 26->fur.cps.toList.getD k 0∈smaS.cps.toList:=by decide+kernel
 obtain⟨d,hd,hm⟩:=qp2 (xs:=fur.cps.toList) (i:=x%26) (z2r _ (by decide)) (by rw[q20,qa8];have:=z1h x (show (0:Int) < 26 by decide);lia);refine⟨d,hd,?_⟩;obtain⟨n,hn⟩:=z0j (z2r x (show (26:Int)≠0 by decide));have O:n < 26:=by
  have:=z1h x (show (0:Int) < 26 by decide)
  lia
 have h:=all n O;rw[hn]at hd;have J:fur.cps.toList[n]? =some d:=by
  have hl:n < fur.cps.toList.length:=by rw[q20,qa8];lia
  have h2:=ql (xs:=fur.cps.toList) (z0b hl);rw[h2]at hd;rw[z0b hl];exact hd
 rw[z05,J]at h;exact h
def cut7{z y:Str}:(cutS (z++y) none (some 12)).cps.toList=(z.cps.toList++y.cps.toList).take 12:=by
 unfold cutS;rw[HT.sIx_none,List.drop_zero,show (some 12:Option Int)=some ((12:Nat):Int) from rfl,HT.sIx_nat,Nat.sub_zero,q8k];have J:(z++y).length=(z.cps.toList++y.cps.toList).length:=by rw[<- q20,q8k]
 rw[J];show List.take (min 12 _) _=_;rw[<- List.take_eq_take_min]
def qyb{z y:Str}{i n:Nat}(h:NmI smaS z i)(h0:i≠0)(hy:Wz n y):txtB smaS (cutS (z++y) none (some 12))=true:=by
  rcases h with ⟨e,_⟩ | ⟨c,r,e,hl,hc,hr⟩
  · exact absurd e h0
  · have e2:(cutS (z++y) none (some 12)).cps.toList=c::(r++y.cps.toList).take 11:=by
      rw[cut7,e];rfl
    refine qmh e2 (by rw[z1y];lia) hc λd hd=>?_;rcases z2c.mp (z0u hd) with h | h
    · exact hr d h
    · exact hy.2 d h
def sgA(c:Int):Int:=c / 12%(1+c%12)
def sgM(c:Int):Int:=26+10*(if decide ((0:Int) < sgA c)=true then 1 else 0)
def sgW(c:Int)(i:Nat):Nat:=(atI fur.cps.toList ((c / (144+13*sgA c)+sgA c*sgA c+i)%sgM c)).getD 0
def qqj(c:Int):sgM c=26\/ sgM c=36:=by
 unfold sgM;split
 ·exact .inr rfl
 ·exact .inl rfl
def qvc{c:Int}{i j:Nat}(hi:i < 9)(hj:j < 9)(e:sgW c i=sgW c j):i=j:=by
 have all:∀x y:Fin 36,fur.cps.toList.getD x.1 0=fur.cps.toList.getD y.1 0->x=y:=by decide+kernel
 have at_:∀x:Int,0<=x->x < 36->(atI fur.cps.toList x).getD 0=fur.cps.toList.getD x.toNat 0:=λx h0 h1=>by
  rw[qp3 h0 (by rw[q20,qa8];exact h1),z05]
 unfold sgW at e;generalize c / (144+13*sgA c)+sgA c*sgA c=b at e;have J:∀k:Nat,0<=(b+k)%sgM c/\(b+k)%sgM c < 36:=λk=>by
  rcases qqj c with h | h <;> rw[h] <;> lia
 rw[at_ _ (J i).1 (J i).2,at_ _ (J j).1 (J j).2]at e;have h:=all ⟨((b+i)%sgM c).toNat,by have:=(J i).2;have:=(J i).1;lia⟩ ⟨((b+j)%sgM c).toNat,by have:=(J j).2;have:=(J j).1;lia⟩ e;have h:((b+i)%sgM c).toNat=((b+j)%sgM c).toNat:=by injection h
 have hh:(b+i)%sgM c=(b+j)%sgM c:=by have:=(J i).1;have:=(J j).1;lia
 rcases qqj c with h | h <;> rw[h]at hh <;> lia
inductive sp_words (vs:List V) (H:Hp) (Q:VK) (_x3:XK):Prop
 | mk:∀(c:Int) (m:Int),(vs=[.int c,.int m])->(0<=m)->(m<=9)->(∀p (ws:xD) H',Same H H'->H' p=some (.lst (ws.map V.str))->ws.length=m.toNat->H p=none->(∀z∈ws,txtB smaS z=true)->ws.Nodup->Q (.ref p) H')->sp_words vs H Q _x3
def q7k(T:Txt K mg):Def P w K mg base 1 "_law_words" ["_law_cell","_law_many"] sp_words:=by
  refine T.qke.ok q1v (λvs H Q E h=>?_) λf cdv A outer s H vs Q E hr h=>?_
  · obtain⟨c,m,rfl,_⟩:=h
    rfl
  · obtain⟨c,m,rfl,m0,m9,k⟩:=h
    refine⟨_,(qn8
      (qm (i:=2) q1v.nd rfl (Or.inl rfl) qbj)
      (qm (i:=3) q1v.nd rfl (Or.inl rfl) (qy q2k qf (qy q5e (pv 0) qf)))
      (qm (i:=4) q1v.nd rfl (Or.inl rfl) (qy q5e (qy qa1 (pv 0) qf) (pv 3)))
      (qm (i:=5) q1v.nd rfl (Or.inl rfl) (q1f q1i))
      (q1k PassesOwn.never rfl (q3v rfl T.q63 (pa_1 (pv 1))) (qi (i:=6) q1v.nd rfl (Or.inl rfl)) (q3a
      (qm (i:=7) q1v.nd rfl (Or.inl rfl) qbj)
      (q1k PassesOwn.never rfl (q3v rfl T.q63 (pa_1 (pv 3))) (qi (i:=8) q1v.nd rfl (Or.inl rfl)) (q1x
      (qm (i:=9) q1v.nd rfl (Or.inl rfl) (qy q2k (qy q2k (qy qa1 (pv 0) (qy q2k qf (qy qbl qf (pv 8)))) (qy qbl (pv 8) (pv 8))) (qy qbl (pv 6) (q1u qgu rfl T.b_int qiy (pa_1 (q5x q4z (pv 8) (pv 4) (q1c _)))))))
      (qm (i:=7) q1v.nd rfl (Or.inl rfl) (qy qai (pv 7) (qt qoq (pv 2) (qy q5e (pv 9) (qy q2k qf (qy qbl qf (q1u qgu rfl T.b_int qiy (pa_1 (q5x q7r (pv 8) qf (q1c _))))))) (λ_ _=>rfl))))))
      (q1g (q4j z0i z0e z0f q2y (pv 5) (pa_1 (q34 qep (qy qai (pv 7) (qy qua qbj (qy qbl (pv 6) (qy q5e (qy qa1 (pv 0) qf) qf)))) q3r (q3s qf)))))))
      (qj (pv 5))),?_⟩
    have s0:=z2r c (show (12:Int)≠0 by decide);have s1:=z1h c (show (0:Int) < 12 by decide);have a0:0<=sgA c:=z2r _ (by lia);have a1:sgA c < 1+c%12:=z1h _ (by lia);refine⟨_,rfl,_,_,rfl,rfl,(by show (0:Int) < 12;decide),_,_,rfl,rfl,?_⟩;refine⟨_,rfl,_,_,rfl,rfl,⟨by decide,by decide⟩,_,rfl,_,_,rfl,rfl,(by show 0 < 1+c%12;lia),?_⟩;refine⟨by decide,λp hp=>?_⟩;have t0:=qc (o:=HO.lst []) hp;refine⟨_,rfl,_,rfl,by lia,by lia,q5w (lo:=0) (n:=m.toNat) (λi σ H'=>∃(v1 v2 v3 Z:Option V) (J:xD),σ=[some (.int c),some (.int m),some (.str fur),some (.int (1+c%12)),some (.int (c / 12%(1+c%12))),some (.ref p),v1,v2,v3,Z]/\Same H H'/\H' p=some (.lst (J.map V.str))/\J.length=i/\(∀z∈J,txtB smaS z=true)/\∀(n:Nat) (z:Str),J[n]? =some z->z.cps.toList[(sgA c).toNat]? =some (sgW c n)) ⟨none,none,none,none,[],rfl,t0,qb,rfl,(λ_ z=>nomatch z),λ_ _ z=>nomatch z⟩ ?_ ?_⟩
    · rintro i σ H1 hi ⟨v1,v2,v3,Z,J,rfl,sm,e,lw,hw,hn⟩
      refine⟨_,rfl,_,rfl,by lia,by lia,q5w (lo:=0) (n:=(1+c%12).toNat) (λj σ H'=>∃(v3 Z:Option V) (z:Str),σ=[some (.int c),some (.int m),some (.str fur),some (.int (1+c%12)),some (.int (c / 12%(1+c%12))),some (.ref p),some (.int (0+(i:Int))),some (.str z),v3,Z]/\H'=H1/\NmI smaS z j/\((sgA c).toNat < j->z.cps.toList[(sgA c).toNat]? =some (sgW c i))) ⟨_,_,"",rfl,rfl,.inl ⟨rfl,rfl⟩,λz=>nomatch z⟩ ?_ ?_⟩
      · rintro j σ H' hj ⟨v3,Z,z,rfl,rfl,Y,hz⟩
        have j12:j<=12:=by lia
        refine⟨_,rfl,_,rfl,_,_,rfl,rfl,.inl ⟨by decide,by decide⟩,_,_,rfl,rfl,_,_,rfl,rfl,⟨by show (0:Int) < 144+13*(0+(j:Int));lia,by show 144+13*(0+(j:Int)) < 1073741824;lia⟩,_,rfl,_,rfl,_,_,rfl,rfl,.inl ⟨by lia,by lia⟩,_,_,rfl,rfl,_,rfl,_,rfl,_,rfl,rfl,.inr ⟨_,rfl,_,_,rfl,rfl,.inl ⟨by lia,by lia⟩,_,_,rfl,rfl,?_⟩⟩;have hm:(0:Int) < 26+10*(if decide ((0:Int) < 0+(j:Int))=true then 1 else 0)/\26+10*(if decide ((0:Int) < 0+(j:Int))=true then 1 else 0)<=(36:Int):=by split <;> lia
        obtain⟨d,hd,a5,a4⟩:∃d,atI fur.cps.toList ((c / (144+13*(0+(j:Int)))+(0+(j:Int))*(0+(j:Int))+(0+(i:Int))*(if decide (V.int (0+(j:Int))=V.int (c / 12%(1+c%12)))=true then 1 else 0))%(26+10*(if decide ((0:Int) < 0+(j:Int))=true then 1 else 0)))=some d/\d∈fur.cps.toList/\(j=0->d∈smaS.cps.toList):=by
          by_cases O:j=0
          · have a3:(26+10*(if decide ((0:Int) < 0+(j:Int))=true then 1 else 0):Int)=26:=by
              rw[O];rfl
            rw[a3];obtain⟨d,h1,h2⟩:=qya (c / (144+13*(0+(j:Int)))+(0+(j:Int))*(0+(j:Int))+(0+(i:Int))*(if decide (V.int (0+(j:Int))=V.int (c / 12%(1+c%12)))=true then 1 else 0));exact⟨d,h1,qus d h2,λ_=>h2⟩
          · obtain⟨d,h1,h2⟩:=qxc (c / (144+13*(0+(j:Int)))+(0+(j:Int))*(0+(j:Int))+(0+(i:Int))*(if decide (V.int (0+(j:Int))=V.int (c / 12%(1+c%12)))=true then 1 else 0)) hm.1 hm.2
            exact⟨d,h1,h2,λz=>absurd z O⟩
        have a6:(sgA c).toNat=j->d=sgW c i:=λO=>by
          have O:(0+(j:Int))=sgA c:=by lia
          rw[O]at hd;have hb:decide (V.int (sgA c)=V.int (c / 12%(1+c%12)))=true:=z2s rfl;rw[hb,if_pos rfl,Int.zero_add,Int.mul_one]at hd;unfold sgW sgM;rw[hd];rfl
        refine⟨_,zr,_,zr,_,zr,_,zr,_,_,zr,zr,.inr ⟨_,zr,_,_,zr,zr,.inl ⟨by decide,by decide⟩,_,_,zr,zr,_,_,zr,zr,hm.1,_,_,d,zr,zr,qsa,hd,_,_,zr,zr,?_,?_⟩⟩
        · have:=Nat.le_of_eq Y.len
          exact z3d (Nat.add_le_add this (qvb d)) (z3d (show j+1<=1000 by lia) (by decide))
        · have lz:z.cps.toList.length=j:=by rw[q20];exact Y.len
          refine⟨_,_,_,zr,zr,?_,λlj=>?_⟩
          · by_cases O:j=0
            · subst O
              rcases Y with ⟨_,rfl⟩ | ⟨c',r,_,hl,_⟩
              · exact NmI.one (a4 rfl)
              · lia
            · exact Y.more O a5
          · rw[q8k]
            by_cases ea:(sgA c).toNat=j
            · rw[z04 (by lia),ea,lz,Nat.sub_self,a6 ea]
              rfl
            · rw[List.getElem?_append_left (by lia)]
              exact hz (by lia)
      · rintro σ H' ⟨v3,Z,z,rfl,rfl,Y,hz⟩
        have q0:=z2r (c / 5) (show (2:Int)≠0 by decide);have q1:=z1h (c / 5) (show (0:Int) < 2 by decide);have i9:(i:Int)<=8:=by lia
        have r0:0<=(0+(i:Int))*(c / 5%2):=Int.mul_nonneg (by lia) q0;have r8:(0+(i:Int))*(c / 5%2)<=8:=by
          rcases (show c / 5%2=0\/ c / 5%2=1 by lia) with h | h <;> rw[h] <;> lia
        have wr:=qva r0 r8;have a2:z.length+(repS sev ((0+(i:Int))*(c / 5%2))).length<=20:=by
          have:=Y.len;have:=wr.1
          lia
        refine⟨_,rfl,.inl ⟨rfl,_,SqL.of e⟩,_,rfl,_,rfl,_,rfl,_,_,rfl,rfl,⟨by decide,by decide⟩,_,_,rfl,rfl,(by show (0:Int) < 2;decide),_,_,rfl,rfl,.inl ⟨by lia,by lia⟩,sev,_,rfl,rfl,r0,by lia,by decide+kernel,z,_,rfl,rfl,z3d a2 (by decide),?_⟩;refine⟨_,rfl,_,rfl,by rw[qmg];exact z3d a2 (by decide),_,_,_,rfl,rfl,e,small1000 (by rw[z2h];lia),?_⟩;refine⟨_,_,_,_,J++ [cutS (z++repS sev ((0+(i:Int))*(c / 5%2))) none (some 12)],rfl,sm.set hp,by rw[qb,z2n];rfl,by rw[z1b,lw];rfl,λy hy=>?_,λn y hy=>?_⟩
        · rcases z2c.mp hy with hy | hy
          · exact hw y hy
          · rw[z1a.mp hy]
            exact qyb Y (by lia) wr
        · by_cases hl:n < J.length
          · rw[List.getElem?_append_left hl]at hy
            exact hn n y hy
          · have en:n=i:=by
              have:=(z06.mp hy).1;rw[z1b]at this;have:n < J.length+1:=this
              lia
            subst en;rw[z04 (by lia),lw,Nat.sub_self]at hy;cases hy
            have lz:z.cps.toList.length=(1+c%12).toNat:=by rw[q20];exact Y.len
            rw[cut7,List.getElem?_take,if_pos (by lia),List.getElem?_append_left (by lia)];exact hz (by lia)
    · rintro σ H1 ⟨v1,v2,v3,Z,J,rfl,sm,e,lw,hw,hn⟩
      refine⟨_,zr,k p J _ sm e lw hp hw ?_⟩;refine z07.mpr λa b ha hb lab z=>?_;have h1:=hn a _ (z0b ha);have h2:=hn b _ (z0b hb);rw[z,h2]at h1;injection h1 with h1;have:=qvc (by lia) (by lia) h1
      lia
inductive sp_lrow (K:xA) (vs:List V) (H:Hp) (Q:VK) (_x3:XK):Prop
 | mk:∀(a:Addr) (ns:List Int),(vs=[.ref a])->(SqL K H a (ns.map V.int))->(∀q (R:List Key) H',Same H H'->H' q=some (.tup (R.map kV))->R.length<=4->(∀k∈R,GoodK k)->Q (.ref q) H')->sp_lrow K vs H Q _x3
def qla(T:Txt K mg):Def P w K mg base 2 "_law_row" ["_law_script"] (sp_lrow K):=by
 refine T.qob.ok q5h (λvs H Q E h=>?_) λf cdv A outer s H vs Q E hr h=>?_
 ·obtain⟨a,ns,rfl,_⟩:=h;rfl
 ·obtain⟨a,ns,rfl,ha,k⟩:=h;refine⟨_,(q3a
   (qm (i:=1) q5h.nd rfl (Or.inl rfl) (q1f q1i))
   (q1k PassesOwn.never rfl (q3v rfl T.q63 (pa_1 (qy q5e (qh (q2p T) hr rfl (pa_2 (pv 0) qf)) qf))) (qi (i:=2) q5h.nd rfl (Or.inl rfl)) (q3a
   (qm (i:=3) q5h.nd rfl (Or.inl rfl) (qh (q2p T) hr rfl (pa_2 (pv 0) (qy q2k qf (pv 2)))))
   (qm (i:=4) q5h.nd rfl (Or.inl rfl) (qy q5e (qy qa1 (pv 3) qf) (qy qvy qf qf)))
   (q1g (q4j z0i z0e z0f q2y (pv 1) (pa_1 (qt (q27 K) (q1f (pa_3 (pv 4) (qt (q27 K) (qh (q7k T) hr rfl (pa_2 (qy qa1 (pv 3) qf) qf)) qf (λ_ _=>rfl)) (qy qa0 qf (pv 4)))) (qy q5e (pv 3) qf) (λ_ _=>rfl)))))))
   (qj (q1u (q49 K) rfl T.q52 q3z (pa_1 (pv 1))))),?_⟩
  refine⟨by decide,λL hL=>?_⟩;have s1:=qc (o:=HO.lst []) hL;have m0:=z2r (ns.getD (0:Int).toNat 0) (show (5:Int)≠0 by decide);have m1:=z1h (ns.getD (0:Int).toNat 0) (show (0:Int) < 5 by decide);refine⟨_,rfl,a,ns,0,rfl,s1.seq ha,by decide,_,_,rfl,rfl,(by show (0:Int) < 5;decide),_,rfl,by lia,by lia,q5w (lo:=0) (n:=(ns.getD (0:Int).toNat 0%5).toNat) (λi σ H'=>∃(v1 v2 v3:Option V) (R:List Key),σ=[some (.ref a),some (.ref L),v1,v2,v3]/\Same H H'/\H' L=some (.lst (R.map kV))/\R.length=i/\∀k∈R,GoodK k) ⟨none,none,none,[],rfl,s1,qb,rfl,λ_ z=>nomatch z⟩ ?_ ?_⟩
  ·rintro i σ H1 hi ⟨v1,v2,v3,R,rfl,Y,J,lR,gR⟩;refine⟨_,zr,_,zr,_,_,zr,zr,a,ns,_,zr,Y.seq ha,by lia,?_⟩;generalize ns.getD (1+(0+(i:Int))).toNat 0=c;refine⟨_,rfl,_,_,rfl,rfl,⟨by decide,by decide⟩,_,_,rfl,rfl,⟨by decide,by decide,by decide⟩,_,_,rfl,rfl,(by show (0:Int) < 10^30;decide),?_⟩;refine⟨_,zr,.inl ⟨zr,_,SqL.of J⟩,_,zr,_,zr,_,_,zr,zr,⟨by decide,by decide⟩,_,1,zr,by decide,by decide,λp ws H2 s2 hp lw _ gw _=>?_⟩;obtain⟨z,rfl⟩:∃z,ws=[z]:=by
    match ws,lw with
    | [z],_=>exact⟨z,rfl⟩
   refine⟨_,_,_,_,rfl,rfl,SqL.of hp,ql (j:=0) rfl,_,rfl,_,_,rfl,rfl,by show 3<=sizeLine;decide,λd hd=>?_⟩;have s3:=qc (o:=HO.lst [V.int (c / 3%10^(30:Int).toNat),V.str z,V.int (0 - c / 3%10^(30:Int).toNat)]) hd;obtain⟨v,Z,kk,rfl,gk⟩:∃v,atI [V.int (c / 3%10^(30:Int).toNat),V.str z,V.int (0 - c / 3%10^(30:Int).toNat)] (c%3)=some v/\∃kk,v=kV kk/\GoodK kk:=by
    rcases (show c%3=0\/ c%3=1\/ c%3=2 by lia) with e | e | e <;> rw[e]
    ·exact⟨_,zr,.inl _,zr,trivial⟩
    ·exact⟨_,zr,.inr z,zr,gw z (z1a.mpr rfl)⟩
    ·exact⟨_,zr,.inl _,zr,trivial⟩
   refine⟨_,rfl,_,_,rfl,rfl,(by show (0:Int) < 3;decide),_,_,_,_,rfl,rfl,SqL.of qb,Z,_,_,_,rfl,rfl,s3 _ _ (s2 _ _ J),small1000 (by rw[z2h];lia),?_⟩;refine⟨_,_,_,R++ [kk],rfl,(Y.trans (s2.trans s3)).set hL,by rw[qb,z2n];rfl,by rw[z1b,lR];rfl,λx O=>?_⟩;rcases z2c.mp O with O | O
   ·exact gR x O
   ·rw[z1a.mp O];exact gk
  ·rintro σ H1 ⟨v1,v2,v3,R,rfl,Y,J,lR,gR⟩;exact⟨_,zr,_,_,zr,.inl ⟨SqL.of J,λp hp=>k p R _ (Y.trans (qc hp)) qb (by lia) gR⟩⟩
def upF(z:Str):Str:=Txt.upper (cutS z none (some 1))++cutS z (some 1) none
def qgl{z:Str}{c:Nat}{r:List Nat}(e:z.cps.toList=c::r):(cutS z none (some 1)).cps.toList=[c]:=by
 have hl:z.length=r.length+1:=by rw[<- q20,e];rfl
 unfold cutS;rw[HT.sIx_none,List.drop_zero,show (some 1:Option Int)=some ((1:Nat):Int) from rfl,HT.sIx_nat,Nat.sub_zero,e,hl,Nat.min_eq_left (by lia)];rfl
def qvd:∀c∈smaS.cps.toList,c < 128:=by decide+kernel
def qxd{z:Str}{c:Nat}{r:List Nat}(e:z.cps.toList=c::r)(hc:c∈smaS.cps.toList):(Txt.upper (cutS z none (some 1))).cps.toList=[PyProof.Rows.up1 c]:=by
 rw[PyProof.Rows.upper_ascii (λd hd=>by rw[qgl e]at hd;rw[z1a.mp hd];exact qvd c hc),Array.toList_map,qgl e];rfl
def qea{z:Str}{c:Nat}{r:List Nat}(e:z.cps.toList=c::r)(hc:c∈smaS.cps.toList):(upF z).cps.toList=PyProof.Rows.up1 c::r:=by
 unfold upF;rw[q8k,qjo (by rw[<- q20,e];exact z28 (z3m _)),e,qxd e hc];rfl
def qxe:∀c∈smaS.cps.toList,PyProof.Rows.up1 c∈capS.cps.toList:=by decide+kernel
def qxf:∀c∈smaS.cps.toList,∀d∈smaS.cps.toList,PyProof.Rows.up1 c=PyProof.Rows.up1 d->c=d:=by decide+kernel
def qk5{z:Str}(h:txtB smaS z=true):txtB capS (upF z)=true:=by
 obtain⟨_,h2,c,r,e,J,hr⟩:=q2e h;exact qmh (qea e J) (by have:=q20 z;rw[e,z20]at this;lia) (qxe c J) hr
def qve{z y:Str}(hz:txtB smaS z=true)(hy:txtB smaS y=true)(e:upF z=upF y):z=y:=by
 obtain⟨_,_,c,r,e1,J,_⟩:=q2e hz;obtain⟨_,_,d,s,e2,hd,_⟩:=q2e hy;have h:(upF z).cps.toList=(upF y).cps.toList:=by rw[e]
 rw[qea e1 J,qea e2 hd]at h;injection h with h1 h2;have h3:z.cps.toList=y.cps.toList:=by rw[e1,e2,qxf c J d hd h1,h2]
 cases z
 cases y
 exact congrArg Str.mk (Array.toList_inj.mp h3)
def qqk(vs:List V)(H:Hp)(Q:V->Hp->Prop)(t:Str)(q:Addr)(R:List Key)(c:Int):Prop:=vs=[.str t,.ref q,.int c]/\H q=some (.tup (R.map kV))/\R.length<=4/\(∀k∈R,GoodK k)/\txtB smaS t=true/\∀b ts H',Same H H'->NAt H' (rK t ts) (.ref b)->One t R ts->Q (.ref b) H'
inductive sp_lrule (vs:List V) (H:Hp) (Q:VK) (_x3:XK):Prop
 | mk:∀(t:Str) (q:Addr) (R:List Key) (c:Int),(qqk vs H Q t q R c)->sp_lrule vs H Q _x3
def qk6(T:Txt K mg):Def P w K mg base 2 "_law_rule" ["_law_table","_law_row_here","_law_cell"] sp_lrule:=by
 refine T.qli.ok q8j (λvs H Q E h=>?_) λf cdv A outer s H vs Q E hr h=>?_
 ·obtain⟨t,q,R,c,rfl,_⟩:=h;rfl
 ·obtain⟨t,q,R,c,rfl,hq,l4,gR,ht,k⟩:=h;refine q80 2 (λσ G=>∃(a:Addr) (ts:List Key),σ=[some (.str t),some (.ref q),some (.int c),some (.ref a)]/\Same H G/\G a=some (.tup (ts.map kV))/\One t R ts) ⟨_,(qg (qj (q13 (pa_3 (q13 (pa_2 (pv 0) (pv 3))) (q13 (pa_1 (q13 (pa_2 (pv 0) (pv 3))))) (q13 q1i))))),?_⟩ (λu hu hC=>⟨_,(qsz
   (qm (i:=3) q8j.nd rfl (Or.inl rfl) (q1u (q49 K) rfl T.q52 q3z (pa_1 (q1a (N:=["_law_word"]) (caps:=[none]) rfl (by with_unfolding_all rfl) (q11 K (q34 (qrf K) (qh (q7k T) hr rfl (pa_2 (pv 2) qf)) q3r (q3s (qw (q1o K) rfl T.b_len q2a (pa_1 (pv 1)))))) (λ_ _ _ _ _=>(qi (i:=0) (show (["_law_word"]:xD).Nodup by decide+kernel) rfl (Or.inl rfl))) (λ_ _ _ _ _=>q1r) (λ_ _ _ _ _=>(qy qai (qub K PySem.F.plainAttrs_str PySem.F.slot_str_upper PySem.F.type_str_upper qrh (q34 qep (pv 0) q3r (q3s qf))) (q34 qep (pv 0) (q3s qf) q3r)))))))
   (q18 (q14 q4z (qy q5e (pv 2) qf) qf (q1c _)) (qg (qm (i:=3) q8j.nd rfl (Or.inl rfl) (pv 1))) qx)
   hu),?_⟩)
  ·rintro σ G ⟨a,ts,rfl,Y,ha,o⟩;refine⟨_,rfl,_,rfl,by show 2<=sizeLine;decide,λp hp=>⟨_,rfl,_,rfl,by show 2<=sizeLine;decide,λp2 a4=>⟨by show 1<=sizeLine;decide,λl hl=>⟨by show 0<=sizeLine;decide,λc0 a3=>⟨by show 3<=sizeLine;decide,λb hb=>?_⟩⟩⟩⟩⟩;have s1:=qc (o:=HO.tup [V.str t,.ref a]) hp;have s2:=qc (o:=HO.tup [V.str t,.ref a]) a4;have s3:=qc (o:=HO.tup [V.ref p2]) hl;have s4:=qc (o:=HO.tup []) a3;have s5:=qc (o:=HO.tup [V.ref p,.ref l,.ref c0]) hb;have O:=s3.trans (s4.trans s5);have a1:=(s1.trans (s2.trans O)) _ _ ha;exact k b ts _ (Y.trans (s1.trans (s2.trans O))) (ru_at.mpr ⟨p,l,c0,p2,qb,pr_at.mpr ⟨a,(s2.trans O) _ _ qb,a1⟩,(s4.trans s5) _ _ qb,pr_at.mpr ⟨a,O _ _ qb,a1⟩,s5 _ _ qb⟩) o
  ·refine⟨_,zr,c,4,zr,by decide,by decide,λp J H1 s1 hp lw hp0 gw nd=>?_⟩;have lw:J.length=4:=lw;refine⟨_,zr,_,_,zr,.inr ⟨_,SqT.of (s1 _ _ hq),zr⟩,_,zr,_,_,zr,SqL.of hp,λb hb=>?_⟩;have e1:cutV (J.map V.str) none (some ((R.map kV).length:Int))=(J.take R.length).map V.str:=by
    unfold cutV;rw[HT.sIx_none,List.drop_zero,HT.sIx_nat,Nat.sub_zero,z2h,z2h,List.map_take,Nat.min_eq_left (by lia)]
   rw[e1];have s2:=qc (o:=HO.lst ((J.take R.length).map V.str)) hb;have eb:=qb (H:=H1) (a:=b) (o:=HO.lst ((J.take R.length).map V.str));have S2:=s1.trans s2;generalize upd H1 b (.lst ((J.take R.length).map V.str))=H2 at*;have gv:∀z∈J.take R.length,txtB smaS z=true:=λz hz=>gw z (z0u hz);have nv:(J.take R.length).Nodup:=nd.sublist (List.take_sublist _ _);have lv:(J.take R.length).length=R.length:=by rw[z1y];lia
   generalize J.take R.length=zs at*;refine⟨b,zr,⟨_,SqL.of eb⟩,λD hD=>?_⟩;refine q1d (zs.map V.str).length (λi σ' Z=>(∃v,σ'=[v])/\Same H2 Z/\Z D=some (.lst (((zs.take i).map λz=>(Sum.inr (upF z):Key)).map kV))) ⟨⟨_,zr⟩,qc hD,qb⟩ (λi σ' Z hi p=>?_) (λσ' Z p=>⟨?_,?_⟩) (λi σ' Z hi p x E3 y=>?_)
   ·exact⟨_,_,p.2.1.seq (SqL.of eb),z0b hi⟩
   ·exact⟨_,p.2.1.seq (SqL.of eb),z3j _⟩
   ·obtain⟨_,Y,e⟩:=p;rw[z2h,z2b]at e;refine⟨_,_,zr,.inl ⟨SqL.of e,λa ha=>?_⟩⟩;have s3:=qc (o:=HO.tup ((zs.map λz=>(Sum.inr (upF z):Key)).map kV)) ha;have S3:=S2.trans (Y.trans s3);refine⟨_,rfl,_,_,rfl,rfl,(by show (0:Int) < 3;decide),rfl,_,rfl,ite2 (λ_=>?_) (λ_=>?_)⟩
    ·exact⟨_,zr,hC _ _ ⟨q,R,zr,S3,S3 _ _ hq,ht,gR,l4,.inl rfl⟩⟩
    ·refine hC _ _ ⟨a,_,rfl,S3,qb,ht,gR,l4,.inr ⟨by rw[z2h];exact lv,?_,λx hx=>?_⟩⟩
     ·refine List.pairwise_map.mpr (nv.imp_of_mem λhx hy ne z=>?_);injection z with z;exact ne (qve (gv _ hx) (gv _ hy) z)
     ·obtain⟨z,hz,rfl⟩:=z3h.mp hx;exact qk5 (gv z hz)
   ·obtain⟨⟨v,rfl⟩,Y,e⟩:=p;obtain⟨rfl,hx⟩:=y;have a2:=hx _ (Y.seq (SqL.of eb));rw[z1m]at a2;obtain⟨z,hz,rfl⟩:=z0n.mp a2;have gz:=gv z (z0x hz);obtain⟨_,a5,c1,r,ez,hc1,_⟩:=q2e gz;have zl:z.length<=sizeLine:=z3d a5 (by decide);have e1:(cutS z none (some 1)).length=1:=by rw[<- q20,qgl ez];rfl
    refine⟨_,rfl,_,rfl,z,rfl,zl,rfl,_,rfl,rfl,by rw[e1];decide,_,rfl,_,rfl,z,rfl,zl,_,_,rfl,rfl,?_,?_⟩
    ·show (Txt.upper (cutS z none (some 1))).length+(cutS z (some 1) none).length<=sizeLine;rw[<- qmg];have:(upF z).length<=12:=(q2e (qk5 gz)).2.1;exact z3d this (by decide)
    refine⟨_,e,small1000 (by rw[z2h,z2h,z1y];lia),⟨_,rfl⟩,Y.set hD,?_⟩;rw[qb,z2x,hz,z2n,z2n];rfl
theorem qmn{m:Nat}:∀{n:Nat} {u:List Nat},u.length<=n->(∀p∈u,p < m)->u∈trs m n
 | 0,[],_,_=>z1a.mpr rfl
 | 0,_::_,h,_=>absurd h (Nat.not_succ_le_zero _)
 | _+1,[],_,_=>z1c ..
 | _+1,p::_,h,J=>z0v _ (List.mem_flatMap.mpr ⟨p,z2t.mpr (J p (z1c ..)),z3h.mpr ⟨_,qmn (Nat.le_of_succ_le_succ h) λx hx=>J x (z0v _ hx),rfl⟩⟩)
def qsb{m n:Nat}(hm:m<=3)(hn:n<=5):cnt m (n+1)=cnt m n+(m^(n+1):Nat):=by
 have h:∀(a:Fin 4) (b:Fin 6),cnt a.1 (b.1+1)=cnt a.1 b.1+(a.1^(b.1+1):Nat):=by decide
 exact h ⟨m,by lia⟩ ⟨n,by lia⟩
def qql{m n:Nat}(hm:m<=3)(hn:n<=5):m^n < 1000:=by
 have h:∀(a:Fin 4) (b:Fin 6),a.1^b.1 < 1000:=by decide
 exact h ⟨m,by lia⟩ ⟨n,by lia⟩
def q84{α:Type}{l:List α}{n:Nat}(h:l.length=n+1):∃x t,l=x::t/\t.length=n:=by
 cases l with
 | nil=>cases h
 | cons x t=>exact⟨x,t,rfl,Nat.succ.inj h⟩
def trD(nm:Str)(R:List Key):List Nat->PyData
 | []=> .str nm
 | p::u=> .tuple [.int p,.tuple (R.map keyD),.tuple [trD nm R u]]
theorem TrV.dat{K:xA}{H:Hp}{nm:Str}{R:List Key}(on:PyData.strOk nm=true)(J:∀k∈R,GoodK k):∀{u:List Nat} {x:V},TrV H nm R u x->Dat K H (trD nm R u) x
 | [],_,h=>by
  rw[show _=V.str nm from h];exact .str nm on
 | _::_,_,⟨a,q,kd,y,e,h1,h2,h3,h4⟩=>by
  rw[e];exact .tup (SqT.of h1) (.cons (.int _) (.cons (.tup (SqT.of h2) (q61 λu hu=>q38 (J u hu).tx)) (.cons (.tup (SqT.of h3) (.cons (TrV.dat on J h4) .nil)) .nil)))
theorem qcd:∀R:List Key,PyData.depthAll (R.map keyD)=0
 | []=>rfl
 | .inl _::R=>by
  show max 0 (PyData.depthAll (R.map keyD))=0;rw[qcd R];rfl
 | .inr _::R=>by
  show max 0 (PyData.depthAll (R.map keyD))=0;rw[qcd R];rfl
theorem qk7(nm:Str)(R:List Key):∀u:List Nat,(trD nm R u).depth<=2*u.length+2
 | []=>z3m _
 | p::u=>by
  have ih:=qk7 nm R u;show max 0 (max (PyData.depthAll (R.map keyD)+1) (max (max (trD nm R u).depth 0+1) 0))+1<=2*(u.length+1)+2;rw[qcd]
  lia
def qsc{ds:List PyData}{n:Nat}:(∀d∈ds,d.depth<=n)->PyData.depthAll ds<=n:=λh=>by
 induction ds with
 | nil=>exact z3m _
 | cons d ds ih=>
  show max d.depth (PyData.depthAll ds)<=n;have:=h d (z1c ..);have:=ih λx hx=>h x (z0v _ hx)
  lia
theorem qhn{m:Nat}:∀{n:Nat} {u:List Nat},u∈trs m n->u.length<=n
 | 0,u,h=>by
  rw[z1a.mp h];exact z3j 0
 | n+1,u,h=>by
  rcases z32.mp h with rfl | h
  ·exact z3m _
  ·obtain⟨p,_,h⟩:=List.mem_flatMap.mp h;obtain⟨v,hv,rfl⟩:=z3h.mp h;exact z28 (qhn hv)
def qfe(K:xA)(vs:List V)(H:Hp)(Q:V->Hp->Prop)(nm:Str)(R:List Key)(u:List Nat)(x:V):Prop:=vs=[x]/\Dat K H (trD nm R u) x/\Q (.bl u.isEmpty) H
inductive sp0_ok_is_name (K:xA) (vs:List V) (H:Hp) (Q:VK) (_x3:XK):Prop
 | mk:∀(nm:Str) (R:List Key) (u:List Nat) (x:V),(qfe K vs H Q nm R u x)->sp0_ok_is_name K vs H Q _x3
def qo5(T:Txt K mg):Def P w K mg base 1 "is_name" ["tree"] (sp0_ok_is_name K):=by
 refine T.qqm.ok qnx (λvs H Q E h=>?_) λf cdv A outer s H vs Q E hr h=>?_
 ·obtain⟨nm,R,u,x,rfl,_⟩:=h;rfl
 ·obtain⟨nm,R,u,x,rfl,hd,q⟩:=h;refine⟨_,(qg (qj (qw (q3w K) rfl T.q2h q25 (pa_2 (pv 0) (q7s rfl T.b_str qp4))))),?_⟩;refine⟨_,zr,_,_,_,zr,hd,by decide,?_⟩;cases u with
  | nil=>exact q
  | cons p u=>exact q
def qsd(n:Nat)(vs:List V)(H:Hp)(Q:V->Hp->Prop)(nm:Str)(R:List Key)(u:List Nat)(x:V):Prop:=vs=[x]/\TrV H nm R u x/\PyData.strOk nm=true/\(∀k∈R,GoodK k)/\u.length < n/\∀H',Same H H'->Q (.int u.length) H'
inductive sp_hgt1 (n:Nat) (vs:List V) (H:Hp) (Q:VK) (_x3:XK):Prop
 | mk:∀(nm:Str) (R:List Key) (u:List Nat) (x:V),(qsd n vs H Q nm R u x)->sp_hgt1 n vs H Q _x3
theorem qho(T:Txt K mg):∀n:Nat,Def P w K mg base (n+1) "height" ["tree"] (sp_hgt1 n)
 | 0=>T.qkb.ok qhh (λvs H Q E h=>by obtain⟨nm,R,u,x,rfl,_⟩:=h;rfl) λf cdv A outer s H vs Q E hr h=>by
  obtain⟨_,_,_,_,_,_,_,_,h,_⟩:=h;exact absurd h (Nat.not_lt_zero _)
 | n+1=>by
  have ih:=qho T n;refine T.qkb.ok qhh (λvs H Q E h=>?_) λf cdv A outer s H vs Q E hr h=>?_
  ·obtain⟨nm,R,u,x,rfl,_⟩:=h;rfl
  ·obtain⟨nm,R,u,x,rfl,tv,on,Z,hn,q⟩:=h;refine⟨_,(q1x
   (q18 (q1z (qh (hkk:=z28 (z3m _)) (qo5 T) hr rfl (pa_1 (pv 0)))) (qg (qj qf)) qx)
   (qj (qy q2k qf (qu4 K rfl rfl T.b_max qwa (pa_1 (q1a (N:=["kid"]) (caps:=[none]) rfl (by with_unfolding_all rfl) (q31 K (qt (qq K) (pv 0) qf (λ_ _=>rfl))) (λ_ _ _ _ _=>(qi (i:=0) (show (["kid"]:xD).Nodup by decide+kernel) rfl (Or.inl rfl))) (λ_ _ _ _ _=>q1r) (λ_ _ _ _ _=>(qh (hkk:=z3j _) ih hr rfl (pa_1 (pv 0)))))) (qly qf qoo))))),?_⟩
   refine⟨_,zr,nm,R,u,x,zr,tv.dat on Z,_,zr,?_⟩;cases u with
   | nil=>exact iteT (q _ (Same.refl _))
   | cons p u=>
    refine iteF ?_;obtain⟨a,b,c,y,rfl,h1,h2,h3,h4⟩:=tv;refine⟨_,zr,_,_,_,_,zr,zr,SqT.of h1,ql (j:=2) rfl,c,zr,⟨_,SqT.of h3⟩,λD Y=>?_⟩;refine q1d 1 (λi σ' H'=>(∃v,σ'=[v])/\Same H H'/\H' D=some (.lst ((List.replicate i (u.length:Int)).map V.int))) ⟨⟨_,zr⟩,qc Y,qb⟩ (λi σ' H' hi p=>?_) (λσ' H' p=>⟨?_,?_⟩) (λi σ' H' hi p x H2 y=>?_)
    ·exact⟨_,_,SqT.of (p.2.1 _ _ h3),z0b hi⟩
    ·exact⟨_,SqT.of (p.2.1 _ _ h3),z3j _⟩
    ·obtain⟨_,J,e⟩:=p;refine⟨D,_,0,zr,zr,SqL.of e,_,_,zr,zr,?_⟩;show Q (V.int (1+(u.length:Int))) H';rw[Int.add_comm];exact q _ J
    ·obtain⟨⟨v,rfl⟩,J,e⟩:=p;obtain⟨rfl,hx⟩:=y;have ei:i=0:=Nat.lt_one_iff.mp hi;subst ei;have O:=hx _ (SqT.of (J _ _ h3));cases O
     refine⟨_,zr,nm,R,u,_,zr,h4.keep λb ys e=>J _ _ e,on,Z,Nat.lt_of_succ_lt_succ hn,λH3 s3=>?_⟩;exact⟨_,s3 _ _ e,by show 0 < _;decide,⟨_,rfl⟩,(J.trans s3).set Y,qb⟩
def TrIn(g:Gx)(H:Hp)(fa rb q:Addr)(n:Nat):Prop:=Inp g noS H fa rb/\g.Ok/\n<=5/\H q=some (.tup (g.R.map kV))
def qse(T:Txt K mg):Def P w K mg base 36 "trees" ["facts","rules","rounds","table","row"] (λvs H Q _=>sp_trees mg vs H Q λ_ _ _=>False):=(qhm T).toD
def qaz(vs:List V)(H:Hp)(Q:V->Hp->Prop)(g:Gx)(fa rb q:Addr)(n:Nat):Prop:=vs=[.ref fa,.ref rb,.int n,.str g.t,.ref q]/\TrIn g H fa rb q n/\100 < cnt g.tss.length n/\∀H',Same H H'->Q (.bl true) H'
inductive sp0_ok__law_refused (vs:List V) (H:Hp) (Q:VK) (_x3:XK):Prop
 | mk:∀(g:Gx) (fa:Addr) (rb:Addr) (q:Addr) (n:Nat),(qaz vs H Q g fa rb q n)->sp0_ok__law_refused vs H Q _x3
def qff(T:Txt K mg):Def P w K mg base 37 "_law_refused" ["_law_facts","_law_rules","_law_rounds","_law_table","_law_row_here"] (sp0_ok__law_refused):=by
 refine T.qgn.ok q99 (λvs H Q E h=>?_) λf cdv A outer s H vs Q E hr h=>?_
 ·obtain⟨g,fa,rb,q,n,rfl,_⟩:=h;rfl
 ·obtain⟨g,fa,rb,q,n,rfl,⟨h1,h2,h3,h4⟩,J,k⟩:=h;refine⟨_,(q1x
   (qrv (i:=5) T.qhr (λ_ _ _ hp=>(qg (q1g (quj (qhm T) hp hr rfl (pa_5 (pv 0) (pv 1) (pv 2) (pv 3) (pv 4)))))) (λea oe=>(qg (qj (qw (qpn K) rfl T.q2h q25 (pa_2 (pv 5) (q7s rfl T.qkh qhz)))))) rfl rfl q99.nd)
   (qj q4i)),?_⟩
  refine⟨_,zr,_,zr,_,zr,_,zr,_,zr,g,fa,rb,q,n,zr,h1,h2,h3,h4,(λz=>absurd J (by lia)),λ_ H' s'=>⟨T.q7b.caught T.q7b T.qd2,λea oe σ' J hn hl=>?_⟩⟩;obtain⟨v0,l1,rfl,e1⟩:=q84 (n:=5) hl;obtain⟨v1,l2,rfl,e2⟩:=q84 e1;obtain⟨v2,l3,rfl,e3⟩:=q84 e2;obtain⟨v3,l4,rfl,e4⟩:=q84 e3;obtain⟨v4,l5,rfl,e5⟩:=q84 e4;obtain⟨v5,l6,rfl,e6⟩:=q84 e5;obtain rfl:=List.eq_nil_of_length_eq_zero e6;exact⟨_,zr,cA mg "TooMuch",0,_,true,zr,J,T.q7b.isi,.inr ⟨_,zr,T.q7b.veI⟩,k H' s'⟩
inductive sp_law (K:xA) (vs:List V) (H:Hp) (Q:VK) (_x3:XK):Prop
 | mk:∀(a:Addr) (ns:List Int),(vs=[.ref a])->(SqL K H a (ns.map V.int))->(ns.length<=63)->(∀H',Q (.bl true) H')->sp_law K vs H Q _x3
def DueV(H:Hp)(nm:Str)(R:List Key)(x:V)(u:List Nat):Prop:=∃d y,x= .ref d/\H d=some (.tup [y,.int u.length])/\TrV H nm R u y
theorem DueV.keep{H H':Hp}{nm:Str}{R:List Key}{x:V}{u:List Nat}(s:∀b ys,H b=some (.tup ys)->H' b=some (.tup ys)):DueV H nm R x u->DueV H' nm R x u:=λ⟨d,y,e,h1,h2⟩=>⟨d,y,e,s _ _ h1,h2.keep s⟩
theorem qmo{K:xA}{H:Hp}{nm:Str}{R:List Key}(on:PyData.strOk nm=true)(J:∀k∈R,GoodK k):∀{xs:List V} {us:List (List Nat)},Paired (λx u=>TrV H nm R u x) xs us->Dats K H (us.map (trD nm R)) xs
 | _,_,.nil=> .nil
 | _,_,.cons a r=> .cons (a.dat on J) (qmo on J r)
def ups(m:Nat)(us:List (List Nat)):List (List Nat):=us.flatMap λu=>(List.range m).map (· ::u)
theorem qcs(m:Nat):∀us:List (List Nat),(ups m us).length=us.length*m
 | []=>(Nat.zero_mul m).symm
 | u::us=>by
  rw[ups,List.flatMap_cons,z1b,z2h,z1t,<- ups,qcs m us,z20,Nat.succ_mul,Nat.add_comm]
def qvf{m i:Nat}{us:List (List Nat)}(h:∀u∈us,u.length=i/\∀p∈u,p < m):∀u∈ups m us,u.length=i+1/\∀p∈u,p < m:=λu hu=>by
 obtain⟨v,O,hu⟩:=List.mem_flatMap.mp hu;obtain⟨p,hp,rfl⟩:=z3h.mp hu;refine⟨congrArg Nat.succ (h v O).1,λx J=>?_⟩;rcases z32.mp J with rfl | J
 ·exact z2t.mp hp
 ·exact(h v O).2 x J
def qsf{m j:Nat}{us:List (List Nat)}{u:List Nat}(h:us[j]? =some u):ups m (us.take (j+1))=ups m (us.take j)++(List.range m).map (· ::u):=by
 rw[z2x,h];unfold ups;rw[z17];show _++(_++ [])=_;rw[z2i]
def LwI(a q D:Addr)(nm t:Str)(c6 c7:Int)(R:List Key)(m:Nat)(H6:Hp)(i:Nat)(σ:List (Option V))(G:Hp)(v9 v10 v11:Option V)(la dd:Addr)(xs zs:List V)(us vs:List (List Nat)):Prop:=σ=[some (.ref a),some (.ref q),some (.str nm),some (.str t),some (.int (c6%6)),some (.int (c7%4)),some (.ref D),some (.ref la),some (.ref dd),v9,v10,v11,none,none,none]/\Same H6 G/\G la=some (.lst xs)/\Paired (λx u=>TrV G nm R u x) xs us/\us.length=m^i/\(∀u∈us,u.length=i/\∀p∈u,p < m)/\G dd=some (.lst zs)/\Paired (DueV G nm R) zs vs/\(vs.length:Int)=cnt m i/\∀u∈vs,u.length<=i/\∀p∈u,p < m
def LwJ(G:Hp)(a q D la dd:Addr)(nm t:Str)(c6 c7:Int)(R:List Key)(us:List (List Nat))(i m:Nat)(j:Nat)(σ:List (Option V))(G2:Hp)(v11:Option V)(lo:Addr)(ys:List V):Prop:=σ=[some (.ref a),some (.ref q),some (.str nm),some (.str t),some (.int (c6%6)),some (.int (c7%4)),some (.ref D),some (.ref la),some (.ref dd),some (.int (0+(i:Int))),some (.ref lo),v11,none,none,none]/\Same G G2/\G2 lo=some (.lst ys)/\Paired (λx u=>TrV G2 nm R u x) ys (ups m (us.take j))
def qxg{l:PySem.W.OpenLaw}{w:World}{K:xA}{mg:xE}{fa:Addr}(T:Txt K mg)(d9:mg "law"=some (.ref fa)):
    ∃fd:FuncData,(∀(s:Shared) (v:Value),BindsTo s fd ⟨[v],[]⟩ [("_law_script",v)])/\∀base:Heap,K.In base->base.Ns mainGlobals mg->FnOk l.prog w K mg base CX0 38 fa fd ["_law_script"] (sp_law K):=by
  refine T.t_law.fin d9 q2d (λvs H Q E h=>?_) λbase f cdv A outer s H vs Q E hr h=>?_
  · obtain⟨a,ns,rfl,_⟩:=h
    rfl
  · obtain⟨a,ns,rfl,hA,f6,k⟩:=h
    refine⟨_,(qwd
      (qm (i:=1) q2d.nd rfl (Or.inr rfl) (qh (qla T) hr rfl (@pa_1 _ _ _ (pv 0) rfl)))
      (qvv (qh (q7k T) hr rfl (@pa_2 _ _ _ _ _ (qh (q2p T) hr rfl (@pa_2 _ _ _ _ _ (pv 0) qf rfl rfl)) qf rfl rfl)) (qwr rfl (qv (qi (i:=2) q2d.nd rfl (Or.inl rfl)) (qv (qi (i:=3) q2d.nd rfl (Or.inr rfl)) q1w))))
      (qm (i:=4) q2d.nd rfl (Or.inl rfl) (@qy _ _ _ _ _ _ _ _ q5e (qh (q2p T) hr rfl (@pa_2 _ _ _ _ _ (pv 0) qf rfl rfl)) qf))
      (qm (i:=5) q2d.nd rfl (Or.inl rfl) (@qy _ _ _ _ _ _ _ _ q5e (qh (q2p T) hr rfl (@pa_2 _ _ _ _ _ (pv 0) qf rfl rfl)) qf))
      (qn4 (i:=6) q2d.nd rfl rfl (N:=["_law_k","_law_table","_law_row_here","_law_script"]) (caps:=[none,some 3,some 1,some 0]) rfl (by with_unfolding_all rfl) (q3v rfl T.q63 (@pa_1 _ _ _ (pv 5) rfl)) (λ_ _ _ _ _=>(qi (i:=0) (show (["_law_k","_law_table","_law_row_here","_law_script"]:xD).Nodup by decide+kernel) rfl (Or.inl rfl))) (λ_ _ _ _ _=>q1r) (λ_ _ _ _ _=>(qh (qk6 T) hr rfl (@pa_3 _ _ _ _ _ _ _ (pv 1) (pv 2) (qh (q2p T) hr rfl (@pa_2 _ _ _ _ _ (pv 3) (@qy _ _ _ _ _ _ _ _ q2k qf (pv 0)) rfl rfl)) rfl rfl rfl))))
      (qm (i:=7) q2d.nd rfl (Or.inl rfl) (@q1f _ _ _ _ (@pa_1 _ _ _ (pv 2) rfl)))
      (qm (i:=8) q2d.nd rfl (Or.inl rfl) (@q1f _ _ _ _ (@pa_1 _ _ _ (@q13 _ _ _ _ _ (@pa_2 _ _ _ _ _ (pv 2) qf rfl rfl)) rfl)))
      (q1k PassesOwn.never rfl (q3v rfl T.q63 (@pa_1 _ _ _ (pv 4) rfl)) (qi (i:=9) q2d.nd rfl (Or.inr rfl)) (q4k
      (qm (i:=10) q2d.nd rfl (Or.inl rfl) (@q1f _ _ _ _ q1i))
      (q1k PassesOwn.never rfl (q11 K (pv 7)) (qi (i:=11) q2d.nd rfl (Or.inr rfl)) (@qg _ _ _ (qm (i:=10) q2d.nd rfl (Or.inl rfl) (@qy _ _ _ _ _ _ _ _ q85 (pv 10) (q1a (N:=["_law_number","_law_row_here","_law_tree"]) (caps:=[none,some 1,some 11]) rfl (by with_unfolding_all rfl) (q3v rfl T.q63 (@pa_1 _ _ _ (pv 5) rfl)) (λ_ _ _ _ _=>(qi (i:=0) (show (["_law_number","_law_row_here","_law_tree"]:xD).Nodup by decide+kernel) rfl (Or.inl rfl))) (λ_ _ _ _ _=>q1r) (λ_ _ _ _ _=>(@q13 _ _ _ _ _ (@pa_3 _ _ _ _ _ _ _ (pv 0) (pv 1) (@q13 _ _ _ _ _ (@pa_1 _ _ _ (pv 2) rfl)) rfl rfl rfl))))))))
      (qm (i:=7) q2d.nd rfl (Or.inl rfl) (pv 10))
      (qm (i:=8) q2d.nd rfl (Or.inl rfl) (@qy _ _ _ _ _ _ _ _ q85 (pv 8) (q1a (N:=["_law_tree","_law_k"]) (caps:=[none,some 9]) rfl (by with_unfolding_all rfl) (q11 K (pv 7)) (λ_ _ _ _ _=>(qi (i:=0) (show (["_law_tree","_law_k"]:xD).Nodup by decide+kernel) rfl (Or.inl rfl))) (λ_ _ _ _ _=>q1r) (λ_ _ _ _ _=>(@q13 _ _ _ _ _ (@pa_2 _ _ _ _ _ (pv 0) (@qy _ _ _ _ _ _ _ _ q2k (pv 1) qf) rfl rfl))))))))
      (qm (i:=12) q2d.nd rfl (Or.inl rfl) (@q1f _ _ _ _ (@pa_1 _ _ _ (@q13 _ _ _ _ _ (@pa_3 _ _ _ _ _ _ _ (pv 2) (pv 3) (pv 1) rfl rfl rfl)) rfl)))
      (@q18 _ _ _ _ _ _ _ _ (q14 q7r (qw (q1o K) rfl T.b_len q2a (@pa_1 _ _ _ (pv 8) rfl)) qf (q1c _)) (@qg _ _ _ (@qj _ _ _ _ (qh (qff T) hr rfl (@pa_5 _ _ _ _ _ _ _ _ _ _ _ (pv 12) (pv 6) (pv 4) (pv 3) (pv 1) rfl rfl rfl rfl rfl)))) qx)
      (qm (i:=13) q2d.nd rfl (Or.inl rfl) (qh (qse T) hr rfl (@pa_5 _ _ _ _ _ _ _ _ _ _ _ (pv 12) (pv 6) (pv 4) (pv 3) (pv 1) rfl rfl rfl rfl rfl)))
      (@q18 _ _ _ _ _ _ _ _ (PW.pt (qag (q33 (q1z (qw (q3w K) rfl T.q2h q25 (@pa_2 _ _ _ _ _ (pv 13) (q7s rfl T.qka qfx) rfl rfl)))) (q9z (q14 qid (qw (q1o K) rfl T.b_len q2a (@pa_1 _ _ _ (pv 13) rfl)) (qw (q1o K) rfl T.b_len q2a (@pa_1 _ _ _ (pv 8) rfl)) (q1c _))))) (@qg _ _ _ (@qj _ _ _ _ q4i)) qx)
      (q1k PassesOwn.never rfl (q11 K (pv 8)) (q3g rfl (qv (qi (i:=11) q2d.nd rfl (Or.inr rfl)) (qv (qi (i:=14) q2d.nd rfl (Or.inl rfl)) q1w))) (@qg _ _ _ (@q18 _ _ _ _ _ _ _ _ (PW.pt (qag (q14 (qp9 hr.units K) (pv 11) (pv 13) (by with_unfolding_all rfl)) (q9z (q14 qid (qh (qho T 6) hr rfl (@pa_1 _ _ _ (pv 11) rfl)) (pv 14) (q1c _))))) (@qg _ _ _ (@qj _ _ _ _ q4i)) qx)))
      (@qj _ _ _ _ q4i)),?_⟩
    refine⟨_,zr,a,ns,zr,hA,λq R H1 s1 hq l4 gR=>?_⟩;refine⟨_,zr,a,ns,5,zr,s1.seq hA,by decide,_,2,zr,by decide,by decide,λwp Y H2 s2 hw lw _ gw nd=>?_⟩;obtain⟨nm,t,rfl⟩:∃nm t,Y=[nm,t]:=by
      match Y,(show Y.length=2 from lw) with
      | [nm,t],_=>exact⟨_,_,rfl⟩
    have c4:=gw nm (z1c ..);have ht:=gw t (z0v _ (z1a.mpr rfl));refine⟨wp,_,zr,SqL.of hw,zr,_,_,zr,_,_,zr,zr,?_⟩;have S2:=s1.trans s2;refine⟨_,rfl,a,ns,6,rfl,S2.seq hA,by decide,_,_,rfl,rfl,(by show (0:Int) < 6;decide),?_⟩;generalize ns.getD (6:Int).toNat 0=c6;refine⟨_,rfl,a,ns,7,rfl,S2.seq hA,by decide,_,_,rfl,rfl,(by show (0:Int) < 4;decide),?_⟩;generalize ns.getD (7:Int).toNat 0=c7;obtain⟨n,hn,n5⟩:∃n:Nat,c6%6=n/\n<=5:=by
      have h0:=z2r c6 (show (6:Int)≠0 by decide);have h1:=z1h c6 (show (0:Int) < 6 by decide);exact⟨_,(Int.toNat_of_nonneg h0).symm,by lia⟩
    obtain⟨m,hm,m3⟩:∃m:Nat,c7%4=m/\m<=3:=by
      have h0:=z2r c7 (show (4:Int)≠0 by decide);have h1:=z1h c7 (show (0:Int) < 4 by decide);exact⟨_,(Int.toNat_of_nonneg h0).symm,by lia⟩
    have em:(c7%4).toNat=m:=by lia
    have en:(c6%6).toNat=n:=by lia
    refine⟨_,zr,_,zr,by lia,by lia,λD hD=>?_⟩;refine q1d (c7%4).toNat (λi σ' Z=>(∃v,σ'=[v,some (.str t),some (.ref q),some (.ref a)])/\Same H2 Z/\∃(rs:List V) (tss:List (List Key)),Z D=some (.lst rs)/\tss.length=i/\Paired (RuV Z) rs (tss.map (rK t))/\∀ts∈tss,One t R ts) ⟨⟨_,rfl⟩,qc hD,[],[],qb,rfl,.nil,λ_ z=>nomatch z⟩ (λi σ' Z hi p=>hi) (λσ' Z p=>⟨z3j _,?_⟩) (λi σ' Z hi p x E3 y=>?_)
    · obtain⟨_,s3,rs,tss,a7,lt,pr,on⟩:=p
      rw[em]at lt;have S3:=S2.trans s3;refine⟨_,rfl,by show 1<=sizeLine;decide,λLa d5=>⟨_,rfl,by show 2<=sizeLine;decide,λd0 d6=>⟨by show 1<=sizeLine;decide,λdu d8=>?_⟩⟩⟩;have s4:=qc (o:=HO.lst [V.str nm]) d5;have s5:=qc (o:=HO.tup [V.str nm,.int 0]) d6;have s6:=qc (o:=HO.lst [V.ref d0]) d8;have eL:=(s5.trans s6) _ _ (qb (H:=Z) (a:=La) (o:=HO.lst [V.str nm]));have eD:=s6 _ _ (qb (H:=upd Z La (HO.lst [V.str nm])) (a:=d0) (o:=HO.tup [V.str nm,.int 0]));have eU:=qb (H:=upd (upd Z La (HO.lst [V.str nm])) d0 (HO.tup [V.str nm,.int 0])) (a:=du) (o:=HO.lst [V.ref d0]);have a9:=s4.trans (s5.trans s6);have S6:=S3.trans a9;have d3:=a9 _ _ a7;have e8:=L2.Paired.mapP pr λ_ _ z=>z.same a9;have c5:=(s2.trans (s3.trans a9)) _ _ hq;generalize upd (upd (upd Z La (HO.lst [V.str nm])) d0 (HO.tup [V.str nm,.int 0])) du (HO.lst [V.ref d0])=H6 at*;refine⟨_,zr,_,zr,by lia,by lia,q5w (lo:=0) (n:=(c6%6).toNat) (λi σ G=>∃(v9 b0 a2:Option V) (la dd:Addr) (xs zs:List V) (us vs:List (List Nat)),LwI a q D nm t c6 c7 R m H6 i σ G v9 b0 a2 la dd xs zs us vs)
        ⟨none,none,none,La,du,_,_,[[]],[[]],rfl,Same.refl _,eL,.cons rfl .nil,rfl,(λu hu=>by rw[z1a.mp hu];exact⟨rfl,λ_ z=>nomatch z⟩),eU,.cons ⟨d0,_,rfl,eD,rfl⟩ .nil,rfl,λu hu=>by rw[z1a.mp hu];exact⟨z3j _,λ_ z=>nomatch z⟩⟩ ?_ ?_⟩
      · rintro i σ G hi ⟨v9,b0,a2,la,dd,xs,zs,us,vs,rfl,sg,b6,px,lu,hu,b4,pz,lv,hv⟩
        have i5:i<=5:=by lia
        refine⟨by show 0<=sizeLine;decide,λL0 d4=>?_⟩;have s7:=qc (o:=HO.lst []) d4;have lx:=Paired.length px;have pl:=qql m3 i5;refine⟨_,rfl,la,rfl,⟨_,SqL.of (s7 _ _ b6)⟩,q1t (xs:=xs) (λj σ G2=>∃(a2:Option V) (lo:Addr) (ys:List V),LwJ G a q D la dd nm t c6 c7 R us i m j σ G2 a2 lo ys) ⟨_,L0,[],rfl,s7,qb,.nil⟩ (λj σ G2 _ z=>by obtain⟨_,_,_,_,z,_⟩:=z;exact SqL.of (z _ _ b6)) ?_ ?_⟩
        · rintro j x σ G2 hx ⟨a2,lo,ys,rfl,a5,a4,py⟩
          obtain⟨u,a3,tu⟩:=q2m px hx;have ju:j < us.length:=(z06.mp a3).1;have f2:=tu.keep λb ys e=>a5 _ _ e;have e5:=(sg.trans a5) _ _ c5;have ly:=Paired.length py;rw[qcs,z1y]at ly;refine⟨_,zr,_,zr,_,zr,by lia,by lia,λC hC=>?_⟩;have s8:=qc (o:=HO.lst []) hC;refine q1d (c7%4).toNat (λi σ' Z=>(∃v,σ'=[v,some (.ref q),some x])/\Same G2 Z/\∃Y:List V,Z C=some (.lst Y)/\Paired (λx u=>TrV Z nm R u x) Y ((List.range i).map (· ::u))) ⟨⟨_,zr⟩,s8,[],qb,.nil⟩ (λi σ' Z hi p=>hi) (λσ' Z p=>⟨z3j _,?_⟩) (λi σ' Z hi p y E3 hy=>?_)
          · obtain⟨_,s9,Y,J,pw⟩:=p
            rw[em]at pw;have a6:=Paired.length pw;rw[z2h,z1t]at a6;have m1:min j us.length*m<=3000:=z3d (z2z (show min j us.length<=1000 by lia) m3) (by decide);refine⟨lo,C,ys,Y,rfl,rfl,s9 _ _ a4,J,z3d (show ys.length+Y.length<=10000 by lia) (by decide),λe7 c1=>?_⟩;have O:=qc (o:=HO.lst (ys++Y)) c1;have a1:=s9.trans O;refine⟨_,e7,_,zr,a5.trans a1,qb,?_⟩;rw[qsf a3];exact q7x (L2.Paired.mapP py λ_ _ z=>z.keep λ_ _ e=>a1 _ _ e) (L2.Paired.mapP pw λ_ _ z=>z.keep λ_ _ e=>O _ _ e)
          · obtain⟨⟨v,rfl⟩,s9,Y,J,pw⟩:=p
            obtain⟨rfl,rfl⟩:=hy;have a6:=Paired.length pw;rw[z2h,z1t]at a6;refine⟨_,rfl,_,rfl,_,rfl,by show 1<=sizeLine;decide,λkd b5=>⟨by show 3<=sizeLine;decide,λp hp=>?_⟩⟩;have O:=qc (o:=HO.tup [x]) b5;have c9:=qc (o:=HO.tup [V.int (0+(i:Int)),.ref q,.ref kd]) hp;have b9:=O.trans c9;refine⟨Y,b9 _ _ J,small1000 (by lia),⟨_,zr⟩,(s9.trans b9).set hC,_,qb,?_⟩;rw[z2m,z2n];have nC:∀{z o},E3 z=some o->o≠ .lst Y->upd (upd (upd E3 kd (.tup [x])) p (.tup [V.int (0+(i:Int)),.ref q,.ref kd])) C (.lst (Y++ [.ref p])) z=some o:=λ{z o} e ne=>by
              have zC:z≠C:=λh=>by
                rw[h,J]at e;injection e with e;exact ne e.symm
              rw[qk zC];exact b9 _ _ e
            refine q40 (L2.Paired.mapP pw λ_ _ z=>z.keep λb ys e=>nC e nofun) ⟨p,q,kd,x,zr,?_,nC (s9 _ _ e5) nofun,?_,f2.keep λb ys e=>nC (s9 _ _ e) nofun⟩
            · have pC:p≠C:=λh=>by
                rw[h,O _ _ J]at hp;cases hp
              rw[qk pC,qb,Int.zero_add]
            · have kC:kd≠C:=λh=>by
                rw[h,J]at b5;cases b5
              rw[qk kC];exact c9 _ _ qb
        · rintro σ G2 ⟨a2,lo,ys,rfl,a5,a4,py⟩
          rw[lx,z2b]at py;have ly:=Paired.length py;rw[qcs,lu]at ly;have a8:=qvf hu;have b7:(ups m us).length=m^(i+1):=by rw[qcs,lu];rfl
          generalize ups m us=us2 at*;have ci:=qjw m3 i5;have cn:=qsb m3 i5;have i4:i+1<=5:=by lia
          have pn:=qql m3 i4;have e2:ys.length=us2.length:=by rw[ly,b7];rfl
          refine⟨_,zr,_,zr,_,zr,lo,zr,⟨_,SqL.of a4⟩,λC hC=>?_⟩;have s8:=qc (o:=HO.lst []) hC;refine q1d ys.length (λj σ' Z=>(∃v,σ'=[v,some (.int (0+(i:Int)))])/\Same G2 Z/\∃Y:List V,Z C=some (.lst Y)/\Paired (DueV Z nm R) Y (us2.take j)) ⟨⟨_,zr⟩,s8,[],qb,.nil⟩ (λj σ' Z hj p=>⟨_,_,SqL.of (p.2.1 _ _ a4),z0b hj⟩) (λσ' Z p=>⟨⟨_,SqL.of (p.2.1 _ _ a4),z3j _⟩,?_⟩) (λj σ' Z hj p y E3 hy=>?_)
          · obtain⟨_,s9,Y,J,pw⟩:=p
            rw[e2,z2b]at pw;have a6:=Paired.length pw;have lz:=Paired.length pz;refine⟨dd,C,zs,Y,rfl,rfl,(a5.trans s9) _ _ b4,J,z3d (show zs.length+Y.length<=10000 by lia) (by decide),λd2 d7=>?_⟩;have O:=qc (o:=HO.lst (zs++Y)) d7;have a1:=s9.trans O;refine⟨_,_,_,lo,d2,ys,_,us2,vs++us2,zr,sg.trans (a5.trans a1),a1 _ _ a4,L2.Paired.mapP py λ_ _ z=>z.keep λ_ _ e=>a1 _ _ e,b7,a8,qb,q7x (L2.Paired.mapP pz λ_ _ z=>z.keep λ_ _ e=>(a5.trans a1) _ _ e) (L2.Paired.mapP pw λ_ _ z=>z.keep λ_ _ e=>O _ _ e),?_,λu a3=>?_⟩
            · rw[z1b,Int.natCast_add,lv,b7,cn]
            · rcases z2c.mp a3 with h | h
              · exact⟨Nat.le_succ_of_le (hv u h).1,(hv u h).2⟩
              · exact⟨Nat.le_of_eq (a8 u h).1,(a8 u h).2⟩
          · obtain⟨⟨v,rfl⟩,s9,Y,J,pw⟩:=p
            obtain⟨rfl,hx⟩:=hy;have e6:=hx _ (SqL.of (s9 _ _ a4));obtain⟨u,a3,tu⟩:=q2m py e6;have a6:=Paired.length pw;rw[z1y]at a6;refine⟨_,rfl,_,rfl,_,_,rfl,rfl,by show 2<=sizeLine;decide,λd hd=>?_⟩;have O:=qc (o:=HO.tup [y,V.int (0+(i:Int)+1)]) hd;refine⟨Y,O _ _ J,small1000 (by lia),⟨_,zr⟩,(s9.trans O).set hC,_,qb,?_⟩;rw[z2x,a3];have nC:∀{z o},E3 z=some o->o≠ .lst Y->upd (upd E3 d (.tup [y,V.int (0+(i:Int)+1)])) C (.lst (Y++ [.ref d])) z=some o:=λ{z o} e ne=>by
              have zC:z≠C:=λh=>by
                rw[h,J]at e;injection e with e;exact ne e.symm
              rw[qk zC];exact O _ _ e
            refine q40 (L2.Paired.mapP pw λ_ _ z=>z.keep λb ys e=>nC e nofun) ⟨d,y,zr,?_,tu.keep λb ys e=>nC (s9 _ _ e) nofun⟩;have dC:d≠C:=λh=>by
              rw[h,J]at hd;cases hd
            rw[qk dC,qb,(a8 u (z0x a3)).1,Int.zero_add];rfl
      · rintro σ G ⟨v9,b0,a2,la,dd,xs,zs,us,vs,rfl,sg,b6,px,lu,hu,b4,pz,lv,hv⟩
        rw[en]at lv hv;refine⟨_,rfl,_,rfl,_,rfl,by show 3<=sizeLine;decide,λfc e0=>⟨by show 1<=sizeLine;decide,λfl e4=>?_⟩⟩;have s7:=qc (o:=HO.tup [V.str nm,V.str t,V.ref q]) e0;have s8:=qc (o:=HO.lst [V.ref fc]) e4;have ec:=s8 _ _ (qb (H:=G) (a:=fc) (o:=HO.tup [V.str nm,V.str t,V.ref q]));have ef:=qb (H:=upd G fc (HO.tup [V.str nm,V.str t,V.ref q])) (a:=fl) (o:=HO.lst [V.ref fc]);have c0:=s7.trans s8;generalize upd (upd G fc (HO.tup [V.str nm,V.str t,V.ref q])) fl (HO.lst [V.ref fc])=G3 at*;have S8:=sg.trans c0;have c8:=S8 _ _ c5;have b1:=c0 _ _ b4;have e9:=L2.Paired.mapP pz λ_ _ z=>z.keep λ_ _ e=>c0 _ _ e;have lz:=Paired.length pz;have TI:TrIn ⟨t,R,nm,tss⟩ G3 fl D q n:=⟨⟨⟨fc,q,ef,ec,c8⟩,⟨rs,S8 _ _ d3,L2.Paired.mapP e8 λ_ _ z=>z.same S8⟩,rfl,rfl⟩,⟨c4,⟨ht,l4,gR⟩,on,by show tss.length<=3;lia⟩,n5,c8⟩;have oe: [V.ref fl,.ref D,.int (c6%6),.str t,.ref q]=[V.ref fl,.ref D,.int n,.str t,.ref q]:=by rw[hn]
        refine⟨_,zr,_,_,zr,.inl ⟨_,SqL.of b1,zr⟩,_,_,zr,zr,_,zr,?_⟩;by_cases l:100 < (zs.length:Int)
        · refine q3p (z2s l) ?_
          exact⟨_,rfl,_,rfl,_,rfl,_,rfl,_,rfl,⟨t,R,nm,tss⟩,fl,D,q,n,oe,TI,by show 100 < cnt tss.length n;rw[lt,<- lv,<- lz];exact l,λH' _=>k H'⟩
        · refine q1y (z2d l) ?_
          obtain⟨h1,h2,h3,h4⟩:=TI;refine⟨_,rfl,_,rfl,_,rfl,_,rfl,_,rfl,⟨t,R,nm,tss⟩,fl,D,q,n,oe,h1,h2,h3,h4,(λ_ L ys G4 s9 hL pL=>?_),λz=>absurd z (by show ¬ 100 < cnt tss.length n;rw[lt,<- lv,<- lz];exact l)⟩;have pL:Paired (λx u=>TrV G4 nm R u x) ys (trs tss.length n):=pL;rw[lt]at pL;have b8:PyData.strOk nm=true:=qe2 (by decide+kernel) c4;have dl:Dat K G4 (.list ((trs m n).map (trD nm R))) (.ref L):= .lst (SqL.of hL) (qmo b8 gR pL);refine⟨_,zr,_,_,_,zr,dl,by decide,?_⟩;have b3:=s9 _ _ b1;have f0:=L2.Paired.mapP e9 λ_ _ z=>z.keep λ_ _ e=>s9 _ _ e;have ll:ys.length=zs.length:=by
            have h:=Paired.length pL;have e:=qgj m n
            lia
          refine⟨true,zr,iteF ?_⟩;refine⟨_,rfl,_,_,rfl,.inl ⟨_,SqL.of hL,rfl⟩,_,rfl,_,_,rfl,.inl ⟨_,SqL.of b3,rfl⟩,rfl,_,rfl,q1y (by rw[ll,z2s rfl];rfl) ?_⟩;refine⟨_,zr,dd,zr,⟨_,SqL.of b3⟩,q1t (xs:=zs) (λj σ G=>(∃a2 d1,σ=[some (.ref a),some (.ref q),some (.str nm),some (.str t),some (.int (c6%6)),some (.int (c7%4)),some (.ref D),some (.ref la),some (.ref dd),v9,b0,a2,some (.ref fl),some (.ref L),d1])/\Same G4 G) ⟨⟨_,_,zr⟩,Same.refl _⟩ (λj σ G _ z=>SqL.of (z.2 _ _ b3)) ?_ ?_⟩
          · rintro j x σ G hx ⟨⟨a2,d1,rfl⟩,sG⟩
            obtain⟨u,a3,d,y,rfl,hd,ty⟩:=q2m f0 hx;obtain⟨ul,up⟩:=hv u (z0x a3);refine⟨d,_,zr,SqT.of (sG _ _ hd),zr,_,_,zr,_,_,zr,zr,?_⟩;have tG:=ty.keep λ_ _ e=>sG _ _ e;have dy:=tG.dat (K:=K) b8 gR;refine⟨_,zr,_,zr,_,_,dy,Dat.same sG _ _ dl,qsc λd hd=>?_,_,zr,q1y ?_ ?_⟩
            · obtain⟨u2,h2,rfl⟩:=z3h.mp hd
              have:=qk7 nm R u2;have:=qhn h2
              lia
            · rw[(z27 (p:=λy=>PyData.eqv y (trD nm R u))).mpr ⟨_,z3h.mpr ⟨u,qmn ul up,rfl⟩,SeqAt.eqv_refl _ (Dat.lay _ _ dy)⟩]
              rfl
            · refine⟨_,rfl,nm,R,u,y,rfl,tG,b8,gR,by lia,λH' s'=>⟨_,rfl,rfl,_,rfl,q1y (by rw[z2s rfl];rfl) ?_⟩⟩
              exact⟨⟨_,_,zr⟩,sG.trans s'⟩
          · intro σ G _
            exact k _
    · obtain⟨⟨v,rfl⟩,s3,rs,tss,a7,lt,pr,on⟩:=p
      obtain⟨rfl,rfl⟩:=y;have S3:=S2.trans s3;refine⟨_,zr,_,zr,_,zr,_,zr,_,_,zr,zr,a,ns,_,zr,S3.seq hA,by lia,t,q,R,_,zr,(s2.trans s3) _ _ hq,l4,gR,ht,λb ts E4 s4 hb o1=>?_⟩;have lp:=Paired.length pr;rw[z2h]at lp;refine⟨rs,s4 _ _ a7,small1000 (by lia),⟨_,rfl⟩,(s3.trans s4).set hD,rs++ [.ref b],tss++ [ts],qb,by rw[z1b,lt];rfl,?_,λx hx=>?_⟩
      · rw[z2n]
        have nD:∀z ys,E4 z=some (.tup ys)->upd E4 D (.lst (rs++ [.ref b])) z=some (.tup ys):=λz ys e=>by
          rw[qk λh=>by rw[h,s4 _ _ a7]at e;cases e];exact e
        exact q40 (L2.Paired.mapP pr λ_ _ ⟨b,e,z⟩=>⟨b,e,(z.same s4).keep nD⟩) ⟨b,zr,hb.keep nD⟩
      · rcases z2c.mp hx with hx | hx
        · exact on x hx
        · rw[z1a.mp hx]
          exact o1
open PySem.W in
def qk8{K:xA}{h:Heap}{mg:xE}(X:K.In h)(G:h.Ns mainGlobals mg){aK aL aM aN aO aP aQ aR aS aT aU aV aW:Tok}{aI:Addr}{aX:Option Addr}{aY:Array (Option Value)}{aZ:Nat}
  (a0:nsIn K mainGlobals "ValueError"=some none)
  (a1:nsIn K mainGlobals "all"=some none)
  (a2:nsIn K mainGlobals "bool"=some none)
  (a3:nsIn K mainGlobals "dict"=some none)
  (a4:nsIn K mainGlobals "enumerate"=some none)
  (a5:nsIn K mainGlobals "int"=some none)
  (a6:nsIn K mainGlobals "isinstance"=some none)
  (a7:nsIn K mainGlobals "len"=some none)
  (a8:nsIn K mainGlobals "list"=some none)
  (a9:nsIn K mainGlobals "max"=some none)
  (aa:nsIn K mainGlobals "range"=some none)
  (ab:nsIn K mainGlobals "set"=some none)
  (ac:nsIn K mainGlobals "sorted"=some none)
  (ad:nsIn K mainGlobals "str"=some none)
  (ae:nsIn K mainGlobals "tuple"=some none)
  (af:nsIn K mainGlobals "zip"=some none)
  (ag:nsIn K mainGlobals "SMALL_LETTERS"=some (some (.str "abcdefghijklmnopqrstuvwxyz" aK)))
  (ah:nsIn K mainGlobals "CAPITAL_LETTERS"=some (some (.str "ABCDEFGHIJKLMNOPQRSTUVWXYZ" aL)))
  (ai:nsIn K mainGlobals "FURTHER_SIGNS"=some (some (.str "abcdefghijklmnopqrstuvwxyz0123456789" aM)))
  (aj:nsIn K mainGlobals "MOST_SIGNS"=some (some (.int 12 aN)))
  (ak:nsIn K mainGlobals "MOST_VALUES"=some (some (.int 4 aO)))
  (al:nsIn K mainGlobals "MOST_ATOMS"=some (some (.int 3 aP)))
  (am:nsIn K mainGlobals "MOST_CHOICES"=some (some (.int 3 aQ)))
  (an:nsIn K mainGlobals "MOST_ROUNDS"=some (some (.int 5 aR)))
  (ao:nsIn K mainGlobals "MOST_ROWS"=some (some (.int 60 aS)))
  (ap:nsIn K mainGlobals "MOST_TREES"=some (some (.int 100 aT)))
  (aH:nsIn K mainGlobals "SIGNS"=some (some (.ref aI)))
  (aq:K.lookup aI=some ⟨.type "tuple",aX,.seq #[.str "=" aU,.str "!=" aV,.str "<" aW] aZ,aY⟩)
  (ar:FiK K "_wall" qmf)
  (as:FiK K "is_whole" qan)
  (au:FiK K "is_text_begun_by" q4o)
  (av:FiK K "is_word" qbt)
  (aw:FiK K "is_var" qdu)
  (ax:FiK K "is_value" qao)
  (ay:FiK K "is_row" qdv)
  (az:FiK K "value_key" q9g)
  (bA:FiK K "row_key" qbu)
  (bB:FiK K "value_before" qa6)
  (bC:FiK K "pair_key" qap)
  (bD:FiK K "pairs_in_order" q5n)
  (bE:FiK K "matched" qbv)
  (bF:FiK K "put_in" qdw)
  (bG:FiK K "holds" qg3)
  (bH:FiK K "is_tuple_of_up_to" q4e)
  (bI:FiK K "is_tuple_of_just" q4p)
  (bJ:FiK K "is_fact" qbw)
  (bK:FiK K "is_term" qbx)
  (bL:FiK K "are_terms" q9h)
  (bM:FiK K "is_atom" qby)
  (bN:FiK K "are_atoms" q9i)
  (bO:FiK K "is_choice" q9j)
  (bP:FiK K "are_choices" q7e)
  (bQ:FiK K "variables_in" q6u)
  (bR:FiK K "variables_of_body" q4f)
  (bS:FiK K "are_known" q9k)
  (bT:FiK K "is_rule" qbz)
  (bU:FiK K "each_once" q9l)
  (bV:FiK K "vet_facts" q9m)
  (bW:FiK K "vet" qnq)
  (bX:FiK K "rows_by_shared" q5o)
  (bY:FiK K "choices_known" q68)
  (bZ:FiK K "choices_due" q7f)
  (b0:FiK K "all_hold" qaq)
  (b1:FiK K "asked_later" q7g)
  (b2:FiK K "steps_of" qar)
  (b3:FiK K "ask_few_rows" q6w)
  (b4:FiK K "let_stand" q9p)
  (b5:FiK K "rows_of_facts" q6b)
  (b6:FiK K "let_heads_stand" q57)
  (b7:FiK K "in_tables" q9q)
  (b8:FiK K "tables_by_round" q58)
  (b9:FiK K "add_worth" q9r)
  (ba:FiK K "worths_of_facts" q59)
  (bb:FiK K "add_sums" qas)
  (bc:FiK K "worths_by_round" q5a)
  (bd:FiK K "trees" qg4)
  (be:FiK K "is_name" qc0)
  (bf:FiK K "height" qdx)
  (bg:FiK K "_law_cell_at" q6x)
  (bh:FiK K "_law_words" q8f)
  (bi:FiK K "_law_row" qat)
  (bj:FiK K "_law_rule" q9s)
  (bk:FiK K "_law_refused" q6y)
  (bl:FiK K "law" qnr)
  (J:CiK K "Step")
  (bm:AiK K "Step" "asks" (some none))
  (bn:AiK K "Step" "by_shared" (some none))
  (bo:AiK K "Step" "due" (some none))
  (bp:AiK K "Step" "rows" (some none))
  (bq:AiK K "Step" "shared" (some none))
  (br:AiK K "Step" "table" (some none))
  (bs:AiK K "Step" "terms" (some none))
  (bt:MiK K "Step" "__init__" "Step.__init__" q9n)
  (bu:MiK K "Step" "joined_on" "Step.joined_on" q5p)
  (O:CiK K "Heads")
  (bv:AiK K "Heads" "begun" (some none))
  (bw:AiK K "Heads" "head" (some none))
  (bx:AiK K "Heads" "seen" (some none))
  (bz:AiK K "Heads" "steps" (some none))
  (cA:MiK K "Heads" "__init__" "Heads.__init__" q8d)
  (cB:MiK K "Heads" "following" "Heads.following" q54)
  (cC:MiK K "Heads" "begin_on" "Heads.begin_on" q5q)
  (Y:CiK K "Sums")
  (cD:AiK K "Sums" "ahead" (some none))
  (cE:AiK K "Sums" "by" (some none))
  (cF:AiK K "Sums" "due" (some none))
  (cG:AiK K "Sums" "head_terms" (some none))
  (cH:AiK K "Sums" "seen" (some none))
  (cI:AiK K "Sums" "steps" (some none))
  (cJ:MiK K "Sums" "__init__" "Sums.__init__" q9o)
  (cK:MiK K "Sums" "binding_for" "Sums.binding_for" q4q)
  (cL:MiK K "Sums" "pairs_from" "Sums.pairs_from" q55)
  (cM:MiK K "Sums" "sum_for" "Sums.sum_for" q6v)
  (cN:MiK K "Sums" "sum_from" "Sums.sum_from" q69)
  (cO:MiK K "Sums" "sum_anew" "Sums.sum_anew" q6a)
  (Z:CiK K "SumsByRule")
  (cP:AiK K "SumsByRule" "ahead" (some none))
  (cQ:AiK K "SumsByRule" "by" (some none))
  (cR:AiK K "SumsByRule" "by_rule" (some none))
  (cS:AiK K "SumsByRule" "earlier" (some none))
  (cT:AiK K "SumsByRule" "stayed" (some none))
  (cU:AiK K "SumsByRule" "tables" (some none))
  (cV:MiK K "SumsByRule" "__init__" "SumsByRule.__init__" q56)
  (cW:MiK K "SumsByRule" "sums_of" "SumsByRule.sums_of" q41)
  (cX:MiK K "SumsByRule" "sums_again" "SumsByRule.sums_again" q3c)
  (cY:MiK K "SumsByRule" "has_stayed" "SumsByRule.has_stayed" q3d)
  (cZ:MiK K "SumsByRule" "worths_in" "SumsByRule.worths_in" q3l)
  (aE:CiK K "Makers")
  (c0:AiK K "Makers" "behind" (some none))
  (c1:AiK K "Makers" "by" (some none))
  (c2:AiK K "Makers" "names" (some none))
  (c3:AiK K "Makers" "rules" (some none))
  (c4:AiK K "Makers" "sums_behind" (some none))
  (c5:MiK K "Makers" "__init__" "Makers.__init__" q7h)
  (c6:MiK K "Makers" "names_at" "Makers.names_at" q5b)
  (c7:MiK K "Makers" "sums_from" "Makers.sums_from" q4r)
  (c8:MiK K "Makers" "rules_to" "Makers.rules_to" q5c)
  (aF:CiK K "Counts")
  (c9:AiK K "Counts" "__init__" (some (some (.builtin "object.__init__"))))
  (ca:MiK K "Counts" "nought" "Counts.nought" q6c)
  (cb:MiK K "Counts" "unit" "Counts.unit" q7i)
  (cc:MiK K "Counts" "either" "Counts.either" q6d)
  (cd:MiK K "Counts" "both" "Counts.both" q7j)
  (aG:CiK K "Grove")
  (ce:AiK K "Grove" "found" (some none))
  (cf:AiK K "Grove" "makers" (some none))
  (cg:MiK K "Grove" "__init__" "Grove.__init__" q8e)
  (ch:MiK K "Grove" "trees_at" "Grove.trees_at" q5r)
  (ci:MiK K "Grove" "trees_anew" "Grove.trees_anew" q4s)
  (cj:MiK K "Grove" "all_kids" "Grove.all_kids" q5s)
  (aJ:XiK K "TooMuch")
  (ck:PiK K "TooMuch" "TooMuch" true):Txt K mg:=
 ⟨z1i X G a0,
  z1i X G a1,
  z1i X G a2,
  z1i X G a3,
  z1i X G a4,
  z1i X G a5,
  z1i X G a6,
  z1i X G a7,
  z1i X G a8,
  z1i X G a9,
  z1i X G aa,
  z1i X G ab,
  z1i X G ac,
  z1i X G ad,
  z1i X G ae,
  z1i X G af,
  ⟨_,z36 X G ag⟩,
  ⟨_,z36 X G ah⟩,
  ⟨_,z36 X G ai⟩,
  ⟨_,z36 X G aj⟩,
  ⟨_,z36 X G ak⟩,
  ⟨_,z36 X G al⟩,
  ⟨_,z36 X G am⟩,
  ⟨_,z36 X G an⟩,
  ⟨_,z36 X G ao⟩,
  ⟨_,z36 X G ap⟩,
  (by rw[q5j (z36 X G aH)];exact z36 X G aH),
  (by rw[q5j (z36 X G aH)];exact qud aq (by show 3<=sizeLine;decide) (.cons ⟨_,rfl⟩ (.cons ⟨_,rfl⟩ (.cons ⟨_,rfl⟩ .nil)))),
  ar.top X G (λ_ _ _ _ _ _=>us1 λ_=>rfl),
  as.top X G (λ_ _ _ _ _ _=>us1 λ_=>rfl),
  au.top X G (λ_ _ _ _ _ _=>us2 λ_ _=>rfl),
  av.top X G (λ_ _ _ _ _ _=>us1 λ_=>rfl),
  aw.top X G (λ_ _ _ _ _ _=>us1 λ_=>rfl),
  ax.top X G (λ_ _ _ _ _ _=>us1 λ_=>rfl),
  ay.top X G (λ_ _ _ _ _ _=>us1 λ_=>rfl),
  az.top X G (λ_ _ _ _ _ _=>us1 λ_=>rfl),
  bA.top X G (λ_ _ _ _ _ _=>us1 λ_=>rfl),
  bB.top X G (λ_ _ _ _ _ _=>us2 λ_ _=>rfl),
  bC.top X G (λ_ _ _ _ _ _=>us1 λ_=>rfl),
  bD.top X G (λ_ _ _ _ _ _=>us1 λ_=>rfl),
  bE.top X G (λ_ _ _ _ _ _=>us3 λ_ _ _=>rfl),
  bF.top X G (λ_ _ _ _ _ _=>us2 λ_ _=>rfl),
  bG.top X G (λ_ _ _ _ _ _=>us2 λ_ _=>rfl),
  bH.top X G (λ_ _ _ _ _ _=>us2 λ_ _=>rfl),
  bI.top X G (λ_ _ _ _ _ _=>us2 λ_ _=>rfl),
  bJ.top X G (λ_ _ _ _ _ _=>us1 λ_=>rfl),
  bK.top X G (λ_ _ _ _ _ _=>us1 λ_=>rfl),
  bL.top X G (λ_ _ _ _ _ _=>us1 λ_=>rfl),
  bM.top X G (λ_ _ _ _ _ _=>us1 λ_=>rfl),
  bN.top X G (λ_ _ _ _ _ _=>us1 λ_=>rfl),
  bO.top X G (λ_ _ _ _ _ _=>us1 λ_=>rfl),
  bP.top X G (λ_ _ _ _ _ _=>us1 λ_=>rfl),
  bQ.top X G (λ_ _ _ _ _ _=>us1 λ_=>rfl),
  bR.top X G (λ_ _ _ _ _ _=>us1 λ_=>rfl),
  bS.top X G (λ_ _ _ _ _ _=>us2 λ_ _=>rfl),
  bT.top X G (λ_ _ _ _ _ _=>us1 λ_=>rfl),
  bU.top X G (λ_ _ _ _ _ _=>us1 λ_=>rfl),
  bV.top X G (λ_ _ _ _ _ _=>us1 λ_=>rfl),
  bW.top X G (λ_ _ _ _ _ _=>us3 λ_ _ _=>rfl),
  bX.top X G (λ_ _ _ _ _ _=>us3 λ_ _ _=>rfl),
  bY.top X G (λ_ _ _ _ _ _=>us2 λ_ _=>rfl),
  bZ.top X G (λ_ _ _ _ _ _=>us3 λ_ _ _=>rfl),
  b0.top X G (λ_ _ _ _ _ _=>us2 λ_ _=>rfl),
  b1.top X G (λ_ _ _ _ _ _=>us4 λ_ _ _ _=>rfl),
  b2.top X G (λ_ _ _ _ _ _=>us4 λ_ _ _ _=>rfl),
  b3.top X G (λ_ _ _ _ _ _=>us1 λ_=>rfl),
  b4.top X G (λ_ _ _ _ _ _=>us2 λ_ _=>rfl),
  b5.top X G (λ_ _ _ _ _ _=>us1 λ_=>rfl),
  b6.top X G (λ_ _ _ _ _ _=>us3 λ_ _ _=>rfl),
  b7.top X G (λ_ _ _ _ _ _=>us1 λ_=>rfl),
  b8.top X G (λ_ _ _ _ _ _=>us3 λ_ _ _=>rfl),
  b9.top X G (λ_ _ _ _ _ _=>us4 λ_ _ _ _=>rfl),
  ba.top X G (λ_ _ _ _ _ _=>us3 λ_ _ _=>rfl),
  bb.top X G (λ_ _ _ _ _ _=>us4 λ_ _ _ _=>rfl),
  bc.top X G (λ_ _ _ _ _ _=>us5 λ_ _ _ _ _=>rfl),
  bd.top X G (λ_ _ _ _ _ _=>us5 λ_ _ _ _ _=>rfl),
  be.top X G (λ_ _ _ _ _ _=>us1 λ_=>rfl),
  bf.top X G (λ_ _ _ _ _ _=>us1 λ_=>rfl),
  bg.top X G (λ_ _ _ _ _ _=>us2 λ_ _=>rfl),
  bh.top X G (λ_ _ _ _ _ _=>us2 λ_ _=>rfl),
  bi.top X G (λ_ _ _ _ _ _=>us1 λ_=>rfl),
  bj.top X G (λ_ _ _ _ _ _=>us3 λ_ _ _=>rfl),
  bk.top X G (λ_ _ _ _ _ _=>us5 λ_ _ _ _ _=>rfl),
  bl.top X G (λ_ _ _ _ _ _=>us1 λ_=>rfl),
  J.g X G,
  J.cl X G,
  J.mk' X G,
  J.kp X G,
  bm.at' X G,
  bn.at' X G,
  bo.at' X G,
  bp.at' X G,
  bq.at' X G,
  br.at' X G,
  bs.at' X G,
  bt.top X G (λ_ _ _ _ _ _=>us6 λ_ _ _ _ _ _=>rfl),
  bu.top X G (λ_ _ _ _ _ _=>us2 λ_ _=>rfl),
  O.g X G,
  O.cl X G,
  O.mk' X G,
  O.kp X G,
  bv.at' X G,
  bw.at' X G,
  bx.at' X G,
  bz.at' X G,
  cA.top X G (λ_ _ _ _ _ _=>us3 λ_ _ _=>rfl),
  cB.top X G (λ_ _ _ _ _ _=>us2 λ_ _=>rfl),
  cC.top X G (λ_ _ _ _ _ _=>us3 λ_ _ _=>rfl),
  Y.g X G,
  Y.cl X G,
  Y.mk' X G,
  Y.kp X G,
  cD.at' X G,
  cE.at' X G,
  cF.at' X G,
  cG.at' X G,
  cH.at' X G,
  cI.at' X G,
  cJ.top X G (λ_ _ _ _ _ _=>us5 λ_ _ _ _ _=>rfl),
  cK.top X G (λ_ _ _ _ _ _=>us2 λ_ _=>rfl),
  cL.top X G (λ_ _ _ _ _ _=>us3 λ_ _ _=>rfl),
  cM.top X G (λ_ _ _ _ _ _=>us2 λ_ _=>rfl),
  cN.top X G (λ_ _ _ _ _ _=>us3 λ_ _ _=>rfl),
  cO.top X G (λ_ _ _ _ _ _=>us3 λ_ _ _=>rfl),
  Z.g X G,
  Z.cl X G,
  Z.mk' X G,
  Z.kp X G,
  cP.at' X G,
  cQ.at' X G,
  cR.at' X G,
  cS.at' X G,
  cT.at' X G,
  cU.at' X G,
  cV.top X G (λ_ _ _ _ _ _=>us5 λ_ _ _ _ _=>rfl),
  cW.top X G (λ_ _ _ _ _ _=>us2 λ_ _=>rfl),
  cX.top X G (λ_ _ _ _ _ _=>us2 λ_ _=>rfl),
  cY.top X G (λ_ _ _ _ _ _=>us2 λ_ _=>rfl),
  cZ.top X G (λ_ _ _ _ _ _=>us2 λ_ _=>rfl),
  aE.g X G,
  aE.cl X G,
  aE.mk' X G,
  aE.kp X G,
  c0.at' X G,
  c1.at' X G,
  c2.at' X G,
  c3.at' X G,
  c4.at' X G,
  c5.top X G (λ_ _ _ _ _ _=>us5 λ_ _ _ _ _=>rfl),
  c6.top X G (λ_ _ _ _ _ _=>us2 λ_ _=>rfl),
  c7.top X G (λ_ _ _ _ _ _=>us2 λ_ _=>rfl),
  c8.top X G (λ_ _ _ _ _ _=>us3 λ_ _ _=>rfl),
  aF.g X G,
  aF.cl X G,
  aF.mk' X G,
  aF.kp X G,
  c9.at' X G,
  ca.top X G (λ_ _ _ _ _ _=>us1 λ_=>rfl),
  cb.top X G (λ_ _ _ _ _ _=>us1 λ_=>rfl),
  cc.top X G (λ_ _ _ _ _ _=>us3 λ_ _ _=>rfl),
  cd.top X G (λ_ _ _ _ _ _=>us3 λ_ _ _=>rfl),
  aG.g X G,
  aG.cl X G,
  aG.mk' X G,
  aG.kp X G,
  ce.at' X G,
  cf.at' X G,
  cg.top X G (λ_ _ _ _ _ _=>us2 λ_ _=>rfl),
  ch.top X G (λ_ _ _ _ _ _=>us3 λ_ _ _=>rfl),
  ci.top X G (λ_ _ _ _ _ _=>us3 λ_ _ _=>rfl),
  cj.top X G (λ_ _ _ _ _ _=>us5 λ_ _ _ _ _=>rfl),
  aJ.g X G,
  aJ.at' X G,
  ck.at' X G⟩
end Wy
open PySem PySem.W PyProof.Rows
namespace PySem.W.Fast
end PySem.W.Fast
namespace PySem.W.Fast
def tw18224628635092441651:=0
def tw10426565143519734641:=0
def tw2009598660196492548:=0
def tw6310627112137775257:=0
def tw646054412470964836:=0
def tw14236038347689388869:=0
def tw6449194874783023610:=0
def tw4265956532340907400:=0
def tw10407762084976452909:=0
def tw11053748426347586217:=0
def tw9839148528966400782:=0
def tw6883502404156461088:=0
def tw3927899890705582662:=0
def tw8704446822224313594:=0
def tw3687684754170562735:=0
def tw18244162583390090226:=0
def tw15133092512589967271:=0
def tw16307438359998377911:=0
def tw5756514537932893398:=0
def tw2970610673838415850:=0
def tw4262220726988716266:=0
def tw5865632864459810242:=0
def tw4913943280761127545:=0
def tw887805381761754507:=0
def tw13536694614395191487:=0
def tw11200641836654365275:=0
def tw1907491456501494647:=0
def tw13256321056093485663:=0
def tw12269266749727618136:=0
def tw16753549308596188500:=0
def tw18339924617337350092:=0
def tw15154369591253305060:=0
def tw140150247593414865:=0
def tw16315130454302794480:=0
def tw3090395159841735723:=0
def tw13164774980626197893:=0
def tw15417380171452586864:=0
def tw5077920846878088878:=0
def tw10868170302646662185:=0
def tw7677807125099721208:=0
def tw7454370602682686667:=0
def tw9316879079411440236:=0
def tw14686002350349142982:=0
def tw14332850705377372586:=0
def tw8234246645736885395:=0
def tw1788841856108345453:=0
def tw1645958215316861645:=0
def tw8934645826210721710:=0
def tw8444679543151188801:=0
def tw11350139311145711091:=0
def tw4249600500932560366:=0
def tw8291180209651265765:=0
def tw12472544531381372211:=0
def tw11318637482339063926:=0
def tw8253437886260615670:=0
def tw17750161072213376740:=0
def tw10081861313802918347:=0
def tw9718762984048722253:=0
def tw10719734805758966448:=0
def tw12275176323107439618:=0
def tw5830571062131383744:=0
def tw8532181142401080340:=0
def tw12522920673713770050:=0
def tw356191520166311028:=0
def tw4482582056338707466:=0
def tw14581393397096694220:=0
def tw4910019855675739509:=0
def tw2990023281763290731:=0
def tw5183876005497337793:=0
def tw11043246797270891319:=0
def tw1382983289384962207:=0
def tw8258347518660763801:=0
def tw3688375700813181543:=0
def tw9551840373788817230:=0
def tw14588485477081541599:=0
def tw15726708012725368161:=0
def tw984728701787824820:=0
def tw17072947570530277721:=0
def tw12650822472706234586:=0
def tw17983233238050796957:=0
def tw8036111580668264387:=0
def tw4400876273417990116:=0
def tw17534979970883121622:=0
def tw15808163067158467350:=0
def tw8759254378852123423:=0
def tw174198330132652036:=0
def tw612842453412549551:=0
def tw12052234296978302367:=0
def tw5736070093764329435:=0
def tw12038619956643347997:=0
def tw3908258983484281261:=0
def tw7426185795713919005:=0
def tw2058988990640843364:=0
def tw2520591436461164285:=0
def tw14216010906964285800:=0
def tw11964637101662132763:=0
def tw13006917551563488679:=0
def tw12976442635952404069:=0
def tw13265331639868868064:=0
def tw2321249713100494237:=0
def tw13064523432432731896:=0
def tw13933870025445015854:=0
def tw3978176166136445870:=0
def tw4452776261928452401:=0
def tw9426143669811343944:=0
def tw9919281722547147970:=0
def tw12073617849681954752:=0
def tw13832281993222405211:=0
def tw8559416064515122832:=0
def tw16654391438059805015:=0
def tw1449736834614868663:=0
def tw1695789138674558648:=0
def tw311541576833131976:=0
def tw1961265890733388425:=0
def tw5353009394068777941:=0
def tw5298575966522347522:=0
def tw11816462288944624252:=0
def tw12465177010832516625:=0
def tw17852448192015824555:=0
def tw8924677277646352426:=0
def tw4227745385907180628:=0
def tw13518182472232110854:=0
def tw62016606492757676:=0
def tw17243413962318127431:=0
def tw7378800618567730229:=0
def tw4768976850523701957:=0
def tw11195160421509734114:=0
def tw17690774052989139204:=0
def tw3445055286224012239:=0
def tw10558658808038058006:=0
def tw12691746785041005745:=0
def tw13870021965885375326:=0
def tw17214850161813353031:=0
def tw9919303083009084663:=0
def tw8167704655814776375:=0
def tw14328325985214140796:=0
def tw9089421014551267406:=0
def tw1520072330249496413:=0
def tw2346782259104020711:=0
def tw16793895475259666312:=0
def tw2263395725088618708:=0
def tw3536486316631506579:=0
def tw6426591218167664424:=0
def tw4271953860596315767:=0
def tw15626821317428752344:=0
def tw6556996582951182596:=0
def tw13252202030361622210:=0
def tw14272481460358084935:=0
def tw6280595713457491354:=0
def tw4480911629583846513:=0
def tw16715813001373255619:=0
def tw5222859685240983225:=0
def tw9654622228782421755:=0
def tw3383540380269586957:=0
def tw1200774189810908565:=0
def tw12665449928706392589:=0
def tw9921528930222645256:=0
def tw14537855431340806969:=0
def tw13793769745638784899:=0
def tw2925498784764902619:=0
def tw4156392546266761349:=0
def tw8280439872465710333:=0
def tw60379440370359933:=0
def tw7980302310745984553:=0
def tw15845752448249159454:=0
def tw3221634599032912361:=0
def tw15368730967378806774:=0
def tw11893460023699200973:=0
def tw7938307750829004104:=0
def tw7322265778281569763:=0
def tw10635336622538804402:=0
def tw2911543042276590779:=0
def tw2938117808276008730:=0
def tw7598204475409412201:=0
def tw7021060707804780383:=0
def tw14555634073471613878:=0
def tw6838157568311618824:=0
def tw4133127196196858744:=0
def tw6365703031483265184:=0
def tw12815515635891283608:=0
def tw4023741585186978498:=0
def tw10404039799444403203:=0
def tw15295989719984359261:=0
def tw3844067652152450474:=0
def tw5967049975563619165:=0
def tw2019311506871228858:=0
def tw6701327282821609367:=0
def tw2217170198963267010:=0
def tw11212727946112193751:=0
def tw3149234628241526388:=0
def tw11326849576959051485:=0
def tw6664875584504670102:=0
def tw1467037885411361343:=0
def tw17304383434368894787:=0
def tw17036052948176581149:=0
def tw8215414373312593039:=0
def tw11814704297792299720:=0
def tw12980974146838199335:=0
def tw4894423098948974308:=0
def tw12475659501692859466:=0
def tw18197259665414161039:=0
def tw9542007375483296429:=0
def tw6029707507325688163:=0
def tw15789668170469688477:=0
def tw17546979904137876933:=0
def tw4807351793528775466:=0
def tw13785369134375158627:=0
def tw10047287686266044187:=0
def tw3080188465822999599:=0
def tw1113790701002059469:=0
def tw8423328217938909462:=0
def tw2127742535091088812:=0
def tw6108144180639473206:=0
def tw3339589870921793660:=0
def tw14653738507038510749:=0
def tw17484231797653998785:=0
def tw7640191802557566850:=0
def tw8274161930293738888:=0
def tw8603026207118800964:=0
def tw8387191223079192726:=0
def tw17144855324986938931:=0
def tw10664806576328774370:=0
def tw6885335244378406120:=0
def tw15719267499407729353:=0
def tw4093396779711828911:=0
def tw4912642869722562338:=0
def tw11193124876131129374:=0
def tw5815705225304471725:=0
def tw11008766772829721444:=0
def tw14173519235159571708:=0
def tw17056430277220290771:=0
def tw10150782576668746078:=0
def tw1491443257045916887:=0
def tw16492470023303269833:=0
def tw12755199473237605522:=0
def tw15618312627567243574:=0
def tw6748862957713095448:=0
def tw15325434552787051209:=0
def tw7833011415748090432:=0
def tw16489217045865177564:=0
def tw4653236109407502716:=0
def tw14744970785796616483:=0
def tw4179323476370277321:=0
def tw13444813557953501200:=0
def tw7267550899891713953:=0
def tw11782139552488833360:=0
def tw11221532720127902586:=0
def tw11016685889334362732:=0
def tw6358271161905507278:=0
def tw15930874353707924986:=0
def tw15290806847971429552:=0
def tw9587686565876966299:=0
def tw3116392024271268308:=0
def tw17972994855165988260:=0
def tw2791562553779149795:=0
def tw6355428013271570520:=0
def tw10076377384526802485:=0
def tw5735335734899332142:=0
def tw17181533726101784348:=0
def tw6278696993105753082:=0
def tw540579854815863625:=0
def tw14262929778594624829:=0
def tw8559036260998005127:=0
def tw8141521102196609569:=0
def tw12294494765575184518:=0
def tw6384925446137386635:=0
def tw6177452679265424976:=0
def tw12316396745456653423:=0
def tw2729579706779194924:=0
def tw16740913925909664202:=0
def tw16739996053884038700:=0
def tw567465914714048367:=0
def tw10793756075713206202:=0
def tw17016598345705788023:=0
def tw6711803020953737046:=0
def tw11370630581556420925:=0
def tw8048176624602034288:=0
def tw2175670292878614146:=0
def tw11261012819546060674:=0
def tw8085202784686986998:=0
def tw12418317550859509483:=0
def tw7961462804729247037:=0
def tw5747586483076299337:=0
def tw17522018621805970563:=0
def tw1666675603864348392:=0
def tw3345855465672865556:=0
def tw7816161527329460012:=0
def tw3100696030205272867:=0
def tw8477186028217741421:=0
def tw6472764830029046188:=0
def tw11577594103677128247:=0
def tw4315792174702181531:=0
def tw6329484345740632767:=0
def tw11252607076767471921:=0
def tw6892601748192317890:=0
def tw2769856713651596177:=0
def tw15149538193268051888:=0
def tw15155825259850846468:=0
def tw18263370501551224822:=0
def tw6821888969188087545:=0
def tw4540178201232056835:=0
def tw980930868817655000:=0
def tw10456818121325268549:=0
def tw12639461391288757607:=0
def tw8549456857991373958:=0
def tw12194823368360519224:=0
def tw7961889137432653824:=0
def tw7368427684410721289:=0
def tw14533648964114228677:=0
def tw7113072485906352478:=0
def tw1469575430173361349:=0
def tw10900873840088456883:=0
def tw6626979298690955328:=0
def tw8326204278526175175:=0
def tw12532284138192419783:=0
def tw2474103234009235766:=0
def tw14198582208389795960:=0
def tw868354350341339899:=0
def tw980323413157413411:=0
def tw1817509614437336514:=0
def tw11058563439108446387:=0
def tw5600901910881983362:=0
def tw6021791235044290821:=0
def tw3262197364122272482:=0
def tw5244924470312882624:=0
def tw18441283437596996878:=0
def tw618635958251783082:=0
def tw15826051553537622940:=0
def tw6929049061932239924:=0
def tw1004428911773897155:=0
def tw16982063491327846894:=0
def tw13252673287713631621:=0
def tw13743139896260586724:=0
def tw6826204256553677725:=0
def tw1875422192044456971:=0
def tw14780792020711660722:=0
def tw4778570203412607906:=0
def tw1990739694183120157:=0
def tw8204863655674788925:=0
def tw9500198242473167941:=0
def tw1417190870234736872:=0
def tw10030184412632866876:=0
def tw14967560360798616664:=0
def tw13233902979630928859:=0
def tw943142537704591708:=0
def tw9613547285954308853:=0
def tw4478916043846163816:=0
def tw5370748748540360628:=0
def tw16814200337466245279:=0
def tw1052229074533063037:=0
def tw5945442588884169729:=0
end PySem.W.Fast
set_option maxRecDepth 100000 in
set_option maxHeartbeats 0 in
theorem PySem.Challenge.cw_whyrows_k68_trees_round_and_round_holds : PySem.Challenge.rw_whyrows_k68_trees_round_and_round.Holds := by
 w_on;o_law;k_head;(case hw=>w_witness2)
 k_fill
 refine L2.qrb (l:=PySem.Challenge.rw_whyrows_k68_trees_round_and_round) (n:=63) (k:=38) (x:="_law_script") (CX:=L2.CX0) (sp:=Wy.sp_law) rfl (by decide) rfl ⟨zr,by decide,by decide⟩ (λw h Y=>PySem.W.kIn_of Y) ?F ?S ?C
 case F=>
  intro w mg fa h KX G hmg;have T:Wy.Txt (L2.KOf KX) mg:=by
   dsimp only[L2.KOf]
   refine' Wy.qk8 KX G ?_ ?_ ?_ ?_ ?_ ?_ ?_ ?_ ?_ ?_ ?_ ?_ ?_ ?_ ?_ ?_ ?_ ?_ ?_ ?_ ?_ ?_ ?_ ?_ ?_ ?_ ?_ ?_ ?_ ?_ ?_ ?_ ?_ ?_ ?_ ?_ ?_ ?_ ?_ ?_ ?_ ?_ ?_ ?_ ?_ ?_ ?_ ?_ ?_ ?_ ?_ ?_ ?_ ?_ ?_ ?_ ?_ ?_ ?_ ?_ ?_ ?_ ?_ ?_ ?_ ?_ ?_ ?_ ?_ ?_ ?_ ?_ ?_ ?_ ?_ ?_ ?_ ?_ ?_ ?_ ?_ ?_ ?_ ?_ ?_ ?_ ?_ ?_ ?_ ?_ ?_ ?_ ?_ ?_ ?_ ?_ ?_ ?_ ?_ ?_ ?_ ?_ ?_ ?_ ?_ ?_ ?_ ?_ ?_ ?_ ?_ ?_ ?_ ?_ ?_ ?_ ?_ ?_ ?_ ?_ ?_ ?_ ?_ ?_ ?_ ?_ ?_ ?_ ?_ ?_ ?_ ?_ ?_ ?_ ?_ ?_ ?_ ?_ ?_ ?_ ?_ ?_ ?_ ?_ ?_ ?_ ?_ ?_ ?_ ?_ ?_ ?_
   all_goals first | (refine' L2.fiK ?_ ?_ ?_ ?_;all_goals first | k_is | skip) | (refine' L2.miK ?_ ?_ ?_ ?_ ?_ ?_;all_goals first | k_is | skip) | (refine' L2.ciK ?_ ?_ ?_ ?_ ?_ ?_ ?_;all_goals first | k_is | skip) | (refine' L2.aiK ?_ ?_;all_goals first | k_is | skip) | (refine' L2.xiK ?_ ?_ ?_ ?_ ?_ ?_ ?_ ?_ ?_ ?_;all_goals first | k_is | k_exc | skip) | (refine' L2.piK ?_ ?_ ?_;all_goals first | k_is | skip) | k_is | skip
  exact Wy.qxg T hmg
 case S=>exact λK H a ns hl hO hS=>⟨a,ns,rfl,hS,hl,λ_=>rfl⟩
 case C=>exact λ_ _ _ _ z=>z
